/- A map from whole numbers to values of one cell, in a block: told by a function of the key. No program's function is named. -/
import Derived.Test.YtpdkjgmldlpaaaaMem
import Derived.Maps.OwnSet
import Derived.Lib.SlKeysI
import Derived.WalkKit
namespace Go.Proofs.Ytpdkjgmldlpaaaa.Mem
open Go.RowKit Go.Maps Go.ChangeMaps Go.MapKept

/-- An element's value is told as it is. -/
def heldR (v : Value) : Option (DataW Value × List MemPlace) := some (.held v, [])
/-- Key k. -/
abbrev keyL (k : Nat) : Lit := .int .i64 (k : Nat)
def entriesOf : DataW Value → List (Lit × DataW Value)
  | .map es => es
  | _ => []
/-- Block b is a map with keys below n: at key k there is f k, if anything. -/
def MapIs (P : Program) (K : TypeId) (w : World) (b n : Nat) (f : Nat → Option Value) : Prop :=
  ∃ D : DataW Value, w.ownsMap P K heldR b (Maps.size D) D ∧ (∀ k z, D.atKey (keyL k) z = match f k with | some v => .held v | none => z) ∧ (∀ p ∈ entriesOf D, ∃ k, k < n ∧ p.1 = keyL k)

section
variable {P : Program} {K : TypeId} {w w' : World} {b n : Nat} {f : Nat → Option Value}

theorem owns_tight {D : DataW Value} {m : Nat} (h : w.ownsMap P K heldR b m D) : w.ownsMap P K heldR b (Maps.size D) D := by
  obtain ⟨es, clock, hb, F, hs, rfl⟩ := h
  exact ⟨es, clock, hb, F, by simp [Maps.size, length_sorted], rfl⟩
theorem keyL_inj {a c : Nat} (h : keyL a = keyL c) : a = c := by
  simp only [keyL, Lit.int.injEq, true_and] at h
  omega
theorem keyL_ne {a c : Nat} (h : a ≠ c) : keyL a ≠ keyL c := fun e => h (keyL_inj e)
theorem keyL_is (k : Nat) : WideAt.IsKeyLit (keyL k) := trivial

theorem MapIs.lt (h : MapIs P K w b n f) : b < w.heap.size := let ⟨_, h, _⟩ := h; h.lt
theorem MapIs.of_block (h : MapIs P K w b n f) (hb : w'.heap[b]? = w.heap[b]?) : MapIs P K w' b n f := by
  obtain ⟨D, ⟨es, clock, h1, h2⟩, h3⟩ := h
  exact ⟨D, ⟨es, clock, hb.trans h1, h2⟩, h3⟩
theorem MapIs.made (w : World) (P : Program) (K : TypeId) (n : Nat) : MapIs P K (w.alloc (.map #[] 0)) w.heap.size n (fun _ => none) :=
  ⟨.map [], World.ownsMap_made w P K heldR, fun _ _ => rfl, fun p hp => by cases hp⟩

/-- The keys that stand in the map. -/
theorem MapIs.keys_perm {D : DataW Value} (ht : Tidy D) (ha : ∀ k z, D.atKey (keyL k) z = match f k with | some v => .held v | none => z) (he : ∀ p ∈ entriesOf D, ∃ k, k < n ∧ p.1 = keyL k) :
    (intKeys D).Perm (((List.range n).filter fun k => (f k).isSome).map fun k => ((k : Nat) : Int)) := by
  obtain ⟨es, rfl, hp⟩ := ht
  have he' : ∀ p ∈ es, ∃ k, k < n ∧ p.1 = keyL k := he
  have hnd : (intKeys (.map es : DataW Value)).Nodup := by
    show (es.map fun p => intOf p.1).Nodup
    rw [List.Nodup, List.pairwise_map]
    refine List.Pairwise.imp_of_mem ?_ hp
    intro p q hp1 hq1 hne e
    obtain ⟨k, _, h1⟩ := he' p hp1
    obtain ⟨j, _, h2⟩ := he' q hq1
    rw [h1, h2] at e hne
    simp only [intOf] at e
    exact hne (by rw [show k = j by omega])
  have hnd2 : (((List.range n).filter fun k => (f k).isSome).map fun k => ((k : Nat) : Int)).Nodup := by
    rw [List.Nodup, List.pairwise_map]
    exact (List.Pairwise.filter _ List.nodup_range).imp (fun h e => h (by omega))
  refine (List.perm_ext_iff_of_nodup hnd hnd2).2 fun z => ?_
  constructor
  · intro hz
    obtain ⟨p, hp1, rfl⟩ := List.mem_map.1 (show z ∈ es.map fun p => intOf p.1 from hz)
    obtain ⟨k, hk, h1⟩ := he' p hp1
    refine List.mem_map.2 ⟨k, List.mem_filter.2 ⟨by simpa using hk, ?_⟩, by rw [h1]; rfl⟩
    cases hf : f k with
    | some v => rfl
    | none =>
      have hh : has (.map es : DataW Value) (keyL k) = false := has_false_of_atKey (fun z => by rw [ha, hf])
      have := List.any_eq_false.1 hh p hp1
      rw [h1, WideAt.sameKey_self (keyL_is k)] at this
      simp at this
  · intro hz
    obtain ⟨k, hk, rfl⟩ := List.mem_map.1 hz
    obtain ⟨hkn, hks⟩ := List.mem_filter.1 hk
    obtain ⟨v, hv⟩ := Option.isSome_iff_exists.1 hks
    have hh : has (.map es : DataW Value) (keyL k) = true := has_true_of_atKey (y := .held v) (fun z => by rw [ha, hv])
    obtain ⟨p, hp1, hp2⟩ := List.any_eq_true.1 hh
    have e := WideAt.sameKey_eq hp2
    exact List.mem_map.2 ⟨p, hp1, by rw [e]; rfl⟩

theorem size_keys {D : DataW Value} : (intKeys D).length = Maps.size D := by
  cases D <;> simp [intKeys, Maps.size]

theorem MapIs.size_le {D : DataW Value} (ht : Tidy D) (ha : ∀ k z, D.atKey (keyL k) z = match f k with | some v => .held v | none => z) (he : ∀ p ∈ entriesOf D, ∃ k, k < n ∧ p.1 = keyL k) : Maps.size D ≤ n := by
  rw [← size_keys, (MapIs.keys_perm ht ha he).length_eq, List.length_map]
  exact Nat.le_trans (List.length_filter_le _ _) (by simp)

variable {t E : TypeId}

/-- 'm[k]'. -/
theorem MapIs.look (h : MapIs P K w b n f) (hK : P.underlying K = some (.int .i64)) (ht : P.underlying t = some (.map K E)) {z : Value} (hz : (zeroValue E).run P w = .ok z w) (k : Nat) (hk : k < 9223372036854775808) :
    (Instr.lookup t (.map (some b)) (.int .i64 (k : Nat)) false).run P w = .ok ((f k).getD z) w := by
  obtain ⟨D, hown, ha, he⟩ := h
  have hkey : keyOf P K (.int .i64 (k : Nat)) = some (keyL k) := keyOf_int_mk hK (by simp [Lit.wf, IntKind.min, IntKind.max, IntKind.signed, IntKind.bits]; omega)
  obtain ⟨v, ps, hrun, hv⟩ := hown.lookup (int_keyed hK) ht hz (zd := .held z) (zp := []) rfl hkey
  rw [ha] at hv
  rw [hrun]
  cases hf : f k <;> simp [hf, heldR] at hv <;> simp [hv]

/-- 'm[k] = v'. -/
theorem MapIs.store (h : MapIs P K w b n f) (hK : P.underlying K = some (.int .i64)) (ht : P.underlying t = some (.map K E)) (k : Nat) (hk : k < n) (hn : n < 9223372036854775807) (hn2 : n < maxLen) (v : Value) :
    ∃ w', (Instr.mapUpdate t (.map (some b)) (.int .i64 (k : Nat)) v).run P w = .ok () w' ∧ MapIs P K w' b n (fun j => if j = k then some v else f j) ∧ w.grownBy w' (some b) := by
  obtain ⟨D, hown, ha, he⟩ := h
  have hkey : keyOf P K (.int .i64 (k : Nat)) = some (keyL k) := keyOf_int_mk hK (by simp [Lit.wf, IntKind.min, IntKind.max, IntKind.signed, IntKind.bits]; omega)
  have htd := hown.tidy (int_keyed hK)
  have hsz := MapIs.size_le htd ha he
  obtain ⟨w', hrun, h1, h2⟩ := hown.update (int_keyed hK) ht (by omega) (d := .held v) (ps := []) hkey (show heldR v = _ from rfl)
  refine ⟨w', hrun, ⟨_, owns_tight h1, fun j z => ?_, fun p hp => ?_⟩, h2⟩
  · by_cases e : j = k
    · subst e
      rw [atKey_put_same htd.isMap (keyL_is j)]
      simp
    · rw [atKey_put_other (keyL_ne e), ha]
      simp [e]
  · obtain ⟨es, rfl, _⟩ := htd
    have hp' : p ∈ DataW.insert (keyL k, .held v) (es.filter fun p => !p.1.sameKey (keyL k)) := hp
    rcases mem_insert_iff.1 hp' with rfl | hp'
    · exact ⟨k, hk, rfl⟩
    · exact he p (List.mem_filter.1 hp').1

/-- 'delete(m, k)'. -/
theorem MapIs.drop (h : MapIs P K w b n f) (hK : P.underlying K = some (.int .i64)) (ht : P.underlying t = some (.map K E)) (k : Nat) (hk : k < 9223372036854775808) (ty : TypeId) :
    ∃ w', (Builtin.delete_ #[t, K] ty #[.map (some b), .int .i64 (k : Nat)]).run P w = .ok (.tuple #[]) w' ∧ MapIs P K w' b n (fun j => if j = k then none else f j) ∧ w.grownBy w' (some b) := by
  obtain ⟨D, hown, ha, he⟩ := h
  have hkey : keyOf P K (.int .i64 (k : Nat)) = some (keyL k) := keyOf_int_mk hK (by simp [Lit.wf, IntKind.min, IntKind.max, IntKind.signed, IntKind.bits]; omega)
  have htd := hown.tidy (int_keyed hK)
  obtain ⟨w', hrun, h1, h2⟩ := hown.drop (int_keyed hK) ht hkey ty
  refine ⟨w', hrun, ⟨_, owns_tight h1, fun j z => ?_, fun p hp => ?_⟩, h2.grown⟩
  · by_cases e : j = k
    · subst e
      rw [atKey_del_same]
      simp
    · rw [atKey_del_other (keyL_ne e), ha]
      simp [e]
  · obtain ⟨es, rfl, _⟩ := htd
    have hp' : p ∈ es.filter fun p => !p.1.sameKey (keyL k) := hp
    exact he p (List.mem_filter.1 hp').1

/-- 'clear(m)'. -/
theorem MapIs.clear (h : MapIs P K w b n f) (ht : P.underlying t = some (.map K E)) (ty : TypeId) :
    ∃ w', (Builtin.clear_ #[t] ty #[.map (some b)]).run P w = .ok (.tuple #[]) w' ∧ MapIs P K w' b n (fun _ => none) ∧ w.grownBy w' (some b) := by
  obtain ⟨D, ⟨es, clock, hb, F, _⟩, ha, he⟩ := h
  refine ⟨setBlock w b (.map #[] clock), ?_, ⟨.map [], ⟨#[], clock, heap_setBlock_same hb _, ⟨by simp, stamped_empty clock, by simp⟩, Nat.le_refl _, rfl⟩, fun _ _ => rfl, fun p hp => by cases hp⟩,
    ⟨rfl, rfl, rfl, by simp [setBlock], fun i _ hi => heap_setBlock_other hb _ (fun e => hi (by rw [e]))⟩⟩
  simp [Builtin.clear_, run_underlying ht, MapKept.run_getObj_map hb, MapKept.run_setObj_map _ hb, Result.andThen, setBlock]
end
end Go.Proofs.Ytpdkjgmldlpaaaa.Mem
