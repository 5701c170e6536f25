/- Counts in memory: the project's; what may turn. -/
import Derived.Test.YtpdkjgmldlpaaaaCtSpec
import Derived.Test.YtpdkjgmldlpaaaaMapIs
import Derived.Test.YtpdkjgmldlpaaaaCodecCounts
namespace Go.Proofs.Ytpdkjgmldlpaaaa.Cts
open Go.RowKit Go.Maps Go.ChangeMaps Go.MapKept CrcMath CodecMath Mem Crc Codec
set_option linter.unusedVariables false
set_option linter.unusedSimpArgs false

/-! ### Footprints -/
/-- From w to w' no block has turned that was there, but blocks of own; what is new in own' was not there. -/
structure Turn (w w' : World) (own own' : Nat → Prop) : Prop where
  os : w'.os = w.os
  tape : w'.tape = w.tape
  output : w'.output = w.output
  size : w.heap.size ≤ w'.heap.size
  block : ∀ i, i < w.heap.size → ¬ own i → w'.heap[i]? = w.heap[i]?
  fresh : ∀ i, own' i → own i ∨ w.heap.size ≤ i
section
variable {w w1 w2 w' : World} {own own1 own2 own' : Nat → Prop}
theorem Turn.refl (w : World) (own : Nat → Prop) : Turn w w own own := ⟨rfl, rfl, rfl, Nat.le_refl _, fun _ _ _ => rfl, fun _ h => .inl h⟩
theorem Turn.trans (h : Turn w w1 own own1) (k : Turn w1 w2 own1 own2) : Turn w w2 own own2 :=
  ⟨k.os.trans h.os, k.tape.trans h.tape, k.output.trans h.output, Nat.le_trans h.size k.size,
    fun i hi hn => (k.block i (Nat.lt_of_lt_of_le hi h.size) (fun h1 => by rcases h.fresh i h1 with h2 | h2; exact hn h2; omega)).trans (h.block i hi hn),
    fun i hi => by rcases k.fresh i hi with h1 | h1; exact h.fresh i h1; exact .inr (Nat.le_trans h.size h1)⟩
theorem Turn.of_grown {row : Option Nat} (h : w.grownBy w' row) (hr : ∀ j, row = some j → own j) : Turn w w' own own :=
  ⟨h.os, h.tape, h.output, h.size, fun i hi hn => h.block i hi (fun e => hn (hr i e.symm)), fun _ h => .inl h⟩
theorem Turn.none_ (h : w.grownBy w' none) : Turn w w' own own := .of_grown h (fun _ h => by cases h)
theorem Turn.blk {g : Nat} {t : TypeId} {cs : Array Value} (h : Turn w w' own own') (hb : Blk w g t cs) (hn : ¬ own g) : Blk w' g t cs := (h.block g hb.lt hn).trans hb
/-- Whoever owns nothing of what was there leaves all. -/
theorem grown_turn {W w w' : World} {own own' : Nat → Prop} (hg : W.grownBy w none) (ht : Turn w w' own own') (ho : ∀ i, own i → W.heap.size ≤ i) : W.grownBy w' none :=
  ⟨ht.os.trans hg.os, ht.tape.trans hg.tape, ht.output.trans hg.output, Nat.le_trans hg.size ht.size, fun i hi hn => (ht.block i (Nat.lt_of_lt_of_le hi hg.size) (fun e => by have := ho i e; omega)).trans (hg.block i hi hn)⟩
end
theorem blk_ne {w : World} {g g' : Nat} {t t' : TypeId} {cs cs' : Array Value} (h : Blk w g t cs) (h' : Blk w g' t' cs') (ht : t ≠ t') : g ≠ g' := by
  rintro rfl
  have := h.symm.trans h'
  simp at this
  exact ht this.2
theorem map_ne {w : World} {g b n : Nat} {t K : TypeId} {cs : Array Value} {P : Program} {f : Nat → Option Value} (h : Blk w g t cs) (h' : MapIs P K w b n f) : g ≠ b := by
  rintro rfl
  obtain ⟨D, ⟨es, clock, h1, _⟩, _⟩ := h'
  have := h.symm.trans h1
  simp at this

/-! ### Rows of counts -/
theorem row_cell (n : Nat) (f : Nat → Int) (p : Nat) : (i64s (row n f)).toArray[p]? = if p < n then some (.int .i64 (f p)) else none := by
  rw [List.getElem?_toArray, i64s, List.getElem?_map, row_get]
  by_cases h : p < n <;> simp [h]
theorem row_put (n : Nat) (f : Nat → Int) (p : Nat) (v : Int) : (i64s (row n f)).toArray.setIfInBounds p (.int .i64 v) = (i64s (row n (upd f p v))).toArray := by
  rw [List.setIfInBounds_toArray, ← row_set, i64s, i64s, List.map_set]
/-- Block g is a row of counts. -/
abbrev RowAt (w : World) (g n : Nat) (f : Nat → Int) : Prop := Blk w g 3 (i64s (row n f)).toArray
theorem RowAt.at_ {w : World} {g n : Nat} {f : Nat → Int} (h : RowAt w g n f) {p : Nat} (hp : p < n) : w.cell? ⟨g, p, none⟩ = some (.int .i64 (f p)) := by
  rw [Blk.cell h, row_cell, if_pos hp]
theorem RowAt.put {w : World} {g n : Nat} {f : Nat → Int} (h : RowAt w g n f) (p : Nat) (v : Int) : RowAt (w.setCell ⟨g, p, none⟩ (.int .i64 v)) g n (upd f p v) := by
  have := Blk.set_ h p (.int .i64 v)
  rwa [row_put] at this

/-! ### The map of what was there -/
section
variable {w w' : World} {b : Nat} {F : Nat → Option Int}
/-- Block b is a map of counts. -/
abbrev CMap (w : World) (b : Nat) (F : Nat → Option Int) : Prop := MapIs Try.prog 3 w b 1024 (fun k => (F k).map fun v => .int .i64 v)
theorem zeroI (w : World) : (zeroValue 3).run Try.prog w = .ok (.int .i64 0) w := by kernel_rfl
theorem int_key (k : Nat) (hk : k < 9223372036854775808) : keyOf Try.prog 3 (.int .i64 (k : Nat)) = some (keyL k) :=
  keyOf_int_mk Try.underlying3 (by simp [Lit.wf, IntKind.min, IntKind.max, IntKind.signed, IntKind.bits]; omega)
/-- 'v, ok := m[k]'. -/
theorem CMap.lookOk (h : CMap w b F) (k : Nat) (hk : k < 9223372036854775808) : (Instr.lookup 44 (.map (some b)) (.int .i64 (k : Nat)) true).run Try.prog w = .ok (.tuple #[.int .i64 ((F k).getD 0), .bool (F k).isSome]) w := by
  obtain ⟨E, g1, g2, g3⟩ := h
  replace g2 : ∀ (k : Nat) (z : DataW Value), E.atKey (keyL k) z = match (F k).map (fun v => Value.int .i64 v) with | some v => .held v | none => z := g2
  obtain ⟨v, ps, hr, hv⟩ := g1.look_ok (int_keyed Try.underlying3) Try.underlying44 (zeroI w) (zd := .held (.int .i64 0)) (zp := []) rfl (int_key k hk)
  rw [g2] at hv
  cases hF : F k with
  | none =>
    rw [hF] at hv
    simp [heldR] at hv
    have hh : Maps.has E (keyL k) = false := has_false_of_atKey (fun z => by rw [g2, hF]; rfl)
    rw [hh] at hr
    rw [hr, hv.1]; rfl
  | some u =>
    rw [hF] at hv
    simp [heldR] at hv
    have hh : Maps.has E (keyL k) = true := has_true_of_atKey (y := .held (.int .i64 u)) (fun z => by rw [g2, hF]; rfl)
    rw [hh] at hr
    rw [hr, hv.1]; rfl
theorem CMap.store (h : CMap w b F) {k : Nat} (hk : k < 1024) (v : Int) : ∃ w', (Instr.mapUpdate 44 (.map (some b)) (.int .i64 (k : Nat)) (.int .i64 v)).run Try.prog w = .ok () w' ∧ CMap w' b (fun j => if j = k then some v else F j) ∧ w.grownBy w' (some b) := by
  obtain ⟨w', hr, h3, hg⟩ := MapIs.store h (t := 44) (E := 3) Try.underlying3 Try.underlying44 k hk (by omega) (by simp [maxLen]) (.int .i64 v)
  refine ⟨w', hr, ?_, hg⟩
  have e : (fun j => if j = k then some (Value.int .i64 v) else (F j).map fun v => .int .i64 v) = fun j => (if j = k then some v else F j).map fun v => .int .i64 v := by
    funext j
    by_cases hj : j = k <;> simp [hj]
  rw [e] at h3
  exact h3
theorem CMap.drop (h : CMap w b F) (k : Nat) (hk : k < 9223372036854775808) (ty : TypeId) :
    ∃ w', (Builtin.delete_ #[44, 3] ty #[.map (some b), .int .i64 (k : Nat)]).run Try.prog w = .ok (.tuple #[]) w' ∧ CMap w' b (fun j => if j = k then none else F j) ∧ w.grownBy w' (some b) := by
  obtain ⟨w', hr, h3, hg⟩ := MapIs.drop h (t := 44) (E := 3) Try.underlying3 Try.underlying44 k hk ty
  refine ⟨w', hr, ?_, hg⟩
  have e : (fun j => if j = k then none else (F j).map fun v => Value.int .i64 v) = fun j => (if j = k then none else F j).map fun v => .int .i64 v := by
    funext j
    by_cases hj : j = k <;> simp [hj]
  rw [e] at h3
  exact h3
theorem CMap.clear (h : CMap w b F) (ty : TypeId) : ∃ w', (Builtin.clear_ #[44] ty #[.map (some b)]).run Try.prog w = .ok (.tuple #[]) w' ∧ CMap w' b (fun _ => none) ∧ w.grownBy w' (some b) :=
  MapIs.clear h (t := 44) (E := 3) Try.underlying44 ty
theorem CMap.made (w : World) : CMap (w.alloc (.map #[] 0)) w.heap.size (fun _ => none) := MapIs.made w _ _ 1024
end

/-! ### Counts -/
/-- The map tells what was there. -/
structure Tells (n : Nat) (x : Ct) (F : Nat → Option Int) : Prop where
  get : ∀ p, x.W p = (F p).getD (x.N p)
  out : ∀ p, n ≤ p → F p = none
structure CtAt (w : World) (B q rb mb n : Nat) (x : Ct) : Prop where
  hq : Blk w q 46 #[.slice (some ⟨rb, 0, none⟩) n n, .map (some mb)]
  hr : RowAt w rb n x.N
  hm : ∃ F, CMap w mb F ∧ Tells n x F
  ok : CtOk n x
  Bq : B ≤ q
  Br : B ≤ rb
  Bm : B ≤ mb
def own3 (q rb mb : Nat) : Nat → Prop := fun i => i = q ∨ i = rb ∨ i = mb
theorem cts_ne : 46 ≠ 3 := by decide
section
variable {w w' : World} {B q rb mb n : Nat} {x : Ct}
theorem CtAt.qr (h : CtAt w B q rb mb n x) : q ≠ rb := blk_ne h.hq h.hr cts_ne
theorem CtAt.qm (h : CtAt w B q rb mb n x) : q ≠ mb := by obtain ⟨F, h1, _⟩ := h.hm; exact map_ne h.hq h1
theorem CtAt.rm (h : CtAt w B q rb mb n x) : rb ≠ mb := by obtain ⟨F, h1, _⟩ := h.hm; exact map_ne h.hr h1
theorem CtAt.lt (h : CtAt w B q rb mb n x) : ∀ i, own3 q rb mb i → i < w.heap.size := by
  obtain ⟨F, h1, _⟩ := h.hm
  intro i hi
  rcases hi with rfl | rfl | rfl
  · exact h.hq.lt
  · exact Blk.lt h.hr
  · exact h1.lt
theorem CtAt.low (h : CtAt w B q rb mb n x) : ∀ i, own3 q rb mb i → B ≤ i := by
  have := h.Bq; have := h.Br; have := h.Bm
  intro i hi
  rcases hi with rfl | rfl | rfl <;> assumption
theorem CtAt.cells (h : CtAt w B q rb mb n x) : w.cell? ⟨q, 0, none⟩ = some (.slice (some ⟨rb, 0, none⟩) n n) ∧ w.cell? ⟨q, 1, none⟩ = some (.map (some mb)) := ⟨h.hq.cell 0, h.hq.cell 1⟩
theorem CtAt.far {own own' : Nat → Prop} (h : CtAt w B q rb mb n x) (hg : Turn w w' own own') (hn : ∀ i, own i → ¬ own3 q rb mb i) : CtAt w' B q rb mb n x := by
  obtain ⟨F, h1, h2⟩ := h.hm
  exact { h with hq := hg.blk h.hq (fun e => hn _ e (.inl rfl)), hr := hg.blk h.hr (fun e => hn _ e (.inr (.inl rfl))), hm := ⟨F, h1.of_block (hg.block _ h1.lt (fun e => hn _ e (.inr (.inr rfl)))), h2⟩ }
theorem CtAt.grown (h : CtAt w B q rb mb n x) (hg : w.grownBy w' none) : CtAt w' B q rb mb n x := h.far (Turn.none_ (own := fun _ => False) hg) (fun _ e => e.elim)
theorem CtAt.b64 (h : CtAt w B q rb mb n x) : n ≤ 1024 := h.ok.most
end
theorem wrap_i64n {n : Nat} (h : n < 9223372036854775808) : IntKind.i64.wrap (n : Int) = (n : Int) := IntWalk.i64_in _ (by omega)
def In64 (x : Int) : Prop := -9223372036854775808 ≤ x ∧ x ≤ 9223372036854775807
end Go.Proofs.Ytpdkjgmldlpaaaa.Cts
