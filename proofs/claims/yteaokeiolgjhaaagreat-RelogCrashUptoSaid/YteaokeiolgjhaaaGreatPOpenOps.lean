/- Steps that came in, opened: a script, a list of picks. -/
import Derived.Test.YteaokeiolgjhaaaGreatPBytes
import Derived.Test.YteaokeiolgjhaaaGreatPDiskFlush
import Derived.Deep.Fields
import Derived.ChangeArms
import Derived.ChangeSlices
import Derived.WideShapes
import Derived.OpenShut
namespace Go.Proofs.YteaokeiolgjhaaaGreat.Dsk
open Go.ChangeShapes Go.WideShapes Go.RowKit Mem Crc DiskSpec

section
variable {H : Type} {enc : TypeId × Value → H} {P : Program} {w : World} {base : Nat} {spare : Nat → Bool} {held : Bool}
/-- A struct that stands in cells: each field's own reading. -/
theorem open_struct_in {t : TypeId} {fs : Array Field} {fuel : Nat} {cs : List Value} {x : DataW H × List MemPlace} (hs : P.underlying t = some (.struct fs)) (h : DataW.trod enc P w base spare held fuel t cs = some x) :
    ∃ n : Nat, cs.length = P.cellsOf t ∧ ∀ (i o : Nat) (ft : TypeId), (fs[i]?).map (fun f => (f.offset, f.type)) = some (o, ft) → ∃ y, DataW.trod enc P w base spare held n ft ((cs.drop o).take (P.cellsOf ft)) = some y := by
  obtain ⟨xs, n, _, _, hl, hlen, hg⟩ := DataW.trod_struct hs h
  refine ⟨n, hl, fun i o ft hi' => ?_⟩
  obtain ⟨f, hi, hf'⟩ := Option.map_eq_some_iff.1 hi'
  simp only [Prod.mk.injEq] at hf'
  obtain ⟨rfl, rfl⟩ := hf'
  have hlt : i < fs.size := (Array.getElem?_eq_some_iff.1 hi).1
  refine ⟨xs[i]'(by omega), ?_⟩
  have h1 := hg i f hi
  rw [List.getElem?_eq_getElem (by omega)] at h1
  exact h1
end
/-- Whole numbers that came in. -/
def PIn (w : World) (A : Option Addr) (n : Nat) (l : List Int) : Prop :=
  l.length = n ∧ (∀ x ∈ l, -9223372036854775808 ≤ x ∧ x ≤ 9223372036854775807) ∧ (0 < n → ∃ g o, A = some ⟨g, o, none⟩ ∧ g < w.heap.size ∧ ∀ j, j < n → w.cell? ⟨g, o + j, none⟩ = some (.int .i64 (l.getD j 0)))
theorem PIn.picks {w w' : World} {A : Option Addr} {n : Nat} {l : List Int} {own : Nat → Prop} (h : PIn w A n l) (hg : Below w.heap.size w w') (ho : ∀ i, own i → w.heap.size ≤ i) : Picks w' own A n l := by
  refine ⟨h.1, h.2.1, fun hn => ?_⟩
  obtain ⟨g, o, rfl, hlt, hc⟩ := h.2.2 hn
  exact ⟨g, o, rfl, Nat.lt_of_lt_of_le hlt hg.size, fun e => by have := ho g e; omega, fun j hj => by rw [World.cell?_of_block (a := ⟨g, o + j, none⟩) (hg.block g hlt)]; exact hc j hj⟩
section
variable {H : Type} {enc : TypeId × Value → H} {w : World} {fuel : Nat} {cs : List Value} {x : DataW H × List MemPlace}
theorem ints_came (h : DataW.trod enc Tryz.prog w 0 (fun _ => true) true fuel 32 cs = some x) :
    ∃ A n c l, cs = [.slice A n c] ∧ PIn w A n l ∧ n ≤ c ∧ c ≤ maxLen := by
  rcases open_ints Tryz.underlying32 Tryz.underlying3 (by kernel_rfl) h with ⟨hcs, _⟩ | ⟨x, l, c, zs, hcs, _, hl, hm, hz, hx, hcell, hwz⟩
  · exact ⟨_, _, _, [], hcs, ⟨rfl, by simp, by omega⟩, Nat.le_refl _, by simp [maxLen]⟩
  · have hz' : zs.length = c := by simpa using hz
    refine ⟨_, _, _, zs.take l, hcs, ⟨by simp; omega, fun y hy => bounds_i64 (hwz y (List.mem_of_mem_take hy)), fun hn => ?_⟩, hl, hm⟩
    obtain ⟨g, o, sp⟩ := x
    have h0 := hcell 0 (by omega)
    have hsp : sp = none := by simpa [Addr.add] using World.cell?_spot h0
    subst hsp
    have hlt : g < w.heap.size := by have := World.block_lt_of_cell? w _ h0; simpa [Addr.add] using this
    refine ⟨g, o, rfl, hlt, fun j hj => ?_⟩
    have h1 := hcell j (by omega)
    rw [Addr.add_mid] at h1
    rw [h1]
    congr 2
    simp [List.getD_eq_getElem?_getD, hj]
theorem int_came (h : DataW.trod enc Tryz.prog w 0 (fun _ => true) true fuel 3 cs = some x) : ∃ n, cs = [.int .i64 n] ∧ -9223372036854775808 ≤ n ∧ n ≤ 9223372036854775807 := by
  obtain ⟨n, h1, _, h2⟩ := DataW.trod_int Tryz.underlying3 h
  exact ⟨n, h1, bounds_i64 h2⟩
theorem bool_came (h : DataW.trod enc Tryz.prog w 0 (fun _ => true) true fuel 4 cs = some x) : ∃ n, cs = [.bool n] := by
  obtain ⟨n, h1, _⟩ := DataW.trod_bool Tryz.underlying4 h
  exact ⟨n, h1⟩
end
/-- A step. -/
structure OpR where
  kind : Int
  at_ : Int
  count : Int
  bytes : Int
  fill : Int
  fua : Bool
  A : Option Addr
  n : Nat
  c : Nat
  picks : List Int
def OpR.cells (x : OpR) : List Value := [.int .i64 x.kind, .int .i64 x.at_, .int .i64 x.count, .int .i64 x.bytes, .int .i64 x.fill, .bool x.fua, .slice x.A x.n x.c]
structure OpR.ok (w : World) (x : OpR) : Prop where
  at_ : -9223372036854775808 ≤ x.at_ ∧ x.at_ ≤ 9223372036854775807
  count : -9223372036854775808 ≤ x.count ∧ x.count ≤ 9223372036854775807
  picks : PIn w x.A x.n x.picks
  n : x.n ≤ maxLen
section
variable {H : Type} {enc : TypeId × Value → H} {w : World} {fuel : Nat} {cs : List Value} {x : DataW H × List MemPlace}
end
/-- A script that came in. -/
def Script (w : World) (A : Option Addr) (n : Nat) (ops : List OpR) : Prop :=
  ops.length = n ∧ (∀ x ∈ ops, x.ok w) ∧ (0 < n → ∃ g o, A = some ⟨g, o, none⟩ ∧ g < w.heap.size ∧ ∀ j x, ops[j]? = some x → ∀ q u, x.cells[q]? = some u → w.cell? ⟨g, o + j * 7 + q, none⟩ = some u)
theorem choose_list {α : Type} {p : Nat → α → Prop} : ∀ n, (∀ j, j < n → ∃ x, p j x) → ∃ l : List α, l.length = n ∧ ∀ j x, l[j]? = some x → p j x
  | 0, _ => ⟨[], rfl, fun j x h => by simp at h⟩
  | n + 1, h => by
    obtain ⟨l, h1, h2⟩ := choose_list n (fun j hj => h j (by omega))
    obtain ⟨x, hx⟩ := h n (by omega)
    refine ⟨l ++ [x], by simp [h1], fun j y hy => ?_⟩
    rcases Nat.lt_or_ge j n with hj | hj
    · rw [List.getElem?_append_left (by omega)] at hy; exact h2 j y hy
    · rw [List.getElem?_append_right (by omega)] at hy
      have : j = n := by
        have := (List.getElem?_eq_some_iff.1 hy).1
        simp at this; omega
      subst this
      rw [h1] at hy
      simp at hy
      subst hy; exact hx
section
variable {H : Type} {enc : TypeId × Value → H} {W : World} {base : Nat} {v : Value} {d : DataW H} {p : List MemPlace}
set_option maxRecDepth 100000 in
set_option maxRecDepth 100000 in
theorem open_picks (o : Value.okWide Tryz.prog W .any base 32 v) (h : DataW.Trod enc Tryz.prog W 0 (fun _ => true) true 32 v d p) :
    ∃ A n c l, v = .slice A n c ∧ PIn W A n l ∧ n ≤ c ∧ c ≤ maxLen := by
  obtain ⟨A, n, c, rfl⟩ := okWide_slice Tryz.underlying32 o
  obtain ⟨fuel, hf⟩ := h
  obtain ⟨A', n', c', l, e, h1, h2, h3⟩ := ints_came hf
  simp [Value.cells] at e
  obtain ⟨rfl, rfl, rfl⟩ := e
  exact ⟨_, _, _, l, rfl, h1, h2, h3⟩
end
/-- The bulk's bound on a script. -/
theorem bulk_len {H : Type} {d0 : DataW H} {ds : List (DataW H)} {n : Nat} (hk : Rows.uptoSmall H ds = true) (hd : d0 ∈ ds) (h0 : n = 0 ∨ ∃ el sp, d0 = .slice el sp ∧ el.length = n) : n ≤ 1048576 := by
  have one : ∀ d : DataW H, 1 ≤ Rows.uptoBulk d := by
    intro d
    cases d with
    | lit l => cases l <;> simp [Rows.uptoBulk]
    | _ => simp [Rows.uptoBulk]
  have len : ∀ l : List (DataW H), l.length ≤ Rows.uptoBulkAll l := by
    intro l
    induction l with
    | nil => simp [Rows.uptoBulkAll]
    | cons x r ih => have := one x; simp only [Rows.uptoBulkAll, List.length_cons]; omega
  have mem : ∀ l : List (DataW H), d0 ∈ l → Rows.uptoBulk d0 ≤ Rows.uptoBulkAll l := by
    intro l
    induction l with
    | nil => intro h; cases h
    | cons x r ih =>
      intro h
      simp only [Rows.uptoBulkAll]
      rcases List.mem_cons.1 h with rfl | h
      · omega
      · have := ih h; omega
  have h := of_decide_eq_true hk
  have h1 := mem ds hd
  rcases h0 with rfl | ⟨el, sp, rfl, rfl⟩
  · omega
  · have := len el; have := len sp
    simp only [Rows.uptoBulk] at h1
    omega
end Go.Proofs.YteaokeiolgjhaaaGreat.Dsk
