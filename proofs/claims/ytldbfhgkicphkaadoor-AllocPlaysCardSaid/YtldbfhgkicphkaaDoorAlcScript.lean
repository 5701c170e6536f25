/- Scripts of the alloc's laws that came in, opened: of any length. The library's table, as the row lists it. -/
import Derived.Test.YtldbfhgkicphkaaDoorAlcLaw
import Derived.Test.YtldbfhgkicphkaaDoorRows
import Derived.Deep.Fields
import Derived.ChangeArms
import Derived.ChangeSlices
import Derived.WideShapes
import Derived.OpenShut
import Derived.Lib.LaidTab
import Derived.Deep.MidRow
namespace Go.Proofs.YtldbfhgkicphkaaDoor.Alc
open Go.ChangeShapes Go.WideShapes Go.RowKit Mem AlcBits
set_option linter.unusedVariables false

/-- A step. -/
structure O8 where
  kind : Int
  page : Int
def O8.cells (x : O8) : List Value := [.int .i64 x.kind, .int .i64 x.page]
theorem choose_list {α : Type} {p : Nat → α → Prop} : ∀ n, (∀ j, j < n → ∃ x, p j x) → ∃ l : List α, l.length = n ∧ ∀ j x, l[j]? = some x → p j x
  | 0, _ => ⟨[], rfl, fun j x h => by simp at h⟩
  | n + 1, h => by
    obtain ⟨l, h1, h2⟩ := choose_list n (fun j hj => h j (by omega))
    obtain ⟨x, hx⟩ := h n (by omega)
    refine ⟨l ++ [x], by simp [h1], fun j y hy => ?_⟩
    rcases Nat.lt_or_ge j n with hj | hj
    · rw [List.getElem?_append_left (by omega)] at hy; exact h2 j y hy
    · rw [List.getElem?_append_right (by omega)] at hy
      have : j = n := by
        have := (List.getElem?_eq_some_iff.1 hy).1
        simp at this; omega
      subst this
      rw [h1] at hy
      simp at hy
      subst hy
      exact hx
section
variable {H : Type} {enc : TypeId × Value → H} {w : World} {fuel : Nat} {cs : List Value} {x : DataW H × List MemPlace}
theorem open_struct_8 {P : Program} {t : TypeId} {fs : Array Field} (hs : P.underlying t = some (.struct fs)) (h : DataW.trod enc P w 0 (fun _ => true) true fuel t cs = some x) :
    ∃ (n : Nat), cs.length = P.cellsOf t ∧ ∀ (i o : Nat) (ft : TypeId), (fs[i]?).map (fun f => (f.offset, f.type)) = some (o, ft) → ∃ y, DataW.trod enc P w 0 (fun _ => true) true n ft ((cs.drop o).take (P.cellsOf ft)) = some y := by
  obtain ⟨xs, n, _, _, hl, hlen, hg⟩ := DataW.trod_struct hs h
  refine ⟨n, hl, fun i o ft hi' => ?_⟩
  obtain ⟨f, hi, hf'⟩ := Option.map_eq_some_iff.1 hi'
  simp only [Prod.mk.injEq] at hf'
  obtain ⟨rfl, rfl⟩ := hf'
  have hlt : i < fs.size := (Array.getElem?_eq_some_iff.1 hi).1
  refine ⟨xs[i]'(by omega), ?_⟩
  have h1 := hg i f hi
  rw [List.getElem?_eq_getElem (by omega)] at h1
  exact h1
theorem int_came8 (h : DataW.trod enc Tryd.prog w 0 (fun _ => true) true fuel 3 cs = some x) : ∃ n, cs = [.int .i64 n] ∧ In64 n := by
  obtain ⟨n, h1, _, h2⟩ := DataW.trod_int Tryd.underlying3 h
  exact ⟨n, h1, bounds_i64 h2⟩
set_option maxRecDepth 100000 in
theorem o8_came (h : DataW.trod enc Tryd.prog w 0 (fun _ => true) true fuel 29 cs = some x) : ∃ y : O8, cs = y.cells ∧ In64 y.kind ∧ In64 y.page := by
  obtain ⟨n, hl, hf⟩ := open_struct_8 Tryd.underlying29 h
  rw [show Tryd.prog.cellsOf 29 = 2 from by kernel_rfl] at hl
  match cs, hl with
  | [c0, c1], _ =>
    have k1 : Tryd.prog.cellsOf 3 = 1 := by kernel_rfl
    obtain ⟨_, h0⟩ := hf 0 0 3 rfl
    obtain ⟨_, h1⟩ := hf 1 1 3 rfl
    rw [k1] at h0 h1
    obtain ⟨a0, e0, b0⟩ := int_came8 h0
    obtain ⟨a1, e1, b1⟩ := int_came8 h1
    simp at e0 e1
    subst e0 e1
    exact ⟨⟨a0, a1⟩, rfl, b0, b1⟩
end
/-- A script that came in. -/
def Script8 (w : World) (A : Option Addr) (n : Nat) (ops : List O8) : Prop :=
  ops.length = n ∧ (∀ x ∈ ops, In64 x.kind ∧ In64 x.page) ∧ (0 < n → ∃ g o, A = some ⟨g, o, none⟩ ∧ g < w.heap.size ∧ ∀ j x, ops[j]? = some x → ∀ q u, x.cells[q]? = some u → w.cell? ⟨g, o + j * 2 + q, none⟩ = some u)
section
variable {H : Type} {enc : TypeId × Value → H} {W : World} {base : Nat} {v : Value} {d : DataW H} {p : List MemPlace}
set_option maxRecDepth 100000 in
theorem open_script8 (o : Value.okWide Tryd.prog W .any base 22 v) (h : DataW.Trod enc Tryd.prog W 0 (fun _ => true) true 22 v d p) :
    ∃ A n c ops, v = .slice A n c ∧ Script8 W A n ops ∧ n ≤ 9223372036854775807 := by
  obtain ⟨A, n, c, rfl⟩ := okWide_slice Tryd.underlying22 o
  obtain ⟨fuel, hf⟩ := h
  rcases DataW.trod_slice Tryd.underlying22 hf with ⟨hcs, _⟩ | ⟨a, len, cap, elems, rest, m, _, hcs, hx, _, hl, hm, hlen, hel, _, _⟩
  · simp [Value.cells] at hcs
    obtain ⟨rfl, rfl, rfl⟩ := hcs
    exact ⟨_, _, _, [], rfl, ⟨rfl, by simp, by omega⟩, by omega⟩
  · simp [Value.cells] at hcs
    obtain ⟨rfl, rfl, rfl⟩ := hcs
    rw [show Tryd.prog.cellsOf 29 = 2 from by kernel_rfl] at hel
    have hne : n ≤ 9223372036854775807 := by simp only [maxLen] at hm; omega
    have each : ∀ j, j < n → ∃ y : O8, (In64 y.kind ∧ In64 y.page) ∧ ∀ q u, y.cells[q]? = some u → W.cell? (a.add (j * 2 + q)) = some u := by
      intro j hj
      have h1 := hel j hj
      have hje : elems[j]? = some (elems[j]'(by omega)) := List.getElem?_eq_getElem (by omega)
      rw [hje, Option.bind_eq_some_iff] at h1
      obtain ⟨ds, hds, hy⟩ := h1
      obtain ⟨y, rfl, hok⟩ := o8_came hy
      refine ⟨y, hok, fun q u hq => ?_⟩
      have hq7 : q < 2 := (List.getElem?_eq_some_iff.1 hq).1
      have h2 := (World.cells?_some hds).2.2 q hq7
      rw [hq] at h2
      have e : (a.add (j * 2)).add q = a.add (j * 2 + q) := by
        unfold Addr.add
        split <;> split <;> (try split) <;> simp_all <;> omega
      rw [← e]; exact h2
    obtain ⟨ops, ho1, ho2⟩ := choose_list (p := fun j (y : O8) => (In64 y.kind ∧ In64 y.page) ∧ ∀ q u, y.cells[q]? = some u → W.cell? (a.add (j * 2 + q)) = some u) n each
    refine ⟨_, _, _, ops, rfl, ⟨ho1, fun x hx => ?_, fun hn => ?_⟩, hne⟩
    · obtain ⟨j, hj, e⟩ := List.getElem_of_mem hx
      exact (ho2 j x (by rw [← e, List.getElem?_eq_getElem hj])).1
    · obtain ⟨g, off, sp⟩ := a
      have h0 := (ho2 0 (ops[0]'(by omega)) (List.getElem?_eq_getElem (by omega))).2 0 _ rfl
      have hsp : sp = none := by simpa [Addr.add] using World.cell?_spot h0
      subst hsp
      have hlt : g < W.heap.size := by have := World.block_lt_of_cell? W _ h0; simpa [Addr.add] using this
      refine ⟨g, off, rfl, hlt, fun j x hj q u hq => ?_⟩
      have h1 := (ho2 j x hj).2 q u hq
      rw [Addr.add_mid, ← Nat.add_assoc] at h1
      exact h1
end
/-- A step of a script, as the law finds it. -/
theorem Script8.at_ {W w : World} {A : Option Addr} {n : Nat} {ops : List O8} (h : Script8 W A n ops) (hg : W.grownBy w none) {j : Nat} (hj : j < n) : ∃ g o x, A = some ⟨g, o, none⟩ ∧ ops[j]? = some x ∧ (In64 x.kind ∧ In64 x.page) ∧
    w.cell? ⟨g, o + j * 2, none⟩ = some (.int .i64 x.kind) ∧ w.cell? ⟨g, o + j * 2 + 1, none⟩ = some (.int .i64 x.page) := by
  obtain ⟨g, o, rfl, hlt, hc⟩ := h.2.2 (by omega)
  have hx : ops[j]? = some (ops[j]'(by rw [h.1]; exact hj)) := List.getElem?_eq_getElem (by rw [h.1]; exact hj)
  have hm := h.2.1 _ (List.mem_of_getElem? hx)
  have hcc : ∀ q u, (ops[j]'(by rw [h.1]; exact hj)).cells[q]? = some u → w.cell? ⟨g, o + j * 2 + q, none⟩ = some u := fun q u hu => by
    rw [World.cell?_of_block (a := ⟨g, o + j * 2 + q, none⟩) (hg.block g hlt (by simp))]
    exact hc j _ hx q u hu
  exact ⟨g, o, _, rfl, hx, hm, hcc 0 _ rfl, hcc 1 _ rfl⟩
/-! ### The table -/
theorem gTab : Tryd.prog.globalNamed "math/bits.deBruijn64tab" = some 0 := by kernel_rfl
theorem gTabType : (Tryd.prog.globals[0]?).map (·.type) = some 60 := by kernel_rfl
theorem cellsTab : Tryd.prog.cellsOf 60 = 64 := by kernel_rfl
theorem cellsOne : Tryd.prog.cellsOf 5 = 1 := by kernel_rfl
theorem tab_of {W : World} (h : laidMetH Tryd.prog [("math/bits.deBruijn64tab", Rows.laid_math_bits_deBruijn64tab)] W) : Tab W := by
  have ht : Lib.TabIs Tryd.prog W "math/bits.deBruijn64tab" .u8 (Lib.deBruijn64tab.map Int.ofNat) :=
    Lib.tabIs_of_head (rest := []) gTab gTabType Tryd.underlying60 Tryd.underlying5 cellsOne cellsTab h
  intro j hj
  have hl : Lib.deBruijn64tab.length = 64 := by decide
  have h1 := ht.cell gTab j (by rw [List.length_map, hl]; exact hj)
  rw [h1]
  congr 2
  simp [List.getD_eq_getElem?_getD, hl, hj]
end Go.Proofs.YtldbfhgkicphkaaDoor.Alc
