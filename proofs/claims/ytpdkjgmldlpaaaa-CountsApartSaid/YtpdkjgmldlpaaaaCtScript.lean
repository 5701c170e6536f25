/- Deeds of the counts' laws that came in, opened: of any length. Numbers compared. The project's counts beside the document's. -/
import Derived.Test.YtpdkjgmldlpaaaaCtLaw
import Derived.Deep.Fields
import Derived.ChangeArms
import Derived.ChangeSlices
import Derived.WideShapes
import Derived.OpenShut
import Derived.Deep.MidRow
namespace Go.Proofs.Ytpdkjgmldlpaaaa.Cts
open Go.ChangeShapes Go.WideShapes Go.RowKit CrcMath CodecMath Mem Crc Codec
set_option linter.unusedVariables false
set_option linter.unusedSimpArgs false

/-- A deed. -/
structure Dp where
  kind : Int
  page : Int
  by_ : Int
  A : Option Addr
  n : Nat
  c : Nat
  l : List Nat
def Dp.cells (x : Dp) : List Value := [.int .i64 x.kind, .int .i64 x.page, .int .i64 x.by_, .slice x.A x.n x.c]
structure Dp.ok (w : World) (x : Dp) : Prop where
  kind : In64 x.kind
  page : In64 x.page
  by_ : In64 x.by_
  body : Bytes w w.heap.size x.A x.n x.l
  n : x.n ≤ maxLen
theorem choose_list {α : Type} {p : Nat → α → Prop} : ∀ n, (∀ j, j < n → ∃ x, p j x) → ∃ l : List α, l.length = n ∧ ∀ j x, l[j]? = some x → p j x
  | 0, _ => ⟨[], rfl, fun j x h => by simp at h⟩
  | n + 1, h => by
    obtain ⟨l, h1, h2⟩ := choose_list n (fun j hj => h j (by omega))
    obtain ⟨x, hx⟩ := h n (by omega)
    refine ⟨l ++ [x], by simp [h1], fun j y hy => ?_⟩
    rcases Nat.lt_or_ge j n with hj | hj
    · rw [List.getElem?_append_left (by omega)] at hy; exact h2 j y hy
    · rw [List.getElem?_append_right (by omega)] at hy
      have : j = n := by
        have := (List.getElem?_eq_some_iff.1 hy).1
        simp at this; omega
      subst this
      rw [h1] at hy
      simp at hy
      subst hy
      exact hx
section
variable {H : Type} {enc : TypeId × Value → H} {w : World} {fuel : Nat} {cs : List Value} {x : DataW H × List MemPlace}
theorem open_struct_9 {P : Program} {t : TypeId} {fs : Array Field} (hs : P.underlying t = some (.struct fs)) (h : DataW.trod enc P w 0 (fun _ => true) true fuel t cs = some x) :
    ∃ (n : Nat), cs.length = P.cellsOf t ∧ ∀ (i o : Nat) (ft : TypeId), (fs[i]?).map (fun f => (f.offset, f.type)) = some (o, ft) → ∃ y, DataW.trod enc P w 0 (fun _ => true) true n ft ((cs.drop o).take (P.cellsOf ft)) = some y := by
  obtain ⟨xs, n, _, _, hl, hlen, hg⟩ := DataW.trod_struct hs h
  refine ⟨n, hl, fun i o ft hi' => ?_⟩
  obtain ⟨f, hi, hf'⟩ := Option.map_eq_some_iff.1 hi'
  simp only [Prod.mk.injEq] at hf'
  obtain ⟨rfl, rfl⟩ := hf'
  have hlt : i < fs.size := (Array.getElem?_eq_some_iff.1 hi).1
  refine ⟨xs[i]'(by omega), ?_⟩
  have h1 := hg i f hi
  rw [List.getElem?_eq_getElem (by omega)] at h1
  exact h1
theorem int_came9 (h : DataW.trod enc Try.prog w 0 (fun _ => true) true fuel 3 cs = some x) : ∃ n, cs = [.int .i64 n] ∧ In64 n := by
  obtain ⟨n, h1, _, h2⟩ := DataW.trod_int Try.underlying3 h
  exact ⟨n, h1, bounds_i64 h2⟩
set_option maxRecDepth 100000 in
theorem dp_came (h : DataW.trod enc Try.prog w 0 (fun _ => true) true fuel 33 cs = some x) : ∃ y : Dp, cs = y.cells ∧ y.ok w := by
  obtain ⟨n, hl, hf⟩ := open_struct_9 Try.underlying33 h
  rw [show Try.prog.cellsOf 33 = 4 from by kernel_rfl] at hl
  match cs, hl with
  | [c0, c1, c2, c3], _ =>
    have k1 : Try.prog.cellsOf 3 = 1 := by kernel_rfl
    have k3 : Try.prog.cellsOf 31 = 1 := by kernel_rfl
    obtain ⟨_, h0⟩ := hf 0 0 3 rfl
    obtain ⟨_, h1⟩ := hf 1 1 3 rfl
    obtain ⟨_, h2⟩ := hf 2 2 3 rfl
    obtain ⟨_, h3⟩ := hf 3 3 31 rfl
    rw [k1] at h0 h1 h2
    rw [k3] at h3
    obtain ⟨a0, e0, b0⟩ := int_came9 h0
    obtain ⟨a1, e1, b1⟩ := int_came9 h1
    obtain ⟨a2, e2, b2⟩ := int_came9 h2
    obtain ⟨A, m, c, l, e3, hb, hm, hc⟩ := open_bytes_in h3
    simp at e0 e1 e2 e3
    subst e0 e1 e2 e3
    exact ⟨⟨a0, a1, a2, A, m, c, l⟩, rfl, b0, b1, b2, hb, Nat.le_trans hm hc⟩
end
/-- A script that came in. -/
def Script9 (w : World) (A : Option Addr) (n : Nat) (ops : List Dp) : Prop :=
  ops.length = n ∧ (∀ x ∈ ops, x.ok w) ∧ (0 < n → ∃ g o, A = some ⟨g, o, none⟩ ∧ g < w.heap.size ∧ ∀ j x, ops[j]? = some x → ∀ q u, x.cells[q]? = some u → w.cell? ⟨g, o + j * 4 + q, none⟩ = some u)
section
variable {H : Type} {enc : TypeId × Value → H} {W : World} {base : Nat} {v : Value} {d : DataW H} {p : List MemPlace}
set_option maxRecDepth 100000 in
theorem open_script9 (o : Value.okWide Try.prog W .any base 22 v) (h : DataW.Trod enc Try.prog W 0 (fun _ => true) true 22 v d p) :
    ∃ A n c ops, v = .slice A n c ∧ Script9 W A n ops ∧ n ≤ 9223372036854775807 := by
  obtain ⟨A, n, c, rfl⟩ := okWide_slice Try.underlying22 o
  obtain ⟨fuel, hf⟩ := h
  rcases DataW.trod_slice Try.underlying22 hf with ⟨hcs, _⟩ | ⟨a, len, cap, elems, rest, m, _, hcs, hx, _, hl, hm, hlen, hel, _, _⟩
  · simp [Value.cells] at hcs
    obtain ⟨rfl, rfl, rfl⟩ := hcs
    exact ⟨_, _, _, [], rfl, ⟨rfl, by simp, by omega⟩, by omega⟩
  · simp [Value.cells] at hcs
    obtain ⟨rfl, rfl, rfl⟩ := hcs
    rw [show Try.prog.cellsOf 33 = 4 from by kernel_rfl] at hel
    have hne : n ≤ 9223372036854775807 := by simp only [maxLen] at hm; omega
    have each : ∀ j, j < n → ∃ y : Dp, y.ok W ∧ ∀ q u, y.cells[q]? = some u → W.cell? (a.add (j * 4 + q)) = some u := by
      intro j hj
      have h1 := hel j hj
      have hje : elems[j]? = some (elems[j]'(by omega)) := List.getElem?_eq_getElem (by omega)
      rw [hje, Option.bind_eq_some_iff] at h1
      obtain ⟨ds, hds, hy⟩ := h1
      obtain ⟨y, rfl, hok⟩ := dp_came hy
      refine ⟨y, hok, fun q u hq => ?_⟩
      have hq7 : q < 4 := (List.getElem?_eq_some_iff.1 hq).1
      have h2 := (World.cells?_some hds).2.2 q hq7
      rw [hq] at h2
      have e : (a.add (j * 4)).add q = a.add (j * 4 + q) := by
        unfold Addr.add
        split <;> split <;> (try split) <;> simp_all <;> omega
      rw [← e]; exact h2
    obtain ⟨ops, ho1, ho2⟩ := choose_list (p := fun j (y : Dp) => y.ok W ∧ ∀ q u, y.cells[q]? = some u → W.cell? (a.add (j * 4 + q)) = some u) n each
    refine ⟨_, _, _, ops, rfl, ⟨ho1, fun x hx => ?_, fun hn => ?_⟩, hne⟩
    · obtain ⟨j, hj, e⟩ := List.getElem_of_mem hx
      exact (ho2 j x (by rw [← e, List.getElem?_eq_getElem hj])).1
    · obtain ⟨g, off, sp⟩ := a
      have h0 := (ho2 0 (ops[0]'(by omega)) (List.getElem?_eq_getElem (by omega))).2 0 _ rfl
      have hsp : sp = none := by simpa [Addr.add] using World.cell?_spot h0
      subst hsp
      have hlt : g < W.heap.size := by have := World.block_lt_of_cell? W _ h0; simpa [Addr.add] using this
      refine ⟨g, off, rfl, hlt, fun j x hj q u hq => ?_⟩
      have h1 := (ho2 j x hj).2 q u hq
      rw [Addr.add_mid, ← Nat.add_assoc] at h1
      exact h1
end
/-- A deed of a script, in whatever world stands behind. -/
theorem Script9.all {W : World} {A : Option Addr} {n : Nat} {ops : List Dp} (h : Script9 W A n ops) {j : Nat} (hj : j < n) : ∃ (g o : Nat) (x : Dp), A = some ⟨g, o, none⟩ ∧ x.ok W ∧ ∀ w, W.grownBy w none → Bytes w W.heap.size x.A x.n x.l ∧
    w.cell? ⟨g, o + j * 4, none⟩ = some (.int .i64 x.kind) ∧ w.cell? ⟨g, o + j * 4 + 1, none⟩ = some (.int .i64 x.page) ∧ w.cell? ⟨g, o + j * 4 + 2, none⟩ = some (.int .i64 x.by_) ∧ w.cell? ⟨g, o + j * 4 + 3, none⟩ = some (.slice x.A x.n x.c) := by
  obtain ⟨g, o, rfl, hlt, hc⟩ := h.2.2 (by omega)
  have hx : ops[j]? = some (ops[j]'(by rw [h.1]; exact hj)) := List.getElem?_eq_getElem (by rw [h.1]; exact hj)
  have hm := h.2.1 _ (List.mem_of_getElem? hx)
  refine ⟨g, o, _, rfl, hm, fun w hg => ?_⟩
  have hcc : ∀ q u, (ops[j]'(by rw [h.1]; exact hj)).cells[q]? = some u → w.cell? ⟨g, o + j * 4 + q, none⟩ = some u := fun q u hu => by
    rw [World.cell?_of_block (a := ⟨g, o + j * 4 + q, none⟩) (hg.block g hlt (by simp))]
    exact hc j _ hx q u hu
  exact ⟨bytes_keepN hm.body hg, hcc 0 _ rfl, hcc 1 _ rfl, hcc 2 _ rfl, hcc 3 _ rfl⟩
/-! ### Numbers compared -/
set_option maxHeartbeats 1000000 in
theorem numbers_call {w : World} {b b2 : Nat} {A A2 : Option Addr} {m c c2 : Nat} {l : List Int} (h : Ints w b A m l) (h2 : Ints w b2 A2 m l) (hm : m ≤ 1048576) :
    Calls Try.prog 24 #[.slice A m c, .slice A2 m c2] w fun e w' => e = .returned (.bool true) ∧ w.grownBy w' none := by
  have HC := Lib.hid h.2.2; have HC2 := Lib.hid h2.2.2
  clear h h2
  go_enter Try.func24, Try.ntmps24
  go_wp2_with fail
  go_loopw [5] (fun i wr => ∃ j : Nat, j ≤ m ∧ i = .int .i64 j ∧ w.grownBy wr none) (fun i _ => m - (RowKit.intOf i).toNat)
  case atStart => exact ⟨0, by omega, rfl, World.grownBy.refl _ _⟩
  case round =>
    obtain ⟨j, hj, rfl, hg⟩ := hrel
    have HG := Lib.hid hg; clear hg
    by_cases hlt : j < m
    · obtain ⟨g, o, rfl, hgl, _, hc⟩ := HC.out (by omega)
      obtain ⟨g2, o2, rfl, hgl2, _, hc2⟩ := HC2.out (by omega)
      have c1 : wr.cell? ⟨g, o + j, none⟩ = some (.int .i64 (l.getD j 0)) := by rw [World.cell?_of_block (a := ⟨g, o + j, none⟩) (HG.out.block g hgl (by simp))]; exact hc j hlt
      have d1 : wr.cell? ⟨g2, o2 + j, none⟩ = some (.int .i64 (l.getD j 0)) := by rw [World.cell?_of_block (a := ⟨g2, o2 + j, none⟩) (HG.out.block g2 hgl2 (by simp))]; exact hc2 j hlt
      clear hc hc2
      generalize l.getD j 0 = u at *
      have hbb : (u != u) = false := by simp
      go_wp2_with fail
      go_region
      go_wp2_with fail
      go_roundw
      case rel => exact ⟨j + 1, by omega, by go_num, HG.out.trans (grown_drew _ none)⟩
      case measure => simp [RowKit.intOf]; omega
    · have hjm : j = m := by omega
      subst hjm
      go_wp2_with fail
      go_ret
      exact ⟨rfl, HG.out⟩
/-- Two rows answered one behind the other, compared. -/
theorem numbers_new {w0 w1 w2 : World} {va vb : Value} {l : List Int} (ha : Own w1 w0.heap.size 3 1 va l.length (i64s l)) (hb : Own w2 w1.heap.size 3 1 vb l.length (i64s l)) (hg2 : w1.grownBy w2 none) (hr : ∀ y ∈ l, -9223372036854775808 ≤ y ∧ y ≤ 9223372036854775807) (hl : l.length ≤ 1048576) :
    Calls Try.prog 24 #[va, vb] w2 fun e w' => e = .returned (.bool true) ∧ w2.grownBy w' none := by
  obtain ⟨A, c, rfl, hi, _, _⟩ := own_ints (ha.keep hg2 (by simp)) hr
  obtain ⟨A2, c2, rfl, hi2, _, _⟩ := own_ints hb hr
  exact numbers_call hi hi2 hl
section
variable {W w w' : World} {q r n : Nat} {x y : Ct} {own own2 : Nat → Prop}
/-- The project's beside the document's. -/
structure Both (W w : World) (q r n : Nat) (x y : Ct) (own own2 : Nat → Prop) : Prop where
  a : One W w q n x own
  b : Doc W w r n y own2
  ne : ∀ i, own i → ¬ own2 i
  gr : W.grownBy w none
theorem Both.ofA {x' : Ct} (h : Both W w q r n x y own own2) (h1 : One W w' q n x' own) (ht : Turn w w' own own) : Both W w' q r n x' y own own2 :=
  ⟨h1, h.b.far ht h.ne, h.ne, grown_turn h.gr ht h.a.low⟩
theorem Both.ofB {y' : Ct} (h : Both W w q r n x y own own2) (h1 : Doc W w' r n y' own2) (ht : Turn w w' own2 own2) : Both W w' q r n x y' own own2 :=
  ⟨h.a.far ht (fun i hi he => h.ne i he hi), h1, h.ne, grown_turn h.gr ht h.b.low⟩
theorem Both.grown (h : Both W w q r n x y own own2) (hg : w.grownBy w' none) : Both W w' q r n x y own own2 :=
  ⟨h.a.grown hg, h.b.grown hg, h.ne, grown_trans_none h.gr hg⟩
theorem Both.new {w1 : World} (h1 : One W w1 q n x own) (hg1 : W.grownBy w1 none) (h2 : Doc W w r n y own2) (hg2 : w1.grownBy w none) (hl : ∀ i, own2 i → w1.heap.size ≤ i) : Both W w q r n x y own own2 :=
  ⟨h1.grown hg2, h2, fun i hi he => by have := h1.lt i hi; have := hl i he; omega, grown_trans_none hg1 hg2⟩
theorem Both.drew (h : Both W w q r n x y own own2) : Both W w.drew q r n x y own own2 := h.grown (grown_drew w none)
end
end Go.Proofs.Ytpdkjgmldlpaaaa.Cts
