/- A node that came in, with what its rows' bulk is bounded by; what a node's type is in memory. -/
import Derived.Test.YtlbadapcaooieaaNdLives
import Derived.SizedLaws
namespace Go.Proofs.Ytlbadapcaooieaa.Node
open Go.RowKit CrcMath Mem Crc Codec NdSpec
open Go.ChangeShapes Go.WideShapes
set_option linter.unusedVariables false
set_option linter.unusedSimpArgs false

theorem open_ints_sized {H : Type} {enc : TypeId × Value → H} {w : World} {fuel : Nat} {cs : List Value} {x : DataW H × List MemPlace} (h : DataW.trod enc Try.prog w 0 (fun _ => true) true fuel 22 cs = some x)
    (hs : ∀ n ∈ x.1.weights Try.prog 22, n ≤ reachBytes) :
    ∃ A n c l, cs = [.slice A n c] ∧ Ints w w.heap.size A n l ∧ n ≤ c ∧ c ≤ maxLen ∧ n * 8 ≤ reachBytes := by
  rcases open_ints Try.underlying22 Try.underlying3 (by kernel_rfl) h with ⟨hcs, _⟩ | ⟨x', l, c, zs, hcs, _, hl, hm, hz, hx, hcell, hwz⟩
  · exact ⟨_, _, _, [], hcs, ints_none _ _ _, Nat.le_refl _, by simp [maxLen], by simp⟩
  · have hz' : zs.length = c := by simpa using hz
    have hb : c * 8 ≤ reachBytes := by
      obtain ⟨d, p⟩ := x
      simp only [Prod.mk.injEq] at hx
      obtain ⟨rfl, _⟩ := hx
      have := hs _ (by simp only [DataW.weights, Try.underlying22]; exact List.mem_cons_self)
      rw [show Try.prog.bytesOf 3 = 8 from by kernel_rfl] at this
      simp only [lits, List.length_map, List.length_take, List.length_drop] at this
      omega
    refine ⟨_, _, _, zs.take l, hcs, ⟨by simp; omega, fun y hy => bounds_i64 (hwz y (List.mem_of_mem_take hy)), fun hn => ?_⟩, hl, hm, by omega⟩
    obtain ⟨g, o, sp⟩ := x'
    have h0 := hcell 0 (by omega)
    have hsp : sp = none := by simpa [Addr.add] using World.cell?_spot h0
    subst hsp
    have hlt : g < w.heap.size := by have := World.block_lt_of_cell? w _ h0; simpa [Addr.add] using this
    refine ⟨g, o, rfl, hlt, by omega, fun j hj => ?_⟩
    have h1 := hcell j (by omega)
    have e1 : (⟨g, o, none⟩ : Addr).add j = ⟨g, o + j, none⟩ := by unfold Addr.add; split <;> simp_all
    rw [e1] at h1
    rw [h1]
    congr 2
    simp [List.getD_eq_getElem?_getD, hj]
set_option maxRecDepth 100000 in
theorem open_nd_sized {H : Type} {enc : TypeId × Value → H} {W : World} {base : Nat} {v : Value} {d : DataW H} {p : List MemPlace} (o : Value.okWide Try.prog W .any base 24 v) (h : DataW.Trod enc Try.prog W 0 (fun _ => true) true 24 v d p)
    (hs : ∀ n ∈ d.weights Try.prog 24, n ≤ reachBytes) :
    ∃ (lf : Bool) (A A' : Option Addr) (n n' c c' : Nat) (ks vs : List Int), v = .agg #[.bool lf, .slice A n c, .slice A' n' c'] ∧ NdAt W A A' n n' c c' ks vs ∧ n * 8 ≤ reachBytes ∧ n' * 8 ≤ reachBytes := by
  obtain ⟨cs, rfl, hsz⟩ := okWide_struct Try.underlying24 o
  obtain ⟨fuel, hf⟩ := h
  obtain ⟨xs, n, _, hx, _, hlen, hg⟩ := DataW.trod_struct Try.underlying24 hf
  simp only [Prod.mk.injEq] at hx
  obtain ⟨rfl, _⟩ := hx
  have hl : cs.toList.length = 3 := by
    have e : Try.prog.cellsOf 24 = 3 := by kernel_rfl
    rw [e] at hsz
    simpa using hsz
  have k1 : Try.prog.cellsOf 4 = 1 := by kernel_rfl
  have k2 : Try.prog.cellsOf 22 = 1 := by kernel_rfl
  have hlen3 : xs.length = 3 := hlen
  obtain ⟨cl⟩ := cs
  match cl, hl, xs, hlen3 with
  | [c0, c1, c2], _, [x0, x1, x2], _ =>
    have h0 := hg 0 _ rfl
    have h1 := hg 1 _ rfl
    have h2 := hg 2 _ rfl
    simp only [k1, k2, List.getElem?_cons_zero, List.getElem?_cons_succ] at h0 h1 h2
    have hw : ∀ y ∈ x1.1.weights Try.prog 22 ++ x2.1.weights Try.prog 22, y ≤ reachBytes := by
      intro y hy
      refine hs y ?_
      simp only [DataW.weights, Try.underlying24, List.map_cons, List.map_nil, DataW.weightsEach, List.mem_append, List.append_nil] at hy ⊢
      rcases hy with hy | hy
      · exact .inr (.inl hy)
      · exact .inr (.inr hy)
    obtain ⟨leaf, e0⟩ := open_bool_at (x := x0) (cs := [c0]) h0
    obtain ⟨A, n1, c1', ks, e1, hk, hn1, hm1, hb1⟩ := open_ints_sized (x := x1) (cs := [c1]) h1 (fun y hy => hw y (List.mem_append.2 (.inl hy)))
    obtain ⟨A', n2, c2', vs, e2, hv, hn2, hm2, hb2⟩ := open_ints_sized (x := x2) (cs := [c2]) h2 (fun y hy => hw y (List.mem_append.2 (.inr hy)))
    simp at e0 e1 e2
    subst e0 e1 e2
    exact ⟨leaf, A, A', n1, n2, c1', c2', ks, vs, rfl, ⟨⟨_, hk⟩, ⟨_, hv⟩, hn1, hm1, hn2, hm2⟩, hb1, hb2⟩
theorem node_info : ∃ i, Try.prog.info? 24 = some i ∧ i.zero = some (.agg #[.bool false, .slice none 0 0, .slice none 0 0]) ∧ i.size = 3 ∧ i.bytes = 56 := by
  have h : (Try.prog.info? 24).map (fun i => (i.zero, i.size, i.bytes)) = some (some (.agg #[.bool false, .slice none 0 0, .slice none 0 0]), 3, 56) := by kernel_rfl
  cases hi : Try.prog.info? 24 with
  | none => rw [hi] at h; cases h
  | some i =>
    rw [hi] at h
    simp only [Option.map_some, Option.some.injEq, Prod.mk.injEq] at h
    exact ⟨i, rfl, h.1, h.2.1, h.2.2⟩
end Go.Proofs.Ytlbadapcaooieaa.Node
