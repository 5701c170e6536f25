/- Nodes and heads that came in, opened. No program's function is named. -/
import Derived.Test.YtkiohneggoiipaaOpen
namespace Go.Proofs.Ytkiohneggoiipaa.Codec
open Go.ChangeShapes Go.WideShapes Go.RowKit CrcMath Mem Crc

theorem open_bool_in {H : Type} {enc : TypeId × Value → H} {w : World} {fuel : Nat} {cs : List Value} {x : DataW H × List MemPlace} (h : DataW.trod enc Try.prog w 0 (fun _ => true) true fuel 4 cs = some x) : ∃ n, cs = [.bool n] := by
  obtain ⟨n, h1, _⟩ := DataW.trod_bool Try.underlying4 h
  exact ⟨n, h1⟩
set_option maxRecDepth 100000 in
/-- A node that came in. -/
theorem open_node {H : Type} {enc : TypeId × Value → H} {W : World} {base : Nat} {v : Value} {d : DataW H} {p : List MemPlace} (o : Value.okWide Try.prog W .any base 62 v) (h : DataW.Trod enc Try.prog W 0 (fun _ => true) true 62 v d p) :
    ∃ (leaf : Bool) (A A' : Option Addr) (n n' c c' : Nat) (ks vs : List Int), v = .agg #[.bool leaf, .slice A n c, .slice A' n' c'] ∧ Ints W W.heap.size A n ks ∧ Ints W W.heap.size A' n' vs ∧ n ≤ maxLen ∧ n' ≤ maxLen := by
  obtain ⟨cs, n, rfl, hl, hf⟩ := open_agg Try.underlying62 o h
  rw [show Try.prog.cellsOf 62 = 3 from by kernel_rfl] at hl
  match cs, hl with
  | [c0, c1, c2], _ =>
    have k1 : Try.prog.cellsOf 4 = 1 := by kernel_rfl
    have k2 : Try.prog.cellsOf 36 = 1 := by kernel_rfl
    obtain ⟨_, h0⟩ := hf 0 0 4 rfl
    obtain ⟨_, h1⟩ := hf 1 1 36 rfl
    obtain ⟨_, h2⟩ := hf 2 2 36 rfl
    rw [k1] at h0
    rw [k2] at h1 h2
    obtain ⟨leaf, e0⟩ := open_bool_in h0
    obtain ⟨A, n1, c1', ks, e1, hk, hn1, hm1⟩ := open_ints_in h1
    obtain ⟨A', n2, c2', vs, e2, hv, hn2, hm2⟩ := open_ints_in h2
    simp at e0 e1 e2
    subst e0 e1 e2
    exact ⟨leaf, A, A', n1, n2, c1', c2', ks, vs, rfl, hk, hv, by omega, by omega⟩
end Go.Proofs.Ytkiohneggoiipaa.Codec
