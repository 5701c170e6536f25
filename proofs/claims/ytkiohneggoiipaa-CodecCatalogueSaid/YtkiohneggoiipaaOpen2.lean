/- Nodes and heads that came in, opened. No program's function is named. -/
import Derived.Test.YtkiohneggoiipaaOpen
namespace Go.Proofs.Ytkiohneggoiipaa.Codec
open Go.ChangeShapes Go.WideShapes Go.RowKit CrcMath Mem Crc

theorem open_bool_in {H : Type} {enc : TypeId × Value → H} {w : World} {fuel : Nat} {cs : List Value} {x : DataW H × List MemPlace} (h : DataW.trod enc Try.prog w 0 (fun _ => true) true fuel 4 cs = some x) : ∃ n, cs = [.bool n] := by
  obtain ⟨n, h1, _⟩ := DataW.trod_bool Try.underlying4 h
  exact ⟨n, h1⟩
set_option maxRecDepth 100000 in
/-- A node that came in. -/
theorem open_node {H : Type} {enc : TypeId × Value → H} {W : World} {base : Nat} {v : Value} {d : DataW H} {p : List MemPlace} (o : Value.okWide Try.prog W .any base 62 v) (h : DataW.Trod enc Try.prog W 0 (fun _ => true) true 62 v d p) :
    ∃ (leaf : Bool) (A A' : Option Addr) (n n' c c' : Nat) (ks vs : List Int), v = .agg #[.bool leaf, .slice A n c, .slice A' n' c'] ∧ Ints W W.heap.size A n ks ∧ Ints W W.heap.size A' n' vs ∧ n ≤ maxLen ∧ n' ≤ maxLen := by
  obtain ⟨cs, n, rfl, hl, hf⟩ := open_agg Try.underlying62 o h
  rw [show Try.prog.cellsOf 62 = 3 from by kernel_rfl] at hl
  match cs, hl with
  | [c0, c1, c2], _ =>
    have k1 : Try.prog.cellsOf 4 = 1 := by kernel_rfl
    have k2 : Try.prog.cellsOf 36 = 1 := by kernel_rfl
    obtain ⟨_, h0⟩ := hf 0 0 4 rfl
    obtain ⟨_, h1⟩ := hf 1 1 36 rfl
    obtain ⟨_, h2⟩ := hf 2 2 36 rfl
    rw [k1] at h0
    rw [k2] at h1 h2
    obtain ⟨leaf, e0⟩ := open_bool_in h0
    obtain ⟨A, n1, c1', ks, e1, hk, hn1, hm1⟩ := open_ints_in h1
    obtain ⟨A', n2, c2', vs, e2, hv, hn2, hm2⟩ := open_ints_in h2
    simp at e0 e1 e2
    subst e0 e1 e2
    exact ⟨leaf, A, A', n1, n2, c1', c2', ks, vs, rfl, hk, hv, by omega, by omega⟩
theorem open_u32_in {H : Type} {enc : TypeId × Value → H} {w : World} {fuel : Nat} {cs : List Value} {x : DataW H × List MemPlace} (h : DataW.trod enc Try.prog w 0 (fun _ => true) true fuel 37 cs = some x) : ∃ n : Nat, cs = [.int .u32 (n : Nat)] ∧ n < 4294967296 := by
  obtain ⟨n, h1, _, h2⟩ := DataW.trod_int Try.underlying37 h
  have hb : 0 ≤ n ∧ n ≤ 4294967295 := by simpa [Lit.wf, IntKind.min, IntKind.max, IntKind.signed, IntKind.bits] using h2
  obtain ⟨m, rfl⟩ := Int.eq_ofNat_of_zero_le hb.1
  exact ⟨m, h1, by omega⟩
set_option maxRecDepth 100000 in
/-- A head that came in. -/
theorem open_head {H : Type} {enc : TypeId × Value → H} {W : World} {base : Nat} {v : Value} {d : DataW H} {p : List MemPlace} (o : Value.okWide Try.prog W .any base 39 v) (h : DataW.Trod enc Try.prog W 0 (fun _ => true) true 39 v d p) :
    ∃ (epoch seq : Int) (A : Option Addr) (n c : Nat) (pages : List Int) (sum : Nat), v = .agg #[.int .i64 epoch, .int .i64 seq, .slice A n c, .int .u32 (sum : Nat)] ∧ Ints W W.heap.size A n pages ∧ n ≤ maxLen ∧ sum < 4294967296 := by
  obtain ⟨cs, n, rfl, hl, hf⟩ := open_agg Try.underlying39 o h
  rw [show Try.prog.cellsOf 39 = 4 from by kernel_rfl] at hl
  match cs, hl with
  | [c0, c1, c2, c3], _ =>
    have k1 : Try.prog.cellsOf 3 = 1 := by kernel_rfl
    have k2 : Try.prog.cellsOf 36 = 1 := by kernel_rfl
    have k3 : Try.prog.cellsOf 37 = 1 := by kernel_rfl
    obtain ⟨_, h0⟩ := hf 0 0 3 rfl
    obtain ⟨_, h1⟩ := hf 1 1 3 rfl
    obtain ⟨_, h2⟩ := hf 2 2 36 rfl
    obtain ⟨_, h3⟩ := hf 3 3 37 rfl
    rw [k1] at h0 h1
    rw [k2] at h2
    rw [k3] at h3
    obtain ⟨a0, e0, _⟩ := open_int_in h0
    obtain ⟨a1, e1, _⟩ := open_int_in h1
    obtain ⟨A, n2, c2', pages, e2, hp, hn2, hm2⟩ := open_ints_in h2
    obtain ⟨sum, e3, hs⟩ := open_u32_in h3
    simp at e0 e1 e2 e3
    subst e0 e1 e2 e3
    exact ⟨a0, a1, A, n2, c2', pages, sum, rfl, hp, by omega, hs⟩
end Go.Proofs.Ytkiohneggoiipaa.Codec
