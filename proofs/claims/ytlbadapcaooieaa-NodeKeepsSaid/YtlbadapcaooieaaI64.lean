/- Whole numbers as cells; a row of the call's own read as numbers. No program's function is named. -/
import Derived.Test.YtlbadapcaooieaaOwn
import Derived.Test.YtlbadapcaooieaaOpen
namespace Go.Proofs.Ytlbadapcaooieaa.Codec
open Go.RowKit CrcMath Mem Crc

/-- Whole numbers as cells. -/
def i64s (l : List Int) : List Value := l.map fun x => .int .i64 x
theorem i64s_length (l : List Int) : (i64s l).length = l.length := by simp [i64s]
theorem i64s_append (l l' : List Int) : i64s (l ++ l') = i64s l ++ i64s l' := by simp [i64s]
theorem i64s_at (l : List Int) (j : Nat) (h : j < l.length) : (i64s l)[j]? = some (.int .i64 (l.getD j 0)) := by simp [i64s, List.getD_eq_getElem?_getD, h]
theorem int_info : (Try.prog.info? 3).map (fun i => (i.zero, i.size, i.bytes)) = some (some (.int .i64 0), 1, 8) := by kernel_rfl
theorem reads_one_int (w : World) (x : Value) : Reads (w.alloc (.cells #[x] 3)) (w.heap.size + 1) 1 (some ⟨w.heap.size, 0, none⟩) 1 [x] := by
  refine ⟨rfl, fun _ => ⟨_, rfl, by simp, fun j u hu => ?_⟩⟩
  match j with
  | 0 => simpa [Addr.add] using hu
  | j + 1 => simp at hu
theorem own_ints {w : World} {base n : Nat} {v : Value} {l : List Int} (h : Own w base 3 1 v n (i64s l)) (hl : ∀ x ∈ l, -9223372036854775808 ≤ x ∧ x ≤ 9223372036854775807) :
    ∃ A cap, v = .slice A n cap ∧ Ints w w.heap.size A n l ∧ n ≤ cap ∧ cap ≤ maxLen := by
  have hlen := h.len
  rw [i64s_length, Nat.mul_one] at hlen
  by_cases h0 : n = 0
  · subst h0
    obtain ⟨A, cap, hv, h1, h2, _⟩ := h.shape
    obtain rfl : l = [] := List.eq_nil_of_length_eq_zero hlen
    exact ⟨A, cap, hv, ints_none _ _ _, h1, h2⟩
  · obtain ⟨g, cap, hv, _, hlt, h1, h2, hc⟩ := h.reads (by omega)
    refine ⟨_, cap, hv, ⟨hlen, hl, fun _ => ⟨g, 0, rfl, hlt, by omega, fun j hj => ?_⟩⟩, h1, h2⟩
    rw [Nat.zero_add]
    exact hc j _ (i64s_at l j (by omega))
end Go.Proofs.Ytlbadapcaooieaa.Codec
