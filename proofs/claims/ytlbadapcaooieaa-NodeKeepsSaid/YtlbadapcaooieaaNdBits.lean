/- Halves of a node that may be: each may be, they follow one another, and together they are the node. Plain. -/
import Derived.Test.YtlbadapcaooieaaNdSpec
set_option linter.unusedVariables false
namespace Go.Proofs.Ytlbadapcaooieaa.NdSpec

theorem getD_take {l : List Int} {k j : Nat} (h : j < k) : (l.take k).getD j 0 = l.getD j 0 := by
  rw [List.getD_eq_getElem?_getD, List.getD_eq_getElem?_getD, List.getElem?_take_of_lt h]
theorem getD_drop {l : List Int} {k j : Nat} : (l.drop k).getD j 0 = l.getD (k + j) 0 := by
  rw [List.getD_eq_getElem?_getD, List.getD_eq_getElem?_getD, List.getElem?_drop]
theorem may_take {lf : Bool} {ks vs : List Int} (h : may lf ks vs = true) {k : Nat} (h0 : 0 < k) (hk : k ≤ ks.length) : may lf (ks.take k) (vs.take k) = true := by
  have hm := may_len h
  refine may_yes (by rw [List.length_take, List.length_take]; omega) (by rw [List.length_take]; omega) (.inr (by rw [List.length_take]; omega)) (fun j hj => ?_)
  rw [List.length_take] at hj
  obtain ⟨a, b, c⟩ := okAt_parts (hm.2.2.2 j (by omega))
  refine okAt_mk (by rw [getD_take (by omega)]; exact a) (by rw [getD_take (by omega)]; exact b) ?_
  rcases c with c | c
  · exact .inl c
  · refine .inr ?_
    rw [getD_take (by omega), getD_take (by omega)]
    exact c
theorem may_drop {lf : Bool} {ks vs : List Int} (h : may lf ks vs = true) {k : Nat} (hk : k < ks.length) : may lf (ks.drop k) (vs.drop k) = true := by
  have hm := may_len h
  refine may_yes (by rw [List.length_drop, List.length_drop]; omega) (by rw [List.length_drop]; omega) (.inr (by rw [List.length_drop]; omega)) (fun j hj => ?_)
  rw [List.length_drop] at hj
  obtain ⟨a, b, c⟩ := okAt_parts (hm.2.2.2 (k + j) (by omega))
  refine okAt_mk (by rw [getD_drop]; exact a) (by rw [getD_drop]; exact b) ?_
  by_cases hj0 : j = 0
  · exact .inl hj0
  · refine .inr ?_
    rw [getD_drop, getD_drop, show k + (j - 1) = k + j - 1 by omega]
    exact rise h _ _ (by omega) (by omega)
theorem follows_cut {lf : Bool} {ks vs : List Int} (h : may lf ks vs = true) {k : Nat} (h0 : 0 < k) (hk : k < ks.length) : follows lf (ks.take k) (vs.take k) lf (ks.drop k) (vs.drop k) = true := by
  unfold follows
  rw [may_take h h0 (by omega), may_drop h hk]
  have hs : seam (ks.take k) (ks.drop k) = true := by
    unfold seam
    have e1 : (ks.take k).getD ((ks.take k).length - 1) 0 = ks.getD (k - 1) 0 := by
      rw [getD_take (by rw [List.length_take]; omega), List.length_take, Nat.min_eq_left (by omega)]
    have e2 : (ks.drop k).getD 0 0 = ks.getD k 0 := by rw [getD_drop, Nat.add_zero]
    rw [e1, e2, decide_eq_true (rise h (k - 1) k (by omega) hk), Bool.or_true]
  rw [hs]
  simp
theorem upTo_lt_of {ks : List Int} {key : Int} (h : 0 < ks.length) : upTo ks key - 1 < ks.length := by
  have := upTo_le ks key
  omega
theorem child_ok {lf : Bool} {ks vs : List Int} (h : may lf ks vs = true) (key : Int) (i : Nat) (hi : i < ks.length) : (i ≤ upTo ks key - 1 → 0 < i → ks.getD i 0 ≤ key) ∧ (upTo ks key - 1 < i → key < ks.getD i 0) := by
  refine ⟨fun h1 h2 => upTo_lt ks key i (by omega), fun h1 => ?_⟩
  have hu : upTo ks key < ks.length := by omega
  have h2 := upTo_ge ks key hu
  by_cases e : upTo ks key = i
  · rw [← e]; exact h2
  · have := rise h (upTo ks key) i (by omega) hi
    omega
theorem child_find {lf : Bool} {ks vs : List Int} (h : may lf ks vs = true) (key : Int) (hi : isAt ks key = true) : find ks key = upTo ks key - 1 := by
  simp only [isAt, Bool.and_eq_true, decide_eq_true_eq] at hi
  have e : upTo ks key = find ks key + 1 := by
    refine upTo_of ks key _ (by omega) (fun q hq => ?_) (fun hq => ?_)
    · rcases Nat.lt_or_ge q (find ks key) with h1 | h1
      · have := find_lt ks key q h1; omega
      · obtain rfl : q = find ks key := by omega
        omega
    · have := rise h (find ks key) (find ks key + 1) (by omega) hq
      omega
  omega
/-- What Split tells: an error, or two halves that join again. -/
theorem split_back (lf : Bool) (ks vs : List Int) : splitR lf ks vs = (22, nil, nil) ∨
    ∃ k1 v1 k2 v2 : List Int, splitR lf ks vs = (0, (lf, k1, v1), (lf, k2, v2)) ∧ joinR lf k1 v1 lf k2 v2 = (0, lf, ks, vs) ∧ shareR lf k1 v1 lf k2 v2 = (0, (lf, k1, v1), (lf, k2, v2)) ∧ k2.length ≤ k1.length ∧ k1.length ≤ k2.length + 1 ∧ k1.length ≤ 8 := by
  by_cases hm : may lf ks vs = true
  · by_cases h2 : ks.length < 2
    · left
      unfold splitR halvesR
      rw [if_neg (by simp [hm]), if_pos h2]
    · right
      have hl := may_len hm
      have hh : half ks = (ks.length + 1) / 2 := rfl
      have hf := follows_cut hm (k := half ks) (by omega) (by omega)
      refine ⟨ks.take (half ks), vs.take (half ks), ks.drop (half ks), vs.drop (half ks), ?_, ?_, ?_, ?_, ?_, ?_⟩
      · unfold splitR halvesR
        rw [if_neg (by simp [hm]), if_neg h2]
      · unfold joinR
        rw [if_neg (by simp [hf]), if_neg (by rw [List.length_take, List.length_drop]; omega), List.take_append_drop, List.take_append_drop]
      · unfold shareR halvesR
        rw [if_neg (by simp [hf]), List.take_append_drop, List.take_append_drop, if_neg h2]
      · rw [List.length_take, List.length_drop]; omega
      · rw [List.length_take, List.length_drop]; omega
      · rw [List.length_take]; omega
  · left
    unfold splitR
    rw [if_pos (by simpa using hm)]
end Go.Proofs.Ytlbadapcaooieaa.NdSpec
