/- What Put and Drop keep, in plain words. -/
import Derived.Test.YtlbadapcaooieaaNdBits
set_option linter.unusedVariables false
namespace Go.Proofs.Ytlbadapcaooieaa.NdSpec

theorem getD_ins {l : List Int} {j r : Nat} {x : Int} (hj : j ≤ l.length) (q : Nat) : (ins l j r x).getD q 0 = if q < j then l.getD q 0 else if q = j then x else l.getD (r + (q - j - 1)) 0 := by
  have hl : (l.take j).length = j := by rw [List.length_take]; omega
  unfold ins
  by_cases h1 : q < j
  · rw [if_pos h1, List.getD_eq_getElem?_getD, List.getElem?_append_left (by omega), List.getElem?_take_of_lt h1, List.getD_eq_getElem?_getD]
  · rw [if_neg h1, List.getD_eq_getElem?_getD, List.getElem?_append_right (by omega), hl]
    by_cases h2 : q = j
    · subst h2
      simp
    · rw [if_neg h2, show q - j = (q - j - 1) + 1 by omega, List.getElem?_cons_succ, List.getElem?_drop, List.getD_eq_getElem?_getD]
      simp
theorem len_ins {l : List Int} {j r : Nat} {x : Int} (hj : j ≤ l.length) : (ins l j r x).length = j + 1 + (l.length - r) := by
  unfold ins
  rw [List.length_append, List.length_take, List.length_cons, List.length_drop]
  omega
theorem getD_del {l : List Int} {a : Nat} (ha : a < l.length) (q : Nat) : (del l a).getD q 0 = if q < a then l.getD q 0 else l.getD (q + 1) 0 := by
  have hl : (l.take a).length = a := by rw [List.length_take]; omega
  unfold del
  by_cases h1 : q < a
  · rw [if_pos h1, List.getD_eq_getElem?_getD, List.getElem?_append_left (by omega), List.getElem?_take_of_lt h1, List.getD_eq_getElem?_getD]
  · rw [if_neg h1, List.getD_eq_getElem?_getD, List.getElem?_append_right (by omega), hl, List.getElem?_drop, List.getD_eq_getElem?_getD, show a + 1 + (q - a) = q + 1 by omega]
theorem len_del {l : List Int} {a : Nat} (ha : a < l.length) : (del l a).length = l.length - 1 := by
  unfold del
  rw [List.length_append, List.length_take, List.length_drop]
  omega
theorem ext_getD {l l' : List Int} (h : l.length = l'.length) (hh : ∀ q, q < l.length → l.getD q 0 = l'.getD q 0) : l = l' := by
  apply List.ext_getElem h
  intro i h1 h2
  have := hh i h1
  simpa [List.getD_eq_getElem?_getD, h1, h2] using this
theorem find_at {l : List Int} (h : ∀ i j, i < j → j < l.length → l.getD i 0 < l.getD j 0) {q : Nat} (hq : q < l.length) : find l (l.getD q 0) = q ∧ isAt l (l.getD q 0) = true := by
  have e := find_of l (l.getD q 0) q (by omega) (fun i hi => h i q hi hq) (fun _ => Int.le_refl _)
  refine ⟨e, ?_⟩
  unfold isAt
  rw [e]
  simp [hq]
theorem isAt_yes {l : List Int} {key : Int} (h : isAt l key = true) : find l key < l.length ∧ l.getD (find l key) 0 = key := by simpa [isAt] using h
theorem may_del {lf : Bool} {ks vs : List Int} (h : may lf ks vs = true) {a : Nat} (ha : a < ks.length) (h2 : lf = true ∨ 2 ≤ ks.length) : may lf (del ks a) (del vs a) = true := by
  have hm := may_len h
  have hav : a < vs.length := by omega
  refine may_yes (by rw [len_del ha, len_del hav]; omega) (by rw [len_del ha]; omega) ?_ (fun j hj => ?_)
  · rcases h2 with h2 | h2
    · exact .inl h2
    · exact .inr (by rw [len_del ha]; omega)
  · rw [len_del ha] at hj
    have hr := rise h
    by_cases h1 : j < a
    · obtain ⟨p, q, _⟩ := okAt_parts (hm.2.2.2 j (by omega))
      refine okAt_mk (by rw [getD_del ha, if_pos h1]; exact p) (by rw [getD_del hav, if_pos h1]; exact q) ?_
      by_cases h0 : j = 0
      · exact .inl h0
      · exact .inr (by rw [getD_del ha, if_pos (by omega), getD_del ha, if_pos h1]; exact hr _ _ (by omega) (by omega))
    · obtain ⟨p, q, _⟩ := okAt_parts (hm.2.2.2 (j + 1) (by omega))
      refine okAt_mk (by rw [getD_del ha, if_neg h1]; exact p) (by rw [getD_del hav, if_neg h1]; exact q) ?_
      by_cases h0 : j = 0
      · exact .inl h0
      · refine .inr ?_
        rw [getD_del ha, getD_del ha, if_neg h1]
        split
        · exact hr _ _ (by omega) (by omega)
        · exact hr _ _ (by omega) (by omega)
theorem del_not {lf : Bool} {ks vs : List Int} (h : may lf ks vs = true) {a : Nat} (ha : a < ks.length) : isAt (del ks a) (ks.getD a 0) = false := by
  cases e : isAt (del ks a) (ks.getD a 0)
  · rfl
  · obtain ⟨h1, h2⟩ := isAt_yes e
    have hr := rise h
    rw [len_del ha] at h1
    rw [getD_del ha] at h2
    split at h2
    · rename_i h3
      have := hr _ a h3 ha
      omega
    · rename_i h3
      have := hr a (find (del ks a) (ks.getD a 0) + 1) (by omega) (by omega)
      omega
/-- What a Put that is OK leaves. -/
theorem put_keeps {lf : Bool} {ks vs : List Int} {key val : Int} (h : may lf ks vs = true) (hk : inK key = true) (hv : inV val = true) (h8 : (ins ks (find ks key) (rest ks key) key).length ≤ 8) :
    may lf (ins ks (find ks key) (rest ks key) key) (ins vs (find ks key) (rest ks key) val) = true ∧
    (find ks key < (ins ks (find ks key) (rest ks key) key).length ∧ (ins ks (find ks key) (rest ks key) key).getD (find ks key) 0 = key ∧ (ins vs (find ks key) (rest ks key) val).getD (find ks key) 0 = val) ∧
    ∀ i, i < ks.length → ∃ p, p < (ins ks (find ks key) (rest ks key) key).length ∧ (ins ks (find ks key) (rest ks key) key).getD p 0 = ks.getD i 0 ∧ (ks.getD i 0 ≠ key → (ins vs (find ks key) (rest ks key) val).getD p 0 = vs.getD i 0) := by
  have hm := may_len h
  have hr := rise h
  have hF := find_le ks key
  have hlt := find_lt ks key
  have hge := find_ge ks key
  cases hI : isAt ks key with
  | true =>
    obtain ⟨a1, a2⟩ := isAt_yes hI
    have hR : rest ks key = find ks key + 1 := by unfold rest; rw [if_pos hI]
    rw [hR] at h8 ⊢
    generalize find ks key = F at *
    have hFv : F ≤ vs.length := by omega
    have hK : ∀ q, (ins ks F (F + 1) key).getD q 0 = ks.getD q 0 := by
      intro q
      rw [getD_ins hF]
      split
      · rfl
      · split
        · rename_i h1 h2; subst h2; exact a2.symm
        · rename_i h1 h2; rw [show F + 1 + (q - F - 1) = q by omega]
    have hV : ∀ q, (ins vs F (F + 1) val).getD q 0 = if q = F then val else vs.getD q 0 := by
      intro q
      rw [getD_ins hFv]
      by_cases h1 : q < F
      · rw [if_pos h1, if_neg (by omega)]
      · rw [if_neg h1]
        by_cases h2 : q = F
        · rw [if_pos h2, if_pos h2]
        · rw [if_neg h2, if_neg h2, show F + 1 + (q - F - 1) = q by omega]
    have hlK : (ins ks F (F + 1) key).length = ks.length := by rw [len_ins hF]; omega
    have hlV : (ins vs F (F + 1) val).length = vs.length := by rw [len_ins hFv]; omega
    refine ⟨may_yes (by omega) (by omega) (.inr (by omega)) (fun j hj => ?_), ⟨by omega, by rw [hK]; exact a2, by rw [hV, if_pos rfl]⟩, fun i hi => ⟨i, by omega, hK i, fun hne => ?_⟩⟩
    · obtain ⟨p, q, c⟩ := okAt_parts (hm.2.2.2 j (by omega))
      refine okAt_mk (by rw [hK]; exact p) ?_ (by rw [hK, hK]; exact c)
      rw [hV]
      split
      · exact hv
      · exact q
    · rw [hV, if_neg (fun e => hne (by rw [e]; exact a2))]
  | false =>
    have hR : rest ks key = find ks key := by unfold rest; rw [if_neg (by simp [hI])]
    have hne : find ks key < ks.length → key < ks.getD (find ks key) 0 := by
      intro h1
      have h2 := hge h1
      by_cases e : ks.getD (find ks key) 0 = key
      · exfalso
        have : isAt ks key = true := by simp only [isAt, Bool.and_eq_true, decide_eq_true_eq]; exact ⟨h1, e⟩
        rw [hI] at this; cases this
      · omega
    rw [hR] at h8 ⊢
    generalize find ks key = F at *
    have hFv : F ≤ vs.length := by omega
    have hK : ∀ q, (ins ks F F key).getD q 0 = if q < F then ks.getD q 0 else if q = F then key else ks.getD (q - 1) 0 := by
      intro q
      rw [getD_ins hF]
      split
      · rfl
      · split
        · rfl
        · rw [show F + (q - F - 1) = q - 1 by omega]
    have hV : ∀ q, (ins vs F F val).getD q 0 = if q < F then vs.getD q 0 else if q = F then val else vs.getD (q - 1) 0 := by
      intro q
      rw [getD_ins hFv]
      split
      · rfl
      · split
        · rfl
        · rw [show F + (q - F - 1) = q - 1 by omega]
    have hlK : (ins ks F F key).length = ks.length + 1 := by rw [len_ins hF]; omega
    have hlV : (ins vs F F val).length = vs.length + 1 := by rw [len_ins hFv]; omega
    refine ⟨may_yes (by omega) (by omega) (.inr (by omega)) (fun j hj => ?_), ⟨by omega, by rw [hK, if_neg (by omega), if_pos rfl], by rw [hV, if_neg (by omega), if_pos rfl]⟩, fun i hi => ?_⟩
    · by_cases h1 : j < F
      · obtain ⟨p, q, c⟩ := okAt_parts (hm.2.2.2 j (by omega))
        refine okAt_mk (by rw [hK, if_pos h1]; exact p) (by rw [hV, if_pos h1]; exact q) ?_
        rcases c with c | c
        · exact .inl c
        · exact .inr (by rw [hK, if_pos (by omega), hK, if_pos h1]; exact c)
      · by_cases h2 : j = F
        · refine okAt_mk (by rw [hK, if_neg h1, if_pos h2]; exact hk) (by rw [hV, if_neg h1, if_pos h2]; exact hv) ?_
          by_cases h0 : j = 0
          · exact .inl h0
          · exact .inr (by rw [hK, if_pos (by omega), hK, if_neg h1, if_pos h2]; exact hlt _ (by omega))
        · obtain ⟨p, q, _⟩ := okAt_parts (hm.2.2.2 (j - 1) (by omega))
          refine okAt_mk (by rw [hK, if_neg h1, if_neg h2]; exact p) (by rw [hV, if_neg h1, if_neg h2]; exact q) (.inr ?_)
          rw [hK j, if_neg h1, if_neg h2, hK]
          rw [if_neg (by omega)]
          by_cases h3 : j - 1 = F
          · rw [if_pos h3, h3]
            exact hne (by omega)
          · rw [if_neg h3]
            exact hr _ _ (by omega) (by omega)
    · by_cases h1 : i < F
      · exact ⟨i, by omega, by rw [hK, if_pos h1], fun _ => by rw [hV, if_pos h1]⟩
      · exact ⟨i + 1, by omega, by rw [hK, if_neg (by omega), if_neg (by omega), Nat.add_sub_cancel], fun _ => by rw [hV, if_neg (by omega), if_neg (by omega), Nat.add_sub_cancel]⟩
/-- What the law NodeKeeps asks of a Put. -/
theorem keeps_put (lf : Bool) (ks vs : List Int) (key val : Int) : (∃ e : Int, putR lf ks vs key val = (e, nil) ∧ e ≠ 0) ∨
    ∃ K V : List Int, ∃ F : Nat, putR lf ks vs key val = (0, lf, K, V) ∧ may lf K V = true ∧ find K key = F ∧ isAt K key = true ∧ F < K.length ∧ V.getD F 0 = val ∧
      (∀ i, i < ks.length → isAt K (ks.getD i 0) = true ∧ find K (ks.getD i 0) < V.length ∧ (ks.getD i 0 ≠ key → V.getD (find K (ks.getD i 0)) 0 = vs.getD i 0)) ∧
      ((lf = false ∧ K.length = 1 ∧ dropR lf K V (F : Nat) = (22, nil)) ∨
        ∃ K2 V2 : List Int, dropR lf K V (F : Nat) = (0, lf, K2, V2) ∧ isAt K2 key = false ∧ K2.length + 1 = K.length ∧ may lf K2 V2 = true) := by
  by_cases h : may lf ks vs = true
  · by_cases hkv : (inK key && inV val) = true
    · obtain ⟨hk, hv⟩ := Bool.and_eq_true_iff.1 hkv
      by_cases h8 : 8 < (ins ks (find ks key) (rest ks key) key).length
      · left
        refine ⟨15, ?_, by omega⟩
        unfold putR
        rw [if_neg (by simp [h]), if_neg (by simp [hkv]), if_pos h8]
      · right
        obtain ⟨p1, ⟨p2, p3, p4⟩, p5⟩ := put_keeps h hk hv (by omega)
        have hr := rise p1
        have hl := may_len p1
        generalize hKK : ins ks (find ks key) (rest ks key) key = K at *
        generalize hVV : ins vs (find ks key) (rest ks key) val = V at *
        have hf := find_at hr p2
        rw [p3] at hf
        refine ⟨K, V, find ks key, ?_, p1, hf.1, hf.2, p2, p4, fun i hi => ?_, ?_⟩
        · unfold putR
          rw [hKK, hVV, if_neg (by simp [h]), if_neg (by simp [hkv]), if_neg h8]
        · obtain ⟨p, q1, q2, q3⟩ := p5 i hi
          have hp := find_at hr q1
          rw [q2] at hp
          refine ⟨hp.2, by rw [hp.1]; omega, fun hne => by rw [hp.1]; exact q3 hne⟩
        · generalize find ks key = F at *
          by_cases h1 : lf = false ∧ K.length = 1
          · left
            refine ⟨h1.1, h1.2, ?_⟩
            have hd : may lf (del K F) (del V F) = false := may_no3 h1.1 (by rw [len_del p2]; omega)
            unfold dropR
            rw [if_neg (by simp [p1]), if_neg (by omega), Int.toNat_natCast, if_pos hd]
          · right
            have hd : may lf (del K F) (del V F) = true := may_del p1 p2 (by
              cases lf
              · right
                have : K.length ≠ 1 := fun e => h1 ⟨rfl, e⟩
                omega
              · exact .inl rfl)
            refine ⟨del K F, del V F, ?_, ?_, by rw [len_del p2]; omega, hd⟩
            · unfold dropR
              rw [if_neg (by simp [p1]), if_neg (by omega), Int.toNat_natCast, if_neg (by simp [hd])]
            · have := del_not p1 p2
              rwa [p3] at this
    · left
      refine ⟨1, ?_, by omega⟩
      unfold putR
      rw [if_neg (by simp [h]), if_pos (by simpa using hkv)]
  · left
    refine ⟨22, ?_, by omega⟩
    unfold putR
    rw [if_pos (by simpa using h)]
end Go.Proofs.Ytlbadapcaooieaa.NdSpec
