/- Records as bytes: catalogues. Eight volumes stand as 48 numbers. No program is named. -/
import Derived.Test.YtkiohneggoiipaaCodecSpec3
namespace Go.Proofs.Ytkiohneggoiipaa.Codec
open Go.RowKit CrcMath CodecMath

/-- A volume's field: its width, and where it stands in the volume's 19 bytes; its greatest value. -/
def wid (r : Nat) : Nat := match r with | 0 => 4 | 1 => 1 | 2 => 4 | 3 => 4 | 4 => 2 | _ => 4
def offF (r : Nat) : Nat := match r with | 0 => 0 | 1 => 4 | 2 => 5 | 3 => 9 | 4 => 13 | _ => 15
def most (r : Nat) : Int := match r with | 0 => 1073741824 | 1 => 2 | 2 => 1048576 | 3 => 1048576 | 4 => 1023 | _ => 1048576
/-- Where the j-th number of the volumes stands, from the first volume on. -/
def pos (j : Nat) : Nat := 19 * (j / 6) + offF (j % 6)
theorem pos_succ (j : Nat) : pos (j + 1) = pos j + wid (j % 6) := by
  obtain ⟨q, r, hr, rfl⟩ : ∃ q r, r < 6 ∧ j = 6 * q + r := ⟨j / 6, j % 6, Nat.mod_lt _ (by omega), by omega⟩
  have e1 : (6 * q + r) / 6 = q := by omega
  have e2 : (6 * q + r) % 6 = r := by omega
  unfold pos
  rw [e1, e2]
  match r, hr with
  | 0, _ => rw [show (6 * q + 0 + 1) / 6 = q from by omega, show (6 * q + 0 + 1) % 6 = 1 from by omega]; rfl
  | 1, _ => rw [show (6 * q + 1 + 1) / 6 = q from by omega, show (6 * q + 1 + 1) % 6 = 2 from by omega]; rfl
  | 2, _ => rw [show (6 * q + 2 + 1) / 6 = q from by omega, show (6 * q + 2 + 1) % 6 = 3 from by omega]; rfl
  | 3, _ => rw [show (6 * q + 3 + 1) / 6 = q from by omega, show (6 * q + 3 + 1) % 6 = 4 from by omega]; rfl
  | 4, _ => rw [show (6 * q + 4 + 1) / 6 = q from by omega, show (6 * q + 4 + 1) % 6 = 5 from by omega]; rfl
  | 5, _ => rw [show (6 * q + 5 + 1) / 6 = q + 1 from by omega, show (6 * q + 5 + 1) % 6 = 0 from by omega]; simp [offF, wid]; omega
/-- The first n numbers of the volumes, as bytes. -/
def volsB (vs : List Int) (n : Nat) : List Nat := (List.range n).flatMap fun j => be (wid (j % 6)) (vs.getD j 0).toNat
theorem volsB_succ (vs : List Int) (n : Nat) : volsB vs (n + 1) = volsB vs n ++ be (wid (n % 6)) (vs.getD n 0).toNat := by simp [volsB, List.range_succ]
theorem volsB_len (vs : List Int) (n : Nat) : (volsB vs n).length = pos n := by
  induction n with
  | zero => rfl
  | succ n ih => rw [volsB_succ, List.length_append, ih, be_length, pos_succ]
theorem volsB_lt (vs : List Int) (n : Nat) : ∀ x ∈ volsB vs n, x < 256 := by
  intro x hx
  obtain ⟨i, _, hi⟩ := List.mem_flatMap.1 hx
  exact be_lt _ _ x hi
theorem volsB_split (vs : List Int) (n i : Nat) (h : i < n) : ∃ q, volsB vs n = volsB vs i ++ (be (wid (i % 6)) (vs.getD i 0).toNat ++ q) := by
  induction n with
  | zero => omega
  | succ n ih =>
    by_cases e : i = n
    · subst e; exact ⟨[], by rw [volsB_succ]; simp⟩
    · obtain ⟨q, hq⟩ := ih (by omega)
      exact ⟨q ++ be (wid (n % 6)) (vs.getD n 0).toNat, by rw [volsB_succ, hq]; simp⟩
def volsOk (vs : List Int) : Bool := (List.range vs.length).all fun j => inB (vs.getD j 0) (most (j % 6))
theorem volsOk_yes {vs : List Int} (h : volsOk vs = true) (j : Nat) (hj : j < vs.length) : 0 ≤ vs.getD j 0 ∧ vs.getD j 0 ≤ most (j % 6) := inB_yes (List.all_eq_true.1 h j (List.mem_range.2 hj))
theorem volsOk_mk {vs : List Int} (h : ∀ j, j < vs.length → inB (vs.getD j 0) (most (j % 6)) = true) : volsOk vs = true := List.all_eq_true.2 fun j hj => h j (List.mem_range.1 hj)
theorem volsOk_no {vs : List Int} (j : Nat) (hj : j < vs.length) (h : inB (vs.getD j 0) (most (j % 6)) = false) : volsOk vs = false := by
  rw [volsOk, List.all_eq_false]
  exact ⟨j, List.mem_range.2 hj, by rw [h]; simp⟩
theorem most_wid (r : Nat) (n : Int) (h : n ≤ most r) : n.toNat < 256 ^ wid r := by
  unfold most at h
  unfold wid
  split at h <;> simp_all <;> omega
def catOk (next : Int) (stack vs : List Int) : Bool := inB next 1073741824 && (decide (stack.length ≤ 8) && decide (vs.length = 48)) && allB stack 1023 && volsOk vs
def catP (next : Int) (stack : List Int) : List Nat := be 4 next.toNat ++ (be 1 stack.length ++ stack.flatMap fun n => be 2 n.toNat)
def catB (next : Int) (stack vs : List Int) : List Nat := fill (catP next stack) 21 ++ volsB vs 48
def catW (next : Int) (stack vs : List Int) : Option (List Nat) := if catOk next stack vs then some (fill (catB next stack vs) 240) else none
theorem catP_len (next : Int) (stack : List Int) : (catP next stack).length = 5 + 2 * stack.length := by simp only [catP, List.length_append, be_length, flat_len]; omega
theorem catP_lt (next : Int) (stack : List Int) : ∀ x ∈ catP next stack, x < 256 := by
  intro x hx
  simp only [catP, List.mem_append] at hx
  rcases hx with hx | hx | hx
  · exact be_lt _ _ x hx
  · exact be_lt _ _ x hx
  · exact flat_lt 2 stack x hx
theorem catB_len (next : Int) (stack vs : List Int) (h : stack.length ≤ 8) : (catB next stack vs).length = 173 := by
  rw [catB, List.length_append, fill_length _ _ (by rw [catP_len]; omega), volsB_len]; rfl
theorem catB_lt (next : Int) (stack vs : List Int) : ∀ x ∈ catB next stack vs, x < 256 := by
  intro x hx
  rcases List.mem_append.1 hx with hx | hx
  · exact fill_lt _ _ (catP_lt next stack) x hx
  · exact volsB_lt vs 48 x hx
theorem catOk_iff {next : Int} {stack vs : List Int} (h : catOk next stack vs = true) : (0 ≤ next ∧ next ≤ 1073741824) ∧ stack.length ≤ 8 ∧ vs.length = 48 ∧ allB stack 1023 = true ∧ volsOk vs = true := by
  simp only [catOk, Bool.and_eq_true, decide_eq_true_eq] at h
  exact ⟨inB_yes h.1.1.1, h.1.1.2.1, h.1.1.2.2, h.1.2, h.2⟩
theorem catW_some {next : Int} {stack vs : List Int} {l : List Nat} (h : catW next stack vs = some l) : l = fill (catB next stack vs) 240 ∧ catOk next stack vs = true := by
  unfold catW at h
  split at h
  · rename_i hok
    exact ⟨by injection h with h; exact h.symm, hok⟩
  · cases h
theorem catW_len {next : Int} {stack vs : List Int} {l : List Nat} (h : catW next stack vs = some l) : l.length = 240 := by
  obtain ⟨rfl, hok⟩ := catW_some h
  obtain ⟨_, h2, _⟩ := catOk_iff hok
  exact fill_length _ _ (by rw [catB_len _ _ _ h2]; omega)
/-- The volumes' numbers, as they are read. -/
def volsN (l : List Nat) : List Int := (List.range 48).map fun j => (num l (21 + pos j) (wid (j % 6)) : Int)
theorem volsN_length (l : List Nat) : (volsN l).length = 48 := by simp [volsN]
theorem cat_fields {next : Int} {stack vs : List Int} {l : List Nat} (h : catW next stack vs = some l) :
    (num l 0 4 : Int) = next ∧ num l 4 1 = stack.length ∧ numsAt l 5 2 2 stack.length = stack ∧ volsN l = vs := by
  obtain ⟨hl, hok⟩ := catW_some h
  obtain ⟨⟨n1, n2⟩, h2, h3, hs, hv⟩ := catOk_iff hok
  have hq : l = catB next stack vs ++ List.replicate (240 - (catB next stack vs).length) 0 := hl
  generalize List.replicate (240 - (catB next stack vs).length) 0 = q at hq
  have hp : ∃ z, fill (catP next stack) 21 = catP next stack ++ z := ⟨_, rfl⟩
  obtain ⟨z, hz⟩ := hp
  have hfl : (fill (catP next stack) 21).length = 21 := fill_length _ _ (by rw [catP_len]; omega)
  clear hl h
  refine ⟨?_, ?_, ?_, ?_⟩
  · exact num_mid [] (be 1 stack.length ++ stack.flatMap (fun n => be 2 n.toNat) ++ z ++ volsB vs 48 ++ q) l 0 4 next (by rw [hq, catB, hz, catP]; simp) rfl n1 (by omega)
  · exact num_midN (be 4 next.toNat) (stack.flatMap (fun n => be 2 n.toNat) ++ z ++ volsB vs 48 ++ q) l 4 1 _ (by rw [hq, catB, hz, catP]; simp) (by rw [be_length]) (by omega)
  · have := numsAt_flat (be 4 next.toNat ++ be 1 stack.length) (z ++ volsB vs 48 ++ q) l stack 2 (by rw [hq, catB, hz, catP]; simp) (fun j hj => by have := allB_yes hs j hj; exact ⟨this.1, by omega⟩)
    rwa [show (be 4 next.toNat ++ be 1 stack.length).length = 5 from by simp [be_length]] at this
  · apply List.ext_getElem (by rw [volsN_length, h3])
    intro i hi1 hi2
    rw [volsN_length] at hi1
    simp only [volsN, List.getElem_map, List.getElem_range]
    obtain ⟨r, hr⟩ := volsB_split vs 48 i hi1
    have hb := volsOk_yes hv i hi2
    have hg : vs.getD i 0 = vs[i] := by simp [List.getD_eq_getElem?_getD, hi2]
    rw [← hg]
    exact num_mid (fill (catP next stack) 21 ++ volsB vs i) (r ++ q) l (21 + pos i) (wid (i % 6)) _ (by rw [hq, catB, hr]; simp) (by rw [List.length_append, hfl, volsB_len]) hb.1 (most_wid _ _ hb.2)
/-- What is read as a catalogue: next, stack, the volumes' numbers. -/
def catR (l : List Nat) : Option (Int × List Int × List Int) :=
  if catW (num l 0 4) (numsAt l 5 2 2 (min (num l 4 1) 8)) (volsN l) = some l then some ((num l 0 4 : Int), numsAt l 5 2 2 (min (num l 4 1) 8), volsN l) else none
theorem catR_of {next : Int} {stack vs : List Int} {l : List Nat} (h : catW next stack vs = some l) : catR l = some (next, stack, vs) := by
  obtain ⟨h1, h2, h3, h4⟩ := cat_fields h
  obtain ⟨_, n2, _⟩ := catOk_iff (catW_some h).2
  rw [catR, h1, h2, Nat.min_eq_left n2, h3, h4, if_pos h]
theorem catR_none (l : List Nat) (h : l.length ≠ 240) : catR l = none := by rw [catR, if_neg (fun e => h (catW_len e))]
end Go.Proofs.Ytkiohneggoiipaa.Codec
