/- Records as bytes: heads, nodes, counts, catalogues. No program is named. -/
import Derived.Test.YtpdkjgmldlpaaaaCodecSpec2
namespace Go.Proofs.Ytpdkjgmldlpaaaa.Codec
open Go.RowKit CrcMath CodecMath

theorem num_midN (p q l : List Nat) (a k n : Nat) (hl : l = p ++ (be k n ++ q)) (ha : p.length = a) (h : n < 256 ^ k) : num l a k = n := by
  subst ha
  rw [hl, num_put _ _ _ _ h]
theorem countsW_some {s : List Int} {l : List Nat} (h : countsW s = some l) : l = s.flatMap (fun n => be 2 n.toNat) ∧ s.length = 120 ∧ allB s 1000 = true := by
  unfold countsW at h
  split at h
  · rename_i hok
    simp only [Bool.and_eq_true, decide_eq_true_eq] at hok
    exact ⟨by injection h with h; exact h.symm, hok⟩
  · cases h
theorem countsW_yes {s : List Int} (h1 : s.length = 120) (h2 : allB s 1000 = true) : countsW s = some (s.flatMap fun n => be 2 n.toNat) := by simp [countsW, h1, h2]
theorem countsW_short {s : List Int} (h1 : s.length ≠ 120) : countsW s = none := by simp [countsW, h1]
theorem countsW_no {s : List Int} (h2 : allB s 1000 = false) : countsW s = none := by simp [countsW, h2]
theorem countsR_of {s : List Int} {l : List Nat} (h : countsW s = some l) : countsR l = some s := by
  obtain ⟨hl, hn, hb⟩ := countsW_some h
  have hs : numsAt l 0 2 2 120 = s := by
    have := numsAt_flat [] [] l s 2 (by simpa using hl) (fun j hj => by have := allB_yes hb j hj; exact ⟨this.1, by omega⟩)
    rwa [hn] at this
  rw [countsR, hs, if_pos h]
theorem countsW_len {s : List Int} {l : List Nat} (h : countsW s = some l) : l.length = 240 := by
  obtain ⟨rfl, hn, _⟩ := countsW_some h
  rw [flat_len, hn]
theorem countsR_none (l : List Nat) (h : l.length ≠ 240) : countsR l = none := by rw [countsR, if_neg (fun e => h (countsW_len e))]

/-! ### Heads -/
def headOk (epoch seq : Int) (pages : List Int) : Bool := inB epoch 1099511627776 && inB seq 1099511627776 && (decide (1 ≤ pages.length) && decide (pages.length ≤ 40)) && allB pages 1023
def headP (epoch seq : Int) (pages : List Int) (sum : Nat) : List Nat := [80, 76, 79, 71] ++ (be 8 epoch.toNat ++ (be 8 seq.toNat ++ (be 4 sum ++ be 2 pages.length)))
def headB (epoch seq : Int) (pages : List Int) (sum : Nat) : List Nat := headP epoch seq pages sum ++ pages.flatMap fun n => be 4 n.toNat
def headW (epoch seq : Int) (pages : List Int) (sum : Nat) : Option (List Nat) := if headOk epoch seq pages then some (frame (headB epoch seq pages sum)) else none
theorem headP_len (epoch seq : Int) (pages : List Int) (sum : Nat) : (headP epoch seq pages sum).length = 26 := by simp [headP, be_length]
theorem headB_len (epoch seq : Int) (pages : List Int) (sum : Nat) : (headB epoch seq pages sum).length = 26 + 4 * pages.length := by rw [headB, List.length_append, headP_len, flat_len]
theorem headB_lt (epoch seq : Int) (pages : List Int) (sum : Nat) : ∀ x ∈ headB epoch seq pages sum, x < 256 := by
  intro x hx
  simp only [headB, headP, List.mem_append] at hx
  rcases hx with (hx | hx | hx | hx | hx) | hx
  · simp at hx; omega
  · exact be_lt _ _ x hx
  · exact be_lt _ _ x hx
  · exact be_lt _ _ x hx
  · exact be_lt _ _ x hx
  · exact flat_lt 4 pages x hx
theorem headOk_iff {epoch seq : Int} {pages : List Int} (h : headOk epoch seq pages = true) : (0 ≤ epoch ∧ epoch ≤ 1099511627776) ∧ (0 ≤ seq ∧ seq ≤ 1099511627776) ∧ 1 ≤ pages.length ∧ pages.length ≤ 40 ∧ allB pages 1023 = true := by
  simp only [headOk, Bool.and_eq_true, decide_eq_true_eq] at h
  exact ⟨inB_yes h.1.1.1, inB_yes h.1.1.2, h.1.2.1, h.1.2.2, h.2⟩
theorem headW_some {epoch seq : Int} {pages : List Int} {sum : Nat} {l : List Nat} (h : headW epoch seq pages sum = some l) : l = frame (headB epoch seq pages sum) ∧ headOk epoch seq pages = true := by
  unfold headW at h
  split at h
  · rename_i hok
    exact ⟨by injection h with h; exact h.symm, hok⟩
  · cases h
theorem headW_len {epoch seq : Int} {pages : List Int} {sum : Nat} {l : List Nat} (h : headW epoch seq pages sum = some l) : l.length = 256 := by
  obtain ⟨rfl, hok⟩ := headW_some h
  obtain ⟨_, _, _, h4, _⟩ := headOk_iff hok
  exact frame_length _ (by rw [headB_len]; omega)
theorem head_fields {epoch seq : Int} {pages : List Int} {sum : Nat} {l : List Nat} (hsum : sum < 4294967296) (h : headW epoch seq pages sum = some l) :
    wrap64 (num l 4 8 : Nat) = epoch ∧ wrap64 (num l 12 8 : Nat) = seq ∧ num l 20 4 = sum ∧ num l 24 2 = pages.length ∧ numsAt l 26 4 4 pages.length = pages := by
  obtain ⟨hl, hok⟩ := headW_some h
  obtain ⟨⟨e1, e2⟩, ⟨s1, s2⟩, n1, n2, hb⟩ := headOk_iff hok
  obtain ⟨q, hq⟩ := frame_split (headB epoch seq pages sum)
  rw [hq] at hl
  clear hq h
  refine ⟨?_, ?_, ?_, ?_, ?_⟩
  · have := num_mid [80, 76, 79, 71] (be 8 seq.toNat ++ (be 4 sum ++ be 2 pages.length) ++ pages.flatMap (fun n => be 4 n.toNat) ++ q) l 4 8 epoch (by rw [hl, headB, headP]; simp) rfl (by omega) (by omega)
    rw [this]; unfold wrap64; omega
  · have := num_mid ([80, 76, 79, 71] ++ be 8 epoch.toNat) ((be 4 sum ++ be 2 pages.length) ++ pages.flatMap (fun n => be 4 n.toNat) ++ q) l 12 8 seq (by rw [hl, headB, headP]; simp) (by simp [be_length]) (by omega) (by omega)
    rw [this]; unfold wrap64; omega
  · exact num_midN ([80, 76, 79, 71] ++ (be 8 epoch.toNat ++ be 8 seq.toNat)) (be 2 pages.length ++ pages.flatMap (fun n => be 4 n.toNat) ++ q) l 20 4 sum (by rw [hl, headB, headP]; simp) (by simp [be_length]) (by omega)
  · exact num_midN ([80, 76, 79, 71] ++ (be 8 epoch.toNat ++ (be 8 seq.toNat ++ be 4 sum))) (pages.flatMap (fun n => be 4 n.toNat) ++ q) l 24 2 pages.length (by rw [hl, headB, headP]; simp) (by simp [be_length]) (by omega)
  · have := numsAt_flat (headP epoch seq pages sum) q l pages 4 (by rw [hl, headB]) (fun j hj => by have := allB_yes hb j hj; exact ⟨this.1, by omega⟩)
    rwa [headP_len] at this
/-- What is read as a head: epoch, seq, pages, sum. -/
def headR (l : List Nat) : Option (Int × Int × List Int × Nat) :=
  if headW (wrap64 (num l 4 8 : Nat)) (wrap64 (num l 12 8 : Nat)) (numsAt l 26 4 4 (min (num l 24 2) 40)) (num l 20 4) = some l then some (wrap64 (num l 4 8 : Nat), wrap64 (num l 12 8 : Nat), numsAt l 26 4 4 (min (num l 24 2) 40), num l 20 4) else none
theorem headR_of {epoch seq : Int} {pages : List Int} {sum : Nat} {l : List Nat} (hsum : sum < 4294967296) (h : headW epoch seq pages sum = some l) : headR l = some (epoch, seq, pages, sum) := by
  obtain ⟨h1, h2, h3, h4, h5⟩ := head_fields hsum h
  obtain ⟨_, _, _, n2, _⟩ := headOk_iff (headW_some h).2
  rw [headR, h1, h2, h3, h4, Nat.min_eq_left n2, h5, if_pos h]
theorem headR_none (l : List Nat) (h : l.length ≠ 256) : headR l = none := by rw [headR, if_neg (fun e => h (headW_len e))]

/-! ### Nodes -/
/-- Pairs of numbers of two widths, one behind the other. -/
def pairsB (ks vs : List Int) (n : Nat) : List Nat := (List.range n).flatMap fun i => be 4 (ks.getD i 0).toNat ++ be 2 (vs.getD i 0).toNat
theorem pairsB_succ (ks vs : List Int) (n : Nat) : pairsB ks vs (n + 1) = pairsB ks vs n ++ (be 4 (ks.getD n 0).toNat ++ be 2 (vs.getD n 0).toNat) := by simp [pairsB, List.range_succ]
theorem pairsB_len (ks vs : List Int) (n : Nat) : (pairsB ks vs n).length = 6 * n := by
  induction n with
  | zero => rfl
  | succ n ih => rw [pairsB_succ, List.length_append, ih, List.length_append, be_length, be_length]; omega
theorem pairsB_lt (ks vs : List Int) (n : Nat) : ∀ x ∈ pairsB ks vs n, x < 256 := by
  intro x hx
  obtain ⟨i, _, hi⟩ := List.mem_flatMap.1 hx
  rcases List.mem_append.1 hi with hi | hi <;> exact be_lt _ _ x hi
theorem pairsB_split (ks vs : List Int) (n i : Nat) (h : i < n) : ∃ q, pairsB ks vs n = pairsB ks vs i ++ (be 4 (ks.getD i 0).toNat ++ (be 2 (vs.getD i 0).toNat ++ q)) := by
  induction n with
  | zero => omega
  | succ n ih =>
    by_cases e : i = n
    · subst e; exact ⟨[], by rw [pairsB_succ]; simp⟩
    · obtain ⟨q, hq⟩ := ih (by omega)
      exact ⟨q ++ (be 4 (ks.getD n 0).toNat ++ be 2 (vs.getD n 0).toNat), by rw [pairsB_succ, hq]; simp⟩
def nodeOk (ks vs : List Int) : Bool := decide (ks.length = vs.length) && decide (ks.length ≤ 8) && allB ks 1048575 && allB vs 1023
def nodeB (leaf : Bool) (ks vs : List Int) : List Nat := be 1 (if leaf then 1 else 0) ++ (be 1 ks.length ++ pairsB ks vs ks.length)
def nodeW (leaf : Bool) (ks vs : List Int) : Option (List Nat) := if nodeOk ks vs then some (fill (nodeB leaf ks vs) 240) else none
theorem nodeB_len (leaf : Bool) (ks vs : List Int) : (nodeB leaf ks vs).length = 2 + 6 * ks.length := by simp only [nodeB, List.length_append, be_length, pairsB_len]; omega
theorem nodeB_lt (leaf : Bool) (ks vs : List Int) : ∀ x ∈ nodeB leaf ks vs, x < 256 := by
  intro x hx
  simp only [nodeB, List.mem_append] at hx
  rcases hx with hx | hx | hx
  · exact be_lt _ _ x hx
  · exact be_lt _ _ x hx
  · exact pairsB_lt ks vs _ x hx
theorem nodeOk_iff {ks vs : List Int} (h : nodeOk ks vs = true) : ks.length = vs.length ∧ ks.length ≤ 8 ∧ allB ks 1048575 = true ∧ allB vs 1023 = true := by
  simp only [nodeOk, Bool.and_eq_true, decide_eq_true_eq] at h
  exact ⟨h.1.1.1, h.1.1.2, h.1.2, h.2⟩
theorem nodeW_some {leaf : Bool} {ks vs : List Int} {l : List Nat} (h : nodeW leaf ks vs = some l) : l = fill (nodeB leaf ks vs) 240 ∧ nodeOk ks vs = true := by
  unfold nodeW at h
  split at h
  · rename_i hok
    exact ⟨by injection h with h; exact h.symm, hok⟩
  · cases h
theorem nodeW_len {leaf : Bool} {ks vs : List Int} {l : List Nat} (h : nodeW leaf ks vs = some l) : l.length = 240 := by
  obtain ⟨rfl, hok⟩ := nodeW_some h
  obtain ⟨_, h2, _⟩ := nodeOk_iff hok
  exact fill_length _ _ (by rw [nodeB_len]; omega)
theorem node_fields {leaf : Bool} {ks vs : List Int} {l : List Nat} (h : nodeW leaf ks vs = some l) :
    decide (num l 0 1 = 1) = leaf ∧ num l 1 1 = ks.length ∧ numsAt l 2 6 4 ks.length = ks ∧ numsAt l 6 6 2 ks.length = vs := by
  obtain ⟨hl, hok⟩ := nodeW_some h
  obtain ⟨h1, h2, hk, hv⟩ := nodeOk_iff hok
  have hq : l = nodeB leaf ks vs ++ List.replicate (240 - (nodeB leaf ks vs).length) 0 := hl
  generalize List.replicate (240 - (nodeB leaf ks vs).length) 0 = q at hq
  clear hl h
  have hki : ∀ i, i < ks.length → ∃ r, l = (be 1 (if leaf then 1 else 0) ++ (be 1 ks.length ++ pairsB ks vs i)) ++ (be 4 (ks.getD i 0).toNat ++ (be 2 (vs.getD i 0).toNat ++ r)) := by
    intro i hi
    obtain ⟨r, hr⟩ := pairsB_split ks vs ks.length i hi
    exact ⟨r ++ q, by rw [hq, nodeB, hr]; simp⟩
  refine ⟨?_, ?_, ?_, ?_⟩
  · have e : num l 0 1 = if leaf then 1 else 0 := num_midN [] (be 1 ks.length ++ pairsB ks vs ks.length ++ q) l 0 1 _ (by rw [hq, nodeB]; simp) rfl (by cases leaf <;> decide)
    rw [e]
    cases leaf <;> rfl
  · exact num_midN (be 1 (if leaf then 1 else 0)) (pairsB ks vs ks.length ++ q) l 1 1 _ (by rw [hq, nodeB]; simp) (by rw [be_length]) (by omega)
  · apply List.ext_getElem (by rw [numsAt_length])
    intro i hi1 hi2
    rw [numsAt_length] at hi1
    simp only [numsAt, List.getElem_map, List.getElem_range]
    obtain ⟨r, hr⟩ := hki i hi1
    have hb := allB_yes hk i hi1
    have hg : ks.getD i 0 = ks[i] := by simp [List.getD_eq_getElem?_getD, hi2]
    rw [← hg]
    exact num_mid (be 1 (if leaf then 1 else 0) ++ (be 1 ks.length ++ pairsB ks vs i)) (be 2 (vs.getD i 0).toNat ++ r) l (2 + 6 * i) 4 _ hr (by simp only [List.length_append, be_length, pairsB_len]; omega) hb.1 (by omega)
  · apply List.ext_getElem (by rw [numsAt_length]; exact h1)
    intro i hi1 hi2
    rw [numsAt_length] at hi1
    simp only [numsAt, List.getElem_map, List.getElem_range]
    obtain ⟨r, hr⟩ := hki i hi1
    have hb := allB_yes hv i hi2
    have hg : vs.getD i 0 = vs[i] := by simp [List.getD_eq_getElem?_getD, hi2]
    rw [← hg]
    refine num_mid (be 1 (if leaf then 1 else 0) ++ (be 1 ks.length ++ pairsB ks vs i) ++ be 4 (ks.getD i 0).toNat) r l (6 + 6 * i) 2 _ (by rw [hr]; simp) (by simp only [List.length_append, be_length, pairsB_len]; omega) hb.1 (by omega)
/-- What is read as a node: leaf, keys, values. -/
def nodeR (l : List Nat) : Option (Bool × List Int × List Int) :=
  if nodeW (decide (num l 0 1 = 1)) (numsAt l 2 6 4 (min (num l 1 1) 8)) (numsAt l 6 6 2 (min (num l 1 1) 8)) = some l then some (decide (num l 0 1 = 1), numsAt l 2 6 4 (min (num l 1 1) 8), numsAt l 6 6 2 (min (num l 1 1) 8)) else none
theorem nodeR_of {leaf : Bool} {ks vs : List Int} {l : List Nat} (h : nodeW leaf ks vs = some l) : nodeR l = some (leaf, ks, vs) := by
  obtain ⟨h1, h2, h3, h4⟩ := node_fields h
  obtain ⟨_, n2, _⟩ := nodeOk_iff (nodeW_some h).2
  rw [nodeR, h1, h2, Nat.min_eq_left n2, h3, h4, if_pos h]
theorem nodeR_none (l : List Nat) (h : l.length ≠ 240) : nodeR l = none := by rw [nodeR, if_neg (fun e => h (nodeW_len e))]
end Go.Proofs.Ytpdkjgmldlpaaaa.Codec
