/- Records as bytes: pages, images of a log, counts. No program is named. -/
import Derived.Test.YtpdkjgmldlpaaaaCodecSpec
namespace Go.Proofs.Ytpdkjgmldlpaaaa.Codec
open Go.RowKit CrcMath CodecMath

/-- A number of one width at a place, whatever stands ahead of it and behind it. -/
theorem num_mid (p q l : List Nat) (a k : Nat) (n : Int) (hl : l = p ++ (be k n.toNat ++ q)) (ha : p.length = a) (h0 : 0 ≤ n) (h : n.toNat < 256 ^ k) : (num l a k : Int) = n := by
  subst ha
  rw [hl, num_put _ _ _ _ h]
  omega

/-! ### Pages -/
def pageOk (number kind : Int) (body : List Nat) : Bool := decide (1 ≤ kind) && decide (kind ≤ 5) && inB number 1023 && decide (body.length = 240) && body.all fun x => decide (x < 256)
def pageB (number kind : Int) (body : List Nat) : List Nat := [80, 80, 65, 71] ++ (be 1 kind.toNat ++ (be 4 number.toNat ++ ([0, 0, 0] ++ body)))
def pageW (number kind : Int) (body : List Nat) : Option (List Nat) := if pageOk number kind body then some (frame (pageB number kind body)) else none
theorem pageOk_iff {number kind : Int} {body : List Nat} (h : pageOk number kind body = true) : (1 ≤ kind ∧ kind ≤ 5) ∧ (0 ≤ number ∧ number ≤ 1023) ∧ body.length = 240 ∧ ∀ x ∈ body, x < 256 := by
  simp only [pageOk, Bool.and_eq_true, decide_eq_true_eq, List.all_eq_true] at h
  exact ⟨h.1.1.1, inB_yes h.1.1.2, h.1.2, h.2⟩
theorem pageOk_mk {number kind : Int} {body : List Nat} (h : (1 ≤ kind ∧ kind ≤ 5) ∧ (0 ≤ number ∧ number ≤ 1023) ∧ body.length = 240 ∧ ∀ x ∈ body, x < 256) : pageOk number kind body = true := by
  simp only [pageOk, Bool.and_eq_true, decide_eq_true_eq, List.all_eq_true]
  exact ⟨⟨⟨h.1, inB_mk h.2.1⟩, h.2.2.1⟩, h.2.2.2⟩
theorem pageB_len (number kind : Int) (body : List Nat) (h : body.length = 240) : (pageB number kind body).length = 252 := by simp [pageB, be_length, h]
theorem pageB_lt (number kind : Int) (body : List Nat) (h : ∀ x ∈ body, x < 256) : ∀ x ∈ pageB number kind body, x < 256 := by
  intro x hx
  simp only [pageB, List.mem_append] at hx
  rcases hx with hx | hx | hx | hx | hx
  · simp at hx; omega
  · exact be_lt _ _ x hx
  · exact be_lt _ _ x hx
  · simp at hx; omega
  · exact h x hx
theorem pageW_some {number kind : Int} {body l : List Nat} (h : pageW number kind body = some l) : l = frame (pageB number kind body) ∧ pageOk number kind body = true := by
  unfold pageW at h
  split at h
  · rename_i hok
    exact ⟨by injection h with h; exact h.symm, hok⟩
  · cases h
theorem pageW_len {number kind : Int} {body l : List Nat} (h : pageW number kind body = some l) : l.length = 256 := by
  obtain ⟨rfl, hok⟩ := pageW_some h
  exact frame_length _ (by rw [pageB_len _ _ _ (pageOk_iff hok).2.2.1]; omega)
/-- What a page's fields are read as. -/
def bodyOf (l : List Nat) : List Nat := (l.drop 12).take 240
theorem page_fields {number kind : Int} {body l : List Nat} (h : pageW number kind body = some l) : (num l 4 1 : Int) = kind ∧ (num l 5 4 : Int) = number ∧ bodyOf l = body ∧ l.getD 0 0 = 80 := by
  obtain ⟨hl, hok⟩ := pageW_some h
  obtain ⟨⟨k1, k2⟩, ⟨n1, n2⟩, hb, _⟩ := pageOk_iff hok
  obtain ⟨q, hq⟩ := frame_split (pageB number kind body)
  rw [hq] at hl
  clear hq h
  refine ⟨?_, ?_, ?_, ?_⟩
  · exact num_mid [80, 80, 65, 71] (be 4 number.toNat ++ ([0, 0, 0] ++ body) ++ q) l 4 1 kind (by rw [hl, pageB]; simp) rfl (by omega) (by omega)
  · exact num_mid ([80, 80, 65, 71] ++ be 1 kind.toNat) ([0, 0, 0] ++ body ++ q) l 5 4 number (by rw [hl, pageB]; simp) (by simp [be_length]) (by omega) (by omega)
  · rw [hl, pageB, bodyOf]
    have e : [80, 80, 65, 71] ++ (be 1 kind.toNat ++ (be 4 number.toNat ++ ([0, 0, 0] ++ body))) ++ q = ([80, 80, 65, 71] ++ (be 1 kind.toNat ++ (be 4 number.toNat ++ [0, 0, 0]))) ++ (body ++ q) := by simp
    rw [e, List.drop_append_of_le_length (by simp [be_length]), List.drop_of_length_le (by simp [be_length]), List.nil_append, ← hb, List.take_left]
  · rw [hl, pageB]; rfl
def zeros : List Nat := List.replicate 256 0
theorem zeros_len : zeros.length = 256 := List.length_replicate
theorem zeros_first : zeros.getD 0 0 = 0 := rfl
/-- What is read as the page of a number: its kind and its body; a page that was never written has none. -/
def pageR (l : List Nat) (number : Int) : Option (Int × List Nat) :=
  if l = zeros then some (0, []) else if pageW number (num l 4 1) (bodyOf l) = some l then some ((num l 4 1 : Int), bodyOf l) else none
theorem pageR_of {number kind : Int} {body l : List Nat} (h : pageW number kind body = some l) : pageR l number = some (kind, body) := by
  obtain ⟨h1, _, h2, h3⟩ := page_fields h
  rw [pageR, if_neg (fun e => by rw [e, zeros_first] at h3; omega), h1, h2, if_pos h]
theorem pageR_other {number kind other : Int} {body l : List Nat} (h : pageW number kind body = some l) (ho : other ≠ number) : pageR l other = none := by
  obtain ⟨h1, h4, h2, h3⟩ := page_fields h
  rw [pageR, if_neg (fun e => by rw [e, zeros_first] at h3; omega), if_neg (fun e => ?_)]
  obtain ⟨_, h5, _, _⟩ := page_fields e
  omega
theorem pageR_zero (number : Int) : pageR zeros number = some (0, []) := by rw [pageR, if_pos rfl]
theorem pageR_none (l : List Nat) (number : Int) (h : l.length ≠ 256) : pageR l number = none := by
  rw [pageR, if_neg (fun e => h (by rw [e, zeros_len])), if_neg (fun e => h (pageW_len e))]

/-! ### Images in a log -/
def imageOk (epoch seq number kind : Int) (body : List Nat) : Bool := pageOk number kind body && inB epoch 4294967295 && inB seq 1099511627775
def imageB (epoch seq number kind : Int) (body : List Nat) : List Nat := be 1 kind.toNat ++ (be 2 number.toNat ++ (be 4 epoch.toNat ++ (be 5 seq.toNat ++ body)))
def imageW (epoch seq number kind : Int) (body : List Nat) : Option (List Nat) := if imageOk epoch seq number kind body then some (frame (imageB epoch seq number kind body)) else none
theorem imageB_len (epoch seq number kind : Int) (body : List Nat) (h : body.length = 240) : (imageB epoch seq number kind body).length = 252 := by simp [imageB, be_length, h]
theorem imageB_lt (epoch seq number kind : Int) (body : List Nat) (h : ∀ x ∈ body, x < 256) : ∀ x ∈ imageB epoch seq number kind body, x < 256 := by
  intro x hx
  simp only [imageB, List.mem_append] at hx
  rcases hx with hx | hx | hx | hx | hx
  · exact be_lt _ _ x hx
  · exact be_lt _ _ x hx
  · exact be_lt _ _ x hx
  · exact be_lt _ _ x hx
  · exact h x hx
theorem imageW_some {epoch seq number kind : Int} {body l : List Nat} (h : imageW epoch seq number kind body = some l) : l = frame (imageB epoch seq number kind body) ∧ pageOk number kind body = true ∧ (0 ≤ epoch ∧ epoch ≤ 4294967295) ∧ (0 ≤ seq ∧ seq ≤ 1099511627775) := by
  unfold imageW at h
  split at h
  · rename_i hok
    simp only [imageOk, Bool.and_eq_true] at hok
    exact ⟨by injection h with h; exact h.symm, hok.1.1, inB_yes hok.1.2, inB_yes hok.2⟩
  · cases h
theorem imageW_len {epoch seq number kind : Int} {body l : List Nat} (h : imageW epoch seq number kind body = some l) : l.length = 256 := by
  obtain ⟨rfl, hok, _⟩ := imageW_some h
  exact frame_length _ (by rw [imageB_len _ _ _ _ _ (pageOk_iff hok).2.2.1]; omega)
theorem image_fields {epoch seq number kind : Int} {body l : List Nat} (h : imageW epoch seq number kind body = some l) : (num l 0 1 : Int) = kind ∧ (num l 1 2 : Int) = number ∧ (num l 3 4 : Int) = epoch ∧ (num l 7 5 : Int) = seq ∧ bodyOf l = body := by
  obtain ⟨hl, hok, he, hs⟩ := imageW_some h
  obtain ⟨⟨k1, k2⟩, ⟨n1, n2⟩, hb, _⟩ := pageOk_iff hok
  obtain ⟨q, hq⟩ := frame_split (imageB epoch seq number kind body)
  rw [hq] at hl
  clear hq h
  refine ⟨?_, ?_, ?_, ?_, ?_⟩
  · exact num_mid [] (be 2 number.toNat ++ (be 4 epoch.toNat ++ (be 5 seq.toNat ++ body)) ++ q) l 0 1 kind (by rw [hl, imageB]; simp) rfl (by omega) (by omega)
  · exact num_mid (be 1 kind.toNat) (be 4 epoch.toNat ++ (be 5 seq.toNat ++ body) ++ q) l 1 2 number (by rw [hl, imageB]; simp) (by simp [be_length]) (by omega) (by omega)
  · exact num_mid (be 1 kind.toNat ++ be 2 number.toNat) (be 5 seq.toNat ++ body ++ q) l 3 4 epoch (by rw [hl, imageB]; simp) (by simp [be_length]) (by omega) (by omega)
  · exact num_mid (be 1 kind.toNat ++ (be 2 number.toNat ++ be 4 epoch.toNat)) (body ++ q) l 7 5 seq (by rw [hl, imageB]; simp) (by simp [be_length]) (by omega) (by omega)
  · rw [hl, imageB, bodyOf]
    have e : be 1 kind.toNat ++ (be 2 number.toNat ++ (be 4 epoch.toNat ++ (be 5 seq.toNat ++ body))) ++ q = (be 1 kind.toNat ++ (be 2 number.toNat ++ (be 4 epoch.toNat ++ be 5 seq.toNat))) ++ (body ++ q) := by simp
    rw [e, List.drop_append_of_le_length (by simp [be_length]), List.drop_of_length_le (by simp [be_length]), List.nil_append, ← hb, List.take_left]
/-- What is read as an image: epoch, seq, number, kind, body. -/
def imageR (l : List Nat) : Option (Int × Int × Int × Int × List Nat) :=
  if imageW (num l 3 4) (num l 7 5) (num l 1 2) (num l 0 1) (bodyOf l) = some l then some ((num l 3 4 : Int), (num l 7 5 : Int), (num l 1 2 : Int), (num l 0 1 : Int), bodyOf l) else none
theorem imageR_of {epoch seq number kind : Int} {body l : List Nat} (h : imageW epoch seq number kind body = some l) : imageR l = some (epoch, seq, number, kind, body) := by
  obtain ⟨h1, h2, h3, h4, h5⟩ := image_fields h
  rw [imageR, h1, h2, h3, h4, h5, if_pos h]
theorem imageR_none (l : List Nat) (h : l.length ≠ 256) : imageR l = none := by
  rw [imageR, if_neg (fun e => h (imageW_len e))]

/-! ### Counts -/
def allB (s : List Int) (m : Int) : Bool := s.all fun n => inB n m
theorem allB_yes {s : List Int} {m : Int} (h : allB s m = true) (j : Nat) (hj : j < s.length) : 0 ≤ s.getD j 0 ∧ s.getD j 0 ≤ m := by
  refine inB_yes (List.all_eq_true.1 h _ ?_)
  rw [List.getD_eq_getElem?_getD, List.getElem?_eq_getElem hj]
  exact List.getElem_mem hj
theorem allB_mk {s : List Int} {m : Int} (n : Nat) (hn : s.length = n) (h : ∀ j, j < n → inB (s.getD j 0) m = true) : allB s m = true := by
  rw [allB, List.all_eq_true]
  intro x hx
  obtain ⟨i, hi, rfl⟩ := List.getElem_of_mem hx
  have := h i (by omega)
  simpa [List.getD_eq_getElem?_getD, hi] using this
theorem allB_no {s : List Int} {m : Int} (j : Nat) (hj : j < s.length) (h : inB (s.getD j 0) m = false) : allB s m = false := by
  have hm : s.getD j 0 ∈ s := by rw [List.getD_eq_getElem?_getD, List.getElem?_eq_getElem hj]; exact List.getElem_mem hj
  rw [allB, List.all_eq_false]
  exact ⟨_, hm, by rw [h]; simp⟩
/-- So many numbers of one width, read one behind the other from a place on. -/
def numsAt (l : List Nat) (a step k n : Nat) : List Int := (List.range n).map fun i => (num l (a + step * i) k : Int)
theorem numsAt_length (l : List Nat) (a step k n : Nat) : (numsAt l a step k n).length = n := by simp [numsAt]
theorem numsAt_succ (l : List Nat) (a step k n : Nat) : numsAt l a step k (n + 1) = numsAt l a step k n ++ [(num l (a + step * n) k : Int)] := by simp [numsAt, List.range_succ]
theorem numsAt_flat (pre post l : List Nat) (s : List Int) (k : Nat) (hl : l = pre ++ s.flatMap (fun n => be k n.toNat) ++ post) (hb : ∀ j, j < s.length → 0 ≤ s.getD j 0 ∧ (s.getD j 0).toNat < 256 ^ k) :
    numsAt l pre.length k k s.length = s := by
  apply List.ext_getElem (by rw [numsAt_length])
  intro i h1 h2
  rw [numsAt_length] at h1
  simp only [numsAt, List.getElem_map, List.getElem_range]
  have hb' := hb i h1
  rw [hl, num_flat pre post s k i h1 hb'.2]
  have : s.getD i 0 = s[i] := by simp [List.getD_eq_getElem?_getD, h2]
  rw [← this]
  omega
def countsW (s : List Int) : Option (List Nat) := if decide (s.length = 120) && allB s 1000 then some (s.flatMap fun n => be 2 n.toNat) else none
def countsR (l : List Nat) : Option (List Int) := if countsW (numsAt l 0 2 2 120) = some l then some (numsAt l 0 2 2 120) else none
end Go.Proofs.Ytpdkjgmldlpaaaa.Codec
