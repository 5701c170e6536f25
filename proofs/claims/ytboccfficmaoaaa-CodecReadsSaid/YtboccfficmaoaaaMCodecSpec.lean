/- Texts of this seat's proofs: CodecSpec, CodecSpec2, CodecSpec3, CodecSpec4. -/
import Derived.Test.YtboccfficmaoaaaMCrcMath
import Derived.RowKit
/- Records as bytes: what may be written, as which bytes; what is read: what may be written and whose bytes these are. No program is named. -/
namespace Go.Proofs.Ytboccfficmaoaaa.Codec
open Go.RowKit CrcMath CodecMath

/-- Is a number 0 to most? -/
def inB (n m : Int) : Bool := decide (0 ≤ n) && decide (n ≤ m)
theorem inB_yes {n m : Int} (h : inB n m = true) : 0 ≤ n ∧ n ≤ m := by simpa [inB] using h
theorem inB_no {n m : Int} (h : inB n m = false) : ¬ (0 ≤ n ∧ n ≤ m) := by intro hh; rw [inB] at h; simp [hh.1, hh.2] at h
theorem inB_mk {n m : Int} (h : 0 ≤ n ∧ n ≤ m) : inB n m = true := by simp [inB, h.1, h.2]
theorem inB_not {n m : Int} (h : ¬ (0 ≤ n ∧ n ≤ m)) : inB n m = false := by
  cases hb : inB n m with
  | false => rfl
  | true => exact absurd (inB_yes hb) h

theorem wrap64_of {n : Nat} (h : n ≤ 9223372036854775807) : wrap64 (n : Int) = n := by unfold wrap64; omega
/-- A sector begins with what was put into it. -/
theorem frame_split (l : List Nat) : ∃ q, frame l = l ++ q := ⟨List.replicate (252 - l.length) 0 ++ le4 (M 0 (fill l 252)), by simp [frame, fill]⟩
/-- Numbers of one width that stand one behind the other are read as they were written. -/
theorem num_flat (pre post : List Nat) (s : List Int) (k i : Nat) (hi : i < s.length) (h : (s.getD i 0).toNat < 256 ^ k) :
    num (pre ++ s.flatMap (fun n => be k n.toNat) ++ post) (pre.length + k * i) k = (s.getD i 0).toNat := by
  have hs : s = s.take i ++ ([s.getD i 0] ++ s.drop (i + 1)) := by
    rw [List.getD_eq_getElem?_getD, List.getElem?_eq_getElem hi]
    simp
  have hl : (pre ++ (s.take i).flatMap (fun n => be k n.toNat)).length = pre.length + k * i := by
    have : ∀ t : List Int, (t.flatMap fun n => be k n.toNat).length = k * t.length := by
      intro t
      induction t with
      | nil => rfl
      | cons a t ih => simp only [List.flatMap_cons, List.length_append, be_length, ih, List.length_cons]; rw [Nat.mul_add]; omega
    rw [List.length_append, this, List.length_take, Nat.min_eq_left (by omega)]
  have e : pre ++ s.flatMap (fun n => be k n.toNat) ++ post = (pre ++ (s.take i).flatMap fun n => be k n.toNat) ++ (be k (s.getD i 0).toNat ++ ((s.drop (i + 1)).flatMap (fun n => be k n.toNat) ++ post)) := by
    conv => lhs; rw [hs]
    simp
  rw [e, ← hl, num_put _ _ _ _ h]

/-! ### Superblocks -/
def superOk (s : List Int) : Bool := s.all fun n => inB n 1099511627776
def superB (s : List Int) : List Nat := [80, 83, 85, 80] ++ s.flatMap fun n => be 8 n.toNat
def superW (s : List Int) : Option (List Nat) := if superOk s then some (frame (superB s)) else none
theorem flat_len (k : Nat) (s : List Int) : (s.flatMap fun n => be k n.toNat).length = k * s.length := by
  induction s with
  | nil => rfl
  | cons a s ih => simp only [List.flatMap_cons, List.length_append, be_length, ih, List.length_cons]; rw [Nat.mul_add]; omega
theorem flat_lt (k : Nat) (s : List Int) : ∀ x ∈ s.flatMap (fun n => be k n.toNat), x < 256 := by
  intro x hx
  obtain ⟨n, _, hn⟩ := List.mem_flatMap.1 hx
  exact be_lt k _ x hn
theorem superB_lt (s : List Int) : ∀ x ∈ superB s, x < 256 := by
  intro x hx
  rcases List.mem_append.1 hx with hx | hx
  · simp at hx; omega
  · exact flat_lt 8 s x hx
theorem superB_len (s : List Int) (h : s.length = 7) : (superB s).length = 60 := by rw [superB, List.length_append, flat_len, h]; rfl
theorem superW_no (s : List Int) (j : Nat) (hj : j < s.length) (h : inB (s.getD j 0) 1099511627776 = false) : superW s = none := by
  have hm : s.getD j 0 ∈ s := by rw [List.getD_eq_getElem?_getD, List.getElem?_eq_getElem hj]; exact List.getElem_mem hj
  have : superOk s = false := by
    rw [superOk, List.all_eq_false]
    exact ⟨_, hm, by rw [h]; simp⟩
  simp [superW, this]
theorem superW_yes (s : List Int) (n : Nat) (hn : s.length = n) (h : ∀ j, j < n → inB (s.getD j 0) 1099511627776 = true) : superW s = some (frame (superB s)) := by
  have : superOk s = true := by
    rw [superOk, List.all_eq_true]
    intro x hx
    obtain ⟨i, hi, rfl⟩ := List.getElem_of_mem hx
    have := h i (by omega)
    simpa [List.getD_eq_getElem?_getD, hi] using this
  simp [superW, this]
theorem take_flat (s : List Int) (k j : Nat) (hj : j < s.length) : (s.take (j + 1)).flatMap (fun n => be k n.toNat) = (s.take j).flatMap (fun n => be k n.toNat) ++ be k (s.getD j 0).toNat := by
  rw [List.take_succ_eq_append_getElem hj, List.flatMap_append]
  simp [List.getD_eq_getElem?_getD, hj]

/-- What is read as a superblock: the numbers whose bytes these are. -/
def superN (l : List Nat) : List Int := [wrap64 (num l 4 8), wrap64 (num l 12 8), wrap64 (num l 20 8), wrap64 (num l 28 8), wrap64 (num l 36 8), wrap64 (num l 44 8), wrap64 (num l 52 8)]
def superR (l : List Nat) : Option (List Int) := if superW (superN l) = some l then some (superN l) else none
theorem superW_some {s : List Int} {l : List Nat} (h : superW s = some l) : l = frame (superB s) ∧ ∀ j, j < s.length → 0 ≤ s.getD j 0 ∧ s.getD j 0 ≤ 1099511627776 := by
  unfold superW at h
  split at h
  · rename_i hok
    refine ⟨by injection h with h; exact h.symm, fun j hj => inB_yes (List.all_eq_true.1 hok _ ?_)⟩
    rw [List.getD_eq_getElem?_getD, List.getElem?_eq_getElem hj]
    exact List.getElem_mem hj
  · cases h
theorem superN_of {s : List Int} {l : List Nat} (hs : s.length = 7) (h : superW s = some l) : superN l = s := by
  obtain ⟨hl, hb⟩ := superW_some h
  obtain ⟨q, hq⟩ := frame_split (superB s)
  rw [hq] at hl
  clear hq h
  have hn : ∀ i, i < 7 → wrap64 (num l (4 + 8 * i) 8 : Nat) = s.getD i 0 := by
    intro i hi
    have hbi := hb i (by omega)
    have h1 := num_flat [80, 83, 85, 80] q s 8 i (by omega) (by omega)
    rw [hl]
    unfold superB
    rw [show 4 + 8 * i = ([80, 83, 85, 80] : List Nat).length + 8 * i from rfl, h1, wrap64_of (by omega)]
    omega
  clear hl hb
  have h0 : wrap64 (num l 4 8 : Nat) = s.getD 0 0 := hn 0 (by omega)
  have h1 : wrap64 (num l 12 8 : Nat) = s.getD 1 0 := hn 1 (by omega)
  have h2 : wrap64 (num l 20 8 : Nat) = s.getD 2 0 := hn 2 (by omega)
  have h3 : wrap64 (num l 28 8 : Nat) = s.getD 3 0 := hn 3 (by omega)
  have h4 : wrap64 (num l 36 8 : Nat) = s.getD 4 0 := hn 4 (by omega)
  have h5 : wrap64 (num l 44 8 : Nat) = s.getD 5 0 := hn 5 (by omega)
  have h6 : wrap64 (num l 52 8 : Nat) = s.getD 6 0 := hn 6 (by omega)
  clear hn
  unfold superN
  rw [h0, h1, h2, h3, h4, h5, h6]
  clear h0 h1 h2 h3 h4 h5 h6
  match s, hs with
  | [a0, a1, a2, a3, a4, a5, a6], _ => rfl
/-- What was written is read. -/
theorem superR_of {s : List Int} {l : List Nat} (hs : s.length = 7) (h : superW s = some l) : superR l = some s := by
  have e := superN_of hs h
  rw [superR, e, if_pos h]
/-- What is read may be written, and these are its bytes. -/
theorem superR_some {s : List Int} {l : List Nat} (h : superR l = some s) : superW s = some l ∧ s.length = 7 := by
  unfold superR at h
  split at h
  · injection h with h
    subst h
    exact ⟨by assumption, rfl⟩
  · cases h
theorem superR_none (l : List Nat) (h : l.length ≠ 256) : superR l = none := by
  cases hr : superR l with
  | none => rfl
  | some s =>
    obtain ⟨h1, h2⟩ := superR_some hr
    obtain ⟨rfl, _⟩ := superW_some h1
    exact absurd (frame_length _ (by rw [superB_len s h2]; omega)) h
theorem superW_len {s : List Int} {l : List Nat} (hs : s.length = 7) (h : superW s = some l) : l.length = 256 := by
  obtain ⟨rfl, _⟩ := superW_some h
  exact frame_length _ (by rw [superB_len s hs]; omega)
/-- A reader that finds what may be written and whose bytes these are, or nothing where there is none, is just this one. -/
theorem superR_is (l : List Nat) (o : Option (List Int)) (h1 : ∀ s, o = some s → s.length = 7 ∧ superW s = some l) (h2 : o = none → ∀ s, s.length = 7 → superW s ≠ some l) : superR l = o := by
  cases o with
  | some s => obtain ⟨a, b⟩ := h1 s rfl; exact superR_of a b
  | none =>
    cases hr : superR l with
    | none => rfl
    | some s => obtain ⟨a, b⟩ := superR_some hr; exact absurd a (h2 rfl s b)
end Go.Proofs.Ytboccfficmaoaaa.Codec
/- Records as bytes: pages, images of a log, counts. No program is named. -/
namespace Go.Proofs.Ytboccfficmaoaaa.Codec
open Go.RowKit CrcMath CodecMath

/-- A number of one width at a place, whatever stands ahead of it and behind it. -/
theorem num_mid (p q l : List Nat) (a k : Nat) (n : Int) (hl : l = p ++ (be k n.toNat ++ q)) (ha : p.length = a) (h0 : 0 ≤ n) (h : n.toNat < 256 ^ k) : (num l a k : Int) = n := by
  subst ha
  rw [hl, num_put _ _ _ _ h]
  omega

/-! ### Pages -/
def pageOk (number kind : Int) (body : List Nat) : Bool := decide (1 ≤ kind) && decide (kind ≤ 5) && inB number 1023 && decide (body.length = 240) && body.all fun x => decide (x < 256)
def pageB (number kind : Int) (body : List Nat) : List Nat := [80, 80, 65, 71] ++ (be 1 kind.toNat ++ (be 4 number.toNat ++ ([0, 0, 0] ++ body)))
def pageW (number kind : Int) (body : List Nat) : Option (List Nat) := if pageOk number kind body then some (frame (pageB number kind body)) else none
theorem pageOk_iff {number kind : Int} {body : List Nat} (h : pageOk number kind body = true) : (1 ≤ kind ∧ kind ≤ 5) ∧ (0 ≤ number ∧ number ≤ 1023) ∧ body.length = 240 ∧ ∀ x ∈ body, x < 256 := by
  simp only [pageOk, Bool.and_eq_true, decide_eq_true_eq, List.all_eq_true] at h
  exact ⟨h.1.1.1, inB_yes h.1.1.2, h.1.2, h.2⟩
theorem pageOk_mk {number kind : Int} {body : List Nat} (h : (1 ≤ kind ∧ kind ≤ 5) ∧ (0 ≤ number ∧ number ≤ 1023) ∧ body.length = 240 ∧ ∀ x ∈ body, x < 256) : pageOk number kind body = true := by
  simp only [pageOk, Bool.and_eq_true, decide_eq_true_eq, List.all_eq_true]
  exact ⟨⟨⟨h.1, inB_mk h.2.1⟩, h.2.2.1⟩, h.2.2.2⟩
theorem pageB_len (number kind : Int) (body : List Nat) (h : body.length = 240) : (pageB number kind body).length = 252 := by simp [pageB, be_length, h]
theorem pageB_lt (number kind : Int) (body : List Nat) (h : ∀ x ∈ body, x < 256) : ∀ x ∈ pageB number kind body, x < 256 := by
  intro x hx
  simp only [pageB, List.mem_append] at hx
  rcases hx with hx | hx | hx | hx | hx
  · simp at hx; omega
  · exact be_lt _ _ x hx
  · exact be_lt _ _ x hx
  · simp at hx; omega
  · exact h x hx
theorem pageW_some {number kind : Int} {body l : List Nat} (h : pageW number kind body = some l) : l = frame (pageB number kind body) ∧ pageOk number kind body = true := by
  unfold pageW at h
  split at h
  · rename_i hok
    exact ⟨by injection h with h; exact h.symm, hok⟩
  · cases h
theorem pageW_len {number kind : Int} {body l : List Nat} (h : pageW number kind body = some l) : l.length = 256 := by
  obtain ⟨rfl, hok⟩ := pageW_some h
  exact frame_length _ (by rw [pageB_len _ _ _ (pageOk_iff hok).2.2.1]; omega)
/-- What a page's fields are read as. -/
def bodyOf (l : List Nat) : List Nat := (l.drop 12).take 240
theorem page_fields {number kind : Int} {body l : List Nat} (h : pageW number kind body = some l) : (num l 4 1 : Int) = kind ∧ (num l 5 4 : Int) = number ∧ bodyOf l = body ∧ l.getD 0 0 = 80 := by
  obtain ⟨hl, hok⟩ := pageW_some h
  obtain ⟨⟨k1, k2⟩, ⟨n1, n2⟩, hb, _⟩ := pageOk_iff hok
  obtain ⟨q, hq⟩ := frame_split (pageB number kind body)
  rw [hq] at hl
  clear hq h
  refine ⟨?_, ?_, ?_, ?_⟩
  · exact num_mid [80, 80, 65, 71] (be 4 number.toNat ++ ([0, 0, 0] ++ body) ++ q) l 4 1 kind (by rw [hl, pageB]; simp) rfl (by omega) (by omega)
  · exact num_mid ([80, 80, 65, 71] ++ be 1 kind.toNat) ([0, 0, 0] ++ body ++ q) l 5 4 number (by rw [hl, pageB]; simp) (by simp [be_length]) (by omega) (by omega)
  · rw [hl, pageB, bodyOf]
    have e : [80, 80, 65, 71] ++ (be 1 kind.toNat ++ (be 4 number.toNat ++ ([0, 0, 0] ++ body))) ++ q = ([80, 80, 65, 71] ++ (be 1 kind.toNat ++ (be 4 number.toNat ++ [0, 0, 0]))) ++ (body ++ q) := by simp
    rw [e, List.drop_append_of_le_length (by simp [be_length]), List.drop_of_length_le (by simp [be_length]), List.nil_append, ← hb, List.take_left]
  · rw [hl, pageB]; rfl
def zeros : List Nat := List.replicate 256 0
theorem zeros_len : zeros.length = 256 := List.length_replicate
theorem zeros_first : zeros.getD 0 0 = 0 := rfl
/-- What is read as the page of a number: its kind and its body; a page that was never written has none. -/
def pageR (l : List Nat) (number : Int) : Option (Int × List Nat) :=
  if l = zeros then some (0, []) else if pageW number (num l 4 1) (bodyOf l) = some l then some ((num l 4 1 : Int), bodyOf l) else none
theorem pageR_of {number kind : Int} {body l : List Nat} (h : pageW number kind body = some l) : pageR l number = some (kind, body) := by
  obtain ⟨h1, _, h2, h3⟩ := page_fields h
  rw [pageR, if_neg (fun e => by rw [e, zeros_first] at h3; omega), h1, h2, if_pos h]
theorem pageR_other {number kind other : Int} {body l : List Nat} (h : pageW number kind body = some l) (ho : other ≠ number) : pageR l other = none := by
  obtain ⟨h1, h4, h2, h3⟩ := page_fields h
  rw [pageR, if_neg (fun e => by rw [e, zeros_first] at h3; omega), if_neg (fun e => ?_)]
  obtain ⟨_, h5, _, _⟩ := page_fields e
  omega
theorem pageR_zero (number : Int) : pageR zeros number = some (0, []) := by rw [pageR, if_pos rfl]
theorem pageR_none (l : List Nat) (number : Int) (h : l.length ≠ 256) : pageR l number = none := by
  rw [pageR, if_neg (fun e => h (by rw [e, zeros_len])), if_neg (fun e => h (pageW_len e))]

/-! ### Images in a log -/
def imageOk (epoch seq number kind : Int) (body : List Nat) : Bool := pageOk number kind body && inB epoch 4294967295 && inB seq 1099511627775
def imageB (epoch seq number kind : Int) (body : List Nat) : List Nat := be 1 kind.toNat ++ (be 2 number.toNat ++ (be 4 epoch.toNat ++ (be 5 seq.toNat ++ body)))
def imageW (epoch seq number kind : Int) (body : List Nat) : Option (List Nat) := if imageOk epoch seq number kind body then some (frame (imageB epoch seq number kind body)) else none
theorem imageB_len (epoch seq number kind : Int) (body : List Nat) (h : body.length = 240) : (imageB epoch seq number kind body).length = 252 := by simp [imageB, be_length, h]
theorem imageB_lt (epoch seq number kind : Int) (body : List Nat) (h : ∀ x ∈ body, x < 256) : ∀ x ∈ imageB epoch seq number kind body, x < 256 := by
  intro x hx
  simp only [imageB, List.mem_append] at hx
  rcases hx with hx | hx | hx | hx | hx
  · exact be_lt _ _ x hx
  · exact be_lt _ _ x hx
  · exact be_lt _ _ x hx
  · exact be_lt _ _ x hx
  · exact h x hx
theorem imageW_some {epoch seq number kind : Int} {body l : List Nat} (h : imageW epoch seq number kind body = some l) : l = frame (imageB epoch seq number kind body) ∧ pageOk number kind body = true ∧ (0 ≤ epoch ∧ epoch ≤ 4294967295) ∧ (0 ≤ seq ∧ seq ≤ 1099511627775) := by
  unfold imageW at h
  split at h
  · rename_i hok
    simp only [imageOk, Bool.and_eq_true] at hok
    exact ⟨by injection h with h; exact h.symm, hok.1.1, inB_yes hok.1.2, inB_yes hok.2⟩
  · cases h
theorem imageW_len {epoch seq number kind : Int} {body l : List Nat} (h : imageW epoch seq number kind body = some l) : l.length = 256 := by
  obtain ⟨rfl, hok, _⟩ := imageW_some h
  exact frame_length _ (by rw [imageB_len _ _ _ _ _ (pageOk_iff hok).2.2.1]; omega)
theorem image_fields {epoch seq number kind : Int} {body l : List Nat} (h : imageW epoch seq number kind body = some l) : (num l 0 1 : Int) = kind ∧ (num l 1 2 : Int) = number ∧ (num l 3 4 : Int) = epoch ∧ (num l 7 5 : Int) = seq ∧ bodyOf l = body := by
  obtain ⟨hl, hok, he, hs⟩ := imageW_some h
  obtain ⟨⟨k1, k2⟩, ⟨n1, n2⟩, hb, _⟩ := pageOk_iff hok
  obtain ⟨q, hq⟩ := frame_split (imageB epoch seq number kind body)
  rw [hq] at hl
  clear hq h
  refine ⟨?_, ?_, ?_, ?_, ?_⟩
  · exact num_mid [] (be 2 number.toNat ++ (be 4 epoch.toNat ++ (be 5 seq.toNat ++ body)) ++ q) l 0 1 kind (by rw [hl, imageB]; simp) rfl (by omega) (by omega)
  · exact num_mid (be 1 kind.toNat) (be 4 epoch.toNat ++ (be 5 seq.toNat ++ body) ++ q) l 1 2 number (by rw [hl, imageB]; simp) (by simp [be_length]) (by omega) (by omega)
  · exact num_mid (be 1 kind.toNat ++ be 2 number.toNat) (be 5 seq.toNat ++ body ++ q) l 3 4 epoch (by rw [hl, imageB]; simp) (by simp [be_length]) (by omega) (by omega)
  · exact num_mid (be 1 kind.toNat ++ (be 2 number.toNat ++ be 4 epoch.toNat)) (body ++ q) l 7 5 seq (by rw [hl, imageB]; simp) (by simp [be_length]) (by omega) (by omega)
  · rw [hl, imageB, bodyOf]
    have e : be 1 kind.toNat ++ (be 2 number.toNat ++ (be 4 epoch.toNat ++ (be 5 seq.toNat ++ body))) ++ q = (be 1 kind.toNat ++ (be 2 number.toNat ++ (be 4 epoch.toNat ++ be 5 seq.toNat))) ++ (body ++ q) := by simp
    rw [e, List.drop_append_of_le_length (by simp [be_length]), List.drop_of_length_le (by simp [be_length]), List.nil_append, ← hb, List.take_left]
/-- What is read as an image: epoch, seq, number, kind, body. -/
def imageR (l : List Nat) : Option (Int × Int × Int × Int × List Nat) :=
  if imageW (num l 3 4) (num l 7 5) (num l 1 2) (num l 0 1) (bodyOf l) = some l then some ((num l 3 4 : Int), (num l 7 5 : Int), (num l 1 2 : Int), (num l 0 1 : Int), bodyOf l) else none
theorem imageR_of {epoch seq number kind : Int} {body l : List Nat} (h : imageW epoch seq number kind body = some l) : imageR l = some (epoch, seq, number, kind, body) := by
  obtain ⟨h1, h2, h3, h4, h5⟩ := image_fields h
  rw [imageR, h1, h2, h3, h4, h5, if_pos h]
theorem imageR_none (l : List Nat) (h : l.length ≠ 256) : imageR l = none := by
  rw [imageR, if_neg (fun e => h (imageW_len e))]

/-! ### Counts -/
def allB (s : List Int) (m : Int) : Bool := s.all fun n => inB n m
theorem allB_yes {s : List Int} {m : Int} (h : allB s m = true) (j : Nat) (hj : j < s.length) : 0 ≤ s.getD j 0 ∧ s.getD j 0 ≤ m := by
  refine inB_yes (List.all_eq_true.1 h _ ?_)
  rw [List.getD_eq_getElem?_getD, List.getElem?_eq_getElem hj]
  exact List.getElem_mem hj
theorem allB_mk {s : List Int} {m : Int} (n : Nat) (hn : s.length = n) (h : ∀ j, j < n → inB (s.getD j 0) m = true) : allB s m = true := by
  rw [allB, List.all_eq_true]
  intro x hx
  obtain ⟨i, hi, rfl⟩ := List.getElem_of_mem hx
  have := h i (by omega)
  simpa [List.getD_eq_getElem?_getD, hi] using this
theorem allB_no {s : List Int} {m : Int} (j : Nat) (hj : j < s.length) (h : inB (s.getD j 0) m = false) : allB s m = false := by
  have hm : s.getD j 0 ∈ s := by rw [List.getD_eq_getElem?_getD, List.getElem?_eq_getElem hj]; exact List.getElem_mem hj
  rw [allB, List.all_eq_false]
  exact ⟨_, hm, by rw [h]; simp⟩
/-- So many numbers of one width, read one behind the other from a place on. -/
def numsAt (l : List Nat) (a step k n : Nat) : List Int := (List.range n).map fun i => (num l (a + step * i) k : Int)
theorem numsAt_length (l : List Nat) (a step k n : Nat) : (numsAt l a step k n).length = n := by simp [numsAt]
theorem numsAt_succ (l : List Nat) (a step k n : Nat) : numsAt l a step k (n + 1) = numsAt l a step k n ++ [(num l (a + step * n) k : Int)] := by simp [numsAt, List.range_succ]
theorem numsAt_flat (pre post l : List Nat) (s : List Int) (k : Nat) (hl : l = pre ++ s.flatMap (fun n => be k n.toNat) ++ post) (hb : ∀ j, j < s.length → 0 ≤ s.getD j 0 ∧ (s.getD j 0).toNat < 256 ^ k) :
    numsAt l pre.length k k s.length = s := by
  apply List.ext_getElem (by rw [numsAt_length])
  intro i h1 h2
  rw [numsAt_length] at h1
  simp only [numsAt, List.getElem_map, List.getElem_range]
  have hb' := hb i h1
  rw [hl, num_flat pre post s k i h1 hb'.2]
  have : s.getD i 0 = s[i] := by simp [List.getD_eq_getElem?_getD, h2]
  rw [← this]
  omega
def countsW (s : List Int) : Option (List Nat) := if decide (s.length = 120) && allB s 1000 then some (s.flatMap fun n => be 2 n.toNat) else none
def countsR (l : List Nat) : Option (List Int) := if countsW (numsAt l 0 2 2 120) = some l then some (numsAt l 0 2 2 120) else none
end Go.Proofs.Ytboccfficmaoaaa.Codec
/- Records as bytes: heads, nodes, counts, catalogues. No program is named. -/
namespace Go.Proofs.Ytboccfficmaoaaa.Codec
open Go.RowKit CrcMath CodecMath

theorem num_midN (p q l : List Nat) (a k n : Nat) (hl : l = p ++ (be k n ++ q)) (ha : p.length = a) (h : n < 256 ^ k) : num l a k = n := by
  subst ha
  rw [hl, num_put _ _ _ _ h]
theorem countsW_some {s : List Int} {l : List Nat} (h : countsW s = some l) : l = s.flatMap (fun n => be 2 n.toNat) ∧ s.length = 120 ∧ allB s 1000 = true := by
  unfold countsW at h
  split at h
  · rename_i hok
    simp only [Bool.and_eq_true, decide_eq_true_eq] at hok
    exact ⟨by injection h with h; exact h.symm, hok⟩
  · cases h
theorem countsW_yes {s : List Int} (h1 : s.length = 120) (h2 : allB s 1000 = true) : countsW s = some (s.flatMap fun n => be 2 n.toNat) := by simp [countsW, h1, h2]
theorem countsW_short {s : List Int} (h1 : s.length ≠ 120) : countsW s = none := by simp [countsW, h1]
theorem countsW_no {s : List Int} (h2 : allB s 1000 = false) : countsW s = none := by simp [countsW, h2]
theorem countsR_of {s : List Int} {l : List Nat} (h : countsW s = some l) : countsR l = some s := by
  obtain ⟨hl, hn, hb⟩ := countsW_some h
  have hs : numsAt l 0 2 2 120 = s := by
    have := numsAt_flat [] [] l s 2 (by simpa using hl) (fun j hj => by have := allB_yes hb j hj; exact ⟨this.1, by omega⟩)
    rwa [hn] at this
  rw [countsR, hs, if_pos h]
theorem countsW_len {s : List Int} {l : List Nat} (h : countsW s = some l) : l.length = 240 := by
  obtain ⟨rfl, hn, _⟩ := countsW_some h
  rw [flat_len, hn]
theorem countsR_none (l : List Nat) (h : l.length ≠ 240) : countsR l = none := by rw [countsR, if_neg (fun e => h (countsW_len e))]

/-! ### Heads -/
def headOk (epoch seq : Int) (pages : List Int) : Bool := inB epoch 1099511627776 && inB seq 1099511627776 && (decide (1 ≤ pages.length) && decide (pages.length ≤ 40)) && allB pages 1023
def headP (epoch seq : Int) (pages : List Int) (sum : Nat) : List Nat := [80, 76, 79, 71] ++ (be 8 epoch.toNat ++ (be 8 seq.toNat ++ (be 4 sum ++ be 2 pages.length)))
def headB (epoch seq : Int) (pages : List Int) (sum : Nat) : List Nat := headP epoch seq pages sum ++ pages.flatMap fun n => be 4 n.toNat
def headW (epoch seq : Int) (pages : List Int) (sum : Nat) : Option (List Nat) := if headOk epoch seq pages then some (frame (headB epoch seq pages sum)) else none
theorem headP_len (epoch seq : Int) (pages : List Int) (sum : Nat) : (headP epoch seq pages sum).length = 26 := by simp [headP, be_length]
theorem headB_len (epoch seq : Int) (pages : List Int) (sum : Nat) : (headB epoch seq pages sum).length = 26 + 4 * pages.length := by rw [headB, List.length_append, headP_len, flat_len]
theorem headB_lt (epoch seq : Int) (pages : List Int) (sum : Nat) : ∀ x ∈ headB epoch seq pages sum, x < 256 := by
  intro x hx
  simp only [headB, headP, List.mem_append] at hx
  rcases hx with (hx | hx | hx | hx | hx) | hx
  · simp at hx; omega
  · exact be_lt _ _ x hx
  · exact be_lt _ _ x hx
  · exact be_lt _ _ x hx
  · exact be_lt _ _ x hx
  · exact flat_lt 4 pages x hx
theorem headOk_iff {epoch seq : Int} {pages : List Int} (h : headOk epoch seq pages = true) : (0 ≤ epoch ∧ epoch ≤ 1099511627776) ∧ (0 ≤ seq ∧ seq ≤ 1099511627776) ∧ 1 ≤ pages.length ∧ pages.length ≤ 40 ∧ allB pages 1023 = true := by
  simp only [headOk, Bool.and_eq_true, decide_eq_true_eq] at h
  exact ⟨inB_yes h.1.1.1, inB_yes h.1.1.2, h.1.2.1, h.1.2.2, h.2⟩
theorem headW_some {epoch seq : Int} {pages : List Int} {sum : Nat} {l : List Nat} (h : headW epoch seq pages sum = some l) : l = frame (headB epoch seq pages sum) ∧ headOk epoch seq pages = true := by
  unfold headW at h
  split at h
  · rename_i hok
    exact ⟨by injection h with h; exact h.symm, hok⟩
  · cases h
theorem headW_len {epoch seq : Int} {pages : List Int} {sum : Nat} {l : List Nat} (h : headW epoch seq pages sum = some l) : l.length = 256 := by
  obtain ⟨rfl, hok⟩ := headW_some h
  obtain ⟨_, _, _, h4, _⟩ := headOk_iff hok
  exact frame_length _ (by rw [headB_len]; omega)
theorem head_fields {epoch seq : Int} {pages : List Int} {sum : Nat} {l : List Nat} (hsum : sum < 4294967296) (h : headW epoch seq pages sum = some l) :
    wrap64 (num l 4 8 : Nat) = epoch ∧ wrap64 (num l 12 8 : Nat) = seq ∧ num l 20 4 = sum ∧ num l 24 2 = pages.length ∧ numsAt l 26 4 4 pages.length = pages := by
  obtain ⟨hl, hok⟩ := headW_some h
  obtain ⟨⟨e1, e2⟩, ⟨s1, s2⟩, n1, n2, hb⟩ := headOk_iff hok
  obtain ⟨q, hq⟩ := frame_split (headB epoch seq pages sum)
  rw [hq] at hl
  clear hq h
  refine ⟨?_, ?_, ?_, ?_, ?_⟩
  · have := num_mid [80, 76, 79, 71] (be 8 seq.toNat ++ (be 4 sum ++ be 2 pages.length) ++ pages.flatMap (fun n => be 4 n.toNat) ++ q) l 4 8 epoch (by rw [hl, headB, headP]; simp) rfl (by omega) (by omega)
    rw [this]; unfold wrap64; omega
  · have := num_mid ([80, 76, 79, 71] ++ be 8 epoch.toNat) ((be 4 sum ++ be 2 pages.length) ++ pages.flatMap (fun n => be 4 n.toNat) ++ q) l 12 8 seq (by rw [hl, headB, headP]; simp) (by simp [be_length]) (by omega) (by omega)
    rw [this]; unfold wrap64; omega
  · exact num_midN ([80, 76, 79, 71] ++ (be 8 epoch.toNat ++ be 8 seq.toNat)) (be 2 pages.length ++ pages.flatMap (fun n => be 4 n.toNat) ++ q) l 20 4 sum (by rw [hl, headB, headP]; simp) (by simp [be_length]) (by omega)
  · exact num_midN ([80, 76, 79, 71] ++ (be 8 epoch.toNat ++ (be 8 seq.toNat ++ be 4 sum))) (pages.flatMap (fun n => be 4 n.toNat) ++ q) l 24 2 pages.length (by rw [hl, headB, headP]; simp) (by simp [be_length]) (by omega)
  · have := numsAt_flat (headP epoch seq pages sum) q l pages 4 (by rw [hl, headB]) (fun j hj => by have := allB_yes hb j hj; exact ⟨this.1, by omega⟩)
    rwa [headP_len] at this
/-- What is read as a head: epoch, seq, pages, sum. -/
def headR (l : List Nat) : Option (Int × Int × List Int × Nat) :=
  if headW (wrap64 (num l 4 8 : Nat)) (wrap64 (num l 12 8 : Nat)) (numsAt l 26 4 4 (min (num l 24 2) 40)) (num l 20 4) = some l then some (wrap64 (num l 4 8 : Nat), wrap64 (num l 12 8 : Nat), numsAt l 26 4 4 (min (num l 24 2) 40), num l 20 4) else none
theorem headR_of {epoch seq : Int} {pages : List Int} {sum : Nat} {l : List Nat} (hsum : sum < 4294967296) (h : headW epoch seq pages sum = some l) : headR l = some (epoch, seq, pages, sum) := by
  obtain ⟨h1, h2, h3, h4, h5⟩ := head_fields hsum h
  obtain ⟨_, _, _, n2, _⟩ := headOk_iff (headW_some h).2
  rw [headR, h1, h2, h3, h4, Nat.min_eq_left n2, h5, if_pos h]
theorem headR_none (l : List Nat) (h : l.length ≠ 256) : headR l = none := by rw [headR, if_neg (fun e => h (headW_len e))]

/-! ### Nodes -/
/-- Pairs of numbers of two widths, one behind the other. -/
def pairsB (ks vs : List Int) (n : Nat) : List Nat := (List.range n).flatMap fun i => be 4 (ks.getD i 0).toNat ++ be 2 (vs.getD i 0).toNat
theorem pairsB_succ (ks vs : List Int) (n : Nat) : pairsB ks vs (n + 1) = pairsB ks vs n ++ (be 4 (ks.getD n 0).toNat ++ be 2 (vs.getD n 0).toNat) := by simp [pairsB, List.range_succ]
theorem pairsB_len (ks vs : List Int) (n : Nat) : (pairsB ks vs n).length = 6 * n := by
  induction n with
  | zero => rfl
  | succ n ih => rw [pairsB_succ, List.length_append, ih, List.length_append, be_length, be_length]; omega
theorem pairsB_lt (ks vs : List Int) (n : Nat) : ∀ x ∈ pairsB ks vs n, x < 256 := by
  intro x hx
  obtain ⟨i, _, hi⟩ := List.mem_flatMap.1 hx
  rcases List.mem_append.1 hi with hi | hi <;> exact be_lt _ _ x hi
theorem pairsB_split (ks vs : List Int) (n i : Nat) (h : i < n) : ∃ q, pairsB ks vs n = pairsB ks vs i ++ (be 4 (ks.getD i 0).toNat ++ (be 2 (vs.getD i 0).toNat ++ q)) := by
  induction n with
  | zero => omega
  | succ n ih =>
    by_cases e : i = n
    · subst e; exact ⟨[], by rw [pairsB_succ]; simp⟩
    · obtain ⟨q, hq⟩ := ih (by omega)
      exact ⟨q ++ (be 4 (ks.getD n 0).toNat ++ be 2 (vs.getD n 0).toNat), by rw [pairsB_succ, hq]; simp⟩
def nodeOk (ks vs : List Int) : Bool := decide (ks.length = vs.length) && decide (ks.length ≤ 8) && allB ks 1048575 && allB vs 1023
def nodeB (leaf : Bool) (ks vs : List Int) : List Nat := be 1 (if leaf then 1 else 0) ++ (be 1 ks.length ++ pairsB ks vs ks.length)
def nodeW (leaf : Bool) (ks vs : List Int) : Option (List Nat) := if nodeOk ks vs then some (fill (nodeB leaf ks vs) 240) else none
theorem nodeB_len (leaf : Bool) (ks vs : List Int) : (nodeB leaf ks vs).length = 2 + 6 * ks.length := by simp only [nodeB, List.length_append, be_length, pairsB_len]; omega
theorem nodeB_lt (leaf : Bool) (ks vs : List Int) : ∀ x ∈ nodeB leaf ks vs, x < 256 := by
  intro x hx
  simp only [nodeB, List.mem_append] at hx
  rcases hx with hx | hx | hx
  · exact be_lt _ _ x hx
  · exact be_lt _ _ x hx
  · exact pairsB_lt ks vs _ x hx
theorem nodeOk_iff {ks vs : List Int} (h : nodeOk ks vs = true) : ks.length = vs.length ∧ ks.length ≤ 8 ∧ allB ks 1048575 = true ∧ allB vs 1023 = true := by
  simp only [nodeOk, Bool.and_eq_true, decide_eq_true_eq] at h
  exact ⟨h.1.1.1, h.1.1.2, h.1.2, h.2⟩
theorem nodeW_some {leaf : Bool} {ks vs : List Int} {l : List Nat} (h : nodeW leaf ks vs = some l) : l = fill (nodeB leaf ks vs) 240 ∧ nodeOk ks vs = true := by
  unfold nodeW at h
  split at h
  · rename_i hok
    exact ⟨by injection h with h; exact h.symm, hok⟩
  · cases h
theorem nodeW_len {leaf : Bool} {ks vs : List Int} {l : List Nat} (h : nodeW leaf ks vs = some l) : l.length = 240 := by
  obtain ⟨rfl, hok⟩ := nodeW_some h
  obtain ⟨_, h2, _⟩ := nodeOk_iff hok
  exact fill_length _ _ (by rw [nodeB_len]; omega)
theorem node_fields {leaf : Bool} {ks vs : List Int} {l : List Nat} (h : nodeW leaf ks vs = some l) :
    decide (num l 0 1 = 1) = leaf ∧ num l 1 1 = ks.length ∧ numsAt l 2 6 4 ks.length = ks ∧ numsAt l 6 6 2 ks.length = vs := by
  obtain ⟨hl, hok⟩ := nodeW_some h
  obtain ⟨h1, h2, hk, hv⟩ := nodeOk_iff hok
  have hq : l = nodeB leaf ks vs ++ List.replicate (240 - (nodeB leaf ks vs).length) 0 := hl
  generalize List.replicate (240 - (nodeB leaf ks vs).length) 0 = q at hq
  clear hl h
  have hki : ∀ i, i < ks.length → ∃ r, l = (be 1 (if leaf then 1 else 0) ++ (be 1 ks.length ++ pairsB ks vs i)) ++ (be 4 (ks.getD i 0).toNat ++ (be 2 (vs.getD i 0).toNat ++ r)) := by
    intro i hi
    obtain ⟨r, hr⟩ := pairsB_split ks vs ks.length i hi
    exact ⟨r ++ q, by rw [hq, nodeB, hr]; simp⟩
  refine ⟨?_, ?_, ?_, ?_⟩
  · have e : num l 0 1 = if leaf then 1 else 0 := num_midN [] (be 1 ks.length ++ pairsB ks vs ks.length ++ q) l 0 1 _ (by rw [hq, nodeB]; simp) rfl (by cases leaf <;> decide)
    rw [e]
    cases leaf <;> rfl
  · exact num_midN (be 1 (if leaf then 1 else 0)) (pairsB ks vs ks.length ++ q) l 1 1 _ (by rw [hq, nodeB]; simp) (by rw [be_length]) (by omega)
  · apply List.ext_getElem (by rw [numsAt_length])
    intro i hi1 hi2
    rw [numsAt_length] at hi1
    simp only [numsAt, List.getElem_map, List.getElem_range]
    obtain ⟨r, hr⟩ := hki i hi1
    have hb := allB_yes hk i hi1
    have hg : ks.getD i 0 = ks[i] := by simp [List.getD_eq_getElem?_getD, hi2]
    rw [← hg]
    exact num_mid (be 1 (if leaf then 1 else 0) ++ (be 1 ks.length ++ pairsB ks vs i)) (be 2 (vs.getD i 0).toNat ++ r) l (2 + 6 * i) 4 _ hr (by simp only [List.length_append, be_length, pairsB_len]; omega) hb.1 (by omega)
  · apply List.ext_getElem (by rw [numsAt_length]; exact h1)
    intro i hi1 hi2
    rw [numsAt_length] at hi1
    simp only [numsAt, List.getElem_map, List.getElem_range]
    obtain ⟨r, hr⟩ := hki i hi1
    have hb := allB_yes hv i hi2
    have hg : vs.getD i 0 = vs[i] := by simp [List.getD_eq_getElem?_getD, hi2]
    rw [← hg]
    refine num_mid (be 1 (if leaf then 1 else 0) ++ (be 1 ks.length ++ pairsB ks vs i) ++ be 4 (ks.getD i 0).toNat) r l (6 + 6 * i) 2 _ (by rw [hr]; simp) (by simp only [List.length_append, be_length, pairsB_len]; omega) hb.1 (by omega)
/-- What is read as a node: leaf, keys, values. -/
def nodeR (l : List Nat) : Option (Bool × List Int × List Int) :=
  if nodeW (decide (num l 0 1 = 1)) (numsAt l 2 6 4 (min (num l 1 1) 8)) (numsAt l 6 6 2 (min (num l 1 1) 8)) = some l then some (decide (num l 0 1 = 1), numsAt l 2 6 4 (min (num l 1 1) 8), numsAt l 6 6 2 (min (num l 1 1) 8)) else none
theorem nodeR_of {leaf : Bool} {ks vs : List Int} {l : List Nat} (h : nodeW leaf ks vs = some l) : nodeR l = some (leaf, ks, vs) := by
  obtain ⟨h1, h2, h3, h4⟩ := node_fields h
  obtain ⟨_, n2, _⟩ := nodeOk_iff (nodeW_some h).2
  rw [nodeR, h1, h2, Nat.min_eq_left n2, h3, h4, if_pos h]
theorem nodeR_none (l : List Nat) (h : l.length ≠ 240) : nodeR l = none := by rw [nodeR, if_neg (fun e => h (nodeW_len e))]
end Go.Proofs.Ytboccfficmaoaaa.Codec
/- Records as bytes: catalogues. Eight volumes stand as 48 numbers. No program is named. -/
namespace Go.Proofs.Ytboccfficmaoaaa.Codec
open Go.RowKit CrcMath CodecMath

/-- A volume's field: its width, and where it stands in the volume's 19 bytes; its greatest value. -/
def wid (r : Nat) : Nat := match r with | 0 => 4 | 1 => 1 | 2 => 4 | 3 => 4 | 4 => 2 | _ => 4
def offF (r : Nat) : Nat := match r with | 0 => 0 | 1 => 4 | 2 => 5 | 3 => 9 | 4 => 13 | _ => 15
def most (r : Nat) : Int := match r with | 0 => 1073741824 | 1 => 2 | 2 => 1048576 | 3 => 1048576 | 4 => 1023 | _ => 1048576
/-- Where the j-th number of the volumes stands, from the first volume on. -/
def pos (j : Nat) : Nat := 19 * (j / 6) + offF (j % 6)
theorem pos_succ (j : Nat) : pos (j + 1) = pos j + wid (j % 6) := by
  obtain ⟨q, r, hr, rfl⟩ : ∃ q r, r < 6 ∧ j = 6 * q + r := ⟨j / 6, j % 6, Nat.mod_lt _ (by omega), by omega⟩
  have e1 : (6 * q + r) / 6 = q := by omega
  have e2 : (6 * q + r) % 6 = r := by omega
  unfold pos
  rw [e1, e2]
  match r, hr with
  | 0, _ => rw [show (6 * q + 0 + 1) / 6 = q from by omega, show (6 * q + 0 + 1) % 6 = 1 from by omega]; rfl
  | 1, _ => rw [show (6 * q + 1 + 1) / 6 = q from by omega, show (6 * q + 1 + 1) % 6 = 2 from by omega]; rfl
  | 2, _ => rw [show (6 * q + 2 + 1) / 6 = q from by omega, show (6 * q + 2 + 1) % 6 = 3 from by omega]; rfl
  | 3, _ => rw [show (6 * q + 3 + 1) / 6 = q from by omega, show (6 * q + 3 + 1) % 6 = 4 from by omega]; rfl
  | 4, _ => rw [show (6 * q + 4 + 1) / 6 = q from by omega, show (6 * q + 4 + 1) % 6 = 5 from by omega]; rfl
  | 5, _ => rw [show (6 * q + 5 + 1) / 6 = q + 1 from by omega, show (6 * q + 5 + 1) % 6 = 0 from by omega]; simp [offF, wid]; omega
/-- The first n numbers of the volumes, as bytes. -/
def volsB (vs : List Int) (n : Nat) : List Nat := (List.range n).flatMap fun j => be (wid (j % 6)) (vs.getD j 0).toNat
theorem volsB_succ (vs : List Int) (n : Nat) : volsB vs (n + 1) = volsB vs n ++ be (wid (n % 6)) (vs.getD n 0).toNat := by simp [volsB, List.range_succ]
theorem volsB_len (vs : List Int) (n : Nat) : (volsB vs n).length = pos n := by
  induction n with
  | zero => rfl
  | succ n ih => rw [volsB_succ, List.length_append, ih, be_length, pos_succ]
theorem volsB_lt (vs : List Int) (n : Nat) : ∀ x ∈ volsB vs n, x < 256 := by
  intro x hx
  obtain ⟨i, _, hi⟩ := List.mem_flatMap.1 hx
  exact be_lt _ _ x hi
theorem volsB_split (vs : List Int) (n i : Nat) (h : i < n) : ∃ q, volsB vs n = volsB vs i ++ (be (wid (i % 6)) (vs.getD i 0).toNat ++ q) := by
  induction n with
  | zero => omega
  | succ n ih =>
    by_cases e : i = n
    · subst e; exact ⟨[], by rw [volsB_succ]; simp⟩
    · obtain ⟨q, hq⟩ := ih (by omega)
      exact ⟨q ++ be (wid (n % 6)) (vs.getD n 0).toNat, by rw [volsB_succ, hq]; simp⟩
def volsOk (vs : List Int) : Bool := (List.range vs.length).all fun j => inB (vs.getD j 0) (most (j % 6))
theorem volsOk_yes {vs : List Int} (h : volsOk vs = true) (j : Nat) (hj : j < vs.length) : 0 ≤ vs.getD j 0 ∧ vs.getD j 0 ≤ most (j % 6) := inB_yes (List.all_eq_true.1 h j (List.mem_range.2 hj))
theorem volsOk_mk {vs : List Int} (h : ∀ j, j < vs.length → inB (vs.getD j 0) (most (j % 6)) = true) : volsOk vs = true := List.all_eq_true.2 fun j hj => h j (List.mem_range.1 hj)
theorem volsOk_no {vs : List Int} (j : Nat) (hj : j < vs.length) (h : inB (vs.getD j 0) (most (j % 6)) = false) : volsOk vs = false := by
  rw [volsOk, List.all_eq_false]
  exact ⟨j, List.mem_range.2 hj, by rw [h]; simp⟩
theorem most_wid (r : Nat) (n : Int) (h : n ≤ most r) : n.toNat < 256 ^ wid r := by
  unfold most at h
  unfold wid
  split at h <;> simp_all <;> omega
def catOk (next : Int) (stack vs : List Int) : Bool := inB next 1073741824 && (decide (stack.length ≤ 8) && decide (vs.length = 48)) && allB stack 1023 && volsOk vs
def catP (next : Int) (stack : List Int) : List Nat := be 4 next.toNat ++ (be 1 stack.length ++ stack.flatMap fun n => be 2 n.toNat)
def catB (next : Int) (stack vs : List Int) : List Nat := fill (catP next stack) 21 ++ volsB vs 48
def catW (next : Int) (stack vs : List Int) : Option (List Nat) := if catOk next stack vs then some (fill (catB next stack vs) 240) else none
theorem catP_len (next : Int) (stack : List Int) : (catP next stack).length = 5 + 2 * stack.length := by simp only [catP, List.length_append, be_length, flat_len]; omega
theorem catP_lt (next : Int) (stack : List Int) : ∀ x ∈ catP next stack, x < 256 := by
  intro x hx
  simp only [catP, List.mem_append] at hx
  rcases hx with hx | hx | hx
  · exact be_lt _ _ x hx
  · exact be_lt _ _ x hx
  · exact flat_lt 2 stack x hx
theorem catB_len (next : Int) (stack vs : List Int) (h : stack.length ≤ 8) : (catB next stack vs).length = 173 := by
  rw [catB, List.length_append, fill_length _ _ (by rw [catP_len]; omega), volsB_len]; rfl
theorem catB_lt (next : Int) (stack vs : List Int) : ∀ x ∈ catB next stack vs, x < 256 := by
  intro x hx
  rcases List.mem_append.1 hx with hx | hx
  · exact fill_lt _ _ (catP_lt next stack) x hx
  · exact volsB_lt vs 48 x hx
theorem catOk_iff {next : Int} {stack vs : List Int} (h : catOk next stack vs = true) : (0 ≤ next ∧ next ≤ 1073741824) ∧ stack.length ≤ 8 ∧ vs.length = 48 ∧ allB stack 1023 = true ∧ volsOk vs = true := by
  simp only [catOk, Bool.and_eq_true, decide_eq_true_eq] at h
  exact ⟨inB_yes h.1.1.1, h.1.1.2.1, h.1.1.2.2, h.1.2, h.2⟩
theorem catW_some {next : Int} {stack vs : List Int} {l : List Nat} (h : catW next stack vs = some l) : l = fill (catB next stack vs) 240 ∧ catOk next stack vs = true := by
  unfold catW at h
  split at h
  · rename_i hok
    exact ⟨by injection h with h; exact h.symm, hok⟩
  · cases h
theorem catW_len {next : Int} {stack vs : List Int} {l : List Nat} (h : catW next stack vs = some l) : l.length = 240 := by
  obtain ⟨rfl, hok⟩ := catW_some h
  obtain ⟨_, h2, _⟩ := catOk_iff hok
  exact fill_length _ _ (by rw [catB_len _ _ _ h2]; omega)
/-- The volumes' numbers, as they are read. -/
def volsN (l : List Nat) : List Int := (List.range 48).map fun j => (num l (21 + pos j) (wid (j % 6)) : Int)
theorem volsN_length (l : List Nat) : (volsN l).length = 48 := by simp [volsN]
theorem cat_fields {next : Int} {stack vs : List Int} {l : List Nat} (h : catW next stack vs = some l) :
    (num l 0 4 : Int) = next ∧ num l 4 1 = stack.length ∧ numsAt l 5 2 2 stack.length = stack ∧ volsN l = vs := by
  obtain ⟨hl, hok⟩ := catW_some h
  obtain ⟨⟨n1, n2⟩, h2, h3, hs, hv⟩ := catOk_iff hok
  have hq : l = catB next stack vs ++ List.replicate (240 - (catB next stack vs).length) 0 := hl
  generalize List.replicate (240 - (catB next stack vs).length) 0 = q at hq
  have hp : ∃ z, fill (catP next stack) 21 = catP next stack ++ z := ⟨_, rfl⟩
  obtain ⟨z, hz⟩ := hp
  have hfl : (fill (catP next stack) 21).length = 21 := fill_length _ _ (by rw [catP_len]; omega)
  clear hl h
  refine ⟨?_, ?_, ?_, ?_⟩
  · exact num_mid [] (be 1 stack.length ++ stack.flatMap (fun n => be 2 n.toNat) ++ z ++ volsB vs 48 ++ q) l 0 4 next (by rw [hq, catB, hz, catP]; simp) rfl n1 (by omega)
  · exact num_midN (be 4 next.toNat) (stack.flatMap (fun n => be 2 n.toNat) ++ z ++ volsB vs 48 ++ q) l 4 1 _ (by rw [hq, catB, hz, catP]; simp) (by rw [be_length]) (by omega)
  · have := numsAt_flat (be 4 next.toNat ++ be 1 stack.length) (z ++ volsB vs 48 ++ q) l stack 2 (by rw [hq, catB, hz, catP]; simp) (fun j hj => by have := allB_yes hs j hj; exact ⟨this.1, by omega⟩)
    rwa [show (be 4 next.toNat ++ be 1 stack.length).length = 5 from by simp [be_length]] at this
  · apply List.ext_getElem (by rw [volsN_length, h3])
    intro i hi1 hi2
    rw [volsN_length] at hi1
    simp only [volsN, List.getElem_map, List.getElem_range]
    obtain ⟨r, hr⟩ := volsB_split vs 48 i hi1
    have hb := volsOk_yes hv i hi2
    have hg : vs.getD i 0 = vs[i] := by simp [List.getD_eq_getElem?_getD, hi2]
    rw [← hg]
    exact num_mid (fill (catP next stack) 21 ++ volsB vs i) (r ++ q) l (21 + pos i) (wid (i % 6)) _ (by rw [hq, catB, hr]; simp) (by rw [List.length_append, hfl, volsB_len]) hb.1 (most_wid _ _ hb.2)
/-- What is read as a catalogue: next, stack, the volumes' numbers. -/
def catR (l : List Nat) : Option (Int × List Int × List Int) :=
  if catW (num l 0 4) (numsAt l 5 2 2 (min (num l 4 1) 8)) (volsN l) = some l then some ((num l 0 4 : Int), numsAt l 5 2 2 (min (num l 4 1) 8), volsN l) else none
theorem catR_of {next : Int} {stack vs : List Int} {l : List Nat} (h : catW next stack vs = some l) : catR l = some (next, stack, vs) := by
  obtain ⟨h1, h2, h3, h4⟩ := cat_fields h
  obtain ⟨_, n2, _⟩ := catOk_iff (catW_some h).2
  rw [catR, h1, h2, Nat.min_eq_left n2, h3, h4, if_pos h]
theorem catR_none (l : List Nat) (h : l.length ≠ 240) : catR l = none := by rw [catR, if_neg (fun e => h (catW_len e))]
end Go.Proofs.Ytboccfficmaoaaa.Codec
