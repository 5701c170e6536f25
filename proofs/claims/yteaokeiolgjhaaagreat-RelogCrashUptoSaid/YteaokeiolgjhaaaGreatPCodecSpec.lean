/- Texts of this seat's proofs: CodecSpec, SupSpec, CodecSpec2, CodecSpec3, LogSpec, StoSpec, LogFindSpec, SupPlain, LogPut, LogChain, LogCrash, LogRing. -/
import Derived.Test.YteaokeiolgjhaaaGreatPCrcMath
import Derived.RowKit
/- Records as bytes: what may be written, as which bytes; what is read: what may be written and whose bytes these are. No program is named. -/
namespace Go.Proofs.YteaokeiolgjhaaaGreat.Codec
open Go.RowKit CrcMath CodecMath

/-- Is a number 0 to most? -/
def inB (n m : Int) : Bool := decide (0 ≤ n) && decide (n ≤ m)
theorem inB_yes {n m : Int} (h : inB n m = true) : 0 ≤ n ∧ n ≤ m := by simpa [inB] using h
theorem inB_no {n m : Int} (h : inB n m = false) : ¬ (0 ≤ n ∧ n ≤ m) := by intro hh; rw [inB] at h; simp [hh.1, hh.2] at h
theorem inB_mk {n m : Int} (h : 0 ≤ n ∧ n ≤ m) : inB n m = true := by simp [inB, h.1, h.2]
theorem inB_not {n m : Int} (h : ¬ (0 ≤ n ∧ n ≤ m)) : inB n m = false := by
  cases hb : inB n m with
  | false => rfl
  | true => exact absurd (inB_yes hb) h

theorem wrap64_of {n : Nat} (h : n ≤ 9223372036854775807) : wrap64 (n : Int) = n := by unfold wrap64; omega
/-- A sector begins with what was put into it. -/
theorem frame_split (l : List Nat) : ∃ q, frame l = l ++ q := ⟨List.replicate (252 - l.length) 0 ++ le4 (M 0 (fill l 252)), by simp [frame, fill]⟩
/-- Numbers of one width that stand one behind the other are read as they were written. -/
theorem num_flat (pre post : List Nat) (s : List Int) (k i : Nat) (hi : i < s.length) (h : (s.getD i 0).toNat < 256 ^ k) :
    num (pre ++ s.flatMap (fun n => be k n.toNat) ++ post) (pre.length + k * i) k = (s.getD i 0).toNat := by
  have hs : s = s.take i ++ ([s.getD i 0] ++ s.drop (i + 1)) := by
    rw [List.getD_eq_getElem?_getD, List.getElem?_eq_getElem hi]
    simp
  have hl : (pre ++ (s.take i).flatMap (fun n => be k n.toNat)).length = pre.length + k * i := by
    have : ∀ t : List Int, (t.flatMap fun n => be k n.toNat).length = k * t.length := by
      intro t
      induction t with
      | nil => rfl
      | cons a t ih => simp only [List.flatMap_cons, List.length_append, be_length, ih, List.length_cons]; rw [Nat.mul_add]; omega
    rw [List.length_append, this, List.length_take, Nat.min_eq_left (by omega)]
  have e : pre ++ s.flatMap (fun n => be k n.toNat) ++ post = (pre ++ (s.take i).flatMap fun n => be k n.toNat) ++ (be k (s.getD i 0).toNat ++ ((s.drop (i + 1)).flatMap (fun n => be k n.toNat) ++ post)) := by
    conv => lhs; rw [hs]
    simp
  rw [e, ← hl, num_put _ _ _ _ h]

/-! ### Superblocks -/
def superOk (s : List Int) : Bool := s.all fun n => inB n 1099511627776
def superB (s : List Int) : List Nat := [80, 83, 85, 80] ++ s.flatMap fun n => be 8 n.toNat
def superW (s : List Int) : Option (List Nat) := if superOk s then some (frame (superB s)) else none
theorem flat_len (k : Nat) (s : List Int) : (s.flatMap fun n => be k n.toNat).length = k * s.length := by
  induction s with
  | nil => rfl
  | cons a s ih => simp only [List.flatMap_cons, List.length_append, be_length, ih, List.length_cons]; rw [Nat.mul_add]; omega
theorem flat_lt (k : Nat) (s : List Int) : ∀ x ∈ s.flatMap (fun n => be k n.toNat), x < 256 := by
  intro x hx
  obtain ⟨n, _, hn⟩ := List.mem_flatMap.1 hx
  exact be_lt k _ x hn
theorem superB_lt (s : List Int) : ∀ x ∈ superB s, x < 256 := by
  intro x hx
  rcases List.mem_append.1 hx with hx | hx
  · simp at hx; omega
  · exact flat_lt 8 s x hx
theorem superB_len (s : List Int) (h : s.length = 7) : (superB s).length = 60 := by rw [superB, List.length_append, flat_len, h]; rfl
theorem superW_no (s : List Int) (j : Nat) (hj : j < s.length) (h : inB (s.getD j 0) 1099511627776 = false) : superW s = none := by
  have hm : s.getD j 0 ∈ s := by rw [List.getD_eq_getElem?_getD, List.getElem?_eq_getElem hj]; exact List.getElem_mem hj
  have : superOk s = false := by
    rw [superOk, List.all_eq_false]
    exact ⟨_, hm, by rw [h]; simp⟩
  simp [superW, this]
theorem superW_yes (s : List Int) (n : Nat) (hn : s.length = n) (h : ∀ j, j < n → inB (s.getD j 0) 1099511627776 = true) : superW s = some (frame (superB s)) := by
  have : superOk s = true := by
    rw [superOk, List.all_eq_true]
    intro x hx
    obtain ⟨i, hi, rfl⟩ := List.getElem_of_mem hx
    have := h i (by omega)
    simpa [List.getD_eq_getElem?_getD, hi] using this
  simp [superW, this]
theorem take_flat (s : List Int) (k j : Nat) (hj : j < s.length) : (s.take (j + 1)).flatMap (fun n => be k n.toNat) = (s.take j).flatMap (fun n => be k n.toNat) ++ be k (s.getD j 0).toNat := by
  rw [List.take_succ_eq_append_getElem hj, List.flatMap_append]
  simp [List.getD_eq_getElem?_getD, hj]

/-- What is read as a superblock: the numbers whose bytes these are. -/
def superN (l : List Nat) : List Int := [wrap64 (num l 4 8), wrap64 (num l 12 8), wrap64 (num l 20 8), wrap64 (num l 28 8), wrap64 (num l 36 8), wrap64 (num l 44 8), wrap64 (num l 52 8)]
def superR (l : List Nat) : Option (List Int) := if superW (superN l) = some l then some (superN l) else none
theorem superW_some {s : List Int} {l : List Nat} (h : superW s = some l) : l = frame (superB s) ∧ ∀ j, j < s.length → 0 ≤ s.getD j 0 ∧ s.getD j 0 ≤ 1099511627776 := by
  unfold superW at h
  split at h
  · rename_i hok
    refine ⟨by injection h with h; exact h.symm, fun j hj => inB_yes (List.all_eq_true.1 hok _ ?_)⟩
    rw [List.getD_eq_getElem?_getD, List.getElem?_eq_getElem hj]
    exact List.getElem_mem hj
  · cases h
theorem superN_of {s : List Int} {l : List Nat} (hs : s.length = 7) (h : superW s = some l) : superN l = s := by
  obtain ⟨hl, hb⟩ := superW_some h
  obtain ⟨q, hq⟩ := frame_split (superB s)
  rw [hq] at hl
  clear hq h
  have hn : ∀ i, i < 7 → wrap64 (num l (4 + 8 * i) 8 : Nat) = s.getD i 0 := by
    intro i hi
    have hbi := hb i (by omega)
    have h1 := num_flat [80, 83, 85, 80] q s 8 i (by omega) (by omega)
    rw [hl]
    unfold superB
    rw [show 4 + 8 * i = ([80, 83, 85, 80] : List Nat).length + 8 * i from rfl, h1, wrap64_of (by omega)]
    omega
  clear hl hb
  have h0 : wrap64 (num l 4 8 : Nat) = s.getD 0 0 := hn 0 (by omega)
  have h1 : wrap64 (num l 12 8 : Nat) = s.getD 1 0 := hn 1 (by omega)
  have h2 : wrap64 (num l 20 8 : Nat) = s.getD 2 0 := hn 2 (by omega)
  have h3 : wrap64 (num l 28 8 : Nat) = s.getD 3 0 := hn 3 (by omega)
  have h4 : wrap64 (num l 36 8 : Nat) = s.getD 4 0 := hn 4 (by omega)
  have h5 : wrap64 (num l 44 8 : Nat) = s.getD 5 0 := hn 5 (by omega)
  have h6 : wrap64 (num l 52 8 : Nat) = s.getD 6 0 := hn 6 (by omega)
  clear hn
  unfold superN
  rw [h0, h1, h2, h3, h4, h5, h6]
  clear h0 h1 h2 h3 h4 h5 h6
  match s, hs with
  | [a0, a1, a2, a3, a4, a5, a6], _ => rfl
/-- What was written is read. -/
theorem superR_of {s : List Int} {l : List Nat} (hs : s.length = 7) (h : superW s = some l) : superR l = some s := by
  have e := superN_of hs h
  rw [superR, e, if_pos h]
/-- What is read may be written, and these are its bytes. -/
theorem superR_some {s : List Int} {l : List Nat} (h : superR l = some s) : superW s = some l ∧ s.length = 7 := by
  unfold superR at h
  split at h
  · injection h with h
    subst h
    exact ⟨by assumption, rfl⟩
  · cases h
theorem superR_none (l : List Nat) (h : l.length ≠ 256) : superR l = none := by
  cases hr : superR l with
  | none => rfl
  | some s =>
    obtain ⟨h1, h2⟩ := superR_some hr
    obtain ⟨rfl, _⟩ := superW_some h1
    exact absurd (frame_length _ (by rw [superB_len s h2]; omega)) h
theorem superW_len {s : List Int} {l : List Nat} (hs : s.length = 7) (h : superW s = some l) : l.length = 256 := by
  obtain ⟨rfl, _⟩ := superW_some h
  exact frame_length _ (by rw [superB_len s hs]; omega)
/-- A reader that finds what may be written and whose bytes these are, or nothing where there is none, is just this one. -/
theorem superR_is (l : List Nat) (o : Option (List Int)) (h1 : ∀ s, o = some s → s.length = 7 ∧ superW s = some l) (h2 : o = none → ∀ s, s.length = 7 → superW s ≠ some l) : superR l = o := by
  cases o with
  | some s => obtain ⟨a, b⟩ := h1 s rfl; exact superR_of a b
  | none =>
    cases hr : superR l with
    | none => rfl
    | some s => obtain ⟨a, b⟩ := superR_some hr; exact absurd a (h2 rfl s b)
end Go.Proofs.YteaokeiolgjhaaaGreat.Codec
/- Superblocks on a disk in plain words: which may be on it; what Save and Load answer and leave. No program is named. -/
namespace Go.Proofs.YteaokeiolgjhaaaGreat.Sup
open Go.RowKit CrcMath CodecMath Codec DiskSpec Dsk

/-- Does a superblock's pages and log stand on so many sectors? -/
def roomB (s : List Int) (n : Int) : Bool :=
  decide (16 ≤ s.getD 2 0) && (decide (s.getD 2 0 ≤ 1024) && (decide (2 + s.getD 2 0 ≤ s.getD 3 0) && (decide (64 ≤ s.getD 4 0) && (decide (s.getD 3 0 + s.getD 4 0 ≤ n) && decide (s.getD 5 0 < s.getD 4 0)))))
/-- May it be on a disk of so many sectors? -/
def mayB (s : List Int) (n : Int) : Bool := superOk s && roomB s n
def checkE (s : List Int) (n : Int) : Int := if mayB s n then 0 else 1
theorem superOk_none {s : List Int} (h : superW s = none) : superOk s = false := by
  cases hh : superOk s with
  | false => rfl
  | true => simp [superW, hh] at h
theorem superOk_no (s : List Int) (j : Nat) (hj : j < s.length) (h : inB (s.getD j 0) 1099511627776 = false) : superOk s = false := superOk_none (superW_no s j hj h)
theorem superOk_yes (s : List Int) (n : Nat) (hn : s.length = n) (h : ∀ j, j < n → inB (s.getD j 0) 1099511627776 = true) : superOk s = true := by
  cases hh : superOk s with
  | true => rfl
  | false => have := superW_yes s n hn h; simp [superW, hh] at this
theorem superOk_at {s : List Int} (h : superOk s = true) (j : Nat) (hj : j < s.length) : 0 ≤ s.getD j 0 ∧ s.getD j 0 ≤ 1099511627776 := by
  rw [superOk, List.all_eq_true] at h
  have := h (s.getD j 0) (by rw [List.getD_eq_getElem?_getD, List.getElem?_eq_getElem hj]; exact List.getElem_mem hj)
  exact inB_yes this
theorem mayB_ok {s : List Int} {n : Int} (h : mayB s n = true) : superOk s = true := by
  unfold mayB at h
  cases hh : superOk s with
  | true => rfl
  | false => simp [hh] at h
theorem superW_may {s : List Int} {n : Int} (h : mayB s n = true) : superW s = some (frame (superB s)) := by simp [superW, mayB_ok h]

/-! ### Save -/
def gen (s : List Int) : Int := s.getD 0 0
def saveE (S : St) (s : List Int) : Int × St := if mayB s S.n then writeE S true ((gen s).tmod 2) (frame (superB s)) else (1, S)

/-! ### Load -/
/-- Is a superblock sound at place i of n sectors? -/
def soundS (n : Int) (i : Int) (s : List Int) : Bool := mayB s n && decide ((gen s).tmod 2 = i)
/-- A sound superblock in bytes. -/
def sound (n : Int) (i : Int) (l : List Nat) : Option (List Int) := (superR l).filter (soundS n i)
theorem sound_def (n : Int) (i : Int) (l : List Nat) : sound n i l = (superR l).filter (soundS n i) := rfl
/-- The better of what was found and what is found now. -/
def newer (a b : Option (List Int)) : Option (List Int) :=
  match a, b with
  | a, none => a
  | none, some s => some s
  | some u, some s => if gen u < gen s then some s else some u
def bestOf (n : Int) (l0 l1 : List Nat) : Option (List Int) := newer (sound n 0 l0) (sound n 1 l1)
def zero7' : List Int := [0, 0, 0, 0, 0, 0, 0]
/-- Behind two reads: the disk. -/
def loadS (S : St) : St := (readE (readE S 0 1).2 1 1).2
def loadE (S : St) : Int :=
  if S.n < 2 then 1 else if (readE S 0 1).1 ≠ 0 ∨ (readE (readE S 0 1).2 1 1).1 ≠ 0 then 10
  else if (bestOf S.n (readL S 0 1) (readL (readE S 0 1).2 1 1)).isSome then 0 else 14
def loadV (S : St) : List Int :=
  if S.n < 2 then zero7' else if (readE S 0 1).1 ≠ 0 ∨ (readE (readE S 0 1).2 1 1).1 ≠ 0 then zero7'
  else (bestOf S.n (readL S 0 1) (readL (readE S 0 1).2 1 1)).getD zero7'
def loadT (S : St) : St := if S.n < 2 then S else loadS S
theorem soundS_true {n i : Int} {s : List Int} (h : soundS n i s = true) : mayB s n = true ∧ (gen s).tmod 2 = i := by
  rw [soundS, Bool.and_eq_true, decide_eq_true_eq] at h
  exact h
theorem sound_len {n i : Int} {l : List Nat} {s : List Int} (h : sound n i l = some s) : s.length = 7 ∧ superW s = some l ∧ mayB s n = true ∧ (gen s).tmod 2 = i := by
  rw [sound_def, Option.filter_eq_some_iff] at h
  obtain ⟨h1, h2⟩ := h
  obtain ⟨h3, h4⟩ := superR_some h1
  obtain ⟨h5, h6⟩ := soundS_true h2
  exact ⟨h4, h3, h5, h6⟩
theorem sound_of {n i : Int} {s : List Int} (hl : s.length = 7) (h : mayB s n = true) (hi : (gen s).tmod 2 = i) : sound n i (frame (superB s)) = some s := by
  rw [sound_def, Option.filter_eq_some_iff]
  refine ⟨superR_of hl (superW_may h), ?_⟩
  rw [soundS, h, hi]
  simp
theorem sound_no {n i : Int} {l : List Nat} (h : superR l = none) : sound n i l = none := by rw [sound_def, h]; rfl
theorem sound_yes {n i : Int} {l : List Nat} {s : List Int} (h : superR l = some s) : sound n i l = if soundS n i s then some s else none := by
  rw [sound_def, h]
  rfl
end Go.Proofs.YteaokeiolgjhaaaGreat.Sup
/- Records as bytes: pages, images of a log, counts. No program is named. -/
namespace Go.Proofs.YteaokeiolgjhaaaGreat.Codec
open Go.RowKit CrcMath CodecMath

/-- A number of one width at a place, whatever stands ahead of it and behind it. -/
theorem num_mid (p q l : List Nat) (a k : Nat) (n : Int) (hl : l = p ++ (be k n.toNat ++ q)) (ha : p.length = a) (h0 : 0 ≤ n) (h : n.toNat < 256 ^ k) : (num l a k : Int) = n := by
  subst ha
  rw [hl, num_put _ _ _ _ h]
  omega

/-! ### Pages -/
def pageOk (number kind : Int) (body : List Nat) : Bool := decide (1 ≤ kind) && decide (kind ≤ 5) && inB number 1023 && decide (body.length = 240) && body.all fun x => decide (x < 256)
def pageB (number kind : Int) (body : List Nat) : List Nat := [80, 80, 65, 71] ++ (be 1 kind.toNat ++ (be 4 number.toNat ++ ([0, 0, 0] ++ body)))
def pageW (number kind : Int) (body : List Nat) : Option (List Nat) := if pageOk number kind body then some (frame (pageB number kind body)) else none
theorem pageOk_iff {number kind : Int} {body : List Nat} (h : pageOk number kind body = true) : (1 ≤ kind ∧ kind ≤ 5) ∧ (0 ≤ number ∧ number ≤ 1023) ∧ body.length = 240 ∧ ∀ x ∈ body, x < 256 := by
  simp only [pageOk, Bool.and_eq_true, decide_eq_true_eq, List.all_eq_true] at h
  exact ⟨h.1.1.1, inB_yes h.1.1.2, h.1.2, h.2⟩
theorem pageOk_mk {number kind : Int} {body : List Nat} (h : (1 ≤ kind ∧ kind ≤ 5) ∧ (0 ≤ number ∧ number ≤ 1023) ∧ body.length = 240 ∧ ∀ x ∈ body, x < 256) : pageOk number kind body = true := by
  simp only [pageOk, Bool.and_eq_true, decide_eq_true_eq, List.all_eq_true]
  exact ⟨⟨⟨h.1, inB_mk h.2.1⟩, h.2.2.1⟩, h.2.2.2⟩
theorem pageB_len (number kind : Int) (body : List Nat) (h : body.length = 240) : (pageB number kind body).length = 252 := by simp [pageB, be_length, h]
theorem pageB_lt (number kind : Int) (body : List Nat) (h : ∀ x ∈ body, x < 256) : ∀ x ∈ pageB number kind body, x < 256 := by
  intro x hx
  simp only [pageB, List.mem_append] at hx
  rcases hx with hx | hx | hx | hx | hx
  · simp at hx; omega
  · exact be_lt _ _ x hx
  · exact be_lt _ _ x hx
  · simp at hx; omega
  · exact h x hx
theorem pageW_some {number kind : Int} {body l : List Nat} (h : pageW number kind body = some l) : l = frame (pageB number kind body) ∧ pageOk number kind body = true := by
  unfold pageW at h
  split at h
  · rename_i hok
    exact ⟨by injection h with h; exact h.symm, hok⟩
  · cases h
theorem pageW_len {number kind : Int} {body l : List Nat} (h : pageW number kind body = some l) : l.length = 256 := by
  obtain ⟨rfl, hok⟩ := pageW_some h
  exact frame_length _ (by rw [pageB_len _ _ _ (pageOk_iff hok).2.2.1]; omega)
/-- What a page's fields are read as. -/
def bodyOf (l : List Nat) : List Nat := (l.drop 12).take 240
theorem page_fields {number kind : Int} {body l : List Nat} (h : pageW number kind body = some l) : (num l 4 1 : Int) = kind ∧ (num l 5 4 : Int) = number ∧ bodyOf l = body ∧ l.getD 0 0 = 80 := by
  obtain ⟨hl, hok⟩ := pageW_some h
  obtain ⟨⟨k1, k2⟩, ⟨n1, n2⟩, hb, _⟩ := pageOk_iff hok
  obtain ⟨q, hq⟩ := frame_split (pageB number kind body)
  rw [hq] at hl
  clear hq h
  refine ⟨?_, ?_, ?_, ?_⟩
  · exact num_mid [80, 80, 65, 71] (be 4 number.toNat ++ ([0, 0, 0] ++ body) ++ q) l 4 1 kind (by rw [hl, pageB]; simp) rfl (by omega) (by omega)
  · exact num_mid ([80, 80, 65, 71] ++ be 1 kind.toNat) ([0, 0, 0] ++ body ++ q) l 5 4 number (by rw [hl, pageB]; simp) (by simp [be_length]) (by omega) (by omega)
  · rw [hl, pageB, bodyOf]
    have e : [80, 80, 65, 71] ++ (be 1 kind.toNat ++ (be 4 number.toNat ++ ([0, 0, 0] ++ body))) ++ q = ([80, 80, 65, 71] ++ (be 1 kind.toNat ++ (be 4 number.toNat ++ [0, 0, 0]))) ++ (body ++ q) := by simp
    rw [e, List.drop_append_of_le_length (by simp [be_length]), List.drop_of_length_le (by simp [be_length]), List.nil_append, ← hb, List.take_left]
  · rw [hl, pageB]; rfl
def zeros : List Nat := List.replicate 256 0
theorem zeros_len : zeros.length = 256 := List.length_replicate
theorem zeros_first : zeros.getD 0 0 = 0 := rfl
/-- What is read as the page of a number: its kind and its body; a page that was never written has none. -/
def pageR (l : List Nat) (number : Int) : Option (Int × List Nat) :=
  if l = zeros then some (0, []) else if pageW number (num l 4 1) (bodyOf l) = some l then some ((num l 4 1 : Int), bodyOf l) else none
theorem pageR_of {number kind : Int} {body l : List Nat} (h : pageW number kind body = some l) : pageR l number = some (kind, body) := by
  obtain ⟨h1, _, h2, h3⟩ := page_fields h
  rw [pageR, if_neg (fun e => by rw [e, zeros_first] at h3; omega), h1, h2, if_pos h]
theorem pageR_other {number kind other : Int} {body l : List Nat} (h : pageW number kind body = some l) (ho : other ≠ number) : pageR l other = none := by
  obtain ⟨h1, h4, h2, h3⟩ := page_fields h
  rw [pageR, if_neg (fun e => by rw [e, zeros_first] at h3; omega), if_neg (fun e => ?_)]
  obtain ⟨_, h5, _, _⟩ := page_fields e
  omega
theorem pageR_zero (number : Int) : pageR zeros number = some (0, []) := by rw [pageR, if_pos rfl]
theorem pageR_none (l : List Nat) (number : Int) (h : l.length ≠ 256) : pageR l number = none := by
  rw [pageR, if_neg (fun e => h (by rw [e, zeros_len])), if_neg (fun e => h (pageW_len e))]

/-! ### Images in a log -/
def imageOk (epoch seq number kind : Int) (body : List Nat) : Bool := pageOk number kind body && inB epoch 4294967295 && inB seq 1099511627775
def imageB (epoch seq number kind : Int) (body : List Nat) : List Nat := be 1 kind.toNat ++ (be 2 number.toNat ++ (be 4 epoch.toNat ++ (be 5 seq.toNat ++ body)))
def imageW (epoch seq number kind : Int) (body : List Nat) : Option (List Nat) := if imageOk epoch seq number kind body then some (frame (imageB epoch seq number kind body)) else none
theorem imageB_len (epoch seq number kind : Int) (body : List Nat) (h : body.length = 240) : (imageB epoch seq number kind body).length = 252 := by simp [imageB, be_length, h]
theorem imageB_lt (epoch seq number kind : Int) (body : List Nat) (h : ∀ x ∈ body, x < 256) : ∀ x ∈ imageB epoch seq number kind body, x < 256 := by
  intro x hx
  simp only [imageB, List.mem_append] at hx
  rcases hx with hx | hx | hx | hx | hx
  · exact be_lt _ _ x hx
  · exact be_lt _ _ x hx
  · exact be_lt _ _ x hx
  · exact be_lt _ _ x hx
  · exact h x hx
theorem imageW_some {epoch seq number kind : Int} {body l : List Nat} (h : imageW epoch seq number kind body = some l) : l = frame (imageB epoch seq number kind body) ∧ pageOk number kind body = true ∧ (0 ≤ epoch ∧ epoch ≤ 4294967295) ∧ (0 ≤ seq ∧ seq ≤ 1099511627775) := by
  unfold imageW at h
  split at h
  · rename_i hok
    simp only [imageOk, Bool.and_eq_true] at hok
    exact ⟨by injection h with h; exact h.symm, hok.1.1, inB_yes hok.1.2, inB_yes hok.2⟩
  · cases h
theorem imageW_len {epoch seq number kind : Int} {body l : List Nat} (h : imageW epoch seq number kind body = some l) : l.length = 256 := by
  obtain ⟨rfl, hok, _⟩ := imageW_some h
  exact frame_length _ (by rw [imageB_len _ _ _ _ _ (pageOk_iff hok).2.2.1]; omega)
theorem image_fields {epoch seq number kind : Int} {body l : List Nat} (h : imageW epoch seq number kind body = some l) : (num l 0 1 : Int) = kind ∧ (num l 1 2 : Int) = number ∧ (num l 3 4 : Int) = epoch ∧ (num l 7 5 : Int) = seq ∧ bodyOf l = body := by
  obtain ⟨hl, hok, he, hs⟩ := imageW_some h
  obtain ⟨⟨k1, k2⟩, ⟨n1, n2⟩, hb, _⟩ := pageOk_iff hok
  obtain ⟨q, hq⟩ := frame_split (imageB epoch seq number kind body)
  rw [hq] at hl
  clear hq h
  refine ⟨?_, ?_, ?_, ?_, ?_⟩
  · exact num_mid [] (be 2 number.toNat ++ (be 4 epoch.toNat ++ (be 5 seq.toNat ++ body)) ++ q) l 0 1 kind (by rw [hl, imageB]; simp) rfl (by omega) (by omega)
  · exact num_mid (be 1 kind.toNat) (be 4 epoch.toNat ++ (be 5 seq.toNat ++ body) ++ q) l 1 2 number (by rw [hl, imageB]; simp) (by simp [be_length]) (by omega) (by omega)
  · exact num_mid (be 1 kind.toNat ++ be 2 number.toNat) (be 5 seq.toNat ++ body ++ q) l 3 4 epoch (by rw [hl, imageB]; simp) (by simp [be_length]) (by omega) (by omega)
  · exact num_mid (be 1 kind.toNat ++ (be 2 number.toNat ++ be 4 epoch.toNat)) (body ++ q) l 7 5 seq (by rw [hl, imageB]; simp) (by simp [be_length]) (by omega) (by omega)
  · rw [hl, imageB, bodyOf]
    have e : be 1 kind.toNat ++ (be 2 number.toNat ++ (be 4 epoch.toNat ++ (be 5 seq.toNat ++ body))) ++ q = (be 1 kind.toNat ++ (be 2 number.toNat ++ (be 4 epoch.toNat ++ be 5 seq.toNat))) ++ (body ++ q) := by simp
    rw [e, List.drop_append_of_le_length (by simp [be_length]), List.drop_of_length_le (by simp [be_length]), List.nil_append, ← hb, List.take_left]
/-- What is read as an image: epoch, seq, number, kind, body. -/
def imageR (l : List Nat) : Option (Int × Int × Int × Int × List Nat) :=
  if imageW (num l 3 4) (num l 7 5) (num l 1 2) (num l 0 1) (bodyOf l) = some l then some ((num l 3 4 : Int), (num l 7 5 : Int), (num l 1 2 : Int), (num l 0 1 : Int), bodyOf l) else none
theorem imageR_of {epoch seq number kind : Int} {body l : List Nat} (h : imageW epoch seq number kind body = some l) : imageR l = some (epoch, seq, number, kind, body) := by
  obtain ⟨h1, h2, h3, h4, h5⟩ := image_fields h
  rw [imageR, h1, h2, h3, h4, h5, if_pos h]
theorem imageR_none (l : List Nat) (h : l.length ≠ 256) : imageR l = none := by
  rw [imageR, if_neg (fun e => h (imageW_len e))]

/-! ### Counts -/
def allB (s : List Int) (m : Int) : Bool := s.all fun n => inB n m
theorem allB_yes {s : List Int} {m : Int} (h : allB s m = true) (j : Nat) (hj : j < s.length) : 0 ≤ s.getD j 0 ∧ s.getD j 0 ≤ m := by
  refine inB_yes (List.all_eq_true.1 h _ ?_)
  rw [List.getD_eq_getElem?_getD, List.getElem?_eq_getElem hj]
  exact List.getElem_mem hj
theorem allB_mk {s : List Int} {m : Int} (n : Nat) (hn : s.length = n) (h : ∀ j, j < n → inB (s.getD j 0) m = true) : allB s m = true := by
  rw [allB, List.all_eq_true]
  intro x hx
  obtain ⟨i, hi, rfl⟩ := List.getElem_of_mem hx
  have := h i (by omega)
  simpa [List.getD_eq_getElem?_getD, hi] using this
theorem allB_no {s : List Int} {m : Int} (j : Nat) (hj : j < s.length) (h : inB (s.getD j 0) m = false) : allB s m = false := by
  have hm : s.getD j 0 ∈ s := by rw [List.getD_eq_getElem?_getD, List.getElem?_eq_getElem hj]; exact List.getElem_mem hj
  rw [allB, List.all_eq_false]
  exact ⟨_, hm, by rw [h]; simp⟩
/-- So many numbers of one width, read one behind the other from a place on. -/
def numsAt (l : List Nat) (a step k n : Nat) : List Int := (List.range n).map fun i => (num l (a + step * i) k : Int)
theorem numsAt_length (l : List Nat) (a step k n : Nat) : (numsAt l a step k n).length = n := by simp [numsAt]
theorem numsAt_succ (l : List Nat) (a step k n : Nat) : numsAt l a step k (n + 1) = numsAt l a step k n ++ [(num l (a + step * n) k : Int)] := by simp [numsAt, List.range_succ]
theorem numsAt_flat (pre post l : List Nat) (s : List Int) (k : Nat) (hl : l = pre ++ s.flatMap (fun n => be k n.toNat) ++ post) (hb : ∀ j, j < s.length → 0 ≤ s.getD j 0 ∧ (s.getD j 0).toNat < 256 ^ k) :
    numsAt l pre.length k k s.length = s := by
  apply List.ext_getElem (by rw [numsAt_length])
  intro i h1 h2
  rw [numsAt_length] at h1
  simp only [numsAt, List.getElem_map, List.getElem_range]
  have hb' := hb i h1
  rw [hl, num_flat pre post s k i h1 hb'.2]
  have : s.getD i 0 = s[i] := by simp [List.getD_eq_getElem?_getD, h2]
  rw [← this]
  omega
def countsW (s : List Int) : Option (List Nat) := if decide (s.length = 120) && allB s 1000 then some (s.flatMap fun n => be 2 n.toNat) else none
def countsR (l : List Nat) : Option (List Int) := if countsW (numsAt l 0 2 2 120) = some l then some (numsAt l 0 2 2 120) else none
end Go.Proofs.YteaokeiolgjhaaaGreat.Codec
/- Records as bytes: heads, nodes, counts, catalogues. No program is named. -/
namespace Go.Proofs.YteaokeiolgjhaaaGreat.Codec
open Go.RowKit CrcMath CodecMath

theorem num_midN (p q l : List Nat) (a k n : Nat) (hl : l = p ++ (be k n ++ q)) (ha : p.length = a) (h : n < 256 ^ k) : num l a k = n := by
  subst ha
  rw [hl, num_put _ _ _ _ h]
theorem countsW_some {s : List Int} {l : List Nat} (h : countsW s = some l) : l = s.flatMap (fun n => be 2 n.toNat) ∧ s.length = 120 ∧ allB s 1000 = true := by
  unfold countsW at h
  split at h
  · rename_i hok
    simp only [Bool.and_eq_true, decide_eq_true_eq] at hok
    exact ⟨by injection h with h; exact h.symm, hok⟩
  · cases h
theorem countsW_yes {s : List Int} (h1 : s.length = 120) (h2 : allB s 1000 = true) : countsW s = some (s.flatMap fun n => be 2 n.toNat) := by simp [countsW, h1, h2]
theorem countsW_short {s : List Int} (h1 : s.length ≠ 120) : countsW s = none := by simp [countsW, h1]
theorem countsW_no {s : List Int} (h2 : allB s 1000 = false) : countsW s = none := by simp [countsW, h2]
theorem countsR_of {s : List Int} {l : List Nat} (h : countsW s = some l) : countsR l = some s := by
  obtain ⟨hl, hn, hb⟩ := countsW_some h
  have hs : numsAt l 0 2 2 120 = s := by
    have := numsAt_flat [] [] l s 2 (by simpa using hl) (fun j hj => by have := allB_yes hb j hj; exact ⟨this.1, by omega⟩)
    rwa [hn] at this
  rw [countsR, hs, if_pos h]
theorem countsW_len {s : List Int} {l : List Nat} (h : countsW s = some l) : l.length = 240 := by
  obtain ⟨rfl, hn, _⟩ := countsW_some h
  rw [flat_len, hn]
theorem countsR_none (l : List Nat) (h : l.length ≠ 240) : countsR l = none := by rw [countsR, if_neg (fun e => h (countsW_len e))]

/-! ### Heads -/
def headOk (epoch seq : Int) (pages : List Int) : Bool := inB epoch 1099511627776 && inB seq 1099511627776 && (decide (1 ≤ pages.length) && decide (pages.length ≤ 40)) && allB pages 1023
def headP (epoch seq : Int) (pages : List Int) (sum : Nat) : List Nat := [80, 76, 79, 71] ++ (be 8 epoch.toNat ++ (be 8 seq.toNat ++ (be 4 sum ++ be 2 pages.length)))
def headB (epoch seq : Int) (pages : List Int) (sum : Nat) : List Nat := headP epoch seq pages sum ++ pages.flatMap fun n => be 4 n.toNat
def headW (epoch seq : Int) (pages : List Int) (sum : Nat) : Option (List Nat) := if headOk epoch seq pages then some (frame (headB epoch seq pages sum)) else none
theorem headP_len (epoch seq : Int) (pages : List Int) (sum : Nat) : (headP epoch seq pages sum).length = 26 := by simp [headP, be_length]
theorem headB_len (epoch seq : Int) (pages : List Int) (sum : Nat) : (headB epoch seq pages sum).length = 26 + 4 * pages.length := by rw [headB, List.length_append, headP_len, flat_len]
theorem headB_lt (epoch seq : Int) (pages : List Int) (sum : Nat) : ∀ x ∈ headB epoch seq pages sum, x < 256 := by
  intro x hx
  simp only [headB, headP, List.mem_append] at hx
  rcases hx with (hx | hx | hx | hx | hx) | hx
  · simp at hx; omega
  · exact be_lt _ _ x hx
  · exact be_lt _ _ x hx
  · exact be_lt _ _ x hx
  · exact be_lt _ _ x hx
  · exact flat_lt 4 pages x hx
theorem headOk_iff {epoch seq : Int} {pages : List Int} (h : headOk epoch seq pages = true) : (0 ≤ epoch ∧ epoch ≤ 1099511627776) ∧ (0 ≤ seq ∧ seq ≤ 1099511627776) ∧ 1 ≤ pages.length ∧ pages.length ≤ 40 ∧ allB pages 1023 = true := by
  simp only [headOk, Bool.and_eq_true, decide_eq_true_eq] at h
  exact ⟨inB_yes h.1.1.1, inB_yes h.1.1.2, h.1.2.1, h.1.2.2, h.2⟩
theorem headW_some {epoch seq : Int} {pages : List Int} {sum : Nat} {l : List Nat} (h : headW epoch seq pages sum = some l) : l = frame (headB epoch seq pages sum) ∧ headOk epoch seq pages = true := by
  unfold headW at h
  split at h
  · rename_i hok
    exact ⟨by injection h with h; exact h.symm, hok⟩
  · cases h
theorem headW_len {epoch seq : Int} {pages : List Int} {sum : Nat} {l : List Nat} (h : headW epoch seq pages sum = some l) : l.length = 256 := by
  obtain ⟨rfl, hok⟩ := headW_some h
  obtain ⟨_, _, _, h4, _⟩ := headOk_iff hok
  exact frame_length _ (by rw [headB_len]; omega)
theorem head_fields {epoch seq : Int} {pages : List Int} {sum : Nat} {l : List Nat} (hsum : sum < 4294967296) (h : headW epoch seq pages sum = some l) :
    wrap64 (num l 4 8 : Nat) = epoch ∧ wrap64 (num l 12 8 : Nat) = seq ∧ num l 20 4 = sum ∧ num l 24 2 = pages.length ∧ numsAt l 26 4 4 pages.length = pages := by
  obtain ⟨hl, hok⟩ := headW_some h
  obtain ⟨⟨e1, e2⟩, ⟨s1, s2⟩, n1, n2, hb⟩ := headOk_iff hok
  obtain ⟨q, hq⟩ := frame_split (headB epoch seq pages sum)
  rw [hq] at hl
  clear hq h
  refine ⟨?_, ?_, ?_, ?_, ?_⟩
  · have := num_mid [80, 76, 79, 71] (be 8 seq.toNat ++ (be 4 sum ++ be 2 pages.length) ++ pages.flatMap (fun n => be 4 n.toNat) ++ q) l 4 8 epoch (by rw [hl, headB, headP]; simp) rfl (by omega) (by omega)
    rw [this]; unfold wrap64; omega
  · have := num_mid ([80, 76, 79, 71] ++ be 8 epoch.toNat) ((be 4 sum ++ be 2 pages.length) ++ pages.flatMap (fun n => be 4 n.toNat) ++ q) l 12 8 seq (by rw [hl, headB, headP]; simp) (by simp [be_length]) (by omega) (by omega)
    rw [this]; unfold wrap64; omega
  · exact num_midN ([80, 76, 79, 71] ++ (be 8 epoch.toNat ++ be 8 seq.toNat)) (be 2 pages.length ++ pages.flatMap (fun n => be 4 n.toNat) ++ q) l 20 4 sum (by rw [hl, headB, headP]; simp) (by simp [be_length]) (by omega)
  · exact num_midN ([80, 76, 79, 71] ++ (be 8 epoch.toNat ++ (be 8 seq.toNat ++ be 4 sum))) (pages.flatMap (fun n => be 4 n.toNat) ++ q) l 24 2 pages.length (by rw [hl, headB, headP]; simp) (by simp [be_length]) (by omega)
  · have := numsAt_flat (headP epoch seq pages sum) q l pages 4 (by rw [hl, headB]) (fun j hj => by have := allB_yes hb j hj; exact ⟨this.1, by omega⟩)
    rwa [headP_len] at this
/-- What is read as a head: epoch, seq, pages, sum. -/
def headR (l : List Nat) : Option (Int × Int × List Int × Nat) :=
  if headW (wrap64 (num l 4 8 : Nat)) (wrap64 (num l 12 8 : Nat)) (numsAt l 26 4 4 (min (num l 24 2) 40)) (num l 20 4) = some l then some (wrap64 (num l 4 8 : Nat), wrap64 (num l 12 8 : Nat), numsAt l 26 4 4 (min (num l 24 2) 40), num l 20 4) else none
theorem headR_of {epoch seq : Int} {pages : List Int} {sum : Nat} {l : List Nat} (hsum : sum < 4294967296) (h : headW epoch seq pages sum = some l) : headR l = some (epoch, seq, pages, sum) := by
  obtain ⟨h1, h2, h3, h4, h5⟩ := head_fields hsum h
  obtain ⟨_, _, _, n2, _⟩ := headOk_iff (headW_some h).2
  rw [headR, h1, h2, h3, h4, Nat.min_eq_left n2, h5, if_pos h]
theorem headR_none (l : List Nat) (h : l.length ≠ 256) : headR l = none := by rw [headR, if_neg (fun e => h (headW_len e))]

/-! ### Nodes -/
/-- Pairs of numbers of two widths, one behind the other. -/
def pairsB (ks vs : List Int) (n : Nat) : List Nat := (List.range n).flatMap fun i => be 4 (ks.getD i 0).toNat ++ be 2 (vs.getD i 0).toNat
theorem pairsB_succ (ks vs : List Int) (n : Nat) : pairsB ks vs (n + 1) = pairsB ks vs n ++ (be 4 (ks.getD n 0).toNat ++ be 2 (vs.getD n 0).toNat) := by simp [pairsB, List.range_succ]
theorem pairsB_len (ks vs : List Int) (n : Nat) : (pairsB ks vs n).length = 6 * n := by
  induction n with
  | zero => rfl
  | succ n ih => rw [pairsB_succ, List.length_append, ih, List.length_append, be_length, be_length]; omega
theorem pairsB_lt (ks vs : List Int) (n : Nat) : ∀ x ∈ pairsB ks vs n, x < 256 := by
  intro x hx
  obtain ⟨i, _, hi⟩ := List.mem_flatMap.1 hx
  rcases List.mem_append.1 hi with hi | hi <;> exact be_lt _ _ x hi
theorem pairsB_split (ks vs : List Int) (n i : Nat) (h : i < n) : ∃ q, pairsB ks vs n = pairsB ks vs i ++ (be 4 (ks.getD i 0).toNat ++ (be 2 (vs.getD i 0).toNat ++ q)) := by
  induction n with
  | zero => omega
  | succ n ih =>
    by_cases e : i = n
    · subst e; exact ⟨[], by rw [pairsB_succ]; simp⟩
    · obtain ⟨q, hq⟩ := ih (by omega)
      exact ⟨q ++ (be 4 (ks.getD n 0).toNat ++ be 2 (vs.getD n 0).toNat), by rw [pairsB_succ, hq]; simp⟩
def nodeOk (ks vs : List Int) : Bool := decide (ks.length = vs.length) && decide (ks.length ≤ 8) && allB ks 1048575 && allB vs 1023
def nodeB (leaf : Bool) (ks vs : List Int) : List Nat := be 1 (if leaf then 1 else 0) ++ (be 1 ks.length ++ pairsB ks vs ks.length)
def nodeW (leaf : Bool) (ks vs : List Int) : Option (List Nat) := if nodeOk ks vs then some (fill (nodeB leaf ks vs) 240) else none
theorem nodeB_len (leaf : Bool) (ks vs : List Int) : (nodeB leaf ks vs).length = 2 + 6 * ks.length := by simp only [nodeB, List.length_append, be_length, pairsB_len]; omega
theorem nodeB_lt (leaf : Bool) (ks vs : List Int) : ∀ x ∈ nodeB leaf ks vs, x < 256 := by
  intro x hx
  simp only [nodeB, List.mem_append] at hx
  rcases hx with hx | hx | hx
  · exact be_lt _ _ x hx
  · exact be_lt _ _ x hx
  · exact pairsB_lt ks vs _ x hx
theorem nodeOk_iff {ks vs : List Int} (h : nodeOk ks vs = true) : ks.length = vs.length ∧ ks.length ≤ 8 ∧ allB ks 1048575 = true ∧ allB vs 1023 = true := by
  simp only [nodeOk, Bool.and_eq_true, decide_eq_true_eq] at h
  exact ⟨h.1.1.1, h.1.1.2, h.1.2, h.2⟩
theorem nodeW_some {leaf : Bool} {ks vs : List Int} {l : List Nat} (h : nodeW leaf ks vs = some l) : l = fill (nodeB leaf ks vs) 240 ∧ nodeOk ks vs = true := by
  unfold nodeW at h
  split at h
  · rename_i hok
    exact ⟨by injection h with h; exact h.symm, hok⟩
  · cases h
theorem nodeW_len {leaf : Bool} {ks vs : List Int} {l : List Nat} (h : nodeW leaf ks vs = some l) : l.length = 240 := by
  obtain ⟨rfl, hok⟩ := nodeW_some h
  obtain ⟨_, h2, _⟩ := nodeOk_iff hok
  exact fill_length _ _ (by rw [nodeB_len]; omega)
theorem node_fields {leaf : Bool} {ks vs : List Int} {l : List Nat} (h : nodeW leaf ks vs = some l) :
    decide (num l 0 1 = 1) = leaf ∧ num l 1 1 = ks.length ∧ numsAt l 2 6 4 ks.length = ks ∧ numsAt l 6 6 2 ks.length = vs := by
  obtain ⟨hl, hok⟩ := nodeW_some h
  obtain ⟨h1, h2, hk, hv⟩ := nodeOk_iff hok
  have hq : l = nodeB leaf ks vs ++ List.replicate (240 - (nodeB leaf ks vs).length) 0 := hl
  generalize List.replicate (240 - (nodeB leaf ks vs).length) 0 = q at hq
  clear hl h
  have hki : ∀ i, i < ks.length → ∃ r, l = (be 1 (if leaf then 1 else 0) ++ (be 1 ks.length ++ pairsB ks vs i)) ++ (be 4 (ks.getD i 0).toNat ++ (be 2 (vs.getD i 0).toNat ++ r)) := by
    intro i hi
    obtain ⟨r, hr⟩ := pairsB_split ks vs ks.length i hi
    exact ⟨r ++ q, by rw [hq, nodeB, hr]; simp⟩
  refine ⟨?_, ?_, ?_, ?_⟩
  · have e : num l 0 1 = if leaf then 1 else 0 := num_midN [] (be 1 ks.length ++ pairsB ks vs ks.length ++ q) l 0 1 _ (by rw [hq, nodeB]; simp) rfl (by cases leaf <;> decide)
    rw [e]
    cases leaf <;> rfl
  · exact num_midN (be 1 (if leaf then 1 else 0)) (pairsB ks vs ks.length ++ q) l 1 1 _ (by rw [hq, nodeB]; simp) (by rw [be_length]) (by omega)
  · apply List.ext_getElem (by rw [numsAt_length])
    intro i hi1 hi2
    rw [numsAt_length] at hi1
    simp only [numsAt, List.getElem_map, List.getElem_range]
    obtain ⟨r, hr⟩ := hki i hi1
    have hb := allB_yes hk i hi1
    have hg : ks.getD i 0 = ks[i] := by simp [List.getD_eq_getElem?_getD, hi2]
    rw [← hg]
    exact num_mid (be 1 (if leaf then 1 else 0) ++ (be 1 ks.length ++ pairsB ks vs i)) (be 2 (vs.getD i 0).toNat ++ r) l (2 + 6 * i) 4 _ hr (by simp only [List.length_append, be_length, pairsB_len]; omega) hb.1 (by omega)
  · apply List.ext_getElem (by rw [numsAt_length]; exact h1)
    intro i hi1 hi2
    rw [numsAt_length] at hi1
    simp only [numsAt, List.getElem_map, List.getElem_range]
    obtain ⟨r, hr⟩ := hki i hi1
    have hb := allB_yes hv i hi2
    have hg : vs.getD i 0 = vs[i] := by simp [List.getD_eq_getElem?_getD, hi2]
    rw [← hg]
    refine num_mid (be 1 (if leaf then 1 else 0) ++ (be 1 ks.length ++ pairsB ks vs i) ++ be 4 (ks.getD i 0).toNat) r l (6 + 6 * i) 2 _ (by rw [hr]; simp) (by simp only [List.length_append, be_length, pairsB_len]; omega) hb.1 (by omega)
/-- What is read as a node: leaf, keys, values. -/
def nodeR (l : List Nat) : Option (Bool × List Int × List Int) :=
  if nodeW (decide (num l 0 1 = 1)) (numsAt l 2 6 4 (min (num l 1 1) 8)) (numsAt l 6 6 2 (min (num l 1 1) 8)) = some l then some (decide (num l 0 1 = 1), numsAt l 2 6 4 (min (num l 1 1) 8), numsAt l 6 6 2 (min (num l 1 1) 8)) else none
theorem nodeR_of {leaf : Bool} {ks vs : List Int} {l : List Nat} (h : nodeW leaf ks vs = some l) : nodeR l = some (leaf, ks, vs) := by
  obtain ⟨h1, h2, h3, h4⟩ := node_fields h
  obtain ⟨_, n2, _⟩ := nodeOk_iff (nodeW_some h).2
  rw [nodeR, h1, h2, Nat.min_eq_left n2, h3, h4, if_pos h]
theorem nodeR_none (l : List Nat) (h : l.length ≠ 240) : nodeR l = none := by rw [nodeR, if_neg (fun e => h (nodeW_len e))]
end Go.Proofs.YteaokeiolgjhaaaGreat.Codec
/- A log in plain words: which images may be a record, a record's bytes, what Append answers and leaves. No program is named. -/
namespace Go.Proofs.YteaokeiolgjhaaaGreat.Log
open Go.RowKit CrcMath CodecMath Codec DiskSpec Dsk Sup

/-- An image: its number, its kind, its body. -/
abbrev Img := Int × Int × List Nat
/-- A record: its number, its images. -/
abbrev Rec := Int × List Img
/-- A log: its superblock's numbers; its tail, the next number, how many sectors are taken, is it broken. -/
structure Lg where
  g : Int
  ep : Nat
  pg : Int
  st : Nat
  ln : Nat
  hd : Nat
  sq : Nat
  tail : Nat
  seq : Nat
  taken : Nat
  broken : Bool
/-- A log that may be on n sectors. -/
structure Lg.ok (L : Lg) (n : Nat) : Prop where
  fit : L.st + L.ln ≤ n
  low : 1 ≤ L.ln
  tail : L.tail < L.ln
  taken : L.taken ≤ L.ln
  ep : L.ep ≤ 1099511627776
  seq : L.seq ≤ 2199023255552
def Lg.new (g : Int) (ep : Nat) (pg : Int) (st ln hd sq : Nat) : Lg := ⟨g, ep, pg, st, ln, hd, sq, hd, sq, 0, false⟩
def Lg.room (L : Lg) : Nat := if L.broken then 0 else L.ln - L.taken
def Lg.place (L : Lg) (k : Nat) : Nat := (L.tail + k) % L.ln
def Lg.pass (L : Lg) (k : Nat) : Lg := { L with tail := (L.tail + k) % L.ln, taken := L.taken + k, seq := L.seq + 1 }
def Lg.drop (L : Lg) : Lg := { L with taken := 0, broken := false }
def Lg.fail (L : Lg) : Lg := { L with seq := L.seq + 1, broken := true }

/-! ### Which images may be a record -/
def imgOk (x : Img) : Bool := pageOk x.1 x.2.1 x.2.2
/-- Each may be written, and no two have one number (nor one that was seen). -/
def mayW : List Int → List Img → Bool
  | _, [] => true
  | seen, x :: r => imgOk x && (!seen.contains x.1 && mayW (x.1 :: seen) r)
def seenOf (l : List Img) (j : Nat) : List Int := ((l.take j).map (·.1)).reverse
theorem seenOf_zero (l : List Img) : seenOf l 0 = [] := rfl
theorem seenOf_succ (l : List Img) {j : Nat} {x : Img} (h : l[j]? = some x) : seenOf l (j + 1) = x.1 :: seenOf l j := by
  unfold seenOf
  rw [List.take_add_one, h]
  simp
theorem mayW_step (l : List Img) {j : Nat} {x : Img} (h : l[j]? = some x) : mayW (seenOf l j) (l.drop j) = (imgOk x && (!(seenOf l j).contains x.1 && mayW (seenOf l (j + 1)) (l.drop (j + 1)))) := by
  have hj : j < l.length := (List.getElem?_eq_some_iff.1 h).1
  have e : l.drop j = x :: l.drop (j + 1) := by
    rw [List.drop_eq_getElem_cons hj]
    congr 1
    exact (List.getElem?_eq_some_iff.1 h).2
  rw [e, mayW, seenOf_succ l h]
theorem mayW_end (l : List Img) : mayW (seenOf l l.length) (l.drop l.length) = true := by rw [List.drop_length]; rfl
theorem mayW_ok : ∀ {l : List Img} {seen : List Int}, mayW seen l = true → ∀ x ∈ l, imgOk x = true
  | [], _, _ => by simp
  | y :: r, seen, h => by
    rw [mayW, Bool.and_eq_true, Bool.and_eq_true] at h
    intro x hx
    rcases List.mem_cons.1 hx with rfl | hx
    · exact h.1
    · exact mayW_ok h.2.2 x hx
theorem imgOk_iff {x : Img} (h : imgOk x = true) : (1 ≤ x.2.1 ∧ x.2.1 ≤ 5) ∧ (0 ≤ x.1 ∧ x.1 ≤ 1023) ∧ x.2.2.length = 240 ∧ ∀ y ∈ x.2.2, y < 256 := pageOk_iff h

/-! ### A record's bytes -/
def imgF (ep sq : Int) (x : Img) : List Nat := frame (imageB ep sq x.1 x.2.1 x.2.2)
def imgsB (ep sq : Int) (l : List Img) : List Nat := l.flatMap (imgF ep sq)
def nos (l : List Img) : List Int := l.map (·.1)
def headF (ep sq : Int) (l : List Img) : List Nat := frame (headB ep sq (nos l) (M 0 (imgsB ep sq l)))
def recB (ep sq : Int) (l : List Img) : List Nat := headF ep sq l ++ imgsB ep sq l
theorem imgW_ok {ep sq : Nat} {x : Img} (h : imgOk x = true) (he : ep ≤ 4294967295) (hs : sq ≤ 1099511627775) : imageW ep sq x.1 x.2.1 x.2.2 = some (imgF ep sq x) := by
  have h' : pageOk x.1 x.2.1 x.2.2 = true := h
  have h1 : inB (ep : Int) 4294967295 = true := inB_mk (by omega)
  have h2 : inB (sq : Int) 1099511627775 = true := inB_mk (by omega)
  rw [imageW, imageOk, h', h1, h2]
  rfl
theorem imgF_len {ep sq : Int} {x : Img} (h : imgOk x = true) : (imgF ep sq x).length = 256 :=
  frame_length _ (by rw [imageB_len _ _ _ _ _ (imgOk_iff h).2.2.1]; omega)
theorem imgF_lt {ep sq : Int} {x : Img} (h : imgOk x = true) : ∀ y ∈ imgF ep sq x, y < 256 := frame_lt _ (imageB_lt _ _ _ _ _ (imgOk_iff h).2.2.2)
theorem imgsB_nil (ep sq : Int) : imgsB ep sq [] = [] := rfl
theorem imgsB_take (ep sq : Int) (l : List Img) {j : Nat} {x : Img} (h : l[j]? = some x) : imgsB ep sq (l.take (j + 1)) = imgsB ep sq (l.take j) ++ imgF ep sq x := by
  unfold imgsB
  rw [List.take_add_one, h]
  simp
theorem imgsB_len (ep sq : Int) : ∀ {l : List Img}, (∀ x ∈ l, imgOk x = true) → (imgsB ep sq l).length = 256 * l.length
  | [], _ => rfl
  | x :: r, h => by
    have e : imgsB ep sq (x :: r) = imgF ep sq x ++ imgsB ep sq r := rfl
    rw [e, List.length_append, imgF_len (h x (List.mem_cons_self ..)), imgsB_len ep sq (fun y hy => h y (List.mem_cons_of_mem _ hy)), List.length_cons]
    omega
theorem imgsB_lt (ep sq : Int) {l : List Img} (h : ∀ x ∈ l, imgOk x = true) : ∀ y ∈ imgsB ep sq l, y < 256 := by
  intro y hy
  obtain ⟨x, hx, hy⟩ := List.mem_flatMap.1 hy
  exact imgF_lt (h x hx) y hy
theorem nos_take (l : List Img) {j : Nat} {x : Img} (h : l[j]? = some x) : nos (l.take (j + 1)) = nos (l.take j) ++ [x.1] := by
  unfold nos
  rw [List.take_add_one, h]
  simp
theorem nos_len (l : List Img) : (nos l).length = l.length := by simp [nos]
theorem allB_nos {l : List Img} (h : ∀ x ∈ l, imgOk x = true) : allB (nos l) 1023 = true := by
  rw [allB, List.all_eq_true]
  intro n hn
  obtain ⟨x, hx, rfl⟩ := List.mem_map.1 hn
  exact inB_mk (imgOk_iff (h x hx)).2.1
theorem headW_ok {ep sq : Nat} {l : List Img} (h : ∀ x ∈ l, imgOk x = true) (h1 : 1 ≤ l.length) (h40 : l.length ≤ 40) (he : ep ≤ 4294967295) (hs : sq ≤ 1099511627775) (m : Nat) (hm : M 0 (imgsB ep sq l) = m) :
    headW ep sq (nos l) m = some (headF ep sq l) := by
  have e1 : inB (ep : Int) 1099511627776 = true := inB_mk (by omega)
  have e2 : inB (sq : Int) 1099511627776 = true := inB_mk (by omega)
  have e3 : headOk ep sq (nos l) = true := by
    rw [headOk, e1, e2, nos_len, allB_nos h]
    simp [h1, h40]
  rw [headW, e3, headF, hm]
  rfl
theorem headF_len {ep sq : Int} {l : List Img} (h40 : l.length ≤ 40) : (headF ep sq l).length = 256 := frame_length _ (by rw [headB_len, nos_len]; omega)
theorem headF_lt (ep sq : Int) (l : List Img) : ∀ y ∈ headF ep sq l, y < 256 := frame_lt _ (headB_lt _ _ _ _)
theorem recB_len {ep sq : Int} {l : List Img} (h : ∀ x ∈ l, imgOk x = true) (h40 : l.length ≤ 40) : (recB ep sq l).length = 256 * (1 + l.length) := by
  rw [recB, List.length_append, headF_len h40, imgsB_len ep sq h]; omega
theorem recB_lt {ep sq : Int} {l : List Img} (h : ∀ x ∈ l, imgOk x = true) : ∀ y ∈ recB ep sq l, y < 256 := by
  intro y hy
  rcases List.mem_append.1 hy with hy | hy
  · exact headF_lt ep sq l y hy
  · exact imgsB_lt ep sq h y hy

/-! ### What Append answers, and what it leaves -/
/-- The bytes ahead of the ring's end. -/
def Lg.ahead (L : Lg) (n : Nat) : Nat := min n ((L.ln - L.tail) * 256)
def putE (S : St) (L : Lg) (l : List Nat) : Int × St :=
  if (writeE S false (L.st + L.tail : Nat) (l.take (L.ahead l.length))).1 ≠ 0 then writeE S false (L.st + L.tail : Nat) (l.take (L.ahead l.length))
  else if L.ahead l.length = l.length then (0, (writeE S false (L.st + L.tail : Nat) (l.take (L.ahead l.length))).2)
  else writeE (writeE S false (L.st + L.tail : Nat) (l.take (L.ahead l.length))).2 false (L.st : Nat) (l.drop (L.ahead l.length))
def appendE (S : St) (L : Lg) (l : List Img) : Int × St × Lg :=
  if 40 < l.length then (16, S, L)
  else if l.length = 0 ∨ mayW [] l = false then (1, S, L)
  else if L.room < 1 + l.length ∨ 4294967295 < L.ep ∨ 1099511627775 < L.seq then (15, S, L)
  else if (putE S L (recB L.ep L.seq l)).1 = 0 then (0, (putE S L (recB L.ep L.seq l)).2, L.pass (1 + l.length))
  else ((putE S L (recB L.ep L.seq l)).1, (putE S L (recB L.ep L.seq l)).2, L.fail)
end Go.Proofs.YteaokeiolgjhaaaGreat.Log
/- A store in plain words: pages, what each call answers and leaves. No program is named. -/
namespace Go.Proofs.YteaokeiolgjhaaaGreat.Sto
open Go.RowKit CrcMath CodecMath Codec DiskSpec Dsk Sup Log

/-- A page: its kind, its body. -/
abbrev Pg := Int × List Nat
/-- Pages by their numbers. -/
abbrev Pgs := Nat → Option Pg
def noPgs : Pgs := fun _ => none
/-- All of them may be. -/
def PgsOk (D : Pgs) : Prop := ∀ k p, D k = some p → pageOk (k : Int) p.1 p.2 = true
theorem PgsOk.none_ : PgsOk noPgs := fun _ _ h => by cases h
theorem PgsOk.lt {D : Pgs} (h : PgsOk D) {k : Nat} {p : Pg} (hp : D k = some p) : k < 1024 := by
  have := (pageOk_iff (h k p hp)).2.1; omega
theorem PgsOk.upd {D : Pgs} (h : PgsOk D) {k : Nat} {p : Pg} (hp : pageOk (k : Int) p.1 p.2 = true) : PgsOk (DiskSpec.upd D k (some p)) := by
  intro j q hj
  unfold DiskSpec.upd at hj
  split at hj
  · rename_i e; subst e; cases hj; exact hp
  · exact h j q hj
/-- An image of page k. -/
def imgOf (k : Nat) (p : Pg) : Img := ((k : Int), p.1, p.2)
/-- The numbers that there are, rising. -/
def keys (D : Pgs) : List Nat := (List.range 1024).filter fun k => (D k).isSome
def rising (D : Pgs) : List Img := (keys D).map fun k => imgOf k ((D k).getD (0, []))
theorem rising_len (D : Pgs) : (rising D).length = (keys D).length := by simp [rising]
theorem keys_nodup (D : Pgs) : (keys D).Nodup := List.Pairwise.filter _ List.nodup_range
theorem mem_keys {D : Pgs} {k : Nat} : k ∈ keys D ↔ k < 1024 ∧ (D k).isSome = true := by
  unfold keys; rw [List.mem_filter, List.mem_range]
theorem keys_nil {D : Pgs} (h : PgsOk D) : keys D = [] ↔ D = noPgs := by
  constructor
  · intro e
    funext k
    cases hk : D k with
    | none => rfl
    | some p =>
      have : k ∈ keys D := mem_keys.2 ⟨h.lt hk, by rw [hk]; rfl⟩
      rw [e] at this; cases this
  · rintro rfl
    refine List.eq_nil_iff_forall_not_mem.2 fun k hk => ?_
    have := (mem_keys.1 hk).2
    cases this
theorem rising_ok {D : Pgs} (h : PgsOk D) : ∀ x ∈ rising D, imgOk x = true := by
  intro x hx
  obtain ⟨k, hk, rfl⟩ := List.mem_map.1 hx
  obtain ⟨p, hp⟩ := Option.isSome_iff_exists.1 (mem_keys.1 hk).2
  rw [hp]
  exact h k p hp
/-- The first ones of U, else of D. -/
def over (D U : Pgs) : Pgs := fun k => match U k with | some p => some p | none => D k
theorem PgsOk.over {D U : Pgs} (hd : PgsOk D) (hu : PgsOk U) : PgsOk (over D U) := by
  intro k p hp
  unfold Sto.over at hp
  cases hk : U k with
  | some q => rw [hk] at hp; exact hu k p (by rw [hk]; exact hp)
  | none => rw [hk] at hp; exact hd k p hp
/-- Images are laid over pages, one behind the other. -/
def putImgs (D : Pgs) (l : List Img) : Pgs := l.foldl (fun D x => upd D x.1.toNat (some (x.2.1, x.2.2))) D
def latestOf (R : List Rec) : Pgs := R.foldl (fun D r => putImgs D r.2) noPgs
theorem putImgs_snoc (D : Pgs) (l : List Img) (x : Img) : putImgs D (l ++ [x]) = upd (putImgs D l) x.1.toNat (some (x.2.1, x.2.2)) := by simp [putImgs]
theorem putImgs_ok {l : List Img} : ∀ {D : Pgs}, PgsOk D → (∀ x ∈ l, imgOk x = true) → PgsOk (putImgs D l) := by
  induction l with
  | nil => intro D h _; exact h
  | cons x r ih =>
    intro D h hx
    have h1 := hx x (List.mem_cons_self ..)
    have h2 := (imgOk_iff h1).2.1
    refine ih (D := upd D x.1.toNat (some (x.2.1, x.2.2))) (h.upd ?_) (fun y hy => hx y (List.mem_cons_of_mem _ hy))
    rw [show ((x.1.toNat : Nat) : Int) = x.1 by omega]
    exact h1

/-! ### Superblocks -/
structure Sb where
  gn : Nat
  ep : Nat
  pg : Nat
  st : Nat
  ln : Nat
  hd : Nat
  sq : Nat
def Sb.l (x : Sb) : List Int := [(x.gn : Int), (x.ep : Int), (x.pg : Int), (x.st : Int), (x.ln : Int), (x.hd : Int), (x.sq : Int)]
def Sb.vs (x : Sb) : List Value := [.int .i64 (x.gn : Nat), .int .i64 (x.ep : Nat), .int .i64 (x.pg : Nat), .int .i64 (x.st : Nat), .int .i64 (x.ln : Nat), .int .i64 (x.hd : Nat), .int .i64 (x.sq : Nat)]
def Sb.next (x : Sb) : Sb := { x with gn := x.gn + 1, ep := x.ep + 1, hd := 0, sq := 1 }
def Sb.log (x : Sb) : Lg := Lg.new (x.gn : Int) x.ep (x.pg : Int) x.st x.ln x.hd x.sq

/-! ### A store -/
structure Sto where
  S : St
  L : Lg
  x : Sb
  D : Pgs
  W : Option Pgs
/-- A store with another disk. -/
def Sto.disk (s : Sto) (T : St) : Sto := { s with S := T }
/-- A store that is done with its transaction. -/
def Sto.idle (s : Sto) : Sto := { s with W := none }

/-! ### Pages are brought home -/
def homeE (S : St) (x : Img) : Int × St := writeE S false (2 + x.1) (frame (pageB x.1 x.2.1 x.2.2))
def homesE : St → List Img → Int × St
  | S, [] => (0, S)
  | S, x :: r => if (homeE S x).1 = 0 then homesE (homeE S x).2 r else homeE S x
def bringE (S : St) (D : Pgs) : Int × St := if (homesE S (rising D)).1 = 0 then flushE (homesE S (rising D)).2 else homesE S (rising D)
theorem homesE_snoc (x : Img) : ∀ (l : List Img) (S : St), (homesE S l).1 = 0 → homesE S (l ++ [x]) = homeE (homesE S l).2 x
  | [], S, _ => by
    show (if (homeE S x).1 = 0 then homesE (homeE S x).2 [] else homeE S x) = homeE S x
    split
    · rename_i h
      show (0, (homeE S x).2) = homeE S x
      exact Prod.ext h.symm rfl
    · rfl
  | y :: r, S, h => by
    show (if (homeE S y).1 = 0 then homesE (homeE S y).2 (r ++ [x]) else homeE S y) = homeE (homesE S (y :: r)).2 x
    have h' : (if (homeE S y).1 = 0 then homesE (homeE S y).2 r else homeE S y).1 = 0 := h
    by_cases h1 : (homeE S y).1 = 0
    · rw [if_pos h1] at h' ⊢
      rw [homesE_snoc x r _ h']
      show _ = homeE (if (homeE S y).1 = 0 then homesE (homeE S y).2 r else homeE S y).2 x
      rw [if_pos h1]
    · rw [if_neg h1] at h'
      exact absurd h' h1
theorem homesE_stop : ∀ (l r : List Img) (S : St), (homesE S l).1 ≠ 0 → homesE S (l ++ r) = homesE S l
  | [], _, S, h => absurd rfl h
  | y :: l, r, S, h => by
    show (if (homeE S y).1 = 0 then homesE (homeE S y).2 (l ++ r) else homeE S y) = (if (homeE S y).1 = 0 then homesE (homeE S y).2 l else homeE S y)
    have h' : (if (homeE S y).1 = 0 then homesE (homeE S y).2 l else homeE S y).1 ≠ 0 := h
    by_cases h1 : (homeE S y).1 = 0
    · rw [if_pos h1] at h' ⊢
      rw [if_pos h1, homesE_stop l r _ h']
    · rw [if_neg h1, if_neg h1]

/-! ### Calls -/
def beginE (s : Sto) : Int × Sto := if s.W.isSome then (17, s) else (0, { s with W := some noPgs })
/-- The superblock behind a checkpoint. -/
def Sto.past (s : Sto) : Sb := { s.x with gn := s.x.gn + 1, hd := s.L.tail, sq := s.L.seq }
def ckSave (s : Sto) (T : St) : Int × Sto :=
  if (saveE T s.past.l).1 = 0 then (0, { s with S := (saveE T s.past.l).2, L := s.L.drop, x := s.past, D := noPgs })
  else ((saveE T s.past.l).1, s.disk (saveE T s.past.l).2)
def ckBring (s : Sto) (T : St) : Int × Sto := if (bringE T s.D).1 = 0 then ckSave s (bringE T s.D).2 else ((bringE T s.D).1, s.disk (bringE T s.D).2)
def ckptE (s : Sto) : Int × Sto :=
  if keys s.D = [] ∧ 0 < s.L.room then (0, s)
  else if s.x.gn = 1099511627776 then (15, s)
  else if (flushE s.S).1 = 0 then ckBring s (flushE s.S).2 else ((flushE s.S).1, s.disk (flushE s.S).2)
def checkpointE (s : Sto) : Int × Sto := if s.W.isSome then (17, s) else ckptE s
/-- Append of images. -/
def logE (s : Sto) (l : List Img) : Int × Sto := ((appendE s.S s.L l).1, { s with S := (appendE s.S s.L l).2.1, L := (appendE s.S s.L l).2.2 })
def retryE (l : List Img) (r : Int × Sto) : Int × Sto := if r.1 = 12 then (11, r.2) else if r.1 = 0 then logE r.2 l else r
def appendWE (s : Sto) (l : List Img) : Int × Sto := if (logE s l).1 = 15 then retryE l (ckptE (logE s l).2) else logE s l
/-- Commit of what U has. -/
def doneE (U : Pgs) (r : Int × Sto) : Int × Sto := if r.1 = 0 then (0, { r.2 with D := over r.2.D U, W := none }) else (r.1, r.2.idle)
def commitE (s : Sto) : Int × Sto :=
  match s.W with
  | none => (18, s)
  | some U => if keys U = [] then (0, s.idle) else doneE U (appendWE s (rising U))
def syncE (s : Sto) : Int × Sto := if s.W.isSome then (17, s) else ((flushE s.S).1, s.disk (flushE s.S).2)
/-- Is there such a page? -/
def Sto.has (s : Sto) (p : Int) : Bool := decide (0 ≤ p) && decide (p < (s.x.pg : Int))
/-- The page that is kept in memory. -/
def Sto.kept (s : Sto) (k : Nat) : Option Pg := match s.W with | some U => over s.D U k | none => s.D k
def writePE (s : Sto) (p : Int) (q : Pg) : Int × Sto :=
  match s.W with
  | none => (18, s)
  | some U => if s.has p = false then (2, s) else if pageOk p q.1 q.2 = false then (1, s)
    else if U p.toNat = none ∧ (keys U).length = 40 then (16, s) else (0, { s with W := some (upd U p.toNat (some q)) })
end Go.Proofs.YteaokeiolgjhaaaGreat.Sto
/- What is read of a log in plain words: a record at the tail, all records. No program is named. -/
namespace Go.Proofs.YteaokeiolgjhaaaGreat.Log
open Go.RowKit CrcMath CodecMath Codec DiskSpec Dsk Sup

/-- The sector that lies so many behind the tail. -/
def Lg.sec (L : Lg) (k : Nat) : Nat := L.st + (L.tail + k) % L.ln
theorem Lg.sec_lt {L : Lg} {n : Nat} (h : L.ok n) (k : Nat) : L.sec k < n := by
  have h1 := h.fit; have h2 := h.low
  have := Nat.mod_lt (L.tail + k) (show 0 < L.ln by omega)
  unfold Lg.sec
  omega
/-- The bytes of the first n sectors behind a head at the tail. -/
def readsL (S : St) (L : Lg) : Nat → List Nat
  | 0 => []
  | j + 1 => readsL S L j ++ S.now (L.sec (1 + j))
theorem readsL_len {S : St} (h : S.ok) (L : Lg) : ∀ n, (readsL S L n).length = 256 * n
  | 0 => rfl
  | n + 1 => by rw [readsL, List.length_append, readsL_len h L n, (S.now_sec h _).1]; omega
theorem readsL_lt {S : St} (h : S.ok) (L : Lg) : ∀ n, ∀ x ∈ readsL S L n, x < 256
  | 0 => by simp [readsL]
  | n + 1 => by
    intro x hx
    rcases List.mem_append.1 hx with hx | hx
    · exact readsL_lt h L n x hx
    · exact (S.now_sec h _).2 x hx
theorem readsL_sec {S : St} (h : S.ok) (L : Lg) : ∀ (n j : Nat), j < n → DiskSpec.sec (readsL S L n) j = S.now (L.sec (1 + j))
  | 0, j, hj => by omega
  | n + 1, j, hj => by
    have hl := readsL_len h L n
    unfold DiskSpec.sec
    rw [readsL]
    by_cases e : j = n
    · subst e
      rw [List.drop_append_of_le_length (by omega), List.drop_of_length_le (by omega), List.nil_append, List.take_of_length_le (by rw [(S.now_sec h _).1]; omega)]
    · rw [List.drop_append_of_le_length (by omega), List.take_append_of_le_length (by rw [List.length_drop]; omega)]
      exact readsL_sec h L n j (by omega)
/-- A sector that must be an image. -/
def imgR (ep sq no : Int) (l : List Nat) : Option Img :=
  match imageR l with
  | none => none
  | some (e, s, n, k, b) => if e = ep ∧ s = sq ∧ n = no then some (n, k, b) else none
theorem imgR_none {ep sq no : Int} {l : List Nat} (h : imageR l = none) : imgR ep sq no l = none := by simp [imgR, h]
theorem imgR_no {ep sq no e s n k : Int} {b l : List Nat} (h : imageR l = some (e, s, n, k, b)) (hn : ¬ (e = ep ∧ s = sq ∧ n = no)) : imgR ep sq no l = none := by simp [imgR, h, hn]
theorem imgR_yes {ep sq no k : Int} {b l : List Nat} (h : imageR l = some (ep, sq, no, k, b)) : imgR ep sq no l = some (no, k, b) := by simp [imgR, h]
/-- The first j images of bytes. -/
def imgsR (ep sq : Int) (pages : List Int) (bytes : List Nat) : Nat → Option (List Img)
  | 0 => some []
  | j + 1 => (imgsR ep sq pages bytes j).bind fun l => (imgR ep sq (pages.getD j 0) (DiskSpec.sec bytes j)).map fun x => l ++ [x]
theorem imgsR_none {ep sq : Int} {pages : List Int} {bytes : List Nat} {j : Nat} (h : imgsR ep sq pages bytes j = none) : ∀ {n}, j ≤ n → imgsR ep sq pages bytes n = none := by
  intro n hn
  induction n with
  | zero =>
    obtain rfl : j = 0 := by omega
    exact h
  | succ n ih =>
    by_cases e : j = n + 1
    · subst e; exact h
    · rw [imgsR, ih (by omega)]; rfl
theorem imgsR_stop {ep sq : Int} {pages : List Int} {bytes : List Nat} {j n : Nat} (hx : imgR ep sq (pages.getD j 0) (DiskSpec.sec bytes j) = none) (hn : j < n) : imgsR ep sq pages bytes n = none := by
  refine imgsR_none (j := j + 1) ?_ hn
  rw [imgsR, hx]
  cases imgsR ep sq pages bytes j <;> rfl
theorem imgsR_go {ep sq : Int} {pages : List Int} {bytes : List Nat} {j : Nat} {l : List Img} {x : Img} (h : imgsR ep sq pages bytes j = some l) (hx : imgR ep sq (pages.getD j 0) (DiskSpec.sec bytes j) = some x) : imgsR ep sq pages bytes (j + 1) = some (l ++ [x]) := by
  rw [imgsR, h, hx]
  rfl
/-- What a head's images are, if these bytes are right. -/
def bodyR (ep sq : Int) (pages : List Int) (sum : Nat) (bytes : List Nat) : Option (List Img) := if M 0 bytes = sum then imgsR ep sq pages bytes pages.length else none
/-- The record of a head at the tail. -/
def findB (S : St) (L : Lg) (p : Int × Int × List Int × Nat) : Option (List Img) :=
  if p.1 = L.ep ∧ p.2.1 = L.seq ∧ 1 + p.2.2.1.length ≤ L.room then bodyR p.1 p.2.1 p.2.2.1 p.2.2.2 (readsL S L p.2.2.1.length) else none
/-- A record at the tail. -/
def findR (S : St) (L : Lg) : Option (List Img) := (headR (S.now (L.sec 0))).bind (findB S L)
theorem findR_def (S : St) (L : Lg) : findR S L = (headR (S.now (L.sec 0))).bind (findB S L) := rfl
theorem findR_none {S : St} {L : Lg} (h : headR (S.now (L.sec 0)) = none) : findR S L = none := by rw [findR_def, h]; rfl
theorem findR_some {S : St} {L : Lg} {p : Int × Int × List Int × Nat} (h : headR (S.now (L.sec 0)) = some p) : findR S L = findB S L p := by rw [findR_def, h]; rfl
theorem findR_no {S : St} {L : Lg} {ep sq : Int} {pages : List Int} {sum : Nat} (h : headR (S.now (L.sec 0)) = some (ep, sq, pages, sum)) (hn : ¬ (ep = L.ep ∧ sq = L.seq ∧ 1 + pages.length ≤ L.room)) : findR S L = none := by
  rw [findR_some h, findB]
  exact if_neg hn
theorem findR_yes {S : St} {L : Lg} {ep sq : Int} {pages : List Int} {sum : Nat} (h : headR (S.now (L.sec 0)) = some (ep, sq, pages, sum)) (hy : ep = L.ep ∧ sq = L.seq ∧ 1 + pages.length ≤ L.room) : findR S L = bodyR ep sq pages sum (readsL S L pages.length) := by
  rw [findR_some h, findB]
  exact if_pos hy
/-- All records from the tail on. -/
def openR (S : St) : Nat → Lg → List Rec × Lg
  | 0, L => ([], L)
  | k + 1, L => if L.room = 0 then ([], L) else (findR S L).elim ([], L) fun l => (((L.seq : Int), l) :: (openR S k (L.pass (1 + l.length))).1, (openR S k (L.pass (1 + l.length))).2)
theorem openR_succ (S : St) (k : Nat) (L : Lg) : openR S (k + 1) L = if L.room = 0 then ([], L) else (findR S L).elim ([], L) fun l => (((L.seq : Int), l) :: (openR S k (L.pass (1 + l.length))).1, (openR S k (L.pass (1 + l.length))).2) := rfl
theorem openR_full {S : St} {k : Nat} {L : Lg} (h : L.room = 0) : openR S k L = ([], L) := by
  cases k with
  | zero => rfl
  | succ k => rw [openR_succ, if_pos h]
theorem openR_end {S : St} {k : Nat} {L : Lg} (h : findR S L = none) : openR S k L = ([], L) := by
  cases k with
  | zero => rfl
  | succ k => rw [openR_succ, h]; split <;> rfl
theorem openR_go {S : St} {k : Nat} {L : Lg} {l : List Img} (h0 : L.room ≠ 0) (h : findR S L = some l) : openR S (k + 1) L = (((L.seq : Int), l) :: (openR S k (L.pass (1 + l.length))).1, (openR S k (L.pass (1 + l.length))).2) := by
  rw [openR_succ, if_neg h0, h]
  rfl
theorem imgsR_len {ep sq : Int} {pages : List Int} {bytes : List Nat} : ∀ {j : Nat} {l : List Img}, imgsR ep sq pages bytes j = some l → l.length = j
  | 0, l, h => by simp [imgsR] at h; subst h; rfl
  | j + 1, l, h => by
    rw [imgsR, Option.bind_eq_some_iff] at h
    obtain ⟨l0, h1, h2⟩ := h
    rw [Option.map_eq_some_iff] at h2
    obtain ⟨x, _, rfl⟩ := h2
    rw [List.length_append, imgsR_len h1]; rfl
theorem findR_room {S : St} {L : Lg} {l : List Img} (h : findR S L = some l) : 1 + l.length ≤ L.room := by
  cases hh : headR (S.now (L.sec 0)) with
  | none => rw [findR_none hh] at h; cases h
  | some p =>
    obtain ⟨ep, sq, pages, sum⟩ := p
    by_cases hy : ep = L.ep ∧ sq = L.seq ∧ 1 + pages.length ≤ L.room
    · rw [findR_yes hh hy, bodyR] at h
      split at h
      · rw [imgsR_len h]; exact hy.2.2
      · cases h
    · rw [findR_no hh hy] at h; cases h
end Go.Proofs.YteaokeiolgjhaaaGreat.Log
/- Superblocks on a disk that has nothing in its cache: Save and Load in plain words. No program is named. -/
namespace Go.Proofs.YteaokeiolgjhaaaGreat.Sup
open Go.RowKit CrcMath CodecMath Codec DiskSpec Dsk

/-- A disk of n sectors whose durable bytes are all there is of it. -/
def plain (n : Nat) (dur : Nat → List Nat) : St := ⟨n, dur, fun _ => [], 0, 0, 0, -1⟩
theorem plain_new (n : Nat) : St.new n = plain n fun _ => DiskSpec.zeros := rfl
theorem plain_now (n : Nat) (dur : Nat → List Nat) (i : Nat) : (plain n dur).now i = dur i := rfl
theorem plain_has {n : Nat} {dur : Nat → List Nat} (h2 : 2 ≤ n) (a : Nat) (ha : a < 2) : (plain n dur).has a 1 = true := by
  show (decide (0 ≤ (a : Int)) && (decide ((1 : Int) ≤ 1) && decide ((1 : Int) ≤ (n : Int) - a))) = true
  rw [Bool.and_eq_true, Bool.and_eq_true, decide_eq_true_eq, decide_eq_true_eq, decide_eq_true_eq]
  omega
theorem plain_readE {n : Nat} {dur : Nat → List Nat} (h2 : 2 ≤ n) (a : Nat) (ha : a < 2) : readE (plain n dur) a 1 = (0, plain n dur) := by
  unfold readE
  rw [if_neg (by rw [plain_has h2 a ha]; simp), if_neg (by simp [plain])]
  rfl
theorem plain_readL {n : Nat} {dur : Nat → List Nat} (h2 : 2 ≤ n) (a : Nat) (ha : a < 2) : readL (plain n dur) a 1 = dur a := by
  unfold readL
  rw [if_neg (by rw [plain_has h2 a ha]; simp), if_neg (by simp [plain])]
  show St.reads _ a 1 = _
  simp [St.reads, plain_now]
/-- What is loaded of it. -/
def bestP (n : Nat) (dur : Nat → List Nat) : Option (List Int) := bestOf n (dur 0) (dur 1)
theorem plain_loadT {n : Nat} {dur : Nat → List Nat} (h2 : 2 ≤ n) : loadT (plain n dur) = plain n dur := by
  unfold loadT loadS
  rw [if_neg (by show ¬ n < 2; omega)]
  rw [show ((readE (plain n dur) 0 1)) = (0, plain n dur) from plain_readE h2 0 (by omega)]
  rw [show ((readE (0, plain n dur).2 1 1)) = (0, plain n dur) from plain_readE h2 1 (by omega)]
theorem plain_load {n : Nat} {dur : Nat → List Nat} (h2 : 2 ≤ n) : loadE (plain n dur) = (if (bestP n dur).isSome then 0 else 14) ∧ loadV (plain n dur) = (bestP n dur).getD zero7' := by
  have e0 : readE (plain n dur) 0 1 = (0, plain n dur) := plain_readE h2 0 (by omega)
  have e1 : readE (plain n dur) 1 1 = (0, plain n dur) := plain_readE h2 1 (by omega)
  have l0 : readL (plain n dur) 0 1 = dur 0 := plain_readL h2 0 (by omega)
  have l1 : readL (plain n dur) 1 1 = dur 1 := plain_readL h2 1 (by omega)
  constructor
  · unfold loadE
    rw [if_neg (by show ¬ n < 2; omega), e0, if_neg (by show ¬ ((0 : Int) ≠ 0 ∨ _); rw [show readE (0, plain n dur).2 1 1 = (0, plain n dur) from e1]; simp), l0]
    rw [show readL (0, plain n dur).2 1 1 = dur 1 from l1]
    rfl
  · unfold loadV
    rw [if_neg (by show ¬ n < 2; omega), e0, if_neg (by show ¬ ((0 : Int) ≠ 0 ∨ _); rw [show readE (0, plain n dur).2 1 1 = (0, plain n dur) from e1]; simp), l0]
    rw [show readL (0, plain n dur).2 1 1 = dur 1 from l1]
    rfl
theorem may_gen {s : List Int} {n : Int} (hl : s.length = 7) (h : mayB s n = true) : 0 ≤ gen s ∧ gen s ≤ 1099511627776 := superOk_at (mayB_ok h) 0 (by omega)
theorem may_n {s : List Int} {n : Int} (_hl : s.length = 7) (h : mayB s n = true) : 2 ≤ n := by
  have hr : roomB s n = true := by
    unfold mayB at h
    rw [Bool.and_eq_true] at h
    exact h.2
  simp [roomB] at hr
  omega
/-- The place of a superblock. -/
def placeOf (s : List Int) : Nat := ((gen s).tmod 2).toNat
theorem place_is {s : List Int} (h : 0 ≤ gen s) : (gen s).tmod 2 = placeOf s ∧ placeOf s < 2 := by
  have e : (gen s).tmod 2 = gen s % 2 := Int.tmod_eq_emod_of_nonneg h
  unfold placeOf
  omega
/-- Bytes of a sector that are written with FUA where nothing is in the cache. -/
theorem plain_write {n : Nat} {dur : Nat → List Nat} (a : Nat) (ha : a < n) {l : List Nat} (hl : l.length = 256) : writeE (plain n dur) true a l = (0, plain n (upd dur a l)) := by
  unfold writeE
  rw [if_neg (by omega), hl]
  rw [if_neg (by simp [St.has, plain]; omega), if_neg (by simp [plain])]
  have hsec : sec l 0 = l := by
    show (l.drop (256 * 0)).take 256 = l
    rw [Nat.mul_zero, List.drop_zero, List.take_of_length_le (by omega)]
  show (0, _) = _
  congr 1
  show St.done (St.settle (St.add (plain n dur) (a + 0) (sec l 0)) (a + 0)) = _
  rw [hsec, Nat.add_zero]
  show ({ (plain n dur) with dur := upd dur a _, ver := _, left := _ } : St) = plain n (upd dur a l)
  have h1 : St.now (St.add (plain n dur) a l) a = l := by simp [St.now, St.add, upd, plain]
  have h2 : upd (upd (fun _ => ([] : List (List Nat))) a ([] ++ [l])) a [] = fun _ => [] := by
    funext i; unfold upd; split <;> rfl
  show (⟨n, upd dur a (St.now (St.add (plain n dur) a l) a), upd (upd (fun _ => []) a ([] ++ [l])) a [], 0 - 1, 0, 0, tick (-1)⟩ : St) = plain n (upd dur a l)
  rw [h1, h2]
  rfl
theorem plain_save {n : Nat} {dur : Nat → List Nat} {s : List Int} (hl : s.length = 7) (h : mayB s n = true) :
    saveE (plain n dur) s = (0, plain n (upd dur (placeOf s) (frame (superB s)))) := by
  have hg := may_gen hl h
  obtain ⟨hp, hp2⟩ := place_is hg.1
  have hn := may_n hl h
  unfold saveE
  rw [show (plain n dur).n = n from rfl, h, if_pos rfl, hp]
  exact plain_write _ (by omega) (superW_len hl (superW_may h))
theorem plain_save_no {n : Nat} {dur : Nat → List Nat} {s : List Int} (h : mayB s n = false) : saveE (plain n dur) s = (1, plain n dur) := by
  unfold saveE
  rw [show (plain n dur).n = n from rfl, h]
  rfl
theorem plain_crash (n : Nat) (dur : Nat → List Nat) (f1 f2 f3 : Nat) (left : Int) (picks : List Int) : (⟨n, dur, fun _ => [], f1, f2, f3, left⟩ : St).crash picks = plain n dur := by
  unfold St.crash plain
  congr 1
  funext i
  exact pickOf_nil _ _
theorem superR_head {l : List Nat} {s : List Int} (h : superR l = some s) : l.getD 0 0 = 80 := by
  obtain ⟨h1, _⟩ := superR_some h
  obtain ⟨rfl, _⟩ := superW_some h1
  obtain ⟨q, hq⟩ := frame_split (superB s)
  rw [hq]
  rfl
theorem superR_zeros : superR DiskSpec.zeros = none := by
  cases h : superR DiskSpec.zeros with
  | none => rfl
  | some s =>
    have := superR_head h
    exact absurd this (by decide)
theorem best_zeros (n : Nat) : bestP n (fun _ => DiskSpec.zeros) = none := by
  unfold bestP bestOf
  rw [sound_no superR_zeros, sound_no superR_zeros]
  rfl
end Go.Proofs.YteaokeiolgjhaaaGreat.Sup
/- What a record's write leaves of the ring's sectors, in plain words. No program is named. -/
namespace Go.Proofs.YteaokeiolgjhaaaGreat.Log
open Go.RowKit CrcMath CodecMath Codec DiskSpec Dsk Sup

theorem sec_take (l : List Nat) {a j : Nat} (h : 256 * (j + 1) ≤ a) : sec (l.take a) j = sec l j := by
  unfold sec
  rw [List.drop_take, List.take_take, Nat.min_eq_left (by omega)]
theorem sec_drop (l : List Nat) (k j : Nat) : sec (l.drop (256 * k)) j = sec l (k + j) := by
  unfold sec
  rw [List.drop_drop]
  congr 2
  omega
theorem puts_ver_eq (S : St) (a : Nat) (l : List Nat) (p : Nat) : ∀ k, (S.puts false a l k).ver p = if a ≤ p ∧ p < a + k then S.ver p ++ [sec l (p - a)] else S.ver p
  | 0 => by rw [if_neg (by omega)]; rfl
  | k + 1 => by
    have ih := puts_ver_eq S a l p k
    show upd (S.puts false a l k).ver (a + k) ((S.puts false a l k).ver (a + k) ++ [sec l k]) p = _
    by_cases e : p = a + k
    · subst e
      rw [upd_same, if_pos (by omega), ih, if_neg (by omega), Nat.add_sub_cancel_left]
    · rw [upd_ne _ _ e, ih]
      by_cases h : a ≤ p ∧ p < a + k
      · rw [if_pos h, if_pos (by omega)]
      · rw [if_neg h, if_neg (by omega)]
theorem puts_rest (S : St) (a : Nat) (l : List Nat) : ∀ k, (S.puts false a l k).dur = S.dur ∧ (S.puts false a l k).n = S.n ∧ (S.puts false a l k).f1 = S.f1 ∧ (S.puts false a l k).f2 = S.f2 ∧ (S.puts false a l k).f3 = S.f3 ∧ (S.puts false a l k).left = S.left
  | 0 => ⟨rfl, rfl, rfl, rfl, rfl, rfl⟩
  | k + 1 => puts_rest S a l k
/-- What stands behind a write that was done: sectors have one version more. -/
structure Wrote (S T : St) (a : Nat) (l : List Nat) (k : Nat) : Prop where
  ver : ∀ p, T.ver p = if a ≤ p ∧ p < a + k then S.ver p ++ [sec l (p - a)] else S.ver p
  dur : T.dur = S.dur
  n : T.n = S.n
  f1 : T.f1 = S.f1
  f2 : T.f2 = S.f2 - 1
  f3 : T.f3 = S.f3
  left : T.left = tick S.left
theorem writeE_stop {S : St} {a k : Nat} {l : List Nat} (hl : l.length = 256 * k) (hk : 1 ≤ k) (ha : a + k ≤ S.n) (h : S.f2 = 1 ∨ S.left = 0) : writeE S false (a : Nat) l = (11, { S with f2 := S.f2 - 1 }) := by
  unfold writeE
  rw [if_neg (by omega), if_neg (by simp [St.has, hl]; omega), if_pos h]
theorem writeE_done {S : St} {a k : Nat} {l : List Nat} (hl : l.length = 256 * k) (hk : 1 ≤ k) (ha : a + k ≤ S.n) (h : ¬ (S.f2 = 1 ∨ S.left = 0)) : (writeE S false (a : Nat) l).1 = 0 ∧ Wrote S (writeE S false (a : Nat) l).2 a l k := by
  have e : writeE S false (a : Nat) l = (0, (({ S with f2 := S.f2 - 1 } : St).puts false a l k).done) := by
    unfold writeE
    rw [if_neg (by omega), if_neg (by simp [St.has, hl]; omega), if_neg h, hl, show 256 * k / 256 = k from by omega]
    rfl
  rw [e]
  obtain ⟨h1, h2, h3, h4, h5, h6⟩ := puts_rest { S with f2 := S.f2 - 1 } a l k
  refine ⟨rfl, ⟨fun p => puts_ver_eq { S with f2 := S.f2 - 1 } a l p k, h1, h2, h3, h4, h5, ?_⟩⟩
  show tick _ = tick _
  rw [h6]
/-- What stands behind a record that was written at the tail. -/
structure Put (S T : St) (L : Lg) (l : List Nat) (k : Nat) : Prop where
  at_ : ∀ i, i < k → T.ver (L.sec i) = S.ver (L.sec i) ++ [sec l i]
  far : ∀ p, (∀ i, i < k → p ≠ L.sec i) → T.ver p = S.ver p
  dur : T.dur = S.dur
  n : T.n = S.n
  f1 : T.f1 = S.f1
theorem Lg.sec_low {L : Lg} {i : Nat} (h : L.tail + i < L.ln) : L.sec i = L.st + L.tail + i := by
  unfold Lg.sec
  rw [Nat.mod_eq_of_lt h]
  omega
theorem Lg.sec_high {L : Lg} {i : Nat} (h1 : L.ln ≤ L.tail + i) (h2 : L.tail + i < 2 * L.ln) : L.sec i = L.st + (L.tail + i - L.ln) := by
  unfold Lg.sec
  rw [Nat.mod_eq_sub_mod h1, Nat.mod_eq_of_lt (by omega)]
theorem Lg.sec_inj {L : Lg} {i j : Nat} (ht : L.tail < L.ln) (hi : i < L.ln) (hj : j < L.ln) (h : L.sec i = L.sec j) : i = j := by
  rcases Nat.lt_or_ge (L.tail + i) L.ln with h1 | h1
  · rcases Nat.lt_or_ge (L.tail + j) L.ln with h2 | h2
    · rw [L.sec_low h1, L.sec_low h2] at h; omega
    · rw [L.sec_low h1, L.sec_high h2 (by omega)] at h; omega
  · rcases Nat.lt_or_ge (L.tail + j) L.ln with h2 | h2
    · rw [L.sec_high h1 (by omega), L.sec_low h2] at h; omega
    · rw [L.sec_high h1 (by omega), L.sec_high h2 (by omega)] at h; omega
/-- A record's write: it is done whole; or it stops, and at most what stands ahead of the ring's end is there. -/
theorem putE_cases {S : St} {L : Lg} {l : List Nat} {k : Nat} (hk : L.ok S.n) (hl : l.length = 256 * k) (h1 : 1 ≤ k) (hkn : k ≤ L.ln) :
    ((putE S L l).1 = 0 ∧ Put S (putE S L l).2 L l k) ∨ ((putE S L l).1 = 11 ∧ ((putE S L l).2.f1 = S.f1 ∧ (putE S L l).2.n = S.n ∧ (putE S L l).2.dur = S.dur ∧ ((putE S L l).2.ver = S.ver ∨
      (L.ln - L.tail < k ∧ (∀ i, i < L.ln - L.tail → (putE S L l).2.ver (L.sec i) = S.ver (L.sec i) ++ [sec l i]) ∧ ∀ p, (∀ i, i < L.ln - L.tail → p ≠ L.sec i) → (putE S L l).2.ver p = S.ver p)))) := by
  have hfit := hk.fit; have htl := hk.tail
  by_cases hw : k ≤ L.ln - L.tail
  · have ha : L.ahead l.length = l.length := by unfold Lg.ahead; omega
    have hE : putE S L l = if (writeE S false (L.st + L.tail : Nat) l).1 ≠ 0 then writeE S false (L.st + L.tail : Nat) l else (0, (writeE S false (L.st + L.tail : Nat) l).2) := by
      unfold putE
      rw [ha, List.take_length, if_pos rfl]
    by_cases hs : S.f2 = 1 ∨ S.left = 0
    · have e := writeE_stop hl h1 (a := L.st + L.tail) (by omega) hs
      rw [e, if_pos (by show (11 : Int) ≠ 0; omega)] at hE
      rw [hE]
      exact .inr ⟨rfl, rfl, rfl, rfl, .inl rfl⟩
    · obtain ⟨e0, e1⟩ := writeE_done hl h1 (a := L.st + L.tail) (by omega) hs
      rw [e0, if_neg (by simp)] at hE
      rw [hE]
      refine .inl ⟨rfl, ⟨fun i hi => ?_, fun p hp => ?_, e1.dur, e1.n, e1.f1⟩⟩
      · rw [L.sec_low (by omega), e1.ver, if_pos (by omega)]
        congr 3
        omega
      · rw [e1.ver, if_neg (fun hh => hp (p - (L.st + L.tail)) (by omega) (by rw [L.sec_low (by omega)]; omega))]
  · have ha : L.ahead l.length = 256 * (L.ln - L.tail) := by unfold Lg.ahead; omega
    have hlt : (l.take (256 * (L.ln - L.tail))).length = 256 * (L.ln - L.tail) := by rw [List.length_take]; omega
    have hld : (l.drop (256 * (L.ln - L.tail))).length = 256 * (k - (L.ln - L.tail)) := by rw [List.length_drop]; omega
    have hE : putE S L l = if (writeE S false (L.st + L.tail : Nat) (l.take (256 * (L.ln - L.tail)))).1 ≠ 0 then writeE S false (L.st + L.tail : Nat) (l.take (256 * (L.ln - L.tail))) else writeE (writeE S false (L.st + L.tail : Nat) (l.take (256 * (L.ln - L.tail)))).2 false (L.st : Nat) (l.drop (256 * (L.ln - L.tail))) := by
      unfold putE
      rw [ha]
      split
      · rfl
      · rw [if_neg (by omega)]
    by_cases hs : S.f2 = 1 ∨ S.left = 0
    · have e := writeE_stop hlt (by omega) (a := L.st + L.tail) (by omega) hs
      rw [e, if_pos (by show (11 : Int) ≠ 0; omega)] at hE
      rw [hE]
      exact .inr ⟨rfl, rfl, rfl, rfl, .inl rfl⟩
    · obtain ⟨e0, e1⟩ := writeE_done hlt (by omega) (a := L.st + L.tail) (by omega) hs
      rw [e0, if_neg (by simp)] at hE
      generalize (writeE S false (L.st + L.tail : Nat) (l.take (256 * (L.ln - L.tail)))).2 = S1 at hE e1
      by_cases hs2 : S1.f2 = 1 ∨ S1.left = 0
      · have e2 := writeE_stop hld (by omega) (a := L.st) (by have := e1.n; omega) hs2
        rw [hE, e2]
        refine .inr ⟨rfl, e1.f1, e1.n, e1.dur, .inr ⟨by omega, fun i hi => ?_, fun p hp => ?_⟩⟩
        · show S1.ver (L.sec i) = _
          rw [L.sec_low (by omega), e1.ver, if_pos (by omega), sec_take _ (by omega)]
          congr 3
          omega
        · show S1.ver p = _
          rw [e1.ver, if_neg (fun hh => hp (p - (L.st + L.tail)) (by omega) (by rw [L.sec_low (by omega)]; omega))]
      · obtain ⟨e2, e3⟩ := writeE_done hld (by omega) (a := L.st) (by have := e1.n; omega) hs2
        rw [hE]
        refine .inl ⟨e2, ⟨fun i hi => ?_, fun p hp => ?_, e3.dur.trans e1.dur, e3.n.trans e1.n, e3.f1.trans e1.f1⟩⟩
        · by_cases hi2 : i < L.ln - L.tail
          · rw [L.sec_low (by omega), e3.ver, if_neg (by omega), e1.ver, if_pos (by omega), sec_take _ (by omega)]
            congr 3
            omega
          · rw [L.sec_high (by omega) (by omega), e3.ver, if_pos (by omega), e1.ver, if_neg (by omega), sec_drop]
            congr 3
            omega
        · rw [e3.ver, if_neg (fun hh => hp (L.ln - L.tail + (p - L.st)) (by omega) (by rw [L.sec_high (by omega) (by omega)]; omega)), e1.ver,
            if_neg (fun hh => hp (p - (L.st + L.tail)) (by omega) (by rw [L.sec_low (by omega)]; omega))]

/-! ### A record's sectors -/
theorem sec_head {ep sq : Int} {l : List Img} (h40 : l.length ≤ 40) : sec (recB ep sq l) 0 = headF ep sq l := by
  unfold sec recB
  rw [Nat.mul_zero, List.drop_zero, List.take_append_of_le_length (by rw [headF_len h40]; omega), List.take_of_length_le (by rw [headF_len h40]; omega)]
theorem sec_imgs (ep sq : Int) : ∀ {l : List Img} (_ : ∀ x ∈ l, imgOk x = true) {i : Nat} {x : Img}, l[i]? = some x → sec (imgsB ep sq l) i = imgF ep sq x
  | [], _, i, x, hx => by simp at hx
  | y :: r, hok, 0, x, hx => by
    simp at hx
    subst hx
    have hl := imgF_len (ep := ep) (sq := sq) (hok y (List.mem_cons_self ..))
    show ((imgF ep sq y ++ imgsB ep sq r).drop (256 * 0)).take 256 = _
    rw [Nat.mul_zero, List.drop_zero, List.take_append_of_le_length (by omega), List.take_of_length_le (by omega)]
  | y :: r, hok, i + 1, x, hx => by
    have hl := imgF_len (ep := ep) (sq := sq) (hok y (List.mem_cons_self ..))
    have ih := sec_imgs ep sq (l := r) (fun z hz => hok z (List.mem_cons_of_mem _ hz)) (i := i) (x := x) (by simpa using hx)
    have e : imgsB ep sq (y :: r) = imgF ep sq y ++ imgsB ep sq r := rfl
    rw [← ih, e]
    unfold sec
    rw [List.drop_append, List.drop_of_length_le (by omega), List.nil_append, hl, show 256 * (i + 1) - 256 = 256 * i from by omega]
theorem sec_img {ep sq : Int} {l : List Img} (hok : ∀ x ∈ l, imgOk x = true) (h40 : l.length ≤ 40) {i : Nat} {x : Img} (hx : l[i]? = some x) : sec (recB ep sq l) (1 + i) = imgF ep sq x := by
  rw [← sec_imgs ep sq hok hx]
  have hl := headF_len (ep := ep) (sq := sq) h40
  unfold sec recB
  rw [List.drop_append, List.drop_of_length_le (by omega), List.nil_append, hl, show 256 * (1 + i) - 256 = 256 * i from by omega]

/-! ### A record that lies at the tail is found -/
/-- May images be a record of a log? -/
structure Fit (L : Lg) (l : List Img) : Prop where
  ok : ∀ x ∈ l, imgOk x = true
  one : 1 ≤ l.length
  most : l.length ≤ 40
  ep : L.ep ≤ 4294967295
  seq : L.seq ≤ 1099511627775
/-- A record lies at the tail. -/
def Lies5 (S : St) (L : Lg) (l : List Img) : Prop := ∀ i, i < 1 + l.length → S.now (L.sec i) = sec (recB L.ep L.seq l) i
theorem lies_reads {S : St} {L : Lg} {l : List Img} (hf : Fit L l) (h : Lies5 S L l) : ∀ j, j ≤ l.length → readsL S L j = imgsB L.ep L.seq (l.take j)
  | 0, _ => rfl
  | j + 1, hj => by
    have hx : l[j]? = some l[j] := List.getElem?_eq_getElem (by omega)
    rw [readsL, lies_reads hf h j (by omega), h (1 + j) (by omega), sec_img hf.ok hf.most hx, imgsB_take _ _ _ hx]
theorem lies_imgs {S : St} {L : Lg} {l : List Img} (hs : S.ok) (hf : Fit L l) (h : Lies5 S L l) : ∀ j, j ≤ l.length → imgsR L.ep L.seq (nos l) (readsL S L l.length) j = some (l.take j)
  | 0, _ => rfl
  | j + 1, hj => by
    have hx : l[j]? = some l[j] := List.getElem?_eq_getElem (by omega)
    have h1 := readsL_sec hs L l.length j (by omega)
    rw [h (1 + j) (by omega), sec_img hf.ok hf.most hx] at h1
    have hn : (nos l).getD j 0 = (l[j]).1 := by
      unfold nos
      rw [List.getD_eq_getElem?_getD, List.getElem?_map, hx]
      rfl
    have h2 := imgsR_go (lies_imgs hs hf h j (by omega)) (x := l[j]) (by
      rw [h1, hn]
      exact imgR_yes (imageR_of (imgW_ok (hf.ok _ (List.getElem_mem _)) hf.ep hf.seq)))
    rw [h2, List.take_add_one, hx]
    rfl
theorem findR_lies {S : St} {L : Lg} {l : List Img} (hs : S.ok) (hf : Fit L l) (h : Lies5 S L l) (hr : 1 + l.length ≤ L.room) : findR S L = some l := by
  have h0 := h 0 (by omega)
  rw [sec_head hf.most] at h0
  have hh := headR_of (M_lt 0 (imgsB L.ep L.seq l)) (headW_ok (ep := L.ep) (sq := L.seq) hf.ok hf.one hf.most hf.ep hf.seq _ rfl)
  rw [← h0] at hh
  rw [findR_yes hh ⟨rfl, rfl, by rw [nos_len]; exact hr⟩, nos_len, bodyR, lies_reads hf h _ (Nat.le_refl _), List.take_length, if_pos rfl, nos_len]
  have := lies_imgs hs hf h l.length (Nat.le_refl _)
  rw [lies_reads hf h _ (Nat.le_refl _), List.take_length] at this
  exact this
end Go.Proofs.YteaokeiolgjhaaaGreat.Log
/- Records one behind the other on a disk that does not fail: what is appended is read again. No program is named. -/
namespace Go.Proofs.YteaokeiolgjhaaaGreat.Log
open Go.RowKit CrcMath CodecMath Codec DiskSpec Dsk Sup

/-! ### A disk that does not fail -/
structure Calm (S : St) : Prop where
  f1 : S.f1 = 0
  f2 : S.f2 = 0
  left : S.left = -1
theorem Calm.new (n : Nat) : Calm (St.new n) := ⟨rfl, rfl, rfl⟩
theorem writeE_calm {S : St} (hc : Calm S) {a k : Nat} {l : List Nat} (hl : l.length = 256 * k) (hk : 1 ≤ k) (ha : a + k ≤ S.n) : (writeE S false (a : Nat) l).1 = 0 ∧ Calm (writeE S false (a : Nat) l).2 := by
  have h1 := hc.f2; have h2 := hc.left
  obtain ⟨e0, e1⟩ := writeE_done hl hk ha (by omega)
  exact ⟨e0, e1.f1.trans hc.f1, by rw [e1.f2, hc.f2], by rw [e1.left, hc.left]; rfl⟩
theorem putE_calm {S : St} {L : Lg} (hc : Calm S) {l : List Nat} {k : Nat} (hk : L.ok S.n) (hl : l.length = 256 * k) (h1 : 1 ≤ k) (hkn : k ≤ L.ln) : (putE S L l).1 = 0 ∧ Calm (putE S L l).2 := by
  have hfit := hk.fit; have htl := hk.tail
  by_cases hw : k ≤ L.ln - L.tail
  · have ha : L.ahead l.length = l.length := by unfold Lg.ahead; omega
    obtain ⟨e0, e1⟩ := writeE_calm hc hl h1 (a := L.st + L.tail) (by omega)
    unfold putE
    rw [ha, List.take_length, if_pos rfl, e0, if_neg (by simp)]
    exact ⟨rfl, e1⟩
  · have ha : L.ahead l.length = 256 * (L.ln - L.tail) := by unfold Lg.ahead; omega
    have hlt : (l.take (256 * (L.ln - L.tail))).length = 256 * (L.ln - L.tail) := by rw [List.length_take]; omega
    have hld : (l.drop (256 * (L.ln - L.tail))).length = 256 * (k - (L.ln - L.tail)) := by rw [List.length_drop]; omega
    have hn : (writeE S false (L.st + L.tail : Nat) (l.take (256 * (L.ln - L.tail)))).2.n = S.n := (writeE_done hlt (by omega) (a := L.st + L.tail) (by omega) (by have h1 := hc.f2; have h2 := hc.left; omega)).2.n
    obtain ⟨e0, e1⟩ := writeE_calm hc hlt (by omega) (a := L.st + L.tail) (by omega)
    obtain ⟨e2, e3⟩ := writeE_calm e1 hld (by omega) (a := L.st) (by rw [hn]; omega)
    unfold putE
    rw [ha, e0, if_neg (by simp), if_neg (by omega)]
    exact ⟨e2, e3⟩
theorem append_big {S : St} {L : Lg} {l : List Img} (h : 40 < l.length) : appendE S L l = (16, S, L) := by unfold appendE; rw [if_pos h]
theorem append_arg {S : St} {L : Lg} {l : List Img} (h : l.length ≤ 40) (h0 : l.length = 0 ∨ mayW [] l = false) : appendE S L l = (1, S, L) := by unfold appendE; rw [if_neg (by omega), if_pos h0]
theorem append_full {S : St} {L : Lg} {l : List Img} (h : l.length ≤ 40) (h1 : 1 ≤ l.length) (hm : mayW [] l = true) (hf : L.room < 1 + l.length ∨ 4294967295 < L.ep ∨ 1099511627775 < L.seq) : appendE S L l = (15, S, L) := by
  unfold appendE
  rw [if_neg (by omega), if_neg (by rw [hm]; simp; intro e; subst e; simp at h1), if_pos hf]
theorem append_goes {S : St} {L : Lg} {l : List Img} (h : l.length ≤ 40) (h1 : 1 ≤ l.length) (hm : mayW [] l = true) (hf : ¬ (L.room < 1 + l.length ∨ 4294967295 < L.ep ∨ 1099511627775 < L.seq)) :
    appendE S L l = if (putE S L (recB L.ep L.seq l)).1 = 0 then (0, (putE S L (recB L.ep L.seq l)).2, L.pass (1 + l.length)) else ((putE S L (recB L.ep L.seq l)).1, (putE S L (recB L.ep L.seq l)).2, L.fail) := by
  unfold appendE
  rw [if_neg (by omega), if_neg (by rw [hm]; simp; intro e; subst e; simp at h1), if_neg hf]
theorem room_ln (L : Lg) : L.room ≤ L.ln := by unfold Lg.room; split <;> omega
theorem append_calm {S : St} {L : Lg} {l : List Img} (hc : Calm S) (hk : L.ok S.n) (h : l.length ≤ 40) (h1 : 1 ≤ l.length) (hm : mayW [] l = true) (hf : ¬ (L.room < 1 + l.length ∨ 4294967295 < L.ep ∨ 1099511627775 < L.seq)) :
    ∃ T, appendE S L l = (0, T, L.pass (1 + l.length)) ∧ Put S T L (recB L.ep L.seq l) (1 + l.length) ∧ Calm T := by
  have hok := mayW_ok hm
  have hl := recB_len (ep := L.ep) (sq := L.seq) hok h
  have hr := room_ln L
  obtain ⟨e0, e1⟩ := putE_calm hc hk hl (by omega) (by omega)
  refine ⟨(putE S L (recB L.ep L.seq l)).2, by rw [append_goes h h1 hm hf, if_pos e0], ?_, e1⟩
  rcases putE_cases hk hl (by omega) (by omega) with ⟨_, h2⟩ | ⟨h2, _⟩
  · exact h2
  · rw [h2] at e0; cases e0
theorem Put.now {S T : St} {L : Lg} {l : List Nat} {k : Nat} (h : Put S T L l k) {i : Nat} (hi : i < k) : T.now (L.sec i) = sec l i := by
  unfold St.now
  rw [h.at_ i hi]
  simp
theorem Put.same {S T : St} {L : Lg} {l : List Nat} {k : Nat} (h : Put S T L l k) {p : Nat} (hp : ∀ i, i < k → p ≠ L.sec i) : T.now p = S.now p := by
  unfold St.now
  rw [h.far p hp, h.dur]

theorem Put.lens {S T : St} {L : Lg} {l : List Nat} {k : Nat} (h : Put S T L l k) (p : Nat) : (T.ver p).length ≤ (S.ver p).length + 1 := by
  by_cases hp : ∃ i, i < k ∧ p = L.sec i
  · obtain ⟨i, hi, rfl⟩ := hp
    rw [h.at_ i hi]
    simp
  · rw [h.far p (fun i hi e => hp ⟨i, hi, e⟩)]
    omega
/-! ### A chain of records -/
theorem sec_pass (L : Lg) (m o : Nat) : (L.pass m).sec o = L.sec (m + o) := by
  show L.st + ((L.tail + m) % L.ln + o) % L.ln = L.st + (L.tail + (m + o)) % L.ln
  rw [Nat.mod_add_mod, Nat.add_assoc]
def total : List (List Img) → Nat
  | [] => 0
  | l :: r => 1 + l.length + total r
def passes (L : Lg) : List (List Img) → Lg
  | [] => L
  | l :: r => passes (L.pass (1 + l.length)) r
def recsOf (q : Int) : List (List Img) → List Rec
  | [] => []
  | l :: r => (q, l) :: recsOf (q + 1) r
def LiesAll (S : St) (L : Lg) : List (List Img) → Prop
  | [] => True
  | l :: r => Fit L l ∧ 1 + l.length ≤ L.room ∧ Lies5 S L l ∧ LiesAll S (L.pass (1 + l.length)) r
theorem total_snoc (l : List Img) : ∀ ls, total (ls ++ [l]) = total ls + (1 + l.length)
  | [] => by simp [total]
  | x :: r => by
    show 1 + x.length + total (r ++ [l]) = 1 + x.length + total r + (1 + l.length)
    rw [total_snoc l r]; omega
theorem passes_snoc (l : List Img) : ∀ (L : Lg) ls, passes L (ls ++ [l]) = (passes L ls).pass (1 + l.length)
  | _, [] => rfl
  | L, x :: r => passes_snoc l (L.pass (1 + x.length)) r
theorem recsOf_snoc (l : List Img) : ∀ (q : Int) ls, recsOf q (ls ++ [l]) = recsOf q ls ++ [(q + ls.length, l)]
  | q, [] => by simp [recsOf]
  | q, x :: r => by
    show (q, x) :: recsOf (q + 1) (r ++ [l]) = (q, x) :: recsOf (q + 1) r ++ [_]
    rw [recsOf_snoc l (q + 1) r]
    simp only [List.cons_append, List.length_cons]
    congr 4
    omega
theorem recsOf_len : ∀ (q : Int) ls, (recsOf q ls).length = ls.length
  | _, [] => rfl
  | q, x :: r => by show (recsOf (q + 1) r).length + 1 = _; rw [recsOf_len (q + 1) r]; rfl
theorem sec_passes (o : Nat) : ∀ (L : Lg) ls, (passes L ls).sec o = L.sec (total ls + o)
  | L, [] => by show L.sec o = L.sec (0 + o); rw [Nat.zero_add]
  | L, x :: r => by
    show (passes (L.pass (1 + x.length)) r).sec o = L.sec (1 + x.length + total r + o)
    rw [sec_passes o (L.pass (1 + x.length)) r, sec_pass]
    congr 1
    omega
structure Along (L M : Lg) (t k : Nat) : Prop where
  ln : M.ln = L.ln
  st : M.st = L.st
  ep : M.ep = L.ep
  seq : M.seq = L.seq + k
  taken : M.taken = L.taken + t
  broken : M.broken = L.broken
theorem passes_along : ∀ (L : Lg) ls, Along L (passes L ls) (total ls) ls.length
  | _, [] => ⟨rfl, rfl, rfl, rfl, rfl, rfl⟩
  | L, x :: r => by
    have h := passes_along (L.pass (1 + x.length)) r
    refine ⟨h.ln, h.st, h.ep, ?_, ?_, h.broken⟩
    · have := h.seq
      show (passes (L.pass (1 + x.length)) r).seq = L.seq + (r.length + 1)
      rw [this]
      show L.seq + 1 + r.length = _
      omega
    · have := h.taken
      show (passes (L.pass (1 + x.length)) r).taken = L.taken + (1 + x.length + total r)
      rw [this]
      show L.taken + (1 + x.length) + total r = _
      omega
theorem liesAll_keep {S T : St} : ∀ {L : Lg} {ls : List (List Img)}, LiesAll S L ls → (∀ o, o < total ls → T.now (L.sec o) = S.now (L.sec o)) → LiesAll T L ls
  | L, [], _, _ => trivial
  | L, x :: r, h, hk => by
    obtain ⟨h1, h2, h3, h4⟩ := h
    have ht : total (x :: r) = 1 + x.length + total r := rfl
    refine ⟨h1, h2, fun i hi => ?_, liesAll_keep h4 (fun o ho => ?_)⟩
    · rw [hk i (by omega)]; exact h3 i hi
    · rw [sec_pass]; exact hk _ (by omega)
theorem liesAll_snoc {S : St} {l : List Img} : ∀ {L : Lg} {ls : List (List Img)}, LiesAll S L ls → Fit (passes L ls) l → 1 + l.length ≤ (passes L ls).room → Lies5 S (passes L ls) l → LiesAll S L (ls ++ [l])
  | L, [], _, h1, h2, h3 => ⟨h1, h2, h3, trivial⟩
  | L, x :: r, h, h1, h2, h3 => by
    obtain ⟨q1, q2, q3, q4⟩ := h
    exact ⟨q1, q2, q3, liesAll_snoc q4 h1 h2 h3⟩
theorem openR_all {S : St} (hs : S.ok) : ∀ {ls : List (List Img)} {L : Lg} {F : Nat}, LiesAll S L ls → ls.length ≤ F → ((passes L ls).room = 0 ∨ findR S (passes L ls) = none) → openR S F L = (recsOf (L.seq : Int) ls, passes L ls)
  | [], L, F, _, _, he => by
    rcases he with he | he
    · exact openR_full he
    · exact openR_end he
  | x :: r, L, F, h, hF, he => by
    obtain ⟨q1, q2, q3, q4⟩ := h
    obtain ⟨F', rfl⟩ : ∃ F', F = F' + 1 := ⟨F - 1, by simp at hF; omega⟩
    rw [openR_go (by omega) (findR_lies hs q1 q3 q2), openR_all hs q4 (by simp at hF; omega) he]
    rfl
theorem total_ge : ∀ ls : List (List Img), ls.length ≤ total ls
  | [] => Nat.le_refl _
  | x :: r => by show r.length + 1 ≤ 1 + x.length + total r; have := total_ge r; omega
theorem headR_zeros : headR DiskSpec.zeros = none := by
  cases h : headR DiskSpec.zeros with
  | none => rfl
  | some p =>
    obtain ⟨ep, sq, pages, sum⟩ := p
    have h1 : headW ep sq pages sum = some DiskSpec.zeros := by
      unfold headR at h
      split at h
      · rename_i h1
        simp only [Option.some.injEq, Prod.mk.injEq] at h
        obtain ⟨h2, h3, h4, h5⟩ := h
        rw [h2, h3, h4, h5] at h1
        exact h1
      · cases h
    have h2 := (headW_some h1).1
    obtain ⟨q, hq⟩ := frame_split (headB ep sq pages sum)
    rw [hq] at h2
    have h3 : DiskSpec.zeros.getD 0 0 = 80 := by rw [h2]; rfl
    exact absurd h3 (by decide)
/-- Where a fresh ring stands behind records that were appended. -/
structure Fresh5 (S : St) (L : Lg) (ls : List (List Img)) : Prop where
  lies : LiesAll S L ls
  rest : ∀ o, total ls ≤ o → o < L.ln → S.now (L.sec o) = DiskSpec.zeros
  room : L.taken + total ls ≤ L.ln
  calm : Calm S
  whole : L.broken = false
theorem Fresh5.room_ {S : St} {L : Lg} {ls : List (List Img)} (h : Fresh5 S L ls) : (passes L ls).room = L.ln - (L.taken + total ls) := by
  have ha := passes_along L ls
  unfold Lg.room
  rw [ha.broken, h.whole, ha.ln, ha.taken]
  rfl
theorem Fresh5.next {S : St} {L : Lg} {ls : List (List Img)} (h : Fresh5 S L ls) (ht : L.tail < L.ln) (h0 : L.taken = 0) {l : List Img} (hk : (passes L ls).ok S.n) (h40 : l.length ≤ 40) (h1 : 1 ≤ l.length) (hm : mayW [] l = true)
    (hf : ¬ ((passes L ls).room < 1 + l.length ∨ 4294967295 < (passes L ls).ep ∨ 1099511627775 < (passes L ls).seq)) : ∃ T, appendE S (passes L ls) l = (0, T, passes L (ls ++ [l])) ∧ Fresh5 T L (ls ++ [l]) ∧ T.n = S.n ∧ ∀ p, (T.ver p).length ≤ (S.ver p).length + 1 := by
  obtain ⟨T, e, hp, hc⟩ := append_calm h.calm hk h40 h1 hm hf
  have hr := h.room_
  have hroom := h.room
  have hfit : Fit (passes L ls) l := ⟨mayW_ok hm, h1, h40, by omega, by omega⟩
  have hsec : ∀ o i, o < L.ln → i < 1 + l.length → o ≠ total ls + i → L.sec o ≠ (passes L ls).sec i := fun o i ho hi hne he => by
    rw [sec_passes] at he
    exact hne (L.sec_inj ht ho (by omega) he)
  refine ⟨T, by rw [e, passes_snoc], ⟨liesAll_snoc (liesAll_keep h.lies (fun o ho => ?_)) hfit (by omega) (fun i hi => hp.now hi), fun o ho1 ho2 => ?_, ?_, hc, h.whole⟩, hp.n, hp.lens⟩
  · exact hp.same (fun i hi => hsec o i (by omega) hi (by omega))
  · rw [total_snoc] at ho1
    rw [hp.same (fun i hi => hsec o i ho2 hi (by omega))]
    exact h.rest o (by omega) ho2
  · rw [total_snoc]; omega
theorem Fresh5.open_ {S : St} {L : Lg} {ls : List (List Img)} (h : Fresh5 S L ls) (hs : S.ok) (h0 : L.taken = 0) : openR S L.ln L = (recsOf (L.seq : Int) ls, passes L ls) := by
  have hroom := h.room
  have ht := total_ge ls
  refine openR_all hs h.lies (by omega) ?_
  by_cases he : (passes L ls).room = 0
  · exact .inl he
  · rw [h.room_] at he
    refine .inr (findR_none ?_)
    rw [sec_passes, Nat.add_zero, h.rest _ (Nat.le_refl _) (by omega)]
    exact headR_zeros
theorem Fresh5.new {S : St} {L : Lg} (hc : Calm S) (hz : ∀ p, S.now p = DiskSpec.zeros) (hb : L.broken = false) (ht : L.taken ≤ L.ln) : Fresh5 S L [] := ⟨trivial, fun o _ _ => hz _, by show L.taken + 0 ≤ _; omega, hc, hb⟩
end Go.Proofs.YteaokeiolgjhaaaGreat.Log
/- What may lie in a ring's sectors, and what is read behind a crash, in plain words. No program is named. -/
namespace Go.Proofs.YteaokeiolgjhaaaGreat.Log
open Go.RowKit CrcMath CodecMath Codec DiskSpec Dsk Sup

/-- What a sector may hold behind a crash. -/
def Cand (S : St) (p : Nat) (c : List Nat) : Prop := c = S.dur p ∨ c ∈ S.ver p
theorem cand_now (S : St) (p : Nat) : Cand S p (S.now p) := by
  unfold Cand St.now
  cases hv : (S.ver p).getLast? with
  | none =>
    rw [List.getLast?_eq_none_iff.1 hv]
    exact .inl rfl
  | some v =>
    rw [List.getLastD_eq_getLast?, hv]
    exact .inr (List.mem_of_getLast? hv)
theorem pickOf_mem (d : List Nat) (vs : List (List Nat)) (p : Int) : pickOf d vs p = d ∨ pickOf d vs p ∈ vs := by
  unfold pickOf
  split
  · exact .inl rfl
  · rw [List.getD_eq_getElem?_getD]
    cases hg : vs[(p % (vs.length + 1 : Int)).toNat - 1]? with
    | none => exact .inl rfl
    | some v => exact .inr (List.mem_of_getElem? hg)
theorem cand_crash (S : St) (picks : List Int) (p : Nat) : Cand S p ((S.crash picks).now p) := by
  have e : (S.crash picks).now p = pickOf (S.dur p) (S.ver p) (picks.getD (S.dirty.idxOf p) 0) := rfl
  rw [e]
  exact pickOf_mem _ _ _
/-- A sector bears, as a head or as an image, no number of this epoch from q on, nor of a later epoch. -/
def Old (ep q : Nat) (c : List Nat) : Prop :=
  (∀ e s ps m, headR c = some (e, s, ps, m) → e < ep ∨ (e = ep ∧ s < q)) ∧ (∀ e s n k b, imageR c = some (e, s, n, k, b) → e < ep ∨ (e = ep ∧ s < q))
theorem Old.more {ep q ep' q' : Nat} {c : List Nat} (h : Old ep q c) (hq : ep < ep' ∨ (ep = ep' ∧ q ≤ q')) : Old ep' q' c := by
  refine ⟨fun e s ps m hh => ?_, fun e s n k b hh => ?_⟩
  · have := h.1 e s ps m hh; omega
  · have := h.2 e s n k b hh; omega
theorem first_byte {l : List Nat} {x : Nat} {p q : List Nat} (h : l = (x :: p) ++ q) : l.getD 0 0 = x := by rw [h]; rfl
/-- A head is no image, and bears its own numbers. -/
theorem old_head {ep sq : Nat} {l : List Img} (h1 : 1 ≤ l.length) (h40 : l.length ≤ 40) (hok : ∀ x ∈ l, imgOk x = true) (he : ep ≤ 4294967295) (hs : sq ≤ 1099511627775) : Old ep (sq + 1) (headF ep sq l) := by
  refine ⟨fun e s ps m hh => ?_, fun e s n k b hh => ?_⟩
  · rw [headR_of (M_lt 0 (imgsB ep sq l)) (headW_ok (ep := ep) (sq := sq) hok h1 h40 he hs _ rfl)] at hh
    simp only [Option.some.injEq, Prod.mk.injEq] at hh
    omega
  · exfalso
    unfold imageR at hh
    split at hh
    · rename_i hw
      obtain ⟨hl, hpk, _⟩ := imageW_some hw
      have hk := (pageOk_iff hpk).1
      have hf : (num (headF ep sq l) 0 1 : Int) = 80 := by
        obtain ⟨q, hq⟩ := frame_split (headB ep sq (nos l) (M 0 (imgsB ep sq l)))
        unfold headF
        rw [hq]
        rfl
      rw [hf] at hk
      omega
    · cases hh
theorem old_img {ep sq : Nat} {x : Img} (hok : imgOk x = true) (he : ep ≤ 4294967295) (hs : sq ≤ 1099511627775) : Old ep (sq + 1) (imgF ep sq x) := by
  refine ⟨fun e s ps m hh => ?_, fun e s n k b hh => ?_⟩
  · exfalso
    unfold headR at hh
    split at hh
    · rename_i hw
      have hl := (headW_some hw).1
      have hk := (imgOk_iff hok).1
      obtain ⟨q, hq⟩ := frame_split (headB (wrap64 (num (imgF ep sq x) 4 8 : Nat)) (wrap64 (num (imgF ep sq x) 12 8 : Nat)) (numsAt (imgF ep sq x) 26 4 4 (min (num (imgF ep sq x) 24 2) 40)) (num (imgF ep sq x) 20 4))
      rw [hq] at hl
      have h1 : (imgF ep sq x).getD 0 0 = 80 := first_byte hl
      have h2 := (image_fields (imgW_ok hok he hs)).1
      have h3 : num (imgF ep sq x) 0 1 = (imgF ep sq x).getD 0 0 := by simp [num]
      omega
    · cases hh
  · rw [imageR_of (imgW_ok hok he hs)] at hh
    simp only [Option.some.injEq, Prod.mk.injEq] at hh
    omega
/-- Sector o of a chain. -/
def chainSec : Lg → List (List Img) → Nat → List Nat
  | _, [], _ => []
  | L, l :: r, o => if o < 1 + l.length then sec (recB L.ep L.seq l) o else chainSec (L.pass (1 + l.length)) r (o - (1 + l.length))
/-- A chain of records that fit. -/
def FitAll (L : Lg) : List (List Img) → Prop
  | [] => True
  | l :: r => Fit L l ∧ 1 + l.length ≤ L.room ∧ FitAll (L.pass (1 + l.length)) r
theorem findR_old {S : St} {L : Lg} (h : Old L.ep L.seq (S.now (L.sec 0))) : findR S L = none := by
  cases hh : headR (S.now (L.sec 0)) with
  | none => exact findR_none hh
  | some p =>
    obtain ⟨e, s, ps, m⟩ := p
    have := h.1 e s ps m hh
    exact findR_no hh (fun hc => by omega)
/-- A head that is right, and an image that is not. -/
theorem findR_half {S : St} {L : Lg} {l : List Img} (hs : S.ok) (hf : Fit L l) (h0 : S.now (L.sec 0) = headF L.ep L.seq l) {k : Nat} (hk : k < l.length) (ho : Old L.ep L.seq (S.now (L.sec (1 + k)))) : findR S L = none := by
  have hh := headR_of (M_lt 0 (imgsB L.ep L.seq l)) (headW_ok (ep := L.ep) (sq := L.seq) hf.ok hf.one hf.most hf.ep hf.seq _ rfl)
  rw [← h0] at hh
  by_cases hr : 1 + l.length ≤ L.room
  · rw [findR_yes hh ⟨rfl, rfl, by rw [nos_len]; exact hr⟩, nos_len, bodyR]
    split
    · rw [nos_len]
      refine imgsR_stop (j := k) ?_ hk
      rw [readsL_sec hs L l.length k hk]
      cases hi : imageR (S.now (L.sec (1 + k))) with
      | none => exact imgR_none hi
      | some p =>
        obtain ⟨e, s, n, kd, b⟩ := p
        have := ho.2 e s n kd b hi
        exact imgR_no hi (fun hc => by omega)
    · rfl
  · exact findR_no hh (fun hc => hr (by have := hc.2.2; rw [nos_len] at this; exact this))
/-- What is read of a chain of which any sectors may be older ones: the first records, up to one that is not whole. -/
theorem openR_some {S : St} (hs : S.ok) (ep : Nat) : ∀ {ls : List (List Img)} {L : Lg} {F : Nat} (q : Nat), L.ep = ep → q ≤ L.seq → FitAll L ls → (∀ o, o < total ls → S.now (L.sec o) = chainSec L ls o ∨ Old ep q (S.now (L.sec o))) → ls.length ≤ F →
    ((∀ o, o < total ls → S.now (L.sec o) = chainSec L ls o) → (passes L ls).room = 0 ∨ findR S (passes L ls) = none) →
    ∃ m, m ≤ ls.length ∧ openR S F L = (recsOf (L.seq : Int) (ls.take m), passes L (ls.take m)) ∧ ∀ k, k ≤ ls.length → (∀ o, o < total (ls.take k) → S.now (L.sec o) = chainSec L ls o) → k ≤ m
  | [], L, F, q, _, _, _, _, _, hend => by
    refine ⟨0, Nat.le_refl _, ?_, fun k hk _ => hk⟩
    rcases hend (fun o ho => by cases ho) with he | he
    · exact openR_full he
    · exact openR_end he
  | l :: r, L, F, q, hep, hq, hfa, hall, hF, hend => by
    obtain ⟨h1, h2, h3⟩ := hfa
    have ht : total (l :: r) = 1 + l.length + total r := rfl
    by_cases hw : ∀ i, i < 1 + l.length → S.now (L.sec i) = sec (recB L.ep L.seq l) i
    · obtain ⟨F', rfl⟩ : ∃ F', F = F' + 1 := ⟨F - 1, by simp at hF; omega⟩
      have hc : ∀ o, chainSec L (l :: r) (1 + l.length + o) = chainSec (L.pass (1 + l.length)) r o := fun o => by
        show (if 1 + l.length + o < 1 + l.length then _ else chainSec (L.pass (1 + l.length)) r (1 + l.length + o - (1 + l.length))) = _
        rw [if_neg (by omega), Nat.add_sub_cancel_left]
      have hl : ∀ o, o < 1 + l.length → chainSec L (l :: r) o = sec (recB L.ep L.seq l) o := fun o ho => if_pos ho
      obtain ⟨m, m1, m2, m3⟩ := openR_some hs ep (ls := r) (L := L.pass (1 + l.length)) (F := F') q hep (by show q ≤ L.seq + 1; omega) h3 (fun o ho => by
        rw [sec_pass, ← hc]
        exact hall _ (by omega)) (by simp at hF; omega) (fun hh => hend (fun o ho => by
          by_cases ho2 : o < 1 + l.length
          · rw [hl o ho2]; exact hw o ho2
          · have := hh (o - (1 + l.length)) (by omega)
            rw [sec_pass, ← hc, show 1 + l.length + (o - (1 + l.length)) = o from by omega] at this
            exact this))
      refine ⟨m + 1, by simp; omega, ?_, fun k hk hkk => ?_⟩
      · rw [openR_go (by omega) (findR_lies hs h1 hw h2), m2]
        rfl
      · cases k with
        | zero => omega
        | succ k =>
          have := m3 k (by simp at hk; omega) (fun o ho => by
            rw [sec_pass, ← hc]
            refine hkk _ ?_
            show 1 + l.length + o < 1 + l.length + total (r.take k)
            omega)
          omega
    · have hx : ∃ i, i < 1 + l.length ∧ S.now (L.sec i) ≠ sec (recB L.ep L.seq l) i := Classical.byContradiction fun hn => hw (fun i hi => Classical.byContradiction fun hne => hn ⟨i, hi, hne⟩)
      obtain ⟨i, hi, hne⟩ := hx
      have hold : ∀ i, i < 1 + l.length → S.now (L.sec i) ≠ sec (recB L.ep L.seq l) i → Old L.ep L.seq (S.now (L.sec i)) := fun i hi hne => by
        rcases hall i (by omega) with h | h
        · exact absurd (h.trans (if_pos hi)) hne
        · exact h.more (.inr ⟨hep.symm, hq⟩)
      have hnone : findR S L = none := by
        by_cases h0 : S.now (L.sec 0) = sec (recB L.ep L.seq l) 0
        · rw [sec_head h1.most] at h0
          cases i with
          | zero => exact absurd (h0.trans (sec_head h1.most).symm) hne
          | succ k => exact findR_half hs h1 h0 (k := k) (by omega) (by rw [Nat.add_comm 1 k]; exact hold _ hi hne)
        · exact findR_old (hold 0 (by omega) h0)
      refine ⟨0, Nat.zero_le _, openR_end hnone, fun k hk hkk => ?_⟩
      cases k with
      | zero => exact Nat.le_refl _
      | succ k =>
        exfalso
        refine hne ((hkk i ?_).trans (if_pos hi))
        show i < 1 + l.length + total (r.take k)
        omega
end Go.Proofs.YteaokeiolgjhaaaGreat.Log
/- What is kept of a ring from step to step, over failing writes, flushes and crashes, in plain words. No program is named. -/
namespace Go.Proofs.YteaokeiolgjhaaaGreat.Log
open Go.RowKit CrcMath CodecMath Codec DiskSpec Dsk Sup

theorem imageR_zeros : imageR DiskSpec.zeros = none := by
  cases h : imageR DiskSpec.zeros with
  | none => rfl
  | some p =>
    obtain ⟨e, s, n, k, b⟩ := p
    unfold imageR at h
    split at h
    · rename_i hw
      obtain ⟨_, hpk, _⟩ := imageW_some hw
      have hk := (pageOk_iff hpk).1
      have : num DiskSpec.zeros 0 1 = 0 := by decide
      rw [this] at hk
      omega
    · cases h
theorem old_zeros (ep q : Nat) : Old ep q DiskSpec.zeros := ⟨fun e s ps m h => (by rw [headR_zeros] at h; cases h), fun e s n k b h => (by rw [imageR_zeros] at h; cases h)⟩
theorem old_rec {ep sq : Nat} {l : List Img} (hok : ∀ x ∈ l, imgOk x = true) (h1 : 1 ≤ l.length) (h40 : l.length ≤ 40) (he : ep ≤ 4294967295) (hs : sq ≤ 1099511627775) {i : Nat} (hi : i < 1 + l.length) : Old ep (sq + 1) (sec (recB ep sq l) i) := by
  cases i with
  | zero => rw [sec_head h40]; exact old_head h1 h40 hok he hs
  | succ i =>
    have hx : l[i]? = some l[i] := List.getElem?_eq_getElem (by omega)
    rw [Nat.add_comm i 1, sec_img hok h40 hx]
    exact old_img (hok _ (List.getElem_mem _)) he hs
theorem chain_old : ∀ {L : Lg} {ls : List (List Img)}, FitAll L ls → ∀ o, o < total ls → Old L.ep (L.seq + ls.length) (chainSec L ls o)
  | _, [], _, o, ho => by cases ho
  | L, l :: r, h, o, ho => by
    obtain ⟨h1, _, h3⟩ := h
    have ht : total (l :: r) = 1 + l.length + total r := rfl
    by_cases hw : o < 1 + l.length
    · rw [show chainSec L (l :: r) o = sec (recB L.ep L.seq l) o from if_pos hw]
      exact (old_rec h1.ok h1.one h1.most h1.ep h1.seq hw).more (.inr ⟨rfl, by show L.seq + 1 ≤ L.seq + (r.length + 1); omega⟩)
    · rw [show chainSec L (l :: r) o = chainSec (L.pass (1 + l.length)) r (o - (1 + l.length)) from if_neg hw]
      exact (chain_old h3 _ (by omega)).more (.inr ⟨rfl, by show L.seq + 1 + r.length ≤ L.seq + (r.length + 1); omega⟩)
theorem chain_snoc (l : List Img) : ∀ (L : Lg) (ls : List (List Img)) (o : Nat), o < total ls → chainSec L (ls ++ [l]) o = chainSec L ls o
  | _, [], o, ho => by cases ho
  | L, x :: r, o, ho => by
    have ht : total (x :: r) = 1 + x.length + total r := rfl
    show (if o < 1 + x.length then _ else chainSec (L.pass (1 + x.length)) (r ++ [l]) (o - (1 + x.length))) = if o < 1 + x.length then _ else _
    by_cases hw : o < 1 + x.length
    · rw [if_pos hw, if_pos hw]
    · rw [if_neg hw, if_neg hw, chain_snoc l _ r _ (by omega)]
theorem chain_last (l : List Img) : ∀ (L : Lg) (ls : List (List Img)) (i : Nat), i < 1 + l.length → chainSec L (ls ++ [l]) (total ls + i) = sec (recB (passes L ls).ep (passes L ls).seq l) i
  | L, [], i, hi => by
    show (if 0 + i < 1 + l.length then sec (recB L.ep L.seq l) (0 + i) else _) = _
    rw [if_pos (by omega), Nat.zero_add]
    rfl
  | L, x :: r, i, hi => by
    have ht : total (x :: r) = 1 + x.length + total r := rfl
    show (if total (x :: r) + i < 1 + x.length then _ else chainSec (L.pass (1 + x.length)) (r ++ [l]) (total (x :: r) + i - (1 + x.length))) = _
    rw [if_neg (by omega), show total (x :: r) + i - (1 + x.length) = total r + i from by omega, chain_last l _ r i hi]
    rfl
theorem fitAll_snoc {l : List Img} : ∀ {L : Lg} {ls : List (List Img)}, FitAll L ls → Fit (passes L ls) l → 1 + l.length ≤ (passes L ls).room → FitAll L (ls ++ [l])
  | _, [], _, h1, h2 => ⟨h1, h2, trivial⟩
  | _, _ :: _, h, h1, h2 => ⟨h.1, h.2.1, fitAll_snoc h.2.2 h1 h2⟩
theorem passes_tail : ∀ {L : Lg} {ls : List (List Img)}, L.tail < L.ln → (passes L ls).tail < L.ln
  | _, [], h => h
  | L, x :: r, h => passes_tail (L := L.pass (1 + x.length)) (ls := r) (Nat.mod_lt _ (by omega))
theorem fitAll_total : ∀ {L : Lg} {ls : List (List Img)}, FitAll L ls → L.broken = false → L.taken ≤ L.ln → L.taken + total ls ≤ L.ln
  | L, [], _, _, ht => by show L.taken + 0 ≤ _; omega
  | L, x :: r, h, hb, ht => by
    have h2 := h.2.1
    unfold Lg.room at h2
    rw [hb] at h2
    simp only [Bool.false_eq_true, if_false] at h2
    have := fitAll_total (L := L.pass (1 + x.length)) (ls := r) h.2.2 hb (by show L.taken + (1 + x.length) ≤ L.ln; omega)
    have e : L.taken + (1 + x.length) + total r ≤ L.ln := this
    show L.taken + (1 + x.length + total r) ≤ L.ln
    omega
theorem total_take : ∀ (ls : List (List Img)) (k : Nat), total (ls.take k) ≤ total ls
  | [], k => by simp [total]
  | x :: r, 0 => Nat.zero_le _
  | x :: r, k + 1 => by show 1 + x.length + total (r.take k) ≤ 1 + x.length + total r; have := total_take r k; omega

/-- A log's base: nothing is taken, it is whole. -/
structure Base5 (B : Lg) : Prop where
  taken : B.taken = 0
  broken : B.broken = false
  tail : B.tail < B.ln
/-- What stands in a ring: records one behind the other, sectors of which may be older ones behind a crash; behind them what is older, and at most the first sectors of one that was not written whole. -/
structure Ring (S : St) (B : Lg) (ls : List (List Img)) (bad : Option (List Img)) (sure : Nat) (L : Lg) : Prop where
  base : Base5 B
  fit : FitAll B ls
  now : ∀ o, o < total ls → S.now (B.sec o) = chainSec B ls o
  cand : ∀ o c, o < total ls → Cand S (B.sec o) c → c = chainSec B ls o ∨ Old B.ep B.seq c
  most : sure ≤ ls.length
  held : ∀ o c, o < total (ls.take sure) → Cand S (B.sec o) c → c = chainSec B ls o
  rest : ∀ o c, total ls ≤ o → o < B.ln → Cand S (B.sec o) c → Old B.ep B.seq c ∨ ∃ lb, bad = some lb ∧ o - total ls < B.ln - (passes B ls).tail ∧ c = sec (recB (passes B ls).ep (passes B ls).seq lb) (o - total ls)
  half : ∀ lb, bad = some lb → Fit (passes B ls) lb ∧ B.ln - (passes B ls).tail < 1 + lb.length ∧ 1 + lb.length ≤ (passes B ls).room
  tail : L.tail = (passes B ls).tail
  st : L.st = B.st
  ln : L.ln = B.ln
  ep : L.ep = B.ep
  taken : L.taken = total ls
  whole : L.broken = false → L.seq = B.seq + ls.length ∧ bad = none
  broke : L.broken = true → L.seq = B.seq + ls.length + 1
theorem Ring.all {S : St} {B L : Lg} {ls : List (List Img)} {bad : Option (List Img)} {sure : Nat} (h : Ring S B ls bad sure L) : total ls ≤ B.ln := by
  have := fitAll_total h.fit h.base.broken (by rw [h.base.taken]; omega)
  rw [h.base.taken] at this
  omega
theorem Ring.room {S : St} {B L : Lg} {ls : List (List Img)} {bad : Option (List Img)} {sure : Nat} (h : Ring S B ls bad sure L) : (passes B ls).room = B.ln - total ls := by
  have ha := passes_along B ls
  unfold Lg.room
  rw [ha.broken, h.base.broken, ha.ln, ha.taken, h.base.taken, Nat.zero_add]
  rfl
theorem Ring.sec {S : St} {B L : Lg} {ls : List (List Img)} {bad : Option (List Img)} {sure : Nat} (h : Ring S B ls bad sure L) (i : Nat) : L.sec i = B.sec (total ls + i) := by
  rw [← sec_passes]
  have ha := passes_along B ls
  unfold Lg.sec
  rw [h.tail, h.st, h.ln, ha.st, ha.ln]
/-- Nothing reads otherwise, and nothing more may be found behind a crash. -/
theorem Ring.sub {S T : St} {B L : Lg} {ls : List (List Img)} {bad : Option (List Img)} {sure : Nat} (h : Ring S B ls bad sure L) (h1 : ∀ p c, Cand T p c → Cand S p c) (h2 : ∀ p, T.now p = S.now p) : Ring T B ls bad sure L :=
  { h with
    now := fun o ho => (h2 _).trans (h.now o ho)
    cand := fun o c ho hc => h.cand o c ho (h1 _ _ hc)
    held := fun o c ho hc => h.held o c ho (h1 _ _ hc)
    rest := fun o c ho ho2 hc => h.rest o c ho ho2 (h1 _ _ hc) }
theorem Ring.same {S T : St} {B L : Lg} {ls : List (List Img)} {bad : Option (List Img)} {sure : Nat} (h : Ring S B ls bad sure L) (h1 : T.dur = S.dur) (h2 : T.ver = S.ver) : Ring T B ls bad sure L :=
  h.sub (fun p c hc => by unfold Cand at *; rw [h1, h2] at hc; exact hc) (fun p => by unfold St.now; rw [h1, h2])
theorem cand_flushed {S T : St} (h1 : T.dur = S.now) (h2 : ∀ p, T.ver p = []) {p : Nat} {c : List Nat} (h : Cand T p c) : c = S.now p := by
  rcases h with h | h
  · rw [h, h1]
  · rw [h2] at h; cases h
theorem now_flushed {S T : St} (h1 : T.dur = S.now) (h2 : ∀ p, T.ver p = []) (p : Nat) : T.now p = S.now p := by
  rw [St.now_nil (h2 p), h1]
theorem Ring.flush {S T : St} {B L : Lg} {ls : List (List Img)} {bad : Option (List Img)} {sure : Nat} (h : Ring S B ls bad sure L) (h1 : T.dur = S.now) (h2 : ∀ p, T.ver p = []) : Ring T B ls bad ls.length L :=
  { h.sub (T := T) (fun p c hc => by rw [cand_flushed h1 h2 hc]; exact cand_now S p) (now_flushed h1 h2) with
    most := Nat.le_refl _
    held := fun o c ho hc => by
      rw [List.take_length] at ho
      rw [cand_flushed h1 h2 hc]
      exact h.now o ho }
/-- All that may be found is of this epoch or older, and has a smaller number than the log's next one. -/
theorem Ring.old {S : St} {B L : Lg} {ls : List (List Img)} {bad : Option (List Img)} {sure : Nat} (h : Ring S B ls bad sure L) {o : Nat} {c : List Nat} (ho : o < B.ln) (hc : Cand S (B.sec o) c) : Old B.ep L.seq c := by
  have hq : B.seq + ls.length ≤ L.seq := by
    cases hb : L.broken with
    | false => have := (h.whole hb).1; omega
    | true => have := h.broke hb; omega
  rcases Nat.lt_or_ge o (total ls) with ho2 | ho2
  · rcases h.cand o c ho2 hc with e | e
    · rw [e]
      exact (chain_old h.fit o ho2).more (.inr ⟨rfl, hq⟩)
    · exact e.more (.inr ⟨rfl, by omega⟩)
  · rcases h.rest o c ho2 ho hc with e | ⟨lb, hb, hk, e⟩
    · exact e.more (.inr ⟨rfl, by omega⟩)
    · obtain ⟨hf, hl, _⟩ := h.half lb hb
      have ha := passes_along B ls
      have hbr : L.seq = B.seq + ls.length + 1 := by
        cases hbb : L.broken with
        | false => have := (h.whole hbb).2; rw [hb] at this; cases this
        | true => exact h.broke hbb
      have := old_rec (ep := (passes B ls).ep) (sq := (passes B ls).seq) hf.ok hf.one hf.most hf.ep hf.seq (i := o - total ls) (by omega)
      rw [e]
      exact this.more (.inr ⟨ha.ep, by rw [ha.seq, hbr]; omega⟩)
/-- A new base: nothing is taken of a ring in which all is older. -/
theorem Ring.new {S : St} {B : Lg} (hb : Base5 B) (h : ∀ o c, o < B.ln → Cand S (B.sec o) c → Old B.ep B.seq c) {L : Lg} (h1 : L.tail = B.tail) (h2 : L.st = B.st) (h3 : L.ln = B.ln) (h4 : L.ep = B.ep) (h5 : L.taken = 0) (h6 : L.broken = false) (h7 : L.seq = B.seq) : Ring S B [] none 0 L where
  base := hb
  fit := trivial
  now := fun o ho => by cases ho
  cand := fun o c ho _ => by cases ho
  most := Nat.le_refl _
  held := fun o c ho _ => by cases ho
  rest := fun o c _ ho hc => .inl (h o c ho hc)
  half := fun lb hb => by cases hb
  tail := h1
  st := h2
  ln := h3
  ep := h4
  taken := h5
  whole := fun _ => ⟨h7, rfl⟩
  broke := fun hh => by rw [h6] at hh; cases hh
/-- Sectors of a ring, from whichever tail they are counted. -/
theorem sec_other {B C : Lg} (h1 : C.st = B.st) (h2 : C.ln = B.ln) (hb : B.tail < B.ln) {o : Nat} : ∃ o', o' < B.ln ∧ C.sec o = B.sec o' := by
  have hlt := Nat.mod_lt (C.tail + o) (show 0 < B.ln by omega)
  by_cases hx : B.tail ≤ (C.tail + o) % B.ln
  · refine ⟨(C.tail + o) % B.ln - B.tail, by omega, ?_⟩
    rw [B.sec_low (by omega)]
    unfold Lg.sec
    rw [h1, h2]
    omega
  · refine ⟨(C.tail + o) % B.ln + B.ln - B.tail, by omega, ?_⟩
    rw [B.sec_high (by omega) (by omega)]
    unfold Lg.sec
    rw [h1, h2]
    omega
theorem Ring.drop {S T : St} {B L : Lg} {ls : List (List Img)} {bad : Option (List Img)} {sure : Nat} (h : Ring S B ls bad sure L) (h1 : ∀ p c, Cand T p c → Cand S p c) {C : Lg} (hc : Base5 C) (e1 : C.st = B.st) (e2 : C.ln = B.ln) (e3 : C.ep = B.ep) (e4 : C.tail = L.tail) (e5 : C.seq = L.seq) : Ring T C [] none 0 L.drop := by
  refine Ring.new hc (fun o c _ hh => ?_) e4.symm (h.st.trans e1.symm) (h.ln.trans e2.symm) (h.ep.trans e3.symm) rfl rfl e5.symm
  obtain ⟨o', ho, e⟩ := sec_other e1 e2 h.base.tail (o := o)
  rw [e] at hh
  rw [e3, e5]
  exact h.old ho (h1 _ _ hh)
/-- Behind a crash: the first records are read, all of those that were flushed; and the next epoch's log stands in a ring in which all is older. -/
theorem Ring.crash {S : St} {B L : Lg} {ls : List (List Img)} {bad : Option (List Img)} {sure : Nat} (h : Ring S B ls bad sure L) (hs : S.ok) (picks : List Int) :
    (∃ m, sure ≤ m ∧ m ≤ ls.length ∧ openR (S.crash picks) B.ln B = (recsOf (B.seq : Int) (ls.take m), passes B (ls.take m))) ∧
    ∀ C : Lg, Base5 C → C.st = B.st → C.ln = B.ln → C.ep = B.ep + 1 → Ring (S.crash picks) C [] none 0 C := by
  have hT := hs.crash picks
  have hall := h.all
  have hroom := h.room
  have ha := passes_along B ls
  constructor
  · obtain ⟨m, m1, m2, m3⟩ := openR_some hT B.ep (ls := ls) (L := B) (F := B.ln) B.seq rfl (Nat.le_refl _) h.fit (fun o ho => h.cand o _ ho (cand_crash S picks _)) (by have := total_ge ls; omega) (fun _ => by
      by_cases h0 : (passes B ls).room = 0
      · exact .inl h0
      · refine .inr ?_
        have hsec : ∀ i, (passes B ls).sec i = B.sec (total ls + i) := fun i => sec_passes i B ls
        have hmore : ∀ c, Old B.ep B.seq c → Old (passes B ls).ep (passes B ls).seq c := fun c hc => hc.more (.inr ⟨ha.ep.symm, by rw [ha.seq]; omega⟩)
        rcases h.rest (total ls) ((S.crash picks).now (B.sec (total ls))) (Nat.le_refl _) (by omega) (cand_crash S picks _) with e | ⟨lb, hb, hk, e⟩
        · exact findR_old (by rw [hsec 0, Nat.add_zero]; exact hmore _ e)
        · obtain ⟨hf, hl, hr⟩ := h.half lb hb
          rw [Nat.sub_self] at hk e
          rw [sec_head hf.most] at e
          refine findR_half hT hf (by rw [hsec 0, Nat.add_zero]; exact e) (k := B.ln - (passes B ls).tail - 1) (by omega) ?_
          rw [hsec, show 1 + (B.ln - (passes B ls).tail - 1) = B.ln - (passes B ls).tail from by omega]
          rcases h.rest (total ls + (B.ln - (passes B ls).tail)) ((S.crash picks).now (B.sec (total ls + (B.ln - (passes B ls).tail)))) (by omega) (by omega) (cand_crash S picks _) with e2 | ⟨_, _, hk2, _⟩
          · exact hmore _ e2
          · omega)
    refine ⟨m, m3 sure h.most (fun o ho => h.held o _ ho (cand_crash S picks _)), m1, m2⟩
  · intro C hC e1 e2 e3
    refine Ring.new hC (fun o c _ hh => ?_) rfl rfl rfl rfl hC.taken hC.broken rfl
    obtain ⟨o', ho, e⟩ := sec_other e1 e2 h.base.tail (o := o)
    have hc : c = (S.crash picks).now (B.sec o') := by
      rw [e] at hh
      rcases hh with hh | hh
      · exact hh
      · cases hh
    rw [hc]
    exact (h.old ho (cand_crash S picks _)).more (.inl (by omega))
/-- How much may have turned. -/
structure Next5 (S T : St) (L M : Lg) : Prop where
  n : T.n = S.n
  lens : ∀ p, (T.ver p).length ≤ (S.ver p).length + 1
  seq : M.seq ≤ L.seq + 1
theorem Next5.stay (S : St) (L : Lg) : Next5 S S L L := ⟨rfl, fun _ => Nat.le_succ _, Nat.le_succ _⟩
theorem cand_far {S T : St} {p : Nat} {c : List Nat} (h1 : T.dur = S.dur) (h2 : T.ver p = S.ver p) (h : Cand T p c) : Cand S p c := by
  unfold Cand at *
  rw [h1, h2] at h
  exact h
theorem cand_at {S T : St} {p : Nat} {c v : List Nat} (h1 : T.dur = S.dur) (h2 : T.ver p = S.ver p ++ [v]) (h : Cand T p c) : Cand S p c ∨ c = v := by
  rcases h with h | h
  · exact .inl (.inl (by rw [h, h1]))
  · rw [h2] at h
    rcases List.mem_append.1 h with h | h
    · exact .inl (.inr h)
    · exact .inr (by simpa using h)
theorem now_far {S T : St} {p : Nat} (h1 : T.dur = S.dur) (h2 : T.ver p = S.ver p) : T.now p = S.now p := by
  unfold St.now; rw [h1, h2]
/-- What Append leaves, whatever it answers. -/
theorem Ring.append {S : St} {B L : Lg} {ls : List (List Img)} {bad : Option (List Img)} {sure : Nat} (h : Ring S B ls bad sure L) (hk : L.ok S.n) (l : List Img) :
    Next5 S (appendE S L l).2.1 L (appendE S L l).2.2 ∧
    (((appendE S L l).1 = 0 ∧ L.seq = B.seq + ls.length ∧ Ring (appendE S L l).2.1 B (ls ++ [l]) none sure (appendE S L l).2.2) ∨
      ((appendE S L l).1 ≠ 0 ∧ ∃ bad', Ring (appendE S L l).2.1 B ls bad' sure (appendE S L l).2.2)) := by
  by_cases h40 : l.length ≤ 40
  · by_cases hb : l.length = 0 ∨ mayW [] l = false
    · rw [append_arg h40 hb]; exact ⟨.stay S L, .inr ⟨show (1 : Int) ≠ 0 from by decide, bad, h⟩⟩
    · have hl1 : 1 ≤ l.length := by omega
      have hm : mayW [] l = true := by
        cases hh : mayW [] l with
        | true => rfl
        | false => exact absurd (.inr hh) hb
      by_cases hr : L.room < 1 + l.length ∨ 4294967295 < L.ep ∨ 1099511627775 < L.seq
      · rw [append_full h40 hl1 hm hr]; exact ⟨.stay S L, .inr ⟨show (15 : Int) ≠ 0 from by decide, bad, h⟩⟩
      · have hlr := recB_len (ep := L.ep) (sq := L.seq) (mayW_ok hm) h40
        have hrl := room_ln L
        have hbr : L.broken = false := by
          cases hb : L.broken with
          | false => rfl
          | true =>
            have : L.room = 0 := by unfold Lg.room; rw [hb]; rfl
            omega
        obtain ⟨hq, rfl⟩ := h.whole hbr
        have hlroom : L.room = B.ln - total ls := by
          unfold Lg.room
          rw [hbr, h.ln, h.taken]
          rfl
        have ha := passes_along B ls
        have hep := h.ep
        have hF : Fit (passes B ls) l := ⟨mayW_ok hm, hl1, h40, by rw [ha.ep]; omega, by rw [ha.seq]; omega⟩
        have hrec : recB L.ep L.seq l = recB (passes B ls).ep (passes B ls).seq l := by rw [hep, hq, ha.ep, ha.seq]
        have hroom := h.room
        have hall := h.all
        have hne : ∀ o i, o < B.ln → total ls + i < B.ln → o ≠ total ls + i → B.sec o ≠ L.sec i := fun o i ho hi hx he => by
          rw [h.sec] at he
          exact hx (B.sec_inj h.base.tail ho hi he)
        have hold : ∀ o c, total ls ≤ o → o < B.ln → Cand S (B.sec o) c → Old B.ep B.seq c := fun o c h1 h2 hc => by
          rcases h.rest o c h1 h2 hc with e | ⟨_, e, _⟩
          · exact e
          · cases e
        rw [append_goes h40 hl1 hm hr]
        rcases putE_cases hk hlr (by omega) (by omega) with ⟨e0, hp⟩ | ⟨e0, e1, e2, e3, e4⟩
        · rw [if_pos e0]
          refine ⟨⟨hp.n, hp.lens, Nat.le_refl _⟩, .inl ⟨rfl, hq, ?_⟩⟩
          show Ring (putE S L _).2 B (ls ++ [l]) none sure (L.pass (1 + l.length))
          generalize (putE S L (recB L.ep L.seq l)).2 = T at hp
          rw [hrec] at hp
          exact {
            base := h.base
            fit := fitAll_snoc h.fit hF (by omega)
            now := fun o ho => by
              rw [total_snoc] at ho
              by_cases ho2 : o < total ls
              · rw [chain_snoc _ _ _ _ ho2, hp.same (fun i hi => hne o i (by omega) (by omega) (by omega))]
                exact h.now o ho2
              · obtain ⟨i, rfl⟩ : ∃ i, o = total ls + i := ⟨o - total ls, by omega⟩
                rw [chain_last _ _ _ _ (by omega), ← h.sec, hp.now (by omega)]
            cand := fun o c ho hc => by
              rw [total_snoc] at ho
              by_cases ho2 : o < total ls
              · rw [chain_snoc _ _ _ _ ho2]
                exact h.cand o c ho2 (cand_far hp.dur (hp.far _ (fun i hi => hne o i (by omega) (by omega) (by omega))) hc)
              · obtain ⟨i, rfl⟩ : ∃ i, o = total ls + i := ⟨o - total ls, by omega⟩
                rw [chain_last _ _ _ _ (by omega)]
                rw [← h.sec] at hc
                rcases cand_at hp.dur (hp.at_ i (by omega)) hc with e | e
                · rw [h.sec] at e
                  exact .inr (hold _ c (by omega) (by omega) e)
                · exact .inl e
            most := by have := h.most; rw [List.length_append]; omega
            held := fun o c ho hc => by
              rw [List.take_append_of_le_length h.most] at ho
              have := total_take ls sure
              rw [chain_snoc _ _ _ _ (by omega)]
              exact h.held o c ho (cand_far hp.dur (hp.far _ (fun i hi => hne o i (by omega) (by omega) (by omega))) hc)
            rest := fun o c ho ho2 hc => by
              rw [total_snoc] at ho
              exact .inl (hold o c (by omega) ho2 (cand_far hp.dur (hp.far _ (fun i hi => hne o i (by omega) (by omega) (by omega))) hc))
            half := fun lb hb => by cases hb
            tail := by
              rw [passes_snoc]
              show (L.tail + (1 + l.length)) % L.ln = ((passes B ls).tail + (1 + l.length)) % (passes B ls).ln
              rw [h.tail, h.ln, ha.ln]
            st := h.st
            ln := h.ln
            ep := h.ep
            taken := by
              rw [total_snoc, ← h.taken]
              rfl
            whole := fun _ => ⟨by
              rw [List.length_append]
              show L.seq + 1 = B.seq + (ls.length + 1)
              omega, rfl⟩
            broke := fun hh => by
              have : L.broken = true := hh
              rw [hbr] at this
              cases this }
        · rw [if_neg (by rw [e0]; decide)]
          have hlens : ∀ p, ((putE S L (recB L.ep L.seq l)).2.ver p).length ≤ (S.ver p).length + 1 := by
            intro p
            rcases e4 with e4 | ⟨_, e5, e6⟩
            · rw [e4]; omega
            · by_cases hp : ∃ i, i < L.ln - L.tail ∧ p = L.sec i
              · obtain ⟨i, hi, rfl⟩ := hp
                rw [e5 i hi]
                simp
              · rw [e6 p (fun i hi e => hp ⟨i, hi, e⟩)]
                omega
          refine ⟨⟨e2, hlens, Nat.le_refl _⟩, .inr ⟨by show (putE S L _).1 ≠ 0; rw [e0]; decide, ?_⟩⟩
          show ∃ bad', Ring (putE S L _).2 B ls bad' sure L.fail
          rcases e4 with e4 | ⟨hlt, e5, e6⟩
          · exact ⟨none, { h.same e3 e4 with
              whole := fun hh => by cases hh
              broke := fun _ => by show L.seq + 1 = _; omega }⟩
          · generalize (putE S L (recB L.ep L.seq l)).2 = T at e2 e3 e5 e6
            rw [hrec] at e5
            have htl := h.tail; have hln := h.ln
            have hfar : ∀ o, o < B.ln → (∀ i, i < B.ln - (passes B ls).tail → o ≠ total ls + i) → T.ver (B.sec o) = S.ver (B.sec o) := fun o ho hx => e6 _ (fun i hi => hne o i ho (by omega) (hx i (by omega)))
            exact ⟨some l, {
              base := h.base
              fit := h.fit
              now := fun o ho => by
                rw [now_far e3 (hfar o (by omega) (fun i _ => by omega))]
                exact h.now o ho
              cand := fun o c ho hc => h.cand o c ho (cand_far e3 (hfar o (by omega) (fun i _ => by omega)) hc)
              most := h.most
              held := fun o c ho hc => by
                have := total_take ls sure
                exact h.held o c ho (cand_far e3 (hfar o (by omega) (fun i _ => by omega)) hc)
              rest := fun o c ho ho2 hc => by
                by_cases hx : o - total ls < B.ln - (passes B ls).tail
                · obtain ⟨i, rfl⟩ : ∃ i, o = total ls + i := ⟨o - total ls, by omega⟩
                  rw [← h.sec] at hc
                  rcases cand_at e3 (e5 i (by omega)) hc with e | e
                  · rw [h.sec] at e
                    exact .inl (hold _ c ho ho2 e)
                  · exact .inr ⟨l, rfl, hx, by rw [e, Nat.add_sub_cancel_left]⟩
                · exact .inl (hold o c ho ho2 (cand_far e3 (hfar o ho2 (fun i hi => by omega)) hc))
              half := fun lb hb => by
                obtain rfl : l = lb := by simpa using hb
                exact ⟨hF, by omega, by omega⟩
              tail := h.tail
              st := h.st
              ln := h.ln
              ep := h.ep
              taken := h.taken
              whole := fun hh => by cases hh
              broke := fun _ => by show L.seq + 1 = _; omega }⟩
  · rw [append_big (by omega)]; exact ⟨.stay S L, .inr ⟨show (16 : Int) ≠ 0 from by decide, bad, h⟩⟩
end Go.Proofs.YteaokeiolgjhaaaGreat.Log
