/- Records as bytes: what may be written, as which bytes; what is read: what may be written and whose bytes these are. No program is named. -/
import Derived.Test.YtpdkjgmldlpaaaaCodecMath
import Derived.RowKit
namespace Go.Proofs.Ytpdkjgmldlpaaaa.Codec
open Go.RowKit CrcMath CodecMath

/-- Is a number 0 to most? -/
def inB (n m : Int) : Bool := decide (0 ≤ n) && decide (n ≤ m)
theorem inB_yes {n m : Int} (h : inB n m = true) : 0 ≤ n ∧ n ≤ m := by simpa [inB] using h
theorem inB_no {n m : Int} (h : inB n m = false) : ¬ (0 ≤ n ∧ n ≤ m) := by intro hh; rw [inB] at h; simp [hh.1, hh.2] at h
theorem inB_mk {n m : Int} (h : 0 ≤ n ∧ n ≤ m) : inB n m = true := by simp [inB, h.1, h.2]
theorem inB_not {n m : Int} (h : ¬ (0 ≤ n ∧ n ≤ m)) : inB n m = false := by
  cases hb : inB n m with
  | false => rfl
  | true => exact absurd (inB_yes hb) h

theorem wrap64_of {n : Nat} (h : n ≤ 9223372036854775807) : wrap64 (n : Int) = n := by unfold wrap64; omega
/-- A sector begins with what was put into it. -/
theorem frame_split (l : List Nat) : ∃ q, frame l = l ++ q := ⟨List.replicate (252 - l.length) 0 ++ le4 (M 0 (fill l 252)), by simp [frame, fill]⟩
/-- Numbers of one width that stand one behind the other are read as they were written. -/
theorem num_flat (pre post : List Nat) (s : List Int) (k i : Nat) (hi : i < s.length) (h : (s.getD i 0).toNat < 256 ^ k) :
    num (pre ++ s.flatMap (fun n => be k n.toNat) ++ post) (pre.length + k * i) k = (s.getD i 0).toNat := by
  have hs : s = s.take i ++ ([s.getD i 0] ++ s.drop (i + 1)) := by
    rw [List.getD_eq_getElem?_getD, List.getElem?_eq_getElem hi]
    simp
  have hl : (pre ++ (s.take i).flatMap (fun n => be k n.toNat)).length = pre.length + k * i := by
    have : ∀ t : List Int, (t.flatMap fun n => be k n.toNat).length = k * t.length := by
      intro t
      induction t with
      | nil => rfl
      | cons a t ih => simp only [List.flatMap_cons, List.length_append, be_length, ih, List.length_cons]; rw [Nat.mul_add]; omega
    rw [List.length_append, this, List.length_take, Nat.min_eq_left (by omega)]
  have e : pre ++ s.flatMap (fun n => be k n.toNat) ++ post = (pre ++ (s.take i).flatMap fun n => be k n.toNat) ++ (be k (s.getD i 0).toNat ++ ((s.drop (i + 1)).flatMap (fun n => be k n.toNat) ++ post)) := by
    conv => lhs; rw [hs]
    simp
  rw [e, ← hl, num_put _ _ _ _ h]

/-! ### Superblocks -/
def superOk (s : List Int) : Bool := s.all fun n => inB n 1099511627776
def superB (s : List Int) : List Nat := [80, 83, 85, 80] ++ s.flatMap fun n => be 8 n.toNat
def superW (s : List Int) : Option (List Nat) := if superOk s then some (frame (superB s)) else none
theorem flat_len (k : Nat) (s : List Int) : (s.flatMap fun n => be k n.toNat).length = k * s.length := by
  induction s with
  | nil => rfl
  | cons a s ih => simp only [List.flatMap_cons, List.length_append, be_length, ih, List.length_cons]; rw [Nat.mul_add]; omega
theorem flat_lt (k : Nat) (s : List Int) : ∀ x ∈ s.flatMap (fun n => be k n.toNat), x < 256 := by
  intro x hx
  obtain ⟨n, _, hn⟩ := List.mem_flatMap.1 hx
  exact be_lt k _ x hn
theorem superB_lt (s : List Int) : ∀ x ∈ superB s, x < 256 := by
  intro x hx
  rcases List.mem_append.1 hx with hx | hx
  · simp at hx; omega
  · exact flat_lt 8 s x hx
theorem superB_len (s : List Int) (h : s.length = 7) : (superB s).length = 60 := by rw [superB, List.length_append, flat_len, h]; rfl
theorem superW_no (s : List Int) (j : Nat) (hj : j < s.length) (h : inB (s.getD j 0) 1099511627776 = false) : superW s = none := by
  have hm : s.getD j 0 ∈ s := by rw [List.getD_eq_getElem?_getD, List.getElem?_eq_getElem hj]; exact List.getElem_mem hj
  have : superOk s = false := by
    rw [superOk, List.all_eq_false]
    exact ⟨_, hm, by rw [h]; simp⟩
  simp [superW, this]
theorem superW_yes (s : List Int) (n : Nat) (hn : s.length = n) (h : ∀ j, j < n → inB (s.getD j 0) 1099511627776 = true) : superW s = some (frame (superB s)) := by
  have : superOk s = true := by
    rw [superOk, List.all_eq_true]
    intro x hx
    obtain ⟨i, hi, rfl⟩ := List.getElem_of_mem hx
    have := h i (by omega)
    simpa [List.getD_eq_getElem?_getD, hi] using this
  simp [superW, this]
theorem take_flat (s : List Int) (k j : Nat) (hj : j < s.length) : (s.take (j + 1)).flatMap (fun n => be k n.toNat) = (s.take j).flatMap (fun n => be k n.toNat) ++ be k (s.getD j 0).toNat := by
  rw [List.take_succ_eq_append_getElem hj, List.flatMap_append]
  simp [List.getD_eq_getElem?_getD, hj]

/-- What is read as a superblock: the numbers whose bytes these are. -/
def superN (l : List Nat) : List Int := [wrap64 (num l 4 8), wrap64 (num l 12 8), wrap64 (num l 20 8), wrap64 (num l 28 8), wrap64 (num l 36 8), wrap64 (num l 44 8), wrap64 (num l 52 8)]
def superR (l : List Nat) : Option (List Int) := if superW (superN l) = some l then some (superN l) else none
theorem superW_some {s : List Int} {l : List Nat} (h : superW s = some l) : l = frame (superB s) ∧ ∀ j, j < s.length → 0 ≤ s.getD j 0 ∧ s.getD j 0 ≤ 1099511627776 := by
  unfold superW at h
  split at h
  · rename_i hok
    refine ⟨by injection h with h; exact h.symm, fun j hj => inB_yes (List.all_eq_true.1 hok _ ?_)⟩
    rw [List.getD_eq_getElem?_getD, List.getElem?_eq_getElem hj]
    exact List.getElem_mem hj
  · cases h
theorem superN_of {s : List Int} {l : List Nat} (hs : s.length = 7) (h : superW s = some l) : superN l = s := by
  obtain ⟨hl, hb⟩ := superW_some h
  obtain ⟨q, hq⟩ := frame_split (superB s)
  rw [hq] at hl
  clear hq h
  have hn : ∀ i, i < 7 → wrap64 (num l (4 + 8 * i) 8 : Nat) = s.getD i 0 := by
    intro i hi
    have hbi := hb i (by omega)
    have h1 := num_flat [80, 83, 85, 80] q s 8 i (by omega) (by omega)
    rw [hl]
    unfold superB
    rw [show 4 + 8 * i = ([80, 83, 85, 80] : List Nat).length + 8 * i from rfl, h1, wrap64_of (by omega)]
    omega
  clear hl hb
  have h0 : wrap64 (num l 4 8 : Nat) = s.getD 0 0 := hn 0 (by omega)
  have h1 : wrap64 (num l 12 8 : Nat) = s.getD 1 0 := hn 1 (by omega)
  have h2 : wrap64 (num l 20 8 : Nat) = s.getD 2 0 := hn 2 (by omega)
  have h3 : wrap64 (num l 28 8 : Nat) = s.getD 3 0 := hn 3 (by omega)
  have h4 : wrap64 (num l 36 8 : Nat) = s.getD 4 0 := hn 4 (by omega)
  have h5 : wrap64 (num l 44 8 : Nat) = s.getD 5 0 := hn 5 (by omega)
  have h6 : wrap64 (num l 52 8 : Nat) = s.getD 6 0 := hn 6 (by omega)
  clear hn
  unfold superN
  rw [h0, h1, h2, h3, h4, h5, h6]
  clear h0 h1 h2 h3 h4 h5 h6
  match s, hs with
  | [a0, a1, a2, a3, a4, a5, a6], _ => rfl
/-- What was written is read. -/
theorem superR_of {s : List Int} {l : List Nat} (hs : s.length = 7) (h : superW s = some l) : superR l = some s := by
  have e := superN_of hs h
  rw [superR, e, if_pos h]
/-- What is read may be written, and these are its bytes. -/
theorem superR_some {s : List Int} {l : List Nat} (h : superR l = some s) : superW s = some l ∧ s.length = 7 := by
  unfold superR at h
  split at h
  · injection h with h
    subst h
    exact ⟨by assumption, rfl⟩
  · cases h
theorem superR_none (l : List Nat) (h : l.length ≠ 256) : superR l = none := by
  cases hr : superR l with
  | none => rfl
  | some s =>
    obtain ⟨h1, h2⟩ := superR_some hr
    obtain ⟨rfl, _⟩ := superW_some h1
    exact absurd (frame_length _ (by rw [superB_len s h2]; omega)) h
theorem superW_len {s : List Int} {l : List Nat} (hs : s.length = 7) (h : superW s = some l) : l.length = 256 := by
  obtain ⟨rfl, _⟩ := superW_some h
  exact frame_length _ (by rw [superB_len s hs]; omega)
/-- A reader that finds what may be written and whose bytes these are, or nothing where there is none, is just this one. -/
theorem superR_is (l : List Nat) (o : Option (List Int)) (h1 : ∀ s, o = some s → s.length = 7 ∧ superW s = some l) (h2 : o = none → ∀ s, s.length = 7 → superW s ≠ some l) : superR l = o := by
  cases o with
  | some s => obtain ⟨a, b⟩ := h1 s rfl; exact superR_of a b
  | none =>
    cases hr : superR l with
    | none => rfl
    | some s => obtain ⟨a, b⟩ := superR_some hr; exact absurd a (h2 rfl s b)
end Go.Proofs.Ytpdkjgmldlpaaaa.Codec
