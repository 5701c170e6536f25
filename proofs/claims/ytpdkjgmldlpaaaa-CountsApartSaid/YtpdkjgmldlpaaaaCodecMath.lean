/- Plain facts on records as bytes: numbers of k bytes, highest byte first; sectors with their sums. No program is named. -/
import Derived.Test.YtpdkjgmldlpaaaaCrcBurst
namespace Go.Proofs.Ytpdkjgmldlpaaaa.CodecMath
open CrcMath

/-- A number of k bytes, its highest byte first. -/
def be : Nat → Nat → List Nat
  | 0, _ => []
  | k + 1, n => n / 256 ^ k % 256 :: be k n
/-- The number of k bytes from a place on; nought where they are not there. -/
def num (l : List Nat) (a : Nat) : Nat → Nat
  | 0 => 0
  | k + 1 => 256 * num l a k + l.getD (a + k) 0

theorem be_length (k n : Nat) : (be k n).length = k := by
  induction k with
  | zero => rfl
  | succ k ih => simp [be, ih]
theorem be_lt (k n : Nat) : ∀ x ∈ be k n, x < 256 := by
  induction k with
  | zero => simp [be]
  | succ k ih =>
    intro x hx
    rcases List.mem_cons.1 hx with rfl | hx
    · exact Nat.mod_lt _ (by omega)
    · exact ih x hx
theorem be_snoc (k n : Nat) : be (k + 1) n = be k (n / 256) ++ [n % 256] := by
  induction k with
  | zero => simp [be]
  | succ k ih =>
    show n / 256 ^ (k + 1) % 256 :: be (k + 1) n = (n / 256 / 256 ^ k % 256 :: be k (n / 256)) ++ [n % 256]
    rw [ih, Nat.pow_succ, Nat.mul_comm, Nat.div_div_eq_div_mul]
    rfl
/-- What stands ahead of the byte of weight 256^i. -/
theorem be_take (k n i : Nat) (h : i < k) : (be k n).take (k - i) = (be k n).take (k - (i + 1)) ++ [n / 256 ^ i % 256] := by
  induction k with
  | zero => omega
  | succ k ih =>
    by_cases hi : i = k
    · subst hi
      rw [show i + 1 - i = 1 from by omega, Nat.sub_self]
      rfl
    · rw [show k + 1 - i = (k - i) + 1 from by omega, show k + 1 - (i + 1) = (k - (i + 1)) + 1 from by omega]
      show _ :: (be k n).take (k - i) = (_ :: (be k n).take (k - (i + 1))) ++ _
      rw [ih (by omega)]
      rfl
theorem two_pow_8 (i : Nat) : 2 ^ (8 * i) = 256 ^ i := by rw [Nat.pow_mul]
theorem be_mod (k n : Nat) : be k (n % 256 ^ k) = be k n := by
  induction k generalizing n with
  | zero => rfl
  | succ k ih =>
    rw [be_snoc, be_snoc, Nat.pow_succ, Nat.mul_comm, Nat.mod_mul_right_div_self, Nat.mod_mul_right_mod, ih]

theorem getD_left (p q : List Nat) (j : Nat) (h : j < p.length) : (p ++ q).getD j 0 = p.getD j 0 := by
  simp [List.getD_eq_getElem?_getD, List.getElem?_append_left h]
theorem getD_right (p q : List Nat) (j : Nat) (h : p.length ≤ j) : (p ++ q).getD j 0 = q.getD (j - p.length) 0 := by
  simp [List.getD_eq_getElem?_getD, List.getElem?_append_right h]
/-- A number is read as it was written. -/
theorem num_at (l : List Nat) (a k : Nat) : ∀ p : List Nat, p.length = k → (∀ j, j < k → l.getD (a + j) 0 = p.getD j 0) → num l a k = p.foldl (fun s b => 256 * s + b) 0 := by
  induction k with
  | zero => intro p hp _; simp [List.eq_nil_of_length_eq_zero hp, num]
  | succ k ih =>
    intro p hp h
    obtain ⟨q, b, rfl⟩ : ∃ q b, p = q ++ [b] := ⟨p.dropLast, p.getLast (by intro e; simp [e] at hp), (List.dropLast_concat_getLast _).symm⟩
    have hq : q.length = k := by simpa using hp
    rw [List.foldl_append]
    show 256 * num l a k + _ = 256 * (q.foldl _ 0) + b
    rw [ih q hq (fun j hj => by rw [h j (by omega), getD_left _ _ _ (by omega)])]
    congr 1
    rw [h k (by omega), getD_right _ _ _ (by omega)]
    simp [hq]
theorem fold_be (k n : Nat) : (be k n).foldl (fun s b => 256 * s + b) 0 = n % 256 ^ k := by
  induction k generalizing n with
  | zero => simp [be, Nat.mod_one]
  | succ k ih =>
    rw [be_snoc, List.foldl_append, ih]
    show 256 * (n / 256 % 256 ^ k) + n % 256 = _
    rw [Nat.pow_succ, Nat.mul_comm (256 ^ k), Nat.mod_mul]
    omega
/-- A number that stands at a place is read there. -/
theorem num_put (p q : List Nat) (k n : Nat) (h : n < 256 ^ k) : num (p ++ (be k n ++ q)) p.length k = n := by
  rw [num_at _ _ _ (be k n) (be_length k n) (fun j hj => ?_), fold_be, Nat.mod_eq_of_lt h]
  rw [getD_right _ _ _ (by omega), show p.length + j - p.length = j from by omega, getD_left _ _ _ (by rw [be_length]; exact hj)]
theorem num_lt (l : List Nat) (a k : Nat) (h : ∀ x ∈ l, x < 256) : num l a k < 256 ^ k := by
  induction k with
  | zero => simp [num]
  | succ k ih =>
    have hb : l.getD (a + k) 0 < 256 := by
      rw [List.getD_eq_getElem?_getD]
      rcases Nat.lt_or_ge (a + k) l.length with h1 | h1
      · rw [List.getElem?_eq_getElem h1]; exact h _ (List.getElem_mem h1)
      · rw [List.getElem?_eq_none h1]; decide
    show 256 * num l a k + l.getD (a + k) 0 < _
    rw [Nat.pow_succ]
    omega
theorem be_inj {k n m : Nat} (hn : n < 256 ^ k) (hm : m < 256 ^ k) (h : be k n = be k m) : n = m := by
  have := congrArg (fun l => l.foldl (fun s b => 256 * s + b) 0) h
  simp only [fold_be] at this
  rwa [Nat.mod_eq_of_lt hn, Nat.mod_eq_of_lt hm] at this

/-- A sum's four bytes, its lowest byte first. -/
def le4 (s : Nat) : List Nat := [s % 256, s / 256 % 256, s / 65536 % 256, s / 16777216 % 256]
/-- Noughts behind, up to n bytes. -/
def fill (l : List Nat) (n : Nat) : List Nat := l ++ List.replicate (n - l.length) 0
/-- A sector: 252 bytes, and their sum. -/
def frame (l : List Nat) : List Nat := fill l 252 ++ le4 (M 0 (fill l 252))
theorem le4_length (s : Nat) : (le4 s).length = 4 := rfl
theorem le4_lt (s : Nat) : ∀ x ∈ le4 s, x < 256 := by
  intro x hx
  simp [le4] at hx
  omega
theorem fill_length (l : List Nat) (n : Nat) (h : l.length ≤ n) : (fill l n).length = n := by simp [fill]; omega
theorem fill_lt (l : List Nat) (n : Nat) (h : ∀ x ∈ l, x < 256) : ∀ x ∈ fill l n, x < 256 := by
  intro x hx
  rcases List.mem_append.1 hx with hx | hx
  · exact h x hx
  · have := (List.mem_replicate.1 hx).2; omega
theorem fill_full (l : List Nat) (n : Nat) (h : n ≤ l.length) : fill l n = l := by simp [fill, Nat.sub_eq_zero_of_le h]
theorem fill_one (l : List Nat) (n : Nat) (h : l.length < n) : fill l n = fill (l ++ [0]) n := by
  simp only [fill, List.length_append, List.length_singleton, List.append_assoc]
  congr 1
  rw [show n - l.length = (n - (l.length + 1)) + 1 from by omega, List.replicate_succ]
  rfl
theorem frame_length (l : List Nat) (h : l.length ≤ 252) : (frame l).length = 256 := by simp [frame, fill_length l 252 h, le4_length]
theorem frame_lt (l : List Nat) (h : ∀ x ∈ l, x < 256) : ∀ x ∈ frame l, x < 256 := by
  intro x hx
  rcases List.mem_append.1 hx with hx | hx
  · exact fill_lt l 252 h x hx
  · exact le4_lt _ x hx
end Go.Proofs.Ytpdkjgmldlpaaaa.CodecMath
