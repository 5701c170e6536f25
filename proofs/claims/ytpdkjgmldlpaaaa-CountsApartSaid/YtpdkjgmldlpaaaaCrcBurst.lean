/- Plain facts on CRC32C over natural numbers: a bit turned over turns the sum by a number that hangs on its place alone; up to 32 of them side by side never cancel. No program is named. -/
import Derived.Test.YtpdkjgmldlpaaaaCrcMath
namespace Go.Proofs.Ytpdkjgmldlpaaaa.CrcMath

theorem L_nonzero {x : Nat} (h : x < 4294967296) (h0 : L x = 0) : x = 0 := by
  unfold L at h0
  by_cases hx : x % 2 = 1
  · rw [if_pos hx] at h0
    have hb : (x / 2 ^^^ 2197175160).testBit 31 = true := by
      rw [Nat.testBit_xor, Nat.testBit_lt_two_pow (show x / 2 < 2 ^ 31 by omega)]
      decide
    rw [h0] at hb
    simp at hb
  · rw [if_neg hx] at h0
    simp at h0
    omega
theorem Lk_nonzero {x : Nat} (h : x < 4294967296) (k : Nat) (h0 : Lk k x = 0) : x = 0 := by
  induction k with
  | zero => exact h0
  | succ k ih => exact ih (L_nonzero (Lk_lt h k) h0)
theorem Lk_pow (T j : Nat) (h : j ≤ T) : Lk T (2 ^ j) = Lk (T - j) 1 := by
  have := Lk_add (T - j) j (2 ^ j)
  rw [Nat.sub_add_cancel h] at this
  rw [this]
  have h1 := Lk_shift j 1
  rw [Nat.mul_one] at h1
  rw [h1]

/-- A text with one more difference in the register it begins with. -/
theorem C_start (l : List Nat) : ∀ s d : Nat, C (s ^^^ d) l = C s l ^^^ Lk (8 * l.length) d := by
  induction l with
  | nil => intro s d; rfl
  | cons b l ih =>
    intro s d
    show C (B (s ^^^ d) b) l = C (B s b) l ^^^ _
    have hB : B (s ^^^ d) b = B s b ^^^ Lk 8 d := by
      unfold B
      rw [Nat.xor_assoc, Nat.xor_comm d, ← Nat.xor_assoc, Lk_xor]
    rw [hB, ih]
    congr 1
    rw [← Lk_add]
    congr 1

/-- One bit turned over. -/
theorem C_flip (l : List Nat) : ∀ (s q r : Nat), q < l.length → r < 8 →
    C s (l.set q (l.getD q 0 ^^^ 2 ^ r)) = C s l ^^^ Lk (8 * l.length - (8 * q + r)) 1 := by
  induction l with
  | nil => intro s q r h; simp at h
  | cons b l ih =>
    intro s q r hq hr
    cases q with
    | zero =>
      show C (B s (b ^^^ 2 ^ r)) l = C (B s b) l ^^^ _
      have hB : B s (b ^^^ 2 ^ r) = B s b ^^^ Lk (8 - r) 1 := by
        unfold B
        rw [← Nat.xor_assoc, Lk_xor, Lk_pow 8 r (by omega)]
      rw [hB, C_start, ← Lk_add]
      congr 2
      simp
      omega
    | succ q =>
      show C (B s b) (l.set q (l.getD q 0 ^^^ 2 ^ r)) = C (B s b) l ^^^ _
      rw [ih (B s b) q r (by simpa using hq) hr]
      congr 2
      simp
      omega

theorem M_eq_C {s : Nat} {l l' : List Nat} (hs : s < 4294967296) (hl : ∀ b ∈ l, b < 256) (hl' : ∀ b ∈ l', b < 256) (h : M s l = M s l') : C (4294967295 - s) l = C (4294967295 - s) l' := by
  have a := C_lt l (s := 4294967295 - s) (by omega) hl
  have b := C_lt l' (s := 4294967295 - s) (by omega) hl'
  unfold M at h
  omega

/-! ### The law's own walk through the bits -/
/-- What has been turned behind k bits: T: how many bits stand from the first one on. -/
def part (T c k : Nat) : Nat := c % 2 ^ (min k T)
theorem part_zero (T c : Nat) : part T c 0 = 0 := by simp [part, Nat.mod_one]
theorem part_lt (T c k : Nat) (hk : k ≤ 32) : part T c k < 4294967296 := by
  unfold part
  have h1 : c % 2 ^ (min k T) < 2 ^ (min k T) := Nat.mod_lt _ (Nat.two_pow_pos _)
  have h2 : 2 ^ (min k T) ≤ 2 ^ 32 := Nat.pow_le_pow_right (by omega) (by omega)
  omega
theorem mod_succ_bit (c k : Nat) : c % 2 ^ (k + 1) = if c / 2 ^ k % 2 = 1 then c % 2 ^ k ^^^ 2 ^ k else c % 2 ^ k := by
  apply Nat.eq_of_testBit_eq
  intro i
  have hk : c.testBit k = decide (c / 2 ^ k % 2 = 1) := Nat.testBit_eq_decide_div_mod_eq
  rw [Nat.testBit_mod_two_pow]
  by_cases h : c / 2 ^ k % 2 = 1
  · rw [if_pos h, Nat.testBit_xor, Nat.testBit_mod_two_pow, Nat.testBit_two_pow]
    rcases Nat.lt_trichotomy i k with h1 | h1 | h1
    · simp [h1, show i < k + 1 by omega, show ¬ k = i by omega]
    · subst h1; simp [hk, h]
    · simp [show ¬ i < k + 1 by omega, show ¬ i < k by omega, show ¬ k = i by omega]
  · rw [if_neg h, Nat.testBit_mod_two_pow]
    rcases Nat.lt_trichotomy i k with h1 | h1 | h1
    · simp [h1, show i < k + 1 by omega]
    · subst h1; simp [hk, h]
    · simp [show ¬ i < k + 1 by omega, show ¬ i < k by omega]
theorem part_past (T c k : Nat) (h : T ≤ k) : part T c (k + 1) = part T c k := by
  unfold part
  rw [show min (k + 1) T = min k T from by omega]
theorem part_same (T c k : Nat) (h : c / 2 ^ k % 2 ≠ 1) : part T c (k + 1) = part T c k := by
  by_cases hk : k < T
  · unfold part
    rw [show min (k + 1) T = k + 1 from by omega, show min k T = k from by omega, mod_succ_bit, if_neg h]
  · exact part_past T c k (by omega)
theorem part_turn (T c k : Nat) (hk : k < T) (h : c / 2 ^ k % 2 = 1) : part T c (k + 1) = part T c k ^^^ 2 ^ k := by
  unfold part
  rw [show min (k + 1) T = k + 1 from by omega, show min k T = k from by omega, mod_succ_bit, if_pos h]
theorem part_turn_ne (T c k : Nat) (hk : k < T) (h : c / 2 ^ k % 2 = 1) : part T c (k + 1) ≠ 0 := by
  rw [part_turn T c k hk h]
  intro h0
  have h1 := congrArg (fun n => Nat.testBit n k) h0
  simp [part, Nat.testBit_mod_two_pow, show min k T = k from by omega] at h1

/-- Behind k bits: the text ys (of the text xs) has the sum that the part turned says, and 'turned' says whether there is a part. -/
def Turned (xs : List Nat) (bit c k : Nat) (ys : List Nat) (t : Bool) : Prop :=
  ys.length = xs.length ∧ (∀ b ∈ ys, b < 256) ∧ C 4294967295 ys = C 4294967295 xs ^^^ Lk (8 * xs.length - bit) (part (8 * xs.length - bit) c k) ∧ (t = true ↔ part (8 * xs.length - bit) c k ≠ 0)
theorem Turned.start (xs : List Nat) (bit c : Nat) (h : ∀ b ∈ xs, b < 256) : Turned xs bit c 0 xs false :=
  ⟨rfl, h, by rw [part_zero, Lk_zero]; simp, by simp [part_zero]⟩
theorem Turned.past {xs : List Nat} {bit c k : Nat} {ys : List Nat} {t : Bool} (h : Turned xs bit c k ys t) (hb : ¬ bit + k < 8 * xs.length) : Turned xs bit c (k + 1) ys t := by
  obtain ⟨a, b, d, e⟩ := h
  exact ⟨a, b, by rw [part_past _ _ _ (by omega)]; exact d, by rw [part_past _ _ _ (by omega)]; exact e⟩
theorem Turned.same {xs : List Nat} {bit c k : Nat} {ys : List Nat} {t : Bool} (h : Turned xs bit c k ys t) (hc : c / 2 ^ k % 2 ≠ 1) : Turned xs bit c (k + 1) ys t := by
  obtain ⟨a, b, d, e⟩ := h
  exact ⟨a, b, by rw [part_same _ _ _ hc]; exact d, by rw [part_same _ _ _ hc]; exact e⟩
theorem Turned.turn {xs : List Nat} {bit c k : Nat} {ys : List Nat} {t : Bool} (h : Turned xs bit c k ys t) (hb : bit + k < 8 * xs.length) (hc : c / 2 ^ k % 2 = 1) :
    Turned xs bit c (k + 1) (ys.set ((bit + k) / 8) (ys.getD ((bit + k) / 8) 0 ^^^ 2 ^ ((bit + k) % 8))) true := by
  obtain ⟨a, b, d, e⟩ := h
  have hq : (bit + k) / 8 < ys.length := by omega
  refine ⟨by simpa using a, ?_, ?_, ?_⟩
  · intro x hx
    rcases List.mem_or_eq_of_mem_set hx with hx | hx
    · exact b x hx
    · subst hx
      have hg : ys.getD ((bit + k) / 8) 0 < 256 := by
        rw [List.getD_eq_getElem?_getD, List.getElem?_eq_getElem hq]
        exact b _ (List.getElem_mem hq)
      refine Nat.xor_lt_two_pow (n := 8) hg (Nat.pow_lt_pow_right (by omega) (by omega))
  · rw [C_flip ys _ _ _ hq (by omega), d, part_turn _ _ _ (by omega) hc, Lk_xor, Lk_pow _ _ (by omega), Nat.xor_assoc]
    congr 3
    omega
  · simp [part_turn_ne (8 * xs.length - bit) c k (by omega) hc]
/-- The end: where a bit was turned the sums are not the same. -/
theorem Turned.unlike {xs : List Nat} {bit c : Nat} {ys : List Nat} (h : Turned xs bit c 32 ys true) (hx : ∀ b ∈ xs, b < 256) : M 0 xs ≠ M 0 ys := by
  intro hm
  obtain ⟨_, b, d, e⟩ := h
  have h1 := M_eq_C (by omega) hx b hm
  rw [Nat.sub_zero, d] at h1
  have h2 := congrArg (fun n => C 4294967295 xs ^^^ n) h1
  simp only [Nat.xor_self] at h2
  rw [← Nat.xor_assoc, Nat.xor_self, Nat.zero_xor] at h2
  exact (e.1 rfl) (Lk_nonzero (part_lt _ _ _ (by omega)) _ h2.symm)
end Go.Proofs.Ytpdkjgmldlpaaaa.CrcMath
