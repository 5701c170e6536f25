/- Texts of this seat's proofs: CrcMath, CrcBurst, CodecMath, DiskSpec, DiskSays. -/

/- Plain facts on CRC32C over natural numbers: one bit's step, eight of them, a text's sum; no program is named. -/
namespace Go.Proofs.YteaokeiolgjhaaaGreat.CrcMath

/-- One bit's step. -/
def L (x : Nat) : Nat := x / 2 ^^^ (if x % 2 = 1 then 2197175160 else 0)
/-- k bits' steps. -/
def Lk : Nat → Nat → Nat
  | 0, x => x
  | k + 1, x => L (Lk k x)
/-- A byte's step. -/
def B (s b : Nat) : Nat := Lk 8 (s ^^^ b)
/-- A text's steps. -/
def C (s : Nat) (l : List Nat) : Nat := l.foldl B s
/-- More. -/
def M (s : Nat) (l : List Nat) : Nat := 4294967295 - C (4294967295 - s) l

theorem L_lt {x : Nat} (h : x < 4294967296) : L x < 4294967296 := by
  unfold L
  exact Nat.xor_lt_two_pow (n := 32) (by omega) (by split <;> omega)
theorem Lk_lt {x : Nat} (h : x < 4294967296) (k : Nat) : Lk k x < 4294967296 := by
  induction k with
  | zero => exact h
  | succ k ih => exact L_lt ih
theorem B_lt {s b : Nat} (h : s < 4294967296) (hb : b < 256) : B s b < 4294967296 :=
  Lk_lt (Nat.xor_lt_two_pow (n := 32) h (by omega)) 8
theorem C_lt (l : List Nat) : ∀ {s : Nat}, s < 4294967296 → (∀ b ∈ l, b < 256) → C s l < 4294967296 := by
  induction l with
  | nil => intro s h _; exact h
  | cons b l ih =>
    intro s h hl
    exact ih (B_lt h (hl b (by simp))) (fun c hc => hl c (by simp [hc]))
theorem C_append (s : Nat) (l l' : List Nat) : C s (l ++ l') = C (C s l) l' := by
  simp [C, List.foldl_append]
theorem C_snoc (s : Nat) (l : List Nat) (b : Nat) : C s (l ++ [b]) = B (C s l) b := by
  simp [C, List.foldl_append]
theorem M_lt (s : Nat) (l : List Nat) : M s l < 4294967296 := by unfold M; omega
theorem M_parts (s : Nat) (hs : s < 4294967296) (l l' : List Nat) (hl : ∀ b ∈ l, b < 256) : M (M s l) l' = M s (l ++ l') := by
  unfold M
  have h := C_lt l (s := 4294967295 - s) (by omega) hl
  rw [C_append, show 4294967295 - (4294967295 - C (4294967295 - s) l) = C (4294967295 - s) l from by omega]

/-! Steps go by exclusive or. -/
theorem half_xor (x y : Nat) : (x ^^^ y) / 2 = x / 2 ^^^ y / 2 := by
  have := Nat.shiftRight_xor_distrib (a := x) (b := y) (i := 1)
  simpa [Nat.shiftRight_succ] using this
theorem odd_xor (x y : Nat) : ((x ^^^ y) % 2 = 1) = ((x % 2 = 1) ≠ (y % 2 = 1)) := by
  have h := Nat.testBit_xor x y 0
  simp only [Nat.testBit_zero] at h
  rcases Nat.mod_two_eq_zero_or_one x with hx | hx <;> rcases Nat.mod_two_eq_zero_or_one y with hy | hy <;> simp [hx, hy] at h ⊢ <;> exact h
theorem L_xor (x y : Nat) : L (x ^^^ y) = L x ^^^ L y := by
  have e : ∀ a b c d : Nat, (a ^^^ b) ^^^ (c ^^^ d) = (a ^^^ c) ^^^ (b ^^^ d) := by
    intro a b c d
    rw [Nat.xor_assoc, Nat.xor_assoc, ← Nat.xor_assoc b c d, Nat.xor_comm b c, Nat.xor_assoc c b d]
  unfold L
  rw [half_xor, e]
  congr 1
  simp only [odd_xor]
  by_cases hx : x % 2 = 1 <;> by_cases hy : y % 2 = 1 <;> simp [hx, hy]
theorem Lk_xor (k x y : Nat) : Lk k (x ^^^ y) = Lk k x ^^^ Lk k y := by
  induction k with
  | zero => rfl
  | succ k ih => show L _ = _; rw [ih, L_xor]; rfl
theorem Lk_zero (k : Nat) : Lk k 0 = 0 := by
  induction k with
  | zero => rfl
  | succ k ih => show L _ = _; rw [ih]; rfl
theorem Lk_add (j k x : Nat) : Lk (j + k) x = Lk j (Lk k x) := by
  induction j with
  | zero => simp [Lk]
  | succ j ih => rw [Nat.succ_add]; show L _ = L _; rw [ih]
theorem Lk_shift (k x : Nat) : Lk k (2 ^ k * x) = x := by
  induction k generalizing x with
  | zero => simp [Lk]
  | succ k ih =>
    show L _ = _
    rw [show 2 ^ (k + 1) * x = 2 ^ k * (2 * x) from by rw [Nat.pow_succ, Nat.mul_assoc], ih]
    simp [L]
theorem split256 (s : Nat) : s = s % 256 ^^^ 256 * (s / 256) := by
  apply Nat.eq_of_testBit_eq
  intro i
  rw [Nat.testBit_xor, show (256 : Nat) = 2 ^ 8 from rfl, Nat.testBit_mod_two_pow, Nat.testBit_two_pow_mul]
  by_cases h : i < 8
  · simp [h, show ¬ 8 ≤ i from by omega]
  · have h8 : 8 ≤ i := by omega
    simp only [h, decide_false, Bool.false_and, ge_iff_le, h8, decide_true, Bool.true_and, Bool.false_xor]
    rw [Nat.testBit_div_two_pow]
    congr 1
    omega
/-- A byte's step by the table: the entry at the lowest byte put together with the byte, and what is left, shifted. -/
theorem B_table (s b : Nat) : Lk 8 ((s % 256) ^^^ b) ^^^ s / 256 = B s b := by
  unfold B
  have h : s ^^^ b = (s % 256 ^^^ b) ^^^ 2 ^ 8 * (s / 256) := by
    rw [Nat.xor_assoc, Nat.xor_comm b, ← Nat.xor_assoc]
    congr 1
    exact split256 s
  rw [h, Lk_xor _ (s % 256 ^^^ b), Lk_shift]

/-- The sum of nine digits. -/
theorem M_digits : M 0 [49, 50, 51, 52, 53, 54, 55, 56, 57] = 3808858755 := by decide +kernel
theorem M_none (s : Nat) (hs : s < 4294967296) : M s [] = s := by
  simp [M, C]; omega

/-! ### The sum of three texts put together -/
def X3 : List Nat → List Nat → List Nat → List Nat
  | a :: as, b :: bs, c :: cs => (a ^^^ b ^^^ c) :: X3 as bs cs
  | _, _, _ => []
theorem xor3 (a b c d e f : Nat) : (a ^^^ b ^^^ c) ^^^ (d ^^^ e ^^^ f) = (a ^^^ d) ^^^ (b ^^^ e) ^^^ (c ^^^ f) := by
  apply Nat.eq_of_testBit_eq
  intro i
  simp only [Nat.testBit_xor]
  cases a.testBit i <;> cases b.testBit i <;> cases c.testBit i <;> cases d.testBit i <;> cases e.testBit i <;> cases f.testBit i <;> rfl
theorem C_X3 : ∀ (as bs cs : List Nat) (s t u : Nat), as.length = bs.length → bs.length = cs.length → C (s ^^^ t ^^^ u) (X3 as bs cs) = C s as ^^^ C t bs ^^^ C u cs
  | [], [], [], _, _, _, _, _ => rfl
  | a :: as, b :: bs, c :: cs, s, t, u, h1, h2 => by
    show C (B (s ^^^ t ^^^ u) (a ^^^ b ^^^ c)) (X3 as bs cs) = C (B s a) as ^^^ C (B t b) bs ^^^ C (B u c) cs
    rw [← C_X3 as bs cs (B s a) (B t b) (B u c) (by simpa using h1) (by simpa using h2)]
    congr 1
    unfold B
    rw [xor3, Lk_xor, Lk_xor]
  | [], _ :: _, _, _, _, _, h, _ => by simp at h
  | _ :: _, [], _, _, _, _, h, _ => by simp at h
  | _, [], _ :: _, _, _, _, _, h => by simp at h
  | _, _ :: _, [], _, _, _, _, h => by simp at h
theorem not_eq_xor {x : Nat} (h : x < 4294967296) : 4294967295 - x = x ^^^ 4294967295 := by
  have h1 : x &&& 4294967295 = x := by
    rw [show (4294967295 : Nat) = 2 ^ 32 - 1 from rfl, Nat.and_two_pow_sub_one_eq_mod]; omega
  apply Nat.eq_of_testBit_eq
  intro i
  rw [show (4294967295 : Nat) - x = 2 ^ 32 - (x + 1) from by omega, Nat.testBit_two_pow_sub_succ h, Nat.testBit_xor, show (4294967295 : Nat) = 2 ^ 32 - 1 from rfl, Nat.testBit_two_pow_sub_one]
  by_cases hi : i < 32
  · simp [hi]
  · have : x.testBit i = false := Nat.testBit_lt_two_pow (Nat.lt_of_lt_of_le h (Nat.pow_le_pow_right (n := 2) (by omega) (show 32 ≤ i by omega)))
    simp [hi, this]
theorem M_three (as bs cs : List Nat) (h1 : as.length = bs.length) (h2 : bs.length = cs.length) (ha : ∀ b ∈ as, b < 256) (hb : ∀ b ∈ bs, b < 256) (hc : ∀ b ∈ cs, b < 256)
    (hx : ∀ b ∈ X3 as bs cs, b < 256) : M 0 as ^^^ M 0 bs ^^^ M 0 cs = M 0 (X3 as bs cs) := by
  have e := C_X3 as bs cs 4294967295 4294967295 4294967295 h1 h2
  have e0 : (4294967295 ^^^ 4294967295 ^^^ 4294967295 : Nat) = 4294967295 := by decide
  rw [e0] at e
  unfold M
  rw [show 4294967295 - 0 = 4294967295 from rfl]
  rw [not_eq_xor (C_lt as (by omega) ha), not_eq_xor (C_lt bs (by omega) hb), not_eq_xor (C_lt cs (by omega) hc), not_eq_xor (C_lt _ (by omega) hx), e, ← xor3, e0]
theorem X3_length : ∀ (as bs cs : List Nat), as.length = bs.length → bs.length = cs.length → (X3 as bs cs).length = as.length
  | [], [], [], _, _ => rfl
  | _ :: as, _ :: bs, _ :: cs, h1, h2 => by simp only [X3, List.length_cons]; rw [X3_length as bs cs (by simpa using h1) (by simpa using h2)]
  | [], _ :: _, _, h, _ => by simp at h
  | _ :: _, [], _, h, _ => by simp at h
  | _, [], _ :: _, _, h => by simp at h
  | _, _ :: _, [], _, h => by simp at h
theorem X3_snoc (a b c : Nat) : ∀ (as bs cs : List Nat), as.length = bs.length → bs.length = cs.length → X3 (as ++ [a]) (bs ++ [b]) (cs ++ [c]) = X3 as bs cs ++ [a ^^^ b ^^^ c]
  | [], [], [], _, _ => rfl
  | _ :: as, _ :: bs, _ :: cs, h1, h2 => by
    simp only [X3, List.cons_append]
    rw [X3_snoc a b c as bs cs (by simpa using h1) (by simpa using h2)]
  | [], _ :: _, _, h, _ => by simp at h
  | _ :: _, [], _, h, _ => by simp at h
  | _, [], _ :: _, _, h => by simp at h
  | _, _ :: _, [], _, h => by simp at h
theorem X3_lt : ∀ (as bs cs : List Nat), (∀ x ∈ as, x < 256) → (∀ x ∈ bs, x < 256) → (∀ x ∈ cs, x < 256) → ∀ x ∈ X3 as bs cs, x < 256
  | a :: as, b :: bs, c :: cs, ha, hb, hc => by
    intro x hx
    rcases List.mem_cons.1 hx with rfl | hx
    · exact Nat.xor_lt_two_pow (n := 8) (Nat.xor_lt_two_pow (n := 8) (ha _ (by simp)) (hb _ (by simp))) (hc _ (by simp))
    · exact X3_lt as bs cs (fun y hy => ha y (by simp [hy])) (fun y hy => hb y (by simp [hy])) (fun y hy => hc y (by simp [hy])) x hx
  | [], _, _, _, _, _ => by simp [X3]
  | _ :: _, [], _, _, _, _ => by simp [X3]
  | _ :: _, _ :: _, [], _, _, _ => by simp [X3]
end Go.Proofs.YteaokeiolgjhaaaGreat.CrcMath
/- Plain facts on CRC32C over natural numbers: a bit turned over turns the sum by a number that hangs on its place alone; up to 32 of them side by side never cancel. No program is named. -/
namespace Go.Proofs.YteaokeiolgjhaaaGreat.CrcMath

theorem L_nonzero {x : Nat} (h : x < 4294967296) (h0 : L x = 0) : x = 0 := by
  unfold L at h0
  by_cases hx : x % 2 = 1
  · rw [if_pos hx] at h0
    have hb : (x / 2 ^^^ 2197175160).testBit 31 = true := by
      rw [Nat.testBit_xor, Nat.testBit_lt_two_pow (show x / 2 < 2 ^ 31 by omega)]
      decide
    rw [h0] at hb
    simp at hb
  · rw [if_neg hx] at h0
    simp at h0
    omega
theorem Lk_nonzero {x : Nat} (h : x < 4294967296) (k : Nat) (h0 : Lk k x = 0) : x = 0 := by
  induction k with
  | zero => exact h0
  | succ k ih => exact ih (L_nonzero (Lk_lt h k) h0)
theorem Lk_pow (T j : Nat) (h : j ≤ T) : Lk T (2 ^ j) = Lk (T - j) 1 := by
  have := Lk_add (T - j) j (2 ^ j)
  rw [Nat.sub_add_cancel h] at this
  rw [this]
  have h1 := Lk_shift j 1
  rw [Nat.mul_one] at h1
  rw [h1]

/-- A text with one more difference in the register it begins with. -/
theorem C_start (l : List Nat) : ∀ s d : Nat, C (s ^^^ d) l = C s l ^^^ Lk (8 * l.length) d := by
  induction l with
  | nil => intro s d; rfl
  | cons b l ih =>
    intro s d
    show C (B (s ^^^ d) b) l = C (B s b) l ^^^ _
    have hB : B (s ^^^ d) b = B s b ^^^ Lk 8 d := by
      unfold B
      rw [Nat.xor_assoc, Nat.xor_comm d, ← Nat.xor_assoc, Lk_xor]
    rw [hB, ih]
    congr 1
    rw [← Lk_add]
    congr 1

/-- One bit turned over. -/
theorem C_flip (l : List Nat) : ∀ (s q r : Nat), q < l.length → r < 8 →
    C s (l.set q (l.getD q 0 ^^^ 2 ^ r)) = C s l ^^^ Lk (8 * l.length - (8 * q + r)) 1 := by
  induction l with
  | nil => intro s q r h; simp at h
  | cons b l ih =>
    intro s q r hq hr
    cases q with
    | zero =>
      show C (B s (b ^^^ 2 ^ r)) l = C (B s b) l ^^^ _
      have hB : B s (b ^^^ 2 ^ r) = B s b ^^^ Lk (8 - r) 1 := by
        unfold B
        rw [← Nat.xor_assoc, Lk_xor, Lk_pow 8 r (by omega)]
      rw [hB, C_start, ← Lk_add]
      congr 2
      simp
      omega
    | succ q =>
      show C (B s b) (l.set q (l.getD q 0 ^^^ 2 ^ r)) = C (B s b) l ^^^ _
      rw [ih (B s b) q r (by simpa using hq) hr]
      congr 2
      simp
      omega

theorem M_eq_C {s : Nat} {l l' : List Nat} (hs : s < 4294967296) (hl : ∀ b ∈ l, b < 256) (hl' : ∀ b ∈ l', b < 256) (h : M s l = M s l') : C (4294967295 - s) l = C (4294967295 - s) l' := by
  have a := C_lt l (s := 4294967295 - s) (by omega) hl
  have b := C_lt l' (s := 4294967295 - s) (by omega) hl'
  unfold M at h
  omega

/-! ### The law's own walk through the bits -/
/-- What has been turned behind k bits: T: how many bits stand from the first one on. -/
def part (T c k : Nat) : Nat := c % 2 ^ (min k T)
theorem part_zero (T c : Nat) : part T c 0 = 0 := by simp [part, Nat.mod_one]
theorem part_lt (T c k : Nat) (hk : k ≤ 32) : part T c k < 4294967296 := by
  unfold part
  have h1 : c % 2 ^ (min k T) < 2 ^ (min k T) := Nat.mod_lt _ (Nat.two_pow_pos _)
  have h2 : 2 ^ (min k T) ≤ 2 ^ 32 := Nat.pow_le_pow_right (by omega) (by omega)
  omega
theorem mod_succ_bit (c k : Nat) : c % 2 ^ (k + 1) = if c / 2 ^ k % 2 = 1 then c % 2 ^ k ^^^ 2 ^ k else c % 2 ^ k := by
  apply Nat.eq_of_testBit_eq
  intro i
  have hk : c.testBit k = decide (c / 2 ^ k % 2 = 1) := Nat.testBit_eq_decide_div_mod_eq
  rw [Nat.testBit_mod_two_pow]
  by_cases h : c / 2 ^ k % 2 = 1
  · rw [if_pos h, Nat.testBit_xor, Nat.testBit_mod_two_pow, Nat.testBit_two_pow]
    rcases Nat.lt_trichotomy i k with h1 | h1 | h1
    · simp [h1, show i < k + 1 by omega, show ¬ k = i by omega]
    · subst h1; simp [hk, h]
    · simp [show ¬ i < k + 1 by omega, show ¬ i < k by omega, show ¬ k = i by omega]
  · rw [if_neg h, Nat.testBit_mod_two_pow]
    rcases Nat.lt_trichotomy i k with h1 | h1 | h1
    · simp [h1, show i < k + 1 by omega]
    · subst h1; simp [hk, h]
    · simp [show ¬ i < k + 1 by omega, show ¬ i < k by omega]
theorem part_past (T c k : Nat) (h : T ≤ k) : part T c (k + 1) = part T c k := by
  unfold part
  rw [show min (k + 1) T = min k T from by omega]
theorem part_same (T c k : Nat) (h : c / 2 ^ k % 2 ≠ 1) : part T c (k + 1) = part T c k := by
  by_cases hk : k < T
  · unfold part
    rw [show min (k + 1) T = k + 1 from by omega, show min k T = k from by omega, mod_succ_bit, if_neg h]
  · exact part_past T c k (by omega)
theorem part_turn (T c k : Nat) (hk : k < T) (h : c / 2 ^ k % 2 = 1) : part T c (k + 1) = part T c k ^^^ 2 ^ k := by
  unfold part
  rw [show min (k + 1) T = k + 1 from by omega, show min k T = k from by omega, mod_succ_bit, if_pos h]
theorem part_turn_ne (T c k : Nat) (hk : k < T) (h : c / 2 ^ k % 2 = 1) : part T c (k + 1) ≠ 0 := by
  rw [part_turn T c k hk h]
  intro h0
  have h1 := congrArg (fun n => Nat.testBit n k) h0
  simp [part, Nat.testBit_mod_two_pow, show min k T = k from by omega] at h1

/-- Behind k bits: the text ys (of the text xs) has the sum that the part turned says, and 'turned' says whether there is a part. -/
def Turned (xs : List Nat) (bit c k : Nat) (ys : List Nat) (t : Bool) : Prop :=
  ys.length = xs.length ∧ (∀ b ∈ ys, b < 256) ∧ C 4294967295 ys = C 4294967295 xs ^^^ Lk (8 * xs.length - bit) (part (8 * xs.length - bit) c k) ∧ (t = true ↔ part (8 * xs.length - bit) c k ≠ 0)
theorem Turned.start (xs : List Nat) (bit c : Nat) (h : ∀ b ∈ xs, b < 256) : Turned xs bit c 0 xs false :=
  ⟨rfl, h, by rw [part_zero, Lk_zero]; simp, by simp [part_zero]⟩
theorem Turned.past {xs : List Nat} {bit c k : Nat} {ys : List Nat} {t : Bool} (h : Turned xs bit c k ys t) (hb : ¬ bit + k < 8 * xs.length) : Turned xs bit c (k + 1) ys t := by
  obtain ⟨a, b, d, e⟩ := h
  exact ⟨a, b, by rw [part_past _ _ _ (by omega)]; exact d, by rw [part_past _ _ _ (by omega)]; exact e⟩
theorem Turned.same {xs : List Nat} {bit c k : Nat} {ys : List Nat} {t : Bool} (h : Turned xs bit c k ys t) (hc : c / 2 ^ k % 2 ≠ 1) : Turned xs bit c (k + 1) ys t := by
  obtain ⟨a, b, d, e⟩ := h
  exact ⟨a, b, by rw [part_same _ _ _ hc]; exact d, by rw [part_same _ _ _ hc]; exact e⟩
theorem Turned.turn {xs : List Nat} {bit c k : Nat} {ys : List Nat} {t : Bool} (h : Turned xs bit c k ys t) (hb : bit + k < 8 * xs.length) (hc : c / 2 ^ k % 2 = 1) :
    Turned xs bit c (k + 1) (ys.set ((bit + k) / 8) (ys.getD ((bit + k) / 8) 0 ^^^ 2 ^ ((bit + k) % 8))) true := by
  obtain ⟨a, b, d, e⟩ := h
  have hq : (bit + k) / 8 < ys.length := by omega
  refine ⟨by simpa using a, ?_, ?_, ?_⟩
  · intro x hx
    rcases List.mem_or_eq_of_mem_set hx with hx | hx
    · exact b x hx
    · subst hx
      have hg : ys.getD ((bit + k) / 8) 0 < 256 := by
        rw [List.getD_eq_getElem?_getD, List.getElem?_eq_getElem hq]
        exact b _ (List.getElem_mem hq)
      refine Nat.xor_lt_two_pow (n := 8) hg (Nat.pow_lt_pow_right (by omega) (by omega))
  · rw [C_flip ys _ _ _ hq (by omega), d, part_turn _ _ _ (by omega) hc, Lk_xor, Lk_pow _ _ (by omega), Nat.xor_assoc]
    congr 3
    omega
  · simp [part_turn_ne (8 * xs.length - bit) c k (by omega) hc]
/-- The end: where a bit was turned the sums are not the same. -/
theorem Turned.unlike {xs : List Nat} {bit c : Nat} {ys : List Nat} (h : Turned xs bit c 32 ys true) (hx : ∀ b ∈ xs, b < 256) : M 0 xs ≠ M 0 ys := by
  intro hm
  obtain ⟨_, b, d, e⟩ := h
  have h1 := M_eq_C (by omega) hx b hm
  rw [Nat.sub_zero, d] at h1
  have h2 := congrArg (fun n => C 4294967295 xs ^^^ n) h1
  simp only [Nat.xor_self] at h2
  rw [← Nat.xor_assoc, Nat.xor_self, Nat.zero_xor] at h2
  exact (e.1 rfl) (Lk_nonzero (part_lt _ _ _ (by omega)) _ h2.symm)
end Go.Proofs.YteaokeiolgjhaaaGreat.CrcMath
/- Plain facts on records as bytes: numbers of k bytes, highest byte first; sectors with their sums. No program is named. -/
namespace Go.Proofs.YteaokeiolgjhaaaGreat.CodecMath
open CrcMath

/-- A number of k bytes, its highest byte first. -/
def be : Nat → Nat → List Nat
  | 0, _ => []
  | k + 1, n => n / 256 ^ k % 256 :: be k n
/-- The number of k bytes from a place on; nought where they are not there. -/
def num (l : List Nat) (a : Nat) : Nat → Nat
  | 0 => 0
  | k + 1 => 256 * num l a k + l.getD (a + k) 0

theorem be_length (k n : Nat) : (be k n).length = k := by
  induction k with
  | zero => rfl
  | succ k ih => simp [be, ih]
theorem be_lt (k n : Nat) : ∀ x ∈ be k n, x < 256 := by
  induction k with
  | zero => simp [be]
  | succ k ih =>
    intro x hx
    rcases List.mem_cons.1 hx with rfl | hx
    · exact Nat.mod_lt _ (by omega)
    · exact ih x hx
theorem be_snoc (k n : Nat) : be (k + 1) n = be k (n / 256) ++ [n % 256] := by
  induction k with
  | zero => simp [be]
  | succ k ih =>
    show n / 256 ^ (k + 1) % 256 :: be (k + 1) n = (n / 256 / 256 ^ k % 256 :: be k (n / 256)) ++ [n % 256]
    rw [ih, Nat.pow_succ, Nat.mul_comm, Nat.div_div_eq_div_mul]
    rfl
/-- What stands ahead of the byte of weight 256^i. -/
theorem be_take (k n i : Nat) (h : i < k) : (be k n).take (k - i) = (be k n).take (k - (i + 1)) ++ [n / 256 ^ i % 256] := by
  induction k with
  | zero => omega
  | succ k ih =>
    by_cases hi : i = k
    · subst hi
      rw [show i + 1 - i = 1 from by omega, Nat.sub_self]
      rfl
    · rw [show k + 1 - i = (k - i) + 1 from by omega, show k + 1 - (i + 1) = (k - (i + 1)) + 1 from by omega]
      show _ :: (be k n).take (k - i) = (_ :: (be k n).take (k - (i + 1))) ++ _
      rw [ih (by omega)]
      rfl
theorem two_pow_8 (i : Nat) : 2 ^ (8 * i) = 256 ^ i := by rw [Nat.pow_mul]
theorem be_mod (k n : Nat) : be k (n % 256 ^ k) = be k n := by
  induction k generalizing n with
  | zero => rfl
  | succ k ih =>
    rw [be_snoc, be_snoc, Nat.pow_succ, Nat.mul_comm, Nat.mod_mul_right_div_self, Nat.mod_mul_right_mod, ih]

theorem getD_left (p q : List Nat) (j : Nat) (h : j < p.length) : (p ++ q).getD j 0 = p.getD j 0 := by
  simp [List.getD_eq_getElem?_getD, List.getElem?_append_left h]
theorem getD_right (p q : List Nat) (j : Nat) (h : p.length ≤ j) : (p ++ q).getD j 0 = q.getD (j - p.length) 0 := by
  simp [List.getD_eq_getElem?_getD, List.getElem?_append_right h]
/-- A number is read as it was written. -/
theorem num_at (l : List Nat) (a k : Nat) : ∀ p : List Nat, p.length = k → (∀ j, j < k → l.getD (a + j) 0 = p.getD j 0) → num l a k = p.foldl (fun s b => 256 * s + b) 0 := by
  induction k with
  | zero => intro p hp _; simp [List.eq_nil_of_length_eq_zero hp, num]
  | succ k ih =>
    intro p hp h
    obtain ⟨q, b, rfl⟩ : ∃ q b, p = q ++ [b] := ⟨p.dropLast, p.getLast (by intro e; simp [e] at hp), (List.dropLast_concat_getLast _).symm⟩
    have hq : q.length = k := by simpa using hp
    rw [List.foldl_append]
    show 256 * num l a k + _ = 256 * (q.foldl _ 0) + b
    rw [ih q hq (fun j hj => by rw [h j (by omega), getD_left _ _ _ (by omega)])]
    congr 1
    rw [h k (by omega), getD_right _ _ _ (by omega)]
    simp [hq]
theorem fold_be (k n : Nat) : (be k n).foldl (fun s b => 256 * s + b) 0 = n % 256 ^ k := by
  induction k generalizing n with
  | zero => simp [be, Nat.mod_one]
  | succ k ih =>
    rw [be_snoc, List.foldl_append, ih]
    show 256 * (n / 256 % 256 ^ k) + n % 256 = _
    rw [Nat.pow_succ, Nat.mul_comm (256 ^ k), Nat.mod_mul]
    omega
/-- A number that stands at a place is read there. -/
theorem num_put (p q : List Nat) (k n : Nat) (h : n < 256 ^ k) : num (p ++ (be k n ++ q)) p.length k = n := by
  rw [num_at _ _ _ (be k n) (be_length k n) (fun j hj => ?_), fold_be, Nat.mod_eq_of_lt h]
  rw [getD_right _ _ _ (by omega), show p.length + j - p.length = j from by omega, getD_left _ _ _ (by rw [be_length]; exact hj)]
theorem num_lt (l : List Nat) (a k : Nat) (h : ∀ x ∈ l, x < 256) : num l a k < 256 ^ k := by
  induction k with
  | zero => simp [num]
  | succ k ih =>
    have hb : l.getD (a + k) 0 < 256 := by
      rw [List.getD_eq_getElem?_getD]
      rcases Nat.lt_or_ge (a + k) l.length with h1 | h1
      · rw [List.getElem?_eq_getElem h1]; exact h _ (List.getElem_mem h1)
      · rw [List.getElem?_eq_none h1]; decide
    show 256 * num l a k + l.getD (a + k) 0 < _
    rw [Nat.pow_succ]
    omega
theorem be_inj {k n m : Nat} (hn : n < 256 ^ k) (hm : m < 256 ^ k) (h : be k n = be k m) : n = m := by
  have := congrArg (fun l => l.foldl (fun s b => 256 * s + b) 0) h
  simp only [fold_be] at this
  rwa [Nat.mod_eq_of_lt hn, Nat.mod_eq_of_lt hm] at this

/-- A sum's four bytes, its lowest byte first. -/
def le4 (s : Nat) : List Nat := [s % 256, s / 256 % 256, s / 65536 % 256, s / 16777216 % 256]
/-- Noughts behind, up to n bytes. -/
def fill (l : List Nat) (n : Nat) : List Nat := l ++ List.replicate (n - l.length) 0
/-- A sector: 252 bytes, and their sum. -/
def frame (l : List Nat) : List Nat := fill l 252 ++ le4 (M 0 (fill l 252))
theorem le4_length (s : Nat) : (le4 s).length = 4 := rfl
theorem le4_lt (s : Nat) : ∀ x ∈ le4 s, x < 256 := by
  intro x hx
  simp [le4] at hx
  omega
theorem fill_length (l : List Nat) (n : Nat) (h : l.length ≤ n) : (fill l n).length = n := by simp [fill]; omega
theorem fill_lt (l : List Nat) (n : Nat) (h : ∀ x ∈ l, x < 256) : ∀ x ∈ fill l n, x < 256 := by
  intro x hx
  rcases List.mem_append.1 hx with hx | hx
  · exact h x hx
  · have := (List.mem_replicate.1 hx).2; omega
theorem fill_full (l : List Nat) (n : Nat) (h : n ≤ l.length) : fill l n = l := by simp [fill, Nat.sub_eq_zero_of_le h]
theorem fill_one (l : List Nat) (n : Nat) (h : l.length < n) : fill l n = fill (l ++ [0]) n := by
  simp only [fill, List.length_append, List.length_singleton, List.append_assoc]
  congr 1
  rw [show n - l.length = (n - (l.length + 1)) + 1 from by omega, List.replicate_succ]
  rfl
theorem frame_length (l : List Nat) (h : l.length ≤ 252) : (frame l).length = 256 := by simp [frame, fill_length l 252 h, le4_length]
theorem frame_lt (l : List Nat) (h : ∀ x ∈ l, x < 256) : ∀ x ∈ frame l, x < 256 := by
  intro x hx
  rcases List.mem_append.1 hx with hx | hx
  · exact fill_lt l 252 h x hx
  · exact le4_lt _ x hx
end Go.Proofs.YteaokeiolgjhaaaGreat.CodecMath
/- A disk in plain words: what is durable, versions, what is to fail, how many are left ahead of a cut. No program is named. -/
namespace Go.Proofs.YteaokeiolgjhaaaGreat.DiskSpec

/-- A disk: sectors; of each what is durable and its versions; of each kind which one fails (0: none); how many are left ahead of a cut (below 0: none is to come). -/
structure St where
  n : Nat
  dur : Nat → List Nat
  ver : Nat → List (List Nat)
  f1 : Nat
  f2 : Nat
  f3 : Nat
  left : Int

/-- Bytes of one sector. -/
def Sec (l : List Nat) : Prop := l.length = 256 ∧ ∀ x ∈ l, x < 256

structure St.ok (S : St) : Prop where
  pos : 1 ≤ S.n
  top : S.n ≤ 4096
  dur : ∀ i, Sec (S.dur i)
  ver : ∀ i, ∀ v ∈ S.ver i, Sec v
  out : ∀ i, S.n ≤ i → S.ver i = []
  f1 : S.f1 ≤ 1099511627776
  f2 : S.f2 ≤ 1099511627776
  f3 : S.f3 ≤ 1099511627776
  l0 : -1 ≤ S.left
  l1 : S.left ≤ 1099511627776

def upd {α : Type} (f : Nat → α) (i : Nat) (a : α) : Nat → α := fun j => if j = i then a else f j
theorem upd_same {α : Type} (f : Nat → α) (i : Nat) (a : α) : upd f i a i = a := by simp [upd]
theorem upd_ne {α : Type} (f : Nat → α) {i j : Nat} (a : α) (h : j ≠ i) : upd f i a j = f j := by simp [upd, h]

/-- What a sector reads as. -/
def St.now (S : St) (i : Nat) : List Nat := (S.ver i).getLastD (S.dur i)
/-- A sector is made durable. -/
def St.settle (S : St) (i : Nat) : St := { S with dur := upd S.dur i (S.now i), ver := upd S.ver i [] }
/-- A sector has one version more. -/
def St.add (S : St) (i : Nat) (v : List Nat) : St := { S with ver := upd S.ver i (S.ver i ++ [v]) }
def St.put (S : St) (fua : Bool) (i : Nat) (v : List Nat) : St := if fua then (S.add i v).settle i else S.add i v
/-- Sector j of bytes. -/
def sec (l : List Nat) (j : Nat) : List Nat := (l.drop (256 * j)).take 256
def St.puts (S : St) (fua : Bool) (at_ : Nat) (l : List Nat) : Nat → St
  | 0 => S
  | j + 1 => (S.puts fua at_ l j).put fua (at_ + j) (sec l j)
def tick (l : Int) : Int := if 0 < l then l - 1 else l
def St.done (S : St) : St := { S with left := tick S.left }
def St.flush (S : St) : St := { S with dur := S.now, ver := fun _ => [] }
def St.dirty (S : St) : List Nat := (List.range S.n).filter fun k => !(S.ver k).isEmpty
/-- The version that a pick names. -/
def pickOf (d : List Nat) (vs : List (List Nat)) (p : Int) : List Nat :=
  if (p % (vs.length + 1 : Int)).toNat = 0 then d else vs.getD ((p % (vs.length + 1 : Int)).toNat - 1) d
def St.crash (S : St) (picks : List Int) : St :=
  { S with dur := fun i => pickOf (S.dur i) (S.ver i) (picks.getD (S.dirty.idxOf i) 0), ver := fun _ => [], f1 := 0, f2 := 0, f3 := 0, left := -1 }
/-- A sector of noughts. -/
def zeros : List Nat := List.replicate 256 0
def St.new (n : Nat) : St := ⟨n, fun _ => zeros, fun _ => [], 0, 0, 0, -1⟩
/-- Are sectors there? -/
def St.has (S : St) (at_ count : Int) : Bool := decide (0 ≤ at_) && (decide (1 ≤ count) && decide (count ≤ S.n - at_))
/-- Bytes of count sectors from at_ on. -/
def St.reads (S : St) (at_ : Nat) : Nat → List Nat
  | 0 => []
  | j + 1 => S.reads at_ j ++ S.now (at_ + j)

theorem Sec.zero : Sec zeros := ⟨List.length_replicate, fun x hx => by rw [(List.mem_replicate.1 hx).2]; omega⟩
theorem St.now_sec {S : St} (h : S.ok) (i : Nat) : Sec (S.now i) := by
  unfold St.now
  cases hv : (S.ver i).getLast? with
  | none =>
    have : S.ver i = [] := List.getLast?_eq_none_iff.1 hv
    rw [this]; exact h.dur i
  | some v =>
    have hm : v ∈ S.ver i := List.mem_of_getLast? hv
    rw [List.getLastD_eq_getLast?, hv]
    exact h.ver i v hm
theorem St.now_nil {S : St} {i : Nat} (h : S.ver i = []) : S.now i = S.dur i := by simp [St.now, h]
theorem sec_sec {l : List Nat} {j : Nat} (h : 256 * (j + 1) ≤ l.length) (hl : ∀ x ∈ l, x < 256) : Sec (sec l j) :=
  ⟨by simp [sec]; omega, fun x hx => hl x (List.mem_of_mem_drop (List.mem_of_mem_take hx))⟩
theorem reads_length {S : St} (h : S.ok) (a : Nat) : ∀ k, (S.reads a k).length = 256 * k
  | 0 => rfl
  | k + 1 => by rw [St.reads, List.length_append, reads_length h a k, (S.now_sec h _).1]; omega
theorem reads_lt {S : St} (h : S.ok) (a : Nat) : ∀ k, ∀ x ∈ S.reads a k, x < 256
  | 0 => by simp [St.reads]
  | k + 1 => by
    intro x hx
    rcases List.mem_append.1 hx with hx | hx
    · exact reads_lt h a k x hx
    · exact (S.now_sec h _).2 x hx

theorem St.ok.settle {S : St} (h : S.ok) (i : Nat) : (S.settle i).ok where
  pos := h.pos
  top := h.top
  dur j := by
    show Sec (upd S.dur i (S.now i) j)
    unfold upd; split
    · exact S.now_sec h i
    · exact h.dur j
  ver j v hv := by
    have hv' : v ∈ upd S.ver i [] j := hv
    unfold upd at hv'; split at hv'
    · cases hv'
    · exact h.ver j v hv'
  out j hj := by
    show upd S.ver i [] j = []
    unfold upd; split
    · rfl
    · exact h.out j hj
  f1 := h.f1
  f2 := h.f2
  f3 := h.f3
  l0 := h.l0
  l1 := h.l1
theorem St.ok.add {S : St} (h : S.ok) {i : Nat} (hi : i < S.n) {v : List Nat} (hv : Sec v) : (S.add i v).ok where
  pos := h.pos
  top := h.top
  dur := h.dur
  ver j u hu := by
    have hu' : u ∈ upd S.ver i (S.ver i ++ [v]) j := hu
    unfold upd at hu'; split at hu'
    · rcases List.mem_append.1 hu' with h1 | h1
      · exact h.ver i u h1
      · simp at h1; subst h1; exact hv
    · exact h.ver j u hu'
  out j hj := by
    have hj' : S.n ≤ j := hj
    show upd S.ver i (S.ver i ++ [v]) j = []
    rw [upd_ne _ _ (by omega)]; exact h.out j hj'
  f1 := h.f1
  f2 := h.f2
  f3 := h.f3
  l0 := h.l0
  l1 := h.l1
theorem St.ok.put {S : St} (h : S.ok) (fua : Bool) {i : Nat} (hi : i < S.n) {v : List Nat} (hv : Sec v) : (S.put fua i v).ok := by
  unfold St.put; split
  · exact (h.add hi hv).settle i
  · exact h.add hi hv
theorem put_n (S : St) (fua : Bool) (i : Nat) (v : List Nat) : (S.put fua i v).n = S.n := by unfold St.put; split <;> rfl
theorem puts_n (S : St) (fua : Bool) (a : Nat) (l : List Nat) : ∀ k, (S.puts fua a l k).n = S.n
  | 0 => rfl
  | k + 1 => by rw [St.puts, put_n, puts_n S fua a l k]
theorem St.ok.puts {S : St} (h : S.ok) (fua : Bool) {a : Nat} {l : List Nat} (hl : ∀ x ∈ l, x < 256) : ∀ k, a + k ≤ S.n → 256 * k ≤ l.length → (S.puts fua a l k).ok
  | 0, _, _ => h
  | k + 1, h1, h2 => by
    have := h.puts fua (a := a) hl k (by omega) (by omega)
    exact this.put fua (by rw [puts_n]; omega) (sec_sec (by omega) hl)
theorem tick_bounds {l : Int} (h0 : -1 ≤ l) (h1 : l ≤ 1099511627776) : -1 ≤ tick l ∧ tick l ≤ 1099511627776 := by
  unfold tick; split <;> omega
theorem St.ok.done {S : St} (h : S.ok) : S.done.ok := { h with l0 := (tick_bounds h.l0 h.l1).1, l1 := (tick_bounds h.l0 h.l1).2 }
theorem St.ok.flush {S : St} (h : S.ok) : S.flush.ok := { h with dur := fun i => S.now_sec h i, ver := fun _ _ hv => (by cases hv), out := fun _ _ => rfl }
theorem pickOf_sec {d : List Nat} {vs : List (List Nat)} (hd : Sec d) (hv : ∀ v ∈ vs, Sec v) (p : Int) : Sec (pickOf d vs p) := by
  unfold pickOf; split
  · exact hd
  · rw [List.getD_eq_getElem?_getD]
    cases hg : vs[(p % (vs.length + 1 : Int)).toNat - 1]? with
    | none => exact hd
    | some v => exact hv v (List.mem_of_getElem? hg)
theorem pickOf_nil (d : List Nat) (p : Int) : pickOf d [] p = d := by
  unfold pickOf; simp
theorem pickOf_zero (d : List Nat) (vs : List (List Nat)) : pickOf d vs 0 = d := by simp [pickOf]
theorem St.ok.crash {S : St} (h : S.ok) (picks : List Int) : (S.crash picks).ok where
  pos := h.pos
  top := h.top
  dur i := pickOf_sec (h.dur i) (h.ver i) _
  ver _ _ hv := by cases hv
  out _ _ := rfl
  f1 := by simp [St.crash]
  f2 := by simp [St.crash]
  f3 := by simp [St.crash]
  l0 := by simp [St.crash]
  l1 := by simp [St.crash]
theorem St.ok.new {n : Nat} (h1 : 1 ≤ n) (h2 : n ≤ 4096) : (St.new n).ok :=
  ⟨h1, h2, fun _ => Sec.zero, fun _ _ hv => (by cases hv), fun _ _ => rfl, Nat.zero_le _, Nat.zero_le _, Nat.zero_le _, Int.le_refl _, by show (-1 : Int) ≤ 1099511627776; omega⟩
theorem mem_dirty {S : St} (i : Nat) : i ∈ S.dirty ↔ i < S.n ∧ S.ver i ≠ [] := by
  simp [St.dirty, List.mem_filter]
theorem dirty_nodup (S : St) : S.dirty.Nodup := List.Pairwise.filter _ List.nodup_range

/-! ### Sectors made durable one behind the other -/
def St.settles (S : St) (l : List Nat) : St := l.foldl St.settle S
theorem settles_snoc (S : St) (l : List Nat) (i : Nat) : S.settles (l ++ [i]) = (S.settles l).settle i := by simp [St.settles]
theorem settles_at (S : St) : ∀ (l : List Nat) (i : Nat), ((S.settles l).dur i = if i ∈ l then S.now i else S.dur i) ∧ ((S.settles l).ver i = if i ∈ l then [] else S.ver i) := by
  intro l
  induction l generalizing S with
  | nil => intro i; simp [St.settles]
  | cons a l ih =>
    intro i
    have h := ih (S.settle a) i
    have e : S.settles (a :: l) = (S.settle a).settles l := rfl
    rw [e, h.1, h.2]
    by_cases hi : i = a
    · subst hi
      constructor
      · simp only [List.mem_cons, true_or, if_true]
        split
        · simp [St.now, St.settle, upd]
        · simp [St.settle, upd]
      · simp only [List.mem_cons, true_or, if_true]
        split
        · rfl
        · simp [St.settle, upd]
    · have e1 : (S.settle a).now i = S.now i := by simp [St.now, St.settle, upd, hi]
      have e2 : (S.settle a).dur i = S.dur i := by simp [St.settle, upd, hi]
      have e3 : (S.settle a).ver i = S.ver i := by simp [St.settle, upd, hi]
      rw [e1, e2, e3]
      simp [hi]
theorem settles_rest (S : St) : ∀ l, (S.settles l).n = S.n ∧ (S.settles l).f1 = S.f1 ∧ (S.settles l).f2 = S.f2 ∧ (S.settles l).f3 = S.f3 ∧ (S.settles l).left = S.left := by
  intro l
  induction l generalizing S with
  | nil => exact ⟨rfl, rfl, rfl, rfl, rfl⟩
  | cons a l ih => exact ih (S.settle a)
theorem St.ext' {S T : St} (h1 : S.n = T.n) (h2 : S.dur = T.dur) (h3 : S.ver = T.ver) (h4 : S.f1 = T.f1) (h5 : S.f2 = T.f2) (h6 : S.f3 = T.f3) (h7 : S.left = T.left) : S = T := by
  cases S; cases T; simp_all
theorem settles_all {S : St} (h : S.ok) : S.settles S.dirty = S.flush := by
  obtain ⟨r1, r2, r3, r4, r5⟩ := settles_rest S S.dirty
  refine St.ext' r1 (funext fun i => ?_) (funext fun i => ?_) r2 r3 r4 r5
  · rw [(settles_at S S.dirty i).1]
    split
    · rfl
    · rename_i hi
      have : S.ver i = [] := by
        rcases Nat.lt_or_ge i S.n with hn | hn
        · exact Classical.byContradiction fun hne => hi ((mem_dirty i).2 ⟨hn, hne⟩)
        · exact h.out i hn
      exact (St.now_nil this).symm
  · rw [(settles_at S S.dirty i).2]
    split
    · rfl
    · rename_i hi
      show S.ver i = []
      rcases Nat.lt_or_ge i S.n with hn | hn
      · exact Classical.byContradiction fun hne => hi ((mem_dirty i).2 ⟨hn, hne⟩)
      · exact h.out i hn
theorem St.ok.settles {S : St} (h : S.ok) : ∀ l, (S.settles l).ok := by
  intro l
  induction l generalizing S with
  | nil => exact h
  | cons a l ih => exact ih (h.settle a)

/-! ### A crash, dirty sector by dirty sector -/
/-- Behind the first k dirty sectors. -/
def St.crashDur (S : St) (picks : List Int) (k : Nat) : Nat → List Nat :=
  fun i => if S.dirty.idxOf i < k then pickOf (S.dur i) (S.ver i) (picks.getD (S.dirty.idxOf i) 0) else S.dur i
theorem crashDur_zero (S : St) (picks : List Int) : S.crashDur picks 0 = S.dur := by funext i; simp [St.crashDur]
theorem crashDur_step (S : St) (picks : List Int) {k a : Nat} (hk : S.dirty[k]? = some a) :
    S.crashDur picks (k + 1) = upd (S.crashDur picks k) a (pickOf (S.dur a) (S.ver a) (picks.getD k 0)) := by
  have hkl : k < S.dirty.length := (List.getElem?_eq_some_iff.1 hk).1
  have hka : S.dirty[k] = a := (List.getElem?_eq_some_iff.1 hk).2
  have hid : S.dirty.idxOf a = k := by
    rw [← hka]
    exact (dirty_nodup S).idxOf_getElem k hkl
  funext i
  by_cases hi : i = a
  · subst hi
    simp [St.crashDur, upd, hid]
  · have hne : S.dirty.idxOf i ≠ k := by
      intro e
      have hil : S.dirty.idxOf i < S.dirty.length := by omega
      have := List.getElem_idxOf hil
      apply hi
      rw [← this, ← hka]
      simp [e]
    simp only [St.crashDur, upd, hi, if_false]
    by_cases h1 : S.dirty.idxOf i < k
    · rw [if_pos h1, if_pos (by omega)]
    · rw [if_neg h1, if_neg (by omega)]
theorem crashDur_skip (S : St) (picks : List Int) {k a : Nat} (hk : S.dirty[k]? = some a) (h : pickOf (S.dur a) (S.ver a) (picks.getD k 0) = S.dur a) : S.crashDur picks (k + 1) = S.crashDur picks k := by
  rw [crashDur_step S picks hk, h]
  have hkl : k < S.dirty.length := (List.getElem?_eq_some_iff.1 hk).1
  have hka : S.dirty[k] = a := (List.getElem?_eq_some_iff.1 hk).2
  have hid : S.dirty.idxOf a = k := by
    rw [← hka]
    exact (dirty_nodup S).idxOf_getElem k hkl
  funext i
  unfold upd
  split
  · rename_i e
    rw [e]
    simp [St.crashDur, hid]
  · rfl
/-- Where as many were gone through as there are, or as there are picks. -/
theorem crashDur_end {S : St} (h : S.ok) (picks : List Int) {k : Nat} (hk : k = S.dirty.length ∨ k = picks.length) : S.crashDur picks k = (S.crash picks).dur := by
  funext i
  show S.crashDur picks k i = pickOf (S.dur i) (S.ver i) (picks.getD (S.dirty.idxOf i) 0)
  unfold St.crashDur
  split
  · rfl
  · rename_i hlt
    rcases hk with rfl | rfl
    · have hn : ¬ i ∈ S.dirty := fun hm => hlt (List.idxOf_lt_length_of_mem hm)
      have : S.ver i = [] := by
        rcases Nat.lt_or_ge i S.n with h1 | h1
        · exact Classical.byContradiction fun hne => hn ((mem_dirty i).2 ⟨h1, hne⟩)
        · exact h.out i h1
      rw [this, pickOf_nil]
    · have : picks.getD (S.dirty.idxOf i) 0 = 0 := by
        rw [List.getD_eq_getElem?_getD, List.getElem?_eq_none (by omega)]; rfl
      rw [this, pickOf_zero]
end Go.Proofs.YteaokeiolgjhaaaGreat.DiskSpec
/- What a call of a disk answers, and what it leaves, in plain words. No program is named. -/
namespace Go.Proofs.YteaokeiolgjhaaaGreat.Dsk
open DiskSpec

/-! ### Plain words: what a call answers, and what it leaves -/
def writeE (S : St) (fua : Bool) (a : Int) (l : List Nat) : Int × St :=
  if l.length = 0 ∨ l.length % 256 ≠ 0 then (1, S)
  else if S.has a (l.length / 256 : Nat) = false then (2, S)
  else if S.f2 = 1 ∨ S.left = 0 then (11, { S with f2 := S.f2 - 1 })
  else (0, (({ S with f2 := S.f2 - 1 } : St).puts fua a.toNat l (l.length / 256)).done)
def readE (S : St) (a count : Int) : Int × St :=
  if S.has a count = false then (2, S) else if S.f1 = 1 then (10, { S with f1 := S.f1 - 1 }) else (0, { S with f1 := S.f1 - 1 })
def readL (S : St) (a count : Int) : List Nat := if S.has a count = false then [] else if S.f1 = 1 then [] else S.reads a.toNat count.toNat
def flushE (S : St) : Int × St :=
  if S.f3 = 1 ∨ S.left = 0 then (12, { S with f3 := S.f3 - 1 }) else (0, ({ S with f3 := S.f3 - 1 } : St).flush.done)
def failE (S : St) (kind n : Int) : Int × St :=
  if n < 1 ∨ 1099511627776 < n then (1, S) else if kind = 1 then (0, { S with f1 := n.toNat }) else if kind = 2 then (0, { S with f2 := n.toNat }) else if kind = 3 then (0, { S with f3 := n.toNat }) else (1, S)
def cutE (S : St) (n : Int) : Int × St := if n < 0 ∨ 1099511627776 < n then (1, S) else (0, { S with left := n })
theorem has_split {S : St} {a c : Int} (h : S.has a c = true) (_hn : S.n ≤ 4096) : ∃ a' c' : Nat, a = a' ∧ c = c' ∧ 1 ≤ c' ∧ a' + c' ≤ S.n := by
  simp [St.has] at h
  exact ⟨a.toNat, c.toNat, by omega, by omega, by omega, by omega⟩
end Go.Proofs.YteaokeiolgjhaaaGreat.Dsk
