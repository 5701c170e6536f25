/- Plain facts on CRC32C over natural numbers: one bit's step, eight of them, a text's sum; no program is named. -/
namespace Go.Proofs.Ytlbadapcaooieaa.CrcMath

/-- One bit's step. -/
def L (x : Nat) : Nat := x / 2 ^^^ (if x % 2 = 1 then 2197175160 else 0)
/-- k bits' steps. -/
def Lk : Nat → Nat → Nat
  | 0, x => x
  | k + 1, x => L (Lk k x)
/-- A byte's step. -/
def B (s b : Nat) : Nat := Lk 8 (s ^^^ b)
/-- A text's steps. -/
def C (s : Nat) (l : List Nat) : Nat := l.foldl B s
/-- More. -/
def M (s : Nat) (l : List Nat) : Nat := 4294967295 - C (4294967295 - s) l

theorem L_lt {x : Nat} (h : x < 4294967296) : L x < 4294967296 := by
  unfold L
  exact Nat.xor_lt_two_pow (n := 32) (by omega) (by split <;> omega)
theorem Lk_lt {x : Nat} (h : x < 4294967296) (k : Nat) : Lk k x < 4294967296 := by
  induction k with
  | zero => exact h
  | succ k ih => exact L_lt ih
theorem B_lt {s b : Nat} (h : s < 4294967296) (hb : b < 256) : B s b < 4294967296 :=
  Lk_lt (Nat.xor_lt_two_pow (n := 32) h (by omega)) 8
theorem C_lt (l : List Nat) : ∀ {s : Nat}, s < 4294967296 → (∀ b ∈ l, b < 256) → C s l < 4294967296 := by
  induction l with
  | nil => intro s h _; exact h
  | cons b l ih =>
    intro s h hl
    exact ih (B_lt h (hl b (by simp))) (fun c hc => hl c (by simp [hc]))
theorem C_append (s : Nat) (l l' : List Nat) : C s (l ++ l') = C (C s l) l' := by
  simp [C, List.foldl_append]
theorem C_snoc (s : Nat) (l : List Nat) (b : Nat) : C s (l ++ [b]) = B (C s l) b := by
  simp [C, List.foldl_append]
theorem M_lt (s : Nat) (l : List Nat) : M s l < 4294967296 := by unfold M; omega
theorem M_parts (s : Nat) (hs : s < 4294967296) (l l' : List Nat) (hl : ∀ b ∈ l, b < 256) : M (M s l) l' = M s (l ++ l') := by
  unfold M
  have h := C_lt l (s := 4294967295 - s) (by omega) hl
  rw [C_append, show 4294967295 - (4294967295 - C (4294967295 - s) l) = C (4294967295 - s) l from by omega]

/-! Steps go by exclusive or. -/
theorem half_xor (x y : Nat) : (x ^^^ y) / 2 = x / 2 ^^^ y / 2 := by
  have := Nat.shiftRight_xor_distrib (a := x) (b := y) (i := 1)
  simpa [Nat.shiftRight_succ] using this
theorem odd_xor (x y : Nat) : ((x ^^^ y) % 2 = 1) = ((x % 2 = 1) ≠ (y % 2 = 1)) := by
  have h := Nat.testBit_xor x y 0
  simp only [Nat.testBit_zero] at h
  rcases Nat.mod_two_eq_zero_or_one x with hx | hx <;> rcases Nat.mod_two_eq_zero_or_one y with hy | hy <;> simp [hx, hy] at h ⊢ <;> exact h
theorem L_xor (x y : Nat) : L (x ^^^ y) = L x ^^^ L y := by
  have e : ∀ a b c d : Nat, (a ^^^ b) ^^^ (c ^^^ d) = (a ^^^ c) ^^^ (b ^^^ d) := by
    intro a b c d
    rw [Nat.xor_assoc, Nat.xor_assoc, ← Nat.xor_assoc b c d, Nat.xor_comm b c, Nat.xor_assoc c b d]
  unfold L
  rw [half_xor, e]
  congr 1
  simp only [odd_xor]
  by_cases hx : x % 2 = 1 <;> by_cases hy : y % 2 = 1 <;> simp [hx, hy]
theorem Lk_xor (k x y : Nat) : Lk k (x ^^^ y) = Lk k x ^^^ Lk k y := by
  induction k with
  | zero => rfl
  | succ k ih => show L _ = _; rw [ih, L_xor]; rfl
theorem Lk_zero (k : Nat) : Lk k 0 = 0 := by
  induction k with
  | zero => rfl
  | succ k ih => show L _ = _; rw [ih]; rfl
theorem Lk_add (j k x : Nat) : Lk (j + k) x = Lk j (Lk k x) := by
  induction j with
  | zero => simp [Lk]
  | succ j ih => rw [Nat.succ_add]; show L _ = L _; rw [ih]
theorem Lk_shift (k x : Nat) : Lk k (2 ^ k * x) = x := by
  induction k generalizing x with
  | zero => simp [Lk]
  | succ k ih =>
    show L _ = _
    rw [show 2 ^ (k + 1) * x = 2 ^ k * (2 * x) from by rw [Nat.pow_succ, Nat.mul_assoc], ih]
    simp [L]
theorem split256 (s : Nat) : s = s % 256 ^^^ 256 * (s / 256) := by
  apply Nat.eq_of_testBit_eq
  intro i
  rw [Nat.testBit_xor, show (256 : Nat) = 2 ^ 8 from rfl, Nat.testBit_mod_two_pow, Nat.testBit_two_pow_mul]
  by_cases h : i < 8
  · simp [h, show ¬ 8 ≤ i from by omega]
  · have h8 : 8 ≤ i := by omega
    simp only [h, decide_false, Bool.false_and, ge_iff_le, h8, decide_true, Bool.true_and, Bool.false_xor]
    rw [Nat.testBit_div_two_pow]
    congr 1
    omega
/-- A byte's step by the table: the entry at the lowest byte put together with the byte, and what is left, shifted. -/
theorem B_table (s b : Nat) : Lk 8 ((s % 256) ^^^ b) ^^^ s / 256 = B s b := by
  unfold B
  have h : s ^^^ b = (s % 256 ^^^ b) ^^^ 2 ^ 8 * (s / 256) := by
    rw [Nat.xor_assoc, Nat.xor_comm b, ← Nat.xor_assoc]
    congr 1
    exact split256 s
  rw [h, Lk_xor _ (s % 256 ^^^ b), Lk_shift]

/-- The sum of nine digits. -/
theorem M_digits : M 0 [49, 50, 51, 52, 53, 54, 55, 56, 57] = 3808858755 := by decide +kernel
theorem M_none (s : Nat) (hs : s < 4294967296) : M s [] = s := by
  simp [M, C]; omega

/-! ### The sum of three texts put together -/
def X3 : List Nat → List Nat → List Nat → List Nat
  | a :: as, b :: bs, c :: cs => (a ^^^ b ^^^ c) :: X3 as bs cs
  | _, _, _ => []
theorem xor3 (a b c d e f : Nat) : (a ^^^ b ^^^ c) ^^^ (d ^^^ e ^^^ f) = (a ^^^ d) ^^^ (b ^^^ e) ^^^ (c ^^^ f) := by
  apply Nat.eq_of_testBit_eq
  intro i
  simp only [Nat.testBit_xor]
  cases a.testBit i <;> cases b.testBit i <;> cases c.testBit i <;> cases d.testBit i <;> cases e.testBit i <;> cases f.testBit i <;> rfl
theorem C_X3 : ∀ (as bs cs : List Nat) (s t u : Nat), as.length = bs.length → bs.length = cs.length → C (s ^^^ t ^^^ u) (X3 as bs cs) = C s as ^^^ C t bs ^^^ C u cs
  | [], [], [], _, _, _, _, _ => rfl
  | a :: as, b :: bs, c :: cs, s, t, u, h1, h2 => by
    show C (B (s ^^^ t ^^^ u) (a ^^^ b ^^^ c)) (X3 as bs cs) = C (B s a) as ^^^ C (B t b) bs ^^^ C (B u c) cs
    rw [← C_X3 as bs cs (B s a) (B t b) (B u c) (by simpa using h1) (by simpa using h2)]
    congr 1
    unfold B
    rw [xor3, Lk_xor, Lk_xor]
  | [], _ :: _, _, _, _, _, h, _ => by simp at h
  | _ :: _, [], _, _, _, _, h, _ => by simp at h
  | _, [], _ :: _, _, _, _, _, h => by simp at h
  | _, _ :: _, [], _, _, _, _, h => by simp at h
theorem not_eq_xor {x : Nat} (h : x < 4294967296) : 4294967295 - x = x ^^^ 4294967295 := by
  have h1 : x &&& 4294967295 = x := by
    rw [show (4294967295 : Nat) = 2 ^ 32 - 1 from rfl, Nat.and_two_pow_sub_one_eq_mod]; omega
  apply Nat.eq_of_testBit_eq
  intro i
  rw [show (4294967295 : Nat) - x = 2 ^ 32 - (x + 1) from by omega, Nat.testBit_two_pow_sub_succ h, Nat.testBit_xor, show (4294967295 : Nat) = 2 ^ 32 - 1 from rfl, Nat.testBit_two_pow_sub_one]
  by_cases hi : i < 32
  · simp [hi]
  · have : x.testBit i = false := Nat.testBit_lt_two_pow (Nat.lt_of_lt_of_le h (Nat.pow_le_pow_right (n := 2) (by omega) (show 32 ≤ i by omega)))
    simp [hi, this]
theorem M_three (as bs cs : List Nat) (h1 : as.length = bs.length) (h2 : bs.length = cs.length) (ha : ∀ b ∈ as, b < 256) (hb : ∀ b ∈ bs, b < 256) (hc : ∀ b ∈ cs, b < 256)
    (hx : ∀ b ∈ X3 as bs cs, b < 256) : M 0 as ^^^ M 0 bs ^^^ M 0 cs = M 0 (X3 as bs cs) := by
  have e := C_X3 as bs cs 4294967295 4294967295 4294967295 h1 h2
  have e0 : (4294967295 ^^^ 4294967295 ^^^ 4294967295 : Nat) = 4294967295 := by decide
  rw [e0] at e
  unfold M
  rw [show 4294967295 - 0 = 4294967295 from rfl]
  rw [not_eq_xor (C_lt as (by omega) ha), not_eq_xor (C_lt bs (by omega) hb), not_eq_xor (C_lt cs (by omega) hc), not_eq_xor (C_lt _ (by omega) hx), e, ← xor3, e0]
theorem X3_length : ∀ (as bs cs : List Nat), as.length = bs.length → bs.length = cs.length → (X3 as bs cs).length = as.length
  | [], [], [], _, _ => rfl
  | _ :: as, _ :: bs, _ :: cs, h1, h2 => by simp only [X3, List.length_cons]; rw [X3_length as bs cs (by simpa using h1) (by simpa using h2)]
  | [], _ :: _, _, h, _ => by simp at h
  | _ :: _, [], _, h, _ => by simp at h
  | _, [], _ :: _, _, h => by simp at h
  | _, _ :: _, [], _, h => by simp at h
theorem X3_snoc (a b c : Nat) : ∀ (as bs cs : List Nat), as.length = bs.length → bs.length = cs.length → X3 (as ++ [a]) (bs ++ [b]) (cs ++ [c]) = X3 as bs cs ++ [a ^^^ b ^^^ c]
  | [], [], [], _, _ => rfl
  | _ :: as, _ :: bs, _ :: cs, h1, h2 => by
    simp only [X3, List.cons_append]
    rw [X3_snoc a b c as bs cs (by simpa using h1) (by simpa using h2)]
  | [], _ :: _, _, h, _ => by simp at h
  | _ :: _, [], _, h, _ => by simp at h
  | _, [], _ :: _, _, h => by simp at h
  | _, _ :: _, [], _, h => by simp at h
theorem X3_lt : ∀ (as bs cs : List Nat), (∀ x ∈ as, x < 256) → (∀ x ∈ bs, x < 256) → (∀ x ∈ cs, x < 256) → ∀ x ∈ X3 as bs cs, x < 256
  | a :: as, b :: bs, c :: cs, ha, hb, hc => by
    intro x hx
    rcases List.mem_cons.1 hx with rfl | hx
    · exact Nat.xor_lt_two_pow (n := 8) (Nat.xor_lt_two_pow (n := 8) (ha _ (by simp)) (hb _ (by simp))) (hc _ (by simp))
    · exact X3_lt as bs cs (fun y hy => ha y (by simp [hy])) (fun y hy => hb y (by simp [hy])) (fun y hy => hc y (by simp [hy])) x hx
  | [], _, _, _, _, _ => by simp [X3]
  | _ :: _, [], _, _, _, _ => by simp [X3]
  | _ :: _, _ :: _, [], _, _, _ => by simp [X3]
end Go.Proofs.Ytlbadapcaooieaa.CrcMath
