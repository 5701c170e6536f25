/- Plain words on sets of pages as bits in words of 64; how many bits a word has; the least one. -/
import Derived.Lib.TrailingZeros
import Derived.Laws.Bits64b
set_option linter.unusedVariables false
namespace Go.Proofs.YtldbfhgkicphkaaDoor.AlcBits

/-- The number whose bits below k are f's. -/
def ofB (f : Nat → Bool) : Nat → Nat
  | 0 => 0
  | k + 1 => ofB f k + (if f k then 2 ^ k else 0)
theorem ofB_lt (f : Nat → Bool) : ∀ k, ofB f k < 2 ^ k
  | 0 => by simp [ofB]
  | k + 1 => by
    have := ofB_lt f k
    simp only [ofB, Nat.pow_succ]
    split <;> omega
theorem testBit_ofB (f : Nat → Bool) : ∀ k j, (ofB f k).testBit j = (decide (j < k) && f j)
  | 0, j => by simp [ofB]
  | k + 1, j => by
    have hl := ofB_lt f k
    have ih := testBit_ofB f k
    unfold ofB
    by_cases h : f k = true
    · rw [if_pos h]
      by_cases hj : j = k
      · subst hj
        rw [Nat.add_comm, Nat.testBit_two_pow_add_eq, ih]
        simp [h]
      · by_cases hj2 : j < k
        · rw [Nat.add_comm, Nat.testBit_two_pow_add_gt hj2, ih]
          simp [hj2, Nat.lt_succ_of_lt hj2]
        · have : 2 ^ (k + 1) ≤ 2 ^ j := Nat.pow_le_pow_right (by omega) (by omega)
          rw [Nat.testBit_lt_two_pow (by rw [Nat.pow_succ] at this; omega)]
          simp only [show ¬ j < k + 1 by omega, decide_false, Bool.false_and]
    · rw [if_neg h, Nat.add_zero, ih]
      by_cases hj : j = k
      · subst hj; simp at h; simp [h]
      · simp only [show (j < k) ↔ (j < k + 1) by omega]
/-- The i-th word of a set. -/
def wd (F : Nat → Bool) (i : Nat) : Nat := ofB (fun b => F (64 * i + b)) 64
theorem wd_lt (F : Nat → Bool) (i : Nat) : wd F i < 18446744073709551616 := ofB_lt _ 64
theorem wd_bit (F : Nat → Bool) (i j : Nat) : (wd F i).testBit j = (decide (j < 64) && F (64 * i + j)) := testBit_ofB _ _ _
theorem wd_eq {F : Nat → Bool} {i x : Nat} (h : x < 18446744073709551616) (hb : ∀ j, j < 64 → x.testBit j = F (64 * i + j)) : x = wd F i := by
  refine Nat.eq_of_testBit_eq fun j => ?_
  rw [wd_bit]
  by_cases hj : j < 64
  · simp [hj, hb j hj]
  · simp only [hj, decide_false, Bool.false_and]
    exact Nat.testBit_lt_two_pow (Nat.lt_of_lt_of_le h (show 2 ^ 64 ≤ 2 ^ j from Nat.pow_le_pow_right (by omega) (by omega)))
theorem wd_congr {F G : Nat → Bool} {i : Nat} (h : ∀ j, j < 64 → F (64 * i + j) = G (64 * i + j)) : wd F i = wd G i :=
  wd_eq (wd_lt _ _) (fun j hj => by rw [wd_bit, decide_eq_true hj, Bool.true_and, h j hj])

/-- A page's own bit. -/
theorem bit_lt (p : Nat) : 2 ^ (p % 64) < 18446744073709551616 :=
  Nat.lt_of_lt_of_le (Nat.pow_lt_pow_right (by omega) (Nat.mod_lt _ (by omega))) (Nat.le_refl (2 ^ 64))
theorem wd_has (F : Nat → Bool) (p : Nat) : decide (wd F (p / 64) &&& 2 ^ (p % 64) = 0) = !F p := by
  have hb : ∀ j, (wd F (p / 64) &&& 2 ^ (p % 64)).testBit j = (decide (j = p % 64) && F p) := by
    intro j
    rw [Nat.testBit_and, wd_bit, Nat.testBit_two_pow]
    by_cases hj : p % 64 = j
    · subst hj
      have h1 : p % 64 < 64 := Nat.mod_lt _ (by omega)
      have h2 : 64 * (p / 64) + p % 64 = p := by omega
      simp [h1, h2]
    · simp [hj, show ¬ j = p % 64 from fun e => hj e.symm]
  cases hF : F p
  · have h0 : wd F (p / 64) &&& 2 ^ (p % 64) = 0 := Nat.eq_of_testBit_eq fun j => by rw [hb, hF]; simp
    simp [h0]
  · have h1 := hb (p % 64)
    rw [hF, decide_eq_true rfl, Bool.true_and] at h1
    simp only [Bool.not_true, decide_eq_false_iff_not]
    intro e
    rw [e, Nat.zero_testBit] at h1
    cases h1
/-- A page put in, taken out. -/
def ins (F : Nat → Bool) (p : Nat) : Nat → Bool := fun q => q == p || F q
def del (F : Nat → Bool) (p : Nat) : Nat → Bool := fun q => !(q == p) && F q
theorem page_at (p j : Nat) (hj : j < 64) : (64 * (p / 64) + j == p) = decide (p % 64 = j) := by
  by_cases h : p % 64 = j
  · simp only [h, decide_true, beq_iff_eq]; omega
  · simp only [h, decide_false, beq_eq_false_iff_ne]; omega
theorem wd_ins (F : Nat → Bool) (p : Nat) : wd F (p / 64) ||| 2 ^ (p % 64) = wd (ins F p) (p / 64) := by
  refine wd_eq (Nat.or_lt_two_pow (wd_lt _ _) (bit_lt p) : _ < 2 ^ 64) fun j hj => ?_
  rw [Nat.testBit_or, wd_bit, Nat.testBit_two_pow, ins, page_at p j hj, decide_eq_true hj, Bool.true_and, Bool.or_comm]
theorem wd_ins_else (F : Nat → Bool) (p i : Nat) (hi : i ≠ p / 64) : wd (ins F p) i = wd F i :=
  wd_congr fun j hj => by rw [ins, show (64 * i + j == p) = false from by rw [beq_eq_false_iff_ne]; omega, Bool.false_or]
theorem wd_del_else (F : Nat → Bool) (p i : Nat) (hi : i ≠ p / 64) : wd (del F p) i = wd F i :=
  wd_congr fun j hj => by rw [del, show (64 * i + j == p) = false from by rw [beq_eq_false_iff_ne]; omega]; simp
theorem wd_del (F : Nat → Bool) (p : Nat) : wd F (p / 64) &&& (18446744073709551615 - 2 ^ (p % 64)) = wd (del F p) (p / 64) := by
  refine wd_eq (Nat.and_lt_two_pow _ (show 18446744073709551615 - 2 ^ (p % 64) < 2 ^ 64 from Nat.lt_of_le_of_lt (Nat.sub_le _ _) (by omega))) fun j hj => ?_
  have h1 : (18446744073709551615 - 2 ^ (p % 64)).testBit j = !decide (p % 64 = j) := by
    have h2 := Nat.testBit_two_pow_sub_succ (x := 2 ^ (p % 64)) (n := 64) (bit_lt p) j
    rw [show 18446744073709551615 - 2 ^ (p % 64) = 2 ^ 64 - (2 ^ (p % 64) + 1) by omega, h2, Nat.testBit_two_pow, decide_eq_true hj, Bool.true_and]
  rw [Nat.testBit_and, wd_bit, h1, del, page_at p j hj, decide_eq_true hj, Bool.true_and, Bool.and_comm]
theorem wd_or (F G : Nat → Bool) (i : Nat) : wd F i ||| wd G i = wd (fun p => F p || G p) i := by
  refine wd_eq (Nat.or_lt_two_pow (wd_lt _ _) (wd_lt _ _) : _ < 2 ^ 64) fun j hj => ?_
  rw [Nat.testBit_or, wd_bit, wd_bit, decide_eq_true hj, Bool.true_and, Bool.true_and]
theorem wd_none (i : Nat) : wd (fun _ => false) i = 0 := (wd_eq (by omega) (fun j _ => by simp)).symm

/-- How many of the numbers below k. -/
def cnt (f : Nat → Bool) : Nat → Nat
  | 0 => 0
  | k + 1 => cnt f k + (f k).toNat
theorem cnt_congr {f g : Nat → Bool} : ∀ {k}, (∀ j, j < k → f j = g j) → cnt f k = cnt g k
  | 0, _ => rfl
  | k + 1, h => by simp only [cnt]; rw [cnt_congr (fun j hj => h j (by omega)), h k (by omega)]
theorem cnt_le (f : Nat → Bool) : ∀ k, cnt f k ≤ k
  | 0 => Nat.le_refl 0
  | k + 1 => by have := cnt_le f k; have := Bool.toNat_le (f k); simp only [cnt]; omega
theorem cnt_add (f : Nat → Bool) (a : Nat) : ∀ b, cnt f (a + b) = cnt f a + cnt (fun j => f (a + j)) b
  | 0 => rfl
  | b + 1 => by rw [← Nat.add_assoc]; simp only [cnt]; rw [cnt_add f a b]; omega
theorem cnt_none {f : Nat → Bool} : ∀ {k}, (∀ j, j < k → f j = false) → cnt f k = 0
  | 0, _ => rfl
  | k + 1, h => by simp only [cnt]; rw [cnt_none (fun j hj => h j (by omega)), h k (by omega)]; rfl
theorem cnt_all {f : Nat → Bool} : ∀ {k}, (∀ j, j < k → f j = true) → cnt f k = k
  | 0, _ => rfl
  | k + 1, h => by simp only [cnt]; rw [cnt_all (fun j hj => h j (by omega)), h k (by omega)]; rfl

/-! ### Bits counted -/
def pop8 (b : Nat) : Nat :=
  let y := (b / 2 &&& 85) + (b &&& 85)
  let z := (y / 4 &&& 51) + (y &&& 51)
  (z / 16 + z) &&& 15
def mk8 (a0 a1 a2 a3 a4 a5 a6 a7 : Nat) : Nat :=
  a0 + 256 * (a1 + 256 * (a2 + 256 * (a3 + 256 * (a4 + 256 * (a5 + 256 * (a6 + 256 * a7))))))
theorem and_mk (a m c n : Nat) (ha : a < 256) (hm : m < 256) : (a + 256 * c) &&& (m + 256 * n) = (a &&& m) + 256 * (c &&& n) := by
  have e : ∀ a c : Nat, a < 256 → a + 256 * c = 2 ^ 8 * c + a := fun a c _ => by omega
  have h1 : a &&& m < 2 ^ 8 := Nat.and_lt_two_pow _ hm
  rw [e a c ha, e m n hm, Nat.add_comm (a &&& m), show 256 = 2 ^ 8 from rfl]
  refine Nat.eq_of_testBit_eq fun j => ?_
  rw [Nat.testBit_and, Nat.testBit_two_pow_mul_add _ (show a < 2 ^ 8 from ha), Nat.testBit_two_pow_mul_add _ (show m < 2 ^ 8 from hm), Nat.testBit_two_pow_mul_add _ h1]
  split <;> simp [Nat.testBit_and]
theorem and_mk8 {a0 a1 a2 a3 a4 a5 a6 a7 : Nat} (m : Nat) (h0 : a0 < 256) (h1 : a1 < 256) (h2 : a2 < 256) (h3 : a3 < 256) (h4 : a4 < 256) (h5 : a5 < 256) (h6 : a6 < 256) (h7 : a7 < 256) (hm : m < 256) :
    mk8 a0 a1 a2 a3 a4 a5 a6 a7 &&& mk8 m m m m m m m m = mk8 (a0 &&& m) (a1 &&& m) (a2 &&& m) (a3 &&& m) (a4 &&& m) (a5 &&& m) (a6 &&& m) (a7 &&& m) := by
  unfold mk8
  rw [and_mk _ _ _ _ h0 hm, and_mk _ _ _ _ h1 hm, and_mk _ _ _ _ h2 hm, and_mk _ _ _ _ h3 hm, and_mk _ _ _ _ h4 hm, and_mk _ _ _ _ h5 hm, and_mk _ _ _ _ h6 hm]
theorem byte_and85 : ∀ b, b < 256 → ∀ t, t < 2 → (b / 2 + 128 * t) &&& 85 = (b / 2 &&& 85) := by decide +kernel
theorem byte_and51 : ∀ b, b < 256 → ∀ t, t < 4 → (b / 4 + 64 * t) &&& 51 = (b / 4 &&& 51) := by decide +kernel
theorem byte_low : ∀ b, b < 256 → ((b / 2 &&& 85) + (b &&& 85)) < 256 ∧ (let y := (b / 2 &&& 85) + (b &&& 85); (y / 4 &&& 51) + (y &&& 51) ≤ 68 ∧ ((y / 4 &&& 51) + (y &&& 51)) % 16 ≤ 4) := by decide +kernel
theorem byte_and15 : ∀ z, z ≤ 68 → ∀ t, t ≤ 4 → (z / 16 + z + 16 * t) &&& 15 = (z / 16 + z) &&& 15 := by decide +kernel
theorem pop8_cnt : ∀ b, b < 256 → pop8 b = cnt b.testBit 8 := by decide +kernel
/-- What OnesCount64 reckons, step by step. -/
def sw1 (x : Nat) : Nat := (x / 2 &&& 6148914691236517205) + (x &&& 6148914691236517205)
def sw2 (y : Nat) : Nat := (y / 4 &&& 3689348814741910323) + (y &&& 3689348814741910323)
def sw3 (z : Nat) : Nat := (z / 16 + z) &&& 1085102592571150095
theorem sw1_mk {a0 a1 a2 a3 a4 a5 a6 a7 : Nat} (h0 : a0 < 256) (h1 : a1 < 256) (h2 : a2 < 256) (h3 : a3 < 256) (h4 : a4 < 256) (h5 : a5 < 256) (h6 : a6 < 256) (h7 : a7 < 256) :
    sw1 (mk8 a0 a1 a2 a3 a4 a5 a6 a7) = mk8 ((a0 / 2 &&& 85) + (a0 &&& 85)) ((a1 / 2 &&& 85) + (a1 &&& 85)) ((a2 / 2 &&& 85) + (a2 &&& 85)) ((a3 / 2 &&& 85) + (a3 &&& 85)) ((a4 / 2 &&& 85) + (a4 &&& 85)) ((a5 / 2 &&& 85) + (a5 &&& 85)) ((a6 / 2 &&& 85) + (a6 &&& 85)) ((a7 / 2 &&& 85) + (a7 &&& 85)) := by
  unfold sw1
  rw [show 6148914691236517205 = mk8 85 85 85 85 85 85 85 85 from rfl,
    show mk8 a0 a1 a2 a3 a4 a5 a6 a7 / 2 = mk8 (a0 / 2 + 128 * (a1 % 2)) (a1 / 2 + 128 * (a2 % 2)) (a2 / 2 + 128 * (a3 % 2)) (a3 / 2 + 128 * (a4 % 2)) (a4 / 2 + 128 * (a5 % 2)) (a5 / 2 + 128 * (a6 % 2)) (a6 / 2 + 128 * (a7 % 2)) (a7 / 2 + 128 * 0) from by unfold mk8; omega,
    and_mk8 85 (by omega) (by omega) (by omega) (by omega) (by omega) (by omega) (by omega) (by omega) (by omega), and_mk8 85 h0 h1 h2 h3 h4 h5 h6 h7 (by omega),
    byte_and85 _ h0 _ (by omega), byte_and85 _ h1 _ (by omega), byte_and85 _ h2 _ (by omega), byte_and85 _ h3 _ (by omega), byte_and85 _ h4 _ (by omega), byte_and85 _ h5 _ (by omega), byte_and85 _ h6 _ (by omega), byte_and85 _ h7 _ (by omega)]
  unfold mk8
  omega
theorem sw2_mk {a0 a1 a2 a3 a4 a5 a6 a7 : Nat} (h0 : a0 < 256) (h1 : a1 < 256) (h2 : a2 < 256) (h3 : a3 < 256) (h4 : a4 < 256) (h5 : a5 < 256) (h6 : a6 < 256) (h7 : a7 < 256) :
    sw2 (mk8 a0 a1 a2 a3 a4 a5 a6 a7) = mk8 ((a0 / 4 &&& 51) + (a0 &&& 51)) ((a1 / 4 &&& 51) + (a1 &&& 51)) ((a2 / 4 &&& 51) + (a2 &&& 51)) ((a3 / 4 &&& 51) + (a3 &&& 51)) ((a4 / 4 &&& 51) + (a4 &&& 51)) ((a5 / 4 &&& 51) + (a5 &&& 51)) ((a6 / 4 &&& 51) + (a6 &&& 51)) ((a7 / 4 &&& 51) + (a7 &&& 51)) := by
  unfold sw2
  rw [show 3689348814741910323 = mk8 51 51 51 51 51 51 51 51 from rfl,
    show mk8 a0 a1 a2 a3 a4 a5 a6 a7 / 4 = mk8 (a0 / 4 + 64 * (a1 % 4)) (a1 / 4 + 64 * (a2 % 4)) (a2 / 4 + 64 * (a3 % 4)) (a3 / 4 + 64 * (a4 % 4)) (a4 / 4 + 64 * (a5 % 4)) (a5 / 4 + 64 * (a6 % 4)) (a6 / 4 + 64 * (a7 % 4)) (a7 / 4 + 64 * 0) from by unfold mk8; omega,
    and_mk8 51 (by omega) (by omega) (by omega) (by omega) (by omega) (by omega) (by omega) (by omega) (by omega), and_mk8 51 h0 h1 h2 h3 h4 h5 h6 h7 (by omega),
    byte_and51 _ h0 _ (by omega), byte_and51 _ h1 _ (by omega), byte_and51 _ h2 _ (by omega), byte_and51 _ h3 _ (by omega), byte_and51 _ h4 _ (by omega), byte_and51 _ h5 _ (by omega), byte_and51 _ h6 _ (by omega), byte_and51 _ h7 _ (by omega)]
  unfold mk8
  omega
theorem sw3_mk {a0 a1 a2 a3 a4 a5 a6 a7 : Nat} (h0 : a0 ≤ 68) (h1 : a1 ≤ 68 ∧ a1 % 16 ≤ 4) (h2 : a2 ≤ 68 ∧ a2 % 16 ≤ 4) (h3 : a3 ≤ 68 ∧ a3 % 16 ≤ 4) (h4 : a4 ≤ 68 ∧ a4 % 16 ≤ 4) (h5 : a5 ≤ 68 ∧ a5 % 16 ≤ 4) (h6 : a6 ≤ 68 ∧ a6 % 16 ≤ 4) (h7 : a7 ≤ 68 ∧ a7 % 16 ≤ 4) :
    sw3 (mk8 a0 a1 a2 a3 a4 a5 a6 a7) = mk8 ((a0 / 16 + a0) &&& 15) ((a1 / 16 + a1) &&& 15) ((a2 / 16 + a2) &&& 15) ((a3 / 16 + a3) &&& 15) ((a4 / 16 + a4) &&& 15) ((a5 / 16 + a5) &&& 15) ((a6 / 16 + a6) &&& 15) ((a7 / 16 + a7) &&& 15) := by
  unfold sw3
  rw [show 1085102592571150095 = mk8 15 15 15 15 15 15 15 15 from rfl,
    show mk8 a0 a1 a2 a3 a4 a5 a6 a7 / 16 + mk8 a0 a1 a2 a3 a4 a5 a6 a7 = mk8 (a0 / 16 + a0 + 16 * (a1 % 16)) (a1 / 16 + a1 + 16 * (a2 % 16)) (a2 / 16 + a2 + 16 * (a3 % 16)) (a3 / 16 + a3 + 16 * (a4 % 16)) (a4 / 16 + a4 + 16 * (a5 % 16)) (a5 / 16 + a5 + 16 * (a6 % 16)) (a6 / 16 + a6 + 16 * (a7 % 16)) (a7 / 16 + a7 + 16 * 0) from by unfold mk8; omega,
    and_mk8 15 (by omega) (by omega) (by omega) (by omega) (by omega) (by omega) (by omega) (by omega) (by omega),
    byte_and15 _ h0 _ h1.2, byte_and15 _ h1.1 _ h2.2, byte_and15 _ h2.1 _ h3.2, byte_and15 _ h3.1 _ h4.2, byte_and15 _ h4.1 _ h5.2, byte_and15 _ h5.1 _ h6.2, byte_and15 _ h6.1 _ h7.2, byte_and15 _ h7.1 _ (by omega)]
def by8 (x i : Nat) : Nat := x / 256 ^ i % 256
theorem by8_lt (x i : Nat) : by8 x i < 256 := Nat.mod_lt _ (by omega)
theorem mk_by8 {x : Nat} (h : x < 18446744073709551616) : x = mk8 (by8 x 0) (by8 x 1) (by8 x 2) (by8 x 3) (by8 x 4) (by8 x 5) (by8 x 6) (by8 x 7) := by
  unfold mk8 by8
  omega
theorem by8_bit (x i j : Nat) (hj : j < 8) : (by8 x i).testBit j = x.testBit (8 * i + j) := by
  unfold by8
  rw [show 256 ^ i = 2 ^ (8 * i) from by rw [Nat.pow_mul], show 256 = 2 ^ 8 from rfl, Nat.testBit_mod_two_pow, Nat.testBit_div_two_pow, decide_eq_true hj, Bool.true_and, Nat.add_comm]
theorem pop8_le : ∀ b, b < 256 → pop8 b ≤ 8 := by decide +kernel
/-- The first three steps leave each byte's count. -/
theorem swar {x : Nat} (h : x < 18446744073709551616) :
    ∃ p0 p1 p2 p3 p4 p5 p6 p7, sw3 (sw2 (sw1 x)) = mk8 p0 p1 p2 p3 p4 p5 p6 p7 ∧ p0 ≤ 8 ∧ p1 ≤ 8 ∧ p2 ≤ 8 ∧ p3 ≤ 8 ∧ p4 ≤ 8 ∧ p5 ≤ 8 ∧ p6 ≤ 8 ∧ p7 ≤ 8 ∧ p0 + p1 + p2 + p3 + p4 + p5 + p6 + p7 = cnt x.testBit 64 ∧
      sw1 x < 18446744073709551616 ∧ sw2 (sw1 x) / 16 + sw2 (sw1 x) < 18446744073709551616 ∧ sw2 (sw1 x) < 18446744073709551616 := by
  have hl := by8_lt x
  have hb := fun i => byte_low _ (hl i)
  have hp := fun i => pop8_le _ (hl i)
  have e1 : sw1 x = mk8 ((by8 x 0 / 2 &&& 85) + (by8 x 0 &&& 85)) ((by8 x 1 / 2 &&& 85) + (by8 x 1 &&& 85)) ((by8 x 2 / 2 &&& 85) + (by8 x 2 &&& 85)) ((by8 x 3 / 2 &&& 85) + (by8 x 3 &&& 85)) ((by8 x 4 / 2 &&& 85) + (by8 x 4 &&& 85)) ((by8 x 5 / 2 &&& 85) + (by8 x 5 &&& 85)) ((by8 x 6 / 2 &&& 85) + (by8 x 6 &&& 85)) ((by8 x 7 / 2 &&& 85) + (by8 x 7 &&& 85)) := by
    conv => lhs; rw [mk_by8 h]
    rw [sw1_mk (hl 0) (hl 1) (hl 2) (hl 3) (hl 4) (hl 5) (hl 6) (hl 7)]
  have e2 := congrArg sw2 e1
  rw [sw2_mk (hb 0).1 (hb 1).1 (hb 2).1 (hb 3).1 (hb 4).1 (hb 5).1 (hb 6).1 (hb 7).1] at e2
  have top : ∀ {a0 a1 a2 a3 a4 a5 a6 a7 : Nat}, a0 ≤ 68 → a1 ≤ 68 → a2 ≤ 68 → a3 ≤ 68 → a4 ≤ 68 → a5 ≤ 68 → a6 ≤ 68 → a7 ≤ 68 → mk8 a0 a1 a2 a3 a4 a5 a6 a7 < 10000000000000000000 := by
    intro a0 a1 a2 a3 a4 a5 a6 a7 _ _ _ _ _ _ _ _
    unfold mk8; omega
  have top1 : ∀ {a0 a1 a2 a3 a4 a5 a6 a7 : Nat}, a0 < 256 → a1 < 256 → a2 < 256 → a3 < 256 → a4 < 256 → a5 < 256 → a6 < 256 → a7 < 256 → mk8 a0 a1 a2 a3 a4 a5 a6 a7 < 18446744073709551616 := by
    intro a0 a1 a2 a3 a4 a5 a6 a7 _ _ _ _ _ _ _ _
    unfold mk8; omega
  have b1 : sw1 x < 18446744073709551616 := by rw [e1]; exact top1 (hb 0).1 (hb 1).1 (hb 2).1 (hb 3).1 (hb 4).1 (hb 5).1 (hb 6).1 (hb 7).1
  have b2 : sw2 (sw1 x) < 10000000000000000000 := by rw [e2]; exact top (hb 0).2.1 (hb 1).2.1 (hb 2).2.1 (hb 3).2.1 (hb 4).2.1 (hb 5).2.1 (hb 6).2.1 (hb 7).2.1
  have e : sw3 (sw2 (sw1 x)) = mk8 (pop8 (by8 x 0)) (pop8 (by8 x 1)) (pop8 (by8 x 2)) (pop8 (by8 x 3)) (pop8 (by8 x 4)) (pop8 (by8 x 5)) (pop8 (by8 x 6)) (pop8 (by8 x 7)) := by
    rw [e2, sw3_mk (hb 0).2.1 (hb 1).2 (hb 2).2 (hb 3).2 (hb 4).2 (hb 5).2 (hb 6).2 (hb 7).2]
    rfl
  refine ⟨_, _, _, _, _, _, _, _, e, hp 0, hp 1, hp 2, hp 3, hp 4, hp 5, hp 6, hp 7, ?_, b1, by omega, by omega⟩
  have c : ∀ i, pop8 (by8 x i) = cnt (fun j => x.testBit (8 * i + j)) 8 := fun i => by
    rw [pop8_cnt _ (hl i)]; exact cnt_congr fun j hj => by8_bit x i j hj
  rw [show 64 = 56 + 8 from rfl, cnt_add, show 56 = 48 + 8 from rfl, cnt_add, show 48 = 40 + 8 from rfl, cnt_add, show 40 = 32 + 8 from rfl, cnt_add, show 32 = 24 + 8 from rfl, cnt_add, show 24 = 16 + 8 from rfl, cnt_add, show 16 = 8 + 8 from rfl, cnt_add]
  rw [c, c, c, c, c, c, c, c]
  have z : cnt x.testBit 8 = cnt (fun j => x.testBit (8 * 0 + j)) 8 := cnt_congr fun j _ => by simp
  rw [z]
theorem mk8_div {a0 a1 a2 a3 a4 a5 a6 a7 : Nat} (h : a0 < 256) : mk8 a0 a1 a2 a3 a4 a5 a6 a7 / 256 = mk8 a1 a2 a3 a4 a5 a6 a7 0 := by
  unfold mk8
  generalize a1 + 256 * (a2 + 256 * (a3 + 256 * (a4 + 256 * (a5 + 256 * (a6 + 256 * a7))))) = r
  omega
theorem mk8_add {a0 a1 a2 a3 a4 a5 a6 a7 b0 b1 b2 b3 b4 b5 b6 b7 : Nat} : mk8 a0 a1 a2 a3 a4 a5 a6 a7 + mk8 b0 b1 b2 b3 b4 b5 b6 b7 = mk8 (a0 + b0) (a1 + b1) (a2 + b2) (a3 + b3) (a4 + b4) (a5 + b5) (a6 + b6) (a7 + b7) := by
  unfold mk8; omega
/-- The last steps add them up. -/
theorem swar_sum {p0 p1 p2 p3 p4 p5 p6 p7 u u4 u5 u6 : Nat} (hu : u = mk8 p0 p1 p2 p3 p4 p5 p6 p7) (h0 : p0 ≤ 8) (h1 : p1 ≤ 8) (h2 : p2 ≤ 8) (h3 : p3 ≤ 8) (h4 : p4 ≤ 8) (h5 : p5 ≤ 8) (h6 : p6 ≤ 8) (h7 : p7 ≤ 8)
    (e4 : u4 = u + u / 256) (e5 : u5 = u4 + u4 / 65536) (e6 : u6 = u5 + u5 / 4294967296) : u6 % 128 = p0 + p1 + p2 + p3 + p4 + p5 + p6 + p7 ∧ u < 18446744073709551616 ∧ u4 < 18446744073709551616 ∧ u5 < 18446744073709551616 ∧ u6 < 9223372036854775808 := by
  rw [hu, mk8_div (by omega), mk8_add] at e4
  rw [show 65536 = 256 * 256 from rfl, ← Nat.div_div_eq_div_mul, e4, mk8_div (by omega), mk8_div (by omega), mk8_add] at e5
  rw [show 4294967296 = 256 * 256 * 256 * 256 from rfl, ← Nat.div_div_eq_div_mul, ← Nat.div_div_eq_div_mul, ← Nat.div_div_eq_div_mul, e5, mk8_div (by omega), mk8_div (by omega), mk8_div (by omega), mk8_div (by omega), mk8_add] at e6
  have low : ∀ {a0 a1 a2 a3 a4 a5 a6 a7 : Nat}, a0 < 128 → a1 < 256 → a2 < 256 → a3 < 256 → a4 < 256 → a5 < 256 → a6 < 256 → a7 < 128 → mk8 a0 a1 a2 a3 a4 a5 a6 a7 % 128 = a0 ∧ mk8 a0 a1 a2 a3 a4 a5 a6 a7 < 9223372036854775808 := by
    intro a0 a1 a2 a3 a4 a5 a6 a7 _ _ _ _ _ _ _ _
    refine ⟨?_, by unfold mk8; omega⟩
    unfold mk8
    generalize a1 + 256 * (a2 + 256 * (a3 + 256 * (a4 + 256 * (a5 + 256 * (a6 + 256 * a7))))) = r
    omega
  rw [hu, e4, e5, e6]
  refine ⟨?_, Nat.lt_trans (low (by omega) (by omega) (by omega) (by omega) (by omega) (by omega) (by omega) (by omega)).2 (by omega), Nat.lt_trans (low (by omega) (by omega) (by omega) (by omega) (by omega) (by omega) (by omega) (by omega)).2 (by omega), Nat.lt_trans (low (by omega) (by omega) (by omega) (by omega) (by omega) (by omega) (by omega) (by omega)).2 (by omega), (low (by omega) (by omega) (by omega) (by omega) (by omega) (by omega) (by omega) (by omega)).2⟩
  rw [(low (by omega) (by omega) (by omega) (by omega) (by omega) (by omega) (by omega) (by omega)).1]
  omega

/-! ### The least one -/
theorem ctz_bit {x : Nat} (h0 : x ≠ 0) (h : x < 18446744073709551616) : Lib.ctz 64 x < 64 ∧ x.testBit (Lib.ctz 64 x) = true ∧ ∀ j, j < Lib.ctz 64 x → x.testBit j = false := by
  obtain ⟨m, hm, hk⟩ := Lib.ctzFrom_spec 64 x (by omega) h
  have e : Lib.ctz 64 x = Lib.ctzFrom 64 x := if_neg h0
  rw [e]
  generalize Lib.ctzFrom 64 x = k at hm hk
  subst hm
  refine ⟨hk, ?_, fun j hj => ?_⟩
  · rw [Nat.testBit_two_pow_mul]; simp
  · rw [Nat.testBit_two_pow_mul]; simp; omega
end Go.Proofs.YtldbfhgkicphkaaDoor.AlcBits
