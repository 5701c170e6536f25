/- math/bits' OnesCount64 and TrailingZeros64, and a page's own bit: what they answer. -/
import Derived.Test.YtldbfhgkicphkaaDoorChecked
import Derived.Test.YtldbfhgkicphkaaDoorMem
import Derived.Test.YtldbfhgkicphkaaDoorAlcBits
import Derived.WalkKit
import Derived.Lib.Hide
import Derived.Laws.BitsAllLaws
namespace Go.Proofs.YtldbfhgkicphkaaDoor.Alc
open Go.RowKit Mem AlcBits
set_option linter.unusedSimpArgs false

theorem wrap_u64n {n : Nat} (h : n < 18446744073709551616) : IntKind.u64.wrap (n : Int) = (n : Int) := by rw [IntKind.wrap_u64]; omega
theorem wrap_i64n {n : Nat} (h : n < 9223372036854775808) : IntKind.i64.wrap (n : Int) = (n : Int) := by
  simp only [IntKind.wrap, IntKind.bits, IntKind.signed]
  simp
  omega

set_option maxHeartbeats 1000000 in
theorem bit_call (p : Nat) (w : World) :
    Calls Tryd.prog 39 #[.int .i64 p] w fun e w' => e = .returned (.int .u64 ((2 ^ (p % 64) : Nat) : Int)) ∧ w' = w := by
  have h : IntKind.u64.wrap (2 ^ (p % 64)) = ((2 ^ (p % 64) : Nat) : Int) := by
    rw [show ((2 : Int) ^ (p % 64)) = ((2 ^ (p % 64) : Nat) : Int) by simp]
    exact wrap_u64n (bit_lt p)
  go_enter Tryd.func39, Tryd.ntmps39
  go_wp2
  go_ret
  exact ⟨by rw [← h]; rfl, rfl⟩
theorem and_i64_low {n : Nat} (h : n < 9223372036854775808) : bits .and .i64 (n : Int) 127 = ((n % 128 : Nat) : Int) := by
  have h1 : (BitVec.ofInt 64 (n : Int)).toNat = n := by
    rw [BitVec.ofInt_natCast, BitVec.toNat_ofNat]; exact Nat.mod_eq_of_lt (by omega)
  have h2 : (BitVec.ofInt 64 (127 : Int)).toNat = 127 := by decide
  show IntKind.i64.wrap ((BitVec.ofInt 64 (n : Int) &&& BitVec.ofInt 64 (127 : Int)).toNat : Int) = _
  rw [BitVec.toNat_and, h1, h2, show n &&& 127 = n % 128 from Nat.and_two_pow_sub_one_eq_mod n 7]
  exact wrap_i64n (by omega)
theorem ones_eq {x : Nat} (hx : x < 18446744073709551616) : ∃ y z u u4 u5 u6 : Nat,
    IntKind.u64.wrap (bits .and .u64 ((x : Int) / 2) 6148914691236517205 + bits .and .u64 (x : Int) 6148914691236517205) = (y : Int) ∧
    IntKind.u64.wrap (bits .and .u64 ((y : Int) / 4) 3689348814741910323 + bits .and .u64 (y : Int) 3689348814741910323) = (z : Int) ∧
    bits .and .u64 (IntKind.u64.wrap ((z : Int) / 16 + (z : Int))) 1085102592571150095 = (u : Int) ∧
    IntKind.u64.wrap ((u : Int) + (u : Int) / 256) = (u4 : Int) ∧ IntKind.u64.wrap ((u4 : Int) + (u4 : Int) / 65536) = (u5 : Int) ∧ IntKind.u64.wrap ((u5 : Int) + (u5 : Int) / 4294967296) = (u6 : Int) ∧
    IntKind.i64.wrap (u6 : Int) = (u6 : Int) ∧ bits .and .i64 (u6 : Int) 127 = ((cnt x.testBit 64 : Nat) : Int) := by
  obtain ⟨p0, p1, p2, p3, p4, p5, p6, p7, e, h0, h1, h2, h3, h4, h5, h6, h7, hs, b1, b2, b3⟩ := swar hx
  obtain ⟨u, eu⟩ : ∃ u, u = sw3 (sw2 (sw1 x)) := ⟨_, rfl⟩
  obtain ⟨u4, e4⟩ : ∃ u4, u4 = u + u / 256 := ⟨_, rfl⟩
  obtain ⟨u5, e5⟩ : ∃ u5, u5 = u4 + u4 / 65536 := ⟨_, rfl⟩
  obtain ⟨u6, e6⟩ : ∃ u6, u6 = u5 + u5 / 4294967296 := ⟨_, rfl⟩
  obtain ⟨hsum, c1, c2, c3, c4⟩ := swar_sum (eu.trans e) h0 h1 h2 h3 h4 h5 h6 h7 e4 e5 e6
  refine ⟨sw1 x, sw2 (sw1 x), u, u4, u5, u6, ?_, ?_, ?_, ?_, ?_, ?_, wrap_i64n c4, ?_⟩
  · rw [show (x : Int) / 2 = ((x / 2 : Nat) : Int) from by omega, show (6148914691236517205 : Int) = ((6148914691236517205 : Nat) : Int) from rfl, u64_and_nat _ _ (by omega) (by omega), u64_and_nat _ _ hx (by omega)]
    exact wrap_u64n b1
  · generalize sw1 x = y at b1 b2 b3 ⊢
    rw [show (y : Int) / 4 = ((y / 4 : Nat) : Int) from by omega, show (3689348814741910323 : Int) = ((3689348814741910323 : Nat) : Int) from rfl, u64_and_nat _ _ (by omega) (by omega), u64_and_nat _ _ b1 (by omega)]
    exact wrap_u64n b3
  · generalize sw2 (sw1 x) = z at b2 b3 eu ⊢
    rw [show (z : Int) / 16 + (z : Int) = ((z / 16 + z : Nat) : Int) from by omega, wrap_u64n b2, show (1085102592571150095 : Int) = ((1085102592571150095 : Nat) : Int) from rfl, u64_and_nat _ _ b2 (by omega)]
    exact congrArg Nat.cast eu.symm
  · rw [show (u : Int) + (u : Int) / 256 = ((u4 : Nat) : Int) from by omega]; exact wrap_u64n c2
  · rw [show (u4 : Int) + (u4 : Int) / 65536 = ((u5 : Nat) : Int) from by omega]; exact wrap_u64n c3
  · rw [show (u5 : Int) + (u5 : Int) / 4294967296 = ((u6 : Nat) : Int) from by omega]; exact wrap_u64n (by omega)
  · rw [and_i64_low c4, hsum, hs]
set_option maxHeartbeats 1000000 in
theorem ones_call (x : Nat) (w : World) (hx : x < 18446744073709551616) :
    Calls Tryd.prog 41 #[.int .u64 x] w fun e w' => e = .returned (.int .i64 ((cnt x.testBit 64 : Nat) : Int)) ∧ w' = w := by
  obtain ⟨y, z, u, u4, u5, u6, k1, k2, k3, k4, k5, k6, k7, k8⟩ := ones_eq hx
  generalize ((cnt x.testBit 64 : Nat) : Int) = r at k8 ⊢
  go_enter Tryd.func41, Tryd.ntmps41
  go_wp2_with (simp only [k1, k2, k3, k4, k5, k6, k7, k8])
  all_goals go_ret
  all_goals simp only [k1, k2, k3, k4, k5, k6, k7, k8]
  all_goals exact ⟨rfl, trivial⟩

/-- The library's table in its variable. -/
def Tab (w : World) : Prop := ∀ j, j < 64 → w.cell? ⟨0, j, none⟩ = some (.int .u8 (Lib.deBruijn64tab.getD j 0))
theorem tz_key (x a : Nat) (hx : x < 18446744073709551616) (hx0 : x ≠ 0) (hlow : x &&& (18446744073709551616 - x) = a) :
    IntKind.u64.wrap (bits BinOp.and IntKind.u64 (x : Int) (IntKind.u64.wrap (-(x : Int))) * 285870213051353865) / 288230376151711744 = ((a * 285870213051353865 % 18446744073709551616 / 288230376151711744 : Nat) : Int) := by
  have e1 : IntKind.u64.wrap (-(x : Int)) = ((18446744073709551616 - x : Nat) : Int) := by rw [IntKind.wrap_u64]; omega
  rw [e1, u64_and_nat x _ hx (by omega), hlow, IntKind.wrap_u64]
  omega
set_option maxHeartbeats 1000000 in
theorem tz_core (x k idx : Nat) (w : World) (hx0 : ((x : Int) == 0) = false)
    (key : IntKind.u64.wrap (bits BinOp.and IntKind.u64 (x : Int) (IntKind.u64.wrap (-(x : Int))) * 285870213051353865) / 288230376151711744 = (idx : Int))
    (hi : idx < 64) (hk : k < 64) (hcell : w.cell? ⟨0, idx, none⟩ = some (.int .u8 k)) :
    Calls Tryd.prog 42 #[.int .u64 x] w fun e w' => e = .returned (.int .i64 k) ∧ w' = w := by
  go_enter Tryd.func42, Tryd.ntmps42
  go_wp2_with (simp only [key])
  go_ret
  exact ⟨rfl, rfl⟩
theorem tz_call (x : Nat) (w : World) (hx : x < 18446744073709551616) (hx0 : x ≠ 0) (hT : Tab w) :
    Calls Tryd.prog 42 #[.int .u64 x] w fun e w' => e = .returned (.int .i64 ((Lib.ctz 64 x : Nat) : Int)) ∧ w' = w := by
  obtain ⟨hlow, hk⟩ := Lib.lowest_bit 64 x hx0 hx
  obtain ⟨hi, htab⟩ := Lib.deBruijn64_at _ hk
  have hcell := hT _ hi
  rw [htab] at hcell
  exact tz_core x _ _ w (by simp; omega) (tz_key x _ hx hx0 hlow) hi hk hcell
end Go.Proofs.YtldbfhgkicphkaaDoor.Alc
