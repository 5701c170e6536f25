/- The walk over eightTimes: eight bits' steps. -/
import Derived.Test.YtkiohneggoiipaaBytes
namespace Go.Proofs.Ytkiohneggoiipaa.Crc
open Go.RowKit CrcMath

theorem low_and {x : Nat} (hx : x < 4294967296) : bits BinOp.and IntKind.u32 (↑x) 1 = ((x % 2 : Nat) : Int) := by
  rw [show (1 : Int) = ((1 : Nat) : Int) from rfl, u32_and_nat x 1 hx (by omega), nat_mask1]
theorem L_odd {x : Nat} (hx : x < 4294967296) (h : (bits BinOp.and IntKind.u32 (↑x) 1 == 1) = true) : bits BinOp.xor IntKind.u32 (↑x / 2) 2197175160 = ((L x : Nat) : Int) := by
  rw [low_and hx] at h
  have h1 : x % 2 = 1 := by simp at h; omega
  rw [show (↑x / 2 : Int) = ((x / 2 : Nat) : Int) from by omega, show (2197175160 : Int) = ((2197175160 : Nat) : Int) from rfl, u32_xor_nat _ _ (by omega) (by omega)]
  simp [L, h1]
theorem L_even {x : Nat} (hx : x < 4294967296) (h : (bits BinOp.and IntKind.u32 (↑x) 1 == 1) = false) : (↑x / 2 : Int) = ((L x : Nat) : Int) := by
  rw [low_and hx] at h
  have h1 : ¬ x % 2 = 1 := by simp at h; omega
  simp [L, h1]

set_option maxHeartbeats 400000 in
theorem eight_any (x : Nat) (w : World) (hx : x < 4294967296) :
    Calls Try.prog 87 #[.int .u32 x] w fun e w' => e = .returned (.int .u32 (Lk 8 x : Nat)) ∧ w' = w := by
  go_enter Try.func87, Try.ntmps87
  go_wp2
  go_loop [0, 4] (fun n i => ∃ k : Nat, k ≤ 8 ∧ i = .int .i64 k ∧ n = .int .u32 (Lk k x : Nat)) (fun _ i => 8 - (intOf i).toNat)
  case atStart => exact ⟨0, by omega, rfl, rfl⟩
  case round =>
    obtain ⟨k, hk, rfl, rfl⟩ := hrel
    have hb := Lk_lt hx k
    have ho := L_odd hb
    have he := L_even hb
    have HO := Lib.hid ho; have HE := Lib.hid he; clear ho he
    go_wp2
    · have h1 := HO.out (by assumption)
      go_round
      case rel => exact ⟨k + 1, by omega, by go_num, by rw [h1]; rfl⟩
      case measure => simp [intOf]; omega
    · have h1 := HE.out (by assumption)
      go_round
      case rel => exact ⟨k + 1, by omega, by go_num, by rw [h1]; rfl⟩
      case measure => simp [intOf]; omega
    · obtain rfl : k = 8 := by omega
      go_ret
      exact ⟨rfl, rfl⟩
end Go.Proofs.Ytkiohneggoiipaa.Crc
