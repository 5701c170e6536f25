/- The walks over the document's own answer, bit by bit. -/
import Derived.Test.YtkiohneggoiipaaBytes
namespace Go.Proofs.Ytkiohneggoiipaa.Crc
open Go.RowKit CrcMath Mem

theorem L_odd' {x : Nat} (hx : x < 4294967296) (h : ((x : Int) % 2 == 1) = true) : bits BinOp.xor IntKind.u32 (↑x / 2) 2197175160 = ((L x : Nat) : Int) := by
  have h1 : x % 2 = 1 := by simp at h; omega
  rw [show (↑x / 2 : Int) = ((x / 2 : Nat) : Int) from by omega, show (2197175160 : Int) = ((2197175160 : Nat) : Int) from rfl, u32_xor_nat _ _ (by omega) (by omega)]
  simp [L, h1]
theorem L_even' {x : Nat} (h : ((x : Int) % 2 == 1) = false) : (↑x / 2 : Int) = ((L x : Nat) : Int) := by
  have h1 : ¬ x % 2 = 1 := by simp at h; omega
  simp [L, h1]
theorem xor_u32 {x y : Nat} (hx : x < 4294967296) (hy : y < 256) : bits BinOp.xor IntKind.u32 (x : Int) (y : Int) = ((x ^^^ y : Nat) : Int) := u32_xor_nat _ _ hx (by omega)

set_option maxRecDepth 100000 in
set_option maxHeartbeats 800000 in
theorem ref_more (b : Nat) (s : Nat) (A : Option Addr) (n c : Nat) (l : List Nat) (w : World) (hs : s < 4294967296) (hl : Bytes w b A n l) (hn : n ≤ 9223372036854775807) :
    Calls Try.prog 84 #[.int .u32 s, .slice A n c] w fun e w' => e = .returned (.int .u32 (M s l : Nat)) ∧ w = w' := by
  have hfl := flip_u32 hs
  have hM : M s l = 4294967295 - C (4294967295 - s) l := rfl
  have HM := Lib.hid hM; clear hM
  generalize hs' : 4294967295 - s = s' at *
  have hs'l : s' < 4294967296 := by omega
  clear hs'
  obtain ⟨hlen, hby, hcell⟩ := hl
  have HC := Lib.hid hcell; have HLEN := Lib.hid hlen; clear hcell hlen
  go_enter Try.func84, Try.ntmps84
  go_wp2
  go_loop [5, 6] (fun v i => ∃ k : Nat, k ≤ n ∧ i = .int .i64 k ∧ v = .int .u32 (C s' (l.take k) : Nat)) (fun _ i => n - (intOf i).toNat)
  case atStart => exact ⟨0, by omega, rfl, by simp [C]⟩
  case round =>
    obtain ⟨k, hk, rfl, rfl⟩ := hrel
    have hxl := C_lt (l.take k) hs'l (fun x hx' => hby x (List.mem_of_mem_take hx'))
    by_cases hlt : k < n
    · obtain ⟨g, o, rfl, _, _, hc⟩ := HC.out (by omega)
      have hck := hc k hlt
      clear hc
      have hyl := getD_lt hby k
      have hsn : C s' (l.take (k + 1)) = Lk 8 (C s' (l.take k) ^^^ l.getD k 0) := by rw [take_getD l k (by rw [HLEN.out]; exact hlt), C_snoc]; rfl
      have HSN := Lib.hid hsn; clear hsn
      generalize hx : C s' (l.take k) = x at *
      generalize hy : l.getD k 0 = y at *
      clear hx hy hfl
      have h32 := xor_u32 hxl hyl
      have hzl : x ^^^ y < 4294967296 := Nat.xor_lt_two_pow (n := 32) hxl (by omega)
      generalize hz : x ^^^ y = z at *
      clear hz
      go_wp2
      go_loop [5, 7] (fun v i => ∃ j : Nat, j ≤ 8 ∧ i = .int .i64 j ∧ v = .int .u32 (Lk j z : Nat)) (fun _ i => 8 - (intOf i).toNat)
      case atStart => exact ⟨0, by omega, rfl, rfl⟩
      case round =>
        obtain ⟨j, hj, rfl, rfl⟩ := hrel
        have hb := Lk_lt hzl j
        have HO := Lib.hid (L_odd' hb); have HE := Lib.hid (@L_even' (Lk j z))
        have hp : (0 : Int) ≤ (Lk j z : Nat) := by omega
        go_wp2
        · have h1 := HO.out (by assumption)
          go_round
          case rel => exact ⟨j + 1, by omega, by go_num, by rw [h1]; rfl⟩
          case measure => simp [intOf]; omega
        · have h1 := HE.out (by assumption)
          go_round
          case rel => exact ⟨j + 1, by omega, by go_num, by rw [h1]; rfl⟩
          case measure => simp [intOf]; omega
        · obtain rfl : j = 8 := by omega
          go_round
          case rel => exact ⟨k + 1, by omega, by go_num, by rw [HSN.out]⟩
          case measure => simp [intOf]; omega
    · obtain rfl : k = n := by omega
      have htk : l.take k = l := List.take_of_length_le (by rw [HLEN.out]; exact Nat.le_refl _)
      rw [htk] at hxl
      have hf2 := flip_u32 hxl
      clear hfl
      go_wp2
      go_ret
      exact ⟨ret_int (by rw [HM.out]), rfl⟩

theorem ref_sum (b : Nat) (A : Option Addr) (n c : Nat) (l : List Nat) (w : World) (hl : Bytes w b A n l) (hn : n ≤ 9223372036854775807) :
    Calls Try.prog 81 #[.slice A n c] w fun e w' => e = .returned (.int .u32 (M 0 l : Nat)) ∧ w = w' := by
  have HL := Lib.hid hl; clear hl
  go_enter Try.func81, Try.ntmps81
  go_wp2_with (go_at_call 84; refine (ref_more b 0 A n c l _ (by omega) HL.out hn).mono ?_; rintro e w1 ⟨rfl, rfl⟩)
  go_ret
  exact ⟨rfl, rfl⟩
end Go.Proofs.Ytkiohneggoiipaa.Crc
