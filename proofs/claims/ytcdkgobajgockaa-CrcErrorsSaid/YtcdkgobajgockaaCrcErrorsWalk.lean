/- The walk over the law CrcErrors, by the contracts of what it calls. -/
import Derived.Test.YtcdkgobajgockaaCrcBytes
import Derived.Test.YtcdkgobajgockaaCrcBurst
import Derived.WalkLawsBesides
import Derived.Deep.RegionLaw
import Derived.Deep.DeepCutAuto
namespace Go.Proofs.Ytcdkgobajgockaa.CrcErrors
open Go.ChangeShapes Go.WideShapes Go.ChangeAt Go.RowKit
open Crc CrcMath Mem

theorem bit_of (c k : Nat) : ((c : Int) / 2 ^ k).tmod 2 = ((c / 2 ^ k % 2 : Nat) : Int) := by
  have e : ((c : Int) / 2 ^ k) = ((c / 2 ^ k : Nat) : Int) := by simp
  rw [e]
  generalize c / 2 ^ k = m
  rw [Int.tmod_eq_emod_of_nonneg (by omega)]
  omega
theorem flip_u8 {y n : Nat} (hy : y < 256) : bits BinOp.xor IntKind.u8 (y : Int) (2 ^ (n % 8) % 256) = ((y ^^^ 2 ^ (n % 8) : Nat) : Int) := by
  have hp : 2 ^ (n % 8) < 256 := Nat.pow_lt_pow_right (a := 2) (m := n % 8) (n := 8) (by omega) (by omega)
  have e : ((2 : Int) ^ (n % 8) % 256) = ((2 ^ (n % 8) : Nat) : Int) := by
    rw [show ((2 : Int) ^ (n % 8)) = ((2 ^ (n % 8) : Nat) : Int) from by simp]
    generalize 2 ^ (n % 8) = p at hp ⊢
    omega
  rw [e, u8_xor_nat _ _ hy hp]

set_option maxRecDepth 100000 in
set_option maxHeartbeats 1600000 in
theorem walk {H : Type} {enc : TypeId × Value → H} (W : World) (base : Nat) (v0 v1 v2 : Value) (d0 d1 d2 : DataW H) (p0 p1 p2 : List MemPlace)
    (o0 : Value.okWide Try.prog W .any base 22 v0)
    (o1 : Value.okWide Try.prog W .any base 3 v1)
    (o2 : Value.okWide Try.prog W .any base 23 v2)
    (h0 : DataW.Trod enc Try.prog W 0 (fun _ => true) true 22 v0 d0 p0)
    (h1 : DataW.Trod enc Try.prog W 0 (fun _ => true) true 3 v1 d1 p1)
    (h2 : DataW.Trod enc Try.prog W 0 (fun _ => true) true 23 v2 d2 p2)
    (hsz : (DataW.weightsEach Try.prog [22, 3, 23] [d0, d1, d2]).all (· ≤ reachBytes) = true) :
    Calls Try.prog 5 #[v0, v1, v2] W fun e W' => e = .returned (.bool true) ∧ Below W.heap.size W W' := by
  obtain ⟨A0, len0, cap0, l, rfl, hl, hlc0, hcap0, _⟩ := open_bytes o0 h0 hsz (j := 0) rfl rfl
  obtain ⟨a1, rfl, rfl, rfl, w1⟩ := open_int Try.underlying3 o1 h1
  obtain ⟨a2, rfl, rfl, rfl, w2⟩ := open_int Try.underlying23 o2 h2
  have hs : 0 ≤ a2 ∧ a2 ≤ 4294967295 := by simpa [Lit.wf, IntKind.min, IntKind.max, IntKind.signed, IntKind.bits] using w2
  have hat : -9223372036854775808 ≤ a1 ∧ a1 ≤ 9223372036854775807 := by simpa [Lit.wf, IntKind.min, IntKind.max, IntKind.signed, IntKind.bits] using w1
  obtain ⟨c, rfl⟩ := Int.eq_ofNat_of_zero_le hs.1
  have hc : c < 4294967296 := by omega
  clear o0 h0 o1 h1 o2 h2 hsz w1 w2 hs
  have HL := Lib.hid hl; clear hl
  have hT : Tab (W.alloc (.cells zeroCs 46)) W.heap.size := .inl ⟨_, Blk.new _ _ _, fresh_zero⟩
  have hga : W.grownBy (W.alloc (.cells zeroCs 46)) (some W.heap.size) := World.grownBy_alloc W (.cells zeroCs 46) _
  have HT := Lib.hid hT; clear hT
  have HGA := Lib.hid hga; clear hga
  obtain ⟨i0, hi0, hz0, hz1, hz2⟩ := info_parts byte_info
  have hi := Lib.hid hi0; have z0 := Lib.hid hz0; have z1 := Lib.hid hz1; have z2 := Lib.hid hz2; clear hi0 hz0 hz1 hz2
  have hbl := below_of_grown HGA.out (Nat.le_refl _) (fun k hk => by cases hk; exact Nat.le_refl _)
  have HBL := Lib.hid hbl; clear hbl
  by_cases hq0 : len0 = 0
  · subst hq0
    have h1 : ((0 : Int) == 0) = true := rfl
    go_enter Try.func5, Try.ntmps5
    go_wp2_with fail
    refine (new_any _).mono ?_
    rintro e wa ⟨rfl, rfl⟩
    go_wp2_with fail
    refine (known_any _ _ HT.out (by simp)).mono ?_
    rintro e wb ⟨rfl, hgb, hrb⟩
    clear hrb
    have HB := Lib.hid (HBL.out.trans (below_of_grown hgb (B := W.heap.size) (by simp) (fun k hk => by cases hk; exact Nat.le_refl _)))
    clear hgb
    go_wp2
    go_ret
    exact ⟨rfl, HB.out⟩
  by_cases hq1 : c = 0
  · subst hq1
    have h1 : ((0 : Int) == 0) = true := rfl
    have h2 : ((len0 : Int) == 0) = false := by simp; omega
    go_enter Try.func5, Try.ntmps5
    go_wp2_with fail
    refine (new_any _).mono ?_
    rintro e wa ⟨rfl, rfl⟩
    go_wp2_with fail
    refine (known_any _ _ HT.out (by simp)).mono ?_
    rintro e wb ⟨rfl, hgb, hrb⟩
    clear hrb
    have HB := Lib.hid (HBL.out.trans (below_of_grown hgb (B := W.heap.size) (by simp) (fun k hk => by cases hk; exact Nat.le_refl _)))
    clear hgb
    go_wp2
    go_ret
    exact ⟨rfl, HB.out⟩
  have h1 : ((c : Int) == 0) = false := by simp; omega
  have h2 : ((len0 : Int) == 0) = false := by simp; omega
  go_enter Try.func5, Try.ntmps5
  go_wp2_with fail
  refine (new_any _).mono ?_
  rintro e wa ⟨rfl, rfl⟩
  go_wp2_with fail
  refine (known_any _ _ HT.out (by simp)).mono ?_
  rintro e wb ⟨rfl, hgb, hrb⟩
  have HG := Lib.hid (HGA.out.trans hgb)
  have HLb := Lib.hid (HL.out.keep HG.out)
  have HRb := Lib.hid hrb; clear hrb
  have hszb : W.heap.size < wb.heap.size := by have := hgb.size; simp at this; omega
  clear hgb
  go_upto_if 33 with
    (at_builtin
     refine wpList_append_any _ rfl (.tmp 24) (.tmp 25) _ rfl wb.heap.size 5 i0 _ 1 1 Try.underlying22 hi.out z0.out z1.out z2.out rfl (by omega) (.slice none 0 0) 0 [] rfl
       ⟨by simp, .inl ⟨rfl, rfl⟩⟩ _ A0 len0 cap0 (u8s l) rfl HLb.out.reads (u8s_one l) (by simp only [maxLen]; omega) (by omega) (Nat.le_refl _) ?_
     intro v1 w1 hown1 hg1 hat1
     have HO1 := Lib.hid hown1; have HG1 := Lib.hid hg1; have HA1 := Lib.hid hat1
     clear hown1 hg1 hat1)
  go_cut [9] (fun s9 wx => ∃ bit : Nat, bit < 8 * len0 ∧ s9 = .int .i64 bit ∧ wx = w1)
  case first =>
    have ht1 := Int.tmod_lt_of_pos a1 (show (0 : Int) < 8 * (len0 : Int) by omega)
    have ht2 := Int.lt_tmod_of_pos a1 (show (0 : Int) < 8 * (len0 : Int) by omega)
    generalize a1.tmod (8 * (len0 : Int)) = t at *
    by_cases ht : t < 0
    · go_wp2_with fail
      go_meet
      exact ⟨(t + 8 * (len0 : Int)).toNat, by omega, by rw [Int.toNat_of_nonneg (by omega)], rfl⟩
    · go_wp2_with fail
      go_meet
      exact ⟨t.toNat, by omega, by rw [Int.toNat_of_nonneg (by omega)], rfl⟩
  case rest =>
    obtain ⟨bit, hbit, rfl, rfl⟩ := hcut
    obtain ⟨g, cap, hv, hgb, hrow, hcap⟩ := row_of_own HO1.out (by omega)
    simp only [Nat.zero_add] at hv hrow hcap
    subst hv
    have HROW := Lib.hid hrow; clear hrow
    have hlt := HLb.out.lt
    have HLT := Lib.hid hlt; clear hlt
    have hll := HLb.out.len
    have HLL := Lib.hid hll; clear hll
    go_wp2_with fail
    go_loopw [10, 11] (fun t i wr => ∃ (k : Nat) (tb : Bool) (ys : List Nat), k ≤ 32 ∧ i = .int .i64 k ∧ t = .bool tb ∧ wc.grownBy wr (some g) ∧ Row wr g len0 ys ∧ Turned l bit c k ys tb) (fun _ i _ => 32 - (intOf i).toNat)
    case atStart => exact ⟨0, false, l, by omega, rfl, rfl, World.grownBy.refl _ _, HROW.out, Turned.start l bit c HLT.out⟩
    case round =>
      obtain ⟨k, tb, ys, hk, rfl, rfl, hg, hr, ht⟩ := hrel
      have HG2 := Lib.hid hg; have HR := Lib.hid hr; have HTU := Lib.hid ht; clear hg hr ht
      by_cases hk32 : k < 32
      · by_cases hb : bit + k < 8 * len0
        · have ht2 := bit_of c k
          obtain ⟨n, hn⟩ : ∃ n : Nat, n = bit + k := ⟨_, rfl⟩
          have hnk : (bit : Int) + k = n := by omega
          have hb' : (n : Int) < 8 * len0 := by omega
          have hn0 : (0 : Int) ≤ n := by omega
          have HN := Lib.hid hn; clear hn
          by_cases hbit1 : c / 2 ^ k % 2 = 1
          · rw [hbit1] at ht2
            have hq : n / 8 < len0 := by omega
            have hcell := HR.out.cell (n / 8) hq
            have hfro := HR.out.frozen (n / 8)
            have HB1 := Lib.hid hbit1; clear hbit1
            go_wp2_with fail
            go_region
            go_wp2_with fail
            have htn := HTU.out.turn (by rw [HLL.out]; omega) HB1.out
            rw [← HN.out] at htn
            have hfl := flip_u8 (n := n) (getD_lt HTU.out.2.1 (n / 8))
            simp only [List.getD_eq_getElem?_getD] at hfl htn
            rw [hfl]
            go_roundw
            case rel => exact ⟨k + 1, true, _, by omega, by go_num, rfl, only_drew (only_set HG2.out _ _), (HR.out.set_ hq _).drew, htn⟩
            case measure => simp [intOf]; omega
          · rw [show c / 2 ^ k % 2 = 0 from by generalize c / 2 ^ k = m at *; omega] at ht2
            have HB1 := Lib.hid hbit1; clear hbit1
            go_wp2_with fail
            go_roundw
            case rel => exact ⟨k + 1, tb, ys, by omega, by go_num, rfl, HG2.out, HR.out, HTU.out.same HB1.out⟩
            case measure => simp [intOf]; omega
        · have hb' : ¬ (bit : Int) + k < 8 * len0 := by omega
          go_wp2_with fail
          go_roundw
          case rel => exact ⟨k + 1, tb, ys, by omega, by go_num, rfl, HG2.out, HR.out, HTU.out.past (by rw [HLL.out]; exact hb)⟩
          case measure => simp [intOf]; omega
      · obtain rfl : k = 32 := by omega
        have hrg : ∀ j, (Value.slice (some ⟨g, 0, none⟩) len0 cap).ownBlock = some j → wb.heap.size ≤ j := by intro j hj; simp [Value.ownBlock] at hj; omega
        have hgw : wb.grownBy wr (some W.heap.size) := grownBy_new (grown_any HG1.out _) HG2.out (fun j hj => by cases hj; exact hgb)
        have HRw := Lib.hid ((HRb.out.keep HG1.out (by simp [Value.ownBlock])).keep HG2.out (fun e => by cases e; omega))
        have HLw := Lib.hid (HLb.out.keep hgw)
        have HOw := Lib.hid (HR.out.bytes (b := W.heap.size) (by omega) HTU.out.2.1)
        have HBE := Lib.hid (below_of_grown (HG.out.trans hgw) (Nat.le_refl _) (fun j hj => by cases hj; exact Nat.le_refl _))
        clear hgw hrg
        cases tb with
        | false =>
          go_wp2
          go_ret
          exact ⟨rfl, HBE.out⟩
        | true =>
          have hne := HTU.out.unlike HLT.out
          have hne' : (((M 0 l : Nat) : Int) != ((M 0 ys : Nat) : Int)) = true := by simp; omega
          have HNE := Lib.hid hne'; clear hne hne'
          go_wp2_with fail
          refine (sum_ready _ _ _ _ l _ HRw.out HLw.out (by omega)).mono ?_
          rintro e we ⟨rfl, hw⟩
          subst hw
          go_wp2_with fail
          refine (sum_ready _ _ _ _ ys _ HRw.out HOw.out (by omega)).mono ?_
          rintro e we ⟨rfl, hw⟩
          subst hw
          have hne := HNE.out
          go_wp2
          go_ret
          exact ⟨rfl, HBE.out⟩
end Go.Proofs.Ytcdkgobajgockaa.CrcErrors
