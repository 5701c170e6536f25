/- The walk over the law's own function that turns up to 32 bits: spoilt. -/
import Derived.Test.YtkiohneggoiipaaFrameSum
import Derived.Test.YtkiohneggoiipaaCodecSuperWalk
import Derived.WalkLawsBesides
import Derived.Deep.RegionLaw
import Derived.Deep.DeepCutAuto
namespace Go.Proofs.Ytkiohneggoiipaa.Codec
open Go.RowKit CrcMath CodecMath Mem Crc

theorem bit_of (c k : Nat) : ((c : Int) / 2 ^ k).tmod 2 = ((c / 2 ^ k % 2 : Nat) : Int) := by
  have e : ((c : Int) / 2 ^ k) = ((c / 2 ^ k : Nat) : Int) := by simp
  rw [e]
  generalize c / 2 ^ k = m
  rw [Int.tmod_eq_emod_of_nonneg (by omega)]
  omega
theorem flip_u8 {y n : Nat} (hy : y < 256) : bits BinOp.xor IntKind.u8 (y : Int) (2 ^ (n % 8) % 256) = ((y ^^^ 2 ^ (n % 8) : Nat) : Int) := by
  have hp : 2 ^ (n % 8) < 256 := Nat.pow_lt_pow_right (a := 2) (m := n % 8) (n := 8) (by omega) (by omega)
  have e : ((2 : Int) ^ (n % 8) % 256) = ((2 ^ (n % 8) : Nat) : Int) := by
    rw [show ((2 : Int) ^ (n % 8)) = ((2 ^ (n % 8) : Nat) : Int) from by simp]
    generalize 2 ^ (n % 8) = p at hp ⊢
    omega
  rw [e, u8_xor_nat _ _ hy hp]
/-- What spoilt leaves: a new row, with up to 32 bits turned from a bit on; whether some were. -/
def Spoilt (w : World) (b : Nat) (l : List Nat) (e : Ending) (w' : World) : Prop :=
  w.grownBy w' none ∧ ∃ A cp ys t, e = .returned (.tuple #[.slice A l.length cp, .bool t]) ∧ Bytes w' b A l.length ys ∧ (t = true → ∃ bit c, Turned l bit c 32 ys true ∧ Outside l bit ys)
set_option maxRecDepth 100000 in
set_option maxHeartbeats 1600000 in
theorem spoilt_any (b : Nat) (A : Option Addr) (n cp : Nat) (l : List Nat) (a1 : Int) (c : Nat) (w : World) (hl : Bytes w b A n l) (hb : b < w.heap.size) (hn : n ≤ 4096) :
    Calls Try.prog 50 #[.slice A n cp, .int .i64 a1, .int .u32 (c : Nat)] w (Spoilt w b l) := by
  obtain ⟨i0, hi0, hz0, hz1, hz2⟩ := info_parts byte_info
  have hi := Lib.hid hi0; have z0 := Lib.hid hz0; have z1 := Lib.hid hz1; have z2 := Lib.hid hz2; clear hi0 hz0 hz1 hz2
  have hlen := hl.1
  have HLT := Lib.hid hl.2.1; have HL := Lib.hid hl; have HLEN := Lib.hid hlen
  clear hl hlen
  by_cases h0 : n = 0
  · subst h0
    obtain rfl : l = [] := List.eq_nil_of_length_eq_zero HLEN.out
    have h2 : ((0 : Int) == 0) = true := rfl
    go_enter Try.func50, Try.ntmps50
    go_wp2_with
      (at_builtin
       refine wpList_append_any _ rfl (.tmp 13) (.tmp 14) _ rfl w.heap.size 5 i0 _ 1 1 Try.underlying27 hi.out z0.out z1.out z2.out rfl (by omega) (.slice none 0 0) 0 [] rfl
         ⟨by simp, .inl ⟨rfl, rfl⟩⟩ _ A 0 cp (u8s []) rfl HL.out.reads (u8s_one []) (by simp only [maxLen]; omega) (by omega) (Nat.le_refl _) ?_
       intro v1 w1 hown1 hg1 hat1
       have HO1 := Lib.hid hown1; have HG1 := Lib.hid (grown_none_of_size hg1 (fun j hj => by simp [Value.ownBlock] at hj)); clear hown1 hg1 hat1)
    obtain ⟨A1, c1, rfl, hb1⟩ := bytes_of_own (b := b) HO1.out (fun e => by have := own_base HO1.out b e; omega) (by simp)
    go_ret2
    exact ⟨HG1.out, A1, c1, [], false, rfl, hb1, fun h => by cases h⟩
  have h2 : ((n : Int) == 0) = false := by simp; omega
  go_enter Try.func50, Try.ntmps50
  go_upto_if 26 with
    (at_builtin
     refine wpList_append_any _ rfl (.tmp 13) (.tmp 14) _ rfl w.heap.size 5 i0 _ 1 1 Try.underlying27 hi.out z0.out z1.out z2.out rfl (by omega) (.slice none 0 0) 0 [] rfl
       ⟨by simp, .inl ⟨rfl, rfl⟩⟩ _ A n cp (u8s l) rfl HL.out.reads (u8s_one l) (by simp only [maxLen]; omega) (by omega) (Nat.le_refl _) ?_
     intro v1 w1 hown1 hg1 hat1
     have HO1 := Lib.hid hown1; have HG1 := Lib.hid hg1; have HA1 := Lib.hid hat1
     clear hown1 hg1 hat1)
  go_cut [9] (fun s9 wx => ∃ bit : Nat, bit < 8 * n ∧ s9 = .int .i64 bit ∧ wx = w1)
  case first =>
    have ht1 := Int.tmod_lt_of_pos a1 (show (0 : Int) < 8 * (n : Int) by omega)
    have ht2 := Int.lt_tmod_of_pos a1 (show (0 : Int) < 8 * (n : Int) by omega)
    generalize a1.tmod (8 * (n : Int)) = t at *
    by_cases ht : t < 0
    · go_wp2_with fail
      go_meet
      exact ⟨(t + 8 * (n : Int)).toNat, by omega, by rw [Int.toNat_of_nonneg (by omega)], rfl⟩
    · go_wp2_with fail
      go_meet
      exact ⟨t.toNat, by omega, by rw [Int.toNat_of_nonneg (by omega)], rfl⟩
  case rest =>
    obtain ⟨bit, hbit, rfl, rfl⟩ := hcut
    obtain ⟨g, cap, hv, hgb, hrow, hcap⟩ := row_of_own HO1.out (by omega)
    simp only [Nat.zero_add] at hv hrow hcap
    subst hv
    have HROW := Lib.hid hrow; clear hrow
    go_wp2_with fail
    go_loopw [10, 11, 12] (fun t i _ wr => ∃ (k : Nat) (tb : Bool) (ys : List Nat), k ≤ 32 ∧ i = .int .i64 k ∧ t = .bool tb ∧ wc.grownBy wr (some g) ∧ Row wr g n ys ∧ Turned l bit c k ys tb ∧ Outside l bit ys) (fun _ i _ _ => 32 - (intOf i).toNat)
    case atStart => exact ⟨0, false, l, by omega, rfl, rfl, World.grownBy.refl _ _, HROW.out, Turned.start l bit c HLT.out, fun _ _ => rfl⟩
    case round =>
      obtain ⟨k, tb, ys, hk, rfl, rfl, hg, hr, ht, hout⟩ := hrel
      have HG2 := Lib.hid hg; have HR := Lib.hid hr; have HTU := Lib.hid ht; have HOU := Lib.hid hout; clear hg hr ht hout
      by_cases hk32 : k < 32
      · by_cases hbk : bit + k < 8 * n
        · have ht2 := bit_of c k
          obtain ⟨m, hm⟩ : ∃ m : Nat, m = bit + k := ⟨_, rfl⟩
          have hnk : (bit : Int) + k = m := by omega
          have hb' : (m : Int) < 8 * n := by omega
          have hn0 : (0 : Int) ≤ m := by omega
          have HN := Lib.hid hm; clear hm
          by_cases hbit1 : c / 2 ^ k % 2 = 1
          · rw [hbit1] at ht2
            have hq : m / 8 < n := by omega
            have hcell := HR.out.cell (m / 8) hq
            have hfro := HR.out.frozen (m / 8)
            have HB1 := Lib.hid hbit1; clear hbit1
            go_wp2_with fail
            go_region
            go_wp2_with fail
            have htn := HTU.out.turn (by rw [HLEN.out]; omega) HB1.out
            have hou := HOU.out.set hk32 (ys.getD ((bit + k) / 8) 0 ^^^ 2 ^ ((bit + k) % 8))
            rw [← HN.out] at htn hou
            have hfl := flip_u8 (n := m) (getD_lt HTU.out.2.1 (m / 8))
            simp only [List.getD_eq_getElem?_getD] at hfl htn hou
            rw [hfl]
            go_roundw
            case rel => exact ⟨k + 1, true, _, by omega, by go_num, rfl, only_drew (only_set HG2.out _ _), (HR.out.set_ hq _).drew, htn, hou⟩
            case measure => simp [intOf]; omega
          · rw [show c / 2 ^ k % 2 = 0 from by generalize c / 2 ^ k = q at *; omega] at ht2
            have HB1 := Lib.hid hbit1; clear hbit1
            go_wp2_with fail
            go_roundw
            case rel => exact ⟨k + 1, tb, ys, by omega, by go_num, rfl, HG2.out, HR.out, HTU.out.same HB1.out, HOU.out⟩
            case measure => simp [intOf]; omega
        · have hb' : ¬ (bit : Int) + k < 8 * n := by omega
          go_wp2_with fail
          go_roundw
          case rel => exact ⟨k + 1, tb, ys, by omega, by go_num, rfl, HG2.out, HR.out, HTU.out.past (by rw [HLEN.out]; exact hbk), HOU.out⟩
          case measure => simp [intOf]; omega
      · obtain rfl : k = 32 := by omega
        have HGW := Lib.hid (grownBy_new (grown_none_of_size HG1.out (fun j hj => by simp [Value.ownBlock] at hj)) HG2.out (fun j hj => by cases hj; exact hgb))
        have HOw := Lib.hid (HR.out.bytes (b := b) (by omega) HTU.out.2.1)
        go_wp2
        go_ret2
        refine ⟨HGW.out, _, _, ys, tb, by rw [HLEN.out]; rfl, by rw [HLEN.out]; exact HOw.out, fun h => ⟨bit, c, ?_, HOU.out⟩⟩
        have := HTU.out
        rwa [h] at this
end Go.Proofs.Ytkiohneggoiipaa.Codec
