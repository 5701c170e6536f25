/- The walk over the law CodecCounts, by the contracts of what it calls. -/
import Derived.Test.YtkiohneggoiipaaCodecSuperWalk
import Derived.Test.YtkiohneggoiipaaCodecCounts
import Derived.Test.YtkiohneggoiipaaLawBits
namespace Go.Proofs.Ytkiohneggoiipaa.CodecCounts
open Go.ChangeShapes Go.WideShapes Go.ChangeAt Go.RowKit
open Crc CrcMath Mem CodecMath Codec

set_option maxRecDepth 100000 in
/-- An argument of whole numbers, opened; its length is within the form's own reach. -/
theorem open_ints_arg {H : Type} {enc : TypeId × Value → H} {W : World} {base : Nat} {v : Value} {d : DataW H} {p : List MemPlace} (o : Value.okWide Try.prog W .any base 36 v)
    (h : DataW.Trod enc Try.prog W 0 (fun _ => true) true 36 v d p) {ts : List TypeId} {ds : List (DataW H)} (hsz : (DataW.weightsEach Try.prog ts ds).all (· ≤ reachBytes) = true) {j : Nat} (ht : ts[j]? = some 36) (hd : ds[j]? = some d) :
    ∃ A n c l, v = .slice A n c ∧ Ints W W.heap.size A n l ∧ n ≤ c ∧ 8 * c ≤ 140737488351232 := by
  obtain ⟨a, len, cap, rfl⟩ := Go.WideShapes.okWide_slice Try.underlying36 o
  obtain ⟨fuel, hf⟩ := h
  obtain ⟨A, n, c, l, hcs, hin, hnc, hm⟩ := open_ints_in hf
  simp [Value.cells] at hcs
  obtain ⟨rfl, rfl, rfl⟩ := hcs
  refine ⟨_, _, _, l, rfl, hin, hnc, ?_⟩
  rcases Go.ChangeShapes.open_ints Try.underlying36 Try.underlying3 (by kernel_rfl) hf with ⟨hcs, _⟩ | ⟨x, l', c', zs, hcs, _, hl, hm', hz, hx, _, _⟩
  · simp [Value.cells] at hcs
    omega
  · simp [Value.cells] at hcs
    obtain ⟨_, rfl, rfl⟩ := hcs
    simp only [Prod.mk.injEq] at hx
    obtain ⟨rfl, _⟩ := hx
    have hz' : zs.length = cap := by simpa using hz
    have := sized_slice hsz ht hd Try.underlying36
    rw [show Try.prog.bytesOf 3 = 8 from by kernel_rfl] at this
    simp only [Go.ChangeShapes.lits, List.length_map, List.length_take, List.length_drop, reachBytes] at this
    omega

set_option maxRecDepth 100000 in
set_option maxHeartbeats 1600000 in
theorem walk {H : Type} {enc : TypeId × Value → H} (W : World) (base : Nat) (v0 : Value) (d0 : DataW H) (p0 : List MemPlace)
    (o0 : Value.okWide Try.prog W .any base 36 v0)
    (h0 : DataW.Trod enc Try.prog W 0 (fun _ => true) true 36 v0 d0 p0)
    (hsz : (DataW.weightsEach Try.prog [36] [d0]).all (· ≤ reachBytes) = true) :
    Calls Try.prog 8 #[v0] W fun e W' => e = .returned (.bool true) ∧ Below W.heap.size W W' := by
  obtain ⟨A, n, c, l, rfl, hin, hnc, hc8⟩ := open_ints_arg o0 h0 hsz (j := 0) rfl rfl
  clear o0 h0 hsz
  have hT : Tab (W.alloc (.cells zeroCs 104)) W.heap.size := .inl ⟨_, Blk.new _ _ _, fresh_zero⟩
  have hg0 := World.grownBy_alloc W (.cells zeroCs 104) none
  have HIN0 := Lib.hid (ints_keep hin hg0 (.inl rfl)); have HT := Lib.hid hT; have HG0 := Lib.hid hg0; clear hin hT hg0
  go_enter Try.func8, Try.ntmps8
  go_wp2_with fail
  refine (new_any _).mono ?_
  rintro e wa ⟨rfl, rfl⟩
  go_wp2_with fail
  refine (known_any W.heap.size _ HT.out (by simp)).mono ?_
  rintro e wb ⟨rfl, hgb, _⟩
  have HINb := Lib.hid (ints_keep HIN0.out hgb (.inr rfl))
  have HGb := Lib.hid (grownBy_new HG0.out hgb (fun j hj => by cases hj; exact Nat.le_refl _))
  clear hgb HT HIN0 HG0
  go_wp2_with fail
  refine (codec_put_counts W.heap.size A n c l _ HINb.out (by omega)).mono ?_
  rintro e w1 ⟨hg1, hW1⟩
  have HIN1 := Lib.hid (ints_keep HINb.out hg1 (.inl rfl))
  have HG1 := Lib.hid (HGb.out.trans hg1)
  clear hg1
  rcases hW1 with ⟨m, g1, ho, rfl, _, hown1, hlt⟩ | ⟨ho, rfl⟩
  · have hrd := countsR_of ho
    have hlen := countsW_len ho
    have hb1 := blk_bytes (b := w1.heap.size) hown1 (by have := hown1.lt; omega) hlt
    have HW := Lib.hid ho; have HLEN := Lib.hid hlen; have HRD := Lib.hid hrd; have HB1 := Lib.hid hb1
    clear ho hlen hrd hb1 hown1
    rw [HLEN.out] at HB1 ⊢
    go_wp2_with fail
    refine (ref_put_counts _ A n c l _ HIN1.out (by omega)).mono ?_
    rintro e w2 ⟨hg2, hW2⟩
    rw [HW.out] at hW2
    rcases hW2 with ⟨l2, v2, ho2, rfl, hown2, hlt2⟩ | ⟨ho2, _⟩
    case inr => cases ho2
    obtain rfl : m = l2 := by injection ho2
    obtain ⟨A2, c2, rfl, hb2, hc2, hm2⟩ := own_bytes hown2 hlt2
    have HB2 := Lib.hid hb2
    have HB1' := Lib.hid (bytes_keepN HB1.out hg2); have HIN2 := Lib.hid (ints_keep HIN1.out hg2 (.inl rfl)); have HG2 := Lib.hid (HG1.out.trans hg2)
    clear ho2 hb2 hown2 hg2
    rw [HLEN.out] at HB2 hc2 ⊢
    go_wp2_with fail
    refine (same_any _ _ _ A2 240 240 240 c2 m m _ HB1'.out HB2.out (by omega) (by omega)).mono ?_
    rintro e w3 ⟨rfl, hdr⟩
    have hg3 := drawn_grown hdr none
    have HB3 := Lib.hid (bytes_keepN HB1'.out hg3); have HIN3 := Lib.hid (ints_keep HIN2.out hg3 (.inl rfl)); have HG3 := Lib.hid (HG2.out.trans hg3)
    clear hdr hg3
    rw [show decide (m = m) = true from by simp]
    go_wp2_with fail
    refine (codec_get_counts _ _ 240 240 m _ HB3.out).mono ?_
    rintro e w4 ⟨hg4, hW4⟩
    rw [HRD.out] at hW4
    rcases hW4 with ⟨s, v4, ho4, rfl, hown4, hrg4⟩ | ⟨ho4, _⟩
    case inr => cases ho4
    obtain rfl : l = s := by injection ho4
    obtain ⟨A4, c4, rfl, hi4, hc4, hm4⟩ := own_ints hown4 hrg4
    have HI4 := Lib.hid hi4; have HIN4 := Lib.hid (ints_keep HIN3.out hg4 (.inl rfl)); have HG4 := Lib.hid (HG3.out.trans hg4)
    have hl4 : l.length ≤ 9223372036854775807 := by simp only [maxLen] at hm4; omega
    clear ho4 hown4 hrg4 hi4 hg4
    go_wp2_with fail
    refine (ints_any _ _ A4 A _ n c4 c l l _ HI4.out HIN4.out hl4 (by omega)).mono ?_
    rintro e w5 ⟨rfl, hdr⟩
    have HG5 := Lib.hid (HG4.out.trans (drawn_grown hdr none))
    clear hdr
    rw [show decide (l = l) = true from by simp]
    go_wp2_with fail
    go_ret
    exact ⟨rfl, below_of_grown HG5.out (Nat.le_refl _) (fun _ h => by cases h)⟩
  · have HW := Lib.hid ho
    have hrd := countsR_none [] (by simp)
    have HRD := Lib.hid hrd
    clear ho hrd
    go_wp2_with fail
    refine (ref_put_counts _ A n c l _ HIN1.out (by omega)).mono ?_
    rintro e w2 ⟨hg2, hW2⟩
    rw [HW.out] at hW2
    rcases hW2 with ⟨l2, v2, ho2, _⟩ | ⟨_, rfl⟩
    · cases ho2
    have HG2 := Lib.hid (HG1.out.trans hg2)
    clear hg2
    go_wp2_with fail
    refine (same_any 0 0 none none 0 0 0 0 [] [] _ (Bytes.none_ _ _ _) (Bytes.none_ _ _ _) (by omega) (by omega)).mono ?_
    rintro e w3 ⟨rfl, hdr⟩
    have HG3 := Lib.hid (HG2.out.trans (drawn_grown hdr none))
    clear hdr
    rw [show decide (([] : List Nat) = []) = true from by simp]
    go_wp2_with fail
    refine (codec_get_counts 0 none 0 0 [] _ (Bytes.none_ _ _ _)).mono ?_
    rintro e w4 ⟨hg4, hW4⟩
    rw [HRD.out] at hW4
    rcases hW4 with ⟨s, v4, ho4, _⟩ | ⟨_, rfl⟩
    · cases ho4
    have HG4 := Lib.hid (HG3.out.trans hg4)
    clear hg4
    go_wp2_with fail
    go_ret
    exact ⟨rfl, below_of_grown HG4.out (Nat.le_refl _) (fun _ h => by cases h)⟩
end Go.Proofs.Ytkiohneggoiipaa.CodecCounts
