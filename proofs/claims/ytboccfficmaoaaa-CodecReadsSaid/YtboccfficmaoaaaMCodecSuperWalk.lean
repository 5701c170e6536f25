/- The laws' test of a known superblock, and the walk over the law CodecSuper, by the contracts of what they call. -/
import Derived.Test.YtboccfficmaoaaaMCodecBits2
import Derived.Test.YtboccfficmaoaaaMOpen
import Derived.Deep.QuietTactic
import Derived.BigQuiet
namespace Go.Proofs.Ytboccfficmaoaaa.Codec
open Go.RowKit CrcMath CodecMath Mem Crc

/-- Bytes of the call's own lie outside an elder block. -/
theorem own_bytes_b {w : World} {base n b : Nat} {v : Value} {l : List Nat} (h : Own w base 5 1 v n (u8s l)) (hl : ∀ x ∈ l, x < 256) (hb : b < base) :
    ∃ A cap, v = .slice A n cap ∧ Bytes w b A n l ∧ n ≤ cap ∧ cap ≤ maxLen := by
  obtain ⟨A, cap, hv, hby, h1, h2⟩ := own_bytes h hl
  refine ⟨A, cap, hv, ⟨hby.1, hby.2.1, fun hn => ?_⟩, h1, h2⟩
  obtain ⟨g, o, e, hlt, _, hc⟩ := hby.2.2 hn
  refine ⟨g, o, e, hlt, ?_, hc⟩
  have := (h.base_ g (by rw [hv, e]; rfl)).1
  omega

set_option maxRecDepth 100000 in
set_option maxHeartbeats 1600000 in
theorem known_any (b : Nat) (w : World) (hT : Tab w b) (hb : b < w.heap.size) :
    Calls Try.prog 6 #[.pointer (some ⟨b, 0, none⟩)] w fun e w' => e = .returned (.bool true) ∧ w.grownBy w' (some b) ∧ Ready w' b := by
  have hw : superW [1, 2, 16, 18, 64, 3, 4] = some (frame (superB [1, 2, 16, 18, 64, 3, 4])) := superW_yes _ 7 rfl (fun j hj => by match j, hj with | 0, _ | 1, _ | 2, _ | 3, _ | 4, _ | 5, _ | 6, _ => rfl)
  have hlen := superW_len (s := [1, 2, 16, 18, 64, 3, 4]) rfl hw
  have hrd := superR_of (s := [1, 2, 16, 18, 64, 3, 4]) rfl hw
  have h11 : (frame (superB [1, 2, 16, 18, 64, 3, 4])).getD 11 0 = 1 := by
    obtain ⟨q, hq⟩ := frame_split (superB [1, 2, 16, 18, 64, 3, 4])
    rw [hq]; rfl
  have hT1 := tab_keep hT (World.grownBy_alloc w (.cells #[.int .i64 1, .int .i64 2, .int .i64 16, .int .i64 18, .int .i64 64, .int .i64 3, .int .i64 4] 27) none) (by simp)
  have HT := Lib.hid hT1; have HW := Lib.hid hw; have HLEN := Lib.hid hlen; have HRD := Lib.hid hrd; have H11 := Lib.hid h11; clear hT hT1 hw hlen hrd h11
  generalize frame (superB [1, 2, 16, 18, 64, 3, 4]) = L at *
  go_enter Try.func6, Try.ntmps6
  go_wp2_with fail
  refine (put_super_any b (some b) 1 2 16 18 64 3 4 _ (.inr ⟨HT.out, rfl⟩)).mono ?_
  rintro e w2 ⟨hgA, ⟨l, g, ho, rfl, hge, hown, hlt, hr1⟩ | ⟨ho, rfl⟩⟩
  case inr => rw [HW.out] at ho; cases ho
  rw [HW.out] at ho
  obtain rfl : L = l := by injection ho
  clear ho
  have hb1 := blk_bytes (b := b) hown (by simp at hge; omega) hlt
  rw [HLEN.out] at hb1 ⊢
  have HB1 := Lib.hid hb1; have HR1 := Lib.hid hr1
  have hbk := Blk.new w 27 #[.int .i64 1, .int .i64 2, .int .i64 16, .int .i64 18, .int .i64 64, .int .i64 3, .int .i64 4]
  have HS := Lib.hid (hbk.grown hgA (by simp; omega))
  have HG := Lib.hid ((World.grownBy_alloc w (.cells #[.int .i64 1, .int .i64 2, .int .i64 16, .int .i64 18, .int .i64 64, .int .i64 3, .int .i64 4] 27) (some b)).trans hgA)
  clear hown hr1 hgA hb1 hbk
  go_wp2_with fail
  refine (codec_get_super b _ 256 256 L _ HR1.out HB1.out).mono ?_
  rintro e w3 ⟨hg3, rfl⟩
  rw [HRD.out]
  have HS3 := Lib.hid (HS.out.grown hg3 (by simp)); have HB3 := Lib.hid (bytes_keepN HB1.out hg3); have HR3 := Lib.hid (HR1.out.keep hg3 (by simp))
  have HG3 := Lib.hid (HG.out.trans (grown_weak hg3 (some b)))
  clear hg3
  rw [show supV ((some [1, 2, 16, 18, 64, 3, 4]).getD zero7) = .agg #[.int .i64 1, .int .i64 2, .int .i64 16, .int .i64 18, .int .i64 64, .int .i64 3, .int .i64 4] from rfl, show (some ([1, 2, 16, 18, 64, 3, 4] : List Int)).isSome = true from rfl]
  have hs0 := fun i => HS3.out.cell i
  have t0 := hs0 0; have t1 := hs0 1; have t2 := hs0 2; have t3 := hs0 3; have t4 := hs0 4; have t5 := hs0 5; have t6 := hs0 6
  clear hs0
  simp only [List.getElem?_toArray, List.getElem?_cons_zero, List.getElem?_cons_succ] at t0 t1 t2 t3 t4 t5 t6
  have lt3 := HS3.out.lt
  go_wp2_with fail
  refine (codec_put_super_nil 1 2 16 18 64 3 4 _).mono ?_
  rintro e w4 hG4
  obtain ⟨hg4, rfl⟩ := hG4.none_
  clear hG4
  have hgu := World.grownBy_alloc w3 (.cells #[.int .i64 1, .int .i64 2, .int .i64 16, .int .i64 18, .int .i64 64, .int .i64 3, .int .i64 4] 27) none
  have hg34 := hgu.trans hg4
  have hbs := HS3.out.grown hg34 (by simp)
  have hbu := (Blk.new w3 27 #[.int .i64 1, .int .i64 2, .int .i64 16, .int .i64 18, .int .i64 64, .int .i64 3, .int .i64 4]).grown hg4 (by simp)
  have hb4 := bytes_keepN HB3.out hg34
  obtain ⟨g', o', he', _, _, hcB⟩ := hb4.2.2 (by omega)
  simp only [Option.some.injEq, Addr.mk.injEq, and_true] at he'
  obtain ⟨rfl, rfl⟩ := he'
  have h11 := hcB 11 (by omega)
  rw [H11.out] at h11
  have HG4 := Lib.hid (HG3.out.trans (grown_weak hg34 (some b))); have HR4 := Lib.hid (HR3.out.keep hg34 (by simp))
  clear t0 t1 t2 t3 t4 t5 t6 lt3 hcB hb4 hgu hg34 hg4
  have t0 := hbs.cell 0; have t1 := hbs.cell 1; have t2 := hbs.cell 2; have t3 := hbs.cell 3; have t4 := hbs.cell 4; have t5 := hbs.cell 5; have t6 := hbs.cell 6
  have u0 := hbu.cell 0; have u1 := hbu.cell 1; have u2 := hbu.cell 2; have u3 := hbu.cell 3; have u4 := hbu.cell 4; have u5 := hbu.cell 5; have u6 := hbu.cell 6
  simp only [List.getElem?_toArray, List.getElem?_cons_zero, List.getElem?_cons_succ] at t0 t1 t2 t3 t4 t5 t6 u0 u1 u2 u3 u4 u5 u6
  clear hbs hbu
  go_wp2_with fail
  go_ret
  exact ⟨rfl, HG4.out, HR4.out⟩
end Go.Proofs.Ytboccfficmaoaaa.Codec
namespace Go.Proofs.Ytboccfficmaoaaa.CodecSuper
open Go.ChangeShapes Go.WideShapes Go.ChangeAt Go.RowKit
open Crc CrcMath Mem CodecMath Codec
end Go.Proofs.Ytboccfficmaoaaa.CodecSuper
