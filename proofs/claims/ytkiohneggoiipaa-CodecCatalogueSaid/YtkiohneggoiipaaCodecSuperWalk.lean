/- The laws' test of a known superblock, and the walk over the law CodecSuper, by the contracts of what they call. -/
import Derived.Test.YtkiohneggoiipaaCodecSuperGet
import Derived.Test.YtkiohneggoiipaaOpen
import Derived.Deep.QuietTactic
import Derived.BigQuiet
namespace Go.Proofs.Ytkiohneggoiipaa.Codec
open Go.RowKit CrcMath CodecMath Mem Crc

/-- Bytes of the call's own lie outside an elder block. -/
theorem own_bytes_b {w : World} {base n b : Nat} {v : Value} {l : List Nat} (h : Own w base 5 1 v n (u8s l)) (hl : ∀ x ∈ l, x < 256) (hb : b < base) :
    ∃ A cap, v = .slice A n cap ∧ Bytes w b A n l ∧ n ≤ cap ∧ cap ≤ maxLen := by
  obtain ⟨A, cap, hv, hby, h1, h2⟩ := own_bytes h hl
  refine ⟨A, cap, hv, ⟨hby.1, hby.2.1, fun hn => ?_⟩, h1, h2⟩
  obtain ⟨g, o, e, hlt, _, hc⟩ := hby.2.2 hn
  refine ⟨g, o, e, hlt, ?_, hc⟩
  have := (h.base_ g (by rw [hv, e]; rfl)).1
  omega

set_option maxRecDepth 100000 in
set_option maxHeartbeats 1600000 in
theorem known_any (b : Nat) (w : World) (hT : Tab w b) (hb : b < w.heap.size) :
    Calls Try.prog 15 #[.pointer (some ⟨b, 0, none⟩)] w fun e w' => e = .returned (.bool true) ∧ w.grownBy w' (some b) ∧ Ready w' b := by
  have hw : superW [1, 2, 16, 18, 64, 3, 4] = some (frame (superB [1, 2, 16, 18, 64, 3, 4])) := superW_yes _ 7 rfl (fun j hj => by match j, hj with | 0, _ | 1, _ | 2, _ | 3, _ | 4, _ | 5, _ | 6, _ => rfl)
  have hlen := superW_len (s := [1, 2, 16, 18, 64, 3, 4]) rfl hw
  have hrd := superR_of (s := [1, 2, 16, 18, 64, 3, 4]) rfl hw
  have h11 : (frame (superB [1, 2, 16, 18, 64, 3, 4])).getD 11 0 = 1 := by
    obtain ⟨q, hq⟩ := frame_split (superB [1, 2, 16, 18, 64, 3, 4])
    rw [hq]; rfl
  have hT1 := tab_keep hT (World.grownBy_alloc w (.cells #[.int .i64 1, .int .i64 2, .int .i64 16, .int .i64 18, .int .i64 64, .int .i64 3, .int .i64 4] 23) none) (by simp)
  have HT := Lib.hid hT1; have HW := Lib.hid hw; have HLEN := Lib.hid hlen; have HRD := Lib.hid hrd; have H11 := Lib.hid h11; clear hT hT1 hw hlen hrd h11
  generalize frame (superB [1, 2, 16, 18, 64, 3, 4]) = L at *
  go_enter Try.func15, Try.ntmps15
  go_wp2_with fail
  refine (put_super_any b (some b) 1 2 16 18 64 3 4 _ (.inr ⟨HT.out, rfl⟩)).mono ?_
  rintro e w2 ⟨hgA, ⟨l, g, ho, rfl, hge, hown, hlt, hr1⟩ | ⟨ho, rfl⟩⟩
  case inr => rw [HW.out] at ho; cases ho
  rw [HW.out] at ho
  obtain rfl : L = l := by injection ho
  clear ho
  have hb1 := blk_bytes (b := b) hown (by simp at hge; omega) hlt
  rw [HLEN.out] at hb1 ⊢
  have HB1 := Lib.hid hb1; have HR1 := Lib.hid hr1
  have hbk := Blk.new w 23 #[.int .i64 1, .int .i64 2, .int .i64 16, .int .i64 18, .int .i64 64, .int .i64 3, .int .i64 4]
  have HS := Lib.hid (hbk.grown hgA (by simp; omega))
  have HG := Lib.hid ((World.grownBy_alloc w (.cells #[.int .i64 1, .int .i64 2, .int .i64 16, .int .i64 18, .int .i64 64, .int .i64 3, .int .i64 4] 23) (some b)).trans hgA)
  clear hown hr1 hgA hb1 hbk
  go_wp2_with fail
  refine (codec_get_super b _ 256 256 L _ HR1.out HB1.out).mono ?_
  rintro e w3 ⟨hg3, rfl⟩
  rw [HRD.out]
  have HS3 := Lib.hid (HS.out.grown hg3 (by simp)); have HB3 := Lib.hid (bytes_keepN HB1.out hg3); have HR3 := Lib.hid (HR1.out.keep hg3 (by simp))
  have HG3 := Lib.hid (HG.out.trans (grown_weak hg3 (some b)))
  clear hg3
  rw [show supV ((some [1, 2, 16, 18, 64, 3, 4]).getD zero7) = .agg #[.int .i64 1, .int .i64 2, .int .i64 16, .int .i64 18, .int .i64 64, .int .i64 3, .int .i64 4] from rfl, show (some ([1, 2, 16, 18, 64, 3, 4] : List Int)).isSome = true from rfl]
  have hs0 := fun i => HS3.out.cell i
  have t0 := hs0 0; have t1 := hs0 1; have t2 := hs0 2; have t3 := hs0 3; have t4 := hs0 4; have t5 := hs0 5; have t6 := hs0 6
  clear hs0
  simp only [List.getElem?_toArray, List.getElem?_cons_zero, List.getElem?_cons_succ] at t0 t1 t2 t3 t4 t5 t6
  have lt3 := HS3.out.lt
  go_wp2_with fail
  refine (codec_put_super_nil 1 2 16 18 64 3 4 _).mono ?_
  rintro e w4 hG4
  obtain ⟨hg4, rfl⟩ := hG4.none_
  clear hG4
  have hgu := World.grownBy_alloc w3 (.cells #[.int .i64 1, .int .i64 2, .int .i64 16, .int .i64 18, .int .i64 64, .int .i64 3, .int .i64 4] 23) none
  have hg34 := hgu.trans hg4
  have hbs := HS3.out.grown hg34 (by simp)
  have hbu := (Blk.new w3 23 #[.int .i64 1, .int .i64 2, .int .i64 16, .int .i64 18, .int .i64 64, .int .i64 3, .int .i64 4]).grown hg4 (by simp)
  have hb4 := bytes_keepN HB3.out hg34
  obtain ⟨g', o', he', _, _, hcB⟩ := hb4.2.2 (by omega)
  simp only [Option.some.injEq, Addr.mk.injEq, and_true] at he'
  obtain ⟨rfl, rfl⟩ := he'
  have h11 := hcB 11 (by omega)
  rw [H11.out] at h11
  have HG4 := Lib.hid (HG3.out.trans (grown_weak hg34 (some b))); have HR4 := Lib.hid (HR3.out.keep hg34 (by simp))
  clear t0 t1 t2 t3 t4 t5 t6 lt3 hcB hb4 hgu hg34 hg4
  have t0 := hbs.cell 0; have t1 := hbs.cell 1; have t2 := hbs.cell 2; have t3 := hbs.cell 3; have t4 := hbs.cell 4; have t5 := hbs.cell 5; have t6 := hbs.cell 6
  have u0 := hbu.cell 0; have u1 := hbu.cell 1; have u2 := hbu.cell 2; have u3 := hbu.cell 3; have u4 := hbu.cell 4; have u5 := hbu.cell 5; have u6 := hbu.cell 6
  simp only [List.getElem?_toArray, List.getElem?_cons_zero, List.getElem?_cons_succ] at t0 t1 t2 t3 t4 t5 t6 u0 u1 u2 u3 u4 u5 u6
  clear hbs hbu
  go_wp2_with fail
  go_ret
  exact ⟨rfl, HG4.out, HR4.out⟩
end Go.Proofs.Ytkiohneggoiipaa.Codec
namespace Go.Proofs.Ytkiohneggoiipaa.CodecSuper
open Go.ChangeShapes Go.WideShapes Go.ChangeAt Go.RowKit
open Crc CrcMath Mem CodecMath Codec
set_option maxRecDepth 100000 in
set_option maxHeartbeats 1600000 in
theorem walk {H : Type} {enc : TypeId × Value → H} (W : World) (base : Nat) (v0 : Value) (d0 : DataW H) (p0 : List MemPlace)
    (o0 : Value.okWide Try.prog W .any base 23 v0)
    (h0 : DataW.Trod enc Try.prog W 0 (fun _ => true) true 23 v0 d0 p0)
    (_hsz : (DataW.weightsEach Try.prog [23] [d0]).all (· ≤ reachBytes) = true) :
    Calls Try.prog 3 #[v0] W fun e W' => e = .returned (.bool true) ∧ Below W.heap.size W W' := by
  obtain ⟨a0, a1, a2, a3, a4, a5, a6, rfl⟩ := open_super o0 h0
  clear o0 h0
  have hbox := (Blk.new W 23 #[.int .i64 a0, .int .i64 a1, .int .i64 a2, .int .i64 a3, .int .i64 a4, .int .i64 a5, .int .i64 a6]).alloc (.cells zeroCs 104)
  have hT : Tab ((W.alloc (.cells #[.int .i64 a0, .int .i64 a1, .int .i64 a2, .int .i64 a3, .int .i64 a4, .int .i64 a5, .int .i64 a6] 23)).alloc (.cells zeroCs 104)) (W.heap.size + 1) := .inl ⟨_, by simpa using Blk.new (W.alloc (.cells #[.int .i64 a0, .int .i64 a1, .int .i64 a2, .int .i64 a3, .int .i64 a4, .int .i64 a5, .int .i64 a6] 23)) 104 zeroCs, fresh_zero⟩
  have hg0 : W.grownBy ((W.alloc (.cells #[.int .i64 a0, .int .i64 a1, .int .i64 a2, .int .i64 a3, .int .i64 a4, .int .i64 a5, .int .i64 a6] 23)).alloc (.cells zeroCs 104)) none := (World.grownBy_alloc W _ none).trans (World.grownBy_alloc _ _ none)
  have HBOX := Lib.hid hbox; have HT := Lib.hid hT; have HG0 := Lib.hid hg0; clear hbox hT hg0
  go_enter Try.func3, Try.ntmps3
  go_wp2_with fail
  refine (new_any _).mono ?_
  rintro e wa ⟨rfl, rfl⟩
  go_wp2_with fail
  refine (known_any (W.heap.size + 1) _ HT.out (by simp)).mono ?_
  rintro e wb ⟨rfl, hgb, hrb⟩
  have HBOXb := Lib.hid (HBOX.out.grown hgb (by simp))
  have HRb := Lib.hid hrb
  have HGb := Lib.hid (grownBy_new HG0.out hgb (fun j hj => by cases hj; omega))
  clear hgb hrb HT HBOX HG0
  have b0 := HBOXb.out.cell 0
  have b1 := HBOXb.out.cell 1
  have b2 := HBOXb.out.cell 2
  have b3 := HBOXb.out.cell 3
  have b4 := HBOXb.out.cell 4
  have b5 := HBOXb.out.cell 5
  have b6 := HBOXb.out.cell 6
  simp only [List.getElem?_toArray, List.getElem?_cons_zero, List.getElem?_cons_succ] at b0 b1 b2 b3 b4 b5 b6
  go_wp2_with fail
  refine (codec_put_super (W.heap.size + 1) a0 a1 a2 a3 a4 a5 a6 _ HRb.out).mono ?_
  rintro e w1 ⟨hg1, hW1⟩
  have HBOX1 := Lib.hid (HBOXb.out.grown hg1 (by simp))
  have HR1 := Lib.hid (HRb.out.keep hg1 (by simp))
  have HG1 := Lib.hid (HGb.out.trans hg1)
  have hlt1 : W.heap.size + 1 < wb.heap.size := by have := HRb.out; obtain ⟨_, h, _⟩ := this; exact h.lt
  clear b0 b1 b2 b3 b4 b5 b6 hg1
  rcases hW1 with ⟨l, g1, ho, rfl, hge1, hown1, hlt⟩ | ⟨ho, rfl⟩
  · have hlen := superW_len (s := [a0, a1, a2, a3, a4, a5, a6]) rfl ho
    have hrd := superR_of (s := [a0, a1, a2, a3, a4, a5, a6]) rfl ho
    have hb1 := blk_bytes (b := W.heap.size + 1) hown1 (by omega) hlt
    have HW := Lib.hid ho; have HLEN := Lib.hid hlen; have HRD := Lib.hid hrd; have HB1 := Lib.hid hb1
    clear ho hlen hrd hb1 hown1 hlt1
    rw [HLEN.out] at HB1 ⊢
    have x0 := HBOX1.out.cell 0
    have x1 := HBOX1.out.cell 1
    have x2 := HBOX1.out.cell 2
    have x3 := HBOX1.out.cell 3
    have x4 := HBOX1.out.cell 4
    have x5 := HBOX1.out.cell 5
    have x6 := HBOX1.out.cell 6
    simp only [List.getElem?_toArray, List.getElem?_cons_zero, List.getElem?_cons_succ] at x0 x1 x2 x3 x4 x5 x6
    go_wp2_with fail
    refine (ref_put_super a0 a1 a2 a3 a4 a5 a6 _).mono ?_
    rintro e w2 ⟨hg2, hW2⟩
    rw [HW.out] at hW2
    rcases hW2 with ⟨l2, v2, ho2, rfl, hown2, hlt2⟩ | ⟨ho2, _⟩
    case inr => cases ho2
    obtain rfl : l = l2 := by injection ho2
    obtain ⟨A2, c2, rfl, hb2, hc2, hm2⟩ := own_bytes_b (b := W.heap.size + 1) hown2 hlt2 (by have := HR1.out; obtain ⟨_, h, _⟩ := this; exact h.lt)
    have HB2 := Lib.hid hb2
    have HB1' := Lib.hid (bytes_keepN HB1.out hg2); have HBOX2 := Lib.hid (HBOX1.out.grown hg2 (by simp)); have HR2 := Lib.hid (HR1.out.keep hg2 (by simp)); have HG2 := Lib.hid (HG1.out.trans hg2)
    clear ho2 hb2 hown2 hg2 x0 x1 x2 x3 x4 x5 x6
    rw [HLEN.out] at HB2 hc2 ⊢
    go_wp2_with fail
    refine (same_any _ _ _ A2 256 256 256 c2 l l _ HB1'.out HB2.out (by omega) (by omega)).mono ?_
    rintro e w3 ⟨rfl, hdr⟩
    have hg3 := drawn_grown hdr none
    have HB3 := Lib.hid (bytes_keepN HB1'.out hg3); have HBOX3 := Lib.hid (HBOX2.out.grown hg3 (by simp)); have HR3 := Lib.hid (HR2.out.keep hg3 (by simp)); have HG3 := Lib.hid (HG2.out.trans hg3)
    clear hdr hg3
    rw [show decide (l = l) = true from by simp]
    go_wp2_with fail
    refine (codec_get_super (W.heap.size + 1) _ 256 256 l _ HR3.out HB3.out).mono ?_
    rintro e w4 ⟨hg4, rfl⟩
    rw [HRD.out]
    have HBOX4 := Lib.hid (HBOX3.out.grown hg4 (by simp)); have HG4 := Lib.hid (HG3.out.trans hg4)
    clear hg4
    rw [show supV ((some [a0, a1, a2, a3, a4, a5, a6]).getD zero7) = .agg #[.int .i64 a0, .int .i64 a1, .int .i64 a2, .int .i64 a3, .int .i64 a4, .int .i64 a5, .int .i64 a6] from rfl, show (some ([a0, a1, a2, a3, a4, a5, a6] : List Int)).isSome = true from rfl]
    go_wp2_with fail
    refine (codec_get_super_nil _ 256 256 _).mono ?_
    rintro e w5 ⟨hg5, rfl⟩
    rw [show supV zero7 = .agg #[.int .i64 0, .int .i64 0, .int .i64 0, .int .i64 0, .int .i64 0, .int .i64 0, .int .i64 0] from rfl]
    have hgu := World.grownBy_alloc w4 (.cells #[.int .i64 a0, .int .i64 a1, .int .i64 a2, .int .i64 a3, .int .i64 a4, .int .i64 a5, .int .i64 a6] 23) none
    have hbox5 := HBOX4.out.grown (hgu.trans hg5) (by simp)
    have hu5 := (Blk.new w4 23 #[.int .i64 a0, .int .i64 a1, .int .i64 a2, .int .i64 a3, .int .i64 a4, .int .i64 a5, .int .i64 a6]).grown hg5 (by simp)
    have HG5 := Lib.hid (HG4.out.trans (hgu.trans hg5))
    clear hg5 hgu
    have x0 := hbox5.cell 0
    have x1 := hbox5.cell 1
    have x2 := hbox5.cell 2
    have x3 := hbox5.cell 3
    have x4 := hbox5.cell 4
    have x5 := hbox5.cell 5
    have x6 := hbox5.cell 6
    simp only [List.getElem?_toArray, List.getElem?_cons_zero, List.getElem?_cons_succ] at x0 x1 x2 x3 x4 x5 x6
    have u0 := hu5.cell 0
    have u1 := hu5.cell 1
    have u2 := hu5.cell 2
    have u3 := hu5.cell 3
    have u4 := hu5.cell 4
    have u5 := hu5.cell 5
    have u6 := hu5.cell 6
    simp only [List.getElem?_toArray, List.getElem?_cons_zero, List.getElem?_cons_succ] at u0 u1 u2 u3 u4 u5 u6
    have lx := hbox5.lt
    have lu := hu5.lt
    clear hbox5 hu5
    go_wp2_with fail
    go_ret
    exact ⟨rfl, below_of_grown (HG5.out.trans (World.grownBy_alloc _ _ none)) (Nat.le_refl _) (fun _ h => by cases h)⟩
  · have HW := Lib.hid ho
    have hrd := superR_none [] (by simp)
    have HRD := Lib.hid hrd
    clear ho hrd hlt1
    have x0 := HBOX1.out.cell 0
    have x1 := HBOX1.out.cell 1
    have x2 := HBOX1.out.cell 2
    have x3 := HBOX1.out.cell 3
    have x4 := HBOX1.out.cell 4
    have x5 := HBOX1.out.cell 5
    have x6 := HBOX1.out.cell 6
    simp only [List.getElem?_toArray, List.getElem?_cons_zero, List.getElem?_cons_succ] at x0 x1 x2 x3 x4 x5 x6
    go_wp2_with fail
    refine (ref_put_super a0 a1 a2 a3 a4 a5 a6 _).mono ?_
    rintro e w2 ⟨hg2, hW2⟩
    rw [HW.out] at hW2
    rcases hW2 with ⟨l2, v2, ho2, _⟩ | ⟨_, rfl⟩
    · cases ho2
    have HR2 := Lib.hid (HR1.out.keep hg2 (by simp)); have HG2 := Lib.hid (HG1.out.trans hg2)
    clear hg2 x0 x1 x2 x3 x4 x5 x6
    go_wp2_with fail
    refine (same_any 0 0 none none 0 0 0 0 [] [] _ (Bytes.none_ _ _ _) (Bytes.none_ _ _ _) (by omega) (by omega)).mono ?_
    rintro e w3 ⟨rfl, hdr⟩
    have hg3 := drawn_grown hdr none
    have HR3 := Lib.hid (HR2.out.keep hg3 (by simp)); have HG3 := Lib.hid (HG2.out.trans hg3)
    clear hdr hg3
    rw [show decide (([] : List Nat) = []) = true from by simp]
    go_wp2_with fail
    refine (codec_get_super (W.heap.size + 1) none 0 0 [] _ HR3.out (Bytes.none_ _ _ _)).mono ?_
    rintro e w4 ⟨hg4, rfl⟩
    rw [HRD.out]
    have HG4 := Lib.hid (HG3.out.trans hg4)
    clear hg4
    rw [show supV ((none : Option (List Int)).getD zero7) = .agg #[.int .i64 0, .int .i64 0, .int .i64 0, .int .i64 0, .int .i64 0, .int .i64 0, .int .i64 0] from rfl, show (none : Option (List Int)).isSome = false from rfl]
    go_wp2_with fail
    refine (codec_get_super_nil none 0 0 _).mono ?_
    rintro e w5 ⟨hg5, rfl⟩
    rw [show supV zero7 = .agg #[.int .i64 0, .int .i64 0, .int .i64 0, .int .i64 0, .int .i64 0, .int .i64 0, .int .i64 0] from rfl]
    have HG5 := Lib.hid (HG4.out.trans ((World.grownBy_alloc w4 (.cells #[.int .i64 0, .int .i64 0, .int .i64 0, .int .i64 0, .int .i64 0, .int .i64 0, .int .i64 0] 23) none).trans hg5))
    clear hg5
    go_wp2_with fail
    go_ret
    exact ⟨rfl, below_of_grown (HG5.out.trans (World.grownBy_alloc _ _ none)) (Nat.le_refl _) (fun _ h => by cases h)⟩
end Go.Proofs.Ytkiohneggoiipaa.CodecSuper
