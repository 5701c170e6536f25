/- The walk over the law CodecImage, by the contracts of what it calls. -/
import Derived.Test.YtkiohneggoiipaaCodecPageWalk
namespace Go.Proofs.Ytkiohneggoiipaa.Codec
open Go.RowKit CrcMath CodecMath Mem Crc
theorem SaidImage.some_ {w w' : World} {ep sq nu kind : Int} {body : List Nat} {e : Ending} (h : SaidImage w (some (ep, sq, nu, kind, body)) e w') :
    w.grownBy w' none ∧ ∃ v, e = .returned (.tuple #[.int .i64 ep, .int .i64 sq, .agg #[.int .i64 nu, .int .i64 kind, v], .bool true]) ∧ Lies w' w.heap.size v body := by
  obtain ⟨hg, ⟨e', s', n', k, l, v, ho, he, hb⟩ | ⟨ho, _⟩⟩ := h
  · cases ho
    exact ⟨hg, v, he, hb⟩
  · cases ho
theorem SaidImage.none_ {w w' : World} {e : Ending} (h : SaidImage w none e w') : w.grownBy w' none ∧ e = .returned (.tuple #[.int .i64 0, .int .i64 0, .agg #[.int .i64 0, .int .i64 0, .slice none 0 0], .bool false]) := by
  obtain ⟨hg, ⟨e', s', n', k, l, v, ho, _⟩ | ⟨_, he⟩⟩ := h
  · cases ho
  · exact ⟨hg, he⟩
end Go.Proofs.Ytkiohneggoiipaa.Codec
namespace Go.Proofs.Ytkiohneggoiipaa.CodecImage
open Go.ChangeShapes Go.WideShapes Go.ChangeAt Go.RowKit
open Crc CrcMath Mem CodecMath Codec
set_option maxRecDepth 100000 in
set_option maxHeartbeats 3200000 in
theorem walk {H : Type} {enc : TypeId × Value → H} (W : World) (base : Nat) (v0 v1 v2 : Value) (d0 d1 d2 : DataW H) (p0 p1 p2 : List MemPlace)
    (o0 : Value.okWide Try.prog W .any base 49 v0) (o1 : Value.okWide Try.prog W .any base 3 v1) (o2 : Value.okWide Try.prog W .any base 3 v2)
    (h0 : DataW.Trod enc Try.prog W 0 (fun _ => true) true 49 v0 d0 p0) (h1 : DataW.Trod enc Try.prog W 0 (fun _ => true) true 3 v1 d1 p1) (h2 : DataW.Trod enc Try.prog W 0 (fun _ => true) true 3 v2 d2 p2)
    (_hsz : (DataW.weightsEach Try.prog [49, 3, 3] [d0, d1, d2]).all (· ≤ reachBytes) = true) :
    Calls Try.prog 6 #[v0, v1, v2] W fun e W' => e = .returned (.bool true) ∧ Below W.heap.size W W' := by
  obtain ⟨number, kind, A, n, c, l, rfl, hl, hnc, hcm, _, _⟩ := open_image o0 h0
  obtain ⟨epoch, rfl, rfl, rfl, _⟩ := open_int Try.underlying3 o1 h1
  obtain ⟨seq, rfl, rfl, rfl, _⟩ := open_int Try.underlying3 o2 h2
  clear o0 h0 o1 h1 o2 h2
  have hbox := (Blk.new W 49 #[.int .i64 number, .int .i64 kind, .slice A n c]).alloc (.cells zeroCs 104)
  have hT : Tab ((W.alloc (.cells #[.int .i64 number, .int .i64 kind, .slice A n c] 49)).alloc (.cells zeroCs 104)) (W.heap.size + 1) := .inl ⟨_, by simpa using Blk.new (W.alloc (.cells #[.int .i64 number, .int .i64 kind, .slice A n c] 49)) 104 zeroCs, fresh_zero⟩
  have hg0 : W.grownBy ((W.alloc (.cells #[.int .i64 number, .int .i64 kind, .slice A n c] 49)).alloc (.cells zeroCs 104)) none := (World.grownBy_alloc W _ none).trans (World.grownBy_alloc _ _ none)
  have hl0 : Bytes ((W.alloc (.cells #[.int .i64 number, .int .i64 kind, .slice A n c] 49)).alloc (.cells zeroCs 104)) (W.heap.size + 1) A n l := bytes_keepN (bytes_new hl (by omega)) hg0
  have HBOX := Lib.hid hbox; have HT := Lib.hid hT; have HG0 := Lib.hid hg0; have HL0 := Lib.hid hl0; have HN := Lib.hid (show n ≤ 9223372036854775807 by simp only [maxLen] at hcm; omega); clear hbox hT hg0 hl hl0 hcm
  go_enter Try.func6, Try.ntmps6
  go_wp2_with fail
  refine (new_any _).mono ?_
  rintro e wa ⟨rfl, rfl⟩
  go_wp2_with fail
  refine (known_any (W.heap.size + 1) _ HT.out (by simp)).mono ?_
  rintro e wb ⟨rfl, hgb, hrb⟩
  have HBOXb := Lib.hid (HBOX.out.grown hgb (by simp))
  have HRb := Lib.hid hrb
  have HLb := Lib.hid (HL0.out.keep hgb)
  have HGb := Lib.hid (grownBy_new HG0.out hgb (fun j hj => by cases hj; omega))
  have htl : W.heap.size + 1 < wb.heap.size := by obtain ⟨_, h, _⟩ := hrb; exact h.lt
  clear hgb hrb HT HBOX HG0 HL0
  have b0 := HBOXb.out.cell 0; have b1 := HBOXb.out.cell 1; have b2 := HBOXb.out.cell 2
  simp only [List.getElem?_toArray, List.getElem?_cons_zero, List.getElem?_cons_succ] at b0 b1 b2
  go_wp2_with fail
  refine (codec_put_image (W.heap.size + 1) _ epoch seq number kind A n c l _ HRb.out HLb.out).mono ?_
  clear b0 b1 b2
  cases hW : imageW epoch seq number kind l with
  | some L =>
    rintro e w1 hG
    obtain ⟨hg1, g1, rfl, hge1, hb1, hlt1⟩ := hG.some_
    have hL := imageW_len hW
    have HW := Lib.hid hW; have HLE := Lib.hid hL
    have hby := blk_bytes (b := W.heap.size + 1) hb1 (by omega) hlt1
    rw [hL] at hby
    have HB1 := Lib.hid hby; have HG1 := Lib.hid hg1
    have hbx := HBOXb.out.grown hg1 (by simp)
    have b0 := hbx.cell 0; have b1 := hbx.cell 1; have b2 := hbx.cell 2
    simp only [List.getElem?_toArray, List.getElem?_cons_zero, List.getElem?_cons_succ] at b0 b1 b2
    clear hG hg1 hW hL hby hb1 hbx
    rw [HLE.out]
    go_wp2_with fail
    refine (ref_put_image _ epoch seq number kind A n c l _ (bytes_keepN HLb.out HG1.out)).mono ?_
    clear b0 b1 b2
    rw [HW.out]
    rintro e w2 hG
    obtain ⟨hg2, v2, rfl, hown2, hlt2⟩ := hG.some_
    obtain ⟨A2, c2, rfl, hb2, _, _⟩ := own_bytes_b (b := W.heap.size + 1) hown2 hlt2 (by have := HG1.out.size; omega)
    rw [HLE.out] at hb2 ⊢
    have HB2 := Lib.hid hb2; have HG2 := Lib.hid (HG1.out.trans hg2); have HA2 := Lib.hid (bytes_keepN HB1.out hg2)
    have hbx := HBOXb.out.grown HG2.out (by simp)
    have b0 := hbx.cell 0; have b1 := hbx.cell 1; have b2 := hbx.cell 2
    simp only [List.getElem?_toArray, List.getElem?_cons_zero, List.getElem?_cons_succ] at b0 b1 b2
    clear hG hg2 hown2 hb2 hbx
    go_wp2_with fail
    refine (codec_put_image_nil epoch seq number kind A n c _).mono ?_
    clear b0 b1 b2
    rintro e w3 hG
    obtain ⟨hg3, rfl⟩ := hG.none_
    have HG3 := Lib.hid (HG2.out.trans hg3); have HA3 := Lib.hid (bytes_keepN HA2.out hg3); have HB3 := Lib.hid (bytes_keepN HB2.out hg3)
    clear hG hg3
    go_wp2_with fail
    refine (same_any _ _ _ A2 256 256 256 c2 L L _ HA3.out HB3.out (by omega) (by omega)).mono ?_
    rintro e w4 ⟨rfl, hdr⟩
    rw [show decide (L = L) = true from by simp]
    have hg4 := drawn_grown hdr none
    have HG4 := Lib.hid (HG3.out.trans hg4); have HA4 := Lib.hid (bytes_keepN HA3.out hg4)
    clear hdr hg4
    go_wp2_with fail
    refine (codec_get_image (W.heap.size + 1) _ _ 256 256 L _ (HRb.out.keep HG4.out (by simp)) HA4.out).mono ?_
    rw [imageR_of HW.out]
    rintro e w5 hS
    obtain ⟨hg5, v5, rfl, hlie⟩ := hS.some_
    obtain ⟨A5, c5, rfl, _, hb5⟩ := hlie.bytes (b := W.heap.size + 1) (by have := HG4.out.size; omega)
    have hg5' := hg5.trans (World.grownBy_alloc w5 (.cells #[.int .i64 number, .int .i64 kind, .slice A5 l.length c5] 49) none)
    have HG5 := Lib.hid (HG4.out.trans hg5'); have HU5 := Lib.hid (Blk.new w5 49 #[.int .i64 number, .int .i64 kind, .slice A5 l.length c5]); have HY5 := Lib.hid (bytes_keepN hb5 (World.grownBy_alloc w5 (.cells #[.int .i64 number, .int .i64 kind, .slice A5 l.length c5] 49) none))
    clear hS hg5 hg5' hlie hb5
    go_wp2_with fail
    refine (codec_get_image_nil _ 256 256 _).mono ?_
    rintro e w6 hS
    obtain ⟨hg6, rfl⟩ := hS.none_
    have hg6' := hg6.trans (World.grownBy_alloc w6 (.cells #[.int .i64 0, .int .i64 0, .slice none 0 0] 49) none)
    have HG6 := Lib.hid (HG5.out.trans hg6'); have HY6 := Lib.hid (bytes_keepN HY5.out hg6')
    have hu := HU5.out.grown hg6' (by simp)
    have u0 := hu.cell 0; have u1 := hu.cell 1; have u2 := hu.cell 2
    have hbx := HBOXb.out.grown HG6.out (by simp)
    have b0 := hbx.cell 0; have b1 := hbx.cell 1; have b2 := hbx.cell 2
    simp only [List.getElem?_toArray, List.getElem?_cons_zero, List.getElem?_cons_succ] at u0 u1 u2 b0 b1 b2
    clear hS hg6 hg6' hu hbx
    go_wp2_with fail
    refine (pages_any _ _ kind kind A5 A _ n c5 c l l _ HY6.out (bytes_keepN HLb.out HG6.out) (by rw [HLb.out.1]; exact HN.out) HN.out).mono ?_
    rintro e w7 ⟨rfl, hg7⟩
    rw [show (decide (kind = kind) && decide (l = l)) = true from by simp]
    have HG7 := Lib.hid (HG6.out.trans hg7)
    clear hg7 u0 u1 u2 b0 b1 b2
    go_wp2_with fail
    go_ret
    exact ⟨rfl, below_of_grown (HGb.out.trans HG7.out) (Nat.le_refl _) (fun _ h => by cases h)⟩
  | none =>
    rintro e w1 hG
    obtain ⟨hg1, rfl⟩ := hG.none_
    have HW := Lib.hid hW; have HG1 := Lib.hid hg1
    have hbx := HBOXb.out.grown hg1 (by simp)
    have b0 := hbx.cell 0; have b1 := hbx.cell 1; have b2 := hbx.cell 2
    simp only [List.getElem?_toArray, List.getElem?_cons_zero, List.getElem?_cons_succ] at b0 b1 b2
    clear hG hg1 hW hbx
    go_wp2_with fail
    refine (ref_put_image _ epoch seq number kind A n c l _ (bytes_keepN HLb.out HG1.out)).mono ?_
    clear b0 b1 b2
    rw [HW.out]
    rintro e w2 hG
    obtain ⟨hg2, rfl⟩ := hG.none_
    have HG2 := Lib.hid (HG1.out.trans hg2)
    have hbx := HBOXb.out.grown HG2.out (by simp)
    have b0 := hbx.cell 0; have b1 := hbx.cell 1; have b2 := hbx.cell 2
    simp only [List.getElem?_toArray, List.getElem?_cons_zero, List.getElem?_cons_succ] at b0 b1 b2
    clear hG hg2 hbx
    go_wp2_with fail
    refine (codec_put_image_nil epoch seq number kind A n c _).mono ?_
    clear b0 b1 b2
    rintro e w3 hG
    obtain ⟨hg3, rfl⟩ := hG.none_
    have HG3 := Lib.hid (HG2.out.trans hg3)
    clear hG hg3
    go_wp2_with fail
    refine (same_any 0 0 none none 0 0 0 0 [] [] _ (Bytes.none_ _ _ _) (Bytes.none_ _ _ _) (by omega) (by omega)).mono ?_
    rintro e w4 ⟨rfl, hdr⟩
    rw [show decide (([] : List Nat) = []) = true from by simp]
    have hg4 := drawn_grown hdr none
    have HG4 := Lib.hid (HG3.out.trans hg4)
    clear hdr hg4
    go_wp2_with fail
    refine (codec_get_image (W.heap.size + 1) 0 none 0 0 [] _ (HRb.out.keep HG4.out (by simp)) (Bytes.none_ _ _ _)).mono ?_
    rw [imageR_none [] (by simp)]
    rintro e w5 hS
    obtain ⟨hg5, rfl⟩ := hS.none_
    have HG5 := Lib.hid (HG4.out.trans (hg5.trans (World.grownBy_alloc w5 (.cells #[.int .i64 0, .int .i64 0, .slice none 0 0] 49) none)))
    clear hS hg5
    go_wp2_with fail
    refine (codec_get_image_nil none 0 0 _).mono ?_
    rintro e w6 hS
    obtain ⟨hg6, rfl⟩ := hS.none_
    have HG6 := Lib.hid (HG5.out.trans (hg6.trans (World.grownBy_alloc w6 (.cells #[.int .i64 0, .int .i64 0, .slice none 0 0] 49) none)))
    clear hS hg6
    go_wp2_with fail
    go_ret
    exact ⟨rfl, below_of_grown (HGb.out.trans HG6.out) (Nat.le_refl _) (fun _ h => by cases h)⟩
end Go.Proofs.Ytkiohneggoiipaa.CodecImage
