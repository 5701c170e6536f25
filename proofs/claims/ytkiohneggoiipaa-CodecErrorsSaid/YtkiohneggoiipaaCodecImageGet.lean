/- The project's GetImage. -/
import Derived.Test.YtkiohneggoiipaaCodecPageGet
import Derived.Test.YtkiohneggoiipaaRefImageGet
namespace Go.Proofs.Ytkiohneggoiipaa.Codec
open Go.RowKit CrcMath CodecMath Mem Crc

/-- What a call of the project's that reads an image leaves. -/
def SaidImage (w : World) (r : Option (Int × Int × Int × Int × List Nat)) (e : Ending) (w' : World) : Prop :=
  w.grownBy w' none ∧ ((∃ epoch seq number kind body v, r = some (epoch, seq, number, kind, body) ∧ e = .returned (.tuple #[.int .i64 epoch, .int .i64 seq, .agg #[.int .i64 number, .int .i64 kind, v], .bool true]) ∧ Lies w' w.heap.size v body) ∨
    (r = none ∧ e = .returned (.tuple #[.int .i64 0, .int .i64 0, .agg #[.int .i64 0, .int .i64 0, .slice none 0 0], .bool false])))
set_option maxRecDepth 100000 in
set_option maxHeartbeats 3200000 in
theorem codec_get_image (b b2 : Nat) (A : Option Addr) (n c : Nat) (l : List Nat) (w : World) (hR : Ready w b) (hl : Bytes w b2 A n l) :
    Calls Try.prog 30 #[.pointer (some ⟨b, 0, none⟩), .slice A n c] w (SaidImage w (imageR l)) := by
  have hlen := hl.1
  have HLT := Lib.hid hl.2.1
  have HBX := Lib.hid (Blk.new w 49 #[.int .i64 0, .int .i64 0, .slice none 0 0])
  have HG0 := Lib.hid (World.grownBy_alloc w (.cells #[.int .i64 0, .int .i64 0, .slice none 0 0] 49) none)
  have HLEN := Lib.hid hlen; have HL0 := Lib.hid hl; have HL := Lib.hid (bytes_keepN hl (World.grownBy_alloc w (.cells #[.int .i64 0, .int .i64 0, .slice none 0 0] 49) none)); have HR := Lib.hid hR; clear hlen hl hR
  by_cases h256 : n = 256
  · subst h256
    have HRN := Lib.hid (show imageR l = if imageW (num l 3 4) (num l 7 5) (num l 1 2) (num l 0 1) (bodyOf l) = some l then some ((num l 3 4 : Int), (num l 7 5 : Int), (num l 1 2 : Int), (num l 0 1 : Int), bodyOf l) else none from rfl)
    have HW1 := Lib.hid (num_small l 0 1 HLT.out (by omega)).1
    have HW2 := Lib.hid (num_small l 1 2 HLT.out (by omega)).1
    have HW3 := Lib.hid (num_small l 3 4 HLT.out (by omega)).1
    have HW4 := Lib.hid (num_small l 7 5 HLT.out (by omega)).1
    generalize imageR l = r at *
    go_enter Try.func30, Try.ntmps30
    go_wp2_with fail
    refine (opensector_any b b2 A c l _ HL.out).mono ?_
    rintro e w1 ⟨rfl, hg1, hb1⟩
    rw [World.size_alloc] at hb1 ⊢
    have hbx1 := HBX.out.grown hg1 (by simp)
    have hsz1 := hg1.size
    rw [World.size_alloc] at hsz1
    have hgw := HG0.out.trans hg1
    have hlt1 := hb1.lt
    have RD0 := Lib.hid (rd_start (tU := 49) (cs := #[.int .i64 0, .int .i64 0, .slice none 0 0]) (hgw.trans (World.grownBy_alloc w1 (.cells #[.slice (some ⟨w.heap.size + 1, 0, none⟩) 256 256] 108) none)) (cur_new w1 (w.heap.size + 1) 256 0 rfl) (hb1.alloc _) (by omega) (by omega) (by omega))
    simp only [World.size_alloc] at RD0
    have HX2 := Lib.hid ((hbx1.alloc (.cells #[.slice (some ⟨w.heap.size + 1, 0, none⟩) 256 256] 108)).alloc (.cells #[.int .i64 0, .int .i64 0, .slice none 0 0] 49))
    clear hg1 hb1 hbx1 hgw
    go_wp2_with fail
    refine (read_any w1.heap.size (w.heap.size + 1) 0 256 1 107 l _ RD0.out.cur RD0.out.arr (by decide) HLT.out (by omega) (by rw [HLEN.out]; omega) (by rw [HLEN.out]; omega)).mono ?_
    rintro e w3 ⟨rfl, hr, hc⟩
    rw [HW1.out]
    have hbx := RD0.out.box.grown hr (by simp)
    have hcl := hbx.cell 1
    have hfr := hbx.frozen 1
    simp only [List.getElem?_toArray, List.getElem?_cons_zero, List.getElem?_cons_succ] at hcl
    have RD1 := Lib.hid (show Rd w (w3.setCell ⟨w1.heap.size + 1, 1, none⟩ (.int .i64 (num l 0 1 : Nat))) w1.heap.size (w.heap.size + 1) (w1.heap.size + 1) 1 255 107 49 l #[.int .i64 0, .int .i64 (num l 0 1 : Nat), .slice none 0 0] from RD0.out.step hr hc 1 (.int .i64 (num l 0 1 : Nat)))
    have HX3 := Lib.hid (RD0.out.other HX2.out hr (by omega) (by omega) 1 (.int .i64 (num l 0 1 : Nat)))
    clear hr hc hbx
    go_wp2_with fail
    clear hcl hfr
    refine (read_any w1.heap.size (w.heap.size + 1) 1 255 2 107 l _ RD1.out.cur RD1.out.arr (by decide) HLT.out (by omega) (by rw [HLEN.out]; omega) (by rw [HLEN.out]; omega)).mono ?_
    rintro e w4 ⟨rfl, hr, hc⟩
    rw [HW2.out]
    have hbx := RD1.out.box.grown hr (by simp)
    have hcl := hbx.cell 0
    have hfr := hbx.frozen 0
    simp only [List.getElem?_toArray, List.getElem?_cons_zero] at hcl
    have RD2 := Lib.hid (show Rd w (w4.setCell ⟨w1.heap.size + 1, 0, none⟩ (.int .i64 (num l 1 2 : Nat))) w1.heap.size (w.heap.size + 1) (w1.heap.size + 1) 3 253 107 49 l #[.int .i64 (num l 1 2 : Nat), .int .i64 (num l 0 1 : Nat), .slice none 0 0] from RD1.out.step hr hc 0 (.int .i64 (num l 1 2 : Nat)))
    have HX4 := Lib.hid (RD1.out.other HX3.out hr (by omega) (by omega) 0 (.int .i64 (num l 1 2 : Nat)))
    clear hr hc hbx
    go_wp2_with fail
    clear hcl hfr
    refine (read_any w1.heap.size (w.heap.size + 1) 3 253 4 107 l _ RD2.out.cur RD2.out.arr (by decide) HLT.out (by omega) (by rw [HLEN.out]; omega) (by rw [HLEN.out]; omega)).mono ?_
    rintro e w5 ⟨rfl, hr, hc⟩
    rw [HW3.out]
    have RD3 := Lib.hid (RD2.out.move hr hc)
    have HX5 := Lib.hid (HX4.out.grown hr (by simp; omega))
    clear hr hc
    go_wp2_with fail
    refine (read_any w1.heap.size (w.heap.size + 1) 7 249 5 107 l _ RD3.out.cur RD3.out.arr (by decide) HLT.out (by omega) (by rw [HLEN.out]; omega) (by rw [HLEN.out]; omega)).mono ?_
    rintro e w6 ⟨rfl, hr, hc⟩
    rw [HW4.out]
    have RD4 := Lib.hid (RD3.out.move hr hc)
    have HX6 := Lib.hid (HX5.out.grown hr (by simp; omega))
    clear hr hc
    go_wp2_with fail
    refine (take_any w1.heap.size (w.heap.size + 1) 12 244 240 _ RD4.out.cur (by omega) (by omega)).mono ?_
    rintro e w7 ⟨⟨k6, rfl, hk6⟩, hr, hc⟩
    obtain rfl := hk6 (by omega)
    have hbx := RD4.out.box.grown hr (by simp)
    have hcl := hbx.cell 2
    have hfr := hbx.frozen 2
    simp only [List.getElem?_toArray, List.getElem?_cons_zero, List.getElem?_cons_succ] at hcl
    have RD5 := Lib.hid (show Rd w (w7.setCell ⟨w1.heap.size + 1, 2, none⟩ (.slice (some ⟨w.heap.size + 1, 12, none⟩) 240 240)) w1.heap.size (w.heap.size + 1) (w1.heap.size + 1) 252 4 107 49 l #[.int .i64 (num l 1 2 : Nat), .int .i64 (num l 0 1 : Nat), .slice (some ⟨w.heap.size + 1, 12, none⟩) 240 240] from RD4.out.step hr hc 2 _)
    have HX7 := Lib.hid (RD4.out.other HX6.out hr (by omega) (by omega) 2 (.slice (some ⟨w.heap.size + 1, 12, none⟩) 240 240))
    clear hr hc hbx
    have y0 := RD5.out.box.cell 0; have y1 := RD5.out.box.cell 1; have y2 := RD5.out.box.cell 2
    simp only [List.getElem?_toArray, List.getElem?_cons_zero, List.getElem?_cons_succ] at y0 y1 y2
    clear RD0 RD1 RD2 RD3 RD4 HX2 HX3 HX4 HX5 HX6
    go_wp2_with fail
    have HBO := Lib.hid (blk_body (b := w1.heap.size) RD5.out.arr HLEN.out HLT.out (by omega))
    generalize num l 0 1 = k at *
    generalize num l 1 2 = m at *
    generalize num l 3 4 = ep at *
    generalize num l 7 5 = sq at *
    refine (codec_put_image b w1.heap.size ep sq m k _ 240 240 (bodyOf l) _ (HR.out.keep RD5.out.grown (by simp)) HBO.out).mono ?_
    clear y0 y1 y2
    rintro e w8 hG
    have HX8 := Lib.hid (HX7.out.grown hG.1 (by simp)); have HG8 := Lib.hid (RD5.out.grown.trans hG.1); have HU8 := Lib.hid (RD5.out.box.grown hG.1 (by simp)); have HA8 := Lib.hid (RD5.out.arr.grown hG.1 (by simp))
    have HGV := Lib.hid hG.2
    clear hG
    have x0 := HX8.out.cell 0; have x1 := HX8.out.cell 1; have x2 := HX8.out.cell 2; have f0 := HX8.out.frozen 0; have f1 := HX8.out.frozen 1; have f2 := HX8.out.frozen 2
    simp only [List.getElem?_toArray, List.getElem?_cons_zero, List.getElem?_cons_succ] at x0 x1 x2
    have y0 := HU8.out.cell 0; have y1 := HU8.out.cell 1; have y2 := HU8.out.cell 2
    simp only [List.getElem?_toArray, List.getElem?_cons_zero, List.getElem?_cons_succ] at y0 y1 y2
    rcases HGV.out with ⟨l', g3, ho, rfl, _, hb3, hlt3⟩ | ⟨ho, rfl⟩
    · have HB3 := Lib.hid (blk_bytes (b := w8.heap.size) hb3 (by have := hb3.lt; omega) hlt3); have HW := Lib.hid ho
      have HL3 := Lib.hid (bytes_keepN HL0.out HG8.out)
      clear ho hb3
      go_wp2_with fail
      refine (comesback_any _ _ A _ _ _ c _ l l' _ HL3.out HB3.out).mono ?_
      rintro e w9 ⟨rfl, rfl⟩
      cases hd : decide (l = l') with
      | true =>
        have hl := of_decide_eq_true hd
        have HRX := Lib.hid (show r = some ((ep : Int), (sq : Int), (m : Int), (k : Int), bodyOf l) by rw [HRN.out, if_pos (by rw [HW.out, ← hl])])
        clear hd hl
        go_wp2_with fail
        go_region
        all_goals
          go_wp2_with fail
          refine ret_row4 rfl w.heap.size 49 _ _ rfl (Blk.set3 HX8.out.drew) Try.underlying49 rfl (by kernel_rfl) rfl ⟨?_, .inl ⟨_, _, _, _, bodyOf l, _, HRX.out, rfl, body_lies (((HA8.out.drew.far (by simp) _).far (by simp) _).far (by simp) _) (by omega) HLEN.out HLT.out⟩⟩
          refine World.grownBy.trans ?_ (grown_drew _ none)
          repeat (refine grown_set ?_ (Nat.le_refl _) _)
          exact HG8.out
      | false =>
        have hl := of_decide_eq_false hd
        have HRX := Lib.hid (show r = none by rw [HRN.out, if_neg (by rw [HW.out]; simpa using fun e => hl e.symm)])
        clear hd hl
        go_wp2_with fail
        refine ret_row4 rfl w.heap.size 49 _ _ rfl (Blk.set3 HX8.out) Try.underlying49 rfl (by kernel_rfl) rfl ⟨?_, .inr ⟨HRX.out, rfl⟩⟩
        repeat (refine grown_set ?_ (Nat.le_refl _) _)
        exact HG8.out
    · have HRX := Lib.hid (show r = none by rw [HRN.out, if_neg (by rw [ho]; simp)])
      clear ho
      go_wp2_with fail
      refine (comesback_err A none _ 0 c 0 _).mono ?_
      rintro e w9 ⟨rfl, rfl⟩
      go_wp2_with fail
      refine ret_row4 rfl w.heap.size 49 _ _ rfl (Blk.set3 HX8.out) Try.underlying49 rfl (by kernel_rfl) rfl ⟨?_, .inr ⟨HRX.out, rfl⟩⟩
      repeat (refine grown_set ?_ (Nat.le_refl _) _)
      exact HG8.out
  · have hno := imageR_none l (by rw [HLEN.out]; exact h256)
    have HNO := Lib.hid hno; clear hno
    generalize imageR l = r at *
    go_enter Try.func30, Try.ntmps30
    go_wp2_with fail
    refine (opensector_no b A n c _ h256).mono ?_
    rintro e w1 ⟨rfl, rfl⟩
    go_wp2_with fail
    exact ret_row4 rfl w.heap.size 49 _ _ rfl (HBX.out.alloc _) Try.underlying49 rfl (by kernel_rfl) rfl ⟨HG0.out.trans (World.grownBy_alloc _ _ none), .inr ⟨HNO.out, rfl⟩⟩
set_option maxRecDepth 100000 in
set_option maxHeartbeats 800000 in
theorem codec_get_image_nil (A : Option Addr) (n c : Nat) (w : World) :
    Calls Try.prog 30 #[.pointer none, .slice A n c] w (SaidImage w none) := by
  have HBX := Lib.hid (Blk.new w 49 #[.int .i64 0, .int .i64 0, .slice none 0 0])
  have HG0 := Lib.hid (World.grownBy_alloc w (.cells #[.int .i64 0, .int .i64 0, .slice none 0 0] 49) none)
  go_enter Try.func30, Try.ntmps30
  go_wp2_with fail
  refine (opensector_nil A n c _).mono ?_
  rintro e w1 ⟨rfl, rfl⟩
  go_wp2_with fail
  exact ret_row4 rfl w.heap.size 49 _ _ rfl (HBX.out.alloc _) Try.underlying49 rfl (by kernel_rfl) rfl ⟨HG0.out.trans (World.grownBy_alloc _ _ none), .inr ⟨rfl, rfl⟩⟩
end Go.Proofs.Ytkiohneggoiipaa.Codec
