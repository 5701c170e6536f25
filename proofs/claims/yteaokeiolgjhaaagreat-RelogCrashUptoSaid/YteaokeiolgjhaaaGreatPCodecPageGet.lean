/- Texts of this seat's proofs: CodecPageGet, CodecImageGet, CodecHeadGet. -/
import Derived.Test.YteaokeiolgjhaaaGreatPCodecPagePut
import Derived.Test.YteaokeiolgjhaaaGreatPRefPageGet
/- The project's GetPage. -/
namespace Go.Proofs.YteaokeiolgjhaaaGreat.Codec
open Go.RowKit CrcMath CodecMath Mem Crc

/-- A slice that is its reader's own, and reads as these bytes. -/
def Lies (w : World) (base : Nat) (v : Value) (l : List Nat) : Prop :=
  ∃ A c, v = .slice A l.length c ∧ l.length ≤ c ∧ (∀ x ∈ l, x < 256) ∧
    (0 < l.length → ∃ g off t L, A = some ⟨g, off, none⟩ ∧ base ≤ g ∧ Blk w g t (u8s L).toArray ∧ off + l.length ≤ L.length ∧ l = (L.drop off).take l.length)
theorem Lies.nil (w : World) (base : Nat) : Lies w base (.slice none 0 0) [] := ⟨none, 0, rfl, Nat.le_refl _, by simp, fun h => by simp at h⟩
theorem Lies.bytes {w : World} {base b : Nat} {v : Value} {l : List Nat} (h : Lies w base v l) (hb : b < base) : ∃ A c, v = .slice A l.length c ∧ l.length ≤ c ∧ Bytes w b A l.length l := by
  obtain ⟨A, c, rfl, hc, hlt, hx⟩ := h
  refine ⟨A, c, rfl, hc, rfl, hlt, fun h0 => ?_⟩
  obtain ⟨g, off, t, L, rfl, hg, hbk, hfit, he⟩ := hx h0
  refine ⟨g, off, rfl, hbk.lt, by omega, fun j hj => ?_⟩
  rw [hbk.cell, List.getElem?_toArray, u8s_at _ _ (by omega)]
  congr 3
  rw [he]
  simp [List.getD_eq_getElem?_getD, hj]
/-- What a call of the project's that reads a page leaves. -/
def SaidPage (w : World) (o : Option (Int × List Nat)) (e : Ending) (w' : World) : Prop :=
  w.grownBy w' none ∧ ((∃ kind body v, o = some (kind, body) ∧ e = .returned (.tuple #[.agg #[.int .i64 kind, v], .bool true]) ∧ Lies w' w.heap.size v body) ∨
    (o = none ∧ e = .returned (.tuple #[.agg #[.int .i64 0, .slice none 0 0], .bool false])))
theorem Rd.move {w W W1 : World} {p g U k n k' n' : Nat} {t tU : TypeId} {L : List Nat} {cs : Array Value} (h : Rd w W p g U k n t tU L cs) (hr : W.grownBy W1 (some p)) (hc : Cur W1 p g k' n') : Rd w W1 p g U k' n' t tU L cs where
  grown := grownBy_new h.grown hr (fun j hj => by cases hj; exact h.hp)
  cur := hc
  arr := h.arr.grown hr (by simpa using fun e => h.pg e.symm)
  box := h.box.grown hr (by simpa using fun e => h.pu e.symm)
  hp := h.hp
  hg := h.hg
  hU := h.hU
  pu := h.pu
  gu := h.gu
  pg := h.pg
theorem body_lies {w : World} {base g : Nat} {t : TypeId} {l : List Nat} (hb : Blk w g t (u8s l).toArray) (hg : base ≤ g) (h256 : l.length = 256) (hlt : ∀ x ∈ l, x < 256) : Lies w base (.slice (some ⟨g, 12, none⟩) 240 240) (bodyOf l) := by
  have hl : (bodyOf l).length = 240 := by simp [bodyOf]; omega
  refine ⟨_, _, by rw [hl], by omega, fun x hx => hlt x (List.mem_of_mem_drop (List.mem_of_mem_take hx)), fun _ => ⟨g, 12, t, l, rfl, hg, hb, by omega, by rw [hl]; rfl⟩⟩

theorem blk_body {w : World} {b g : Nat} {t : TypeId} {l : List Nat} (hb : Blk w g t (u8s l).toArray) (h256 : l.length = 256) (hlt : ∀ x ∈ l, x < 256) (hne : g ≠ b) : Bytes w b (some ⟨g, 12, none⟩) 240 (bodyOf l) := by
  refine ⟨by simp [bodyOf]; omega, fun x hx => hlt x (List.mem_of_mem_drop (List.mem_of_mem_take hx)), fun _ => ⟨g, 12, rfl, hb.lt, hne, fun j hj => ?_⟩⟩
  rw [hb.cell, List.getElem?_toArray, u8s_at _ _ (by omega)]
  congr 3
  simp [bodyOf, List.getD_eq_getElem?_getD, hj]
set_option maxRecDepth 100000 in
set_option maxHeartbeats 3200000 in
theorem codec_get_page (b b2 : Nat) (A : Option Addr) (n c : Nat) (l : List Nat) (number : Int) (w : World) (hR : Ready w b) (hl : Bytes w b2 A n l) :
    Calls Tryz.prog 107 #[.pointer (some ⟨b, 0, none⟩), .slice A n c, .int .i64 number] w (SaidPage w (pageR l number)) := by
  have hlen := hl.1
  have HLT := Lib.hid hl.2.1
  have HBX := Lib.hid (Blk.new w 40 #[.int .i64 0, .slice none 0 0])
  have HG0 := Lib.hid (World.grownBy_alloc w (.cells #[.int .i64 0, .slice none 0 0] 40) none)
  have HLEN := Lib.hid hlen; have HL0 := Lib.hid hl; have HL := Lib.hid (bytes_keepN hl (World.grownBy_alloc w (.cells #[.int .i64 0, .slice none 0 0] 40) none)); have HR := Lib.hid hR; clear hlen hl hR
  by_cases h256 : n = 256
  · subst h256
    have HPR := Lib.hid (show pageR l number = if l = zeros then some (0, []) else if pageW number (num l 4 1) (bodyOf l) = some l then some ((num l 4 1 : Int), bodyOf l) else none from rfl)
    have HW1 := Lib.hid (num_small l 4 1 HLT.out (by omega)).1
    have HW2 := Lib.hid (num_small l 5 4 HLT.out (by omega)).1
    generalize pageR l number = r at *
    go_enter Tryz.func107, Tryz.ntmps107
    go_wp2_with fail
    refine (opensector_any b b2 A c l _ HL.out).mono ?_
    rintro e w1 ⟨rfl, hg1, hb1⟩
    rw [World.size_alloc] at hb1 ⊢
    have hbx1 := HBX.out.grown hg1 (by simp)
    have hsz1 := hg1.size
    rw [World.size_alloc] at hsz1
    have hgw := HG0.out.trans hg1
    have hc1 := cur_new w1 (w.heap.size + 1) 256 0 rfl
    have HB1 := Lib.hid (hb1.alloc (.cells #[.slice (some ⟨w.heap.size + 1, 0, none⟩) 256 256] 155)); have HC1 := Lib.hid hc1
    have HX1 := Lib.hid (hbx1.alloc (.cells #[.slice (some ⟨w.heap.size + 1, 0, none⟩) 256 256] 155))
    have HG1 := Lib.hid (hgw.trans (World.grownBy_alloc w1 (.cells #[.slice (some ⟨w.heap.size + 1, 0, none⟩) 256 256] 155) none))
    have hlt1 := hb1.lt
    clear hg1 hb1 hbx1 hgw hc1
    have HBY := Lib.hid (blk_bytes (b := w1.heap.size) HB1.out (by omega) HLT.out)
    go_wp2_with fail
    refine (never_any w1.heap.size _ 256 256 l _ (by have h := HBY.out; rwa [HLEN.out] at h) (by omega)).mono ?_
    rintro e w2 ⟨rfl, rfl⟩
    cases hz : decide (l = List.replicate 256 0) with
    | true =>
      have hzz : l = zeros := of_decide_eq_true hz
      have HRZ := Lib.hid (show r = some (0, []) by rw [HPR.out, if_pos hzz])
      clear hz hzz
      have x0 := HX1.out.cell 0; have x1 := HX1.out.cell 1; have f0 := HX1.out.frozen 0; have f1 := HX1.out.frozen 1
      simp only [List.getElem?_toArray, List.getElem?_cons_zero, List.getElem?_cons_succ] at x0 x1
      go_wp2_with fail
      refine ret_row2 rfl w.heap.size 40 _ _ rfl (Blk.set2 HX1.out) Tryz.underlying40 rfl (by kernel_rfl) rfl ⟨?_, .inl ⟨0, [], _, HRZ.out, rfl, Lies.nil _ _⟩⟩
      repeat (refine grown_set ?_ (Nat.le_refl _) _)
      exact HG1.out
    | false =>
      have hzz : l ≠ zeros := of_decide_eq_false hz
      have HRN := Lib.hid (show r = if pageW number (num l 4 1) (bodyOf l) = some l then some ((num l 4 1 : Int), bodyOf l) else none by rw [HPR.out, if_neg hzz])
      clear hz hzz
      go_wp2_with fail
      refine (take_any _ _ 0 256 4 _ HC1.out (by omega) (by omega)).mono ?_
      rintro e w2 ⟨⟨k0, rfl, _⟩, hr, hc2⟩
      have hsz2 := hr.size
      rw [World.size_alloc] at hsz2
      have RD0 := Lib.hid (rd_start (tU := 109) (cs := #[.int .i64 0, .int .i64 0, .slice none 0 0]) (grownBy_new HG1.out hr (fun j hj => by cases hj; omega)) hc2 (HB1.out.grown hr (by simp; omega)) (by omega) (by omega) (by omega))
      have HX2 := Lib.hid ((HX1.out.grown hr (by simp; omega)).alloc (.cells #[.int .i64 0, .int .i64 0, .slice none 0 0] 109))
      clear hr hc2
      generalize w1.heap.size = p at *
      go_wp2_with fail
      refine (read_any p (w.heap.size + 1) 4 252 1 118 l _ RD0.out.cur RD0.out.arr (by decide) HLT.out (by omega) (by rw [HLEN.out]; omega) (by rw [HLEN.out]; omega)).mono ?_
      rintro e w3 ⟨rfl, hr, hc⟩
      rw [HW1.out]
      have hbx := RD0.out.box.grown hr (by simpa using fun e => RD0.out.pu e.symm)
      have hcl := hbx.cell 1
      have hfr := hbx.frozen 1
      simp only [List.getElem?_toArray, List.getElem?_cons_zero, List.getElem?_cons_succ] at hcl
      have RD1 := Lib.hid (show Rd w (w3.setCell ⟨w2.heap.size, 1, none⟩ (.int .i64 (num l 4 1 : Nat))) p (w.heap.size + 1) w2.heap.size 5 251 118 109 l #[.int .i64 0, .int .i64 (num l 4 1 : Nat), .slice none 0 0] from RD0.out.step hr hc 1 (.int .i64 (num l 4 1 : Nat)))
      have HX3 := Lib.hid (RD0.out.other HX2.out hr (by omega) (by omega) 1 (.int .i64 (num l 4 1 : Nat)))
      clear hr hc hbx
      go_wp2_with fail
      clear hcl hfr
      refine (read_any p (w.heap.size + 1) 5 251 4 118 l _ RD1.out.cur RD1.out.arr (by decide) HLT.out (by omega) (by rw [HLEN.out]; omega) (by rw [HLEN.out]; omega)).mono ?_
      rintro e w4 ⟨rfl, hr, hc⟩
      rw [HW2.out]
      have hbx := RD1.out.box.grown hr (by simpa using fun e => RD1.out.pu e.symm)
      have hcl := hbx.cell 0
      have hfr := hbx.frozen 0
      simp only [List.getElem?_toArray, List.getElem?_cons_zero] at hcl
      have RD2 := Lib.hid (show Rd w (w4.setCell ⟨w2.heap.size, 0, none⟩ (.int .i64 (num l 5 4 : Nat))) p (w.heap.size + 1) w2.heap.size 9 247 118 109 l #[.int .i64 (num l 5 4 : Nat), .int .i64 (num l 4 1 : Nat), .slice none 0 0] from RD1.out.step hr hc 0 (.int .i64 (num l 5 4 : Nat)))
      have HX4 := Lib.hid (RD1.out.other HX3.out hr (by omega) (by omega) 0 (.int .i64 (num l 5 4 : Nat)))
      clear hr hc hbx
      go_wp2_with fail
      clear hcl hfr
      refine (take_any p (w.heap.size + 1) 9 247 3 _ RD2.out.cur (by omega) (by omega)).mono ?_
      rintro e w5 ⟨⟨k5, rfl, _⟩, hr, hc⟩
      have RD3 := Lib.hid (RD2.out.move hr hc)
      have HX5 := Lib.hid (HX4.out.grown hr (by simp; omega))
      clear hr hc
      go_wp2_with fail
      refine (take_any p (w.heap.size + 1) 12 244 240 _ RD3.out.cur (by omega) (by omega)).mono ?_
      rintro e w6 ⟨⟨k6, rfl, hk6⟩, hr, hc⟩
      obtain rfl := hk6 (by omega)
      have hbx := RD3.out.box.grown hr (by simpa using fun e => RD3.out.pu e.symm)
      have hcl := hbx.cell 2
      have hfr := hbx.frozen 2
      simp only [List.getElem?_toArray, List.getElem?_cons_zero, List.getElem?_cons_succ] at hcl
      have RD4 := Lib.hid (show Rd w (w6.setCell ⟨w2.heap.size, 2, none⟩ (.slice (some ⟨w.heap.size + 1, 12, none⟩) 240 240)) p (w.heap.size + 1) w2.heap.size 252 4 118 109 l #[.int .i64 (num l 5 4 : Nat), .int .i64 (num l 4 1 : Nat), .slice (some ⟨w.heap.size + 1, 12, none⟩) 240 240] from RD3.out.step hr hc 2 _)
      have HX6 := Lib.hid (RD3.out.other HX5.out hr (by omega) (by omega) 2 (.slice (some ⟨w.heap.size + 1, 12, none⟩) 240 240))
      clear hr hc hbx
      have y0 := RD4.out.box.cell 0; have y1 := RD4.out.box.cell 1; have y2 := RD4.out.box.cell 2
      simp only [List.getElem?_toArray, List.getElem?_cons_zero, List.getElem?_cons_succ] at y0 y1 y2
      clear RD0 RD1 RD2 RD3 HX1 HX2 HX3 HX4 HX5
      go_wp2_with fail
      have HBO := Lib.hid (blk_body (b := p) RD4.out.arr HLEN.out HLT.out (by omega))
      have HPF := Lib.hid (fun (nn kk : Int) (h : pageW nn kk (bodyOf l) = some l) => (page_fields h).2.1 : ∀ nn kk : Int, pageW nn kk (bodyOf l) = some l → (num l 5 4 : Int) = nn)
      generalize num l 5 4 = m at *
      generalize num l 4 1 = k at *
      refine (codec_put_page b p m k _ 240 240 (bodyOf l) _ (HR.out.keep RD4.out.grown (by simp)) HBO.out).mono ?_
      clear y0 y1 y2
      rintro e w7 hG
      have HX7 := Lib.hid (HX6.out.grown hG.1 (by simp)); have HG7 := Lib.hid (RD4.out.grown.trans hG.1); have HU7 := Lib.hid (RD4.out.box.grown hG.1 (by simp)); have HA7 := Lib.hid (RD4.out.arr.grown hG.1 (by simp))
      have HGV := Lib.hid hG.2
      clear hG
      have x0 := HX7.out.cell 0; have x1 := HX7.out.cell 1; have f0 := HX7.out.frozen 0; have f1 := HX7.out.frozen 1
      simp only [List.getElem?_toArray, List.getElem?_cons_zero, List.getElem?_cons_succ] at x0 x1
      have y0 := HU7.out.cell 0; have y1 := HU7.out.cell 1; have y2 := HU7.out.cell 2
      simp only [List.getElem?_toArray, List.getElem?_cons_zero, List.getElem?_cons_succ] at y0 y1 y2
      by_cases hm : (m : Int) = number
      · subst hm
        rcases HGV.out with ⟨l', g3, ho, rfl, _, hb3, hlt3⟩ | ⟨ho, rfl⟩
        · have HB3 := Lib.hid (blk_bytes (b := w7.heap.size) hb3 (by have := hb3.lt; omega) hlt3); have HW := Lib.hid ho
          have HL3 := Lib.hid (bytes_keepN HL0.out HG7.out)
          clear ho hb3
          go_wp2_with fail
          refine (comesback_any _ _ A _ _ _ c _ l l' _ HL3.out HB3.out).mono ?_
          rintro e w8 ⟨rfl, rfl⟩
          cases hd : decide (l = l') with
          | true =>
            have hl := of_decide_eq_true hd
            have HRX := Lib.hid (show r = some ((k : Int), bodyOf l) by rw [HRN.out, if_pos (by rw [HW.out, ← hl])])
            clear hd hl
            go_wp2_with fail
            refine ret_row2 rfl w.heap.size 40 _ _ rfl (Blk.set2 HX7.out) Tryz.underlying40 rfl (by kernel_rfl) rfl ⟨?_, .inl ⟨k, bodyOf l, _, HRX.out, rfl, body_lies ((HA7.out.far (by simp) _).far (by simp) _) (by omega) HLEN.out HLT.out⟩⟩
            repeat (refine grown_set ?_ (Nat.le_refl _) _)
            exact HG7.out
          | false =>
            have hl := of_decide_eq_false hd
            have HRX := Lib.hid (show r = none by rw [HRN.out, if_neg (by rw [HW.out]; simpa using fun e => hl e.symm)])
            clear hd hl
            go_wp2_with fail
            refine ret_row2 rfl w.heap.size 40 _ _ rfl (Blk.set2 HX7.out) Tryz.underlying40 rfl (by kernel_rfl) rfl ⟨?_, .inr ⟨HRX.out, rfl⟩⟩
            repeat (refine grown_set ?_ (Nat.le_refl _) _)
            exact HG7.out
        · have HRX := Lib.hid (show r = none by rw [HRN.out, if_neg (by rw [ho]; simp)])
          clear ho
          go_wp2_with fail
          refine (comesback_err A none _ 0 c 0 _).mono ?_
          rintro e w8 ⟨rfl, rfl⟩
          go_wp2_with fail
          refine ret_row2 rfl w.heap.size 40 _ _ rfl (Blk.set2 HX7.out) Tryz.underlying40 rfl (by kernel_rfl) rfl ⟨?_, .inr ⟨HRX.out, rfl⟩⟩
          repeat (refine grown_set ?_ (Nat.le_refl _) _)
          exact HG7.out
      · have HRX := Lib.hid (show r = none by rw [HRN.out, if_neg (fun e => hm (HPF.out _ _ e))])
        have hne : ((m : Int) != number) = true := by simpa using hm
        rcases HGV.out with ⟨l', g3, ho, rfl, _, hb3, hlt3⟩ | ⟨ho, rfl⟩
        · clear ho hb3
          go_wp2_with fail
          refine ret_row2 rfl w.heap.size 40 _ _ rfl (Blk.set2 HX7.out) Tryz.underlying40 rfl (by kernel_rfl) rfl ⟨?_, .inr ⟨HRX.out, rfl⟩⟩
          repeat (refine grown_set ?_ (Nat.le_refl _) _)
          exact HG7.out
        · clear ho
          go_wp2_with fail
          refine ret_row2 rfl w.heap.size 40 _ _ rfl (Blk.set2 HX7.out) Tryz.underlying40 rfl (by kernel_rfl) rfl ⟨?_, .inr ⟨HRX.out, rfl⟩⟩
          repeat (refine grown_set ?_ (Nat.le_refl _) _)
          exact HG7.out
  · have hno := pageR_none l number (by rw [HLEN.out]; exact h256)
    have HNO := Lib.hid hno; clear hno
    generalize pageR l number = r at *
    go_enter Tryz.func107, Tryz.ntmps107
    go_wp2_with fail
    refine (opensector_no b A n c _ h256).mono ?_
    rintro e w1 ⟨rfl, rfl⟩
    go_wp2_with fail
    exact ret_row2 rfl w.heap.size 40 _ _ rfl (HBX.out.alloc _) Tryz.underlying40 rfl (by kernel_rfl) rfl ⟨HG0.out.trans (World.grownBy_alloc _ _ none), .inr ⟨HNO.out, rfl⟩⟩
set_option maxRecDepth 100000 in
set_option maxHeartbeats 800000 in
theorem codec_get_page_nil (A : Option Addr) (n c : Nat) (number : Int) (w : World) :
    Calls Tryz.prog 107 #[.pointer none, .slice A n c, .int .i64 number] w (SaidPage w none) := by
  have HBX := Lib.hid (Blk.new w 40 #[.int .i64 0, .slice none 0 0])
  have HG0 := Lib.hid (World.grownBy_alloc w (.cells #[.int .i64 0, .slice none 0 0] 40) none)
  go_enter Tryz.func107, Tryz.ntmps107
  go_wp2_with fail
  refine (opensector_nil A n c _).mono ?_
  rintro e w1 ⟨rfl, rfl⟩
  go_wp2_with fail
  exact ret_row2 rfl w.heap.size 40 _ _ rfl (HBX.out.alloc _) Tryz.underlying40 rfl (by kernel_rfl) rfl ⟨HG0.out.trans (World.grownBy_alloc _ _ none), .inr ⟨rfl, rfl⟩⟩
end Go.Proofs.YteaokeiolgjhaaaGreat.Codec
/- The project's GetImage. -/
namespace Go.Proofs.YteaokeiolgjhaaaGreat.Codec
open Go.RowKit CrcMath CodecMath Mem Crc

/-- What a call of the project's that reads an image leaves. -/
def SaidImage (w : World) (r : Option (Int × Int × Int × Int × List Nat)) (e : Ending) (w' : World) : Prop :=
  w.grownBy w' none ∧ ((∃ epoch seq number kind body v, r = some (epoch, seq, number, kind, body) ∧ e = .returned (.tuple #[.int .i64 epoch, .int .i64 seq, .agg #[.int .i64 number, .int .i64 kind, v], .bool true]) ∧ Lies w' w.heap.size v body) ∨
    (r = none ∧ e = .returned (.tuple #[.int .i64 0, .int .i64 0, .agg #[.int .i64 0, .int .i64 0, .slice none 0 0], .bool false])))
set_option maxRecDepth 100000 in
set_option maxHeartbeats 3200000 in
theorem codec_get_image (b b2 : Nat) (A : Option Addr) (n c : Nat) (l : List Nat) (w : World) (hR : Ready w b) (hl : Bytes w b2 A n l) :
    Calls Tryz.prog 196 #[.pointer (some ⟨b, 0, none⟩), .slice A n c] w (SaidImage w (imageR l)) := by
  have hlen := hl.1
  have HLT := Lib.hid hl.2.1
  have HBX := Lib.hid (Blk.new w 109 #[.int .i64 0, .int .i64 0, .slice none 0 0])
  have HG0 := Lib.hid (World.grownBy_alloc w (.cells #[.int .i64 0, .int .i64 0, .slice none 0 0] 109) none)
  have HLEN := Lib.hid hlen; have HL0 := Lib.hid hl; have HL := Lib.hid (bytes_keepN hl (World.grownBy_alloc w (.cells #[.int .i64 0, .int .i64 0, .slice none 0 0] 109) none)); have HR := Lib.hid hR; clear hlen hl hR
  by_cases h256 : n = 256
  · subst h256
    have HRN := Lib.hid (show imageR l = if imageW (num l 3 4) (num l 7 5) (num l 1 2) (num l 0 1) (bodyOf l) = some l then some ((num l 3 4 : Int), (num l 7 5 : Int), (num l 1 2 : Int), (num l 0 1 : Int), bodyOf l) else none from rfl)
    have HW1 := Lib.hid (num_small l 0 1 HLT.out (by omega)).1
    have HW2 := Lib.hid (num_small l 1 2 HLT.out (by omega)).1
    have HW3 := Lib.hid (num_small l 3 4 HLT.out (by omega)).1
    have HW4 := Lib.hid (num_small l 7 5 HLT.out (by omega)).1
    generalize imageR l = r at *
    go_enter Tryz.func196, Tryz.ntmps196
    go_wp2_with fail
    refine (opensector_any b b2 A c l _ HL.out).mono ?_
    rintro e w1 ⟨rfl, hg1, hb1⟩
    rw [World.size_alloc] at hb1 ⊢
    have hbx1 := HBX.out.grown hg1 (by simp)
    have hsz1 := hg1.size
    rw [World.size_alloc] at hsz1
    have hgw := HG0.out.trans hg1
    have hlt1 := hb1.lt
    have RD0 := Lib.hid (rd_start (tU := 109) (cs := #[.int .i64 0, .int .i64 0, .slice none 0 0]) (hgw.trans (World.grownBy_alloc w1 (.cells #[.slice (some ⟨w.heap.size + 1, 0, none⟩) 256 256] 155) none)) (cur_new w1 (w.heap.size + 1) 256 0 rfl) (hb1.alloc _) (by omega) (by omega) (by omega))
    simp only [World.size_alloc] at RD0
    have HX2 := Lib.hid ((hbx1.alloc (.cells #[.slice (some ⟨w.heap.size + 1, 0, none⟩) 256 256] 155)).alloc (.cells #[.int .i64 0, .int .i64 0, .slice none 0 0] 109))
    clear hg1 hb1 hbx1 hgw
    go_wp2_with fail
    refine (read_any w1.heap.size (w.heap.size + 1) 0 256 1 118 l _ RD0.out.cur RD0.out.arr (by decide) HLT.out (by omega) (by rw [HLEN.out]; omega) (by rw [HLEN.out]; omega)).mono ?_
    rintro e w3 ⟨rfl, hr, hc⟩
    rw [HW1.out]
    have hbx := RD0.out.box.grown hr (by simp)
    have hcl := hbx.cell 1
    have hfr := hbx.frozen 1
    simp only [List.getElem?_toArray, List.getElem?_cons_zero, List.getElem?_cons_succ] at hcl
    have RD1 := Lib.hid (show Rd w (w3.setCell ⟨w1.heap.size + 1, 1, none⟩ (.int .i64 (num l 0 1 : Nat))) w1.heap.size (w.heap.size + 1) (w1.heap.size + 1) 1 255 118 109 l #[.int .i64 0, .int .i64 (num l 0 1 : Nat), .slice none 0 0] from RD0.out.step hr hc 1 (.int .i64 (num l 0 1 : Nat)))
    have HX3 := Lib.hid (RD0.out.other HX2.out hr (by omega) (by omega) 1 (.int .i64 (num l 0 1 : Nat)))
    clear hr hc hbx
    go_wp2_with fail
    clear hcl hfr
    refine (read_any w1.heap.size (w.heap.size + 1) 1 255 2 118 l _ RD1.out.cur RD1.out.arr (by decide) HLT.out (by omega) (by rw [HLEN.out]; omega) (by rw [HLEN.out]; omega)).mono ?_
    rintro e w4 ⟨rfl, hr, hc⟩
    rw [HW2.out]
    have hbx := RD1.out.box.grown hr (by simp)
    have hcl := hbx.cell 0
    have hfr := hbx.frozen 0
    simp only [List.getElem?_toArray, List.getElem?_cons_zero] at hcl
    have RD2 := Lib.hid (show Rd w (w4.setCell ⟨w1.heap.size + 1, 0, none⟩ (.int .i64 (num l 1 2 : Nat))) w1.heap.size (w.heap.size + 1) (w1.heap.size + 1) 3 253 118 109 l #[.int .i64 (num l 1 2 : Nat), .int .i64 (num l 0 1 : Nat), .slice none 0 0] from RD1.out.step hr hc 0 (.int .i64 (num l 1 2 : Nat)))
    have HX4 := Lib.hid (RD1.out.other HX3.out hr (by omega) (by omega) 0 (.int .i64 (num l 1 2 : Nat)))
    clear hr hc hbx
    go_wp2_with fail
    clear hcl hfr
    refine (read_any w1.heap.size (w.heap.size + 1) 3 253 4 118 l _ RD2.out.cur RD2.out.arr (by decide) HLT.out (by omega) (by rw [HLEN.out]; omega) (by rw [HLEN.out]; omega)).mono ?_
    rintro e w5 ⟨rfl, hr, hc⟩
    rw [HW3.out]
    have RD3 := Lib.hid (RD2.out.move hr hc)
    have HX5 := Lib.hid (HX4.out.grown hr (by simp; omega))
    clear hr hc
    go_wp2_with fail
    refine (read_any w1.heap.size (w.heap.size + 1) 7 249 5 118 l _ RD3.out.cur RD3.out.arr (by decide) HLT.out (by omega) (by rw [HLEN.out]; omega) (by rw [HLEN.out]; omega)).mono ?_
    rintro e w6 ⟨rfl, hr, hc⟩
    rw [HW4.out]
    have RD4 := Lib.hid (RD3.out.move hr hc)
    have HX6 := Lib.hid (HX5.out.grown hr (by simp; omega))
    clear hr hc
    go_wp2_with fail
    refine (take_any w1.heap.size (w.heap.size + 1) 12 244 240 _ RD4.out.cur (by omega) (by omega)).mono ?_
    rintro e w7 ⟨⟨k6, rfl, hk6⟩, hr, hc⟩
    obtain rfl := hk6 (by omega)
    have hbx := RD4.out.box.grown hr (by simp)
    have hcl := hbx.cell 2
    have hfr := hbx.frozen 2
    simp only [List.getElem?_toArray, List.getElem?_cons_zero, List.getElem?_cons_succ] at hcl
    have RD5 := Lib.hid (show Rd w (w7.setCell ⟨w1.heap.size + 1, 2, none⟩ (.slice (some ⟨w.heap.size + 1, 12, none⟩) 240 240)) w1.heap.size (w.heap.size + 1) (w1.heap.size + 1) 252 4 118 109 l #[.int .i64 (num l 1 2 : Nat), .int .i64 (num l 0 1 : Nat), .slice (some ⟨w.heap.size + 1, 12, none⟩) 240 240] from RD4.out.step hr hc 2 _)
    have HX7 := Lib.hid (RD4.out.other HX6.out hr (by omega) (by omega) 2 (.slice (some ⟨w.heap.size + 1, 12, none⟩) 240 240))
    clear hr hc hbx
    have y0 := RD5.out.box.cell 0; have y1 := RD5.out.box.cell 1; have y2 := RD5.out.box.cell 2
    simp only [List.getElem?_toArray, List.getElem?_cons_zero, List.getElem?_cons_succ] at y0 y1 y2
    clear RD0 RD1 RD2 RD3 RD4 HX2 HX3 HX4 HX5 HX6
    go_wp2_with fail
    have HBO := Lib.hid (blk_body (b := w1.heap.size) RD5.out.arr HLEN.out HLT.out (by omega))
    generalize num l 0 1 = k at *
    generalize num l 1 2 = m at *
    generalize num l 3 4 = ep at *
    generalize num l 7 5 = sq at *
    refine (codec_put_image b w1.heap.size ep sq m k _ 240 240 (bodyOf l) _ (HR.out.keep RD5.out.grown (by simp)) HBO.out).mono ?_
    clear y0 y1 y2
    rintro e w8 hG
    have HX8 := Lib.hid (HX7.out.grown hG.1 (by simp)); have HG8 := Lib.hid (RD5.out.grown.trans hG.1); have HU8 := Lib.hid (RD5.out.box.grown hG.1 (by simp)); have HA8 := Lib.hid (RD5.out.arr.grown hG.1 (by simp))
    have HGV := Lib.hid hG.2
    clear hG
    have x0 := HX8.out.cell 0; have x1 := HX8.out.cell 1; have x2 := HX8.out.cell 2; have f0 := HX8.out.frozen 0; have f1 := HX8.out.frozen 1; have f2 := HX8.out.frozen 2
    simp only [List.getElem?_toArray, List.getElem?_cons_zero, List.getElem?_cons_succ] at x0 x1 x2
    have y0 := HU8.out.cell 0; have y1 := HU8.out.cell 1; have y2 := HU8.out.cell 2
    simp only [List.getElem?_toArray, List.getElem?_cons_zero, List.getElem?_cons_succ] at y0 y1 y2
    rcases HGV.out with ⟨l', g3, ho, rfl, _, hb3, hlt3⟩ | ⟨ho, rfl⟩
    · have HB3 := Lib.hid (blk_bytes (b := w8.heap.size) hb3 (by have := hb3.lt; omega) hlt3); have HW := Lib.hid ho
      have HL3 := Lib.hid (bytes_keepN HL0.out HG8.out)
      clear ho hb3
      go_wp2_with fail
      refine (comesback_any _ _ A _ _ _ c _ l l' _ HL3.out HB3.out).mono ?_
      rintro e w9 ⟨rfl, rfl⟩
      cases hd : decide (l = l') with
      | true =>
        have hl := of_decide_eq_true hd
        have HRX := Lib.hid (show r = some ((ep : Int), (sq : Int), (m : Int), (k : Int), bodyOf l) by rw [HRN.out, if_pos (by rw [HW.out, ← hl])])
        clear hd hl
        go_wp2_with fail
        go_region
        all_goals
          go_wp2_with fail
          refine ret_row4 rfl w.heap.size 109 _ _ rfl (Blk.set3 HX8.out.drew) Tryz.underlying109 rfl (by kernel_rfl) rfl ⟨?_, .inl ⟨_, _, _, _, bodyOf l, _, HRX.out, rfl, body_lies (((HA8.out.drew.far (by simp) _).far (by simp) _).far (by simp) _) (by omega) HLEN.out HLT.out⟩⟩
          refine World.grownBy.trans ?_ (grown_drew _ none)
          repeat (refine grown_set ?_ (Nat.le_refl _) _)
          exact HG8.out
      | false =>
        have hl := of_decide_eq_false hd
        have HRX := Lib.hid (show r = none by rw [HRN.out, if_neg (by rw [HW.out]; simpa using fun e => hl e.symm)])
        clear hd hl
        go_wp2_with fail
        refine ret_row4 rfl w.heap.size 109 _ _ rfl (Blk.set3 HX8.out) Tryz.underlying109 rfl (by kernel_rfl) rfl ⟨?_, .inr ⟨HRX.out, rfl⟩⟩
        repeat (refine grown_set ?_ (Nat.le_refl _) _)
        exact HG8.out
    · have HRX := Lib.hid (show r = none by rw [HRN.out, if_neg (by rw [ho]; simp)])
      clear ho
      go_wp2_with fail
      refine (comesback_err A none _ 0 c 0 _).mono ?_
      rintro e w9 ⟨rfl, rfl⟩
      go_wp2_with fail
      refine ret_row4 rfl w.heap.size 109 _ _ rfl (Blk.set3 HX8.out) Tryz.underlying109 rfl (by kernel_rfl) rfl ⟨?_, .inr ⟨HRX.out, rfl⟩⟩
      repeat (refine grown_set ?_ (Nat.le_refl _) _)
      exact HG8.out
  · have hno := imageR_none l (by rw [HLEN.out]; exact h256)
    have HNO := Lib.hid hno; clear hno
    generalize imageR l = r at *
    go_enter Tryz.func196, Tryz.ntmps196
    go_wp2_with fail
    refine (opensector_no b A n c _ h256).mono ?_
    rintro e w1 ⟨rfl, rfl⟩
    go_wp2_with fail
    exact ret_row4 rfl w.heap.size 109 _ _ rfl (HBX.out.alloc _) Tryz.underlying109 rfl (by kernel_rfl) rfl ⟨HG0.out.trans (World.grownBy_alloc _ _ none), .inr ⟨HNO.out, rfl⟩⟩
set_option maxRecDepth 100000 in
set_option maxHeartbeats 800000 in
theorem codec_get_image_nil (A : Option Addr) (n c : Nat) (w : World) :
    Calls Tryz.prog 196 #[.pointer none, .slice A n c] w (SaidImage w none) := by
  have HBX := Lib.hid (Blk.new w 109 #[.int .i64 0, .int .i64 0, .slice none 0 0])
  have HG0 := Lib.hid (World.grownBy_alloc w (.cells #[.int .i64 0, .int .i64 0, .slice none 0 0] 109) none)
  go_enter Tryz.func196, Tryz.ntmps196
  go_wp2_with fail
  refine (opensector_nil A n c _).mono ?_
  rintro e w1 ⟨rfl, rfl⟩
  go_wp2_with fail
  exact ret_row4 rfl w.heap.size 109 _ _ rfl (HBX.out.alloc _) Tryz.underlying109 rfl (by kernel_rfl) rfl ⟨HG0.out.trans (World.grownBy_alloc _ _ none), .inr ⟨rfl, rfl⟩⟩
end Go.Proofs.YteaokeiolgjhaaaGreat.Codec
/- The project's GetHead. -/
namespace Go.Proofs.YteaokeiolgjhaaaGreat.Codec
open Go.RowKit CrcMath CodecMath Mem Crc

/-- What a call of the project's that reads a head leaves. -/
def SaidHead (w : World) (r : Option (Int × Int × List Int × Nat)) (e : Ending) (w' : World) : Prop :=
  w.grownBy w' none ∧ ((∃ epoch seq pages sum v, r = some (epoch, seq, pages, sum) ∧ e = .returned (.tuple #[.agg #[.int .i64 epoch, .int .i64 seq, v, .int .u32 (sum : Nat)], .bool true]) ∧ Own w' w.heap.size 3 1 v pages.length (i64s pages) ∧
      (∀ x ∈ pages, -9223372036854775808 ≤ x ∧ x ≤ 9223372036854775807) ∧ sum < 4294967296) ∨
    (r = none ∧ e = .returned (.tuple #[.agg #[.int .i64 0, .int .i64 0, .slice none 0 0, .int .u32 0], .bool false])))
set_option maxRecDepth 100000 in
set_option maxHeartbeats 3200000 in
theorem codec_get_head (b b2 : Nat) (A : Option Addr) (n c : Nat) (l : List Nat) (w : World) (hR : Ready w b) (hl : Bytes w b2 A n l) :
    Calls Tryz.prog 173 #[.pointer (some ⟨b, 0, none⟩), .slice A n c] w (SaidHead w (headR l)) := by
  have hlen := hl.1
  have HLT := Lib.hid hl.2.1
  have HBX := Lib.hid (Blk.new w 175 #[.int .i64 0, .int .i64 0, .slice none 0 0, .int .u32 0])
  have HG0 := Lib.hid (World.grownBy_alloc w (.cells #[.int .i64 0, .int .i64 0, .slice none 0 0, .int .u32 0] 175) none)
  have HLEN := Lib.hid hlen; have HL0 := Lib.hid hl; have HL := Lib.hid (bytes_keepN hl (World.grownBy_alloc w (.cells #[.int .i64 0, .int .i64 0, .slice none 0 0, .int .u32 0] 175) none)); have HR := Lib.hid hR; clear hlen hl hR
  by_cases h256 : n = 256
  · subst h256
    have hr : headR l = if headW (wrap64 (num l 4 8 : Nat)) (wrap64 (num l 12 8 : Nat)) (numsAt l 26 4 4 (min (num l 24 2) 40)) (num l 20 4) = some l then some (wrap64 (num l 4 8 : Nat), wrap64 (num l 12 8 : Nat), numsAt l 26 4 4 (min (num l 24 2) 40), num l 20 4) else none := rfl
    have hsl := num_lt l 20 4 HLT.out
    have hsl' : num l 20 4 < 4294967296 := hsl
    have hmore : 40 < num l 24 2 → headR l = none := fun h => by
      rw [hr, if_neg (fun e => ?_)]
      have := (head_fields hsl' e).2.2.2.1
      rw [numsAt_length] at this
      omega
    have HRR := Lib.hid hr; have HMORE := Lib.hid hmore; have HSL := Lib.hid hsl'; clear hr hmore hsl hsl'
    have HW2 := Lib.hid (num_small l 20 4 HLT.out (by omega)).1
    have HW3 := Lib.hid (num_small l 24 2 HLT.out (by omega)).1
    generalize headR l = r at *
    go_enter Tryz.func173, Tryz.ntmps173
    go_wp2_with fail
    refine (opensector_any b b2 A c l _ HL.out).mono ?_
    rintro e w1 ⟨rfl, hg1, hb1⟩
    rw [World.size_alloc] at hb1 ⊢
    have hbx1 := HBX.out.grown hg1 (by simp)
    have hsz1 := hg1.size
    rw [World.size_alloc] at hsz1
    have hgw := HG0.out.trans hg1
    have hc1 := cur_new w1 (w.heap.size + 1) 256 0 rfl
    have HB1 := Lib.hid (hb1.alloc (.cells #[.slice (some ⟨w.heap.size + 1, 0, none⟩) 256 256] 155)); have HC1 := Lib.hid hc1
    have HX1 := Lib.hid (hbx1.alloc (.cells #[.slice (some ⟨w.heap.size + 1, 0, none⟩) 256 256] 155))
    have HG1 := Lib.hid (hgw.trans (World.grownBy_alloc w1 (.cells #[.slice (some ⟨w.heap.size + 1, 0, none⟩) 256 256] 155) none))
    have hlt1 := hb1.lt
    clear hg1 hb1 hbx1 hgw hc1
    go_wp2_with fail
    refine (take_any _ _ 0 256 4 _ HC1.out (by omega) (by omega)).mono ?_
    rintro e w2 ⟨⟨k0, rfl, _⟩, hr, hc2⟩
    have hsz2 := hr.size
    rw [World.size_alloc] at hsz2
    have RD0 := Lib.hid (rd_start (tU := 175) (cs := #[.int .i64 0, .int .i64 0, .slice none 0 0, .int .u32 0]) (grownBy_new HG1.out hr (fun j hj => by cases hj; omega)) hc2 (HB1.out.grown hr (by simp; omega)) (by omega) (by omega) (by omega))
    have HX2 := Lib.hid ((HX1.out.grown hr (by simp; omega)).alloc (.cells #[.int .i64 0, .int .i64 0, .slice none 0 0, .int .u32 0] 175))
    clear hr hc2
    generalize w1.heap.size = p at *
    go_wp2_with fail
    refine (read_any p (w.heap.size + 1) 4 252 8 118 l _ RD0.out.cur RD0.out.arr (by decide) HLT.out (by omega) (by rw [HLEN.out]; omega) (by rw [HLEN.out]; omega)).mono ?_
    rintro e w3 ⟨rfl, hr, hc⟩
    generalize wrap64 ((num l 4 8 : Nat) : Int) = ep at *
    have hbx := RD0.out.box.grown hr (by simpa using fun e => RD0.out.pu e.symm)
    have hcl := hbx.cell 0
    have hfr := hbx.frozen 0
    simp only [List.getElem?_toArray, List.getElem?_cons_zero] at hcl
    have RD1 := Lib.hid (show Rd w (w3.setCell ⟨w2.heap.size, 0, none⟩ (.int .i64 ep)) p (w.heap.size + 1) w2.heap.size 12 244 118 175 l #[.int .i64 ep, .int .i64 0, .slice none 0 0, .int .u32 0] from RD0.out.step hr hc 0 (.int .i64 ep))
    have HX3 := Lib.hid (RD0.out.other HX2.out hr (by omega) (by omega) 0 (.int .i64 ep))
    clear hr hc hbx
    go_wp2_with fail
    clear hcl hfr
    refine (read_any p (w.heap.size + 1) 12 244 8 118 l _ RD1.out.cur RD1.out.arr (by decide) HLT.out (by omega) (by rw [HLEN.out]; omega) (by rw [HLEN.out]; omega)).mono ?_
    rintro e w4 ⟨rfl, hr, hc⟩
    generalize wrap64 ((num l 12 8 : Nat) : Int) = sq at *
    have hbx := RD1.out.box.grown hr (by simpa using fun e => RD1.out.pu e.symm)
    have hcl := hbx.cell 1
    have hfr := hbx.frozen 1
    simp only [List.getElem?_toArray, List.getElem?_cons_zero, List.getElem?_cons_succ] at hcl
    have RD2 := Lib.hid (show Rd w (w4.setCell ⟨w2.heap.size, 1, none⟩ (.int .i64 sq)) p (w.heap.size + 1) w2.heap.size 20 236 118 175 l #[.int .i64 ep, .int .i64 sq, .slice none 0 0, .int .u32 0] from RD1.out.step hr hc 1 (.int .i64 sq))
    have HX4 := Lib.hid (RD1.out.other HX3.out hr (by omega) (by omega) 1 (.int .i64 sq))
    clear hr hc hbx
    go_wp2_with fail
    clear hcl hfr
    refine (read_any p (w.heap.size + 1) 20 236 4 118 l _ RD2.out.cur RD2.out.arr (by decide) HLT.out (by omega) (by rw [HLEN.out]; omega) (by rw [HLEN.out]; omega)).mono ?_
    rintro e w5 ⟨rfl, hr, hc⟩
    rw [HW2.out]
    generalize num l 20 4 = sm at *
    have hsm : (sm : Int) % 4294967296 = sm := by have := HSL.out; omega
    have hbx := RD2.out.box.grown hr (by simpa using fun e => RD2.out.pu e.symm)
    have hcl := hbx.cell 3
    have hfr := hbx.frozen 3
    simp only [List.getElem?_toArray, List.getElem?_cons_zero, List.getElem?_cons_succ] at hcl
    have RD3 := Lib.hid (show Rd w (w5.setCell ⟨w2.heap.size, 3, none⟩ (.int .u32 (sm : Nat))) p (w.heap.size + 1) w2.heap.size 24 232 118 175 l #[.int .i64 ep, .int .i64 sq, .slice none 0 0, .int .u32 (sm : Nat)] from RD2.out.step hr hc 3 (.int .u32 (sm : Nat)))
    have HX5 := Lib.hid (RD2.out.other HX4.out hr (by omega) (by omega) 3 (.int .u32 (sm : Nat)))
    clear hr hc hbx
    go_wp2_with fail
    clear hcl hfr
    clear hsm
    refine (read_any p (w.heap.size + 1) 24 232 2 118 l _ RD3.out.cur RD3.out.arr (by decide) HLT.out (by omega) (by rw [HLEN.out]; omega) (by rw [HLEN.out]; omega)).mono ?_
    rintro e w6 ⟨rfl, hr, hc⟩
    rw [HW3.out]
    have RD4 := Lib.hid (RD3.out.move hr hc)
    have HX6 := Lib.hid (HX5.out.grown hr (by simp; omega))
    clear hr hc RD0 RD1 RD2 RD3 HX1 HX2 HX3 HX4 HX5
    by_cases h8 : 40 < num l 24 2
    · have HNO := Lib.hid (HMORE.out h8)
      have h8'' : (40 : Int) < ((num l 24 2 : Nat) : Int) := by omega
      have x0 := HX6.out.cell 0; have x1 := HX6.out.cell 1; have x2 := HX6.out.cell 2; have x3 := HX6.out.cell 3; have f0 := HX6.out.frozen 0; have f1 := HX6.out.frozen 1; have f2 := HX6.out.frozen 2; have f3 := HX6.out.frozen 3
      simp only [List.getElem?_toArray, List.getElem?_cons_zero, List.getElem?_cons_succ] at x0 x1 x2 x3
      go_wp2_with fail
      refine ret_row2 rfl w.heap.size 175 _ _ rfl (Blk.set4 HX6.out) Tryz.underlying175 rfl (by kernel_rfl) rfl ⟨?_, .inr ⟨HNO.out, rfl⟩⟩
      repeat (refine grown_set ?_ (Nat.le_refl _) _)
      exact RD4.out.grown
    · obtain ⟨N, hN⟩ : ∃ N, N = num l 24 2 := ⟨_, rfl⟩
      have hN40 : N ≤ 40 := by omega
      have HRN := Lib.hid (show r = if headW ep sq (numsAt l 26 4 4 N) sm = some l then some (ep, sq, numsAt l 26 4 4 N, sm) else none by rw [HRR.out, Nat.min_eq_left (by omega), ← hN])
      rw [← hN]
      clear h8 hN HRR HMORE
      have h8'' : ¬ ((40 : Int) < ((N : Nat) : Int)) := by omega
      go_wp2_with fail
      refine (readall_any p (w.heap.size + 1) 26 230 N 4 118 l _ RD4.out.cur RD4.out.arr (by decide) HLT.out (by omega) (by rw [HLEN.out]; omega) (by rw [HLEN.out]; omega) (by omega) (by omega)).mono ?_
      rintro e w7 ⟨v, rfl, hown, hr, hc⟩
      have HRG := Lib.hid (nums_range l 26 4 4 N HLT.out (by omega))
      obtain ⟨A7, c7, rfl, _, _, _⟩ := own_ints hown HRG.out
      have hbx := RD4.out.box.grown hr (by simpa using fun e => RD4.out.pu e.symm)
      have hcl := hbx.cell 2
      have hfr := hbx.frozen 2
      simp only [List.getElem?_toArray, List.getElem?_cons_zero, List.getElem?_cons_succ] at hcl
      have RD5 := Lib.hid (show Rd w (w7.setCell ⟨w2.heap.size, 2, none⟩ (.slice A7 N c7)) p (w.heap.size + 1) w2.heap.size (26 + 4 * N) (230 - 4 * N) 118 175 l #[.int .i64 ep, .int .i64 sq, .slice A7 N c7, .int .u32 (sm : Nat)] from RD4.out.step hr hc 2 _)
      have HX7 := Lib.hid (RD4.out.other HX6.out hr (by omega) (by omega) 2 (.slice A7 N c7))
      have HOW := Lib.hid (Own.set_far (g := w2.heap.size) (i := 2) hown RD4.out.box.lt (.slice A7 N c7))
      have hszU := RD4.out.box.lt
      clear hr hc hbx hown
      have y0 := RD5.out.box.cell 0; have y1 := RD5.out.box.cell 1; have y2 := RD5.out.box.cell 2; have y3 := RD5.out.box.cell 3
      simp only [List.getElem?_toArray, List.getElem?_cons_zero, List.getElem?_cons_succ] at y0 y1 y2 y3
      go_wp2_with fail
      obtain ⟨A7', c7', he7, hin, _, _⟩ := own_ints HOW.out HRG.out
      simp only [Value.slice.injEq, true_and] at he7
      obtain ⟨rfl, rfl⟩ := he7
      have HIN := Lib.hid hin; clear hin
      refine (codec_put_head b _ ep sq A7 N c7 (numsAt l 26 4 4 N) sm _ (HR.out.keep RD5.out.grown (by simp)) HIN.out (by omega) HSL.out).mono ?_
      clear y0 y1 y2 y3 hcl hfr
      rintro e w8 hG
      have HX8 := Lib.hid (HX7.out.grown hG.1 (by simp)); have HG8 := Lib.hid (RD5.out.grown.trans hG.1); have HU8 := Lib.hid (RD5.out.box.grown hG.1 (by simp)); have HOW8 := Lib.hid (HOW.out.keep hG.1 (by simp))
      have HGV := Lib.hid hG.2
      clear hG
      have x0 := HX8.out.cell 0; have x1 := HX8.out.cell 1; have x2 := HX8.out.cell 2; have x3 := HX8.out.cell 3; have f0 := HX8.out.frozen 0; have f1 := HX8.out.frozen 1; have f2 := HX8.out.frozen 2; have f3 := HX8.out.frozen 3
      have y0 := HU8.out.cell 0; have y1 := HU8.out.cell 1; have y2 := HU8.out.cell 2; have y3 := HU8.out.cell 3
      have hul := HU8.out.lt
      simp only [List.getElem?_toArray, List.getElem?_cons_zero, List.getElem?_cons_succ] at x0 x1 x2 x3 y0 y1 y2 y3
      rcases HGV.out with ⟨l', g3, ho, rfl, _, hb3, hlt3⟩ | ⟨ho, rfl⟩
      · have HB3 := Lib.hid (blk_bytes (b := w8.heap.size) hb3 (by have := hb3.lt; omega) hlt3); have HW := Lib.hid ho
        have HL3 := Lib.hid (bytes_keepN HL0.out HG8.out)
        clear ho hb3
        go_wp2_with fail
        refine (comesback_any _ _ A _ _ _ c _ l l' _ HL3.out HB3.out).mono ?_
        rintro e w9 ⟨rfl, rfl⟩
        cases hd : decide (l = l') with
        | true =>
          have hl := of_decide_eq_true hd
          have HRX := Lib.hid (show r = some (ep, sq, numsAt l 26 4 4 N, sm) by rw [HRN.out, if_pos (by rw [HW.out, ← hl])])
          clear hd hl
          go_wp2_with fail
          refine ret_row2 rfl w.heap.size 175 _ _ rfl (Blk.set4 HX8.out) Tryz.underlying175 rfl (by kernel_rfl) rfl ⟨?_, .inl ⟨ep, sq, numsAt l 26 4 4 N, sm, _, HRX.out, rfl, ?_, HRG.out, HSL.out⟩⟩
          · repeat (refine grown_set ?_ (Nat.le_refl _) _)
            exact HG8.out
          · rw [numsAt_length]
            exact (Own.set_far (Own.set_far (Own.set_far (Own.set_far HOW8.out (by omega) _) (by omega) _) (by omega) _) (by omega) _).low (by omega)
        | false =>
          have hl := of_decide_eq_false hd
          have HRX := Lib.hid (show r = none by rw [HRN.out, if_neg (by rw [HW.out]; simpa using fun e => hl e.symm)])
          clear hd hl
          go_wp2_with fail
          refine ret_row2 rfl w.heap.size 175 _ _ rfl (Blk.set4 HX8.out) Tryz.underlying175 rfl (by kernel_rfl) rfl ⟨?_, .inr ⟨HRX.out, rfl⟩⟩
          repeat (refine grown_set ?_ (Nat.le_refl _) _)
          exact HG8.out
      · have HRX := Lib.hid (show r = none by rw [HRN.out, if_neg (by rw [ho]; simp)])
        clear ho
        go_wp2_with fail
        refine (comesback_err A none _ 0 c 0 _).mono ?_
        rintro e w9 ⟨rfl, rfl⟩
        go_wp2_with fail
        refine ret_row2 rfl w.heap.size 175 _ _ rfl (Blk.set4 HX8.out) Tryz.underlying175 rfl (by kernel_rfl) rfl ⟨?_, .inr ⟨HRX.out, rfl⟩⟩
        repeat (refine grown_set ?_ (Nat.le_refl _) _)
        exact HG8.out
  · have hno := headR_none l (by rw [HLEN.out]; exact h256)
    have HNO := Lib.hid hno; clear hno
    generalize headR l = r at *
    go_enter Tryz.func173, Tryz.ntmps173
    go_wp2_with fail
    refine (opensector_no b A n c _ h256).mono ?_
    rintro e w1 ⟨rfl, rfl⟩
    go_wp2_with fail
    exact ret_row2 rfl w.heap.size 175 _ _ rfl (HBX.out.alloc _) Tryz.underlying175 rfl (by kernel_rfl) rfl ⟨HG0.out.trans (World.grownBy_alloc _ _ none), .inr ⟨HNO.out, rfl⟩⟩
set_option maxRecDepth 100000 in
set_option maxHeartbeats 800000 in
theorem codec_get_head_nil (A : Option Addr) (n c : Nat) (w : World) :
    Calls Tryz.prog 173 #[.pointer none, .slice A n c] w (SaidHead w none) := by
  have HBX := Lib.hid (Blk.new w 175 #[.int .i64 0, .int .i64 0, .slice none 0 0, .int .u32 0])
  have HG0 := Lib.hid (World.grownBy_alloc w (.cells #[.int .i64 0, .int .i64 0, .slice none 0 0, .int .u32 0] 175) none)
  go_enter Tryz.func173, Tryz.ntmps173
  go_wp2_with fail
  refine (opensector_nil A n c _).mono ?_
  rintro e w1 ⟨rfl, rfl⟩
  go_wp2_with fail
  exact ret_row2 rfl w.heap.size 175 _ _ rfl (HBX.out.alloc _) Tryz.underlying175 rfl (by kernel_rfl) rfl ⟨HG0.out.trans (World.grownBy_alloc _ _ none), .inr ⟨rfl, rfl⟩⟩
end Go.Proofs.YteaokeiolgjhaaaGreat.Codec
