/- The project's GetPage. -/
import Derived.Test.YtkiohneggoiipaaCodecImagePut
import Derived.Test.YtkiohneggoiipaaRefPageGet
namespace Go.Proofs.Ytkiohneggoiipaa.Codec
open Go.RowKit CrcMath CodecMath Mem Crc

/-- A slice that is its reader's own, and reads as these bytes. -/
def Lies (w : World) (base : Nat) (v : Value) (l : List Nat) : Prop :=
  ∃ A c, v = .slice A l.length c ∧ l.length ≤ c ∧ (∀ x ∈ l, x < 256) ∧
    (0 < l.length → ∃ g off t L, A = some ⟨g, off, none⟩ ∧ base ≤ g ∧ Blk w g t (u8s L).toArray ∧ off + l.length ≤ L.length ∧ l = (L.drop off).take l.length)
theorem Lies.nil (w : World) (base : Nat) : Lies w base (.slice none 0 0) [] := ⟨none, 0, rfl, Nat.le_refl _, by simp, fun h => by simp at h⟩
theorem Lies.bytes {w : World} {base b : Nat} {v : Value} {l : List Nat} (h : Lies w base v l) (hb : b < base) : ∃ A c, v = .slice A l.length c ∧ l.length ≤ c ∧ Bytes w b A l.length l := by
  obtain ⟨A, c, rfl, hc, hlt, hx⟩ := h
  refine ⟨A, c, rfl, hc, rfl, hlt, fun h0 => ?_⟩
  obtain ⟨g, off, t, L, rfl, hg, hbk, hfit, he⟩ := hx h0
  refine ⟨g, off, rfl, hbk.lt, by omega, fun j hj => ?_⟩
  rw [hbk.cell, List.getElem?_toArray, u8s_at _ _ (by omega)]
  congr 3
  rw [he]
  simp [List.getD_eq_getElem?_getD, hj]
/-- What a call of the project's that reads a page leaves. -/
def SaidPage (w : World) (o : Option (Int × List Nat)) (e : Ending) (w' : World) : Prop :=
  w.grownBy w' none ∧ ((∃ kind body v, o = some (kind, body) ∧ e = .returned (.tuple #[.agg #[.int .i64 kind, v], .bool true]) ∧ Lies w' w.heap.size v body) ∨
    (o = none ∧ e = .returned (.tuple #[.agg #[.int .i64 0, .slice none 0 0], .bool false])))
theorem Rd.move {w W W1 : World} {p g U k n k' n' : Nat} {t tU : TypeId} {L : List Nat} {cs : Array Value} (h : Rd w W p g U k n t tU L cs) (hr : W.grownBy W1 (some p)) (hc : Cur W1 p g k' n') : Rd w W1 p g U k' n' t tU L cs where
  grown := grownBy_new h.grown hr (fun j hj => by cases hj; exact h.hp)
  cur := hc
  arr := h.arr.grown hr (by simpa using fun e => h.pg e.symm)
  box := h.box.grown hr (by simpa using fun e => h.pu e.symm)
  hp := h.hp
  hg := h.hg
  hU := h.hU
  pu := h.pu
  gu := h.gu
  pg := h.pg
theorem body_lies {w : World} {base g : Nat} {t : TypeId} {l : List Nat} (hb : Blk w g t (u8s l).toArray) (hg : base ≤ g) (h256 : l.length = 256) (hlt : ∀ x ∈ l, x < 256) : Lies w base (.slice (some ⟨g, 12, none⟩) 240 240) (bodyOf l) := by
  have hl : (bodyOf l).length = 240 := by simp [bodyOf]; omega
  refine ⟨_, _, by rw [hl], by omega, fun x hx => hlt x (List.mem_of_mem_drop (List.mem_of_mem_take hx)), fun _ => ⟨g, 12, t, l, rfl, hg, hb, by omega, by rw [hl]; rfl⟩⟩

theorem blk_body {w : World} {b g : Nat} {t : TypeId} {l : List Nat} (hb : Blk w g t (u8s l).toArray) (h256 : l.length = 256) (hlt : ∀ x ∈ l, x < 256) (hne : g ≠ b) : Bytes w b (some ⟨g, 12, none⟩) 240 (bodyOf l) := by
  refine ⟨by simp [bodyOf]; omega, fun x hx => hlt x (List.mem_of_mem_drop (List.mem_of_mem_take hx)), fun _ => ⟨g, 12, rfl, hb.lt, hne, fun j hj => ?_⟩⟩
  rw [hb.cell, List.getElem?_toArray, u8s_at _ _ (by omega)]
  congr 3
  simp [bodyOf, List.getD_eq_getElem?_getD, hj]
set_option maxRecDepth 100000 in
set_option maxHeartbeats 3200000 in
theorem codec_get_page (b b2 : Nat) (A : Option Addr) (n c : Nat) (l : List Nat) (number : Int) (w : World) (hR : Ready w b) (hl : Bytes w b2 A n l) :
    Calls Try.prog 26 #[.pointer (some ⟨b, 0, none⟩), .slice A n c, .int .i64 number] w (SaidPage w (pageR l number)) := by
  have hlen := hl.1
  have HLT := Lib.hid hl.2.1
  have HBX := Lib.hid (Blk.new w 47 #[.int .i64 0, .slice none 0 0])
  have HG0 := Lib.hid (World.grownBy_alloc w (.cells #[.int .i64 0, .slice none 0 0] 47) none)
  have HLEN := Lib.hid hlen; have HL0 := Lib.hid hl; have HL := Lib.hid (bytes_keepN hl (World.grownBy_alloc w (.cells #[.int .i64 0, .slice none 0 0] 47) none)); have HR := Lib.hid hR; clear hlen hl hR
  by_cases h256 : n = 256
  · subst h256
    have HPR := Lib.hid (show pageR l number = if l = zeros then some (0, []) else if pageW number (num l 4 1) (bodyOf l) = some l then some ((num l 4 1 : Int), bodyOf l) else none from rfl)
    have HW1 := Lib.hid (num_small l 4 1 HLT.out (by omega)).1
    have HW2 := Lib.hid (num_small l 5 4 HLT.out (by omega)).1
    generalize pageR l number = r at *
    go_enter Try.func26, Try.ntmps26
    go_wp2_with fail
    refine (opensector_any b b2 A c l _ HL.out).mono ?_
    rintro e w1 ⟨rfl, hg1, hb1⟩
    rw [World.size_alloc] at hb1 ⊢
    have hbx1 := HBX.out.grown hg1 (by simp)
    have hsz1 := hg1.size
    rw [World.size_alloc] at hsz1
    have hgw := HG0.out.trans hg1
    have hc1 := cur_new w1 (w.heap.size + 1) 256 0 rfl
    have HB1 := Lib.hid (hb1.alloc (.cells #[.slice (some ⟨w.heap.size + 1, 0, none⟩) 256 256] 108)); have HC1 := Lib.hid hc1
    have HX1 := Lib.hid (hbx1.alloc (.cells #[.slice (some ⟨w.heap.size + 1, 0, none⟩) 256 256] 108))
    have HG1 := Lib.hid (hgw.trans (World.grownBy_alloc w1 (.cells #[.slice (some ⟨w.heap.size + 1, 0, none⟩) 256 256] 108) none))
    have hlt1 := hb1.lt
    clear hg1 hb1 hbx1 hgw hc1
    have HBY := Lib.hid (blk_bytes (b := w1.heap.size) HB1.out (by omega) HLT.out)
    go_wp2_with fail
    refine (never_any w1.heap.size _ 256 256 l _ (by have h := HBY.out; rwa [HLEN.out] at h) (by omega)).mono ?_
    rintro e w2 ⟨rfl, rfl⟩
    cases hz : decide (l = List.replicate 256 0) with
    | true =>
      have hzz : l = zeros := of_decide_eq_true hz
      have HRZ := Lib.hid (show r = some (0, []) by rw [HPR.out, if_pos hzz])
      clear hz hzz
      have x0 := HX1.out.cell 0; have x1 := HX1.out.cell 1; have f0 := HX1.out.frozen 0; have f1 := HX1.out.frozen 1
      simp only [List.getElem?_toArray, List.getElem?_cons_zero, List.getElem?_cons_succ] at x0 x1
      go_wp2_with fail
      refine ret_row2 rfl w.heap.size 47 _ _ rfl (Blk.set2 HX1.out) Try.underlying47 rfl (by kernel_rfl) rfl ⟨?_, .inl ⟨0, [], _, HRZ.out, rfl, Lies.nil _ _⟩⟩
      repeat (refine grown_set ?_ (Nat.le_refl _) _)
      exact HG1.out
    | false =>
      have hzz : l ≠ zeros := of_decide_eq_false hz
      have HRN := Lib.hid (show r = if pageW number (num l 4 1) (bodyOf l) = some l then some ((num l 4 1 : Int), bodyOf l) else none by rw [HPR.out, if_neg hzz])
      clear hz hzz
      go_wp2_with fail
      refine (take_any _ _ 0 256 4 _ HC1.out (by omega) (by omega)).mono ?_
      rintro e w2 ⟨⟨k0, rfl, _⟩, hr, hc2⟩
      have hsz2 := hr.size
      rw [World.size_alloc] at hsz2
      have RD0 := Lib.hid (rd_start (tU := 49) (cs := #[.int .i64 0, .int .i64 0, .slice none 0 0]) (grownBy_new HG1.out hr (fun j hj => by cases hj; omega)) hc2 (HB1.out.grown hr (by simp; omega)) (by omega) (by omega) (by omega))
      have HX2 := Lib.hid ((HX1.out.grown hr (by simp; omega)).alloc (.cells #[.int .i64 0, .int .i64 0, .slice none 0 0] 49))
      clear hr hc2
      generalize w1.heap.size = p at *
      go_wp2_with fail
      refine (read_any p (w.heap.size + 1) 4 252 1 107 l _ RD0.out.cur RD0.out.arr (by decide) HLT.out (by omega) (by rw [HLEN.out]; omega) (by rw [HLEN.out]; omega)).mono ?_
      rintro e w3 ⟨rfl, hr, hc⟩
      rw [HW1.out]
      have hbx := RD0.out.box.grown hr (by simpa using fun e => RD0.out.pu e.symm)
      have hcl := hbx.cell 1
      have hfr := hbx.frozen 1
      simp only [List.getElem?_toArray, List.getElem?_cons_zero, List.getElem?_cons_succ] at hcl
      have RD1 := Lib.hid (show Rd w (w3.setCell ⟨w2.heap.size, 1, none⟩ (.int .i64 (num l 4 1 : Nat))) p (w.heap.size + 1) w2.heap.size 5 251 107 49 l #[.int .i64 0, .int .i64 (num l 4 1 : Nat), .slice none 0 0] from RD0.out.step hr hc 1 (.int .i64 (num l 4 1 : Nat)))
      have HX3 := Lib.hid (RD0.out.other HX2.out hr (by omega) (by omega) 1 (.int .i64 (num l 4 1 : Nat)))
      clear hr hc hbx
      go_wp2_with fail
      clear hcl hfr
      refine (read_any p (w.heap.size + 1) 5 251 4 107 l _ RD1.out.cur RD1.out.arr (by decide) HLT.out (by omega) (by rw [HLEN.out]; omega) (by rw [HLEN.out]; omega)).mono ?_
      rintro e w4 ⟨rfl, hr, hc⟩
      rw [HW2.out]
      have hbx := RD1.out.box.grown hr (by simpa using fun e => RD1.out.pu e.symm)
      have hcl := hbx.cell 0
      have hfr := hbx.frozen 0
      simp only [List.getElem?_toArray, List.getElem?_cons_zero] at hcl
      have RD2 := Lib.hid (show Rd w (w4.setCell ⟨w2.heap.size, 0, none⟩ (.int .i64 (num l 5 4 : Nat))) p (w.heap.size + 1) w2.heap.size 9 247 107 49 l #[.int .i64 (num l 5 4 : Nat), .int .i64 (num l 4 1 : Nat), .slice none 0 0] from RD1.out.step hr hc 0 (.int .i64 (num l 5 4 : Nat)))
      have HX4 := Lib.hid (RD1.out.other HX3.out hr (by omega) (by omega) 0 (.int .i64 (num l 5 4 : Nat)))
      clear hr hc hbx
      go_wp2_with fail
      clear hcl hfr
      refine (take_any p (w.heap.size + 1) 9 247 3 _ RD2.out.cur (by omega) (by omega)).mono ?_
      rintro e w5 ⟨⟨k5, rfl, _⟩, hr, hc⟩
      have RD3 := Lib.hid (RD2.out.move hr hc)
      have HX5 := Lib.hid (HX4.out.grown hr (by simp; omega))
      clear hr hc
      go_wp2_with fail
      refine (take_any p (w.heap.size + 1) 12 244 240 _ RD3.out.cur (by omega) (by omega)).mono ?_
      rintro e w6 ⟨⟨k6, rfl, hk6⟩, hr, hc⟩
      obtain rfl := hk6 (by omega)
      have hbx := RD3.out.box.grown hr (by simpa using fun e => RD3.out.pu e.symm)
      have hcl := hbx.cell 2
      have hfr := hbx.frozen 2
      simp only [List.getElem?_toArray, List.getElem?_cons_zero, List.getElem?_cons_succ] at hcl
      have RD4 := Lib.hid (show Rd w (w6.setCell ⟨w2.heap.size, 2, none⟩ (.slice (some ⟨w.heap.size + 1, 12, none⟩) 240 240)) p (w.heap.size + 1) w2.heap.size 252 4 107 49 l #[.int .i64 (num l 5 4 : Nat), .int .i64 (num l 4 1 : Nat), .slice (some ⟨w.heap.size + 1, 12, none⟩) 240 240] from RD3.out.step hr hc 2 _)
      have HX6 := Lib.hid (RD3.out.other HX5.out hr (by omega) (by omega) 2 (.slice (some ⟨w.heap.size + 1, 12, none⟩) 240 240))
      clear hr hc hbx
      have y0 := RD4.out.box.cell 0; have y1 := RD4.out.box.cell 1; have y2 := RD4.out.box.cell 2
      simp only [List.getElem?_toArray, List.getElem?_cons_zero, List.getElem?_cons_succ] at y0 y1 y2
      clear RD0 RD1 RD2 RD3 HX1 HX2 HX3 HX4 HX5
      go_wp2_with fail
      have HBO := Lib.hid (blk_body (b := p) RD4.out.arr HLEN.out HLT.out (by omega))
      have HPF := Lib.hid (fun (nn kk : Int) (h : pageW nn kk (bodyOf l) = some l) => (page_fields h).2.1 : ∀ nn kk : Int, pageW nn kk (bodyOf l) = some l → (num l 5 4 : Int) = nn)
      generalize num l 5 4 = m at *
      generalize num l 4 1 = k at *
      refine (codec_put_page b p m k _ 240 240 (bodyOf l) _ (HR.out.keep RD4.out.grown (by simp)) HBO.out).mono ?_
      clear y0 y1 y2
      rintro e w7 hG
      have HX7 := Lib.hid (HX6.out.grown hG.1 (by simp)); have HG7 := Lib.hid (RD4.out.grown.trans hG.1); have HU7 := Lib.hid (RD4.out.box.grown hG.1 (by simp)); have HA7 := Lib.hid (RD4.out.arr.grown hG.1 (by simp))
      have HGV := Lib.hid hG.2
      clear hG
      have x0 := HX7.out.cell 0; have x1 := HX7.out.cell 1; have f0 := HX7.out.frozen 0; have f1 := HX7.out.frozen 1
      simp only [List.getElem?_toArray, List.getElem?_cons_zero, List.getElem?_cons_succ] at x0 x1
      have y0 := HU7.out.cell 0; have y1 := HU7.out.cell 1; have y2 := HU7.out.cell 2
      simp only [List.getElem?_toArray, List.getElem?_cons_zero, List.getElem?_cons_succ] at y0 y1 y2
      by_cases hm : (m : Int) = number
      · subst hm
        rcases HGV.out with ⟨l', g3, ho, rfl, _, hb3, hlt3⟩ | ⟨ho, rfl⟩
        · have HB3 := Lib.hid (blk_bytes (b := w7.heap.size) hb3 (by have := hb3.lt; omega) hlt3); have HW := Lib.hid ho
          have HL3 := Lib.hid (bytes_keepN HL0.out HG7.out)
          clear ho hb3
          go_wp2_with fail
          refine (comesback_any _ _ A _ _ _ c _ l l' _ HL3.out HB3.out).mono ?_
          rintro e w8 ⟨rfl, rfl⟩
          cases hd : decide (l = l') with
          | true =>
            have hl := of_decide_eq_true hd
            have HRX := Lib.hid (show r = some ((k : Int), bodyOf l) by rw [HRN.out, if_pos (by rw [HW.out, ← hl])])
            clear hd hl
            go_wp2_with fail
            refine ret_row2 rfl w.heap.size 47 _ _ rfl (Blk.set2 HX7.out) Try.underlying47 rfl (by kernel_rfl) rfl ⟨?_, .inl ⟨k, bodyOf l, _, HRX.out, rfl, body_lies ((HA7.out.far (by simp) _).far (by simp) _) (by omega) HLEN.out HLT.out⟩⟩
            repeat (refine grown_set ?_ (Nat.le_refl _) _)
            exact HG7.out
          | false =>
            have hl := of_decide_eq_false hd
            have HRX := Lib.hid (show r = none by rw [HRN.out, if_neg (by rw [HW.out]; simpa using fun e => hl e.symm)])
            clear hd hl
            go_wp2_with fail
            refine ret_row2 rfl w.heap.size 47 _ _ rfl (Blk.set2 HX7.out) Try.underlying47 rfl (by kernel_rfl) rfl ⟨?_, .inr ⟨HRX.out, rfl⟩⟩
            repeat (refine grown_set ?_ (Nat.le_refl _) _)
            exact HG7.out
        · have HRX := Lib.hid (show r = none by rw [HRN.out, if_neg (by rw [ho]; simp)])
          clear ho
          go_wp2_with fail
          refine (comesback_err A none _ 0 c 0 _).mono ?_
          rintro e w8 ⟨rfl, rfl⟩
          go_wp2_with fail
          refine ret_row2 rfl w.heap.size 47 _ _ rfl (Blk.set2 HX7.out) Try.underlying47 rfl (by kernel_rfl) rfl ⟨?_, .inr ⟨HRX.out, rfl⟩⟩
          repeat (refine grown_set ?_ (Nat.le_refl _) _)
          exact HG7.out
      · have HRX := Lib.hid (show r = none by rw [HRN.out, if_neg (fun e => hm (HPF.out _ _ e))])
        have hne : ((m : Int) != number) = true := by simpa using hm
        rcases HGV.out with ⟨l', g3, ho, rfl, _, hb3, hlt3⟩ | ⟨ho, rfl⟩
        · clear ho hb3
          go_wp2_with fail
          refine ret_row2 rfl w.heap.size 47 _ _ rfl (Blk.set2 HX7.out) Try.underlying47 rfl (by kernel_rfl) rfl ⟨?_, .inr ⟨HRX.out, rfl⟩⟩
          repeat (refine grown_set ?_ (Nat.le_refl _) _)
          exact HG7.out
        · clear ho
          go_wp2_with fail
          refine ret_row2 rfl w.heap.size 47 _ _ rfl (Blk.set2 HX7.out) Try.underlying47 rfl (by kernel_rfl) rfl ⟨?_, .inr ⟨HRX.out, rfl⟩⟩
          repeat (refine grown_set ?_ (Nat.le_refl _) _)
          exact HG7.out
  · have hno := pageR_none l number (by rw [HLEN.out]; exact h256)
    have HNO := Lib.hid hno; clear hno
    generalize pageR l number = r at *
    go_enter Try.func26, Try.ntmps26
    go_wp2_with fail
    refine (opensector_no b A n c _ h256).mono ?_
    rintro e w1 ⟨rfl, rfl⟩
    go_wp2_with fail
    exact ret_row2 rfl w.heap.size 47 _ _ rfl (HBX.out.alloc _) Try.underlying47 rfl (by kernel_rfl) rfl ⟨HG0.out.trans (World.grownBy_alloc _ _ none), .inr ⟨HNO.out, rfl⟩⟩
set_option maxRecDepth 100000 in
set_option maxHeartbeats 800000 in
theorem codec_get_page_nil (A : Option Addr) (n c : Nat) (number : Int) (w : World) :
    Calls Try.prog 26 #[.pointer none, .slice A n c, .int .i64 number] w (SaidPage w none) := by
  have HBX := Lib.hid (Blk.new w 47 #[.int .i64 0, .slice none 0 0])
  have HG0 := Lib.hid (World.grownBy_alloc w (.cells #[.int .i64 0, .slice none 0 0] 47) none)
  go_enter Try.func26, Try.ntmps26
  go_wp2_with fail
  refine (opensector_nil A n c _).mono ?_
  rintro e w1 ⟨rfl, rfl⟩
  go_wp2_with fail
  exact ret_row2 rfl w.heap.size 47 _ _ rfl (HBX.out.alloc _) Try.underlying47 rfl (by kernel_rfl) rfl ⟨HG0.out.trans (World.grownBy_alloc _ _ none), .inr ⟨rfl, rfl⟩⟩
end Go.Proofs.Ytkiohneggoiipaa.Codec
