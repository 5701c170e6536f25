/- Texts of this seat's proofs: CodecPageGet, CodecNodeGet, CodecCatGet, CodecHeadPut, CodecHeadGet, RefHeadGet, CodecImageGet, RefCat. -/
import Derived.Test.YtboccfficmaoaaaMCodecPagePut
import Derived.Test.YtboccfficmaoaaaMRefPageGet
import Derived.Test.YtboccfficmaoaaaMCodecBits2
import Derived.Test.YtboccfficmaoaaaMCodecSpec
import Derived.Test.YtboccfficmaoaaaMRefNode
/- The project's GetPage. -/
namespace Go.Proofs.Ytboccfficmaoaaa.Codec
open Go.RowKit CrcMath CodecMath Mem Crc

/-- A slice that is its reader's own, and reads as these bytes. -/
def Lies (w : World) (base : Nat) (v : Value) (l : List Nat) : Prop :=
  ∃ A c, v = .slice A l.length c ∧ l.length ≤ c ∧ (∀ x ∈ l, x < 256) ∧
    (0 < l.length → ∃ g off t L, A = some ⟨g, off, none⟩ ∧ base ≤ g ∧ Blk w g t (u8s L).toArray ∧ off + l.length ≤ L.length ∧ l = (L.drop off).take l.length)
theorem Lies.nil (w : World) (base : Nat) : Lies w base (.slice none 0 0) [] := ⟨none, 0, rfl, Nat.le_refl _, by simp, fun h => by simp at h⟩
theorem Lies.bytes {w : World} {base b : Nat} {v : Value} {l : List Nat} (h : Lies w base v l) (hb : b < base) : ∃ A c, v = .slice A l.length c ∧ l.length ≤ c ∧ Bytes w b A l.length l := by
  obtain ⟨A, c, rfl, hc, hlt, hx⟩ := h
  refine ⟨A, c, rfl, hc, rfl, hlt, fun h0 => ?_⟩
  obtain ⟨g, off, t, L, rfl, hg, hbk, hfit, he⟩ := hx h0
  refine ⟨g, off, rfl, hbk.lt, by omega, fun j hj => ?_⟩
  rw [hbk.cell, List.getElem?_toArray, u8s_at _ _ (by omega)]
  congr 3
  rw [he]
  simp [List.getD_eq_getElem?_getD, hj]
/-- What a call of the project's that reads a page leaves. -/
def SaidPage (w : World) (o : Option (Int × List Nat)) (e : Ending) (w' : World) : Prop :=
  w.grownBy w' none ∧ ((∃ kind body v, o = some (kind, body) ∧ e = .returned (.tuple #[.agg #[.int .i64 kind, v], .bool true]) ∧ Lies w' w.heap.size v body) ∨
    (o = none ∧ e = .returned (.tuple #[.agg #[.int .i64 0, .slice none 0 0], .bool false])))
theorem Rd.move {w W W1 : World} {p g U k n k' n' : Nat} {t tU : TypeId} {L : List Nat} {cs : Array Value} (h : Rd w W p g U k n t tU L cs) (hr : W.grownBy W1 (some p)) (hc : Cur W1 p g k' n') : Rd w W1 p g U k' n' t tU L cs where
  grown := grownBy_new h.grown hr (fun j hj => by cases hj; exact h.hp)
  cur := hc
  arr := h.arr.grown hr (by simpa using fun e => h.pg e.symm)
  box := h.box.grown hr (by simpa using fun e => h.pu e.symm)
  hp := h.hp
  hg := h.hg
  hU := h.hU
  pu := h.pu
  gu := h.gu
  pg := h.pg
theorem body_lies {w : World} {base g : Nat} {t : TypeId} {l : List Nat} (hb : Blk w g t (u8s l).toArray) (hg : base ≤ g) (h256 : l.length = 256) (hlt : ∀ x ∈ l, x < 256) : Lies w base (.slice (some ⟨g, 12, none⟩) 240 240) (bodyOf l) := by
  have hl : (bodyOf l).length = 240 := by simp [bodyOf]; omega
  refine ⟨_, _, by rw [hl], by omega, fun x hx => hlt x (List.mem_of_mem_drop (List.mem_of_mem_take hx)), fun _ => ⟨g, 12, t, l, rfl, hg, hb, by omega, by rw [hl]; rfl⟩⟩

theorem blk_body {w : World} {b g : Nat} {t : TypeId} {l : List Nat} (hb : Blk w g t (u8s l).toArray) (h256 : l.length = 256) (hlt : ∀ x ∈ l, x < 256) (hne : g ≠ b) : Bytes w b (some ⟨g, 12, none⟩) 240 (bodyOf l) := by
  refine ⟨by simp [bodyOf]; omega, fun x hx => hlt x (List.mem_of_mem_drop (List.mem_of_mem_take hx)), fun _ => ⟨g, 12, rfl, hb.lt, hne, fun j hj => ?_⟩⟩
  rw [hb.cell, List.getElem?_toArray, u8s_at _ _ (by omega)]
  congr 3
  simp [bodyOf, List.getD_eq_getElem?_getD, hj]
set_option maxRecDepth 100000 in
set_option maxHeartbeats 3200000 in
theorem codec_get_page (b b2 : Nat) (A : Option Addr) (n c : Nat) (l : List Nat) (number : Int) (w : World) (hR : Ready w b) (hl : Bytes w b2 A n l) :
    Calls Try.prog 11 #[.pointer (some ⟨b, 0, none⟩), .slice A n c, .int .i64 number] w (SaidPage w (pageR l number)) := by
  have hlen := hl.1
  have HLT := Lib.hid hl.2.1
  have HBX := Lib.hid (Blk.new w 39 #[.int .i64 0, .slice none 0 0])
  have HG0 := Lib.hid (World.grownBy_alloc w (.cells #[.int .i64 0, .slice none 0 0] 39) none)
  have HLEN := Lib.hid hlen; have HL0 := Lib.hid hl; have HL := Lib.hid (bytes_keepN hl (World.grownBy_alloc w (.cells #[.int .i64 0, .slice none 0 0] 39) none)); have HR := Lib.hid hR; clear hlen hl hR
  by_cases h256 : n = 256
  · subst h256
    have HPR := Lib.hid (show pageR l number = if l = zeros then some (0, []) else if pageW number (num l 4 1) (bodyOf l) = some l then some ((num l 4 1 : Int), bodyOf l) else none from rfl)
    have HW1 := Lib.hid (num_small l 4 1 HLT.out (by omega)).1
    have HW2 := Lib.hid (num_small l 5 4 HLT.out (by omega)).1
    generalize pageR l number = r at *
    go_enter Try.func11, Try.ntmps11
    go_wp2_with fail
    refine (opensector_any b b2 A c l _ HL.out).mono ?_
    rintro e w1 ⟨rfl, hg1, hb1⟩
    rw [World.size_alloc] at hb1 ⊢
    have hbx1 := HBX.out.grown hg1 (by simp)
    have hsz1 := hg1.size
    rw [World.size_alloc] at hsz1
    have hgw := HG0.out.trans hg1
    have hc1 := cur_new w1 (w.heap.size + 1) 256 0 rfl
    have HB1 := Lib.hid (hb1.alloc (.cells #[.slice (some ⟨w.heap.size + 1, 0, none⟩) 256 256] 99)); have HC1 := Lib.hid hc1
    have HX1 := Lib.hid (hbx1.alloc (.cells #[.slice (some ⟨w.heap.size + 1, 0, none⟩) 256 256] 99))
    have HG1 := Lib.hid (hgw.trans (World.grownBy_alloc w1 (.cells #[.slice (some ⟨w.heap.size + 1, 0, none⟩) 256 256] 99) none))
    have hlt1 := hb1.lt
    clear hg1 hb1 hbx1 hgw hc1
    have HBY := Lib.hid (blk_bytes (b := w1.heap.size) HB1.out (by omega) HLT.out)
    go_wp2_with fail
    refine (never_any w1.heap.size _ 256 256 l _ (by have h := HBY.out; rwa [HLEN.out] at h) (by omega)).mono ?_
    rintro e w2 ⟨rfl, rfl⟩
    cases hz : decide (l = List.replicate 256 0) with
    | true =>
      have hzz : l = zeros := of_decide_eq_true hz
      have HRZ := Lib.hid (show r = some (0, []) by rw [HPR.out, if_pos hzz])
      clear hz hzz
      have x0 := HX1.out.cell 0; have x1 := HX1.out.cell 1; have f0 := HX1.out.frozen 0; have f1 := HX1.out.frozen 1
      simp only [List.getElem?_toArray, List.getElem?_cons_zero, List.getElem?_cons_succ] at x0 x1
      go_wp2_with fail
      refine ret_row2 rfl w.heap.size 39 _ _ rfl (Blk.set2 HX1.out) Try.underlying39 rfl (by kernel_rfl) rfl ⟨?_, .inl ⟨0, [], _, HRZ.out, rfl, Lies.nil _ _⟩⟩
      repeat (refine grown_set ?_ (Nat.le_refl _) _)
      exact HG1.out
    | false =>
      have hzz : l ≠ zeros := of_decide_eq_false hz
      have HRN := Lib.hid (show r = if pageW number (num l 4 1) (bodyOf l) = some l then some ((num l 4 1 : Int), bodyOf l) else none by rw [HPR.out, if_neg hzz])
      clear hz hzz
      go_wp2_with fail
      refine (take_any _ _ 0 256 4 _ HC1.out (by omega) (by omega)).mono ?_
      rintro e w2 ⟨⟨k0, rfl, _⟩, hr, hc2⟩
      have hsz2 := hr.size
      rw [World.size_alloc] at hsz2
      have RD0 := Lib.hid (rd_start (tU := 46) (cs := #[.int .i64 0, .int .i64 0, .slice none 0 0]) (grownBy_new HG1.out hr (fun j hj => by cases hj; omega)) hc2 (HB1.out.grown hr (by simp; omega)) (by omega) (by omega) (by omega))
      have HX2 := Lib.hid ((HX1.out.grown hr (by simp; omega)).alloc (.cells #[.int .i64 0, .int .i64 0, .slice none 0 0] 46))
      clear hr hc2
      generalize w1.heap.size = p at *
      go_wp2_with fail
      refine (read_any p (w.heap.size + 1) 4 252 1 133 l _ RD0.out.cur RD0.out.arr (by decide) HLT.out (by omega) (by rw [HLEN.out]; omega) (by rw [HLEN.out]; omega)).mono ?_
      rintro e w3 ⟨rfl, hr, hc⟩
      rw [HW1.out]
      have hbx := RD0.out.box.grown hr (by simpa using fun e => RD0.out.pu e.symm)
      have hcl := hbx.cell 1
      have hfr := hbx.frozen 1
      simp only [List.getElem?_toArray, List.getElem?_cons_zero, List.getElem?_cons_succ] at hcl
      have RD1 := Lib.hid (show Rd w (w3.setCell ⟨w2.heap.size, 1, none⟩ (.int .i64 (num l 4 1 : Nat))) p (w.heap.size + 1) w2.heap.size 5 251 133 46 l #[.int .i64 0, .int .i64 (num l 4 1 : Nat), .slice none 0 0] from RD0.out.step hr hc 1 (.int .i64 (num l 4 1 : Nat)))
      have HX3 := Lib.hid (RD0.out.other HX2.out hr (by omega) (by omega) 1 (.int .i64 (num l 4 1 : Nat)))
      clear hr hc hbx
      go_wp2_with fail
      clear hcl hfr
      refine (read_any p (w.heap.size + 1) 5 251 4 133 l _ RD1.out.cur RD1.out.arr (by decide) HLT.out (by omega) (by rw [HLEN.out]; omega) (by rw [HLEN.out]; omega)).mono ?_
      rintro e w4 ⟨rfl, hr, hc⟩
      rw [HW2.out]
      have hbx := RD1.out.box.grown hr (by simpa using fun e => RD1.out.pu e.symm)
      have hcl := hbx.cell 0
      have hfr := hbx.frozen 0
      simp only [List.getElem?_toArray, List.getElem?_cons_zero] at hcl
      have RD2 := Lib.hid (show Rd w (w4.setCell ⟨w2.heap.size, 0, none⟩ (.int .i64 (num l 5 4 : Nat))) p (w.heap.size + 1) w2.heap.size 9 247 133 46 l #[.int .i64 (num l 5 4 : Nat), .int .i64 (num l 4 1 : Nat), .slice none 0 0] from RD1.out.step hr hc 0 (.int .i64 (num l 5 4 : Nat)))
      have HX4 := Lib.hid (RD1.out.other HX3.out hr (by omega) (by omega) 0 (.int .i64 (num l 5 4 : Nat)))
      clear hr hc hbx
      go_wp2_with fail
      clear hcl hfr
      refine (take_any p (w.heap.size + 1) 9 247 3 _ RD2.out.cur (by omega) (by omega)).mono ?_
      rintro e w5 ⟨⟨k5, rfl, _⟩, hr, hc⟩
      have RD3 := Lib.hid (RD2.out.move hr hc)
      have HX5 := Lib.hid (HX4.out.grown hr (by simp; omega))
      clear hr hc
      go_wp2_with fail
      refine (take_any p (w.heap.size + 1) 12 244 240 _ RD3.out.cur (by omega) (by omega)).mono ?_
      rintro e w6 ⟨⟨k6, rfl, hk6⟩, hr, hc⟩
      obtain rfl := hk6 (by omega)
      have hbx := RD3.out.box.grown hr (by simpa using fun e => RD3.out.pu e.symm)
      have hcl := hbx.cell 2
      have hfr := hbx.frozen 2
      simp only [List.getElem?_toArray, List.getElem?_cons_zero, List.getElem?_cons_succ] at hcl
      have RD4 := Lib.hid (show Rd w (w6.setCell ⟨w2.heap.size, 2, none⟩ (.slice (some ⟨w.heap.size + 1, 12, none⟩) 240 240)) p (w.heap.size + 1) w2.heap.size 252 4 133 46 l #[.int .i64 (num l 5 4 : Nat), .int .i64 (num l 4 1 : Nat), .slice (some ⟨w.heap.size + 1, 12, none⟩) 240 240] from RD3.out.step hr hc 2 _)
      have HX6 := Lib.hid (RD3.out.other HX5.out hr (by omega) (by omega) 2 (.slice (some ⟨w.heap.size + 1, 12, none⟩) 240 240))
      clear hr hc hbx
      have y0 := RD4.out.box.cell 0; have y1 := RD4.out.box.cell 1; have y2 := RD4.out.box.cell 2
      simp only [List.getElem?_toArray, List.getElem?_cons_zero, List.getElem?_cons_succ] at y0 y1 y2
      clear RD0 RD1 RD2 RD3 HX1 HX2 HX3 HX4 HX5
      go_wp2_with fail
      have HBO := Lib.hid (blk_body (b := p) RD4.out.arr HLEN.out HLT.out (by omega))
      have HPF := Lib.hid (fun (nn kk : Int) (h : pageW nn kk (bodyOf l) = some l) => (page_fields h).2.1 : ∀ nn kk : Int, pageW nn kk (bodyOf l) = some l → (num l 5 4 : Int) = nn)
      generalize num l 5 4 = m at *
      generalize num l 4 1 = k at *
      refine (codec_put_page b p m k _ 240 240 (bodyOf l) _ (HR.out.keep RD4.out.grown (by simp)) HBO.out).mono ?_
      clear y0 y1 y2
      rintro e w7 hG
      have HX7 := Lib.hid (HX6.out.grown hG.1 (by simp)); have HG7 := Lib.hid (RD4.out.grown.trans hG.1); have HU7 := Lib.hid (RD4.out.box.grown hG.1 (by simp)); have HA7 := Lib.hid (RD4.out.arr.grown hG.1 (by simp))
      have HGV := Lib.hid hG.2
      clear hG
      have x0 := HX7.out.cell 0; have x1 := HX7.out.cell 1; have f0 := HX7.out.frozen 0; have f1 := HX7.out.frozen 1
      simp only [List.getElem?_toArray, List.getElem?_cons_zero, List.getElem?_cons_succ] at x0 x1
      have y0 := HU7.out.cell 0; have y1 := HU7.out.cell 1; have y2 := HU7.out.cell 2
      simp only [List.getElem?_toArray, List.getElem?_cons_zero, List.getElem?_cons_succ] at y0 y1 y2
      by_cases hm : (m : Int) = number
      · subst hm
        rcases HGV.out with ⟨l', g3, ho, rfl, _, hb3, hlt3⟩ | ⟨ho, rfl⟩
        · have HB3 := Lib.hid (blk_bytes (b := w7.heap.size) hb3 (by have := hb3.lt; omega) hlt3); have HW := Lib.hid ho
          have HL3 := Lib.hid (bytes_keepN HL0.out HG7.out)
          clear ho hb3
          go_wp2_with fail
          refine (comesback_any _ _ A _ _ _ c _ l l' _ HL3.out HB3.out).mono ?_
          rintro e w8 ⟨rfl, rfl⟩
          cases hd : decide (l = l') with
          | true =>
            have hl := of_decide_eq_true hd
            have HRX := Lib.hid (show r = some ((k : Int), bodyOf l) by rw [HRN.out, if_pos (by rw [HW.out, ← hl])])
            clear hd hl
            go_wp2_with fail
            refine ret_row2 rfl w.heap.size 39 _ _ rfl (Blk.set2 HX7.out) Try.underlying39 rfl (by kernel_rfl) rfl ⟨?_, .inl ⟨k, bodyOf l, _, HRX.out, rfl, body_lies ((HA7.out.far (by simp) _).far (by simp) _) (by omega) HLEN.out HLT.out⟩⟩
            repeat (refine grown_set ?_ (Nat.le_refl _) _)
            exact HG7.out
          | false =>
            have hl := of_decide_eq_false hd
            have HRX := Lib.hid (show r = none by rw [HRN.out, if_neg (by rw [HW.out]; simpa using fun e => hl e.symm)])
            clear hd hl
            go_wp2_with fail
            refine ret_row2 rfl w.heap.size 39 _ _ rfl (Blk.set2 HX7.out) Try.underlying39 rfl (by kernel_rfl) rfl ⟨?_, .inr ⟨HRX.out, rfl⟩⟩
            repeat (refine grown_set ?_ (Nat.le_refl _) _)
            exact HG7.out
        · have HRX := Lib.hid (show r = none by rw [HRN.out, if_neg (by rw [ho]; simp)])
          clear ho
          go_wp2_with fail
          refine (comesback_err A none _ 0 c 0 _).mono ?_
          rintro e w8 ⟨rfl, rfl⟩
          go_wp2_with fail
          refine ret_row2 rfl w.heap.size 39 _ _ rfl (Blk.set2 HX7.out) Try.underlying39 rfl (by kernel_rfl) rfl ⟨?_, .inr ⟨HRX.out, rfl⟩⟩
          repeat (refine grown_set ?_ (Nat.le_refl _) _)
          exact HG7.out
      · have HRX := Lib.hid (show r = none by rw [HRN.out, if_neg (fun e => hm (HPF.out _ _ e))])
        have hne : ((m : Int) != number) = true := by simpa using hm
        rcases HGV.out with ⟨l', g3, ho, rfl, _, hb3, hlt3⟩ | ⟨ho, rfl⟩
        · clear ho hb3
          go_wp2_with fail
          refine ret_row2 rfl w.heap.size 39 _ _ rfl (Blk.set2 HX7.out) Try.underlying39 rfl (by kernel_rfl) rfl ⟨?_, .inr ⟨HRX.out, rfl⟩⟩
          repeat (refine grown_set ?_ (Nat.le_refl _) _)
          exact HG7.out
        · clear ho
          go_wp2_with fail
          refine ret_row2 rfl w.heap.size 39 _ _ rfl (Blk.set2 HX7.out) Try.underlying39 rfl (by kernel_rfl) rfl ⟨?_, .inr ⟨HRX.out, rfl⟩⟩
          repeat (refine grown_set ?_ (Nat.le_refl _) _)
          exact HG7.out
  · have hno := pageR_none l number (by rw [HLEN.out]; exact h256)
    have HNO := Lib.hid hno; clear hno
    generalize pageR l number = r at *
    go_enter Try.func11, Try.ntmps11
    go_wp2_with fail
    refine (opensector_no b A n c _ h256).mono ?_
    rintro e w1 ⟨rfl, rfl⟩
    go_wp2_with fail
    exact ret_row2 rfl w.heap.size 39 _ _ rfl (HBX.out.alloc _) Try.underlying39 rfl (by kernel_rfl) rfl ⟨HG0.out.trans (World.grownBy_alloc _ _ none), .inr ⟨HNO.out, rfl⟩⟩
set_option maxRecDepth 100000 in
set_option maxHeartbeats 800000 in
theorem codec_get_page_nil (A : Option Addr) (n c : Nat) (number : Int) (w : World) :
    Calls Try.prog 11 #[.pointer none, .slice A n c, .int .i64 number] w (SaidPage w none) := by
  have HBX := Lib.hid (Blk.new w 39 #[.int .i64 0, .slice none 0 0])
  have HG0 := Lib.hid (World.grownBy_alloc w (.cells #[.int .i64 0, .slice none 0 0] 39) none)
  go_enter Try.func11, Try.ntmps11
  go_wp2_with fail
  refine (opensector_nil A n c _).mono ?_
  rintro e w1 ⟨rfl, rfl⟩
  go_wp2_with fail
  exact ret_row2 rfl w.heap.size 39 _ _ rfl (HBX.out.alloc _) Try.underlying39 rfl (by kernel_rfl) rfl ⟨HG0.out.trans (World.grownBy_alloc _ _ none), .inr ⟨rfl, rfl⟩⟩
end Go.Proofs.Ytboccfficmaoaaa.Codec
/- The project's GetNode. -/
namespace Go.Proofs.Ytboccfficmaoaaa.Codec
open Go.RowKit CrcMath CodecMath Mem Crc

/-- Where the project's GetNode stands when j keys are read: U the node, P the cursor over the array G, Z the result's own block. -/
structure Nd (w W : World) (P G U Z : Nat) (l : List Nat) (lf : Bool) (j i : Nat) (vk vv : Value) : Prop where
  grown : w.grownBy W none
  box : Blk W U 51 #[.bool lf, vk, vv]
  zero : Blk W Z 51 #[.bool false, .slice none 0 0, .slice none 0 0]
  arr : Blk W G 154 (u8s l).toArray
  keys : Own W (U + 1) 3 1 vk j (i64s (numsAt l 2 6 4 j))
  vals : Own W (U + 1) 3 1 vv i (i64s (numsAt l 6 6 2 i))
  apart : ∀ g, vk.ownBlock = some g → vv.ownBlock ≠ some g
theorem Nd.drew {w W : World} {P G U Z : Nat} {l : List Nat} {lf : Bool} {j i : Nat} {vk vv : Value} (h : Nd w W P G U Z l lf j i vk vv) : Nd w W.drew P G U Z l lf j i vk vv :=
  ⟨h.grown.trans (grown_drew _ none), h.box, h.zero, h.arr, h.keys, h.vals, h.apart⟩
/-- The cursor is moved. -/
theorem Nd.move {w W W1 : World} {P G U Z : Nat} {l : List Nat} {lf : Bool} {j i : Nat} {vk vv : Value} (h : Nd w W P G U Z l lf j i vk vv) (hr : W.grownBy W1 (some P)) (h1 : w.heap.size ≤ P) (h2 : P < U) (h3 : P ≠ G) (h4 : P ≠ Z) : Nd w W1 P G U Z l lf j i vk vv where
  grown := grownBy_new h.grown hr (fun j hj => by cases hj; exact h1)
  box := h.box.grown hr (by simp; omega)
  zero := h.zero.grown hr (by simp; omega)
  arr := h.arr.grown hr (by simp; omega)
  keys := h.keys.keep hr (fun q hq e => by injection e with e; have := (h.keys.base_ q hq).1; omega)
  vals := h.vals.keep hr (fun q hq e => by injection e with e; have := (h.vals.base_ q hq).1; omega)
  apart := h.apart
theorem Nd.alloc {w W : World} {P G U Z : Nat} {l : List Nat} {lf : Bool} {j i : Nat} {vk vv : Value} (h : Nd w W P G U Z l lf j i vk vv) (o : Obj) : Nd w (W.alloc o) P G U Z l lf j i vk vv :=
  ⟨h.grown.trans (World.grownBy_alloc W o none), h.box.alloc o, h.zero.alloc o, h.arr.alloc o, h.keys.alloc o, h.vals.alloc o, h.apart⟩
/-- A key is appended. -/
theorem Nd.key {w W W1 : World} {P G U Z : Nat} {l : List Nat} {lf : Bool} {j i : Nat} {vk vv vk' : Value} (h : Nd w W P G U Z l lf j i vk vv) (hg : Grew W W1 vk vk') (ho : Own W1 (U + 1) 3 1 vk' (j + 1) (i64s (numsAt l 2 6 4 j) ++ [.int .i64 (num l (2 + 6 * j) 4 : Nat)]))
    (h2 : w.heap.size ≤ U) (h3 : G < U) (h4 : Z < U) : Nd w (W1.setCell ⟨U, 1, none⟩ vk') P G U Z l lf (j + 1) i vk' vv where
  grown := grown_set (grownBy_new h.grown hg.1 (fun q hq => by have := (h.keys.base_ q hq).1; omega)) h2 _
  box := (h.box.grown hg.1 (fun e => by have := (h.keys.base_ _ e.symm).1; omega)).set_ 1 _
  zero := (h.zero.grown hg.1 (fun e => by have := (h.keys.base_ _ e.symm).1; omega)).far (by simp; omega) _
  arr := (h.arr.grown hg.1 (fun e => by have := (h.keys.base_ _ e.symm).1; omega)).far (by simp; omega) _
  keys := by
    have h5 := Own.set_far (g := U) (i := 1) ho (by omega) vk'
    rw [numsAt_succ, i64s_append]
    exact h5
  vals := Own.set_far (h.vals.keep hg.1 (fun q hq e => h.apart q e hq)) (by omega) _
  apart := fun q hq hv => by
    rcases hg.2 q hq with h5 | h5
    · exact h.apart q h5 hv
    · have := (h.vals.base_ q hv).2; omega
/-- A val is appended. -/
theorem Nd.val {w W W1 : World} {P G U Z : Nat} {l : List Nat} {lf : Bool} {j i : Nat} {vk vv vv' : Value} (h : Nd w W P G U Z l lf j i vk vv) (hg : Grew W W1 vv vv') (ho : Own W1 (U + 1) 3 1 vv' (i + 1) (i64s (numsAt l 6 6 2 i) ++ [.int .i64 (num l (6 + 6 * i) 2 : Nat)]))
    (h2 : w.heap.size ≤ U) (h3 : G < U) (h4 : Z < U) : Nd w (W1.setCell ⟨U, 2, none⟩ vv') P G U Z l lf j (i + 1) vk vv' where
  grown := grown_set (grownBy_new h.grown hg.1 (fun q hq => by have := (h.vals.base_ q hq).1; omega)) h2 _
  box := (h.box.grown hg.1 (fun e => by have := (h.vals.base_ _ e.symm).1; omega)).set_ 2 _
  zero := (h.zero.grown hg.1 (fun e => by have := (h.vals.base_ _ e.symm).1; omega)).far (by simp; omega) _
  arr := (h.arr.grown hg.1 (fun e => by have := (h.vals.base_ _ e.symm).1; omega)).far (by simp; omega) _
  vals := by
    have h5 := Own.set_far (g := U) (i := 2) ho (by omega) vv'
    rw [numsAt_succ, i64s_append]
    exact h5
  keys := Own.set_far (h.keys.keep hg.1 (fun q hq e => h.apart q hq e)) (by omega) _
  apart := fun q hq hv => by
    rcases hg.2 q hv with h5 | h5
    · exact h.apart q hq h5
    · have := (h.keys.base_ q hq).2; omega
/-- The cursor outlives a row's growth and a store into the node. -/
theorem cur_key {W W1 : World} {P G k n U i : Nat} {v v' u : Value} (hc : Cur W P G k n) (hg : Grew W W1 v v') (hne : v.ownBlock ≠ some P) (hU : P ≠ U) : Cur (W1.setCell ⟨U, i, none⟩ u) P G k n := by
  obtain ⟨k0, hb, hk⟩ := hc.grown hg.1 (fun e => hne e.symm)
  exact ⟨k0, hb.far hU u, hk⟩
set_option maxRecDepth 100000 in
set_option maxHeartbeats 3200000 in
theorem codec_get_node (b : Nat) (A : Option Addr) (n c : Nat) (l : List Nat) (w : World) (hl : Bytes w b A n l) :
    Calls Try.prog 17 #[.slice A n c] w (ToldNode w (nodeR l)) := by
  obtain ⟨i0, hi0, hz0, hz1, hz2⟩ := info_parts int_info
  have hi := Lib.hid hi0; have z0 := Lib.hid hz0; have z1 := Lib.hid hz1; have z2 := Lib.hid hz2; clear hi0 hz0 hz1 hz2
  have HONE := Lib.hid (show 0 < 1 by omega)
  have hlen := hl.1
  have HLT := Lib.hid hl.2.1
  have hg0 := World.grownBy_alloc w (.cells #[.bool false, .slice none 0 0, .slice none 0 0] 51) none
  have HBX := Lib.hid (Blk.new w 51 #[.bool false, .slice none 0 0, .slice none 0 0])
  have HLEN := Lib.hid hlen; have HL0 := Lib.hid hl; have HL := Lib.hid (bytes_keepN hl hg0); have HG0 := Lib.hid hg0; clear hlen hl hg0
  by_cases h240 : n = 240
  · subst h240
    have hr : nodeR l = if nodeW (decide (num l 0 1 = 1)) (numsAt l 2 6 4 (min (num l 1 1) 8)) (numsAt l 6 6 2 (min (num l 1 1) 8)) = some l then some (decide (num l 0 1 = 1), numsAt l 2 6 4 (min (num l 1 1) 8), numsAt l 6 6 2 (min (num l 1 1) 8)) else none := rfl
    have hmore : 8 < num l 1 1 → nodeR l = none := fun h => by
      rw [hr, if_neg (fun e => ?_)]
      have := (node_fields e).2.1
      rw [numsAt_length] at this
      omega
    have HR := Lib.hid hr; have HMORE := Lib.hid hmore; clear hr hmore
    obtain ⟨hw0, _⟩ := num_small l 0 1 HLT.out (by omega)
    obtain ⟨hw1, _⟩ := num_small l 1 1 HLT.out (by omega)
    have HW0 := Lib.hid hw0; have HW1 := Lib.hid hw1; clear hw0 hw1
    have hlf : (((num l 0 1 : Nat) : Int) == 1) = decide (num l 0 1 = 1) := by
      rw [Bool.eq_iff_iff]; simp; omega
    have HLF := Lib.hid hlf; clear hlf
    generalize nodeR l = r at *
    go_enter Try.func17, Try.ntmps17
    go_wp2_with fail
    refine (openbody_any b A c l _ HL.out).mono ?_
    rintro e w1 ⟨rfl, hg1, hb1⟩
    rw [World.size_alloc] at hb1 ⊢
    have hbx1 := HBX.out.grown hg1 (by simp)
    have hsz1 := hg1.size
    rw [World.size_alloc] at hsz1
    have hgw := HG0.out.trans hg1
    have hlt1 := hb1.lt
    have hc1 := cur_new w1 (w.heap.size + 1) 240 0 rfl
    have HB1 := Lib.hid (hb1.alloc (.cells #[.slice (some ⟨w.heap.size + 1, 0, none⟩) 240 240] 99)); have HC1 := Lib.hid hc1
    have HX1 := Lib.hid (hbx1.alloc (.cells #[.slice (some ⟨w.heap.size + 1, 0, none⟩) 240 240] 99))
    have HG1 := Lib.hid (hgw.trans (World.grownBy_alloc w1 (.cells #[.slice (some ⟨w.heap.size + 1, 0, none⟩) 240 240] 99) none))
    clear hg1 hb1 hbx1 hgw hc1
    go_wp2_with fail
    refine (read_any w1.heap.size (w.heap.size + 1) 0 240 1 154 l _ HC1.out HB1.out (by decide) HLT.out (by omega) (by rw [HLEN.out]; omega) (by rw [HLEN.out]; omega)).mono ?_
    rintro e w2 ⟨rfl, hr2, hc2⟩
    rw [HW0.out]
    have hsz2 := hr2.size
    rw [World.size_alloc] at hsz2
    have HB2 := Lib.hid (HB1.out.grown hr2 (by simp; omega)); have HX2 := Lib.hid (HX1.out.grown hr2 (by simp; omega)); have HG2 := Lib.hid (grownBy_new HG1.out hr2 (fun j hj => by cases hj; omega)); have HC2 := Lib.hid hc2
    clear hr2 hc2 HB1 HX1 HG1 HC1
    generalize w1.heap.size = p at *
    go_wp2_with fail
    generalize (((num l 0 1 : Nat) : Int) == 1) = lf at *
    have hnd : Nd w (w2.alloc (.cells #[.bool lf, .slice none 0 0, .slice none 0 0] 51)) p (w.heap.size + 1) w2.heap.size w.heap.size l lf 0 0 (.slice none 0 0) (.slice none 0 0) :=
      ⟨HG2.out.trans (World.grownBy_alloc w2 _ none), Blk.new w2 _ _, HX2.out.alloc _, HB2.out.alloc _, Own.nil _ _ _ _, Own.nil _ _ _ _, fun g hg => by simp [Value.ownBlock] at hg⟩
    have HP1 := Lib.hid (show w.heap.size ≤ p by omega); have HP2 := Lib.hid (show p < w2.heap.size by omega); have HP3 := Lib.hid (show p ≠ w.heap.size + 1 by omega); have HP4 := Lib.hid (show p ≠ w.heap.size by omega)
    have HU1 := Lib.hid (show w.heap.size ≤ w2.heap.size by omega); have HU2 := Lib.hid (show w.heap.size + 1 < w2.heap.size by omega); have HU3 := Lib.hid (show w.heap.size < w2.heap.size by omega); have HPU := Lib.hid (show p ≠ w2.heap.size by omega)
    have HNN := Lib.hid (show some p ≠ none by simp)
    have HVP := Lib.hid (fun W v m xs h e => by have := (Own.base_ h p e).1; omega : ∀ (W : World) (v : Value) (m : Nat) (xs : List Value), Own W (w2.heap.size + 1) 3 1 v m xs → v.ownBlock ≠ some p)
    have HC2' := Lib.hid (HC2.out.grown (World.grownBy_alloc w2 (.cells #[.bool lf, .slice none 0 0, .slice none 0 0] 51) none) (by simp))
    have ND0 := Lib.hid hnd; clear hnd
    refine (read_any p (w.heap.size + 1) 1 239 1 154 l _ HC2'.out ND0.out.arr (by decide) HLT.out (by omega) (by rw [HLEN.out]; omega) (by rw [HLEN.out]; omega)).mono ?_
    rintro e w3 ⟨rfl, hr3, hc3⟩
    rw [HW1.out]
    have ND3 := Lib.hid (ND0.out.move hr3 HP1.out HP2.out HP3.out HP4.out); have HC3 := Lib.hid hc3
    clear hr3 hc3 HC2' HC2 ND0 HB2 HX2 HG2
    by_cases h8 : 8 < num l 1 1
    · have HNO := Lib.hid (HMORE.out h8)
      have h8' : decide (((num l 1 1 : Nat) : Int) > 8) = true := by simp; omega
      have h8'' : (8 : Int) < ((num l 1 1 : Nat) : Int) := by omega
      have x0 := ND3.out.zero.cell 0; have x1 := ND3.out.zero.cell 1; have x2 := ND3.out.zero.cell 2; have f0 := ND3.out.zero.frozen 0; have f1 := ND3.out.zero.frozen 1; have f2 := ND3.out.zero.frozen 2
      simp only [List.getElem?_toArray, List.getElem?_cons_zero, List.getElem?_cons_succ] at x0 x1 x2
      go_wp2_with fail
      refine ret_row2 rfl w.heap.size 51 _ _ rfl (Blk.set3 ND3.out.zero) Try.underlying51 rfl (by kernel_rfl) rfl ⟨?_, .inr ⟨HNO.out, rfl⟩⟩
      repeat (refine grown_set ?_ (Nat.le_refl _) _)
      exact ND3.out.grown
    · obtain ⟨N, hN⟩ : ∃ N, N = num l 1 1 := ⟨_, rfl⟩
      have hN8 : N ≤ 8 := by omega
      have HRN := Lib.hid (show r = if nodeW lf (numsAt l 2 6 4 N) (numsAt l 6 6 2 N) = some l then some (lf, numsAt l 2 6 4 N, numsAt l 6 6 2 N) else none by rw [HR.out, ← HLF.out, Nat.min_eq_left (by omega), ← hN])
      rw [← hN]
      clear h8 hN HR HMORE
      have h8'' : ¬ ((8 : Int) < ((N : Nat) : Int)) := by omega
      go_wp2_with fail
      go_loopw [26] (fun i wr => ∃ (j : Nat) (vk vv : Value), j ≤ N ∧ i = .int .i64 j ∧ Nd w wr p (w.heap.size + 1) w2.heap.size w.heap.size l lf j j vk vv ∧ Cur wr p (w.heap.size + 1) (2 + 6 * j) (238 - 6 * j)) (fun i _ => N - (intOf i).toNat)
      case atStart => exact ⟨0, _, _, by omega, rfl, ND3.out, HC3.out⟩
      case round =>
        obtain ⟨j, vk, vv, hj, rfl, hnd, hcr⟩ := hrel
        have ND := Lib.hid hnd; have HCR := Lib.hid hcr
        clear hnd hcr
        by_cases hlt : j < N
        · have hk1 := ND.out.box.cell 1
          simp only [List.getElem?_toArray, List.getElem?_cons_zero, List.getElem?_cons_succ] at hk1
          have HW4 := Lib.hid (num_small l (2 + 6 * j) 4 HLT.out (by omega)).1
          have HW6 := Lib.hid (num_small l (6 + 6 * j) 2 HLT.out (by omega)).1
          go_upto_region 10 with fail
          go_cut [26] (fun s26 wx => ∃ vk' : Value, s26 = .int .i64 j ∧ Nd w wx p (w.heap.size + 1) w2.heap.size w.heap.size l lf (j + 1) j vk' vv ∧ Cur wx p (w.heap.size + 1) (6 + 6 * j) (234 - 6 * j))
          case first =>
            go_region_law (first
              | (go_simp
                 go_at_call 39
                 refine (read_any p (w.heap.size + 1) (2 + 6 * j) (238 - 6 * j) 4 154 l _ ?_ ?_ ?_ HLT.out ?_ ?_ ?_).mono ?_
                 exact HCR.out
                 exact ND.out.arr
                 decide
                 omega
                 (rw [HLEN.out]; omega)
                 (rw [HLEN.out]; omega)
                 rintro e w6 ⟨rfl, hr6, hc6⟩
                 rw [HW4.out]
                 have hnd6 := ND.out.drew.move hr6 HP1.out HP2.out HP3.out HP4.out
                 have hk6 := hnd6.box.cell 1
                 have hkl6 := hnd6.box.lt
                 simp only [List.getElem?_toArray, List.getElem?_cons_zero, List.getElem?_cons_succ] at hk6
                 have ND6 := Lib.hid hnd6; have HC6 := Lib.hid hc6
                 clear hr6 hc6 hnd6)
              | (refine step_append_own_full _ rfl (.tmp 29) (.tmp 31) _ rfl (w2.heap.size + 1) 3 i0 _ 1 8 Try.underlying31 hi.out z0.out z1.out z2.out rfl HONE.out vk j _ ?_ (ND6.out.keys.alloc _)
                   _ _ 1 1 _ ?_ (reads_one_int _ _) ?_ ?_ ?_ ?_ ?_
                 rfl
                 rfl
                 (intro u hu; simp at hu; subst hu; rfl)
                 (simp only [maxLen]; omega)
                 omega
                 (have := ND6.out.box.lt; simp; omega)
                 intro v' w' hown' hgr'
                 obtain ⟨A2, c2, hv2, _, _, _⟩ := hown'.shape
                 subst hv2
                 have hnd7 := (ND6.out.alloc (.cells #[.int .i64 (num l (2 + 6 * j) 4 : Nat)] 3)).key hgr' hown' HU1.out HU2.out HU3.out
                 have hc7 := cur_key (i := 1) (u := Value.slice A2 (j + 1) c2) (HC6.out.grown (World.grownBy_alloc w6 (.cells #[.int .i64 (num l (2 + 6 * j) 4 : Nat)] 3) none) HNN.out) hgr' (HVP.out _ _ _ _ ND6.out.keys) HPU.out
                 have hbb := (ND6.out.alloc (.cells #[.int .i64 (num l (2 + 6 * j) 4 : Nat)] 3)).box.grown hgr'.1 (fun e => by have := (ND6.out.keys.base_ _ e.symm).1; omega)
                 have hc1' := hbb.cell 1
                 have hf1' := hbb.frozen 1
                 simp only [List.getElem?_toArray, List.getElem?_cons_zero, List.getElem?_cons_succ] at hc1'
                 have ND7 := Lib.hid hnd7; have HC7 := Lib.hid hc7
                 clear hnd7 hc7 hbb hown' hgr'))
            all_goals
              go_wp2_with fail
              go_meet
              refine ⟨_, rfl, ND7.out, ?_⟩
              have h := HC7.out
              rwa [show 2 + 6 * j + 4 = 6 + 6 * j from by omega, show 238 - 6 * j - 4 = 234 - 6 * j from by omega] at h
          case rest =>
            obtain ⟨vk', rfl, hnd, hcr⟩ := hcut
            have ND := Lib.hid hnd; have HCR := Lib.hid hcr
            clear hnd hcr hk1
            have hk2 := ND.out.box.cell 2
            simp only [List.getElem?_toArray, List.getElem?_cons_zero, List.getElem?_cons_succ] at hk2
            go_wp2_with fail
            go_region_law (first
              | (go_simp
                 go_at_call 39
                 refine (read_any p (w.heap.size + 1) (6 + 6 * j) (234 - 6 * j) 2 154 l _ ?_ ?_ ?_ HLT.out ?_ ?_ ?_).mono ?_
                 exact HCR.out
                 exact ND.out.arr
                 decide
                 omega
                 (rw [HLEN.out]; omega)
                 (rw [HLEN.out]; omega)
                 rintro e w6 ⟨rfl, hr6, hc6⟩
                 rw [HW6.out]
                 have hnd6 := ND.out.drew.move hr6 HP1.out HP2.out HP3.out HP4.out
                 have hk6 := hnd6.box.cell 2
                 have hkl6 := hnd6.box.lt
                 simp only [List.getElem?_toArray, List.getElem?_cons_zero, List.getElem?_cons_succ] at hk6
                 have ND6 := Lib.hid hnd6; have HC6 := Lib.hid hc6
                 clear hr6 hc6 hnd6)
              | (refine step_append_own_full _ rfl (.tmp 35) (.tmp 37) _ rfl (w2.heap.size + 1) 3 i0 _ 1 8 Try.underlying31 hi.out z0.out z1.out z2.out rfl HONE.out vv j _ ?_ (ND6.out.vals.alloc _)
                   _ _ 1 1 _ ?_ (reads_one_int _ _) ?_ ?_ ?_ ?_ ?_
                 rfl
                 rfl
                 (intro u hu; simp at hu; subst hu; rfl)
                 (simp only [maxLen]; omega)
                 omega
                 (have := ND6.out.box.lt; simp; omega)
                 intro v' w' hown' hgr'
                 obtain ⟨A2, c2, hv2, _, _, _⟩ := hown'.shape
                 subst hv2
                 have hnd7 := (ND6.out.alloc (.cells #[.int .i64 (num l (6 + 6 * j) 2 : Nat)] 3)).val hgr' hown' HU1.out HU2.out HU3.out
                 have hc7 := cur_key (i := 2) (u := Value.slice A2 (j + 1) c2) (HC6.out.grown (World.grownBy_alloc w6 (.cells #[.int .i64 (num l (6 + 6 * j) 2 : Nat)] 3) none) HNN.out) hgr' (HVP.out _ _ _ _ ND6.out.vals) HPU.out
                 have hbb := (ND6.out.alloc (.cells #[.int .i64 (num l (6 + 6 * j) 2 : Nat)] 3)).box.grown hgr'.1 (fun e => by have := (ND6.out.vals.base_ _ e.symm).1; omega)
                 have hc1' := hbb.cell 2
                 have hf1' := hbb.frozen 2
                 simp only [List.getElem?_toArray, List.getElem?_cons_zero, List.getElem?_cons_succ] at hc1'
                 have ND7 := Lib.hid hnd7; have HC7 := Lib.hid hc7
                 clear hnd7 hc7 hbb hown' hgr'))
            all_goals
              go_wp2_with fail
              go_roundw
              case measure => simp [intOf]; omega
              case rel =>
                refine ⟨j + 1, _, _, by omega, by go_num, ND7.out, ?_⟩
                have h := HC7.out
                rwa [show 6 + 6 * j + 2 = 2 + 6 * (j + 1) from by omega, show 234 - 6 * j - 2 = 238 - 6 * (j + 1) from by omega] at h
        · obtain rfl : j = N := by omega
          have HRK := Lib.hid (nums_range l 2 6 4 j HLT.out (by omega)); have HRV := Lib.hid (nums_range l 6 6 2 j HLT.out (by omega))
          obtain ⟨A1, c1, rfl, hi1, _, _⟩ := own_ints ND.out.keys HRK.out
          obtain ⟨A2, c2, rfl, hi2, _, _⟩ := own_ints ND.out.vals HRV.out
          have HI1 := Lib.hid hi1; have HI2 := Lib.hid hi2
          clear hi1 hi2
          have k0 := ND.out.box.cell 0; have k1 := ND.out.box.cell 1; have k2 := ND.out.box.cell 2
          simp only [List.getElem?_toArray, List.getElem?_cons_zero, List.getElem?_cons_succ] at k0 k1 k2
          go_wp2_with fail
          refine (codec_put_node _ lf A1 A2 j j c1 c2 _ _ _ HI1.out HI2.out).mono ?_
          clear k0 k1 k2
          rintro e w8 hG
          have HZ9 := Lib.hid (ND.out.zero.grown hG.1 (by simp)); have HG9 := Lib.hid (ND.out.grown.trans hG.1); have HU9 := Lib.hid (ND.out.box.grown hG.1 (by simp))
          have HK9 := Lib.hid (ND.out.keys.keep hG.1 (by simp)); have HV9 := Lib.hid (ND.out.vals.keep hG.1 (by simp)); have HAP := Lib.hid ND.out.apart
          have HGV := Lib.hid hG.2
          clear hG
          have x0 := HZ9.out.cell 0; have x1 := HZ9.out.cell 1; have x2 := HZ9.out.cell 2; have f0 := HZ9.out.frozen 0; have f1 := HZ9.out.frozen 1; have f2 := HZ9.out.frozen 2
          have y0 := HU9.out.cell 0; have y1 := HU9.out.cell 1; have y2 := HU9.out.cell 2
          have hul := HU9.out.lt
          simp only [List.getElem?_toArray, List.getElem?_cons_zero, List.getElem?_cons_succ] at x0 x1 x2 y0 y1 y2
          rcases HGV.out with ⟨l', g3, ho, rfl, _, hb3, hlt3⟩ | ⟨ho, rfl⟩
          · have HB3 := Lib.hid (blk_bytes (b := w8.heap.size) hb3 (by have := hb3.lt; omega) hlt3); have HW := Lib.hid ho
            have HL3 := Lib.hid (bytes_keepN HL0.out HG9.out)
            clear ho hb3
            go_wp2_with fail
            refine (comesback_any _ _ A _ _ _ c _ l l' _ HL3.out HB3.out).mono ?_
            rintro e w9 ⟨rfl, rfl⟩
            cases hd : decide (l = l') with
            | true =>
              have hl := of_decide_eq_true hd
              have HRX := Lib.hid (show r = some (lf, numsAt l 2 6 4 j, numsAt l 6 6 2 j) by rw [HRN.out, if_pos (by rw [HW.out, ← hl])])
              clear hd hl
              go_wp2_with fail
              refine ret_row2 rfl w.heap.size 51 _ _ rfl (Blk.set3 HZ9.out) Try.underlying51 rfl (by kernel_rfl) rfl ⟨?_, .inl ⟨lf, numsAt l 2 6 4 j, numsAt l 6 6 2 j, _, _, HRX.out, rfl, ?_, ?_, HAP.out, HRK.out, HRV.out⟩⟩
              · repeat (refine grown_set ?_ (Nat.le_refl _) _)
                exact HG9.out
              · rw [numsAt_length]
                exact (Own.set_far (Own.set_far (Own.set_far HK9.out (by omega) _) (by omega) _) (by omega) _).low (by omega)
              · rw [numsAt_length]
                exact (Own.set_far (Own.set_far (Own.set_far HV9.out (by omega) _) (by omega) _) (by omega) _).low (by omega)
            | false =>
              have hl := of_decide_eq_false hd
              have HRX := Lib.hid (show r = none by rw [HRN.out, if_neg (by rw [HW.out]; simpa using fun e => hl e.symm)])
              clear hd hl
              go_wp2_with fail
              refine ret_row2 rfl w.heap.size 51 _ _ rfl (Blk.set3 HZ9.out) Try.underlying51 rfl (by kernel_rfl) rfl ⟨?_, .inr ⟨HRX.out, rfl⟩⟩
              repeat (refine grown_set ?_ (Nat.le_refl _) _)
              exact HG9.out
          · have HRX := Lib.hid (show r = none by rw [HRN.out, if_neg (by rw [ho]; simp)])
            clear ho
            go_wp2_with fail
            refine (comesback_err A none _ 0 c 0 _).mono ?_
            rintro e w9 ⟨rfl, rfl⟩
            go_wp2_with fail
            refine ret_row2 rfl w.heap.size 51 _ _ rfl (Blk.set3 HZ9.out) Try.underlying51 rfl (by kernel_rfl) rfl ⟨?_, .inr ⟨HRX.out, rfl⟩⟩
            repeat (refine grown_set ?_ (Nat.le_refl _) _)
            exact HG9.out
  · have hno := nodeR_none l (by rw [HLEN.out]; exact h240)
    have HNO := Lib.hid hno; clear hno
    generalize nodeR l = r at *
    go_enter Try.func17, Try.ntmps17
    go_wp2_with fail
    refine (openbody_no A n c _ h240).mono ?_
    rintro e w1 ⟨rfl, rfl⟩
    go_wp2_with fail
    exact ret_row2 rfl w.heap.size 51 _ _ rfl (HBX.out.alloc _) Try.underlying51 rfl (by kernel_rfl) rfl ⟨HG0.out.trans (World.grownBy_alloc _ _ none), .inr ⟨HNO.out, rfl⟩⟩
end Go.Proofs.Ytboccfficmaoaaa.Codec
/- The project's GetCatalogue. -/
namespace Go.Proofs.Ytboccfficmaoaaa.Codec
open Go.RowKit CrcMath CodecMath Mem Crc

/-- The numbers of the first j volumes. -/
def volsT (l : List Nat) (j : Nat) : List Int := (List.range (6 * j)).map fun q => (num l (21 + pos q) (wid (q % 6)) : Int)
theorem volsT_all (l : List Nat) : volsT l 8 = volsN l := rfl
theorem volsT_length (l : List Nat) (j : Nat) : (volsT l j).length = 6 * j := by simp [volsT]
theorem pos_at (j r : Nat) (h : r < 6) : pos (6 * j + r) = 19 * j + offF r ∧ (6 * j + r) % 6 = r := by
  have e1 : (6 * j + r) / 6 = j := by omega
  have e2 : (6 * j + r) % 6 = r := by omega
  exact ⟨by rw [pos, e1, e2], e2⟩
theorem volsT_succ (l : List Nat) (j : Nat) : volsT l (j + 1) = volsT l j ++ [(num l (21 + 19 * j) 4 : Int), (num l (21 + 19 * j + 4) 1 : Int), (num l (21 + 19 * j + 5) 4 : Int), (num l (21 + 19 * j + 9) 4 : Int), (num l (21 + 19 * j + 13) 2 : Int), (num l (21 + 19 * j + 15) 4 : Int)] := by
  obtain ⟨p0, r0⟩ := pos_at j 0 (by omega)
  obtain ⟨p1, r1⟩ := pos_at j 1 (by omega)
  obtain ⟨p2, r2⟩ := pos_at j 2 (by omega)
  obtain ⟨p3, r3⟩ := pos_at j 3 (by omega)
  obtain ⟨p4, r4⟩ := pos_at j 4 (by omega)
  obtain ⟨p5, r5⟩ := pos_at j 5 (by omega)
  rw [Nat.add_zero] at p0 r0
  rw [volsT, show 6 * (j + 1) = 6 * j + 1 + 1 + 1 + 1 + 1 + 1 from by omega]
  simp only [List.range_succ, List.map_append, List.map_cons, List.map_nil, List.append_assoc, List.cons_append, List.nil_append]
  rw [p0, p1, p2, p3, p4, p5, r0, r1, r2, r3, r4, r5]
  rfl
theorem wid_le (r : Nat) : wid r ≤ 7 := by unfold wid; split <;> omega
theorem volsT_range (l : List Nat) (j : Nat) (h : ∀ x ∈ l, x < 256) : ∀ x ∈ volsT l j, -9223372036854775808 ≤ x ∧ x ≤ 9223372036854775807 := by
  intro x hx
  obtain ⟨q, _, rfl⟩ := List.mem_map.1 hx
  have := (num_small l (21 + pos q) (wid (q % 6)) h (wid_le _)).2
  omega
theorem vol_info : (Try.prog.info? 121).map (fun i => (i.zero, i.size, i.bytes)) = some (some (.agg #[.int .i64 0, .int .i64 0, .int .i64 0, .int .i64 0, .int .i64 0, .int .i64 0]), 6, 48) := by kernel_rfl
theorem reads_one_vol (w : World) (a0 a1 a2 a3 a4 a5 : Value) : Reads (w.alloc (.cells #[a0, a1, a2, a3, a4, a5] 121)) (w.heap.size + 1) 6 (some ⟨w.heap.size, 0, none⟩) 1 [a0, a1, a2, a3, a4, a5] := by
  refine ⟨rfl, fun _ => ⟨_, rfl, by simp, fun j u hu => ?_⟩⟩
  have hb := (Blk.new w 121 #[a0, a1, a2, a3, a4, a5]).cell j
  have e1 : (⟨w.heap.size, 0, none⟩ : Addr).add j = ⟨w.heap.size, j, none⟩ := by unfold Addr.add; split <;> simp_all
  rw [e1, hb]
  simpa using hu
theorem own_vols {w : World} {base n : Nat} {v : Value} {l : List Int} (h : Own w base 121 6 v n (i64s l)) (hl : ∀ x ∈ l, -9223372036854775808 ≤ x ∧ x ≤ 9223372036854775807) :
    ∃ A cap, v = .slice A n cap ∧ Ints w w.heap.size A (6 * n) l ∧ n ≤ cap ∧ cap ≤ maxLen := by
  have hlen := h.len
  rw [i64s_length] at hlen
  by_cases h0 : n = 0
  · subst h0
    obtain ⟨A, cap, hv, h1, h2, _⟩ := h.shape
    exact ⟨A, cap, hv, ⟨by omega, hl, fun h => by omega⟩, h1, h2⟩
  · obtain ⟨g, cap, hv, _, hlt, h1, h2, hc⟩ := h.reads (by omega)
    refine ⟨_, cap, hv, ⟨by omega, hl, fun _ => ⟨g, 0, rfl, hlt, by omega, fun j hj => ?_⟩⟩, h1, h2⟩
    rw [Nat.zero_add]
    exact hc j _ (i64s_at l j (by omega))
/-- What the project's GetCatalogue leaves. -/
def SaidCat (w : World) (o : Option (Int × List Int × List Int)) (e : Ending) (w' : World) : Prop :=
  w.grownBy w' none ∧ ((∃ next stack vs v v', o = some (next, stack, vs) ∧ e = .returned (.tuple #[.agg #[.int .i64 next, v, v'], .bool true]) ∧ Own w' w.heap.size 121 6 v 8 (i64s vs) ∧ Own w' w.heap.size 3 1 v' stack.length (i64s stack) ∧
      (∀ x ∈ vs, -9223372036854775808 ≤ x ∧ x ≤ 9223372036854775807) ∧ ∀ x ∈ stack, -9223372036854775808 ≤ x ∧ x ≤ 9223372036854775807) ∨
    (o = none ∧ e = .returned (.tuple #[.agg #[.int .i64 0, .slice none 0 0, .slice none 0 0], .bool false])))
/-- Where the project's GetCatalogue stands when j volumes are read: U the catalogue, P the cursor over the array G, Z the result's own block. -/
structure Ct (w W : World) (P G U Z : Nat) (l : List Nat) (nx N j : Nat) (vv sv : Value) : Prop where
  grown : w.grownBy W none
  box : Blk W U 58 #[.int .i64 (nx : Nat), vv, sv]
  zero : Blk W Z 58 #[.int .i64 0, .slice none 0 0, .slice none 0 0]
  arr : Blk W G 154 (u8s l).toArray
  vols : Own W (U + 1) 121 6 vv j (i64s (volsT l j))
  stk : Own W (U + 1) 3 1 sv N (i64s (numsAt l 5 2 2 N))
  apart : ∀ g, vv.ownBlock = some g → sv.ownBlock ≠ some g
theorem Ct.drew {w W : World} {P G U Z : Nat} {l : List Nat} {nx N j : Nat} {vv sv : Value} (h : Ct w W P G U Z l nx N j vv sv) : Ct w W.drew P G U Z l nx N j vv sv :=
  ⟨h.grown.trans (grown_drew _ none), h.box, h.zero, h.arr, h.vols, h.stk, h.apart⟩
theorem Ct.move {w W W1 : World} {P G U Z : Nat} {l : List Nat} {nx N j : Nat} {vv sv : Value} (h : Ct w W P G U Z l nx N j vv sv) (hr : W.grownBy W1 (some P)) (h1 : w.heap.size ≤ P) (h2 : P < U) (h3 : P ≠ G) (h4 : P ≠ Z) : Ct w W1 P G U Z l nx N j vv sv where
  grown := grownBy_new h.grown hr (fun j hj => by cases hj; exact h1)
  box := h.box.grown hr (by simp; omega)
  zero := h.zero.grown hr (by simp; omega)
  arr := h.arr.grown hr (by simp; omega)
  vols := h.vols.keep hr (fun q hq e => by injection e with e; have := (h.vols.base_ q hq).1; omega)
  stk := h.stk.keep hr (fun q hq e => by injection e with e; have := (h.stk.base_ q hq).1; omega)
  apart := h.apart
theorem Ct.alloc {w W : World} {P G U Z : Nat} {l : List Nat} {nx N j : Nat} {vv sv : Value} (h : Ct w W P G U Z l nx N j vv sv) (o : Obj) : Ct w (W.alloc o) P G U Z l nx N j vv sv :=
  ⟨h.grown.trans (World.grownBy_alloc W o none), h.box.alloc o, h.zero.alloc o, h.arr.alloc o, h.vols.alloc o, h.stk.alloc o, h.apart⟩
/-- A volume is appended. -/
theorem Ct.vol {w W W1 : World} {P G U Z : Nat} {l : List Nat} {nx N j : Nat} {vv sv vv' : Value} {news : List Value} (h : Ct w W P G U Z l nx N j vv sv) (hg : Grew W W1 vv vv') (ho : Own W1 (U + 1) 121 6 vv' (j + 1) (i64s (volsT l j) ++ news))
    (hn : i64s (volsT l (j + 1)) = i64s (volsT l j) ++ news) (h2 : w.heap.size ≤ U) (h3 : G < U) (h4 : Z < U) : Ct w (W1.setCell ⟨U, 1, none⟩ vv') P G U Z l nx N (j + 1) vv' sv where
  grown := grown_set (grownBy_new h.grown hg.1 (fun q hq => by have := (h.vols.base_ q hq).1; omega)) h2 _
  box := (h.box.grown hg.1 (fun e => by have := (h.vols.base_ _ e.symm).1; omega)).set_ 1 _
  zero := (h.zero.grown hg.1 (fun e => by have := (h.vols.base_ _ e.symm).1; omega)).far (by simp; omega) _
  arr := (h.arr.grown hg.1 (fun e => by have := (h.vols.base_ _ e.symm).1; omega)).far (by simp; omega) _
  vols := by
    have h5 := Own.set_far (g := U) (i := 1) ho (by omega) vv'
    rw [hn]
    exact h5
  stk := Own.set_far (h.stk.keep hg.1 (fun q hq e => h.apart q e hq)) (by omega) _
  apart := fun q hq hv => by
    rcases hg.2 q hq with h5 | h5
    · exact h.apart q h5 hv
    · have := (h.stk.base_ q hv).2; omega
set_option maxRecDepth 100000 in
set_option maxHeartbeats 3200000 in
theorem codec_get_catalogue (b : Nat) (A : Option Addr) (n c : Nat) (l : List Nat) (w : World) (hl : Bytes w b A n l) :
    Calls Try.prog 21 #[.slice A n c] w (SaidCat w (catR l)) := by
  obtain ⟨i0, hi0, hz0, hz1, hz2⟩ := info_parts vol_info
  have hi := Lib.hid hi0; have z0 := Lib.hid hz0; have z1 := Lib.hid hz1; have z2 := Lib.hid hz2; clear hi0 hz0 hz1 hz2
  have HSIX := Lib.hid (show 0 < 6 by omega)
  have hlen := hl.1
  have HLT := Lib.hid hl.2.1
  have hg0 := World.grownBy_alloc w (.cells #[.int .i64 0, .slice none 0 0, .slice none 0 0] 58) none
  have HBX := Lib.hid (Blk.new w 58 #[.int .i64 0, .slice none 0 0, .slice none 0 0])
  have HLEN := Lib.hid hlen; have HL0 := Lib.hid hl; have HL := Lib.hid (bytes_keepN hl hg0); have HG0 := Lib.hid hg0; clear hlen hl hg0
  by_cases h240 : n = 240
  · subst h240
    have hr : catR l = if catW (num l 0 4) (numsAt l 5 2 2 (min (num l 4 1) 8)) (volsN l) = some l then some ((num l 0 4 : Int), numsAt l 5 2 2 (min (num l 4 1) 8), volsN l) else none := rfl
    have hmore : 8 < num l 4 1 → catR l = none := fun h => by
      rw [hr, if_neg (fun e => ?_)]
      have := (cat_fields e).2.1
      rw [numsAt_length] at this
      omega
    have HR := Lib.hid hr; have HMORE := Lib.hid hmore; clear hr hmore
    obtain ⟨hw0, _⟩ := num_small l 0 4 HLT.out (by omega)
    obtain ⟨hw1, _⟩ := num_small l 4 1 HLT.out (by omega)
    have HW0 := Lib.hid hw0; have HW1 := Lib.hid hw1; clear hw0 hw1
    generalize catR l = r at *
    go_enter Try.func21, Try.ntmps21
    go_wp2_with fail
    refine (openbody_any b A c l _ HL.out).mono ?_
    rintro e w1 ⟨rfl, hg1, hb1⟩
    rw [World.size_alloc] at hb1 ⊢
    have hbx1 := HBX.out.grown hg1 (by simp)
    have hsz1 := hg1.size
    rw [World.size_alloc] at hsz1
    have hgw := HG0.out.trans hg1
    have hlt1 := hb1.lt
    have hc1 := cur_new w1 (w.heap.size + 1) 240 0 rfl
    have HB1 := Lib.hid (hb1.alloc (.cells #[.slice (some ⟨w.heap.size + 1, 0, none⟩) 240 240] 99)); have HC1 := Lib.hid hc1
    have HX1 := Lib.hid (hbx1.alloc (.cells #[.slice (some ⟨w.heap.size + 1, 0, none⟩) 240 240] 99))
    have HG1 := Lib.hid (hgw.trans (World.grownBy_alloc w1 (.cells #[.slice (some ⟨w.heap.size + 1, 0, none⟩) 240 240] 99) none))
    clear hg1 hb1 hbx1 hgw hc1
    go_wp2_with fail
    refine (read_any w1.heap.size (w.heap.size + 1) 0 240 4 154 l _ HC1.out HB1.out (by decide) HLT.out (by omega) (by rw [HLEN.out]; omega) (by rw [HLEN.out]; omega)).mono ?_
    rintro e w2 ⟨rfl, hr2, hc2⟩
    rw [HW0.out]
    have hsz2 := hr2.size
    rw [World.size_alloc] at hsz2
    have HB2 := Lib.hid (HB1.out.grown hr2 (by simp; omega)); have HX2 := Lib.hid (HX1.out.grown hr2 (by simp; omega)); have HG2 := Lib.hid (grownBy_new HG1.out hr2 (fun j hj => by cases hj; omega)); have HC2 := Lib.hid hc2
    clear hr2 hc2 HB1 HX1 HG1 HC1
    generalize w1.heap.size = p at *
    obtain ⟨nx, hnx⟩ : ∃ nx, num l 0 4 = nx := ⟨_, rfl⟩
    rw [hnx]
    have HNX := Lib.hid hnx; clear hnx
    go_wp2_with fail
    have hga2 := World.grownBy_alloc w2 (.cells #[.int .i64 (nx : Nat), .slice none 0 0, .slice none 0 0] 58) none
    have HP1 := Lib.hid (show w.heap.size ≤ p by omega); have HP2 := Lib.hid (show p < w2.heap.size by omega); have HP3 := Lib.hid (show p ≠ w.heap.size + 1 by omega); have HP4 := Lib.hid (show p ≠ w.heap.size by omega)
    have HU1 := Lib.hid (show w.heap.size ≤ w2.heap.size by omega); have HU2 := Lib.hid (show w.heap.size + 1 < w2.heap.size by omega); have HU3 := Lib.hid (show w.heap.size < w2.heap.size by omega); have HPU := Lib.hid (show p ≠ w2.heap.size by omega)
    have HNN := Lib.hid (show some p ≠ none by simp)
    have HVP := Lib.hid (fun W v m xs h e => by have := (Own.base_ h p e).1; omega : ∀ (W : World) (v : Value) (m : Nat) (xs : List Value), Own W (w2.heap.size + 1) 121 6 v m xs → v.ownBlock ≠ some p)
    have HC2' := Lib.hid (HC2.out.grown hga2 (by simp)); have HB2' := Lib.hid (HB2.out.grown hga2 (by simp)); have HX2' := Lib.hid (HX2.out.grown hga2 (by simp)); have HG2' := Lib.hid (HG2.out.trans hga2); have HU0 := Lib.hid (Blk.new w2 58 #[.int .i64 (nx : Nat), .slice none 0 0, .slice none 0 0])
    clear hga2
    refine (read_any p (w.heap.size + 1) 4 236 1 154 l _ HC2'.out HB2'.out (by decide) HLT.out (by omega) (by rw [HLEN.out]; omega) (by rw [HLEN.out]; omega)).mono ?_
    rintro e w3 ⟨rfl, hr3, hc3⟩
    rw [HW1.out]
    have HG3 := Lib.hid (grownBy_new HG2'.out hr3 (fun j hj => by cases hj; exact HP1.out)); have HC3 := Lib.hid hc3; have HB3 := Lib.hid (HB2'.out.grown hr3 (by simpa using fun e => HP3.out e.symm)); have HX3 := Lib.hid (HX2'.out.grown hr3 (by simpa using fun e => HP4.out e.symm)); have HU3' := Lib.hid (HU0.out.grown hr3 (by simpa using fun e => HPU.out e.symm))
    clear hr3 hc3 HC2' HC2 HB2 HX2 HG2 HB2' HX2' HG2' HU0
    by_cases h8 : 8 < num l 4 1
    · have HNO := Lib.hid (HMORE.out h8)
      have h8'' : (8 : Int) < ((num l 4 1 : Nat) : Int) := by omega
      have x0 := HX3.out.cell 0; have x1 := HX3.out.cell 1; have x2 := HX3.out.cell 2; have f0 := HX3.out.frozen 0; have f1 := HX3.out.frozen 1; have f2 := HX3.out.frozen 2
      simp only [List.getElem?_toArray, List.getElem?_cons_zero, List.getElem?_cons_succ] at x0 x1 x2
      go_wp2_with fail
      refine ret_row2 rfl w.heap.size 58 _ _ rfl (Blk.set3 HX3.out) Try.underlying58 rfl (by kernel_rfl) rfl ⟨?_, .inr ⟨HNO.out, rfl⟩⟩
      repeat (refine grown_set ?_ (Nat.le_refl _) _)
      exact HG3.out
    · obtain ⟨N, hN⟩ : ∃ N, N = num l 4 1 := ⟨_, rfl⟩
      have hN8 : N ≤ 8 := by omega
      have HRN := Lib.hid (show r = if catW (nx : Int) (numsAt l 5 2 2 N) (volsN l) = some l then some ((nx : Int), numsAt l 5 2 2 N, volsN l) else none by rw [HR.out, HNX.out, Nat.min_eq_left (by omega), ← hN])
      have HN8 := Lib.hid hN8
      rw [← hN]
      clear h8 hN HR HMORE hN8
      have h8'' : ¬ ((8 : Int) < ((N : Nat) : Int)) := by have := HN8.out; omega
      go_wp2_with fail
      refine (take_any p (w.heap.size + 1) 5 235 16 _ HC3.out (by omega) (by omega)).mono ?_
      rintro e w4 ⟨⟨k4, rfl, hk4⟩, hr4, hc4⟩
      obtain rfl := hk4 (by omega)
      have hga4 := World.grownBy_alloc w4 (.cells #[.slice (some ⟨w.heap.size + 1, 5, none⟩) 16 16] 99) none
      have hsz4 := hr4.size
      have hsz3 := HU3'.out.lt
      have HG4 := Lib.hid ((grownBy_new HG3.out hr4 (fun j hj => by cases hj; exact HP1.out)).trans hga4); have HC4 := Lib.hid (hc4.grown hga4 (by simp)); have HB4 := Lib.hid ((HB3.out.grown hr4 (by simpa using fun e => HP3.out e.symm)).alloc (.cells #[.slice (some ⟨w.heap.size + 1, 5, none⟩) 16 16] 99)); have HX4 := Lib.hid ((HX3.out.grown hr4 (by simpa using fun e => HP4.out e.symm)).alloc (.cells #[.slice (some ⟨w.heap.size + 1, 5, none⟩) 16 16] 99)); have HU4 := Lib.hid ((HU3'.out.grown hr4 (by simpa using fun e => HPU.out e.symm)).alloc (.cells #[.slice (some ⟨w.heap.size + 1, 5, none⟩) 16 16] 99))
      have HQ4 := Lib.hid (⟨5, Blk.new w4 _ _, fun _ => rfl⟩ : Cur (w4.alloc (.cells #[.slice (some ⟨w.heap.size + 1, 5, none⟩) 16 16] 99)) w4.heap.size (w.heap.size + 1) 5 16)
      have HQN := Lib.hid (show w2.heap.size < w4.heap.size by omega)
      clear hga4 hr4 hc4 hsz4 hsz3 HG3 HC3 HB3 HX3 HU3'
      go_wp2_with fail
      refine (readall_any w4.heap.size (w.heap.size + 1) 5 16 N 2 154 l _ HQ4.out HB4.out (by decide) HLT.out (by have := HN8.out; omega) (by rw [HLEN.out]; omega) (by rw [HLEN.out]; omega) (by have := HN8.out; omega) (by omega)).mono ?_
      rintro e w5 ⟨v, rfl, hown, hr5, _⟩
      have HRK := Lib.hid (nums_range l 5 2 2 N HLT.out (by omega))
      obtain ⟨A5, c5, rfl, _, _, _⟩ := own_ints hown HRK.out
      have hqn := HQN.out
      have hu5 := HU4.out.grown hr5 (by simp; omega)
      have hcl := hu5.cell 2
      have hfr := hu5.frozen 2
      simp only [List.getElem?_toArray, List.getElem?_cons_zero, List.getElem?_cons_succ] at hcl
      have hu2 := HU2.out; have hu3 := HU3.out; have hu1 := HU1.out; have hp2 := HP2.out
      have hct : Ct w (w5.setCell ⟨w2.heap.size, 2, none⟩ (.slice A5 N c5)) p (w.heap.size + 1) w2.heap.size w.heap.size l nx N 0 (.slice none 0 0) (.slice A5 N c5) :=
        { grown := grown_set (grownBy_new HG4.out hr5 (fun j hj => by cases hj; omega)) hu1 _
          box := hu5.set_ 2 _
          zero := (HX4.out.grown hr5 (by simp; omega)).far (by simp; omega) _
          arr := (HB4.out.grown hr5 (by simp; omega)).far (by simp; omega) _
          vols := Own.nil _ _ _ _
          stk := (Own.set_far (g := w2.heap.size) (i := 2) hown (by rw [World.size_alloc]; omega) _).low (by rw [World.size_alloc]; omega)
          apart := fun g hg => by simp [Value.ownBlock] at hg }
      have hcr : Cur (w5.setCell ⟨w2.heap.size, 2, none⟩ (.slice A5 N c5)) p (w.heap.size + 1) 21 219 := by
        obtain ⟨k0, hb, hk⟩ := HC4.out.grown hr5 (by simp; omega)
        exact ⟨k0, hb.far (by simp; omega) _, hk⟩
      have CT5 := Lib.hid hct; have HC5 := Lib.hid hcr
      clear hct hcr hu5 hr5 hown hqn hu1 hu2 hu3 hp2 HG4 HC4 HB4 HX4 HU4 HQ4
      go_wp2_with fail
      clear hcl hfr
      go_loopw [29] (fun i wr => ∃ (j : Nat) (vv : Value), j ≤ 8 ∧ i = .int .i64 j ∧ Ct w wr p (w.heap.size + 1) w2.heap.size w.heap.size l nx N j vv (.slice A5 N c5) ∧ Cur wr p (w.heap.size + 1) (21 + 19 * j) (219 - 19 * j)) (fun i _ => 8 - (intOf i).toNat)
      case atStart => exact ⟨0, _, by omega, rfl, CT5.out, HC5.out⟩
      case round =>
        obtain ⟨j, vv, hj, rfl, hct, hcr⟩ := hrel
        have CT := Lib.hid hct; have HCR := Lib.hid hcr
        clear hct hcr
        by_cases hlt : j < 8
        · have hk1 := CT.out.box.cell 1
          simp only [List.getElem?_toArray, List.getElem?_cons_zero, List.getElem?_cons_succ] at hk1
          have HVS := Lib.hid (show i64s (volsT l (j + 1)) = i64s (volsT l j) ++ [.int .i64 (num l (21 + 19 * j) 4 : Nat), .int .i64 (num l (21 + 19 * j + 4) 1 : Nat), .int .i64 (num l (21 + 19 * j + 5) 4 : Nat), .int .i64 (num l (21 + 19 * j + 9) 4 : Nat), .int .i64 (num l (21 + 19 * j + 13) 2 : Nat), .int .i64 (num l (21 + 19 * j + 15) 4 : Nat)] by rw [volsT_succ, i64s_append]; rfl)
          go_wp2_with fail
          go_region_law (first
            | (go_simp
               go_at_call 58
               refine (getvolume_any p (w.heap.size + 1) (21 + 19 * j) (219 - 19 * j) 154 l _ ?_ ?_ ?_ HLT.out ?_ ?_ ?_).mono ?_
               exact HCR.out
               exact CT.out.arr
               decide
               omega
               (rw [HLEN.out]; omega)
               (rw [HLEN.out]; omega)
               rintro e w6 ⟨rfl, hr6, hc6⟩
               have hct6 := CT.out.drew.move hr6 HP1.out HP2.out HP3.out HP4.out
               have hk6 := hct6.box.cell 1
               have hkl6 := hct6.box.lt
               simp only [List.getElem?_toArray, List.getElem?_cons_zero, List.getElem?_cons_succ] at hk6
               have CT6 := Lib.hid hct6; have HC6 := Lib.hid hc6
               clear hr6 hc6 hct6)
            | (refine step_append_own_full _ rfl (.tmp 32) (.tmp 34) _ rfl (w2.heap.size + 1) 121 i0 _ 6 48 Try.underlying56 hi.out z0.out z1.out z2.out rfl HSIX.out vv j _ ?_ (CT6.out.vols.alloc _)
                 _ _ 1 1 _ ?_ (reads_one_vol _ _ _ _ _ _ _) ?_ ?_ ?_ ?_ ?_
               rfl
               rfl
               (intro u hu; simp at hu; rcases hu with rfl | rfl | rfl | rfl | rfl | rfl <;> rfl)
               (simp only [maxLen]; omega)
               omega
               (have := CT6.out.box.lt; simp; omega)
               intro v' w' hown' hgr'
               obtain ⟨A2, c2, hv2, _, _, _⟩ := hown'.shape
               subst hv2
               have hct7 := (CT6.out.alloc (.cells #[.int .i64 (num l (21 + 19 * j) 4 : Nat), .int .i64 (num l (21 + 19 * j + 4) 1 : Nat), .int .i64 (num l (21 + 19 * j + 5) 4 : Nat), .int .i64 (num l (21 + 19 * j + 9) 4 : Nat), .int .i64 (num l (21 + 19 * j + 13) 2 : Nat), .int .i64 (num l (21 + 19 * j + 15) 4 : Nat)] 121)).vol hgr' hown' HVS.out HU1.out HU2.out HU3.out
               have hc7 := cur_key (i := 1) (u := Value.slice A2 (j + 1) c2) (HC6.out.grown (World.grownBy_alloc w6 (.cells #[.int .i64 (num l (21 + 19 * j) 4 : Nat), .int .i64 (num l (21 + 19 * j + 4) 1 : Nat), .int .i64 (num l (21 + 19 * j + 5) 4 : Nat), .int .i64 (num l (21 + 19 * j + 9) 4 : Nat), .int .i64 (num l (21 + 19 * j + 13) 2 : Nat), .int .i64 (num l (21 + 19 * j + 15) 4 : Nat)] 121) none) HNN.out) hgr' (HVP.out _ _ _ _ CT6.out.vols) HPU.out
               have hbb := (CT6.out.alloc (.cells #[.int .i64 (num l (21 + 19 * j) 4 : Nat), .int .i64 (num l (21 + 19 * j + 4) 1 : Nat), .int .i64 (num l (21 + 19 * j + 5) 4 : Nat), .int .i64 (num l (21 + 19 * j + 9) 4 : Nat), .int .i64 (num l (21 + 19 * j + 13) 2 : Nat), .int .i64 (num l (21 + 19 * j + 15) 4 : Nat)] 121)).box.grown hgr'.1 (fun e => by have := (CT6.out.vols.base_ _ e.symm).1; omega)
               have hc1' := hbb.cell 1
               have hf1' := hbb.frozen 1
               simp only [List.getElem?_toArray, List.getElem?_cons_zero, List.getElem?_cons_succ] at hc1'
               have CT7 := Lib.hid hct7; have HC7 := Lib.hid hc7
               clear hct7 hc7 hbb hown' hgr'))
          all_goals
            go_wp2_with fail
            go_roundw
            case measure => simp [intOf]; omega
            case rel =>
              refine ⟨j + 1, _, by omega, by go_num, CT7.out, ?_⟩
              have h := HC7.out
              rwa [show 21 + 19 * j + 19 = 21 + 19 * (j + 1) from by omega, show 219 - 19 * j - 19 = 219 - 19 * (j + 1) from by omega] at h
        · obtain rfl : j = 8 := by omega
          have HRV := Lib.hid (volsT_range l 8 HLT.out)
          obtain ⟨A1, c1, rfl, hi1, _, _⟩ := own_vols CT.out.vols HRV.out
          obtain ⟨A2, c2, he2, hi2, _, _⟩ := own_ints CT.out.stk HRK.out
          simp only [Value.slice.injEq, true_and] at he2
          obtain ⟨rfl, rfl⟩ := he2
          have HI1 := Lib.hid hi1; have HI2 := Lib.hid hi2
          clear hi1 hi2
          have k0 := CT.out.box.cell 0; have k1 := CT.out.box.cell 1; have k2 := CT.out.box.cell 2
          simp only [List.getElem?_toArray, List.getElem?_cons_zero, List.getElem?_cons_succ] at k0 k1 k2
          go_wp2_with fail
          refine (codec_put_catalogue _ (nx : Int) A1 A5 8 c1 N c5 _ _ _ HI2.out HI1.out (by have := HN8.out; omega)).mono ?_
          clear k0 k1 k2
          rw [volsT_all]
          rintro e w8 hG
          have HZ9 := Lib.hid (CT.out.zero.grown hG.1 (by simp)); have HG9 := Lib.hid (CT.out.grown.trans hG.1); have HU9 := Lib.hid (CT.out.box.grown hG.1 (by simp))
          have HK9 := Lib.hid (CT.out.vols.keep hG.1 (by simp)); have HV9 := Lib.hid (CT.out.stk.keep hG.1 (by simp))
          have HGV := Lib.hid hG.2
          clear hG
          have x0 := HZ9.out.cell 0; have x1 := HZ9.out.cell 1; have x2 := HZ9.out.cell 2; have f0 := HZ9.out.frozen 0; have f1 := HZ9.out.frozen 1; have f2 := HZ9.out.frozen 2
          have y0 := HU9.out.cell 0; have y1 := HU9.out.cell 1; have y2 := HU9.out.cell 2
          have hul := HU9.out.lt
          simp only [List.getElem?_toArray, List.getElem?_cons_zero, List.getElem?_cons_succ] at x0 x1 x2 y0 y1 y2
          rcases HGV.out with ⟨l', g3, ho, rfl, _, hb3, hlt3⟩ | ⟨ho, rfl⟩
          · have HB3 := Lib.hid (blk_bytes (b := w8.heap.size) hb3 (by have := hb3.lt; omega) hlt3); have HW := Lib.hid ho
            have HL3 := Lib.hid (bytes_keepN HL0.out HG9.out)
            clear ho hb3
            go_wp2_with fail
            refine (comesback_any _ _ A _ _ _ c _ l l' _ HL3.out HB3.out).mono ?_
            rintro e w9 ⟨rfl, rfl⟩
            cases hd : decide (l = l') with
            | true =>
              have hl := of_decide_eq_true hd
              have HRX := Lib.hid (show r = some ((nx : Int), numsAt l 5 2 2 N, volsN l) by rw [HRN.out, if_pos (by rw [HW.out, ← hl])])
              clear hd hl
              go_wp2_with fail
              refine ret_row2 rfl w.heap.size 58 _ _ rfl (Blk.set3 HZ9.out) Try.underlying58 rfl (by kernel_rfl) rfl ⟨?_, .inl ⟨(nx : Int), numsAt l 5 2 2 N, volsN l, _, _, HRX.out, rfl, ?_, ?_, HRV.out, HRK.out⟩⟩
              · repeat (refine grown_set ?_ (Nat.le_refl _) _)
                exact HG9.out
              · exact (Own.set_far (Own.set_far (Own.set_far HK9.out (by omega) _) (by omega) _) (by omega) _).low (by omega)
              · rw [numsAt_length]
                exact (Own.set_far (Own.set_far (Own.set_far HV9.out (by omega) _) (by omega) _) (by omega) _).low (by omega)
            | false =>
              have hl := of_decide_eq_false hd
              have HRX := Lib.hid (show r = none by rw [HRN.out, if_neg (by rw [HW.out]; simpa using fun e => hl e.symm)])
              clear hd hl
              go_wp2_with fail
              refine ret_row2 rfl w.heap.size 58 _ _ rfl (Blk.set3 HZ9.out) Try.underlying58 rfl (by kernel_rfl) rfl ⟨?_, .inr ⟨HRX.out, rfl⟩⟩
              repeat (refine grown_set ?_ (Nat.le_refl _) _)
              exact HG9.out
          · have HRX := Lib.hid (show r = none by rw [HRN.out, if_neg (by rw [ho]; simp)])
            clear ho
            go_wp2_with fail
            refine (comesback_err A none _ 0 c 0 _).mono ?_
            rintro e w9 ⟨rfl, rfl⟩
            go_wp2_with fail
            refine ret_row2 rfl w.heap.size 58 _ _ rfl (Blk.set3 HZ9.out) Try.underlying58 rfl (by kernel_rfl) rfl ⟨?_, .inr ⟨HRX.out, rfl⟩⟩
            repeat (refine grown_set ?_ (Nat.le_refl _) _)
            exact HG9.out
  · have hno := catR_none l (by rw [HLEN.out]; exact h240)
    have HNO := Lib.hid hno; clear hno
    generalize catR l = r at *
    go_enter Try.func21, Try.ntmps21
    go_wp2_with fail
    refine (openbody_no A n c _ h240).mono ?_
    rintro e w1 ⟨rfl, rfl⟩
    go_wp2_with fail
    exact ret_row2 rfl w.heap.size 58 _ _ rfl (HBX.out.alloc _) Try.underlying58 rfl (by kernel_rfl) rfl ⟨HG0.out.trans (World.grownBy_alloc _ _ none), .inr ⟨HNO.out, rfl⟩⟩
end Go.Proofs.Ytboccfficmaoaaa.Codec
/- The project's PutHead, with headMayBe. -/
namespace Go.Proofs.Ytboccfficmaoaaa.Codec
open Go.RowKit CrcMath CodecMath Mem Crc

theorem headOk_eq {epoch seq : Int} {pages : List Int} {n : Nat} (hn : pages.length = n) : headOk epoch seq pages = (inB epoch 1099511627776 && inB seq 1099511627776 && (decide (1 ≤ n) && decide (n ≤ 40)) && allB pages 1023) := by subst hn; rfl
set_option maxRecDepth 100000 in
set_option maxHeartbeats 800000 in
theorem headmay_any (b : Nat) (epoch seq : Int) (A : Option Addr) (n c : Nat) (pages : List Int) (sum : Nat) (w : World) (hp : Ints w b A n pages) (hn : n ≤ 9223372036854775807) :
    Calls Try.prog 80 #[.agg #[.int .i64 epoch, .int .i64 seq, .slice A n c, .int .u32 (sum : Nat)]] w fun e w' => e = .returned (.bool (headOk epoch seq pages)) ∧ w' = w.alloc (.cells #[.int .i64 epoch, .int .i64 seq, .slice A n c, .int .u32 (sum : Nat)] 34) := by
  have HOK := Lib.hid (headOk_eq (epoch := epoch) (seq := seq) hp.1)
  have HP := Lib.hid (ints_keep hp (World.grownBy_alloc w (.cells #[.int .i64 epoch, .int .i64 seq, .slice A n c, .int .u32 (sum : Nat)] 34) none) (.inl rfl))
  clear hp
  generalize headOk epoch seq pages = ok at *
  cases hie : inB epoch 1099511627776 with
  | false =>
    have HN := Lib.hid (show ok = false by rw [HOK.out, hie]; simp)
    have HIE := Lib.hid hie; clear hie
    go_enter Try.func80, Try.ntmps80
    go_wp2_with fail
    refine (within_any epoch _ _).mono ?_
    rintro e w2 ⟨rfl, rfl⟩
    rw [HIE.out]
    go_wp2
    go_ret
    exact ⟨by rw [HN.out]; rfl, rfl⟩
  | true =>
    cases his : inB seq 1099511627776 with
    | false =>
      have HN := Lib.hid (show ok = false by rw [HOK.out, hie, his]; simp)
      have HIE := Lib.hid hie; have HIS := Lib.hid his; clear hie his
      go_enter Try.func80, Try.ntmps80
      go_wp2_with fail
      refine (within_any epoch _ _).mono ?_
      rintro e w2 ⟨rfl, rfl⟩
      rw [HIE.out]
      go_wp2_with fail
      refine (within_any seq _ _).mono ?_
      rintro e w2 ⟨rfl, rfl⟩
      rw [HIS.out]
      go_wp2
      go_ret
      exact ⟨by rw [HN.out]; rfl, rfl⟩
    | true =>
      by_cases h1 : 1 ≤ n
      · by_cases h2 : n ≤ 40
        · have HN := Lib.hid (show ok = allB pages 1023 by rw [HOK.out, hie, his]; simp [h1, h2])
          have HIE := Lib.hid hie; have HIS := Lib.hid his; clear hie his
          have h1' : (1 : Int) ≤ n := by omega
          have h2' : (n : Int) ≤ 40 := by omega
          go_enter Try.func80, Try.ntmps80
          go_wp2_with fail
          refine (within_any epoch _ _).mono ?_
          rintro e w2 ⟨rfl, rfl⟩
          rw [HIE.out]
          go_wp2_with fail
          refine (within_any seq _ _).mono ?_
          rintro e w2 ⟨rfl, rfl⟩
          rw [HIS.out]
          go_wp2_with fail
          refine (allwithin_any b A n c pages 1023 _ HP.out hn).mono ?_
          rintro e w2 ⟨rfl, rfl⟩
          go_wp2
          go_ret
          exact ⟨by rw [HN.out]; rfl, rfl⟩
        · have HN := Lib.hid (show ok = false by rw [HOK.out, hie, his]; simp [h2])
          have HIE := Lib.hid hie; have HIS := Lib.hid his; clear hie his
          have hd : decide ((n : Int) ≤ 40) = false := by simp; omega
          have h1' : (1 : Int) ≤ n := by omega
          go_enter Try.func80, Try.ntmps80
          go_wp2_with fail
          refine (within_any epoch _ _).mono ?_
          rintro e w2 ⟨rfl, rfl⟩
          rw [HIE.out]
          go_wp2_with fail
          refine (within_any seq _ _).mono ?_
          rintro e w2 ⟨rfl, rfl⟩
          rw [HIS.out]
          go_wp2
          go_ret
          exact ⟨by rw [HN.out]; rfl, rfl⟩
      · have HN := Lib.hid (show ok = false by rw [HOK.out, hie, his]; simp [h1])
        have HIE := Lib.hid hie; have HIS := Lib.hid his; clear hie his
        obtain rfl : n = 0 := by omega
        go_enter Try.func80, Try.ntmps80
        go_wp2_with fail
        refine (within_any epoch _ _).mono ?_
        rintro e w2 ⟨rfl, rfl⟩
        rw [HIE.out]
        go_wp2_with fail
        refine (within_any seq _ _).mono ?_
        rintro e w2 ⟨rfl, rfl⟩
        rw [HIS.out]
        go_wp2
        go_ret
        exact ⟨by rw [HN.out]; rfl, rfl⟩

/-- What of a head stands when j of its pages are written. -/
def headQ (epoch seq : Int) (pages : List Int) (sum j : Nat) : List Nat := headP epoch seq pages sum ++ ((pages.take j).flatMap fun n => be 4 n.toNat)
theorem headQ_len (epoch seq : Int) (pages : List Int) (sum j : Nat) (h : j ≤ pages.length) : (headQ epoch seq pages sum j).length = 26 + 4 * j := by
  rw [headQ, List.length_append, headP_len, flat_len, List.length_take, Nat.min_eq_left h]
theorem headQ_succ (epoch seq : Int) (pages : List Int) (sum j : Nat) (h : j < pages.length) : headQ epoch seq pages sum (j + 1) = headQ epoch seq pages sum j ++ be 4 (pages.getD j 0).toNat := by
  rw [headQ, take_flat pages 4 j h, ← List.append_assoc]; rfl
theorem headQ_all (epoch seq : Int) (pages : List Int) (sum : Nat) : headQ epoch seq pages sum pages.length = headB epoch seq pages sum := by rw [headQ, List.take_length]; rfl
set_option maxRecDepth 100000 in
set_option maxHeartbeats 1600000 in
theorem codec_put_head (b b2 : Nat) (epoch seq : Int) (A : Option Addr) (n c : Nat) (pages : List Int) (sum : Nat) (w : World) (hR : Ready w b) (hp : Ints w b2 A n pages) (hn : n ≤ 9223372036854775807) (hsum : sum < 4294967296) :
    Calls Try.prog 45 #[.pointer (some ⟨b, 0, none⟩), .agg #[.int .i64 epoch, .int .i64 seq, .slice A n c, .int .u32 (sum : Nat)]] w (Gave w 133 (headW epoch seq pages sum)) := by
  have HLEN := Lib.hid hp.1
  have hg00 := World.grownBy_alloc w (.cells #[.int .i64 epoch, .int .i64 seq, .slice A n c, .int .u32 (sum : Nat)] 34) none
  have HR := Lib.hid hR; have HP := Lib.hid hp; have HP1 := Lib.hid (ints_keep hp hg00 (.inl rfl))
  have HG0 := Lib.hid (hg00.trans (World.grownBy_alloc _ (.cells #[.int .i64 epoch, .int .i64 seq, .slice A n c, .int .u32 (sum : Nat)] 34) none))
  have HBX := Lib.hid ((Blk.new w 34 #[.int .i64 epoch, .int .i64 seq, .slice A n c, .int .u32 (sum : Nat)]).alloc (.cells #[.int .i64 epoch, .int .i64 seq, .slice A n c, .int .u32 (sum : Nat)] 34))
  have hz := zero256
  clear hR hp hg00
  cases hok : headOk epoch seq pages with
  | false =>
    have HNO := Lib.hid (show headW epoch seq pages sum = none by rw [headW, hok]; rfl)
    have HOK := Lib.hid hok; clear hok
    go_enter Try.func45, Try.ntmps45
    go_wp2_with fail
    refine (headmay_any b2 epoch seq A n c pages sum _ HP1.out hn).mono ?_
    rintro e w1 ⟨rfl, rfl⟩
    rw [HOK.out]
    go_wp2
    go_ret2
    exact ⟨HG0.out, .inr ⟨HNO.out, rfl⟩⟩
  | true =>
    have HYES := Lib.hid (show headW epoch seq pages sum = some (frame (headB epoch seq pages sum)) by rw [headW, hok]; rfl)
    obtain ⟨⟨he0, he1⟩, ⟨hs0, hs1⟩, hn1, hn40, hpa⟩ := headOk_iff hok
    rw [HLEN.out] at hn1 hn40
    have HPB := Lib.hid (fun j hj => allB_yes hpa j hj : ∀ j, j < pages.length → 0 ≤ pages.getD j 0 ∧ pages.getD j 0 ≤ 1023)
    have HOK := Lib.hid hok; clear hok hpa
    obtain ⟨ep, rfl⟩ := Int.eq_ofNat_of_zero_le he0
    obtain ⟨sq, rfl⟩ := Int.eq_ofNat_of_zero_le hs0
    have HFZ := Lib.hid (fill_zero 256)
    generalize hzz : Array.replicate 256 (Value.int .u8 0) = zs at *
    clear hzz
    have hst := start_row HG0.out 133 256 zs HFZ.out
    simp only [World.size_alloc] at hst
    obtain ⟨hg1, hc1, hb1⟩ := hst
    have HG1 := Lib.hid hg1; have HC1 := Lib.hid hc1; have HB1 := Lib.hid hb1; have HBA := Lib.hid ((HBX.out.alloc (.cells zs 133)).alloc (.cells #[.slice (some ⟨w.heap.size + 1 + 1, 0, none⟩) 256 256] 99))
    clear hg1 hc1 hb1
    go_enter Try.func45, Try.ntmps45
    go_wp2_with fail
    refine (headmay_any b2 (ep : Int) (sq : Int) A n c pages sum _ HP1.out hn).mono ?_
    rintro e w1 ⟨rfl, rfl⟩
    rw [HOK.out]
    go_wp2_with fail
    refine (mark_any _ _ 0 256 _ _ _ [80, 76, 79, 71] _ HC1.out HB1.out (by decide) rfl rfl (by omega) (by rw [fill_length _ _ (by simp)]; omega) (by rw [fill_length _ _ (by simp)]; omega)).mono ?_
    rintro e w2 ⟨rfl, hlf, hc2, hb2⟩
    rw [show lay (fill [] 256) 0 [80, 76, 79, 71] = fill [80, 76, 79, 71] 256 from lay_fill [] [80, 76, 79, 71] 256] at hb2
    have hbx := hlf.blk HBA.out (by omega) (by omega)
    have HG2 := Lib.hid (hlf.new HG1.out (by omega) (by omega)); have HC2 := Lib.hid hc2; have HB2 := Lib.hid hb2; have HX2 := Lib.hid hbx
    have x0 := hbx.cell 0
    simp only [List.getElem?_toArray, List.getElem?_cons_zero] at x0
    clear hlf hc2 hb2 hbx HG1 HC1 HB1 HBA
    go_wp2_with fail
    clear x0
    refine (write_any _ _ 4 252 8 ep _ _ _ HC2.out HB2.out (by decide) (by omega) (by rw [fill_length _ _ (by simp)]; omega) (by rw [fill_length _ _ (by simp)]; omega) (by omega)).mono ?_
    rintro e w3 ⟨rfl, hlf, hc, hb⟩
    rw [show lay (fill ([80, 76, 79, 71]) 256) 4 (be 8 ep) = fill ([80, 76, 79, 71] ++ be 8 ep) 256 from lay_fill ([80, 76, 79, 71]) (be 8 ep) 256] at hb
    have hbx := hlf.blk HX2.out (by omega) (by omega)
    have HG3 := Lib.hid (hlf.new HG2.out (by omega) (by omega)); have HC3 := Lib.hid hc; have HB3 := Lib.hid hb; have HX3 := Lib.hid hbx
    have x1 := hbx.cell 1
    simp only [List.getElem?_toArray, List.getElem?_cons_zero, List.getElem?_cons_succ] at x1
    clear hlf hc hb hbx
    go_wp2_with fail
    clear x1
    refine (write_any _ _ 12 244 8 sq _ _ _ HC3.out HB3.out (by decide) (by omega) (by rw [fill_length _ _ (by simp [be_length])]; omega) (by rw [fill_length _ _ (by simp [be_length])]; omega) (by omega)).mono ?_
    rintro e w4 ⟨rfl, hlf, hc, hb⟩
    rw [show lay (fill ([80, 76, 79, 71] ++ be 8 ep) 256) 12 (be 8 sq) = fill ([80, 76, 79, 71] ++ be 8 ep ++ be 8 sq) 256 from lay_fill ([80, 76, 79, 71] ++ be 8 ep) (be 8 sq) 256] at hb
    have hbx := hlf.blk HX3.out (by omega) (by omega)
    have HG4 := Lib.hid (hlf.new HG3.out (by omega) (by omega)); have HC4 := Lib.hid hc; have HB4 := Lib.hid hb; have HX4 := Lib.hid hbx
    have x3 := hbx.cell 3
    simp only [List.getElem?_toArray, List.getElem?_cons_zero, List.getElem?_cons_succ] at x3
    clear hlf hc hb hbx
    go_wp2_with fail
    clear x3
    refine (write_any _ _ 20 236 4 sum _ _ _ HC4.out HB4.out (by decide) (by omega) (by rw [fill_length _ _ (by simp [be_length])]; omega) (by rw [fill_length _ _ (by simp [be_length])]; omega) (by omega)).mono ?_
    rintro e w5 ⟨rfl, hlf, hc, hb⟩
    rw [show lay (fill ([80, 76, 79, 71] ++ be 8 ep ++ be 8 sq) 256) 20 (be 4 sum) = fill ([80, 76, 79, 71] ++ be 8 ep ++ be 8 sq ++ be 4 sum) 256 from lay_fill ([80, 76, 79, 71] ++ be 8 ep ++ be 8 sq) (be 4 sum) 256] at hb
    have hbx := hlf.blk HX4.out (by omega) (by omega)
    have HG5 := Lib.hid (hlf.new HG4.out (by omega) (by omega)); have HC5 := Lib.hid hc; have HB5 := Lib.hid hb; have HX5 := Lib.hid hbx
    have x2 := hbx.cell 2
    simp only [List.getElem?_toArray, List.getElem?_cons_zero, List.getElem?_cons_succ] at x2
    clear hlf hc hb hbx
    go_wp2_with fail
    clear x2
    refine (write_any _ _ 24 232 2 n _ _ _ HC5.out HB5.out (by decide) (by omega) (by rw [fill_length _ _ (by simp [be_length])]; omega) (by rw [fill_length _ _ (by simp [be_length])]; omega) (by omega)).mono ?_
    rintro e w6 ⟨rfl, hlf, hc, hb⟩
    rw [show lay (fill ([80, 76, 79, 71] ++ be 8 ep ++ be 8 sq ++ be 4 sum) 256) 24 (be 2 n) = fill ([80, 76, 79, 71] ++ be 8 ep ++ be 8 sq ++ be 4 sum ++ be 2 n) 256 from lay_fill ([80, 76, 79, 71] ++ be 8 ep ++ be 8 sq ++ be 4 sum) (be 2 n) 256] at hb
    have hbx := hlf.blk HX5.out (by omega) (by omega)
    have HG6 := Lib.hid (hlf.new HG5.out (by omega) (by omega)); have HC6 := Lib.hid hc; have HB6 := Lib.hid hb; have HX6 := Lib.hid hbx
    have x2 := hbx.cell 2
    simp only [List.getElem?_toArray, List.getElem?_cons_zero, List.getElem?_cons_succ] at x2
    clear hlf hc hb hbx
    go_wp2_with fail
    clear x2
    have HB6' := Lib.hid (show Blk w6 _ _ (u8s (fill (headQ (ep : Int) (sq : Int) pages sum 0) 256)).toArray by
      have h := HB6.out
      rwa [show [80, 76, 79, 71] ++ be 8 ep ++ be 8 sq ++ be 4 sum ++ be 2 n = headQ (ep : Int) (sq : Int) pages sum 0 by rw [← HLEN.out]; simp [headQ, headP]] at h)
    clear HB6
    go_loopw [9, 36] (fun _ i wr => ∃ j : Nat, j ≤ n ∧ i = .int .i64 j ∧ w.grownBy wr none ∧ Cur wr (w.heap.size + 1 + 1 + 1) (w.heap.size + 1 + 1) (26 + 4 * j) (230 - 4 * j) ∧
      Blk wr (w.heap.size + 1 + 1) 133 (u8s (fill (headQ (ep : Int) (sq : Int) pages sum j) 256)).toArray) (fun _ i _ => n - (intOf i).toNat)
    case atStart => exact ⟨0, by omega, rfl, HG6.out, HC6.out, HB6'.out⟩
    case round =>
      obtain ⟨j, hj, rfl, hg, hc, hb⟩ := hrel
      have HG := Lib.hid hg; have HC := Lib.hid hc; have HBK := Lib.hid hb
      clear hg hc hb
      have hpl := headQ_len (ep : Int) (sq : Int) pages sum j (by rw [HLEN.out]; exact hj)
      by_cases hlt : j < n
      · obtain ⟨g, o, rfl, _, _, hcl⟩ := (ints_keep HP.out HG.out (.inl rfl)).2.2 (by omega)
        have hcj := hcl j hlt
        clear hcl
        obtain ⟨hx0, hx1⟩ := HPB.out j (by rw [HLEN.out]; exact hlt)
        have hly := lay_fill (headQ (ep : Int) (sq : Int) pages sum j) (be 4 (pages.getD j 0).toNat) 256
        rw [hpl, ← headQ_succ _ _ _ _ _ (by rw [HLEN.out]; exact hlt)] at hly
        have hfl := fill_length (headQ (ep : Int) (sq : Int) pages sum j) 256 (by omega)
        have HLY := Lib.hid hly; have HFL := Lib.hid hfl; clear hly hpl hfl
        generalize pages.getD j 0 = x at *
        obtain ⟨m, rfl⟩ := Int.eq_ofNat_of_zero_le hx0
        rw [Int.toNat_natCast] at HLY
        go_wp2_with fail
        refine (write_any _ _ (26 + 4 * j) (230 - 4 * j) 4 m _ _ _ HC.out HBK.out (by decide) (by omega) (by rw [HFL.out]; omega) (by rw [HFL.out]; omega) (by omega)).mono ?_
        rintro e w7 ⟨rfl, hlf, hc7, hb7⟩
        rw [HLY.out] at hb7
        have HG7 := Lib.hid (hlf.new HG.out (by omega) (by omega)); have HC7 := Lib.hid hc7; have HB7 := Lib.hid hb7
        clear hlf hc7 hb7 hcj
        go_wp2_with fail
        go_roundw
        case rel =>
          refine ⟨j + 1, by omega, by go_num, HG7.out, ?_, HB7.out⟩
          have h := HC7.out
          rwa [show 26 + 4 * j + 4 = 26 + 4 * (j + 1) from by omega, show 230 - 4 * j - 4 = 230 - 4 * (j + 1) from by omega] at h
        case measure => simp [intOf]; omega
      · obtain rfl : j = n := by omega
        have hbk := HBK.out
        rw [← HLEN.out, headQ_all] at hbk
        have HBL := Lib.hid hbk
        obtain ⟨sb, hasks, hleft⟩ := (tabs_ready HR.out).asks HG.out (w.heap.size + 1 + 1)
        have HAS := Lib.hid hasks; have HLE := Lib.hid hleft
        have hblt := (tabs_ready HR.out).lt
        clear hbk hasks hleft hpl
        go_wp2_with fail
        refine (seal_any b (w.heap.size + 1 + 1) sb (headB (ep : Int) (sq : Int) pages sum) _ HAS.out HBL.out (by rw [headB_len, HLEN.out]; omega) (headB_lt _ _ _ _) (by omega)).mono ?_
        rintro e w8 ⟨rfl, hlf, _, hb8⟩
        have HG8 := Lib.hid (HLE.out _ hlf (by omega)); have HB8 := Lib.hid hb8
        clear hlf hb8
        go_wp2
        go_ret2
        refine ⟨HG8.out, .inl ⟨_, w.heap.size + 1 + 1, HYES.out, ?_, by omega, HB8.out, frame_lt _ (headB_lt _ _ _ _)⟩⟩
        rw [frame_length _ (by rw [headB_len, HLEN.out]; omega)]
        rfl
set_option maxRecDepth 100000 in
theorem codec_put_head_nil (epoch seq : Int) (A : Option Addr) (n c : Nat) (sum : Nat) (w : World) :
    Calls Try.prog 45 #[.pointer none, .agg #[.int .i64 epoch, .int .i64 seq, .slice A n c, .int .u32 (sum : Nat)]] w (Gave w 133 none) := by
  go_enter Try.func45, Try.ntmps45
  go_wp2
  go_ret2
  exact ⟨World.grownBy_alloc w _ none, .inr ⟨rfl, rfl⟩⟩
end Go.Proofs.Ytboccfficmaoaaa.Codec
/- The project's GetHead. -/
namespace Go.Proofs.Ytboccfficmaoaaa.Codec
open Go.RowKit CrcMath CodecMath Mem Crc

/-- What a call of the project's that reads a head leaves. -/
def SaidHead (w : World) (r : Option (Int × Int × List Int × Nat)) (e : Ending) (w' : World) : Prop :=
  w.grownBy w' none ∧ ((∃ epoch seq pages sum v, r = some (epoch, seq, pages, sum) ∧ e = .returned (.tuple #[.agg #[.int .i64 epoch, .int .i64 seq, v, .int .u32 (sum : Nat)], .bool true]) ∧ Own w' w.heap.size 3 1 v pages.length (i64s pages) ∧
      (∀ x ∈ pages, -9223372036854775808 ≤ x ∧ x ≤ 9223372036854775807) ∧ sum < 4294967296) ∨
    (r = none ∧ e = .returned (.tuple #[.agg #[.int .i64 0, .int .i64 0, .slice none 0 0, .int .u32 0], .bool false])))
set_option maxRecDepth 100000 in
set_option maxHeartbeats 3200000 in
theorem codec_get_head (b b2 : Nat) (A : Option Addr) (n c : Nat) (l : List Nat) (w : World) (hR : Ready w b) (hl : Bytes w b2 A n l) :
    Calls Try.prog 9 #[.pointer (some ⟨b, 0, none⟩), .slice A n c] w (SaidHead w (headR l)) := by
  have hlen := hl.1
  have HLT := Lib.hid hl.2.1
  have HBX := Lib.hid (Blk.new w 34 #[.int .i64 0, .int .i64 0, .slice none 0 0, .int .u32 0])
  have HG0 := Lib.hid (World.grownBy_alloc w (.cells #[.int .i64 0, .int .i64 0, .slice none 0 0, .int .u32 0] 34) none)
  have HLEN := Lib.hid hlen; have HL0 := Lib.hid hl; have HL := Lib.hid (bytes_keepN hl (World.grownBy_alloc w (.cells #[.int .i64 0, .int .i64 0, .slice none 0 0, .int .u32 0] 34) none)); have HR := Lib.hid hR; clear hlen hl hR
  by_cases h256 : n = 256
  · subst h256
    have hr : headR l = if headW (wrap64 (num l 4 8 : Nat)) (wrap64 (num l 12 8 : Nat)) (numsAt l 26 4 4 (min (num l 24 2) 40)) (num l 20 4) = some l then some (wrap64 (num l 4 8 : Nat), wrap64 (num l 12 8 : Nat), numsAt l 26 4 4 (min (num l 24 2) 40), num l 20 4) else none := rfl
    have hsl := num_lt l 20 4 HLT.out
    have hsl' : num l 20 4 < 4294967296 := hsl
    have hmore : 40 < num l 24 2 → headR l = none := fun h => by
      rw [hr, if_neg (fun e => ?_)]
      have := (head_fields hsl' e).2.2.2.1
      rw [numsAt_length] at this
      omega
    have HRR := Lib.hid hr; have HMORE := Lib.hid hmore; have HSL := Lib.hid hsl'; clear hr hmore hsl hsl'
    have HW2 := Lib.hid (num_small l 20 4 HLT.out (by omega)).1
    have HW3 := Lib.hid (num_small l 24 2 HLT.out (by omega)).1
    generalize headR l = r at *
    go_enter Try.func9, Try.ntmps9
    go_wp2_with fail
    refine (opensector_any b b2 A c l _ HL.out).mono ?_
    rintro e w1 ⟨rfl, hg1, hb1⟩
    rw [World.size_alloc] at hb1 ⊢
    have hbx1 := HBX.out.grown hg1 (by simp)
    have hsz1 := hg1.size
    rw [World.size_alloc] at hsz1
    have hgw := HG0.out.trans hg1
    have hc1 := cur_new w1 (w.heap.size + 1) 256 0 rfl
    have HB1 := Lib.hid (hb1.alloc (.cells #[.slice (some ⟨w.heap.size + 1, 0, none⟩) 256 256] 99)); have HC1 := Lib.hid hc1
    have HX1 := Lib.hid (hbx1.alloc (.cells #[.slice (some ⟨w.heap.size + 1, 0, none⟩) 256 256] 99))
    have HG1 := Lib.hid (hgw.trans (World.grownBy_alloc w1 (.cells #[.slice (some ⟨w.heap.size + 1, 0, none⟩) 256 256] 99) none))
    have hlt1 := hb1.lt
    clear hg1 hb1 hbx1 hgw hc1
    go_wp2_with fail
    refine (take_any _ _ 0 256 4 _ HC1.out (by omega) (by omega)).mono ?_
    rintro e w2 ⟨⟨k0, rfl, _⟩, hr, hc2⟩
    have hsz2 := hr.size
    rw [World.size_alloc] at hsz2
    have RD0 := Lib.hid (rd_start (tU := 34) (cs := #[.int .i64 0, .int .i64 0, .slice none 0 0, .int .u32 0]) (grownBy_new HG1.out hr (fun j hj => by cases hj; omega)) hc2 (HB1.out.grown hr (by simp; omega)) (by omega) (by omega) (by omega))
    have HX2 := Lib.hid ((HX1.out.grown hr (by simp; omega)).alloc (.cells #[.int .i64 0, .int .i64 0, .slice none 0 0, .int .u32 0] 34))
    clear hr hc2
    generalize w1.heap.size = p at *
    go_wp2_with fail
    refine (read_any p (w.heap.size + 1) 4 252 8 133 l _ RD0.out.cur RD0.out.arr (by decide) HLT.out (by omega) (by rw [HLEN.out]; omega) (by rw [HLEN.out]; omega)).mono ?_
    rintro e w3 ⟨rfl, hr, hc⟩
    generalize wrap64 ((num l 4 8 : Nat) : Int) = ep at *
    have hbx := RD0.out.box.grown hr (by simpa using fun e => RD0.out.pu e.symm)
    have hcl := hbx.cell 0
    have hfr := hbx.frozen 0
    simp only [List.getElem?_toArray, List.getElem?_cons_zero] at hcl
    have RD1 := Lib.hid (show Rd w (w3.setCell ⟨w2.heap.size, 0, none⟩ (.int .i64 ep)) p (w.heap.size + 1) w2.heap.size 12 244 133 34 l #[.int .i64 ep, .int .i64 0, .slice none 0 0, .int .u32 0] from RD0.out.step hr hc 0 (.int .i64 ep))
    have HX3 := Lib.hid (RD0.out.other HX2.out hr (by omega) (by omega) 0 (.int .i64 ep))
    clear hr hc hbx
    go_wp2_with fail
    clear hcl hfr
    refine (read_any p (w.heap.size + 1) 12 244 8 133 l _ RD1.out.cur RD1.out.arr (by decide) HLT.out (by omega) (by rw [HLEN.out]; omega) (by rw [HLEN.out]; omega)).mono ?_
    rintro e w4 ⟨rfl, hr, hc⟩
    generalize wrap64 ((num l 12 8 : Nat) : Int) = sq at *
    have hbx := RD1.out.box.grown hr (by simpa using fun e => RD1.out.pu e.symm)
    have hcl := hbx.cell 1
    have hfr := hbx.frozen 1
    simp only [List.getElem?_toArray, List.getElem?_cons_zero, List.getElem?_cons_succ] at hcl
    have RD2 := Lib.hid (show Rd w (w4.setCell ⟨w2.heap.size, 1, none⟩ (.int .i64 sq)) p (w.heap.size + 1) w2.heap.size 20 236 133 34 l #[.int .i64 ep, .int .i64 sq, .slice none 0 0, .int .u32 0] from RD1.out.step hr hc 1 (.int .i64 sq))
    have HX4 := Lib.hid (RD1.out.other HX3.out hr (by omega) (by omega) 1 (.int .i64 sq))
    clear hr hc hbx
    go_wp2_with fail
    clear hcl hfr
    refine (read_any p (w.heap.size + 1) 20 236 4 133 l _ RD2.out.cur RD2.out.arr (by decide) HLT.out (by omega) (by rw [HLEN.out]; omega) (by rw [HLEN.out]; omega)).mono ?_
    rintro e w5 ⟨rfl, hr, hc⟩
    rw [HW2.out]
    generalize num l 20 4 = sm at *
    have hsm : (sm : Int) % 4294967296 = sm := by have := HSL.out; omega
    have hbx := RD2.out.box.grown hr (by simpa using fun e => RD2.out.pu e.symm)
    have hcl := hbx.cell 3
    have hfr := hbx.frozen 3
    simp only [List.getElem?_toArray, List.getElem?_cons_zero, List.getElem?_cons_succ] at hcl
    have RD3 := Lib.hid (show Rd w (w5.setCell ⟨w2.heap.size, 3, none⟩ (.int .u32 (sm : Nat))) p (w.heap.size + 1) w2.heap.size 24 232 133 34 l #[.int .i64 ep, .int .i64 sq, .slice none 0 0, .int .u32 (sm : Nat)] from RD2.out.step hr hc 3 (.int .u32 (sm : Nat)))
    have HX5 := Lib.hid (RD2.out.other HX4.out hr (by omega) (by omega) 3 (.int .u32 (sm : Nat)))
    clear hr hc hbx
    go_wp2_with fail
    clear hcl hfr
    clear hsm
    refine (read_any p (w.heap.size + 1) 24 232 2 133 l _ RD3.out.cur RD3.out.arr (by decide) HLT.out (by omega) (by rw [HLEN.out]; omega) (by rw [HLEN.out]; omega)).mono ?_
    rintro e w6 ⟨rfl, hr, hc⟩
    rw [HW3.out]
    have RD4 := Lib.hid (RD3.out.move hr hc)
    have HX6 := Lib.hid (HX5.out.grown hr (by simp; omega))
    clear hr hc RD0 RD1 RD2 RD3 HX1 HX2 HX3 HX4 HX5
    by_cases h8 : 40 < num l 24 2
    · have HNO := Lib.hid (HMORE.out h8)
      have h8'' : (40 : Int) < ((num l 24 2 : Nat) : Int) := by omega
      have x0 := HX6.out.cell 0; have x1 := HX6.out.cell 1; have x2 := HX6.out.cell 2; have x3 := HX6.out.cell 3; have f0 := HX6.out.frozen 0; have f1 := HX6.out.frozen 1; have f2 := HX6.out.frozen 2; have f3 := HX6.out.frozen 3
      simp only [List.getElem?_toArray, List.getElem?_cons_zero, List.getElem?_cons_succ] at x0 x1 x2 x3
      go_wp2_with fail
      refine ret_row2 rfl w.heap.size 34 _ _ rfl (Blk.set4 HX6.out) Try.underlying34 rfl (by kernel_rfl) rfl ⟨?_, .inr ⟨HNO.out, rfl⟩⟩
      repeat (refine grown_set ?_ (Nat.le_refl _) _)
      exact RD4.out.grown
    · obtain ⟨N, hN⟩ : ∃ N, N = num l 24 2 := ⟨_, rfl⟩
      have hN40 : N ≤ 40 := by omega
      have HRN := Lib.hid (show r = if headW ep sq (numsAt l 26 4 4 N) sm = some l then some (ep, sq, numsAt l 26 4 4 N, sm) else none by rw [HRR.out, Nat.min_eq_left (by omega), ← hN])
      rw [← hN]
      clear h8 hN HRR HMORE
      have h8'' : ¬ ((40 : Int) < ((N : Nat) : Int)) := by omega
      go_wp2_with fail
      refine (readall_any p (w.heap.size + 1) 26 230 N 4 133 l _ RD4.out.cur RD4.out.arr (by decide) HLT.out (by omega) (by rw [HLEN.out]; omega) (by rw [HLEN.out]; omega) (by omega) (by omega)).mono ?_
      rintro e w7 ⟨v, rfl, hown, hr, hc⟩
      have HRG := Lib.hid (nums_range l 26 4 4 N HLT.out (by omega))
      obtain ⟨A7, c7, rfl, _, _, _⟩ := own_ints hown HRG.out
      have hbx := RD4.out.box.grown hr (by simpa using fun e => RD4.out.pu e.symm)
      have hcl := hbx.cell 2
      have hfr := hbx.frozen 2
      simp only [List.getElem?_toArray, List.getElem?_cons_zero, List.getElem?_cons_succ] at hcl
      have RD5 := Lib.hid (show Rd w (w7.setCell ⟨w2.heap.size, 2, none⟩ (.slice A7 N c7)) p (w.heap.size + 1) w2.heap.size (26 + 4 * N) (230 - 4 * N) 133 34 l #[.int .i64 ep, .int .i64 sq, .slice A7 N c7, .int .u32 (sm : Nat)] from RD4.out.step hr hc 2 _)
      have HX7 := Lib.hid (RD4.out.other HX6.out hr (by omega) (by omega) 2 (.slice A7 N c7))
      have HOW := Lib.hid (Own.set_far (g := w2.heap.size) (i := 2) hown RD4.out.box.lt (.slice A7 N c7))
      have hszU := RD4.out.box.lt
      clear hr hc hbx hown
      have y0 := RD5.out.box.cell 0; have y1 := RD5.out.box.cell 1; have y2 := RD5.out.box.cell 2; have y3 := RD5.out.box.cell 3
      simp only [List.getElem?_toArray, List.getElem?_cons_zero, List.getElem?_cons_succ] at y0 y1 y2 y3
      go_wp2_with fail
      obtain ⟨A7', c7', he7, hin, _, _⟩ := own_ints HOW.out HRG.out
      simp only [Value.slice.injEq, true_and] at he7
      obtain ⟨rfl, rfl⟩ := he7
      have HIN := Lib.hid hin; clear hin
      refine (codec_put_head b _ ep sq A7 N c7 (numsAt l 26 4 4 N) sm _ (HR.out.keep RD5.out.grown (by simp)) HIN.out (by omega) HSL.out).mono ?_
      clear y0 y1 y2 y3 hcl hfr
      rintro e w8 hG
      have HX8 := Lib.hid (HX7.out.grown hG.1 (by simp)); have HG8 := Lib.hid (RD5.out.grown.trans hG.1); have HU8 := Lib.hid (RD5.out.box.grown hG.1 (by simp)); have HOW8 := Lib.hid (HOW.out.keep hG.1 (by simp))
      have HGV := Lib.hid hG.2
      clear hG
      have x0 := HX8.out.cell 0; have x1 := HX8.out.cell 1; have x2 := HX8.out.cell 2; have x3 := HX8.out.cell 3; have f0 := HX8.out.frozen 0; have f1 := HX8.out.frozen 1; have f2 := HX8.out.frozen 2; have f3 := HX8.out.frozen 3
      have y0 := HU8.out.cell 0; have y1 := HU8.out.cell 1; have y2 := HU8.out.cell 2; have y3 := HU8.out.cell 3
      have hul := HU8.out.lt
      simp only [List.getElem?_toArray, List.getElem?_cons_zero, List.getElem?_cons_succ] at x0 x1 x2 x3 y0 y1 y2 y3
      rcases HGV.out with ⟨l', g3, ho, rfl, _, hb3, hlt3⟩ | ⟨ho, rfl⟩
      · have HB3 := Lib.hid (blk_bytes (b := w8.heap.size) hb3 (by have := hb3.lt; omega) hlt3); have HW := Lib.hid ho
        have HL3 := Lib.hid (bytes_keepN HL0.out HG8.out)
        clear ho hb3
        go_wp2_with fail
        refine (comesback_any _ _ A _ _ _ c _ l l' _ HL3.out HB3.out).mono ?_
        rintro e w9 ⟨rfl, rfl⟩
        cases hd : decide (l = l') with
        | true =>
          have hl := of_decide_eq_true hd
          have HRX := Lib.hid (show r = some (ep, sq, numsAt l 26 4 4 N, sm) by rw [HRN.out, if_pos (by rw [HW.out, ← hl])])
          clear hd hl
          go_wp2_with fail
          refine ret_row2 rfl w.heap.size 34 _ _ rfl (Blk.set4 HX8.out) Try.underlying34 rfl (by kernel_rfl) rfl ⟨?_, .inl ⟨ep, sq, numsAt l 26 4 4 N, sm, _, HRX.out, rfl, ?_, HRG.out, HSL.out⟩⟩
          · repeat (refine grown_set ?_ (Nat.le_refl _) _)
            exact HG8.out
          · rw [numsAt_length]
            exact (Own.set_far (Own.set_far (Own.set_far (Own.set_far HOW8.out (by omega) _) (by omega) _) (by omega) _) (by omega) _).low (by omega)
        | false =>
          have hl := of_decide_eq_false hd
          have HRX := Lib.hid (show r = none by rw [HRN.out, if_neg (by rw [HW.out]; simpa using fun e => hl e.symm)])
          clear hd hl
          go_wp2_with fail
          refine ret_row2 rfl w.heap.size 34 _ _ rfl (Blk.set4 HX8.out) Try.underlying34 rfl (by kernel_rfl) rfl ⟨?_, .inr ⟨HRX.out, rfl⟩⟩
          repeat (refine grown_set ?_ (Nat.le_refl _) _)
          exact HG8.out
      · have HRX := Lib.hid (show r = none by rw [HRN.out, if_neg (by rw [ho]; simp)])
        clear ho
        go_wp2_with fail
        refine (comesback_err A none _ 0 c 0 _).mono ?_
        rintro e w9 ⟨rfl, rfl⟩
        go_wp2_with fail
        refine ret_row2 rfl w.heap.size 34 _ _ rfl (Blk.set4 HX8.out) Try.underlying34 rfl (by kernel_rfl) rfl ⟨?_, .inr ⟨HRX.out, rfl⟩⟩
        repeat (refine grown_set ?_ (Nat.le_refl _) _)
        exact HG8.out
  · have hno := headR_none l (by rw [HLEN.out]; exact h256)
    have HNO := Lib.hid hno; clear hno
    generalize headR l = r at *
    go_enter Try.func9, Try.ntmps9
    go_wp2_with fail
    refine (opensector_no b A n c _ h256).mono ?_
    rintro e w1 ⟨rfl, rfl⟩
    go_wp2_with fail
    exact ret_row2 rfl w.heap.size 34 _ _ rfl (HBX.out.alloc _) Try.underlying34 rfl (by kernel_rfl) rfl ⟨HG0.out.trans (World.grownBy_alloc _ _ none), .inr ⟨HNO.out, rfl⟩⟩
set_option maxRecDepth 100000 in
set_option maxHeartbeats 800000 in
theorem codec_get_head_nil (A : Option Addr) (n c : Nat) (w : World) :
    Calls Try.prog 9 #[.pointer none, .slice A n c] w (SaidHead w none) := by
  have HBX := Lib.hid (Blk.new w 34 #[.int .i64 0, .int .i64 0, .slice none 0 0, .int .u32 0])
  have HG0 := Lib.hid (World.grownBy_alloc w (.cells #[.int .i64 0, .int .i64 0, .slice none 0 0, .int .u32 0] 34) none)
  go_enter Try.func9, Try.ntmps9
  go_wp2_with fail
  refine (opensector_nil A n c _).mono ?_
  rintro e w1 ⟨rfl, rfl⟩
  go_wp2_with fail
  exact ret_row2 rfl w.heap.size 34 _ _ rfl (HBX.out.alloc _) Try.underlying34 rfl (by kernel_rfl) rfl ⟨HG0.out.trans (World.grownBy_alloc _ _ none), .inr ⟨rfl, rfl⟩⟩
end Go.Proofs.Ytboccfficmaoaaa.Codec
/- The walk over the document's own answer for heads: GetHead. -/
namespace Go.Proofs.Ytboccfficmaoaaa.Codec
open Go.RowKit CrcMath CodecMath Mem Crc

set_option maxRecDepth 100000 in
set_option maxHeartbeats 1600000 in
theorem ref_get_head (b : Nat) (A : Option Addr) (n c : Nat) (l : List Nat) (w : World) (hl : Bytes w b A n l) (hn : n ≤ 9223372036854775807) :
    Calls Try.prog 10 #[.slice A n c] w (SaidHead w (headR l)) := by
  obtain ⟨i0, hi0, hz0, hz1, hz2⟩ := info_parts int_info
  have hi := Lib.hid hi0; have z0 := Lib.hid hz0; have z1 := Lib.hid hz1; have z2 := Lib.hid hz2; clear hi0 hz0 hz1 hz2
  have hr : headR l = if headW (wrap64 (num l 4 8 : Nat)) (wrap64 (num l 12 8 : Nat)) (numsAt l 26 4 4 (min (num l 24 2) 40)) (num l 20 4) = some l then some (wrap64 (num l 4 8 : Nat), wrap64 (num l 12 8 : Nat), numsAt l 26 4 4 (min (num l 24 2) 40), num l 20 4) else none := rfl
  have HR := Lib.hid hr; clear hr
  have HLT := Lib.hid hl.2.1
  have hsl : num l 20 4 < 4294967296 := num_lt l 20 4 HLT.out
  have HSL := Lib.hid hsl; clear hsl
  have hg0 := World.grownBy_alloc w (.cells #[.int .i64 0, .int .i64 0, .slice none 0 0, .int .u32 0] 34) none
  have HL0 := Lib.hid (bytes_keepN hl hg0)
  have HL := Lib.hid hl; clear hl hg0
  have HW2 := Lib.hid (num_small l 20 4 HLT.out (by omega)).1
  have HW3 := Lib.hid (num_small l 24 2 HLT.out (by omega)).1
  have HZ := Lib.hid ((Blk.new w 34 #[.int .i64 0, .int .i64 0, .slice none 0 0, .int .u32 0]))
  generalize headR l = r at *
  obtain ⟨ep, hep⟩ : ∃ ep, wrap64 (num l 4 8 : Nat) = ep := ⟨_, rfl⟩
  obtain ⟨sq, hsq⟩ : ∃ sq, wrap64 (num l 12 8 : Nat) = sq := ⟨_, rfl⟩
  obtain ⟨sm, hsm⟩ : ∃ sm, num l 20 4 = sm := ⟨_, rfl⟩
  rw [hep, hsq, hsm] at HR
  rw [hsm] at HSL HW2
  have HEP := Lib.hid hep; have HSQ := Lib.hid hsq; have HSM := Lib.hid hsm; clear hep hsq hsm
  have hsm32 : (sm : Int) % 4294967296 = sm := by have := HSL.out; omega
  obtain ⟨N, hN⟩ : ∃ N, N = min (num l 24 2) 40 := ⟨_, rfl⟩
  have HN := Lib.hid hN
  have hN8 : N ≤ 40 := by omega
  have hNx : N ≤ num l 24 2 := by omega
  have hNe : N = 40 ∨ N = num l 24 2 := by omega
  have HNE := Lib.hid hNe; have HNX := Lib.hid hNx
  clear hN hNe hNx
  obtain ⟨M, hM⟩ : ∃ M, num l 24 2 = M := ⟨_, rfl⟩
  rw [hM] at HNE HNX HW3 HN
  have HM := Lib.hid hM; clear hM
  go_enter Try.func10, Try.ntmps10
  go_wp2_with fail
  refine (number_any b A n c l 4 8 _ HL0.out (by omega)).mono ?_
  rintro e w1 ⟨rfl, rfl⟩
  rw [HEP.out]
  go_wp2_with fail
  refine (number_any b A n c l 12 8 _ HL0.out (by omega)).mono ?_
  rintro e w1 ⟨rfl, rfl⟩
  rw [HSQ.out]
  go_wp2_with fail
  refine (number_any b A n c l 20 4 _ HL0.out (by omega)).mono ?_
  rintro e w1 ⟨rfl, rfl⟩
  rw [HSM.out, HW2.out]
  have hinit : Blk ((w.alloc (.cells #[.int .i64 0, .int .i64 0, .slice none 0 0, .int .u32 0] 34)).alloc (.cells #[.int .i64 ep, .int .i64 sq, .slice none 0 0, .int .u32 (sm : Nat)] 34)) (w.heap.size + 1) 34 #[.int .i64 ep, .int .i64 sq, .slice none 0 0, .int .u32 (sm : Nat)] := by
    simpa using Blk.new (w.alloc (.cells #[.int .i64 0, .int .i64 0, .slice none 0 0, .int .u32 0] 34)) 34 #[.int .i64 ep, .int .i64 sq, .slice none 0 0, .int .u32 (sm : Nat)]
  have HINIT := Lib.hid hinit; clear hinit
  have HL1 := Lib.hid (bytes_keepN HL0.out (World.grownBy_alloc _ (.cells #[.int .i64 ep, .int .i64 sq, .slice none 0 0, .int .u32 (sm : Nat)] 34) none))
  go_wp2_with fail
  refine (number_any b A n c l 24 2 _ HL1.out (by omega)).mono ?_
  rintro e w1 ⟨rfl, rfl⟩
  rw [HM.out, HW3.out]
  clear hsm32
  go_wp2_with fail
  go_loopw [6] (fun i wr => ∃ (j : Nat) (vk : Value), j ≤ N ∧ i = .int .i64 j ∧ Blk wr (w.heap.size + 1) 34 #[.int .i64 ep, .int .i64 sq, vk, .int .u32 (sm : Nat)] ∧ Blk wr w.heap.size 34 #[.int .i64 0, .int .i64 0, .slice none 0 0, .int .u32 0] ∧
      Own wr (w.heap.size + 2) 3 1 vk j (i64s (numsAt l 26 4 4 j)) ∧ w.grownBy wr none) (fun i _ => N - (intOf i).toNat)
  case atStart => exact ⟨0, _, by omega, rfl, HINIT.out, HZ.out.alloc _, Own.nil _ _ _ _, (World.grownBy_alloc w _ none).trans (World.grownBy_alloc _ _ none)⟩
  case round =>
    obtain ⟨j, vk, hj, rfl, hbk, hbz, hok, hg⟩ := hrel
    have HBK := Lib.hid hbk; have HBZ := Lib.hid hbz; have HOK := Lib.hid hok; have HG := Lib.hid hg
    have HLr := Lib.hid (bytes_keepN HL.out hg)
    clear hbk hbz hok hg
    by_cases hlt : j < N
    · have hx1 : (j : Int) < (M : Nat) := by have := HNX.out; omega
      have h8 : (j : Int) < 40 := by omega
      have hk2 := HBK.out.cell 2
      have hkl := HBK.out.lt
      have hkf := HBK.out.frozen 2
      have HW4 := Lib.hid (num_small l (26 + 4 * j) 4 HLT.out (by omega)).1
      simp only [List.getElem?_toArray, List.getElem?_cons_zero, List.getElem?_cons_succ] at hk2
      have wa := IntWalk.i64_in (4 * (j : Int)) (by omega)
      have wb := IntWalk.i64_in (26 + 4 * (j : Int)) (by omega)
      go_wp2_with fail
      go_region_law (first
        | (refine step_append_own_full _ rfl (.tmp 29) (.tmp 35) _ rfl (w.heap.size + 2) 3 i0 _ 1 8 Try.underlying31 hi.out z0.out z1.out z2.out rfl (by omega) vk j _ (by simp [Act.eval]) (HOK.out.drew.alloc _)
             _ _ 1 1 _ (by simp [Act.eval]) (reads_one_int _ _) (fun u hu => by simp at hu; subst hu; rfl) (by simp only [maxLen]; omega) (by omega) (by have := HBK.out.lt; simp; omega) ?_
           intro v' w' hown' hgr'
           obtain ⟨A2, c2, hv2, _, _, _⟩ := hown'.shape
           subst hv2
           have hb1 := (HBK.out.drew.alloc _).grown hgr'.1 (fun e => by have := (HOK.out.base_ _ e.symm).1; omega)
           have hc1' := hb1.cell 2
           have hf1' := hb1.frozen 2
           simp only [List.getElem?_toArray, List.getElem?_cons_zero, List.getElem?_cons_succ] at hc1'
           have HB1' := Lib.hid hb1
           have HO' := Lib.hid hown'; have HGR' := Lib.hid hgr'; clear hown' hgr' hb1)
        | (go_simp
           go_at_call 41
           rw [show (26 + 4 * (j : Int)) = ((26 + 4 * j : Nat) : Int) from by omega]
           refine (number_any b A n c l (26 + 4 * j) 4 _ (bytes_drew HLr.out) (by omega)).mono ?_
           rintro e w2 ⟨rfl, rfl⟩
           rw [HW4.out]))
      all_goals
        clear wa wb
        go_wp2_with fail
        go_roundw
        case measure => simp [intOf]; omega
        case rel =>
          have hne1 : ∀ q, q < w.heap.size + 2 → some q ≠ vk.ownBlock := fun q hq e => by have := (HOK.out.base_ _ e.symm).1; omega
          refine ⟨j + 1, _, by omega, by go_num, HB1'.out.set_ 2 _, ((HBZ.out.drew.alloc _).grown HGR'.out.1 (hne1 _ (by omega))).far (by simp) _, ?_, ?_⟩
          · have h := Own.set_far (g := w.heap.size + 1) (i := 2) HO'.out (by omega) (Value.slice A2 (j + 1) c2)
            rw [numsAt_succ, i64s_append]
            exact h
          · exact grown_set (grownBy_new ((HG.out.trans (grown_drew _ none)).trans (World.grownBy_alloc _ _ none)) HGR'.out.1 (fun q hq => by have := (HOK.out.base_ q hq).1; omega)) (by omega) _
    · obtain rfl : N = j := by omega
      have hrk := nums_range l 26 4 4 N HLT.out (by omega)
      obtain ⟨A1, c1, rfl, hi1, _, _⟩ := own_ints HOK.out hrk
      have HRK := Lib.hid hrk; have HI1 := Lib.hid hi1
      clear hrk hi1
      have hk0 := HBK.out.cell 0
      have hk1 := HBK.out.cell 1
      have hk2 := HBK.out.cell 2
      have hk3 := HBK.out.cell 3
      have hkl := HBK.out.lt
      simp only [List.getElem?_toArray, List.getElem?_cons_zero, List.getElem?_cons_succ] at hk0 hk1 hk2 hk3
      have hways : (¬ (N : Int) < (M : Nat)) ∨ ((N : Int) < (M : Nat) ∧ ¬ (N : Int) < 40) := by rcases HNE.out with h | h <;> omega
      rcases hways with hx | ⟨hx, h8⟩
      all_goals
        go_wp2_with fail
        refine (ref_put_head _ ep sq A1 N c1 _ sm _ HI1.out HSL.out).mono ?_
        rintro e w3 ⟨hg3, ⟨l', v3, ho3, rfl, hown3, hlt3⟩ | ⟨ho3, rfl⟩⟩
        · obtain ⟨A3, c3, rfl, hb3, _, hm3⟩ := own_bytes hown3 hlt3
          have hl3 : l'.length ≤ 9223372036854775807 := by simp only [maxLen] at hm3; omega
          have HB3 := Lib.hid hb3; have HO3 := Lib.hid ho3
          have HL3 := Lib.hid (bytes_keepN HLr.out hg3); have HG3 := Lib.hid (HG.out.trans hg3)
          have HBK3 := Lib.hid (HBK.out.grown hg3 (by simp)); have HBZ3 := Lib.hid (HBZ.out.grown hg3 (by simp))
          have HOK3 := Lib.hid (HOK.out.keep hg3 (by simp))
          clear hb3 ho3 hown3 hg3 hk0 hk1 hk2 hk3 hkl
          cases hd : decide (l' = l) with
          | true =>
            have HD := Lib.hid hd; clear hd
            go_wp2_with fail
            refine (same_any _ _ A3 A _ n c3 c l' l _ HB3.out HL3.out hl3 hn).mono ?_
            rintro e w4 ⟨rfl, hdr⟩
            have hg4 := drawn_grown hdr none
            have HG4 := Lib.hid (HG3.out.trans hg4)
            have HBZ4 := Lib.hid (HBZ3.out.grown hg4 (by simp))
            have HOK4 := Lib.hid (HOK3.out.keep hg4 (by simp))
            have hbk4 := HBK3.out.grown hg4 (by simp)
            have hk0 := hbk4.cell 0
            have hk1 := hbk4.cell 1
            have hk2 := hbk4.cell 2
            have hk3 := hbk4.cell 3
            have hkl := hbk4.lt
            have hzz0 := HBZ4.out.cell 0
            have hzz1 := HBZ4.out.cell 1
            have hzz2 := HBZ4.out.cell 2
            have hzz3 := HBZ4.out.cell 3
            have hzf0 := HBZ4.out.frozen 0
            have hzf1 := HBZ4.out.frozen 1
            have hzf2 := HBZ4.out.frozen 2
            have hzf3 := HBZ4.out.frozen 3
            simp only [List.getElem?_toArray, List.getElem?_cons_zero, List.getElem?_cons_succ] at hk0 hk1 hk2 hk3 hzz0 hzz1 hzz2 hzz3
            clear hdr hg4 hbk4
            rw [HD.out]
            go_wp2_with fail
            refine ret_row2 rfl w.heap.size 34 _ _ rfl (Blk.set4 HBZ4.out) Try.underlying34 rfl (by kernel_rfl) rfl ⟨?_, .inl ⟨ep, sq, numsAt l 26 4 4 N, sm, _, ?_, rfl, ?_, HRK.out, HSL.out⟩⟩
            · repeat (refine grown_set ?_ (Nat.le_refl _) _)
              exact HG4.out
            · have hl := of_decide_eq_true HD.out
              subst hl
              rw [HR.out, HM.out, ← HN.out, if_pos HO3.out]
            · rw [numsAt_length]
              exact (Own.set_far (Own.set_far (Own.set_far (Own.set_far HOK4.out (by omega) _) (by omega) _) (by omega) _) (by omega) _).low (by omega)
          | false =>
            have HD := Lib.hid hd; clear hd
            go_wp2_with fail
            refine (same_any _ _ A3 A _ n c3 c l' l _ HB3.out HL3.out hl3 hn).mono ?_
            rintro e w4 ⟨rfl, hdr⟩
            have hg4 := drawn_grown hdr none
            have HG4 := Lib.hid (HG3.out.trans hg4)
            have HBZ4 := Lib.hid (HBZ3.out.grown hg4 (by simp))
            have hzz0 := HBZ4.out.cell 0
            have hzz1 := HBZ4.out.cell 1
            have hzz2 := HBZ4.out.cell 2
            have hzz3 := HBZ4.out.cell 3
            have hzf0 := HBZ4.out.frozen 0
            have hzf1 := HBZ4.out.frozen 1
            have hzf2 := HBZ4.out.frozen 2
            have hzf3 := HBZ4.out.frozen 3
            simp only [List.getElem?_toArray, List.getElem?_cons_zero, List.getElem?_cons_succ] at hzz0 hzz1 hzz2 hzz3
            clear hdr hg4
            rw [HD.out]
            go_wp2_with fail
            refine ret_row2 rfl w.heap.size 34 _ _ rfl (Blk.set4 HBZ4.out) Try.underlying34 rfl (by kernel_rfl) rfl ⟨?_, .inr ⟨?_, rfl⟩⟩
            · repeat (refine grown_set ?_ (Nat.le_refl _) _)
              exact HG4.out
            · have hl := of_decide_eq_false HD.out
              rw [HR.out, HM.out, ← HN.out, if_neg (by rw [HO3.out]; simpa using hl)]
        · have HG3 := Lib.hid (HG.out.trans hg3); have HO3 := Lib.hid ho3
          have HBZ4 := Lib.hid (HBZ.out.grown hg3 (by simp))
          have hzz0 := HBZ4.out.cell 0
          have hzz1 := HBZ4.out.cell 1
          have hzz2 := HBZ4.out.cell 2
          have hzz3 := HBZ4.out.cell 3
          have hzf0 := HBZ4.out.frozen 0
          have hzf1 := HBZ4.out.frozen 1
          have hzf2 := HBZ4.out.frozen 2
          have hzf3 := HBZ4.out.frozen 3
          simp only [List.getElem?_toArray, List.getElem?_cons_zero, List.getElem?_cons_succ] at hzz0 hzz1 hzz2 hzz3
          clear hg3 ho3 hk0 hk1 hk2 hk3 hkl
          go_wp2_with fail
          refine ret_row2 rfl w.heap.size 34 _ _ rfl (Blk.set4 HBZ4.out) Try.underlying34 rfl (by kernel_rfl) rfl ⟨?_, .inr ⟨?_, rfl⟩⟩
          · repeat (refine grown_set ?_ (Nat.le_refl _) _)
            exact HG3.out
          · rw [HR.out, HM.out, ← HN.out, if_neg (by rw [HO3.out]; simp)]
end Go.Proofs.Ytboccfficmaoaaa.Codec
/- The project's GetImage. -/
namespace Go.Proofs.Ytboccfficmaoaaa.Codec
open Go.RowKit CrcMath CodecMath Mem Crc

/-- What a call of the project's that reads an image leaves. -/
def SaidImage (w : World) (r : Option (Int × Int × Int × Int × List Nat)) (e : Ending) (w' : World) : Prop :=
  w.grownBy w' none ∧ ((∃ epoch seq number kind body v, r = some (epoch, seq, number, kind, body) ∧ e = .returned (.tuple #[.int .i64 epoch, .int .i64 seq, .agg #[.int .i64 number, .int .i64 kind, v], .bool true]) ∧ Lies w' w.heap.size v body) ∨
    (r = none ∧ e = .returned (.tuple #[.int .i64 0, .int .i64 0, .agg #[.int .i64 0, .int .i64 0, .slice none 0 0], .bool false])))
set_option maxRecDepth 100000 in
set_option maxHeartbeats 3200000 in
theorem codec_get_image (b b2 : Nat) (A : Option Addr) (n c : Nat) (l : List Nat) (w : World) (hR : Ready w b) (hl : Bytes w b2 A n l) :
    Calls Try.prog 15 #[.pointer (some ⟨b, 0, none⟩), .slice A n c] w (SaidImage w (imageR l)) := by
  have hlen := hl.1
  have HLT := Lib.hid hl.2.1
  have HBX := Lib.hid (Blk.new w 46 #[.int .i64 0, .int .i64 0, .slice none 0 0])
  have HG0 := Lib.hid (World.grownBy_alloc w (.cells #[.int .i64 0, .int .i64 0, .slice none 0 0] 46) none)
  have HLEN := Lib.hid hlen; have HL0 := Lib.hid hl; have HL := Lib.hid (bytes_keepN hl (World.grownBy_alloc w (.cells #[.int .i64 0, .int .i64 0, .slice none 0 0] 46) none)); have HR := Lib.hid hR; clear hlen hl hR
  by_cases h256 : n = 256
  · subst h256
    have HRN := Lib.hid (show imageR l = if imageW (num l 3 4) (num l 7 5) (num l 1 2) (num l 0 1) (bodyOf l) = some l then some ((num l 3 4 : Int), (num l 7 5 : Int), (num l 1 2 : Int), (num l 0 1 : Int), bodyOf l) else none from rfl)
    have HW1 := Lib.hid (num_small l 0 1 HLT.out (by omega)).1
    have HW2 := Lib.hid (num_small l 1 2 HLT.out (by omega)).1
    have HW3 := Lib.hid (num_small l 3 4 HLT.out (by omega)).1
    have HW4 := Lib.hid (num_small l 7 5 HLT.out (by omega)).1
    generalize imageR l = r at *
    go_enter Try.func15, Try.ntmps15
    go_wp2_with fail
    refine (opensector_any b b2 A c l _ HL.out).mono ?_
    rintro e w1 ⟨rfl, hg1, hb1⟩
    rw [World.size_alloc] at hb1 ⊢
    have hbx1 := HBX.out.grown hg1 (by simp)
    have hsz1 := hg1.size
    rw [World.size_alloc] at hsz1
    have hgw := HG0.out.trans hg1
    have hlt1 := hb1.lt
    have RD0 := Lib.hid (rd_start (tU := 46) (cs := #[.int .i64 0, .int .i64 0, .slice none 0 0]) (hgw.trans (World.grownBy_alloc w1 (.cells #[.slice (some ⟨w.heap.size + 1, 0, none⟩) 256 256] 99) none)) (cur_new w1 (w.heap.size + 1) 256 0 rfl) (hb1.alloc _) (by omega) (by omega) (by omega))
    simp only [World.size_alloc] at RD0
    have HX2 := Lib.hid ((hbx1.alloc (.cells #[.slice (some ⟨w.heap.size + 1, 0, none⟩) 256 256] 99)).alloc (.cells #[.int .i64 0, .int .i64 0, .slice none 0 0] 46))
    clear hg1 hb1 hbx1 hgw
    go_wp2_with fail
    refine (read_any w1.heap.size (w.heap.size + 1) 0 256 1 133 l _ RD0.out.cur RD0.out.arr (by decide) HLT.out (by omega) (by rw [HLEN.out]; omega) (by rw [HLEN.out]; omega)).mono ?_
    rintro e w3 ⟨rfl, hr, hc⟩
    rw [HW1.out]
    have hbx := RD0.out.box.grown hr (by simp)
    have hcl := hbx.cell 1
    have hfr := hbx.frozen 1
    simp only [List.getElem?_toArray, List.getElem?_cons_zero, List.getElem?_cons_succ] at hcl
    have RD1 := Lib.hid (show Rd w (w3.setCell ⟨w1.heap.size + 1, 1, none⟩ (.int .i64 (num l 0 1 : Nat))) w1.heap.size (w.heap.size + 1) (w1.heap.size + 1) 1 255 133 46 l #[.int .i64 0, .int .i64 (num l 0 1 : Nat), .slice none 0 0] from RD0.out.step hr hc 1 (.int .i64 (num l 0 1 : Nat)))
    have HX3 := Lib.hid (RD0.out.other HX2.out hr (by omega) (by omega) 1 (.int .i64 (num l 0 1 : Nat)))
    clear hr hc hbx
    go_wp2_with fail
    clear hcl hfr
    refine (read_any w1.heap.size (w.heap.size + 1) 1 255 2 133 l _ RD1.out.cur RD1.out.arr (by decide) HLT.out (by omega) (by rw [HLEN.out]; omega) (by rw [HLEN.out]; omega)).mono ?_
    rintro e w4 ⟨rfl, hr, hc⟩
    rw [HW2.out]
    have hbx := RD1.out.box.grown hr (by simp)
    have hcl := hbx.cell 0
    have hfr := hbx.frozen 0
    simp only [List.getElem?_toArray, List.getElem?_cons_zero] at hcl
    have RD2 := Lib.hid (show Rd w (w4.setCell ⟨w1.heap.size + 1, 0, none⟩ (.int .i64 (num l 1 2 : Nat))) w1.heap.size (w.heap.size + 1) (w1.heap.size + 1) 3 253 133 46 l #[.int .i64 (num l 1 2 : Nat), .int .i64 (num l 0 1 : Nat), .slice none 0 0] from RD1.out.step hr hc 0 (.int .i64 (num l 1 2 : Nat)))
    have HX4 := Lib.hid (RD1.out.other HX3.out hr (by omega) (by omega) 0 (.int .i64 (num l 1 2 : Nat)))
    clear hr hc hbx
    go_wp2_with fail
    clear hcl hfr
    refine (read_any w1.heap.size (w.heap.size + 1) 3 253 4 133 l _ RD2.out.cur RD2.out.arr (by decide) HLT.out (by omega) (by rw [HLEN.out]; omega) (by rw [HLEN.out]; omega)).mono ?_
    rintro e w5 ⟨rfl, hr, hc⟩
    rw [HW3.out]
    have RD3 := Lib.hid (RD2.out.move hr hc)
    have HX5 := Lib.hid (HX4.out.grown hr (by simp; omega))
    clear hr hc
    go_wp2_with fail
    refine (read_any w1.heap.size (w.heap.size + 1) 7 249 5 133 l _ RD3.out.cur RD3.out.arr (by decide) HLT.out (by omega) (by rw [HLEN.out]; omega) (by rw [HLEN.out]; omega)).mono ?_
    rintro e w6 ⟨rfl, hr, hc⟩
    rw [HW4.out]
    have RD4 := Lib.hid (RD3.out.move hr hc)
    have HX6 := Lib.hid (HX5.out.grown hr (by simp; omega))
    clear hr hc
    go_wp2_with fail
    refine (take_any w1.heap.size (w.heap.size + 1) 12 244 240 _ RD4.out.cur (by omega) (by omega)).mono ?_
    rintro e w7 ⟨⟨k6, rfl, hk6⟩, hr, hc⟩
    obtain rfl := hk6 (by omega)
    have hbx := RD4.out.box.grown hr (by simp)
    have hcl := hbx.cell 2
    have hfr := hbx.frozen 2
    simp only [List.getElem?_toArray, List.getElem?_cons_zero, List.getElem?_cons_succ] at hcl
    have RD5 := Lib.hid (show Rd w (w7.setCell ⟨w1.heap.size + 1, 2, none⟩ (.slice (some ⟨w.heap.size + 1, 12, none⟩) 240 240)) w1.heap.size (w.heap.size + 1) (w1.heap.size + 1) 252 4 133 46 l #[.int .i64 (num l 1 2 : Nat), .int .i64 (num l 0 1 : Nat), .slice (some ⟨w.heap.size + 1, 12, none⟩) 240 240] from RD4.out.step hr hc 2 _)
    have HX7 := Lib.hid (RD4.out.other HX6.out hr (by omega) (by omega) 2 (.slice (some ⟨w.heap.size + 1, 12, none⟩) 240 240))
    clear hr hc hbx
    have y0 := RD5.out.box.cell 0; have y1 := RD5.out.box.cell 1; have y2 := RD5.out.box.cell 2
    simp only [List.getElem?_toArray, List.getElem?_cons_zero, List.getElem?_cons_succ] at y0 y1 y2
    clear RD0 RD1 RD2 RD3 RD4 HX2 HX3 HX4 HX5 HX6
    go_wp2_with fail
    have HBO := Lib.hid (blk_body (b := w1.heap.size) RD5.out.arr HLEN.out HLT.out (by omega))
    generalize num l 0 1 = k at *
    generalize num l 1 2 = m at *
    generalize num l 3 4 = ep at *
    generalize num l 7 5 = sq at *
    refine (codec_put_image b w1.heap.size ep sq m k _ 240 240 (bodyOf l) _ (HR.out.keep RD5.out.grown (by simp)) HBO.out).mono ?_
    clear y0 y1 y2
    rintro e w8 hG
    have HX8 := Lib.hid (HX7.out.grown hG.1 (by simp)); have HG8 := Lib.hid (RD5.out.grown.trans hG.1); have HU8 := Lib.hid (RD5.out.box.grown hG.1 (by simp)); have HA8 := Lib.hid (RD5.out.arr.grown hG.1 (by simp))
    have HGV := Lib.hid hG.2
    clear hG
    have x0 := HX8.out.cell 0; have x1 := HX8.out.cell 1; have x2 := HX8.out.cell 2; have f0 := HX8.out.frozen 0; have f1 := HX8.out.frozen 1; have f2 := HX8.out.frozen 2
    simp only [List.getElem?_toArray, List.getElem?_cons_zero, List.getElem?_cons_succ] at x0 x1 x2
    have y0 := HU8.out.cell 0; have y1 := HU8.out.cell 1; have y2 := HU8.out.cell 2
    simp only [List.getElem?_toArray, List.getElem?_cons_zero, List.getElem?_cons_succ] at y0 y1 y2
    rcases HGV.out with ⟨l', g3, ho, rfl, _, hb3, hlt3⟩ | ⟨ho, rfl⟩
    · have HB3 := Lib.hid (blk_bytes (b := w8.heap.size) hb3 (by have := hb3.lt; omega) hlt3); have HW := Lib.hid ho
      have HL3 := Lib.hid (bytes_keepN HL0.out HG8.out)
      clear ho hb3
      go_wp2_with fail
      refine (comesback_any _ _ A _ _ _ c _ l l' _ HL3.out HB3.out).mono ?_
      rintro e w9 ⟨rfl, rfl⟩
      cases hd : decide (l = l') with
      | true =>
        have hl := of_decide_eq_true hd
        have HRX := Lib.hid (show r = some ((ep : Int), (sq : Int), (m : Int), (k : Int), bodyOf l) by rw [HRN.out, if_pos (by rw [HW.out, ← hl])])
        clear hd hl
        go_wp2_with fail
        go_region
        all_goals
          go_wp2_with fail
          refine ret_row4 rfl w.heap.size 46 _ _ rfl (Blk.set3 HX8.out.drew) Try.underlying46 rfl (by kernel_rfl) rfl ⟨?_, .inl ⟨_, _, _, _, bodyOf l, _, HRX.out, rfl, body_lies (((HA8.out.drew.far (by simp) _).far (by simp) _).far (by simp) _) (by omega) HLEN.out HLT.out⟩⟩
          refine World.grownBy.trans ?_ (grown_drew _ none)
          repeat (refine grown_set ?_ (Nat.le_refl _) _)
          exact HG8.out
      | false =>
        have hl := of_decide_eq_false hd
        have HRX := Lib.hid (show r = none by rw [HRN.out, if_neg (by rw [HW.out]; simpa using fun e => hl e.symm)])
        clear hd hl
        go_wp2_with fail
        refine ret_row4 rfl w.heap.size 46 _ _ rfl (Blk.set3 HX8.out) Try.underlying46 rfl (by kernel_rfl) rfl ⟨?_, .inr ⟨HRX.out, rfl⟩⟩
        repeat (refine grown_set ?_ (Nat.le_refl _) _)
        exact HG8.out
    · have HRX := Lib.hid (show r = none by rw [HRN.out, if_neg (by rw [ho]; simp)])
      clear ho
      go_wp2_with fail
      refine (comesback_err A none _ 0 c 0 _).mono ?_
      rintro e w9 ⟨rfl, rfl⟩
      go_wp2_with fail
      refine ret_row4 rfl w.heap.size 46 _ _ rfl (Blk.set3 HX8.out) Try.underlying46 rfl (by kernel_rfl) rfl ⟨?_, .inr ⟨HRX.out, rfl⟩⟩
      repeat (refine grown_set ?_ (Nat.le_refl _) _)
      exact HG8.out
  · have hno := imageR_none l (by rw [HLEN.out]; exact h256)
    have HNO := Lib.hid hno; clear hno
    generalize imageR l = r at *
    go_enter Try.func15, Try.ntmps15
    go_wp2_with fail
    refine (opensector_no b A n c _ h256).mono ?_
    rintro e w1 ⟨rfl, rfl⟩
    go_wp2_with fail
    exact ret_row4 rfl w.heap.size 46 _ _ rfl (HBX.out.alloc _) Try.underlying46 rfl (by kernel_rfl) rfl ⟨HG0.out.trans (World.grownBy_alloc _ _ none), .inr ⟨HNO.out, rfl⟩⟩
set_option maxRecDepth 100000 in
set_option maxHeartbeats 800000 in
theorem codec_get_image_nil (A : Option Addr) (n c : Nat) (w : World) :
    Calls Try.prog 15 #[.pointer none, .slice A n c] w (SaidImage w none) := by
  have HBX := Lib.hid (Blk.new w 46 #[.int .i64 0, .int .i64 0, .slice none 0 0])
  have HG0 := Lib.hid (World.grownBy_alloc w (.cells #[.int .i64 0, .int .i64 0, .slice none 0 0] 46) none)
  go_enter Try.func15, Try.ntmps15
  go_wp2_with fail
  refine (opensector_nil A n c _).mono ?_
  rintro e w1 ⟨rfl, rfl⟩
  go_wp2_with fail
  exact ret_row4 rfl w.heap.size 46 _ _ rfl (HBX.out.alloc _) Try.underlying46 rfl (by kernel_rfl) rfl ⟨HG0.out.trans (World.grownBy_alloc _ _ none), .inr ⟨rfl, rfl⟩⟩
end Go.Proofs.Ytboccfficmaoaaa.Codec
/- The walk over the document's own answer for catalogues: volume, PutCatalogue. -/
namespace Go.Proofs.Ytboccfficmaoaaa.Codec
open Go.RowKit CrcMath CodecMath Mem Crc

set_option maxRecDepth 100000 in
set_option maxHeartbeats 800000 in
theorem refvolume_any (a0 a1 a2 a3 a4 a5 : Int) (w : World) :
    Calls Try.prog 86 #[.agg #[.int .i64 a0, .int .i64 a1, .int .i64 a2, .int .i64 a3, .int .i64 a4, .int .i64 a5]] w fun e w' => e = .returned (.bool (volOk a0 a1 a2 a3 a4 a5)) ∧ w' = w.alloc (.cells #[.int .i64 a0, .int .i64 a1, .int .i64 a2, .int .i64 a3, .int .i64 a4, .int .i64 a5] 121) := by
  obtain ⟨ok, hok⟩ : ∃ ok, ok = volOk a0 a1 a2 a3 a4 a5 := ⟨_, rfl⟩
  rw [← hok]
  have HOK := Lib.hid (show ok = (inB a0 1073741824 && (inB a1 2 && (inB a2 1048576 && (inB a3 1048576 && (inB a4 1023 && inB a5 1048576))))) from hok); clear hok
  cases h0 : inB a0 1073741824 with
  | false =>
    have H0 := Lib.hid h0; clear h0
    have HN := Lib.hid (show ok = false by rw [HOK.out, H0.out]; simp)
    go_enter Try.func86, Try.ntmps86
    go_wp2_with fail
    refine (in_any a0 _ _).mono ?_
    rintro e w2 ⟨rfl, rfl⟩
    rw [H0.out]
    go_wp2
    go_ret
    exact ⟨by rw [HN.out]; rfl, rfl⟩
  | true =>
    have H0 := Lib.hid h0; clear h0
    cases h1 : inB a1 2 with
    | false =>
      have H1 := Lib.hid h1; clear h1
      have HN := Lib.hid (show ok = false by rw [HOK.out, H0.out, H1.out]; simp)
      go_enter Try.func86, Try.ntmps86
      go_wp2_with fail
      refine (in_any a0 _ _).mono ?_
      rintro e w2 ⟨rfl, rfl⟩
      rw [H0.out]
      go_wp2_with fail
      refine (in_any a1 _ _).mono ?_
      rintro e w2 ⟨rfl, rfl⟩
      rw [H1.out]
      go_wp2
      go_ret
      exact ⟨by rw [HN.out]; rfl, rfl⟩
    | true =>
      have H1 := Lib.hid h1; clear h1
      cases h2 : inB a2 1048576 with
      | false =>
        have H2 := Lib.hid h2; clear h2
        have HN := Lib.hid (show ok = false by rw [HOK.out, H0.out, H1.out, H2.out]; simp)
        go_enter Try.func86, Try.ntmps86
        go_wp2_with fail
        refine (in_any a0 _ _).mono ?_
        rintro e w2 ⟨rfl, rfl⟩
        rw [H0.out]
        go_wp2_with fail
        refine (in_any a1 _ _).mono ?_
        rintro e w2 ⟨rfl, rfl⟩
        rw [H1.out]
        go_wp2_with fail
        refine (in_any a2 _ _).mono ?_
        rintro e w2 ⟨rfl, rfl⟩
        rw [H2.out]
        go_wp2
        go_ret
        exact ⟨by rw [HN.out]; rfl, rfl⟩
      | true =>
        have H2 := Lib.hid h2; clear h2
        cases h3 : inB a3 1048576 with
        | false =>
          have H3 := Lib.hid h3; clear h3
          have HN := Lib.hid (show ok = false by rw [HOK.out, H0.out, H1.out, H2.out, H3.out]; simp)
          go_enter Try.func86, Try.ntmps86
          go_wp2_with fail
          refine (in_any a0 _ _).mono ?_
          rintro e w2 ⟨rfl, rfl⟩
          rw [H0.out]
          go_wp2_with fail
          refine (in_any a1 _ _).mono ?_
          rintro e w2 ⟨rfl, rfl⟩
          rw [H1.out]
          go_wp2_with fail
          refine (in_any a2 _ _).mono ?_
          rintro e w2 ⟨rfl, rfl⟩
          rw [H2.out]
          go_wp2_with fail
          refine (in_any a3 _ _).mono ?_
          rintro e w2 ⟨rfl, rfl⟩
          rw [H3.out]
          go_wp2
          go_ret
          exact ⟨by rw [HN.out]; rfl, rfl⟩
        | true =>
          have H3 := Lib.hid h3; clear h3
          cases h5 : inB a5 1048576 with
          | false =>
            have H5 := Lib.hid h5; clear h5
            have HN := Lib.hid (show ok = false by rw [HOK.out, H0.out, H1.out, H2.out, H3.out, H5.out]; simp)
            go_enter Try.func86, Try.ntmps86
            go_wp2_with fail
            refine (in_any a0 _ _).mono ?_
            rintro e w2 ⟨rfl, rfl⟩
            rw [H0.out]
            go_wp2_with fail
            refine (in_any a1 _ _).mono ?_
            rintro e w2 ⟨rfl, rfl⟩
            rw [H1.out]
            go_wp2_with fail
            refine (in_any a2 _ _).mono ?_
            rintro e w2 ⟨rfl, rfl⟩
            rw [H2.out]
            go_wp2_with fail
            refine (in_any a3 _ _).mono ?_
            rintro e w2 ⟨rfl, rfl⟩
            rw [H3.out]
            go_wp2_with fail
            refine (in_any a5 _ _).mono ?_
            rintro e w2 ⟨rfl, rfl⟩
            rw [H5.out]
            go_wp2
            go_ret
            exact ⟨by rw [HN.out]; rfl, rfl⟩
          | true =>
            have H5 := Lib.hid h5; clear h5
            cases h4 : inB a4 1023 with
            | false =>
              have H4 := Lib.hid h4; clear h4
              have HN := Lib.hid (show ok = false by rw [HOK.out, H0.out, H1.out, H2.out, H3.out, H4.out, H5.out]; simp)
              go_enter Try.func86, Try.ntmps86
              go_wp2_with fail
              refine (in_any a0 _ _).mono ?_
              rintro e w2 ⟨rfl, rfl⟩
              rw [H0.out]
              go_wp2_with fail
              refine (in_any a1 _ _).mono ?_
              rintro e w2 ⟨rfl, rfl⟩
              rw [H1.out]
              go_wp2_with fail
              refine (in_any a2 _ _).mono ?_
              rintro e w2 ⟨rfl, rfl⟩
              rw [H2.out]
              go_wp2_with fail
              refine (in_any a3 _ _).mono ?_
              rintro e w2 ⟨rfl, rfl⟩
              rw [H3.out]
              go_wp2_with fail
              refine (in_any a5 _ _).mono ?_
              rintro e w2 ⟨rfl, rfl⟩
              rw [H5.out]
              go_wp2_with fail
              refine (in_any a4 _ _).mono ?_
              rintro e w2 ⟨rfl, rfl⟩
              rw [H4.out]
              go_wp2
              go_ret
              exact ⟨by rw [HN.out]; rfl, rfl⟩
            | true =>
              have H4 := Lib.hid h4; clear h4
              have HN := Lib.hid (show ok = true by rw [HOK.out, H0.out, H1.out, H2.out, H3.out, H4.out, H5.out]; rfl)
              go_enter Try.func86, Try.ntmps86
              go_wp2_with fail
              refine (in_any a0 _ _).mono ?_
              rintro e w2 ⟨rfl, rfl⟩
              rw [H0.out]
              go_wp2_with fail
              refine (in_any a1 _ _).mono ?_
              rintro e w2 ⟨rfl, rfl⟩
              rw [H1.out]
              go_wp2_with fail
              refine (in_any a2 _ _).mono ?_
              rintro e w2 ⟨rfl, rfl⟩
              rw [H2.out]
              go_wp2_with fail
              refine (in_any a3 _ _).mono ?_
              rintro e w2 ⟨rfl, rfl⟩
              rw [H3.out]
              go_wp2_with fail
              refine (in_any a5 _ _).mono ?_
              rintro e w2 ⟨rfl, rfl⟩
              rw [H5.out]
              go_wp2_with fail
              refine (in_any a4 _ _).mono ?_
              rintro e w2 ⟨rfl, rfl⟩
              rw [H4.out]
              go_wp2
              go_ret
              exact ⟨by rw [HN.out]; rfl, rfl⟩
set_option maxRecDepth 100000 in
set_option maxHeartbeats 3200000 in
theorem ref_put_catalogue (b : Nat) (next : Int) (AV AS : Option Addr) (nv cv ns cs : Nat) (stack vs : List Int) (w : World) (hs : Ints w b AS ns stack) (hv : Ints w b AV (6 * nv) vs) (hns : ns ≤ 9223372036854775807) :
    Calls Try.prog 60 #[.agg #[.int .i64 next, .slice AV nv cv, .slice AS ns cs]] w (Wrote w (catW next stack vs)) := by
  have HSL := Lib.hid hs.1; have HVL := Lib.hid hv.1
  have hga := World.grownBy_alloc w (.cells #[.int .i64 next, .slice AV nv cv, .slice AS ns cs] 58) none
  have HS := Lib.hid hs; have HV := Lib.hid hv; have HG0 := Lib.hid hga
  have HEQ := Lib.hid (catOk_eq (next := next) hs.1 hv.1)
  have HNONE := Lib.hid (fun h => by rw [catW, h]; rfl : catOk next stack vs = false → catW next stack vs = none)
  clear hs hv hga
  cases hn : inB next 1073741824 with
  | false =>
    have H0 := Lib.hid hn; clear hn
    have HNO := Lib.hid (HNONE.out (by rw [HEQ.out, H0.out]; simp))
    go_enter Try.func60, Try.ntmps60
    go_wp2_with fail
    refine (in_any next _ _).mono ?_
    rintro e w2 ⟨rfl, rfl⟩
    rw [H0.out]
    go_wp2
    go_ret2
    exact ⟨HG0.out, .inr ⟨HNO.out, rfl⟩⟩
  | true =>
    by_cases h8 : ns ≤ 8
    · by_cases hv8 : nv = 8
      · subst hv8
        obtain ⟨n0, n1⟩ := inB_yes hn
        have H0 := Lib.hid hn; clear hn
        obtain ⟨m, rfl⟩ := Int.eq_ofNat_of_zero_le n0
        have HS8 := Lib.hid (show stack.length ≤ 8 by rw [HSL.out]; exact h8)
        have HV48 := Lib.hid (show vs.length = 48 from HVL.out)
        have h8' : ¬ ((8 : Int) < (ns : Int)) := by omega
        have HXD := Lib.hid (Blk.new w 58 #[.int .i64 (m : Nat), .slice AV 8 cv, .slice AS ns cs]).drew
        have HGD := Lib.hid (HG0.out.trans (grown_drew _ none))
        have HBS := Lib.hid (show w.heap.size + 1 ≤ ((w.alloc (.cells #[.int .i64 (m : Nat), .slice AV 8 cv, .slice AS ns cs] 58)).drew).heap.size by simp)
        have HKEEP := Lib.hid (fun wx hx => ⟨hx.cell 0, hx.cell 2⟩ : ∀ wx, Blk wx w.heap.size 58 #[.int .i64 (m : Nat), .slice AV 8 cv, .slice AS ns cs] → wx.cell? ⟨w.heap.size, 0, none⟩ = some (.int .i64 (m : Nat)) ∧ wx.cell? ⟨w.heap.size, 2, none⟩ = some (.slice AS ns cs))
        go_enter Try.func60, Try.ntmps60
        go_wp2_with fail
        refine (in_any (m : Int) _ _).mono ?_
        rintro e w2 ⟨rfl, rfl⟩
        rw [H0.out]
        go_upto_region 3 with fail
        go_cut [4] (fun s4 wx => Own wx (w.heap.size + 1) 5 1 s4 5 (u8s (catQ m stack 0)) ∧ w.grownBy wx none ∧ Blk wx w.heap.size 58 #[.int .i64 (m : Nat), .slice AV 8 cv, .slice AS ns cs])
        case first =>
          go_region_held3 (fun w' => w'.cell? ⟨w.heap.size, 0, none⟩ = some (.int .i64 (m : Nat)) ∧ w'.cell? ⟨w.heap.size, 2, none⟩ = some (.slice AS ns cs))
            (first
              | exact HKEEP.out _ HXD.out
              | exact HKEEP.out _ HXb.out
              | exact HKEEP.out _ HXa.out
              | go_keep)
            (first
              | (go_at_call_of 78 (Value.slice none 0 0)
                 refine (put_any (w.heap.size + 1) (.slice none 0 0) 0 [] m 4 _ (Own.nil _ _ _ _) HBS.out (by omega) (by omega)).mono ?_
                 rintro e w1 ⟨v1, rfl, ho1, hg1⟩
                 have HOa := Lib.hid ho1; have HGa := Lib.hid hg1; have HXa := Lib.hid (HXD.out.grown hg1.1 (by simp [Value.ownBlock]))
                 clear ho1 hg1)
              | (go_at_call_of 78 v1
                 refine (put_any (w.heap.size + 1) v1 4 (be 4 m) ns 1 _ HOa.out (Nat.le_trans HBS.out HGa.out.1.size) (by omega) (by omega)).mono ?_
                 rintro e w2 ⟨v2, rfl, ho2, hg2⟩
                 have HOb := Lib.hid ho2; have HGb := Lib.hid hg2; have HXb := Lib.hid (HXa.out.grown hg2.1 (fun e => by have := (HOa.out.base_ _ e.symm).1; omega))
                 clear ho2 hg2))
          all_goals
            go_wp2_with fail
            go_meet
            refine ⟨?_, grownBy_new HGD.out (HGa.out.trans HGb.out).1 (fun j hj => by simp [Value.ownBlock] at hj), HXb.out⟩
            have h := HOb.out
            rwa [show be 4 m ++ be 1 ns = catQ m stack 0 by simp [catQ, HSL.out]] at h
        case rest =>
        obtain ⟨ho, hg, hx⟩ := hcut
        have HO := Lib.hid ho; have HG := Lib.hid hg; have HX := Lib.hid hx; clear ho hg hx HXD HGD HBS HKEEP
        have x2 := HX.out.cell 2
        simp only [List.getElem?_toArray, List.getElem?_cons_zero, List.getElem?_cons_succ] at x2
        go_wp2_with fail
        clear x2
        go_loopw [4, 5] (fun u i wr => ∃ j : Nat, j ≤ ns ∧ i = .int .i64 j ∧ Own wr (w.heap.size + 1) 5 1 u (5 + 2 * j) (u8s (catQ m stack j)) ∧ w.grownBy wr none ∧ Blk wr w.heap.size 58 #[.int .i64 (m : Nat), .slice AV 8 cv, .slice AS ns cs] ∧ (∀ q, q < j → inB (stack.getD q 0) 1023 = true)) (fun _ i _ => ns - (intOf i).toNat)
        case atStart => exact ⟨0, by omega, rfl, HO.out, HG.out, HX.out, fun q hq => by omega⟩
        case round =>
          obtain ⟨j, hj, rfl, ho, hg, hx, hin⟩ := hrel
          have HOr := Lib.hid ho; have HGr := Lib.hid hg; have HXr := Lib.hid hx; have HIN := Lib.hid hin
          have x2 := hx.cell 2
          simp only [List.getElem?_toArray, List.getElem?_cons_zero, List.getElem?_cons_succ] at x2
          clear ho hg hx hin
          by_cases hlt : j < ns
          · obtain ⟨g, o, rfl, _, _, hck⟩ := (ints_keep HS.out HGr.out (.inl rfl)).2.2 (by omega)
            have hcj := hck j hlt
            clear hck
            cases hib : inB (stack.getD j 0) 1023 with
            | false =>
              have HNO := Lib.hid (HNONE.out (by rw [HEQ.out, allB_no j (by rw [HSL.out]; exact hlt) hib]; simp))
              generalize stack.getD j 0 = x at *
              have HIX := Lib.hid hib; clear hib
              go_wp2_with fail
              refine (in_any x _ _).mono ?_
              rintro e w5 ⟨rfl, rfl⟩
              rw [HIX.out]
              go_wp2
              go_ret2
              exact ⟨HGr.out, .inr ⟨HNO.out, rfl⟩⟩
            | true =>
              have HTF := Lib.hid (catQ_succ m stack j (by rw [HSL.out]; exact hlt))
              have HIN' : Hid (∀ q, q < j + 1 → inB (stack.getD q 0) 1023 = true) := Lib.hid (fun q hq => by
                by_cases e : q = j
                · subst e; exact hib
                · exact HIN.out q (by omega))
              generalize stack.getD j 0 = x at *
              obtain ⟨hx0, hx1⟩ := inB_yes hib
              have HIX := Lib.hid hib; clear hib
              obtain ⟨y, rfl⟩ := Int.eq_ofNat_of_zero_le hx0
              rw [Int.toNat_natCast] at HTF
              have hszr : w.heap.size + 1 ≤ wr.heap.size := HXr.out.lt
              have HSZ := Lib.hid hszr; clear hszr
              go_wp2_with fail
              refine (in_any (y : Int) _ _).mono ?_
              rintro e w5 ⟨rfl, rfl⟩
              rw [HIX.out]
              go_wp2_with fail
              refine (put_any (w.heap.size + 1) _ _ _ y 2 _ HOr.out HSZ.out (by omega) (by omega)).mono ?_
              rintro e w5 ⟨v', rfl, ho', hg'⟩
              have HO' := Lib.hid ho'; have HG' := Lib.hid hg'; clear ho' hg'
              go_wp2_with fail
              go_roundw
              case measure => simp [intOf]; omega
              case rel =>
                refine ⟨j + 1, by omega, by go_num, ?_, grownBy_new HGr.out HG'.out.1 (fun i hi => by have := (HOr.out.base_ i hi).1; omega), HXr.out.grown HG'.out.1 (fun e => by have := (HOr.out.base_ _ e.symm).1; omega), HIN'.out⟩
                rw [HTF.out, show 5 + 2 * (j + 1) = 5 + 2 * j + 2 from by omega]
                exact HO'.out
          · obtain rfl : ns = j := by omega
            have HST := Lib.hid (allB_mk ns HSL.out HIN.out)
            have HSZ := Lib.hid (show w.heap.size + 1 ≤ wr.heap.size from HXr.out.lt)
            go_wp2_with fail
            refine (filled_any (w.heap.size + 1) _ (5 + 2 * ns) _ 21 _ HOr.out HSZ.out (by omega) (by omega)).mono ?_
            rintro e w5 ⟨v5, rfl, ho5, hg5⟩
            have hq : fill (catQ m stack ns) 21 = catV (m : Int) stack vs 0 := by
              have e := catQ_all m stack
              rw [HSL.out] at e
              rw [e]
              simp [catV, volsB]
            rw [hq] at ho5
            have HO5 := Lib.hid ho5; have HG5 := Lib.hid (grownBy_new HGr.out hg5.1 (fun i hi => by have := (HOr.out.base_ i hi).1; omega)); have HX5 := Lib.hid (HXr.out.grown hg5.1 (fun e => by have := (HOr.out.base_ _ e.symm).1; omega))
            clear ho5 hg5 hq x2
            go_wp2_with fail
            go_loopw [4, 6, 7] (fun u i _ wr => ∃ q : Nat, q ≤ 8 ∧ i = .int .i64 q ∧ Own wr (w.heap.size + 1) 5 1 u (21 + 19 * q) (u8s (catV (m : Int) stack vs q)) ∧ w.grownBy wr none ∧ Blk wr w.heap.size 58 #[.int .i64 (m : Nat), .slice AV 8 cv, .slice AS ns cs] ∧ (∀ s, s < 6 * q → inB (vs.getD s 0) (most (s % 6)) = true)) (fun _ i _ _ => 8 - (intOf i).toNat)
            case atStart => exact ⟨0, by omega, rfl, HO5.out, HG5.out, HX5.out, fun q hq => by omega⟩
            case round =>
              obtain ⟨q, hq, rfl, ho, hg, hx, hin⟩ := hrel
              have HOq := Lib.hid ho; have HGq := Lib.hid hg; have HXq := Lib.hid hx; have HIV := Lib.hid hin
              have x1 := hx.cell 1
              simp only [List.getElem?_toArray, List.getElem?_cons_zero, List.getElem?_cons_succ] at x1
              clear ho hg hx hin
              by_cases hlt2 : q < 8
              · obtain ⟨g, o, rfl, _, _, hcl⟩ := (ints_keep HV.out HGq.out (.inl rfl)).2.2 (by omega)
                have c0 := hcl (6 * q) (by omega)
                rw [show o + 6 * q = o + q * 6 from by omega] at c0
                have c1 := hcl (6 * q + 1) (by omega)
                rw [show o + (6 * q + 1) = o + q * 6 + 1 from by omega] at c1
                have c2 := hcl (6 * q + 2) (by omega)
                rw [show o + (6 * q + 2) = o + q * 6 + 2 from by omega] at c2
                have c3 := hcl (6 * q + 3) (by omega)
                rw [show o + (6 * q + 3) = o + q * 6 + 3 from by omega] at c3
                have c4 := hcl (6 * q + 4) (by omega)
                rw [show o + (6 * q + 4) = o + q * 6 + 4 from by omega] at c4
                have c5 := hcl (6 * q + 5) (by omega)
                rw [show o + (6 * q + 5) = o + q * 6 + 5 from by omega] at c5
                clear hcl
                have HSIX := Lib.hid (vol_six (vs := vs) q)
                have HVS := Lib.hid (catV_succ (m : Int) stack vs q)
                have HOKN : Hid (volOk (vs.getD (6 * q) 0) (vs.getD (6 * q + 1) 0) (vs.getD (6 * q + 2) 0) (vs.getD (6 * q + 3) 0) (vs.getD (6 * q + 4) 0) (vs.getD (6 * q + 5) 0) = false → catW (m : Int) stack vs = none) := Lib.hid (fun h => HNONE.out (by
                  cases hc : catOk (m : Int) stack vs with
                  | false => rfl
                  | true =>
                    obtain ⟨_, _, _, _, hvo⟩ := catOk_iff hc
                    have := (vol_six (vs := vs) q).2 (fun t h1 h2 => List.all_eq_true.1 hvo t (List.mem_range.2 (by rw [HV48.out]; omega)))
                    rw [h] at this; cases this))
                have HSZ := Lib.hid (show w.heap.size + 1 ≤ wr.heap.size from HXq.out.lt)
                generalize vs.getD (6 * q) 0 = a0 at *
                generalize vs.getD (6 * q + 1) 0 = a1 at *
                generalize vs.getD (6 * q + 2) 0 = a2 at *
                generalize vs.getD (6 * q + 3) 0 = a3 at *
                generalize vs.getD (6 * q + 4) 0 = a4 at *
                generalize vs.getD (6 * q + 5) 0 = a5 at *
                go_wp2_with fail
                refine (refvolume_any a0 a1 a2 a3 a4 a5 _).mono ?_
                rintro e w6 ⟨rfl, rfl⟩
                have hgv := (World.grownBy_alloc wr (.cells #[.int .i64 a0, .int .i64 a1, .int .i64 a2, .int .i64 a3, .int .i64 a4, .int .i64 a5] 121) none).trans (World.grownBy_alloc _ (.cells #[.int .i64 a0, .int .i64 a1, .int .i64 a2, .int .i64 a3, .int .i64 a4, .int .i64 a5] 121) none)
                cases hok : volOk a0 a1 a2 a3 a4 a5 with
                | false =>
                  have HNO := Lib.hid (HOKN.out hok); clear hok
                  have HGN := Lib.hid (HGq.out.trans hgv); clear hgv
                  go_wp2
                  go_ret2
                  exact ⟨HGN.out, .inr ⟨HNO.out, rfl⟩⟩
                | true =>
                  have HIN7 : Hid (∀ s, s < 6 * (q + 1) → inB (vs.getD s 0) (most (s % 6)) = true) := Lib.hid (fun s hs => by
                    by_cases e : s < 6 * q
                    · exact HIV.out s e
                    · exact HSIX.out.1 hok s (by omega) (by omega))
                  have hok' := hok
                  simp only [volOk, Bool.and_eq_true] at hok'
                  obtain ⟨k0, k1, k2, k3, k4, k5⟩ := hok'
                  obtain ⟨m0, rfl⟩ := Int.eq_ofNat_of_zero_le (inB_yes k0).1
                  obtain ⟨m1, rfl⟩ := Int.eq_ofNat_of_zero_le (inB_yes k1).1
                  obtain ⟨m2, rfl⟩ := Int.eq_ofNat_of_zero_le (inB_yes k2).1
                  obtain ⟨m3, rfl⟩ := Int.eq_ofNat_of_zero_le (inB_yes k3).1
                  obtain ⟨m4, rfl⟩ := Int.eq_ofNat_of_zero_le (inB_yes k4).1
                  obtain ⟨m5, rfl⟩ := Int.eq_ofNat_of_zero_le (inB_yes k5).1
                  simp only [Int.toNat_natCast] at HVS
                  have HB6 := Lib.hid ((Blk.new wr 121 #[.int .i64 (m0 : Nat), .int .i64 (m1 : Nat), .int .i64 (m2 : Nat), .int .i64 (m3 : Nat), .int .i64 (m4 : Nat), .int .i64 (m5 : Nat)]).alloc (.cells #[.int .i64 (m0 : Nat), .int .i64 (m1 : Nat), .int .i64 (m2 : Nat), .int .i64 (m3 : Nat), .int .i64 (m4 : Nat), .int .i64 (m5 : Nat)] 121))
                  have HG6 := Lib.hid (HGq.out.trans hgv); have HO6 := Lib.hid (HOq.out.keep hgv (fun _ _ h => by cases h)); have HX6 := Lib.hid (HXq.out.grown hgv (by simp))
                  have HNE6 := Lib.hid (fun e => by have := (HOq.out.base_ _ e).2; omega : _ ≠ some wr.heap.size)
                  clear hok k0 k1 k2 k3 k4 k5 hgv HSIX HOKN HIV x1 c0 c1 c2 c3 c4 c5
                  go_upto_region 17 with fail
                  go_cut [4] (fun s4 wx => Own wx (w.heap.size + 1) 5 1 s4 (21 + 19 * q + 4 + 1 + 4) (u8s (catV (m : Int) stack vs q ++ be 4 m0 ++ be 1 m1 ++ be 4 m2)) ∧ w.grownBy wx none ∧ Blk wx w.heap.size 58 #[.int .i64 (m : Nat), .slice (some ⟨g, o, none⟩) 8 cv, .slice AS ns cs] ∧ Blk wx wr.heap.size 121 #[.int .i64 (m0 : Nat), .int .i64 (m1 : Nat), .int .i64 (m2 : Nat), .int .i64 (m3 : Nat), .int .i64 (m4 : Nat), .int .i64 (m5 : Nat)] ∧ s4.ownBlock ≠ some wr.heap.size)
                  case first =>
                    have OD := Lib.hid HO6.out.drew; have BD := Lib.hid HB6.out.drew; have XD := Lib.hid HX6.out.drew
                    have SD := Lib.hid XD.out.lt
                    have KP := Lib.hid (fun wx hx => ⟨hx.cell 0, hx.cell 1, hx.cell 2⟩ : ∀ wx, Blk wx wr.heap.size 121 #[.int .i64 (m0 : Nat), .int .i64 (m1 : Nat), .int .i64 (m2 : Nat), .int .i64 (m3 : Nat), .int .i64 (m4 : Nat), .int .i64 (m5 : Nat)] → wx.cell? ⟨wr.heap.size, 0, none⟩ = some (.int .i64 (m0 : Nat)) ∧ wx.cell? ⟨wr.heap.size, 1, none⟩ = some (.int .i64 (m1 : Nat)) ∧ wx.cell? ⟨wr.heap.size, 2, none⟩ = some (.int .i64 (m2 : Nat)))
                    go_region_held3 (fun wx => wx.cell? ⟨wr.heap.size, 0, none⟩ = some (.int .i64 (m0 : Nat)) ∧ wx.cell? ⟨wr.heap.size, 1, none⟩ = some (.int .i64 (m1 : Nat)) ∧ wx.cell? ⟨wr.heap.size, 2, none⟩ = some (.int .i64 (m2 : Nat)))
                      (first
                        | exact KP.out _ BD.out
                        | exact KP.out _ BBa.out
                        | exact KP.out _ BBb.out
                        | exact KP.out _ BBc.out
                        | go_keep)
                      (first
                        | (go_at_call_of 78 (Value.int IntKind.i64 ((m0 : Nat) : Int))
                           refine (put_any (w.heap.size + 1) _ (21 + 19 * q) (catV (m : Int) stack vs q) m0 4 _ OD.out SD.out (by omega) (by omega)).mono ?_
                           rintro e w1a ⟨v1a, rfl, ho1, hg1⟩
                           have OOa := Lib.hid ho1; have GGa := Lib.hid hg1; have BBa := Lib.hid (BD.out.grown hg1.1 (fun e => HNE6.out e.symm)); have XXa := Lib.hid (XD.out.grown hg1.1 (fun e => by have := (OD.out.base_ _ e.symm).1; omega)); have NNa := Lib.hid (Grew.apart hg1 BD.out.lt HNE6.out)
                           clear ho1 hg1)
                        | (go_at_call_of 78 (Value.int IntKind.i64 ((m1 : Nat) : Int))
                           refine (put_any (w.heap.size + 1) _ (21 + 19 * q + 4) (catV (m : Int) stack vs q ++ be 4 m0) m1 1 _ OOa.out (Nat.le_trans SD.out (GGa.out.1.size)) (by omega) (by omega)).mono ?_
                           rintro e w1b ⟨v1b, rfl, ho1, hg1⟩
                           have OOb := Lib.hid ho1; have GGb := Lib.hid hg1; have BBb := Lib.hid (BBa.out.grown hg1.1 (fun e => NNa.out e.symm)); have XXb := Lib.hid (XXa.out.grown hg1.1 (fun e => by have := (OOa.out.base_ _ e.symm).1; omega)); have NNb := Lib.hid (Grew.apart hg1 BBa.out.lt NNa.out)
                           clear ho1 hg1)
                        | (go_at_call_of 78 (Value.int IntKind.i64 ((m2 : Nat) : Int))
                           refine (put_any (w.heap.size + 1) _ (21 + 19 * q + 4 + 1) (catV (m : Int) stack vs q ++ be 4 m0 ++ be 1 m1) m2 4 _ OOb.out (Nat.le_trans SD.out (Nat.le_trans GGa.out.1.size GGb.out.1.size)) (by omega) (by omega)).mono ?_
                           rintro e w1c ⟨v1c, rfl, ho1, hg1⟩
                           have OOc := Lib.hid ho1; have GGc := Lib.hid hg1; have BBc := Lib.hid (BBb.out.grown hg1.1 (fun e => NNb.out e.symm)); have XXc := Lib.hid (XXb.out.grown hg1.1 (fun e => by have := (OOb.out.base_ _ e.symm).1; omega)); have NNc := Lib.hid (Grew.apart hg1 BBb.out.lt NNb.out)
                           clear ho1 hg1))
                    all_goals
                      go_wp2_with fail
                      go_meet
                      exact ⟨OOc.out, grownBy_new (HG6.out.trans (grown_drew _ none)) ((GGa.out.trans GGb.out).trans GGc.out).1 (fun i hi => by have := (HO6.out.base_ i hi).1; omega), XXc.out, BBc.out, NNc.out⟩
                  case rest =>
                  obtain ⟨ho7, hg7, hx7, hb7, hne7⟩ := hcut
                  have HO7 := Lib.hid ho7; have HG7 := Lib.hid hg7; have HX7 := Lib.hid hx7; have HB7 := Lib.hid hb7; have HNE7 := Lib.hid hne7
                  clear ho7 hg7 hx7 hb7 hne7 HO6 HG6 HX6 HB6 HNE6
                  go_upto_region 18 with fail
                  have OD := Lib.hid HO7.out.drew; have BD := Lib.hid HB7.out.drew; have XD := Lib.hid HX7.out.drew
                  have SD := Lib.hid XD.out.lt
                  have KP := Lib.hid (fun wx hx => ⟨hx.cell 3, hx.cell 4, hx.cell 5⟩ : ∀ wx, Blk wx wr.heap.size 121 #[.int .i64 (m0 : Nat), .int .i64 (m1 : Nat), .int .i64 (m2 : Nat), .int .i64 (m3 : Nat), .int .i64 (m4 : Nat), .int .i64 (m5 : Nat)] → wx.cell? ⟨wr.heap.size, 3, none⟩ = some (.int .i64 (m3 : Nat)) ∧ wx.cell? ⟨wr.heap.size, 4, none⟩ = some (.int .i64 (m4 : Nat)) ∧ wx.cell? ⟨wr.heap.size, 5, none⟩ = some (.int .i64 (m5 : Nat)))
                  go_region_held3 (fun wx => wx.cell? ⟨wr.heap.size, 3, none⟩ = some (.int .i64 (m3 : Nat)) ∧ wx.cell? ⟨wr.heap.size, 4, none⟩ = some (.int .i64 (m4 : Nat)) ∧ wx.cell? ⟨wr.heap.size, 5, none⟩ = some (.int .i64 (m5 : Nat)))
                    (first
                      | exact KP.out _ BD.out
                      | exact KP.out _ BBa.out
                      | exact KP.out _ BBb.out
                      | exact KP.out _ BBc.out
                      | go_keep)
                    (first
                      | (go_at_call_of 78 (Value.int IntKind.i64 ((m3 : Nat) : Int))
                         refine (put_any (w.heap.size + 1) _ (21 + 19 * q + 4 + 1 + 4) (catV (m : Int) stack vs q ++ be 4 m0 ++ be 1 m1 ++ be 4 m2) m3 4 _ OD.out SD.out (by omega) (by omega)).mono ?_
                         rintro e w1a ⟨v1a, rfl, ho1, hg1⟩
                         have OOa := Lib.hid ho1; have GGa := Lib.hid hg1; have BBa := Lib.hid (BD.out.grown hg1.1 (fun e => HNE7.out e.symm)); have XXa := Lib.hid (XD.out.grown hg1.1 (fun e => by have := (OD.out.base_ _ e.symm).1; omega)); have NNa := Lib.hid (Grew.apart hg1 BD.out.lt HNE7.out)
                         clear ho1 hg1)
                      | (go_at_call_of 78 (Value.int IntKind.i64 ((m4 : Nat) : Int))
                         refine (put_any (w.heap.size + 1) _ (21 + 19 * q + 4 + 1 + 4 + 4) (catV (m : Int) stack vs q ++ be 4 m0 ++ be 1 m1 ++ be 4 m2 ++ be 4 m3) m4 2 _ OOa.out (Nat.le_trans SD.out (GGa.out.1.size)) (by omega) (by omega)).mono ?_
                         rintro e w1b ⟨v1b, rfl, ho1, hg1⟩
                         have OOb := Lib.hid ho1; have GGb := Lib.hid hg1; have BBb := Lib.hid (BBa.out.grown hg1.1 (fun e => NNa.out e.symm)); have XXb := Lib.hid (XXa.out.grown hg1.1 (fun e => by have := (OOa.out.base_ _ e.symm).1; omega)); have NNb := Lib.hid (Grew.apart hg1 BBa.out.lt NNa.out)
                         clear ho1 hg1)
                      | (go_at_call_of 78 (Value.int IntKind.i64 ((m5 : Nat) : Int))
                         refine (put_any (w.heap.size + 1) _ (21 + 19 * q + 4 + 1 + 4 + 4 + 2) (catV (m : Int) stack vs q ++ be 4 m0 ++ be 1 m1 ++ be 4 m2 ++ be 4 m3 ++ be 2 m4) m5 4 _ OOb.out (Nat.le_trans SD.out (Nat.le_trans GGa.out.1.size GGb.out.1.size)) (by omega) (by omega)).mono ?_
                         rintro e w1c ⟨v1c, rfl, ho1, hg1⟩
                         have OOc := Lib.hid ho1; have GGc := Lib.hid hg1; have BBc := Lib.hid (BBb.out.grown hg1.1 (fun e => NNb.out e.symm)); have XXc := Lib.hid (XXb.out.grown hg1.1 (fun e => by have := (OOb.out.base_ _ e.symm).1; omega)); have NNc := Lib.hid (Grew.apart hg1 BBb.out.lt NNb.out)
                         clear ho1 hg1))
                  all_goals
                    have hv8 : catV (m : Int) stack vs (q + 1) = catV (m : Int) stack vs q ++ be 4 m0 ++ be 1 m1 ++ be 4 m2 ++ be 4 m3 ++ be 2 m4 ++ be 4 m5 := by rw [HVS.out]; simp [volB, List.append_assoc]
                    have ho8 := OOc.out
                    rw [← hv8, show 21 + 19 * q + 4 + 1 + 4 + 4 + 2 + 4 = 21 + 19 * (q + 1) from by omega] at ho8
                    have HO8 := Lib.hid ho8; have HG8 := Lib.hid (grownBy_new (HG7.out.trans (grown_drew _ none)) ((GGa.out.trans GGb.out).trans GGc.out).1 (fun i hi => by have := (HO7.out.base_ i hi).1; omega))
                    clear ho8 hv8
                    go_wp2_with fail
                    go_roundw
                    case measure => simp [intOf]; omega
                    case rel => exact ⟨q + 1, by omega, by go_num, HO8.out, HG8.out, XXc.out, HIN7.out⟩
              · obtain rfl : q = 8 := by omega
                have hvo : volsOk vs = true := volsOk_mk fun t ht => HIV.out t (by rw [HV48.out] at ht; omega)
                have HVO := Lib.hid hvo; clear hvo
                have HYES := Lib.hid (show catW (m : Int) stack vs = some (fill (catB (m : Int) stack vs) 240) by rw [catW, if_pos (by rw [HEQ.out, H0.out, HST.out, HVO.out]; simp [h8])])
                have HSZ := Lib.hid (show w.heap.size + 1 ≤ wr.heap.size from HXq.out.lt)
                clear x1
                go_wp2_with fail
                refine (filled_any (w.heap.size + 1) _ (21 + 19 * 8) _ 240 _ HOq.out HSZ.out (by omega) (by omega)).mono ?_
                rintro e w5 ⟨v5, rfl, ho5, hg5⟩
                rw [catV_all] at ho5
                have HO9 := Lib.hid ho5; have HG9 := Lib.hid (grownBy_new HGq.out hg5.1 (fun i hi => by have := (HOq.out.base_ i hi).1; omega))
                clear ho5 hg5
                go_wp2
                go_ret2
                refine ⟨HG9.out, .inl ⟨_, _, HYES.out, rfl, ?_, fill_lt _ _ (catB_lt _ _ _)⟩⟩
                rw [fill_length _ _ (by rw [catB_len _ _ _ HS8.out]; omega)]
                exact HO9.out.low (by omega)
      · have HNO := Lib.hid (HNONE.out (by rw [HEQ.out]; simp [hv8]))
        have HN8 := Lib.hid hn; clear hn
        have h8' : ¬ ((8 : Int) < (ns : Int)) := by omega
        have hne : (((nv : Nat) : Int) != 8) = true := by simp; omega
        go_enter Try.func60, Try.ntmps60
        go_wp2_with fail
        refine (in_any next _ _).mono ?_
        rintro e w2 ⟨rfl, rfl⟩
        rw [HN8.out]
        go_wp2
        go_ret2
        exact ⟨HG0.out, .inr ⟨HNO.out, rfl⟩⟩
    · have HNO := Lib.hid (HNONE.out (by rw [HEQ.out]; simp [h8]))
      have HN8 := Lib.hid hn; clear hn
      have h8' : (8 : Int) < (ns : Int) := by omega
      go_enter Try.func60, Try.ntmps60
      go_wp2_with fail
      refine (in_any next _ _).mono ?_
      rintro e w2 ⟨rfl, rfl⟩
      rw [HN8.out]
      go_wp2
      go_ret2
      exact ⟨HG0.out, .inr ⟨HNO.out, rfl⟩⟩
end Go.Proofs.Ytboccfficmaoaaa.Codec
