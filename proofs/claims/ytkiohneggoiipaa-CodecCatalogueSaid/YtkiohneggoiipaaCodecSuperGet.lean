/- The project's GetSuper. -/
import Derived.Test.YtkiohneggoiipaaCodecSuper
namespace Go.Proofs.Ytkiohneggoiipaa.Codec
open Go.RowKit CrcMath CodecMath Mem Crc

/-- Where a reader stands: the cursor in p over the array g, the record that it fills in U. -/
structure Rd (w W : World) (p g U k n : Nat) (t tU : TypeId) (L : List Nat) (cs : Array Value) : Prop where
  grown : w.grownBy W none
  cur : Cur W p g k n
  arr : Blk W g t (u8s L).toArray
  box : Blk W U tU cs
  hp : w.heap.size ≤ p
  hg : w.heap.size ≤ g
  hU : w.heap.size ≤ U
  pu : p ≠ U
  gu : g ≠ U
  pg : p ≠ g
/-- One more number is read, and laid into the record. -/
theorem Rd.step {w W W1 : World} {p g U k n k' n' : Nat} {t tU : TypeId} {L : List Nat} {cs : Array Value} (h : Rd w W p g U k n t tU L cs) (hr : W.grownBy W1 (some p)) (hc : Cur W1 p g k' n') (i : Nat) (v : Value) :
    Rd w (W1.setCell ⟨U, i, none⟩ v) p g U k' n' t tU L (cs.setIfInBounds i v) where
  grown := grown_set (grownBy_new h.grown hr (fun j hj => by cases hj; exact h.hp)) h.hU v
  cur := by obtain ⟨k0, hb, hk⟩ := hc; exact ⟨k0, hb.far h.pu v, hk⟩
  arr := (h.arr.grown hr (by simpa using fun e => h.pg e.symm)).far h.gu v
  box := (h.box.grown hr (by simpa using fun e => h.pu e.symm)).set_ i v
  hp := h.hp
  hg := h.hg
  hU := h.hU
  pu := h.pu
  gu := h.gu
  pg := h.pg
/-- Another block is not touched. -/
theorem Rd.other {w W W1 : World} {p g U k n B : Nat} {t tU tB : TypeId} {L : List Nat} {cs ds : Array Value} (_ : Rd w W p g U k n t tU L cs) (hb : Blk W B tB ds) (hr : W.grownBy W1 (some p)) (h1 : B ≠ p) (h2 : B ≠ U) (i : Nat) (v : Value) :
    Blk (W1.setCell ⟨U, i, none⟩ v) B tB ds := (hb.grown hr (by simpa using h1)).far h2 v
/-- A reader's beginning. -/
theorem rd_start {w W : World} {p g k n : Nat} {t tU : TypeId} {L : List Nat} {cs : Array Value} (hg : w.grownBy W none) (hc : Cur W p g k n) (hb : Blk W g t (u8s L).toArray) (hp : w.heap.size ≤ p) (hge : w.heap.size ≤ g) (hpg : p ≠ g) :
    Rd w (W.alloc (.cells cs tU)) p g W.heap.size k n t tU L cs where
  grown := hg.trans (World.grownBy_alloc W _ none)
  cur := hc.grown (World.grownBy_alloc _ _ none) (by simp)
  arr := hb.alloc _
  box := Blk.new W tU cs
  hp := hp
  hg := hge
  hU := hg.size
  pu := by obtain ⟨_, h, _⟩ := hc; have := h.lt; omega
  gu := by have := hb.lt; omega
  pg := hpg

set_option maxRecDepth 100000 in
set_option maxHeartbeats 3200000 in
theorem codec_get_super (b : Nat) (A : Option Addr) (n c : Nat) (l : List Nat) (w : World) (hR : Ready w b) (hl : Bytes w b A n l) :
    Calls Try.prog 19 #[.pointer (some ⟨b, 0, none⟩), .slice A n c] w (Told w (supV ((superR l).getD zero7)) (superR l).isSome) := by
  have hz0 : supV zero7 = .agg #[.int .i64 0, .int .i64 0, .int .i64 0, .int .i64 0, .int .i64 0, .int .i64 0, .int .i64 0] := rfl
  have hlen := hl.1
  have HLT := Lib.hid hl.2.1
  have HBX := Lib.hid (Blk.new w 23 #[.int .i64 0, .int .i64 0, .int .i64 0, .int .i64 0, .int .i64 0, .int .i64 0, .int .i64 0])
  have HG0 := Lib.hid (World.grownBy_alloc w (.cells #[.int .i64 0, .int .i64 0, .int .i64 0, .int .i64 0, .int .i64 0, .int .i64 0, .int .i64 0] 23) none)
  have HLEN := Lib.hid hlen; have HL0 := Lib.hid hl; have HL := Lib.hid (bytes_keepN hl (World.grownBy_alloc w (.cells #[.int .i64 0, .int .i64 0, .int .i64 0, .int .i64 0, .int .i64 0, .int .i64 0, .int .i64 0] 23) none)); have HR := Lib.hid hR; clear hlen hl hR
  by_cases h256 : n = 256
  · subst h256
    have HSR := Lib.hid (show superR l = if superW (superN l) = some l then some (superN l) else none from rfl)
    have HSN := Lib.hid (show superN l = [wrap64 (num l 4 8), wrap64 (num l 12 8), wrap64 (num l 20 8), wrap64 (num l 28 8), wrap64 (num l 36 8), wrap64 (num l 44 8), wrap64 (num l 52 8)] from rfl)
    generalize superR l = r at *
    clear hz0
    go_enter Try.func19, Try.ntmps19
    go_wp2_with fail
    refine (opensector_any b b A c l _ HL.out).mono ?_
    rintro e w1 ⟨rfl, hg1, hb1⟩
    rw [World.size_alloc] at hb1 ⊢
    have hbx1 := HBX.out.grown hg1 (by simp)
    have hsz1 := hg1.size
    rw [World.size_alloc] at hsz1
    have hgw := HG0.out.trans hg1
    have hc1 := cur_new w1 (w.heap.size + 1) 256 0 rfl
    have HB1 := Lib.hid (hb1.alloc (.cells #[.slice (some ⟨w.heap.size + 1, 0, none⟩) 256 256] 108)); have HC1 := Lib.hid hc1
    have HX1 := Lib.hid (hbx1.alloc (.cells #[.slice (some ⟨w.heap.size + 1, 0, none⟩) 256 256] 108))
    have HG1 := Lib.hid (hgw.trans (World.grownBy_alloc w1 (.cells #[.slice (some ⟨w.heap.size + 1, 0, none⟩) 256 256] 108) none))
    have hlt1 := hb1.lt
    clear hg1 hb1 hbx1 hgw hc1
    go_wp2_with fail
    refine (take_any _ _ 0 256 4 _ HC1.out (by omega) (by omega)).mono ?_
    rintro e w2 ⟨⟨k0, rfl, _⟩, hr, hc2⟩
    have hsz2 := hr.size
    rw [World.size_alloc] at hsz2
    have RD0 := Lib.hid (rd_start (tU := 23) (cs := #[.int .i64 0, .int .i64 0, .int .i64 0, .int .i64 0, .int .i64 0, .int .i64 0, .int .i64 0]) (grownBy_new HG1.out hr (fun j hj => by cases hj; omega)) hc2 (HB1.out.grown hr (by simp; omega)) (by omega) (by omega) (by omega))
    have HX2 := Lib.hid ((HX1.out.grown hr (by simp; omega)).alloc (.cells #[.int .i64 0, .int .i64 0, .int .i64 0, .int .i64 0, .int .i64 0, .int .i64 0, .int .i64 0] 23))
    clear hr hc2
    generalize w1.heap.size = p at *
    go_wp2_with fail
    refine (read_any p (w.heap.size + 1) 4 252 8 107 l _ RD0.out.cur RD0.out.arr (by decide) HLT.out (by omega) (by rw [HLEN.out]; omega) (by rw [HLEN.out]; omega)).mono ?_
    rintro e w3 ⟨rfl, hr, hc⟩
    generalize wrap64 ((num l 4 8 : Nat) : Int) = a0 at *
    have hbx := RD0.out.box.grown hr (by simpa using fun e => RD0.out.pu e.symm)
    have hcl := hbx.cell 0
    have hfr := hbx.frozen 0
    simp only [List.getElem?_toArray, List.getElem?_cons_zero] at hcl
    have RD1 := Lib.hid (show Rd w (w3.setCell ⟨w2.heap.size, 0, none⟩ (.int .i64 a0)) p (w.heap.size + 1) w2.heap.size 12 244 107 23 l #[.int .i64 a0, .int .i64 0, .int .i64 0, .int .i64 0, .int .i64 0, .int .i64 0, .int .i64 0] from RD0.out.step hr hc 0 (.int .i64 a0))
    have HX3 := Lib.hid (RD0.out.other HX2.out hr (by omega) (by omega) 0 (.int .i64 a0))
    clear hr hc hbx
    go_wp2_with fail
    clear hcl hfr
    refine (read_any p (w.heap.size + 1) 12 244 8 107 l _ RD1.out.cur RD1.out.arr (by decide) HLT.out (by omega) (by rw [HLEN.out]; omega) (by rw [HLEN.out]; omega)).mono ?_
    rintro e w4 ⟨rfl, hr, hc⟩
    generalize wrap64 ((num l 12 8 : Nat) : Int) = a1 at *
    have hbx := RD1.out.box.grown hr (by simpa using fun e => RD1.out.pu e.symm)
    have hcl := hbx.cell 1
    have hfr := hbx.frozen 1
    simp only [List.getElem?_toArray, List.getElem?_cons_zero, List.getElem?_cons_succ] at hcl
    have RD2 := Lib.hid (show Rd w (w4.setCell ⟨w2.heap.size, 1, none⟩ (.int .i64 a1)) p (w.heap.size + 1) w2.heap.size 20 236 107 23 l #[.int .i64 a0, .int .i64 a1, .int .i64 0, .int .i64 0, .int .i64 0, .int .i64 0, .int .i64 0] from RD1.out.step hr hc 1 (.int .i64 a1))
    have HX4 := Lib.hid (RD1.out.other HX3.out hr (by omega) (by omega) 1 (.int .i64 a1))
    clear hr hc hbx
    go_wp2_with fail
    clear hcl hfr
    refine (read_any p (w.heap.size + 1) 20 236 8 107 l _ RD2.out.cur RD2.out.arr (by decide) HLT.out (by omega) (by rw [HLEN.out]; omega) (by rw [HLEN.out]; omega)).mono ?_
    rintro e w5 ⟨rfl, hr, hc⟩
    generalize wrap64 ((num l 20 8 : Nat) : Int) = a2 at *
    have hbx := RD2.out.box.grown hr (by simpa using fun e => RD2.out.pu e.symm)
    have hcl := hbx.cell 2
    have hfr := hbx.frozen 2
    simp only [List.getElem?_toArray, List.getElem?_cons_zero, List.getElem?_cons_succ] at hcl
    have RD3 := Lib.hid (show Rd w (w5.setCell ⟨w2.heap.size, 2, none⟩ (.int .i64 a2)) p (w.heap.size + 1) w2.heap.size 28 228 107 23 l #[.int .i64 a0, .int .i64 a1, .int .i64 a2, .int .i64 0, .int .i64 0, .int .i64 0, .int .i64 0] from RD2.out.step hr hc 2 (.int .i64 a2))
    have HX5 := Lib.hid (RD2.out.other HX4.out hr (by omega) (by omega) 2 (.int .i64 a2))
    clear hr hc hbx
    go_wp2_with fail
    clear hcl hfr
    refine (read_any p (w.heap.size + 1) 28 228 8 107 l _ RD3.out.cur RD3.out.arr (by decide) HLT.out (by omega) (by rw [HLEN.out]; omega) (by rw [HLEN.out]; omega)).mono ?_
    rintro e w6 ⟨rfl, hr, hc⟩
    generalize wrap64 ((num l 28 8 : Nat) : Int) = a3 at *
    have hbx := RD3.out.box.grown hr (by simpa using fun e => RD3.out.pu e.symm)
    have hcl := hbx.cell 3
    have hfr := hbx.frozen 3
    simp only [List.getElem?_toArray, List.getElem?_cons_zero, List.getElem?_cons_succ] at hcl
    have RD4 := Lib.hid (show Rd w (w6.setCell ⟨w2.heap.size, 3, none⟩ (.int .i64 a3)) p (w.heap.size + 1) w2.heap.size 36 220 107 23 l #[.int .i64 a0, .int .i64 a1, .int .i64 a2, .int .i64 a3, .int .i64 0, .int .i64 0, .int .i64 0] from RD3.out.step hr hc 3 (.int .i64 a3))
    have HX6 := Lib.hid (RD3.out.other HX5.out hr (by omega) (by omega) 3 (.int .i64 a3))
    clear hr hc hbx
    go_wp2_with fail
    clear hcl hfr
    refine (read_any p (w.heap.size + 1) 36 220 8 107 l _ RD4.out.cur RD4.out.arr (by decide) HLT.out (by omega) (by rw [HLEN.out]; omega) (by rw [HLEN.out]; omega)).mono ?_
    rintro e w7 ⟨rfl, hr, hc⟩
    generalize wrap64 ((num l 36 8 : Nat) : Int) = a4 at *
    have hbx := RD4.out.box.grown hr (by simpa using fun e => RD4.out.pu e.symm)
    have hcl := hbx.cell 4
    have hfr := hbx.frozen 4
    simp only [List.getElem?_toArray, List.getElem?_cons_zero, List.getElem?_cons_succ] at hcl
    have RD5 := Lib.hid (show Rd w (w7.setCell ⟨w2.heap.size, 4, none⟩ (.int .i64 a4)) p (w.heap.size + 1) w2.heap.size 44 212 107 23 l #[.int .i64 a0, .int .i64 a1, .int .i64 a2, .int .i64 a3, .int .i64 a4, .int .i64 0, .int .i64 0] from RD4.out.step hr hc 4 (.int .i64 a4))
    have HX7 := Lib.hid (RD4.out.other HX6.out hr (by omega) (by omega) 4 (.int .i64 a4))
    clear hr hc hbx
    go_wp2_with fail
    clear hcl hfr
    refine (read_any p (w.heap.size + 1) 44 212 8 107 l _ RD5.out.cur RD5.out.arr (by decide) HLT.out (by omega) (by rw [HLEN.out]; omega) (by rw [HLEN.out]; omega)).mono ?_
    rintro e w8 ⟨rfl, hr, hc⟩
    generalize wrap64 ((num l 44 8 : Nat) : Int) = a5 at *
    have hbx := RD5.out.box.grown hr (by simpa using fun e => RD5.out.pu e.symm)
    have hcl := hbx.cell 5
    have hfr := hbx.frozen 5
    simp only [List.getElem?_toArray, List.getElem?_cons_zero, List.getElem?_cons_succ] at hcl
    have RD6 := Lib.hid (show Rd w (w8.setCell ⟨w2.heap.size, 5, none⟩ (.int .i64 a5)) p (w.heap.size + 1) w2.heap.size 52 204 107 23 l #[.int .i64 a0, .int .i64 a1, .int .i64 a2, .int .i64 a3, .int .i64 a4, .int .i64 a5, .int .i64 0] from RD5.out.step hr hc 5 (.int .i64 a5))
    have HX8 := Lib.hid (RD5.out.other HX7.out hr (by omega) (by omega) 5 (.int .i64 a5))
    clear hr hc hbx
    go_wp2_with fail
    clear hcl hfr
    refine (read_any p (w.heap.size + 1) 52 204 8 107 l _ RD6.out.cur RD6.out.arr (by decide) HLT.out (by omega) (by rw [HLEN.out]; omega) (by rw [HLEN.out]; omega)).mono ?_
    rintro e w9 ⟨rfl, hr, hc⟩
    generalize wrap64 ((num l 52 8 : Nat) : Int) = a6 at *
    have hbx := RD6.out.box.grown hr (by simpa using fun e => RD6.out.pu e.symm)
    have hcl := hbx.cell 6
    have hfr := hbx.frozen 6
    simp only [List.getElem?_toArray, List.getElem?_cons_zero, List.getElem?_cons_succ] at hcl
    have RD7 := Lib.hid (show Rd w (w9.setCell ⟨w2.heap.size, 6, none⟩ (.int .i64 a6)) p (w.heap.size + 1) w2.heap.size 60 196 107 23 l #[.int .i64 a0, .int .i64 a1, .int .i64 a2, .int .i64 a3, .int .i64 a4, .int .i64 a5, .int .i64 a6] from RD6.out.step hr hc 6 (.int .i64 a6))
    have HX9 := Lib.hid (RD6.out.other HX8.out hr (by omega) (by omega) 6 (.int .i64 a6))
    clear hr hc hbx
    have x0 := RD7.out.box.cell 0; have x1 := RD7.out.box.cell 1; have x2 := RD7.out.box.cell 2; have x3 := RD7.out.box.cell 3; have x4 := RD7.out.box.cell 4; have x5 := RD7.out.box.cell 5; have x6 := RD7.out.box.cell 6
    simp only [List.getElem?_toArray, List.getElem?_cons_zero, List.getElem?_cons_succ] at x0 x1 x2 x3 x4 x5 x6
    clear RD0 RD1 RD2 RD3 RD4 RD5 RD6 HX1 HX2 HX3 HX4 HX5 HX6 HX7 HX8
    go_wp2_with fail
    clear hcl hfr
    refine (codec_put_super b a0 a1 a2 a3 a4 a5 a6 _ (HR.out.keep RD7.out.grown (by simp))).mono ?_
    clear x0 x1 x2 x3 x4 x5 x6
    cases hW : superW [a0, a1, a2, a3, a4, a5, a6] with
    | none =>
      rintro e w10 hG
      obtain ⟨hg, rfl⟩ := hG.none_
      have HX10 := Lib.hid (HX9.out.grown hg (by simp)); have HG10 := Lib.hid (RD7.out.grown.trans hg); have HW := Lib.hid hW
      clear hG hg hW
      go_wp2_with fail
      refine (comesback_err A none _ 0 c 0 _).mono ?_
      rintro e w11 ⟨rfl, rfl⟩
      have x0 := HX10.out.cell 0; have x1 := HX10.out.cell 1; have x2 := HX10.out.cell 2; have x3 := HX10.out.cell 3; have x4 := HX10.out.cell 4; have x5 := HX10.out.cell 5; have x6 := HX10.out.cell 6
      have f0 := HX10.out.frozen 0; have f1 := HX10.out.frozen 1; have f2 := HX10.out.frozen 2; have f3 := HX10.out.frozen 3; have f4 := HX10.out.frozen 4; have f5 := HX10.out.frozen 5; have f6 := HX10.out.frozen 6
      simp only [List.getElem?_toArray, List.getElem?_cons_zero, List.getElem?_cons_succ] at x0 x1 x2 x3 x4 x5 x6
      go_wp2_with fail
      refine ret_row2 rfl w.heap.size 23 _ _ rfl (Blk.set7 HX10.out) Try.underlying23 rfl (by kernel_rfl) rfl ⟨?_, ?_⟩
      · repeat (refine grown_set ?_ (Nat.le_refl _) _)
        exact HG10.out
      · rw [HSR.out, HSN.out, if_neg (by rw [HW.out]; simp)]
        rfl
    | some l' =>
      rintro e w10 hG
      obtain ⟨hg, g3, rfl, _, hb3, hlt3⟩ := hG.some_
      have HX10 := Lib.hid (HX9.out.grown hg (by simp)); have HG10 := Lib.hid (RD7.out.grown.trans hg); have HW := Lib.hid hW; have HU10 := Lib.hid (RD7.out.box.grown hg (by simp))
      have HB3 := Lib.hid (blk_bytes (b := w10.heap.size) hb3 (by have := hb3.lt; omega) hlt3)
      have HL3 := Lib.hid (bytes_keepN HL0.out HG10.out)
      clear hG hg hW hb3
      go_wp2_with fail
      refine (comesback_any _ _ A _ _ _ c _ l l' _ HL3.out HB3.out).mono ?_
      rintro e w11 ⟨rfl, rfl⟩
      have x0 := HX10.out.cell 0; have x1 := HX10.out.cell 1; have x2 := HX10.out.cell 2; have x3 := HX10.out.cell 3; have x4 := HX10.out.cell 4; have x5 := HX10.out.cell 5; have x6 := HX10.out.cell 6
      have f0 := HX10.out.frozen 0; have f1 := HX10.out.frozen 1; have f2 := HX10.out.frozen 2; have f3 := HX10.out.frozen 3; have f4 := HX10.out.frozen 4; have f5 := HX10.out.frozen 5; have f6 := HX10.out.frozen 6
      simp only [List.getElem?_toArray, List.getElem?_cons_zero, List.getElem?_cons_succ] at x0 x1 x2 x3 x4 x5 x6
      have y0 := HU10.out.cell 0; have y1 := HU10.out.cell 1; have y2 := HU10.out.cell 2; have y3 := HU10.out.cell 3; have y4 := HU10.out.cell 4; have y5 := HU10.out.cell 5; have y6 := HU10.out.cell 6
      simp only [List.getElem?_toArray, List.getElem?_cons_zero, List.getElem?_cons_succ] at y0 y1 y2 y3 y4 y5 y6
      cases hd : decide (l = l') with
      | true =>
        have HD := Lib.hid hd; clear hd
        go_wp2_with fail
        refine ret_row2 rfl w.heap.size 23 _ _ rfl (Blk.set7 HX10.out) Try.underlying23 rfl (by kernel_rfl) rfl ⟨?_, ?_⟩
        · repeat (refine grown_set ?_ (Nat.le_refl _) _)
          exact HG10.out
        · have hl := of_decide_eq_true HD.out
          subst hl
          rw [HSR.out, HSN.out, if_pos HW.out]
          rfl
      | false =>
        have HD := Lib.hid hd; clear hd
        go_wp2_with fail
        refine ret_row2 rfl w.heap.size 23 _ _ rfl (Blk.set7 HX10.out) Try.underlying23 rfl (by kernel_rfl) rfl ⟨?_, ?_⟩
        · repeat (refine grown_set ?_ (Nat.le_refl _) _)
          exact HG10.out
        · have hl := of_decide_eq_false HD.out
          rw [HSR.out, HSN.out, if_neg (by rw [HW.out]; simpa using fun e => hl e.symm)]
          rfl
  · have hno := superR_none l (by rw [HLEN.out]; exact h256)
    have HNO := Lib.hid hno; clear hno
    generalize superR l = r at *
    have hv : supV (r.getD zero7) = .agg #[.int .i64 0, .int .i64 0, .int .i64 0, .int .i64 0, .int .i64 0, .int .i64 0, .int .i64 0] := by rw [HNO.out]; exact hz0
    have HV := Lib.hid hv; clear hv hz0
    go_enter Try.func19, Try.ntmps19
    go_wp2_with fail
    refine (opensector_no b A n c _ h256).mono ?_
    rintro e w1 ⟨rfl, rfl⟩
    go_wp2_with fail
    refine ret_row2 rfl w.heap.size 23 _ _ rfl (HBX.out.alloc _) Try.underlying23 rfl (by kernel_rfl) rfl ⟨HG0.out.trans (World.grownBy_alloc _ _ none), ?_⟩
    rw [HV.out, HNO.out]
    rfl
set_option maxRecDepth 100000 in
set_option maxHeartbeats 800000 in
theorem codec_get_super_nil (A : Option Addr) (n c : Nat) (w : World) :
    Calls Try.prog 19 #[.pointer none, .slice A n c] w (Told w (supV zero7) false) := by
  rw [show supV zero7 = .agg #[.int .i64 0, .int .i64 0, .int .i64 0, .int .i64 0, .int .i64 0, .int .i64 0, .int .i64 0] from rfl]
  have hbk := Blk.new w 23 #[.int .i64 0, .int .i64 0, .int .i64 0, .int .i64 0, .int .i64 0, .int .i64 0, .int .i64 0]
  have HBK := Lib.hid hbk; clear hbk
  have HG0 := Lib.hid (World.grownBy_alloc w (.cells #[.int .i64 0, .int .i64 0, .int .i64 0, .int .i64 0, .int .i64 0, .int .i64 0, .int .i64 0] 23) none)
  go_enter Try.func19, Try.ntmps19
  go_wp2_with fail
  refine (opensector_nil A n c _).mono ?_
  rintro e w1 ⟨rfl, rfl⟩
  go_wp2_with fail
  exact ret_row2 rfl w.heap.size 23 _ _ rfl (HBK.out.alloc _) Try.underlying23 rfl (by kernel_rfl) rfl ⟨HG0.out.trans (World.grownBy_alloc _ _ none), rfl⟩
end Go.Proofs.Ytkiohneggoiipaa.Codec
