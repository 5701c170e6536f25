/- The document's Save. -/
import Derived.Test.YtagikgejhckfbaaGreatMRefSuper
import Derived.Test.YtagikgejhckfbaaGreatMRefNew
import Derived.Deep.RegionHeld3
namespace Go.Proofs.YtagikgejhckfbaaGreat.Sup
open Go.RowKit CrcMath CodecMath Mem Crc Codec DiskSpec Dsk
theorem rat_grown {w w' : World} {B b : Nat} {S : St} {own : Nat → Prop} (h : RAt w B b S own) {row : Option Nat} (hg : w.grownBy w' row) (hr : ∀ j, row = some j → ¬ own j) : RAt w' B b S own := by
  obtain ⟨bl, c, dv, vv, vs, h⟩ := h
  exact ⟨bl, c, dv, vv, vs, h.grown hg hr⟩
theorem rat_ok {w : World} {B b : Nat} {S : St} {own : Nat → Prop} (h : RAt w B b S own) : S.ok ∧ (∀ i, own i → i < w.heap.size) ∧ (∀ i, own i → B ≤ i) := by
  obtain ⟨bl, c, dv, vv, vs, h⟩ := h
  exact ⟨h.ok, h.lt, h.low⟩
theorem data_of_own' {w : World} {base : Nat} {v : Value} {l : List Nat} {own : Nat → Prop} (h : Own w base 5 1 v l.length (u8s l)) (hl : ∀ x ∈ l, x < 256) (ho : ∀ g, base ≤ g → ¬ own g) :
    ∃ A c, v = .slice A l.length c ∧ Dsk.Data w own A l.length l ∧ l.length ≤ c := by
  obtain ⟨A, c, rfl, hc, _, _⟩ := h.shape
  refine ⟨A, c, rfl, ⟨rfl, hl, fun hn => ?_⟩, hc⟩
  obtain ⟨g, cap, hv, hb, hlt, _, _, hcell⟩ := h.reads hn
  injection hv with h1
  subst h1
  exact ⟨g, 0, rfl, hlt, ho g hb, fun j hj => by rw [Nat.zero_add]; exact hcell j _ (u8s_at l j hj)⟩

theorem tmod2' (a : Int) : -1 ≤ a.tmod 2 ∧ a.tmod 2 ≤ 1 := by
  rcases Int.le_total 0 a with h | h
  · rw [Int.tmod_eq_emod_of_nonneg h]; omega
  · have : a.tmod 2 = -((-a).tmod 2) := by rw [Int.neg_tmod, Int.neg_neg]
    rw [this, Int.tmod_eq_emod_of_nonneg (by omega)]; omega
set_option maxRecDepth 100000 in
set_option maxHeartbeats 3200000 in
theorem ref_save_any {w : World} {B r : Nat} {S : St} {own : Nat → Prop} (h : RAt w B r S own) (a0 a1 a2 a3 a4 a5 a6 : Int) (hroom : ∀ i, (S.ver i).length < 549755813888) (hB : B ≤ w.heap.size) :
    Calls Tryz.prog 9 #[.pointer (some ⟨r, 0, none⟩), .agg #[.int .i64 a0, .int .i64 a1, .int .i64 a2, .int .i64 a3, .int .i64 a4, .int .i64 a5, .int .i64 a6]] w fun e w' =>
      e = .returned (.int .i64 (saveE S [a0, a1, a2, a3, a4, a5, a6]).1) ∧ ∃ own', RAt w' B r (saveE S [a0, a1, a2, a3, a4, a5, a6]).2 own' ∧ Turn w w' own own' := by
  obtain ⟨bl, c, dv, vv, vs, hR⟩ := h
  have hbk := Blk.new w 34 #[.int .i64 a0, .int .i64 a1, .int .i64 a2, .int .i64 a3, .int .i64 a4, .int .i64 a5, .int .i64 a6]
  have hg0 := World.grownBy_alloc w (.cells #[.int .i64 a0, .int .i64 a1, .int .i64 a2, .int .i64 a3, .int .i64 a4, .int .i64 a5, .int .i64 a6] 34) none
  have hR0 := hR.alloc (.cells #[.int .i64 a0, .int .i64 a1, .int .i64 a2, .int .i64 a3, .int .i64 a4, .int .i64 a5, .int .i64 a6] 34)
  have hkeep : ∀ wx, (w.alloc (.cells #[.int .i64 a0, .int .i64 a1, .int .i64 a2, .int .i64 a3, .int .i64 a4, .int .i64 a5, .int .i64 a6] 34)).grownBy wx none → wx.cell? ⟨w.heap.size, 0, none⟩ = some (.int .i64 a0) ∧ wx.cell? ⟨w.heap.size, 1, none⟩ = some (.int .i64 a1) ∧ wx.cell? ⟨w.heap.size, 2, none⟩ = some (.int .i64 a2) ∧ wx.cell? ⟨w.heap.size, 3, none⟩ = some (.int .i64 a3) ∧ wx.cell? ⟨w.heap.size, 4, none⟩ = some (.int .i64 a4) ∧ wx.cell? ⟨w.heap.size, 5, none⟩ = some (.int .i64 a5) ∧ wx.cell? ⟨w.heap.size, 6, none⟩ = some (.int .i64 a6) ∧ wx.cell? ⟨r, 0, none⟩ = some (.slice (some ⟨bl, 0, none⟩) S.n c) := by
    intro wx hg
    have hb := hbk.grown hg (by simp)
    exact ⟨by rw [hb.cell]; rfl, by rw [hb.cell]; rfl, by rw [hb.cell]; rfl, by rw [hb.cell]; rfl, by rw [hb.cell]; rfl, by rw [hb.cell]; rfl, by rw [hb.cell]; rfl, (hR0.grown hg (fun _ e => by cases e)).rc⟩
  have HKEEP := Lib.hid hkeep
  have HROOM := Lib.hid hroom; have HBB := Lib.hid hB
  have H0 := Lib.hid (show RAt w B r S own from ⟨bl, c, dv, vv, vs, hR⟩)
  have HLT := Lib.hid hR.lt
  have HD0 := Lib.hid (grown_drew (w.alloc (.cells #[.int .i64 a0, .int .i64 a1, .int .i64 a2, .int .i64 a3, .int .i64 a4, .int .i64 a5, .int .i64 a6] 34)) none)
  have HG0 := Lib.hid hg0
  have HCK := Lib.hid (fun wx => refcheck_any a0 a1 a2 a3 a4 a5 a6 (S.n : Int) wx)
  have HSV := Lib.hid (show saveE S [a0, a1, a2, a3, a4, a5, a6] = if mayB [a0, a1, a2, a3, a4, a5, a6] S.n then writeE S true (a0.tmod 2) (frame (superB [a0, a1, a2, a3, a4, a5, a6])) else (1, S) from rfl)
  have hck : checkE [a0, a1, a2, a3, a4, a5, a6] (S.n : Int) = if mayB [a0, a1, a2, a3, a4, a5, a6] S.n then 0 else 1 := rfl
  clear hbk hg0 hkeep hR0 hroom hB hR
  cases hm : mayB [a0, a1, a2, a3, a4, a5, a6] S.n with
  | false =>
    rw [hm] at HSV
    rw [hm, if_neg (by simp)] at hck
    rw [hck] at HCK
    rw [HSV.out]
    clear hck hm HSV
    generalize hn : S.n = n at *
    go_enter Tryz.func9, Tryz.ntmps9
    go_wp2_with fail
    go_region_held3 (fun wx => wx.cell? ⟨w.heap.size, 0, none⟩ = some (.int .i64 a0) ∧ wx.cell? ⟨w.heap.size, 1, none⟩ = some (.int .i64 a1) ∧ wx.cell? ⟨w.heap.size, 2, none⟩ = some (.int .i64 a2) ∧ wx.cell? ⟨w.heap.size, 3, none⟩ = some (.int .i64 a3) ∧ wx.cell? ⟨w.heap.size, 4, none⟩ = some (.int .i64 a4) ∧ wx.cell? ⟨w.heap.size, 5, none⟩ = some (.int .i64 a5) ∧ wx.cell? ⟨w.heap.size, 6, none⟩ = some (.int .i64 a6) ∧ wx.cell? ⟨r, 0, none⟩ = some (.slice (some ⟨bl, 0, none⟩) n c))
      (first
        | exact HKEEP.out _ HD0.out
        | exact HKEEP.out _ HG1.out)
      (first
        | (go_at_call 22
           refine (HCK.out _).mono ?_
           rintro e w2 ⟨rfl, hg⟩
           have HG1 := Lib.hid (HD0.out.trans hg)
           clear hg))
    go_wp2
    go_ret
    exact ⟨rfl, own, rat_grown H0.out (HG0.out.trans HG1.out) (fun _ e => by cases e), Turn.none_ (HG0.out.trans HG1.out)⟩
  | true =>
    have HM := Lib.hid hm
    rw [hm, if_pos rfl] at HSV
    rw [hm, if_pos rfl] at hck
    rw [hck] at HCK
    rw [HSV.out]
    clear hck hm HSV
    have hlen := superW_len (s := [a0, a1, a2, a3, a4, a5, a6]) rfl (superW_may HM.out)
    have HLEN := Lib.hid hlen
    have HW := Lib.hid (superW_may HM.out)
    clear hlen
    generalize frame (superB [a0, a1, a2, a3, a4, a5, a6]) = L at *
    generalize hn : S.n = n at *
    go_enter Tryz.func9, Tryz.ntmps9
    go_wp2_with fail
    go_region_held3 (fun wx => wx.cell? ⟨w.heap.size, 0, none⟩ = some (.int .i64 a0) ∧ wx.cell? ⟨w.heap.size, 1, none⟩ = some (.int .i64 a1) ∧ wx.cell? ⟨w.heap.size, 2, none⟩ = some (.int .i64 a2) ∧ wx.cell? ⟨w.heap.size, 3, none⟩ = some (.int .i64 a3) ∧ wx.cell? ⟨w.heap.size, 4, none⟩ = some (.int .i64 a4) ∧ wx.cell? ⟨w.heap.size, 5, none⟩ = some (.int .i64 a5) ∧ wx.cell? ⟨w.heap.size, 6, none⟩ = some (.int .i64 a6) ∧ wx.cell? ⟨r, 0, none⟩ = some (.slice (some ⟨bl, 0, none⟩) n c))
      (first
        | exact HKEEP.out _ HD0.out
        | exact HKEEP.out _ HG1.out)
      (first
        | (go_at_call 22
           refine (HCK.out _).mono ?_
           rintro e w2 ⟨rfl, hg⟩
           have HG1 := Lib.hid (HD0.out.trans hg)
           clear hg))
    obtain ⟨x0, x1, x2, x3, x4, x5, x6, _⟩ := HKEEP.out _ HG1.out
    have HBK := Lib.hid ((Blk.new w 34 #[.int .i64 a0, .int .i64 a1, .int .i64 a2, .int .i64 a3, .int .i64 a4, .int .i64 a5, .int .i64 a6]).grown HG1.out (by simp))
    have HG01 := Lib.hid (HG0.out.trans HG1.out)
    go_wp2_with fail
    refine (ref_put_super a0 a1 a2 a3 a4 a5 a6 _).mono ?_
    rintro e w3 ⟨hg3, hW3⟩
    rw [HW.out] at hW3
    rcases hW3 with ⟨l, v, ho, rfl, hown3, hl3⟩ | ⟨ho, _⟩
    case inr => cases ho
    obtain rfl : L = l := by injection ho
    have hb3 := HBK.out.grown hg3 (by simp)
    have y0 := hb3.cell 0
    simp only [List.getElem?_toArray, List.getElem?_cons_zero] at y0
    obtain ⟨A3, c3, rfl, hd3, hc3⟩ := data_of_own' (own := own) hown3 hl3 (fun g hg ho => by have := HLT.out g ho; have := HG01.out.size; omega)
    have H3 := Lib.hid (rat_grown H0.out (HG01.out.trans hg3) (fun _ e => by cases e))
    have HG3 := Lib.hid (HG01.out.trans hg3)
    have HD3 := Lib.hid hd3; have HC3 := Lib.hid hc3
    clear ho hg3 hown3 hl3 hb3 hd3 hc3 x0 x1 x2 x3 x4 x5 x6
    rw [HLEN.out] at HD3 HC3 ⊢
    have htm := tmod2' a0
    go_wp2_with fail
    refine (ref_write_all H3.out (a0.tmod 2) A3 256 c3 L true (by omega) HD3.out HC3.out (by omega) HROOM.out (Nat.le_trans HBB.out HG3.out.size)).mono ?_
    rintro e w5 ⟨rfl, own', hd5, ht5⟩
    have HT5 := Lib.hid ((Turn.none_ (own := own) HG3.out).trans ht5)
    have H5 := Lib.hid hd5
    clear hd5 ht5
    go_wp2
    go_ret
    exact ⟨rfl, own', H5.out, HT5.out⟩
end Go.Proofs.YtagikgejhckfbaaGreat.Sup
