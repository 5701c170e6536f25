/- A disk beside a table of sums; Save of package super. -/
import Derived.Test.YtagikgejhckfbaaGreatMCodecBits2
import Derived.Test.YtagikgejhckfbaaGreatMRefNew
import Derived.Deep.RegionHeld3
namespace Go.Proofs.YtagikgejhckfbaaGreat.Sup
open Go.RowKit CrcMath CodecMath Mem Crc Codec DiskSpec Dsk

/-- A footprint, and one block more. -/
def With (own : Nat → Prop) (tb : Nat) : Nat → Prop := fun i => own i ∨ i = tb
section
variable {w w' w1 : World} {own own' : Nat → Prop} {tb B b : Nat} {S S' : St}
theorem turn_with (h : Turn w w' own own') (tb : Nat) : Turn w w' (With own tb) (With own' tb) :=
  ⟨h.os, h.tape, h.output, h.size, fun i hi hn => h.block i hi (fun e => hn (.inl e)), fun i hi => by
    rcases hi with hi | rfl
    · rcases h.fresh i hi with h1 | h1
      · exact .inl (.inl h1)
      · exact .inr h1
    · exact .inl (.inr rfl)⟩
theorem turn_table (h : w.grownBy w' (some tb)) : Turn w w' (With own tb) (With own tb) := .of_grown h (fun j e => by cases e; exact .inr rfl)
theorem turn_later {g : Nat} {o o' : Nat → Prop} (h : Turn w w1 o o') (hg : w1.grownBy w' (some g)) (hge : w.heap.size ≤ g) : Turn w w' o o' :=
  ⟨hg.os.trans h.os, hg.tape.trans h.tape, hg.output.trans h.output, Nat.le_trans h.size hg.size,
    fun i hi hn => (hg.block i (Nat.lt_of_lt_of_le hi h.size) (by simp; omega)).trans (h.block i hi hn), h.fresh⟩
theorem dat_grown (h : DAt w B b S own) {row : Option Nat} (hg : w.grownBy w' row) (hr : ∀ j, row = some j → ¬ own j) : DAt w' B b S own := by
  obtain ⟨bd, bm, f, h⟩ := h
  exact ⟨bd, bm, f, h.grown hg hr⟩
theorem tab_of_block (h : Tab w tb) (hk : w'.heap[tb]? = w.heap[tb]?) : Tab w' tb := by
  rcases h with ⟨cs, hb, hf⟩ | ⟨cs, hb, hf⟩
  · exact .inl ⟨cs, blk_of_block hb hk, hf⟩
  · exact .inr ⟨cs, blk_of_block hb hk, hf⟩
theorem tab_lt (h : Tab w tb) : tb < w.heap.size := by
  rcases h with ⟨_, h, _⟩ | ⟨_, h, _⟩ <;> exact h.lt

/-- A disk at block b, a table of sums at block tb beside it. -/
structure SAt (w : World) (B b tb : Nat) (S : St) (own : Nat → Prop) : Prop where
  d : DAt w B b S own
  t : Tab w tb
  n : ¬ own tb
  s : B ≤ w.heap.size
theorem SAt.quiet (h : SAt w B b tb S own) (hg : w.grownBy w' none) : SAt w' B b tb S own :=
  ⟨dat_grown h.d hg (fun _ e => by cases e), tab_keep h.t hg (by simp), h.n, Nat.le_trans h.s hg.size⟩
theorem SAt.table (h : SAt w B b tb S own) (hg : w.grownBy w' (some tb)) (ht : Tab w' tb) : SAt w' B b tb S own :=
  ⟨dat_grown h.d hg (fun j e => by cases e; exact h.n), ht, h.n, Nat.le_trans h.s hg.size⟩
theorem SAt.disk (h : SAt w B b tb S own) (hd : DAt w' B b S' own') (ht : Turn w w' own own') : SAt w' B b tb S' own' :=
  ⟨hd, tab_of_block h.t (ht.block tb (tab_lt h.t) h.n), fun ho => by
    rcases ht.fresh tb ho with h1 | h1
    · exact h.n h1
    · have := tab_lt h.t; omega, Nat.le_trans h.s ht.size⟩
/-- Another block is written. -/
theorem SAt.far (h : SAt w B b tb S own) {g : Nat} (hg : w.grownBy w' (some g)) (h1 : ¬ own g) (h2 : tb ≠ g) : SAt w' B b tb S own :=
  ⟨dat_grown h.d hg (fun j e => by cases e; exact h1), tab_keep h.t hg (by simpa using h2), h.n, Nat.le_trans h.s hg.size⟩
theorem SAt.own_lt (h : SAt w B b tb S own) {i : Nat} (hi : own i) : i < w.heap.size := by
  obtain ⟨_, _, _, hd⟩ := h.d
  exact hd.lt i hi
theorem SAt.low (h : SAt w B b tb S own) {i : Nat} (hi : own i) : B ≤ i := by
  obtain ⟨_, _, _, hd⟩ := h.d
  exact hd.low i hi
theorem SAt.ok (h : SAt w B b tb S own) : S.ok := by
  obtain ⟨_, _, _, hd⟩ := h.d
  exact hd.ok
theorem SAt.size (h : SAt w B b tb S own) : Calls Tryz.prog 18 #[.pointer (some ⟨b, 0, none⟩)] w fun e w' => e = .returned (.int .i64 (S.n : Nat)) ∧ w = w' := by
  obtain ⟨_, _, _, hd⟩ := h.d
  exact disk_size hd
theorem data_of_blk {g : Nat} {t : TypeId} {l : List Nat} (h : Blk w g t (u8s l).toArray) (hl : ∀ x ∈ l, x < 256) (hn : ¬ own g) : Dsk.Data w own (some ⟨g, 0, none⟩) l.length l := by
  refine ⟨rfl, hl, fun _ => ⟨g, 0, rfl, h.lt, hn, fun j hj => ?_⟩⟩
  rw [Nat.zero_add, h.cell, List.getElem?_toArray, u8s_at l j hj]
end

theorem tmod2 (a : Int) : -1 ≤ a.tmod 2 ∧ a.tmod 2 ≤ 1 := by
  rcases Int.le_total 0 a with h | h
  · rw [Int.tmod_eq_emod_of_nonneg h]; omega
  · have : a.tmod 2 = -((-a).tmod 2) := by rw [Int.neg_tmod, Int.neg_neg]
    rw [this, Int.tmod_eq_emod_of_nonneg (by omega)]; omega
set_option maxRecDepth 100000 in
set_option maxHeartbeats 3200000 in
theorem save_any {w : World} {B b tb : Nat} {S : St} {own : Nat → Prop} (h : SAt w B b tb S own) (a0 a1 a2 a3 a4 a5 a6 : Int) (hroom : ∀ i, (S.ver i).length < 549755813888) :
    Calls Tryz.prog 8 #[.pointer (some ⟨b, 0, none⟩), .pointer (some ⟨tb, 0, none⟩), .agg #[.int .i64 a0, .int .i64 a1, .int .i64 a2, .int .i64 a3, .int .i64 a4, .int .i64 a5, .int .i64 a6]] w fun e w' =>
      e = .returned (.int .i64 (saveE S [a0, a1, a2, a3, a4, a5, a6]).1) ∧ ∃ own', SAt w' B b tb (saveE S [a0, a1, a2, a3, a4, a5, a6]).2 own' ∧ Turn w w' (With own tb) (With own' tb) := by
  have hbk := Blk.new w 34 #[.int .i64 a0, .int .i64 a1, .int .i64 a2, .int .i64 a3, .int .i64 a4, .int .i64 a5, .int .i64 a6]
  have hg0 := World.grownBy_alloc w (.cells #[.int .i64 a0, .int .i64 a1, .int .i64 a2, .int .i64 a3, .int .i64 a4, .int .i64 a5, .int .i64 a6] 34) none
  have HROOM := Lib.hid hroom
  have H0 := Lib.hid h
  have hkeep : ∀ wx, (w.alloc (.cells #[.int .i64 a0, .int .i64 a1, .int .i64 a2, .int .i64 a3, .int .i64 a4, .int .i64 a5, .int .i64 a6] 34)).grownBy wx none →
      wx.cell? ⟨w.heap.size, 0, none⟩ = some (.int .i64 a0) ∧ wx.cell? ⟨w.heap.size, 1, none⟩ = some (.int .i64 a1) ∧ wx.cell? ⟨w.heap.size, 2, none⟩ = some (.int .i64 a2) ∧ wx.cell? ⟨w.heap.size, 3, none⟩ = some (.int .i64 a3) ∧ wx.cell? ⟨w.heap.size, 4, none⟩ = some (.int .i64 a4) ∧ wx.cell? ⟨w.heap.size, 5, none⟩ = some (.int .i64 a5) ∧ wx.cell? ⟨w.heap.size, 6, none⟩ = some (.int .i64 a6) := by
    intro wx hg
    have hb := hbk.grown hg (by simp)
    exact ⟨by rw [hb.cell]; rfl, by rw [hb.cell]; rfl, by rw [hb.cell]; rfl, by rw [hb.cell]; rfl, by rw [hb.cell]; rfl, by rw [hb.cell]; rfl, by rw [hb.cell]; rfl⟩
  have HKEEP := Lib.hid hkeep
  have HSZ := Lib.hid (fun wx (hg : (w.alloc (.cells #[.int .i64 a0, .int .i64 a1, .int .i64 a2, .int .i64 a3, .int .i64 a4, .int .i64 a5, .int .i64 a6] 34)).grownBy wx none) => (h.quiet (hg0.trans hg)).size)
  have HD0 := Lib.hid (grown_drew (w.alloc (.cells #[.int .i64 a0, .int .i64 a1, .int .i64 a2, .int .i64 a3, .int .i64 a4, .int .i64 a5, .int .i64 a6] 34)) none)
  have HG0 := Lib.hid hg0
  have HCK := Lib.hid (fun wx => check_any a0 a1 a2 a3 a4 a5 a6 (S.n : Int) wx)
  have HSV := Lib.hid (show saveE S [a0, a1, a2, a3, a4, a5, a6] = if mayB [a0, a1, a2, a3, a4, a5, a6] S.n then writeE S true (a0.tmod 2) (frame (superB [a0, a1, a2, a3, a4, a5, a6])) else (1, S) from rfl)
  have hck : checkE [a0, a1, a2, a3, a4, a5, a6] (S.n : Int) = if mayB [a0, a1, a2, a3, a4, a5, a6] S.n then 0 else 1 := rfl
  clear hbk hg0 hkeep h hroom
  cases hm : mayB [a0, a1, a2, a3, a4, a5, a6] S.n with
  | false =>
    rw [hm] at HSV hck
    rw [hck] at HCK
    rw [HSV.out]
    clear hck hm HSV
    generalize hn : (S.n : Int) = n at *
    go_enter Tryz.func8, Tryz.ntmps8
    go_wp2_with fail
    go_region_held3 (fun wx => wx.cell? ⟨w.heap.size, 0, none⟩ = some (.int .i64 a0) ∧ wx.cell? ⟨w.heap.size, 1, none⟩ = some (.int .i64 a1) ∧ wx.cell? ⟨w.heap.size, 2, none⟩ = some (.int .i64 a2) ∧ wx.cell? ⟨w.heap.size, 3, none⟩ = some (.int .i64 a3) ∧ wx.cell? ⟨w.heap.size, 4, none⟩ = some (.int .i64 a4) ∧ wx.cell? ⟨w.heap.size, 5, none⟩ = some (.int .i64 a5) ∧ wx.cell? ⟨w.heap.size, 6, none⟩ = some (.int .i64 a6))
      (first
        | exact HKEEP.out _ HD0.out
        | exact HKEEP.out _ HG1.out)
      (first
        | (go_at_call 18
           refine (HSZ.out _ HD0.out).mono ?_
           rintro e w1 ⟨rfl, rfl⟩)
        | (go_at_call 17
           refine (HCK.out _).mono ?_
           rintro e w2 ⟨rfl, hg⟩
           have HG1 := Lib.hid (HD0.out.trans hg)
           clear hg))
    go_wp2
    go_ret
    exact ⟨rfl, own, H0.out.quiet (HG0.out.trans HG1.out), Turn.none_ (HG0.out.trans HG1.out)⟩
  | true =>
    have HM := Lib.hid hm
    rw [hm] at HSV hck
    rw [hck] at HCK
    rw [HSV.out]
    clear hck hm HSV
    rw [if_pos rfl] at *
    generalize hn : (S.n : Int) = n at *
    have hlen := superW_len (s := [a0, a1, a2, a3, a4, a5, a6]) rfl (superW_may HM.out)
    have HLEN := Lib.hid hlen
    have HN := Lib.hid hn
    have HW := Lib.hid (superW_may HM.out)
    clear hlen hn
    generalize frame (superB [a0, a1, a2, a3, a4, a5, a6]) = L at *
    go_enter Tryz.func8, Tryz.ntmps8
    go_wp2_with fail
    go_region_held3 (fun wx => wx.cell? ⟨w.heap.size, 0, none⟩ = some (.int .i64 a0) ∧ wx.cell? ⟨w.heap.size, 1, none⟩ = some (.int .i64 a1) ∧ wx.cell? ⟨w.heap.size, 2, none⟩ = some (.int .i64 a2) ∧ wx.cell? ⟨w.heap.size, 3, none⟩ = some (.int .i64 a3) ∧ wx.cell? ⟨w.heap.size, 4, none⟩ = some (.int .i64 a4) ∧ wx.cell? ⟨w.heap.size, 5, none⟩ = some (.int .i64 a5) ∧ wx.cell? ⟨w.heap.size, 6, none⟩ = some (.int .i64 a6))
      (first
        | exact HKEEP.out _ HD0.out
        | exact HKEEP.out _ HG1.out)
      (first
        | (go_at_call 18
           refine (HSZ.out _ HD0.out).mono ?_
           rintro e w1 ⟨rfl, rfl⟩)
        | (go_at_call 17
           refine (HCK.out _).mono ?_
           rintro e w2 ⟨rfl, hg⟩
           have HG1 := Lib.hid (HD0.out.trans hg)
           clear hg))
    obtain ⟨x0, x1, x2, x3, x4, x5, x6⟩ := HKEEP.out _ HG1.out
    have hlt1 : w.heap.size < w2.heap.size := by have := HG1.out.size; simp at this; omega
    have HG01 := Lib.hid (HG0.out.trans HG1.out)
    have H1 := Lib.hid (H0.out.quiet HG01.out)
    go_wp2_with fail
    refine (put_super_core tb (some tb) a0 a1 a2 a3 a4 a5 a6 _ (.inr ⟨H1.out.t, rfl⟩)).mono ?_
    rintro e w3 ⟨hg3, ⟨l, g, ho, rfl, hge, hb3, hl3, hr3⟩ | ⟨ho, _⟩⟩
    case inr => rw [HW.out] at ho; cases ho
    rw [HW.out] at ho
    obtain rfl : L = l := by injection ho
    clear ho
    have hne : w.heap.size ≠ tb := fun e => by have := tab_lt H0.out.t; omega
    obtain ⟨y0, y1, y2, y3, y4, y5, y6⟩ : w3.cell? ⟨w.heap.size, 0, none⟩ = some (.int .i64 a0) ∧ w3.cell? ⟨w.heap.size, 1, none⟩ = some (.int .i64 a1) ∧ w3.cell? ⟨w.heap.size, 2, none⟩ = some (.int .i64 a2) ∧ w3.cell? ⟨w.heap.size, 3, none⟩ = some (.int .i64 a3) ∧ w3.cell? ⟨w.heap.size, 4, none⟩ = some (.int .i64 a4) ∧ w3.cell? ⟨w.heap.size, 5, none⟩ = some (.int .i64 a5) ∧ w3.cell? ⟨w.heap.size, 6, none⟩ = some (.int .i64 a6) := by
      have hk : ∀ o, w3.cell? ⟨w.heap.size, o, none⟩ = w2.cell? ⟨w.heap.size, o, none⟩ := fun o => World.cell?_of_block (hg3.block _ hlt1 (by simpa using hne))
      exact ⟨(hk 0).trans x0, (hk 1).trans x1, (hk 2).trans x2, (hk 3).trans x3, (hk 4).trans x4, (hk 5).trans x5, (hk 6).trans x6⟩
    have HT3 := Lib.hid ((turn_table (own := own) (grown_any_row HG01.out (some tb))).trans (turn_table hg3))
    have H3 := Lib.hid (H1.out.table hg3 (.inr hr3))
    have HB3 := Lib.hid hb3; have HL3 := Lib.hid hl3; have HGE := Lib.hid hge
    clear x0 x1 x2 x3 x4 x5 x6 hg3 hb3 hl3 hr3 hge
    rw [HLEN.out]
    go_wp2_with fail
    refine (place_any a0 a1 a2 a3 a4 a5 a6 _).mono ?_
    rintro e w4 ⟨rfl, hg4⟩
    have hb4 := HB3.out.grown hg4 (by simp)
    have hno : ¬ own g := fun ho => by have := H1.out.own_lt ho; have := HGE.out; omega
    have HDA := Lib.hid (data_of_blk hb4 HL3.out hno)
    have H4 := Lib.hid (H3.out.quiet hg4)
    have HT4 := Lib.hid (HT3.out.trans (Turn.none_ hg4))
    rw [HLEN.out] at HDA
    clear hg4 hb4 hno y0 y1 y2 y3 y4 y5 y6
    go_wp2_with fail
    refine (disk_write_all H4.out.d (a0.tmod 2) _ 256 256 L true (by have := tmod2 a0; omega) HDA.out (by omega) (by omega) HROOM.out H4.out.s).mono ?_
    rintro e w5 ⟨rfl, own', hd5, ht5⟩
    have H5 := Lib.hid (H4.out.disk hd5 ht5)
    have HT5 := Lib.hid (HT4.out.trans (turn_with ht5 tb))
    clear hd5 ht5
    go_wp2
    go_ret
    exact ⟨rfl, own', H5.out, HT5.out⟩
end Go.Proofs.YtagikgejhckfbaaGreat.Sup
