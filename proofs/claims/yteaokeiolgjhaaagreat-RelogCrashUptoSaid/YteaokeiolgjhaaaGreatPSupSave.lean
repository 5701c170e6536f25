/- Texts of this seat's proofs: SupSave, LogMem. -/
import Derived.Test.YteaokeiolgjhaaaGreatPCodecBits2
import Derived.Test.YteaokeiolgjhaaaGreatPDiskAny
import Derived.Test.YteaokeiolgjhaaaGreatPCodecSpec
import Derived.Deep.RegionHeld3
/- A disk beside a table of sums; Save of package super. -/
namespace Go.Proofs.YteaokeiolgjhaaaGreat.Sup
open Go.RowKit CrcMath CodecMath Mem Crc Codec DiskSpec Dsk

/-- A footprint, and one block more. -/
def With (own : Nat → Prop) (tb : Nat) : Nat → Prop := fun i => own i ∨ i = tb
section
variable {w w' w1 : World} {own own' : Nat → Prop} {tb B b : Nat} {S S' : St}
theorem turn_with (h : Turn w w' own own') (tb : Nat) : Turn w w' (With own tb) (With own' tb) :=
  ⟨h.os, h.tape, h.output, h.size, fun i hi hn => h.block i hi (fun e => hn (.inl e)), fun i hi => by
    rcases hi with hi | rfl
    · rcases h.fresh i hi with h1 | h1
      · exact .inl (.inl h1)
      · exact .inr h1
    · exact .inl (.inr rfl)⟩
theorem turn_table (h : w.grownBy w' (some tb)) : Turn w w' (With own tb) (With own tb) := .of_grown h (fun j e => by cases e; exact .inr rfl)
theorem turn_later {g : Nat} {o o' : Nat → Prop} (h : Turn w w1 o o') (hg : w1.grownBy w' (some g)) (hge : w.heap.size ≤ g) : Turn w w' o o' :=
  ⟨hg.os.trans h.os, hg.tape.trans h.tape, hg.output.trans h.output, Nat.le_trans h.size hg.size,
    fun i hi hn => (hg.block i (Nat.lt_of_lt_of_le hi h.size) (by simp; omega)).trans (h.block i hi hn), h.fresh⟩
theorem dat_grown (h : DAt w B b S own) {row : Option Nat} (hg : w.grownBy w' row) (hr : ∀ j, row = some j → ¬ own j) : DAt w' B b S own := by
  obtain ⟨bd, bm, f, h⟩ := h
  exact ⟨bd, bm, f, h.grown hg hr⟩
theorem tab_of_block (h : Tab w tb) (hk : w'.heap[tb]? = w.heap[tb]?) : Tab w' tb := by
  rcases h with ⟨cs, hb, hf⟩ | ⟨cs, hb, hf⟩
  · exact .inl ⟨cs, blk_of_block hb hk, hf⟩
  · exact .inr ⟨cs, blk_of_block hb hk, hf⟩
theorem tab_lt (h : Tab w tb) : tb < w.heap.size := by
  rcases h with ⟨_, h, _⟩ | ⟨_, h, _⟩ <;> exact h.lt

/-- A disk at block b, a table of sums at block tb beside it. -/
structure SAt (w : World) (B b tb : Nat) (S : St) (own : Nat → Prop) : Prop where
  d : DAt w B b S own
  t : Tab w tb
  n : ¬ own tb
  s : B ≤ w.heap.size
theorem SAt.quiet (h : SAt w B b tb S own) (hg : w.grownBy w' none) : SAt w' B b tb S own :=
  ⟨dat_grown h.d hg (fun _ e => by cases e), tab_keep h.t hg (by simp), h.n, Nat.le_trans h.s hg.size⟩
theorem SAt.table (h : SAt w B b tb S own) (hg : w.grownBy w' (some tb)) (ht : Tab w' tb) : SAt w' B b tb S own :=
  ⟨dat_grown h.d hg (fun j e => by cases e; exact h.n), ht, h.n, Nat.le_trans h.s hg.size⟩
theorem SAt.disk (h : SAt w B b tb S own) (hd : DAt w' B b S' own') (ht : Turn w w' own own') : SAt w' B b tb S' own' :=
  ⟨hd, tab_of_block h.t (ht.block tb (tab_lt h.t) h.n), fun ho => by
    rcases ht.fresh tb ho with h1 | h1
    · exact h.n h1
    · have := tab_lt h.t; omega, Nat.le_trans h.s ht.size⟩
/-- Another block is written. -/
theorem SAt.far (h : SAt w B b tb S own) {g : Nat} (hg : w.grownBy w' (some g)) (h1 : ¬ own g) (h2 : tb ≠ g) : SAt w' B b tb S own :=
  ⟨dat_grown h.d hg (fun j e => by cases e; exact h1), tab_keep h.t hg (by simpa using h2), h.n, Nat.le_trans h.s hg.size⟩
theorem SAt.own_lt (h : SAt w B b tb S own) {i : Nat} (hi : own i) : i < w.heap.size := by
  obtain ⟨_, _, _, hd⟩ := h.d
  exact hd.lt i hi
theorem SAt.low (h : SAt w B b tb S own) {i : Nat} (hi : own i) : B ≤ i := by
  obtain ⟨_, _, _, hd⟩ := h.d
  exact hd.low i hi
theorem SAt.ok (h : SAt w B b tb S own) : S.ok := by
  obtain ⟨_, _, _, hd⟩ := h.d
  exact hd.ok
theorem SAt.size (h : SAt w B b tb S own) : Calls Tryz.prog 42 #[.pointer (some ⟨b, 0, none⟩)] w fun e w' => e = .returned (.int .i64 (S.n : Nat)) ∧ w = w' := by
  obtain ⟨_, _, _, hd⟩ := h.d
  exact disk_size hd
theorem data_of_blk {g : Nat} {t : TypeId} {l : List Nat} (h : Blk w g t (u8s l).toArray) (hl : ∀ x ∈ l, x < 256) (hn : ¬ own g) : Dsk.Data w own (some ⟨g, 0, none⟩) l.length l := by
  refine ⟨rfl, hl, fun _ => ⟨g, 0, rfl, h.lt, hn, fun j hj => ?_⟩⟩
  rw [Nat.zero_add, h.cell, List.getElem?_toArray, u8s_at l j hj]
end

theorem tmod2 (a : Int) : -1 ≤ a.tmod 2 ∧ a.tmod 2 ≤ 1 := by
  rcases Int.le_total 0 a with h | h
  · rw [Int.tmod_eq_emod_of_nonneg h]; omega
  · have : a.tmod 2 = -((-a).tmod 2) := by rw [Int.neg_tmod, Int.neg_neg]
    rw [this, Int.tmod_eq_emod_of_nonneg (by omega)]; omega
set_option maxRecDepth 100000 in
set_option maxHeartbeats 3200000 in
theorem save_any_r {w : World} {B b tb : Nat} {S : St} {own : Nat → Prop} (h : SAt w B b tb S own) (a0 a1 a2 a3 a4 a5 a6 : Int) (hroom : ∀ i, (S.ver i).length < 549755813888) :
    Calls Tryz.prog 92 #[.pointer (some ⟨b, 0, none⟩), .pointer (some ⟨tb, 0, none⟩), .agg #[.int .i64 a0, .int .i64 a1, .int .i64 a2, .int .i64 a3, .int .i64 a4, .int .i64 a5, .int .i64 a6]] w fun e w' =>
      e = .returned (.int .i64 (saveE S [a0, a1, a2, a3, a4, a5, a6]).1) ∧ ∃ own', SAt w' B b tb (saveE S [a0, a1, a2, a3, a4, a5, a6]).2 own' ∧ Turn w w' (With own tb) (With own' tb) ∧ (Ready w tb ∨ (saveE S [a0, a1, a2, a3, a4, a5, a6]).1 = 0 → Ready w' tb) := by
  have hbk := Blk.new w 49 #[.int .i64 a0, .int .i64 a1, .int .i64 a2, .int .i64 a3, .int .i64 a4, .int .i64 a5, .int .i64 a6]
  have hg0 := World.grownBy_alloc w (.cells #[.int .i64 a0, .int .i64 a1, .int .i64 a2, .int .i64 a3, .int .i64 a4, .int .i64 a5, .int .i64 a6] 49) none
  have HROOM := Lib.hid hroom
  have H0 := Lib.hid h
  have hkeep : ∀ wx, (w.alloc (.cells #[.int .i64 a0, .int .i64 a1, .int .i64 a2, .int .i64 a3, .int .i64 a4, .int .i64 a5, .int .i64 a6] 49)).grownBy wx none →
      wx.cell? ⟨w.heap.size, 0, none⟩ = some (.int .i64 a0) ∧ wx.cell? ⟨w.heap.size, 1, none⟩ = some (.int .i64 a1) ∧ wx.cell? ⟨w.heap.size, 2, none⟩ = some (.int .i64 a2) ∧ wx.cell? ⟨w.heap.size, 3, none⟩ = some (.int .i64 a3) ∧ wx.cell? ⟨w.heap.size, 4, none⟩ = some (.int .i64 a4) ∧ wx.cell? ⟨w.heap.size, 5, none⟩ = some (.int .i64 a5) ∧ wx.cell? ⟨w.heap.size, 6, none⟩ = some (.int .i64 a6) := by
    intro wx hg
    have hb := hbk.grown hg (by simp)
    exact ⟨by rw [hb.cell]; rfl, by rw [hb.cell]; rfl, by rw [hb.cell]; rfl, by rw [hb.cell]; rfl, by rw [hb.cell]; rfl, by rw [hb.cell]; rfl, by rw [hb.cell]; rfl⟩
  have HKEEP := Lib.hid hkeep
  have HSZ := Lib.hid (fun wx (hg : (w.alloc (.cells #[.int .i64 a0, .int .i64 a1, .int .i64 a2, .int .i64 a3, .int .i64 a4, .int .i64 a5, .int .i64 a6] 49)).grownBy wx none) => (h.quiet (hg0.trans hg)).size)
  have HD0 := Lib.hid (grown_drew (w.alloc (.cells #[.int .i64 a0, .int .i64 a1, .int .i64 a2, .int .i64 a3, .int .i64 a4, .int .i64 a5, .int .i64 a6] 49)) none)
  have HG0 := Lib.hid hg0
  have HCK := Lib.hid (fun wx => check_any a0 a1 a2 a3 a4 a5 a6 (S.n : Int) wx)
  have HSV := Lib.hid (show saveE S [a0, a1, a2, a3, a4, a5, a6] = if mayB [a0, a1, a2, a3, a4, a5, a6] S.n then writeE S true (a0.tmod 2) (frame (superB [a0, a1, a2, a3, a4, a5, a6])) else (1, S) from rfl)
  have hck : checkE [a0, a1, a2, a3, a4, a5, a6] (S.n : Int) = if mayB [a0, a1, a2, a3, a4, a5, a6] S.n then 0 else 1 := rfl
  clear hbk hg0 hkeep h hroom
  cases hm : mayB [a0, a1, a2, a3, a4, a5, a6] S.n with
  | false =>
    rw [hm] at HSV hck
    rw [hck] at HCK
    rw [HSV.out]
    clear hck hm HSV
    generalize hn : (S.n : Int) = n at *
    go_enter Tryz.func92, Tryz.ntmps92
    go_wp2_with fail
    go_region_held3 (fun wx => wx.cell? ⟨w.heap.size, 0, none⟩ = some (.int .i64 a0) ∧ wx.cell? ⟨w.heap.size, 1, none⟩ = some (.int .i64 a1) ∧ wx.cell? ⟨w.heap.size, 2, none⟩ = some (.int .i64 a2) ∧ wx.cell? ⟨w.heap.size, 3, none⟩ = some (.int .i64 a3) ∧ wx.cell? ⟨w.heap.size, 4, none⟩ = some (.int .i64 a4) ∧ wx.cell? ⟨w.heap.size, 5, none⟩ = some (.int .i64 a5) ∧ wx.cell? ⟨w.heap.size, 6, none⟩ = some (.int .i64 a6))
      (first
        | exact HKEEP.out _ HD0.out
        | exact HKEEP.out _ HG1.out)
      (first
        | (go_at_call 42
           refine (HSZ.out _ HD0.out).mono ?_
           rintro e w1 ⟨rfl, rfl⟩)
        | (go_at_call 41
           refine (HCK.out _).mono ?_
           rintro e w2 ⟨rfl, hg⟩
           have HG1 := Lib.hid (HD0.out.trans hg)
           clear hg))
    go_wp2
    go_ret
    refine ⟨rfl, own, H0.out.quiet (HG0.out.trans HG1.out), Turn.none_ (HG0.out.trans HG1.out), fun hc => ?_⟩
    exact Ready.keep hc (HG0.out.trans HG1.out) (by simp)
  | true =>
    have HM := Lib.hid hm
    rw [hm] at HSV hck
    rw [hck] at HCK
    rw [HSV.out]
    clear hck hm HSV
    rw [if_pos rfl] at *
    generalize hn : (S.n : Int) = n at *
    have hlen := superW_len (s := [a0, a1, a2, a3, a4, a5, a6]) rfl (superW_may HM.out)
    have HLEN := Lib.hid hlen
    have HN := Lib.hid hn
    have HW := Lib.hid (superW_may HM.out)
    clear hlen hn
    generalize frame (superB [a0, a1, a2, a3, a4, a5, a6]) = L at *
    go_enter Tryz.func92, Tryz.ntmps92
    go_wp2_with fail
    go_region_held3 (fun wx => wx.cell? ⟨w.heap.size, 0, none⟩ = some (.int .i64 a0) ∧ wx.cell? ⟨w.heap.size, 1, none⟩ = some (.int .i64 a1) ∧ wx.cell? ⟨w.heap.size, 2, none⟩ = some (.int .i64 a2) ∧ wx.cell? ⟨w.heap.size, 3, none⟩ = some (.int .i64 a3) ∧ wx.cell? ⟨w.heap.size, 4, none⟩ = some (.int .i64 a4) ∧ wx.cell? ⟨w.heap.size, 5, none⟩ = some (.int .i64 a5) ∧ wx.cell? ⟨w.heap.size, 6, none⟩ = some (.int .i64 a6))
      (first
        | exact HKEEP.out _ HD0.out
        | exact HKEEP.out _ HG1.out)
      (first
        | (go_at_call 42
           refine (HSZ.out _ HD0.out).mono ?_
           rintro e w1 ⟨rfl, rfl⟩)
        | (go_at_call 41
           refine (HCK.out _).mono ?_
           rintro e w2 ⟨rfl, hg⟩
           have HG1 := Lib.hid (HD0.out.trans hg)
           clear hg))
    obtain ⟨x0, x1, x2, x3, x4, x5, x6⟩ := HKEEP.out _ HG1.out
    have hlt1 : w.heap.size < w2.heap.size := by have := HG1.out.size; simp at this; omega
    have HG01 := Lib.hid (HG0.out.trans HG1.out)
    have H1 := Lib.hid (H0.out.quiet HG01.out)
    go_wp2_with fail
    refine (put_super_core tb (some tb) a0 a1 a2 a3 a4 a5 a6 _ (.inr ⟨H1.out.t, rfl⟩)).mono ?_
    rintro e w3 ⟨hg3, ⟨l, g, ho, rfl, hge, hb3, hl3, hr3⟩ | ⟨ho, _⟩⟩
    case inr => rw [HW.out] at ho; cases ho
    rw [HW.out] at ho
    obtain rfl : L = l := by injection ho
    clear ho
    have hne : w.heap.size ≠ tb := fun e => by have := tab_lt H0.out.t; omega
    obtain ⟨y0, y1, y2, y3, y4, y5, y6⟩ : w3.cell? ⟨w.heap.size, 0, none⟩ = some (.int .i64 a0) ∧ w3.cell? ⟨w.heap.size, 1, none⟩ = some (.int .i64 a1) ∧ w3.cell? ⟨w.heap.size, 2, none⟩ = some (.int .i64 a2) ∧ w3.cell? ⟨w.heap.size, 3, none⟩ = some (.int .i64 a3) ∧ w3.cell? ⟨w.heap.size, 4, none⟩ = some (.int .i64 a4) ∧ w3.cell? ⟨w.heap.size, 5, none⟩ = some (.int .i64 a5) ∧ w3.cell? ⟨w.heap.size, 6, none⟩ = some (.int .i64 a6) := by
      have hk : ∀ o, w3.cell? ⟨w.heap.size, o, none⟩ = w2.cell? ⟨w.heap.size, o, none⟩ := fun o => World.cell?_of_block (hg3.block _ hlt1 (by simpa using hne))
      exact ⟨(hk 0).trans x0, (hk 1).trans x1, (hk 2).trans x2, (hk 3).trans x3, (hk 4).trans x4, (hk 5).trans x5, (hk 6).trans x6⟩
    have HT3 := Lib.hid ((turn_table (own := own) (grown_any_row HG01.out (some tb))).trans (turn_table hg3))
    have H3 := Lib.hid (H1.out.table hg3 (.inr hr3))
    have HB3 := Lib.hid hb3; have HL3 := Lib.hid hl3; have HGE := Lib.hid hge; have HRD3 := Lib.hid hr3
    clear x0 x1 x2 x3 x4 x5 x6 hg3 hb3 hl3 hr3 hge
    rw [HLEN.out]
    go_wp2_with fail
    refine (place_any a0 a1 a2 a3 a4 a5 a6 _).mono ?_
    rintro e w4 ⟨rfl, hg4⟩
    have hb4 := HB3.out.grown hg4 (by simp)
    have hno : ¬ own g := fun ho => by have := H1.out.own_lt ho; have := HGE.out; omega
    have HDA := Lib.hid (data_of_blk hb4 HL3.out hno)
    have H4 := Lib.hid (H3.out.quiet hg4)
    have HT4 := Lib.hid (HT3.out.trans (Turn.none_ hg4)); have HRD4 := Lib.hid (HRD3.out.keep hg4 (by simp))
    rw [HLEN.out] at HDA
    clear hg4 hb4 hno y0 y1 y2 y3 y4 y5 y6
    go_wp2_with fail
    refine (disk_write_all H4.out.d (a0.tmod 2) _ 256 256 L true (by have := tmod2 a0; omega) HDA.out (by omega) (by omega) HROOM.out H4.out.s).mono ?_
    rintro e w5 ⟨rfl, own', hd5, ht5⟩
    have H5 := Lib.hid (H4.out.disk hd5 ht5)
    have HT5 := Lib.hid (HT4.out.trans (turn_with ht5 tb))
    have HRD5 := Lib.hid (show Ready w5 tb from by
      obtain ⟨cs, hb, hr⟩ := HRD4.out
      exact ⟨cs, blk_of_block hb (ht5.block tb hb.lt H4.out.n), hr⟩)
    clear hd5 ht5
    go_wp2
    go_ret
    exact ⟨rfl, own', H5.out, HT5.out, fun _ => HRD5.out⟩
theorem save_any {w : World} {B b tb : Nat} {S : St} {own : Nat → Prop} (h : SAt w B b tb S own) (a0 a1 a2 a3 a4 a5 a6 : Int) (hroom : ∀ i, (S.ver i).length < 549755813888) :
    Calls Tryz.prog 92 #[.pointer (some ⟨b, 0, none⟩), .pointer (some ⟨tb, 0, none⟩), .agg #[.int .i64 a0, .int .i64 a1, .int .i64 a2, .int .i64 a3, .int .i64 a4, .int .i64 a5, .int .i64 a6]] w fun e w' =>
      e = .returned (.int .i64 (saveE S [a0, a1, a2, a3, a4, a5, a6]).1) ∧ ∃ own', SAt w' B b tb (saveE S [a0, a1, a2, a3, a4, a5, a6]).2 own' ∧ Turn w w' (With own tb) (With own' tb) :=
  (save_any_r h a0 a1 a2 a3 a4 a5 a6 hroom).mono fun _ _ ⟨h1, own', h2, h3, _⟩ => ⟨h1, own', h2, h3⟩
end Go.Proofs.YteaokeiolgjhaaaGreat.Sup
/- A log in memory; images and records in memory. No program's function is named. -/
namespace Go.Proofs.YteaokeiolgjhaaaGreat.Log
open Go.RowKit CrcMath CodecMath Mem Crc Codec DiskSpec Dsk Sup

/-! ### A log -/
/-- A log's cells: its disk stands at block b, its table at block tb. -/
def Lg.cs (L : Lg) (b tb : Nat) : Array Value :=
  #[.pointer (some ⟨b, 0, none⟩), .pointer (some ⟨tb, 0, none⟩), .int .i64 L.g, .int .i64 (L.ep : Nat), .int .i64 L.pg, .int .i64 (L.st : Nat), .int .i64 (L.ln : Nat), .int .i64 (L.hd : Nat), .int .i64 (L.sq : Nat),
    .int .i64 (L.tail : Nat), .int .i64 (L.seq : Nat), .int .i64 (L.taken : Nat), .bool L.broken]
/-- A log at block g. -/
def LBlk (w : World) (g : Nat) (L : Lg) (b tb : Nat) : Prop := Blk w g 207 (L.cs b tb)
section
variable {w w' : World} {g b tb : Nat} {L : Lg}
theorem LBlk.cells (h : LBlk w g L b tb) :
    w.cell? ⟨g, 0, none⟩ = some (.pointer (some ⟨b, 0, none⟩)) ∧ w.cell? ⟨g, 1, none⟩ = some (.pointer (some ⟨tb, 0, none⟩)) ∧ w.cell? ⟨g, 3, none⟩ = some (.int .i64 (L.ep : Nat)) ∧
    w.cell? ⟨g, 5, none⟩ = some (.int .i64 (L.st : Nat)) ∧ w.cell? ⟨g, 6, none⟩ = some (.int .i64 (L.ln : Nat)) ∧
    w.cell? ⟨g, 9, none⟩ = some (.int .i64 (L.tail : Nat)) ∧ w.cell? ⟨g, 10, none⟩ = some (.int .i64 (L.seq : Nat)) ∧ w.cell? ⟨g, 11, none⟩ = some (.int .i64 (L.taken : Nat)) ∧ w.cell? ⟨g, 12, none⟩ = some (.bool L.broken) :=
  ⟨Blk.cell h 0, Blk.cell h 1, Blk.cell h 3, Blk.cell h 5, Blk.cell h 6, Blk.cell h 9, Blk.cell h 10, Blk.cell h 11, Blk.cell h 12⟩
theorem LBlk.fz (h : LBlk w g L b tb) (i : Nat) : w.frozen? ⟨g, i, none⟩ = false := Blk.frozen h i
theorem LBlk.lt (h : LBlk w g L b tb) : g < w.heap.size := Blk.lt h
theorem LBlk.grown (h : LBlk w g L b tb) {row : Option Nat} (hg : w.grownBy w' row) (hr : some g ≠ row) : LBlk w' g L b tb := Blk.grown h hg hr
theorem LBlk.drew (h : LBlk w g L b tb) : LBlk w.drew g L b tb := h
theorem LBlk.drewN (h : LBlk w g L b tb) (n : Nat) : LBlk (w.drewN n) g L b tb := h
theorem LBlk.block (h : LBlk w g L b tb) (hk : w'.heap[g]? = w.heap[g]?) : LBlk w' g L b tb := hk.trans h
theorem LBlk.pass (h : LBlk w g L b tb) (k : Nat) {p t q : Int} (hp : p = ((L.tail + k) % L.ln : Nat)) (ht : t = (L.taken + k : Nat)) (hq : q = (L.seq + 1 : Nat)) :
    LBlk (((w.setCell ⟨g, 9, none⟩ (.int .i64 p)).setCell ⟨g, 11, none⟩ (.int .i64 t)).setCell ⟨g, 10, none⟩ (.int .i64 q)) g (L.pass k) b tb := by
  subst hp ht hq
  exact ((Blk.set_ h 9 _).set_ 11 _).set_ 10 _
theorem LBlk.drop (h : LBlk w g L b tb) : LBlk ((w.setCell ⟨g, 11, none⟩ (.int .i64 0)).setCell ⟨g, 12, none⟩ (.bool false)) g L.drop b tb := (Blk.set_ h 11 _).set_ 12 _
theorem LBlk.fail (h : LBlk w g L b tb) {q : Int} (hq : q = (L.seq + 1 : Nat)) : LBlk ((w.setCell ⟨g, 10, none⟩ (.int .i64 q)).setCell ⟨g, 12, none⟩ (.bool true)) g L.fail b tb := by
  subst hq
  exact (Blk.set_ h 10 _).set_ 12 _
end

/-! ### Data outside a set of blocks -/
theorem data_bytes {w : World} {P : Nat → Prop} {A : Option Addr} {n : Nat} {l : List Nat} (h : Dsk.Data w P A n l) {b : Nat} (hb : P b) : Bytes w b A n l := by
  refine ⟨h.1, h.2.1, fun hn => ?_⟩
  obtain ⟨g, o, e, hlt, hno, hc⟩ := h.2.2 hn
  exact ⟨g, o, e, hlt, fun e2 => hno (e2 ▸ hb), hc⟩
theorem data_weak {w : World} {P Q : Nat → Prop} {A : Option Addr} {n : Nat} {l : List Nat} (h : Dsk.Data w P A n l) (hq : ∀ i, i < w.heap.size → Q i → P i) : Dsk.Data w Q A n l := by
  refine ⟨h.1, h.2.1, fun hn => ?_⟩
  obtain ⟨g, o, e, hlt, hno, hc⟩ := h.2.2 hn
  exact ⟨g, o, e, hlt, fun e2 => hno (hq g hlt e2), hc⟩
/-- A body's slice. -/
def BodyAt (w : World) (P : Nat → Prop) (v : Value) (l : List Nat) : Prop := ∃ A n c, v = .slice A n c ∧ n ≤ c ∧ Dsk.Data w P A n l
theorem BodyAt.turn {w w' : World} {P P' : Nat → Prop} {v : Value} {l : List Nat} (h : BodyAt w P v l) (ht : Turn w w' P P') : BodyAt w' P' v l := by
  obtain ⟨A, n, c, h1, h2, h4⟩ := h
  exact ⟨A, n, c, h1, h2, Dsk.Data.turn h4 ht⟩
theorem BodyAt.weak {w : World} {P Q : Nat → Prop} {v : Value} {l : List Nat} (h : BodyAt w P v l) (hq : ∀ i, i < w.heap.size → Q i → P i) : BodyAt w Q v l := by
  obtain ⟨A, n, c, h1, h2, h4⟩ := h
  exact ⟨A, n, c, h1, h2, data_weak h4 hq⟩
/-- The cells of images, each with its body's slice. -/
def imC (V : List (Img × Value)) : List Value := V.flatMap fun p => [.int .i64 p.1.1, .int .i64 p.1.2.1, p.2]
theorem imC_snoc (V : List (Img × Value)) (p : Img × Value) : imC (V ++ [p]) = imC V ++ [.int .i64 p.1.1, .int .i64 p.1.2.1, p.2] := by simp [imC]
theorem imC_len (V : List (Img × Value)) : (imC V).length = 3 * V.length := by
  induction V with
  | nil => rfl
  | cons a V ih =>
    have e : imC (a :: V) = [.int .i64 a.1.1, .int .i64 a.1.2.1, a.2] ++ imC V := rfl
    rw [e, List.length_append, ih, List.length_cons, List.length_cons, List.length_cons, List.length_cons, List.length_nil]
    omega
theorem imC_at : ∀ (V : List (Img × Value)) (j : Nat) (p : Img × Value), V[j]? = some p → (imC V)[j * 3]? = some (.int .i64 p.1.1) ∧ (imC V)[j * 3 + 1]? = some (.int .i64 p.1.2.1) ∧ (imC V)[j * 3 + 2]? = some p.2
  | [], j, p, h => by simp at h
  | a :: V, 0, p, h => by
    simp at h
    subst h
    exact ⟨rfl, rfl, rfl⟩
  | a :: V, j + 1, p, h => by
    have e : imC (a :: V) = [.int .i64 a.1.1, .int .i64 a.1.2.1, a.2] ++ imC V := rfl
    have hl : ([.int .i64 a.1.1, .int .i64 a.1.2.1, a.2] : List Value).length = 3 := rfl
    obtain ⟨h1, h2, h3⟩ := imC_at V j p (by simpa using h)
    rw [e]
    refine ⟨?_, ?_, ?_⟩
    · rw [List.getElem?_append_right (by rw [hl]; omega), hl, show (j + 1) * 3 - 3 = j * 3 from by omega]; exact h1
    · rw [List.getElem?_append_right (by rw [hl]; omega), hl, show (j + 1) * 3 + 1 - 3 = j * 3 + 1 from by omega]; exact h2
    · rw [List.getElem?_append_right (by rw [hl]; omega), hl, show (j + 1) * 3 + 2 - 3 = j * 3 + 2 from by omega]; exact h3
/-- A slice of images outside P. -/
def Imgs (w : World) (P : Nat → Prop) (A : Option Addr) (n : Nat) (l : List Img) : Prop :=
  ∃ V : List (Img × Value), V.map (·.1) = l ∧ l.length = n ∧ (0 < n → ∃ g o, A = some ⟨g, o, none⟩ ∧ g < w.heap.size ∧ ¬ P g ∧ ∀ j u, (imC V)[j]? = some u → w.cell? ⟨g, o + j, none⟩ = some u) ∧ ∀ p ∈ V, BodyAt w P p.2 p.1.2.2
section
variable {w w' : World} {P P' Q : Nat → Prop} {A : Option Addr} {n : Nat} {l : List Img}
theorem Imgs.nil (w : World) (P : Nat → Prop) (A : Option Addr) : Imgs w P A 0 [] := ⟨[], rfl, rfl, fun h => by omega, by simp⟩
theorem Imgs.len (h : Imgs w P A n l) : l.length = n := by obtain ⟨_, _, h, _⟩ := h; exact h
theorem Imgs.turn (h : Imgs w P A n l) (ht : Turn w w' P P') : Imgs w' P' A n l := by
  obtain ⟨V, h1, h2, h3, h4⟩ := h
  refine ⟨V, h1, h2, fun hn => ?_, fun p hp => (h4 p hp).turn ht⟩
  obtain ⟨g, o, e, hlt, hno, hc⟩ := h3 hn
  refine ⟨g, o, e, Nat.lt_of_lt_of_le hlt ht.size, fun h5 => ?_, fun j u hu => ?_⟩
  · rcases ht.fresh g h5 with h6 | h6
    · exact hno h6
    · omega
  · rw [World.cell?_of_block (a := ⟨g, o + j, none⟩) (ht.block g hlt hno)]
    exact hc j u hu
theorem Imgs.weak (h : Imgs w P A n l) (hq : ∀ i, i < w.heap.size → Q i → P i) : Imgs w Q A n l := by
  obtain ⟨V, h1, h2, h3, h4⟩ := h
  refine ⟨V, h1, h2, fun hn => ?_, fun p hp => (h4 p hp).weak hq⟩
  obtain ⟨g, o, e, hlt, hno, hc⟩ := h3 hn
  exact ⟨g, o, e, hlt, fun h5 => hno (hq g hlt h5), hc⟩
theorem Imgs.at_ (h : Imgs w P A n l) {j : Nat} (hj : j < n) : ∃ g o x B m c, A = some ⟨g, o, none⟩ ∧ g < w.heap.size ∧ ¬ P g ∧ l[j]? = some x ∧ w.cell? ⟨g, o + j * 3, none⟩ = some (.int .i64 x.1) ∧ w.cell? ⟨g, o + j * 3 + 1, none⟩ = some (.int .i64 x.2.1) ∧
    w.cell? ⟨g, o + j * 3 + 2, none⟩ = some (.slice B m c) ∧ m ≤ c ∧ Dsk.Data w P B m x.2.2 := by
  obtain ⟨V, h1, h2, h3, h4⟩ := h
  obtain ⟨g, o, e, hlt, hno, hc⟩ := h3 (by omega)
  have hjV : j < V.length := by rw [← h1] at h2; simp at h2; omega
  obtain ⟨c0, c1, c2⟩ := imC_at V j V[j] (List.getElem?_eq_getElem hjV)
  obtain ⟨B, m, c, e2, hm, hd⟩ := h4 V[j] (List.getElem_mem hjV)
  refine ⟨g, o, V[j].1, B, m, c, e, hlt, hno, ?_, hc _ _ c0, hc _ _ c1, ?_, hm, hd⟩
  · rw [← h1, List.getElem?_map, List.getElem?_eq_getElem hjV]; rfl
  · rw [← e2]; exact hc _ _ c2
end
/-- P, and all blocks from B on. -/
def From (P : Nat → Prop) (B : Nat) : Nat → Prop := fun i => P i ∨ B ≤ i
theorem Imgs.from_ {w : World} {P : Nat → Prop} {A : Option Addr} {n : Nat} {l : List Img} (h : Imgs w P A n l) (B : Nat) (hB : w.heap.size ≤ B) : Imgs w (From P B) A n l :=
  h.weak (fun i hi hq => by
    rcases hq with hq | hq
    · exact hq
    · omega)
/-- A row of the call's own is a slice of images outside a set that it does not reach. -/
theorem imgs_of_own {w : World} {base n : Nat} {P : Nat → Prop} {A : Option Addr} {m c : Nat} {V : List (Img × Value)} (h : Own w base 109 3 (.slice A m c) n (imC V)) (hV : V.length = n) (hb : ∀ i, base ≤ i → i < w.heap.size → ¬ P i) (hl : ∀ p ∈ V, BodyAt w P p.2 p.1.2.2) :
    Imgs w P A n (V.map (·.1)) := by
  refine ⟨V, rfl, by simpa using hV, fun hn => ?_, hl⟩
  obtain ⟨g, cap, e, hg, hlt, _, _, hc⟩ := h.reads hn
  have hA : A = some ⟨g, 0, none⟩ := by injection e
  exact ⟨g, 0, hA, hlt, hb g hg hlt, fun j u hu => by rw [Nat.zero_add]; exact hc j u hu⟩
theorem image_info : (Tryz.prog.info? 109).map (fun i => (i.zero, i.size, i.bytes)) = some (some (.agg #[.int .i64 0, .int .i64 0, .slice none 0 0]), 3, 40) := by kernel_rfl
theorem reads_one_img (w : World) (a0 a1 a2 : Value) : Reads (w.alloc (.cells #[a0, a1, a2] 109)) (w.heap.size + 1) 3 (some ⟨w.heap.size, 0, none⟩) 1 [a0, a1, a2] := by
  refine ⟨rfl, fun _ => ⟨_, rfl, by simp, fun j u hu => ?_⟩⟩
  have hb := (Blk.new w 109 #[a0, a1, a2]).cell j
  have e1 : (⟨w.heap.size, 0, none⟩ : Addr).add j = ⟨w.heap.size, j, none⟩ := by unfold Addr.add; split <;> simp_all
  rw [e1, hb]
  simpa using hu

/-! ### A log on a disk, beside a table -/
/-- What a log's calls may turn. -/
def With2 (own : Nat → Prop) (tb g : Nat) : Nat → Prop := fun i => With own tb i ∨ i = g
structure LAt (w : World) (B b tb g : Nat) (S : St) (own : Nat → Prop) (L : Lg) : Prop where
  s : SAt w B b tb S own
  l : LBlk w g L b tb
  o : ¬ With own tb g
  k : L.ok S.n
section
variable {w w' w1 : World} {B b tb g : Nat} {S S' : St} {own own' : Nat → Prop} {L L' : Lg}
theorem turn_log (h : Turn w w' (With own tb) (With own' tb)) (g : Nat) : Turn w w' (With2 own tb g) (With2 own' tb g) :=
  ⟨h.os, h.tape, h.output, h.size, fun i hi hn => h.block i hi (fun e => hn (.inl e)), fun i hi => by
    rcases hi with hi | rfl
    · rcases h.fresh i hi with h1 | h1
      · exact .inl (.inl h1)
      · exact .inr h1
    · exact .inl (.inr rfl)⟩
theorem turn_logblk (h : w.grownBy w' (some g)) : Turn w w' (With2 own tb g) (With2 own tb g) := .of_grown h (fun j e => by cases e; exact .inr rfl)
theorem turn_tab2 (h : w.grownBy w' (some tb)) : Turn w w' (With2 own tb g) (With2 own tb g) := .of_grown h (fun j e => by cases e; exact .inl (.inr rfl))
theorem LAt.ne (h : LAt w B b tb g S own L) : g ≠ tb := fun e => h.o (.inr e)
theorem LAt.quiet (h : LAt w B b tb g S own L) (hg : w.grownBy w' none) : LAt w' B b tb g S own L := ⟨h.s.quiet hg, h.l.grown hg (by simp), h.o, h.k⟩
theorem LAt.table (h : LAt w B b tb g S own L) (hg : w.grownBy w' (some tb)) (ht : Tab w' tb) : LAt w' B b tb g S own L := ⟨h.s.table hg ht, h.l.grown hg (by simpa using h.ne), h.o, h.k⟩
theorem LAt.disk (h : LAt w B b tb g S own L) (hd : DAt w' B b S' own') (ht : Turn w w' own own') (hn : S'.n = S.n) : LAt w' B b tb g S' own' L :=
  ⟨h.s.disk hd ht, h.l.block (ht.block g h.l.lt (fun e => h.o (.inl e))), fun ho => by
    rcases ho with ho | ho
    · rcases ht.fresh g ho with h1 | h1
      · exact h.o (.inl h1)
      · have := h.l.lt; omega
    · exact h.ne ho, hn ▸ h.k⟩
/-- The log's own cells are written. -/
theorem LAt.log (h : LAt w B b tb g S own L) (hg : w.grownBy w' (some g)) (hl : LBlk w' g L' b tb) (hk : L'.ok S.n) : LAt w' B b tb g S own L' :=
  ⟨h.s.far hg (fun e => h.o (.inl e)) (fun e => h.ne e.symm), hl, h.o, hk⟩
theorem LAt.own_lt (h : LAt w B b tb g S own L) {i : Nat} (hi : With2 own tb g i) : i < w.heap.size := by
  rcases hi with (hi | rfl) | rfl
  · exact h.s.own_lt hi
  · exact tab_lt h.s.t
  · exact h.l.lt
end
end Go.Proofs.YteaokeiolgjhaaaGreat.Log
