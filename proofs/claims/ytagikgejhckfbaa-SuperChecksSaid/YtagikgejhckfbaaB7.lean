/- Shared texts of this seat's proofs: SupSave, CodecSuperGet, SupBoth, SupLoad. -/
import Derived.Test.YtagikgejhckfbaaB6
import Derived.Deep.RegionHeld3
import Derived.Deep.QuietTactic
import Derived.BigQuiet
/- A disk beside a table of sums; Save of package super. -/
namespace Go.Proofs.Ytagikgejhckfbaa.Sup
open Go.RowKit CrcMath CodecMath Mem Crc Codec DiskSpec Dsk

/-- A footprint, and one block more. -/
def With (own : Nat → Prop) (tb : Nat) : Nat → Prop := fun i => own i ∨ i = tb
section
variable {w w' w1 : World} {own own' : Nat → Prop} {tb B b : Nat} {S S' : St}
theorem turn_with (h : Turn w w' own own') (tb : Nat) : Turn w w' (With own tb) (With own' tb) :=
  ⟨h.os, h.tape, h.output, h.size, fun i hi hn => h.block i hi (fun e => hn (.inl e)), fun i hi => by
    rcases hi with hi | rfl
    · rcases h.fresh i hi with h1 | h1
      · exact .inl (.inl h1)
      · exact .inr h1
    · exact .inl (.inr rfl)⟩
theorem turn_table (h : w.grownBy w' (some tb)) : Turn w w' (With own tb) (With own tb) := .of_grown h (fun j e => by cases e; exact .inr rfl)
theorem turn_later {g : Nat} {o o' : Nat → Prop} (h : Turn w w1 o o') (hg : w1.grownBy w' (some g)) (hge : w.heap.size ≤ g) : Turn w w' o o' :=
  ⟨hg.os.trans h.os, hg.tape.trans h.tape, hg.output.trans h.output, Nat.le_trans h.size hg.size,
    fun i hi hn => (hg.block i (Nat.lt_of_lt_of_le hi h.size) (by simp; omega)).trans (h.block i hi hn), h.fresh⟩
theorem dat_grown (h : DAt w B b S own) {row : Option Nat} (hg : w.grownBy w' row) (hr : ∀ j, row = some j → ¬ own j) : DAt w' B b S own := by
  obtain ⟨bd, bm, f, h⟩ := h
  exact ⟨bd, bm, f, h.grown hg hr⟩
theorem tab_of_block (h : Tab w tb) (hk : w'.heap[tb]? = w.heap[tb]?) : Tab w' tb := by
  rcases h with ⟨cs, hb, hf⟩ | ⟨cs, hb, hf⟩
  · exact .inl ⟨cs, blk_of_block hb hk, hf⟩
  · exact .inr ⟨cs, blk_of_block hb hk, hf⟩
theorem tab_lt (h : Tab w tb) : tb < w.heap.size := by
  rcases h with ⟨_, h, _⟩ | ⟨_, h, _⟩ <;> exact h.lt

/-- A disk at block b, a table of sums at block tb beside it. -/
structure SAt (w : World) (B b tb : Nat) (S : St) (own : Nat → Prop) : Prop where
  d : DAt w B b S own
  t : Tab w tb
  n : ¬ own tb
  s : B ≤ w.heap.size
theorem SAt.quiet (h : SAt w B b tb S own) (hg : w.grownBy w' none) : SAt w' B b tb S own :=
  ⟨dat_grown h.d hg (fun _ e => by cases e), tab_keep h.t hg (by simp), h.n, Nat.le_trans h.s hg.size⟩
theorem SAt.table (h : SAt w B b tb S own) (hg : w.grownBy w' (some tb)) (ht : Tab w' tb) : SAt w' B b tb S own :=
  ⟨dat_grown h.d hg (fun j e => by cases e; exact h.n), ht, h.n, Nat.le_trans h.s hg.size⟩
theorem SAt.disk (h : SAt w B b tb S own) (hd : DAt w' B b S' own') (ht : Turn w w' own own') : SAt w' B b tb S' own' :=
  ⟨hd, tab_of_block h.t (ht.block tb (tab_lt h.t) h.n), fun ho => by
    rcases ht.fresh tb ho with h1 | h1
    · exact h.n h1
    · have := tab_lt h.t; omega, Nat.le_trans h.s ht.size⟩
/-- Another block is written. -/
theorem SAt.far (h : SAt w B b tb S own) {g : Nat} (hg : w.grownBy w' (some g)) (h1 : ¬ own g) (h2 : tb ≠ g) : SAt w' B b tb S own :=
  ⟨dat_grown h.d hg (fun j e => by cases e; exact h1), tab_keep h.t hg (by simpa using h2), h.n, Nat.le_trans h.s hg.size⟩
theorem SAt.own_lt (h : SAt w B b tb S own) {i : Nat} (hi : own i) : i < w.heap.size := by
  obtain ⟨_, _, _, hd⟩ := h.d
  exact hd.lt i hi
theorem SAt.low (h : SAt w B b tb S own) {i : Nat} (hi : own i) : B ≤ i := by
  obtain ⟨_, _, _, hd⟩ := h.d
  exact hd.low i hi
theorem SAt.ok (h : SAt w B b tb S own) : S.ok := by
  obtain ⟨_, _, _, hd⟩ := h.d
  exact hd.ok
theorem SAt.size (h : SAt w B b tb S own) : Calls Try.prog 20 #[.pointer (some ⟨b, 0, none⟩)] w fun e w' => e = .returned (.int .i64 (S.n : Nat)) ∧ w = w' := by
  obtain ⟨_, _, _, hd⟩ := h.d
  exact disk_size hd
theorem data_of_blk {g : Nat} {t : TypeId} {l : List Nat} (h : Blk w g t (u8s l).toArray) (hl : ∀ x ∈ l, x < 256) (hn : ¬ own g) : Dsk.Data w own (some ⟨g, 0, none⟩) l.length l := by
  refine ⟨rfl, hl, fun _ => ⟨g, 0, rfl, h.lt, hn, fun j hj => ?_⟩⟩
  rw [Nat.zero_add, h.cell, List.getElem?_toArray, u8s_at l j hj]
end

theorem tmod2 (a : Int) : -1 ≤ a.tmod 2 ∧ a.tmod 2 ≤ 1 := by
  rcases Int.le_total 0 a with h | h
  · rw [Int.tmod_eq_emod_of_nonneg h]; omega
  · have : a.tmod 2 = -((-a).tmod 2) := by rw [Int.neg_tmod, Int.neg_neg]
    rw [this, Int.tmod_eq_emod_of_nonneg (by omega)]; omega
set_option maxRecDepth 100000 in
set_option maxHeartbeats 3200000 in
theorem save_any {w : World} {B b tb : Nat} {S : St} {own : Nat → Prop} (h : SAt w B b tb S own) (a0 a1 a2 a3 a4 a5 a6 : Int) (hroom : ∀ i, (S.ver i).length < 549755813888) :
    Calls Try.prog 11 #[.pointer (some ⟨b, 0, none⟩), .pointer (some ⟨tb, 0, none⟩), .agg #[.int .i64 a0, .int .i64 a1, .int .i64 a2, .int .i64 a3, .int .i64 a4, .int .i64 a5, .int .i64 a6]] w fun e w' =>
      e = .returned (.int .i64 (saveE S [a0, a1, a2, a3, a4, a5, a6]).1) ∧ ∃ own', SAt w' B b tb (saveE S [a0, a1, a2, a3, a4, a5, a6]).2 own' ∧ Turn w w' (With own tb) (With own' tb) := by
  have hbk := Blk.new w 23 #[.int .i64 a0, .int .i64 a1, .int .i64 a2, .int .i64 a3, .int .i64 a4, .int .i64 a5, .int .i64 a6]
  have hg0 := World.grownBy_alloc w (.cells #[.int .i64 a0, .int .i64 a1, .int .i64 a2, .int .i64 a3, .int .i64 a4, .int .i64 a5, .int .i64 a6] 23) none
  have HROOM := Lib.hid hroom
  have H0 := Lib.hid h
  have hkeep : ∀ wx, (w.alloc (.cells #[.int .i64 a0, .int .i64 a1, .int .i64 a2, .int .i64 a3, .int .i64 a4, .int .i64 a5, .int .i64 a6] 23)).grownBy wx none →
      wx.cell? ⟨w.heap.size, 0, none⟩ = some (.int .i64 a0) ∧ wx.cell? ⟨w.heap.size, 1, none⟩ = some (.int .i64 a1) ∧ wx.cell? ⟨w.heap.size, 2, none⟩ = some (.int .i64 a2) ∧ wx.cell? ⟨w.heap.size, 3, none⟩ = some (.int .i64 a3) ∧ wx.cell? ⟨w.heap.size, 4, none⟩ = some (.int .i64 a4) ∧ wx.cell? ⟨w.heap.size, 5, none⟩ = some (.int .i64 a5) ∧ wx.cell? ⟨w.heap.size, 6, none⟩ = some (.int .i64 a6) := by
    intro wx hg
    have hb := hbk.grown hg (by simp)
    exact ⟨by rw [hb.cell]; rfl, by rw [hb.cell]; rfl, by rw [hb.cell]; rfl, by rw [hb.cell]; rfl, by rw [hb.cell]; rfl, by rw [hb.cell]; rfl, by rw [hb.cell]; rfl⟩
  have HKEEP := Lib.hid hkeep
  have HSZ := Lib.hid (fun wx (hg : (w.alloc (.cells #[.int .i64 a0, .int .i64 a1, .int .i64 a2, .int .i64 a3, .int .i64 a4, .int .i64 a5, .int .i64 a6] 23)).grownBy wx none) => (h.quiet (hg0.trans hg)).size)
  have HD0 := Lib.hid (grown_drew (w.alloc (.cells #[.int .i64 a0, .int .i64 a1, .int .i64 a2, .int .i64 a3, .int .i64 a4, .int .i64 a5, .int .i64 a6] 23)) none)
  have HG0 := Lib.hid hg0
  have HCK := Lib.hid (fun wx => check_any a0 a1 a2 a3 a4 a5 a6 (S.n : Int) wx)
  have HSV := Lib.hid (show saveE S [a0, a1, a2, a3, a4, a5, a6] = if mayB [a0, a1, a2, a3, a4, a5, a6] S.n then writeE S true (a0.tmod 2) (frame (superB [a0, a1, a2, a3, a4, a5, a6])) else (1, S) from rfl)
  have hck : checkE [a0, a1, a2, a3, a4, a5, a6] (S.n : Int) = if mayB [a0, a1, a2, a3, a4, a5, a6] S.n then 0 else 1 := rfl
  clear hbk hg0 hkeep h hroom
  cases hm : mayB [a0, a1, a2, a3, a4, a5, a6] S.n with
  | false =>
    rw [hm] at HSV hck
    rw [hck] at HCK
    rw [HSV.out]
    clear hck hm HSV
    generalize hn : (S.n : Int) = n at *
    go_enter Try.func11, Try.ntmps11
    go_wp2_with fail
    go_region_held3 (fun wx => wx.cell? ⟨w.heap.size, 0, none⟩ = some (.int .i64 a0) ∧ wx.cell? ⟨w.heap.size, 1, none⟩ = some (.int .i64 a1) ∧ wx.cell? ⟨w.heap.size, 2, none⟩ = some (.int .i64 a2) ∧ wx.cell? ⟨w.heap.size, 3, none⟩ = some (.int .i64 a3) ∧ wx.cell? ⟨w.heap.size, 4, none⟩ = some (.int .i64 a4) ∧ wx.cell? ⟨w.heap.size, 5, none⟩ = some (.int .i64 a5) ∧ wx.cell? ⟨w.heap.size, 6, none⟩ = some (.int .i64 a6))
      (first
        | exact HKEEP.out _ HD0.out
        | exact HKEEP.out _ HG1.out)
      (first
        | (go_at_call 20
           refine (HSZ.out _ HD0.out).mono ?_
           rintro e w1 ⟨rfl, rfl⟩)
        | (go_at_call 6
           refine (HCK.out _).mono ?_
           rintro e w2 ⟨rfl, hg⟩
           have HG1 := Lib.hid (HD0.out.trans hg)
           clear hg))
    go_wp2
    go_ret
    exact ⟨rfl, own, H0.out.quiet (HG0.out.trans HG1.out), Turn.none_ (HG0.out.trans HG1.out)⟩
  | true =>
    have HM := Lib.hid hm
    rw [hm] at HSV hck
    rw [hck] at HCK
    rw [HSV.out]
    clear hck hm HSV
    rw [if_pos rfl] at *
    generalize hn : (S.n : Int) = n at *
    have hlen := superW_len (s := [a0, a1, a2, a3, a4, a5, a6]) rfl (superW_may HM.out)
    have HLEN := Lib.hid hlen
    have HN := Lib.hid hn
    have HW := Lib.hid (superW_may HM.out)
    clear hlen hn
    generalize frame (superB [a0, a1, a2, a3, a4, a5, a6]) = L at *
    go_enter Try.func11, Try.ntmps11
    go_wp2_with fail
    go_region_held3 (fun wx => wx.cell? ⟨w.heap.size, 0, none⟩ = some (.int .i64 a0) ∧ wx.cell? ⟨w.heap.size, 1, none⟩ = some (.int .i64 a1) ∧ wx.cell? ⟨w.heap.size, 2, none⟩ = some (.int .i64 a2) ∧ wx.cell? ⟨w.heap.size, 3, none⟩ = some (.int .i64 a3) ∧ wx.cell? ⟨w.heap.size, 4, none⟩ = some (.int .i64 a4) ∧ wx.cell? ⟨w.heap.size, 5, none⟩ = some (.int .i64 a5) ∧ wx.cell? ⟨w.heap.size, 6, none⟩ = some (.int .i64 a6))
      (first
        | exact HKEEP.out _ HD0.out
        | exact HKEEP.out _ HG1.out)
      (first
        | (go_at_call 20
           refine (HSZ.out _ HD0.out).mono ?_
           rintro e w1 ⟨rfl, rfl⟩)
        | (go_at_call 6
           refine (HCK.out _).mono ?_
           rintro e w2 ⟨rfl, hg⟩
           have HG1 := Lib.hid (HD0.out.trans hg)
           clear hg))
    obtain ⟨x0, x1, x2, x3, x4, x5, x6⟩ := HKEEP.out _ HG1.out
    have hlt1 : w.heap.size < w2.heap.size := by have := HG1.out.size; simp at this; omega
    have HG01 := Lib.hid (HG0.out.trans HG1.out)
    have H1 := Lib.hid (H0.out.quiet HG01.out)
    go_wp2_with fail
    refine (put_super_core tb (some tb) a0 a1 a2 a3 a4 a5 a6 _ (.inr ⟨H1.out.t, rfl⟩)).mono ?_
    rintro e w3 ⟨hg3, ⟨l, g, ho, rfl, hge, hb3, hl3, hr3⟩ | ⟨ho, _⟩⟩
    case inr => rw [HW.out] at ho; cases ho
    rw [HW.out] at ho
    obtain rfl : L = l := by injection ho
    clear ho
    have hne : w.heap.size ≠ tb := fun e => by have := tab_lt H0.out.t; omega
    obtain ⟨y0, y1, y2, y3, y4, y5, y6⟩ : w3.cell? ⟨w.heap.size, 0, none⟩ = some (.int .i64 a0) ∧ w3.cell? ⟨w.heap.size, 1, none⟩ = some (.int .i64 a1) ∧ w3.cell? ⟨w.heap.size, 2, none⟩ = some (.int .i64 a2) ∧ w3.cell? ⟨w.heap.size, 3, none⟩ = some (.int .i64 a3) ∧ w3.cell? ⟨w.heap.size, 4, none⟩ = some (.int .i64 a4) ∧ w3.cell? ⟨w.heap.size, 5, none⟩ = some (.int .i64 a5) ∧ w3.cell? ⟨w.heap.size, 6, none⟩ = some (.int .i64 a6) := by
      have hk : ∀ o, w3.cell? ⟨w.heap.size, o, none⟩ = w2.cell? ⟨w.heap.size, o, none⟩ := fun o => World.cell?_of_block (hg3.block _ hlt1 (by simpa using hne))
      exact ⟨(hk 0).trans x0, (hk 1).trans x1, (hk 2).trans x2, (hk 3).trans x3, (hk 4).trans x4, (hk 5).trans x5, (hk 6).trans x6⟩
    have HT3 := Lib.hid ((turn_table (own := own) (grown_any_row HG01.out (some tb))).trans (turn_table hg3))
    have H3 := Lib.hid (H1.out.table hg3 (.inr hr3))
    have HB3 := Lib.hid hb3; have HL3 := Lib.hid hl3; have HGE := Lib.hid hge
    clear x0 x1 x2 x3 x4 x5 x6 hg3 hb3 hl3 hr3 hge
    rw [HLEN.out]
    go_wp2_with fail
    refine (place_any a0 a1 a2 a3 a4 a5 a6 _).mono ?_
    rintro e w4 ⟨rfl, hg4⟩
    have hb4 := HB3.out.grown hg4 (by simp)
    have hno : ¬ own g := fun ho => by have := H1.out.own_lt ho; have := HGE.out; omega
    have HDA := Lib.hid (data_of_blk hb4 HL3.out hno)
    have H4 := Lib.hid (H3.out.quiet hg4)
    have HT4 := Lib.hid (HT3.out.trans (Turn.none_ hg4))
    rw [HLEN.out] at HDA
    clear hg4 hb4 hno y0 y1 y2 y3 y4 y5 y6
    go_wp2_with fail
    refine (disk_write_all H4.out.d (a0.tmod 2) _ 256 256 L true (by have := tmod2 a0; omega) HDA.out (by omega) (by omega) HROOM.out H4.out.s).mono ?_
    rintro e w5 ⟨rfl, own', hd5, ht5⟩
    have H5 := Lib.hid (H4.out.disk hd5 ht5)
    have HT5 := Lib.hid (HT4.out.trans (turn_with ht5 tb))
    clear hd5 ht5
    go_wp2
    go_ret
    exact ⟨rfl, own', H5.out, HT5.out⟩
end Go.Proofs.Ytagikgejhckfbaa.Sup
/- The project's GetSuper. -/
namespace Go.Proofs.Ytagikgejhckfbaa.Codec
open Go.RowKit CrcMath CodecMath Mem Crc

/-- Where a reader stands: the cursor in p over the array g, the record that it fills in U. -/
structure Rd (w W : World) (p g U k n : Nat) (t tU : TypeId) (L : List Nat) (cs : Array Value) : Prop where
  grown : w.grownBy W none
  cur : Cur W p g k n
  arr : Blk W g t (u8s L).toArray
  box : Blk W U tU cs
  hp : w.heap.size ≤ p
  hg : w.heap.size ≤ g
  hU : w.heap.size ≤ U
  pu : p ≠ U
  gu : g ≠ U
  pg : p ≠ g
/-- One more number is read, and laid into the record. -/
theorem Rd.step {w W W1 : World} {p g U k n k' n' : Nat} {t tU : TypeId} {L : List Nat} {cs : Array Value} (h : Rd w W p g U k n t tU L cs) (hr : W.grownBy W1 (some p)) (hc : Cur W1 p g k' n') (i : Nat) (v : Value) :
    Rd w (W1.setCell ⟨U, i, none⟩ v) p g U k' n' t tU L (cs.setIfInBounds i v) where
  grown := grown_set (grownBy_new h.grown hr (fun j hj => by cases hj; exact h.hp)) h.hU v
  cur := by obtain ⟨k0, hb, hk⟩ := hc; exact ⟨k0, hb.far h.pu v, hk⟩
  arr := (h.arr.grown hr (by simpa using fun e => h.pg e.symm)).far h.gu v
  box := (h.box.grown hr (by simpa using fun e => h.pu e.symm)).set_ i v
  hp := h.hp
  hg := h.hg
  hU := h.hU
  pu := h.pu
  gu := h.gu
  pg := h.pg
/-- Another block is not touched. -/
theorem Rd.other {w W W1 : World} {p g U k n B : Nat} {t tU tB : TypeId} {L : List Nat} {cs ds : Array Value} (_ : Rd w W p g U k n t tU L cs) (hb : Blk W B tB ds) (hr : W.grownBy W1 (some p)) (h1 : B ≠ p) (h2 : B ≠ U) (i : Nat) (v : Value) :
    Blk (W1.setCell ⟨U, i, none⟩ v) B tB ds := (hb.grown hr (by simpa using h1)).far h2 v
/-- A reader's beginning. -/
theorem rd_start {w W : World} {p g k n : Nat} {t tU : TypeId} {L : List Nat} {cs : Array Value} (hg : w.grownBy W none) (hc : Cur W p g k n) (hb : Blk W g t (u8s L).toArray) (hp : w.heap.size ≤ p) (hge : w.heap.size ≤ g) (hpg : p ≠ g) :
    Rd w (W.alloc (.cells cs tU)) p g W.heap.size k n t tU L cs where
  grown := hg.trans (World.grownBy_alloc W _ none)
  cur := hc.grown (World.grownBy_alloc _ _ none) (by simp)
  arr := hb.alloc _
  box := Blk.new W tU cs
  hp := hp
  hg := hge
  hU := hg.size
  pu := by obtain ⟨_, h, _⟩ := hc; have := h.lt; omega
  gu := by have := hb.lt; omega
  pg := hpg

theorem TabS.keep {w w1 : World} {b : Nat} {S : Option Nat} (h : TabS w b S) (hg : w.grownBy w1 none) : TabS w1 b S := by
  rcases h with ⟨h, rfl⟩ | ⟨h, rfl⟩
  · exact .inl ⟨h.keep hg (by simp), rfl⟩
  · exact .inr ⟨tab_keep h hg (by simp), rfl⟩
theorem TabS.tab {w : World} {b : Nat} {S : Option Nat} (h : TabS w b S) : Tab w b := by
  rcases h with ⟨h, _⟩ | ⟨h, _⟩
  · exact .inr h
  · exact h
theorem TabS.ne {w : World} {b k : Nat} {S : Option Nat} (h : TabS w b S) (hk : w.heap.size ≤ k) : some k ≠ S := by
  have hl := h.lt
  rcases h with ⟨_, rfl⟩ | ⟨_, rfl⟩
  · simp
  · intro e; cases e; omega
theorem TabS.up {w : World} {b : Nat} {S : Option Nat} (h : TabS w b S) {w' : World} (hg : w.grownBy w' S) : w.grownBy w' (some b) := by
  rcases h with ⟨_, rfl⟩ | ⟨_, rfl⟩
  · exact grown_any_row hg _
  · exact hg
/-- What a call that reads a record leaves, where the table may be asked the first time. -/
def ToldT (w : World) (b : Nat) (S : Option Nat) (v : Value) (ok : Bool) (e : Ending) (w' : World) : Prop := w.grownBy w' S ∧ Tab w' b ∧ e = .returned (.tuple #[v, .bool ok])

theorem grown_setS {w w' : World} {S : Option Nat} (h : w.grownBy w' S) {b i : Nat} (hp : w.heap.size ≤ b) (v : Value) : w.grownBy (w'.setCell ⟨b, i, none⟩ v) S :=
  grownBy_new h (Lib.grownBy_setB (World.grownBy.refl w' _) i v) (fun j hj => by cases hj; exact hp)
theorem tab_far {w : World} {b g i : Nat} (h : Tab w b) (hne : b ≠ g) (v : Value) : Tab (w.setCell ⟨g, i, none⟩ v) b := tab_keep h (Lib.grownBy_setB (World.grownBy.refl w _) i v) (by simpa using hne)
theorem tab_sets {w : World} {b g : Nat} (h : Tab w b) {v0 v1 v2 v3 v4 v5 v6 : Value} (hne : b < g) : Tab (((((((w.setCell ⟨g, 0, none⟩ v0).setCell ⟨g, 1, none⟩ v1).setCell ⟨g, 2, none⟩ v2).setCell ⟨g, 3, none⟩ v3).setCell ⟨g, 4, none⟩ v4).setCell ⟨g, 5, none⟩ v5).setCell ⟨g, 6, none⟩ v6) b :=
  tab_far (tab_far (tab_far (tab_far (tab_far (tab_far (tab_far h (by omega) v0) (by omega) v1) (by omega) v2) (by omega) v3) (by omega) v4) (by omega) v5) (by omega) v6
set_option maxRecDepth 100000 in
set_option maxHeartbeats 3200000 in
theorem codec_get_super_core (b : Nat) (S : Option Nat) (A : Option Addr) (n c : Nat) (l : List Nat) (w : World) (hR : TabS w b S) (hl : Bytes w b A n l) :
    Calls Try.prog 26 #[.pointer (some ⟨b, 0, none⟩), .slice A n c] w (ToldT w b S (supV ((superR l).getD zero7)) (superR l).isSome) := by
  have hz0 : supV zero7 = .agg #[.int .i64 0, .int .i64 0, .int .i64 0, .int .i64 0, .int .i64 0, .int .i64 0, .int .i64 0] := rfl
  have hlen := hl.1
  have HLT := Lib.hid hl.2.1
  have HBX := Lib.hid (Blk.new w 23 #[.int .i64 0, .int .i64 0, .int .i64 0, .int .i64 0, .int .i64 0, .int .i64 0, .int .i64 0])
  have HG0 := Lib.hid (World.grownBy_alloc w (.cells #[.int .i64 0, .int .i64 0, .int .i64 0, .int .i64 0, .int .i64 0, .int .i64 0, .int .i64 0] 23) none)
  have HLEN := Lib.hid hlen; have HL0 := Lib.hid hl; have HL := Lib.hid (bytes_keepN hl (World.grownBy_alloc w (.cells #[.int .i64 0, .int .i64 0, .int .i64 0, .int .i64 0, .int .i64 0, .int .i64 0, .int .i64 0] 23) none)); have HR := Lib.hid hR; have HBL := Lib.hid hR.lt; clear hlen hl hR
  by_cases h256 : n = 256
  · subst h256
    have HSR := Lib.hid (show superR l = if superW (superN l) = some l then some (superN l) else none from rfl)
    have HSN := Lib.hid (show superN l = [wrap64 (num l 4 8), wrap64 (num l 12 8), wrap64 (num l 20 8), wrap64 (num l 28 8), wrap64 (num l 36 8), wrap64 (num l 44 8), wrap64 (num l 52 8)] from rfl)
    generalize superR l = r at *
    clear hz0
    go_enter Try.func26, Try.ntmps26
    go_wp2_with fail
    refine (opensector_any b b A c l _ HL.out).mono ?_
    rintro e w1 ⟨rfl, hg1, hb1⟩
    rw [World.size_alloc] at hb1 ⊢
    have hbx1 := HBX.out.grown hg1 (by simp)
    have hsz1 := hg1.size
    rw [World.size_alloc] at hsz1
    have hgw := HG0.out.trans hg1
    have hc1 := cur_new w1 (w.heap.size + 1) 256 0 rfl
    have HB1 := Lib.hid (hb1.alloc (.cells #[.slice (some ⟨w.heap.size + 1, 0, none⟩) 256 256] 89)); have HC1 := Lib.hid hc1
    have HX1 := Lib.hid (hbx1.alloc (.cells #[.slice (some ⟨w.heap.size + 1, 0, none⟩) 256 256] 89))
    have HG1 := Lib.hid (hgw.trans (World.grownBy_alloc w1 (.cells #[.slice (some ⟨w.heap.size + 1, 0, none⟩) 256 256] 89) none))
    have hlt1 := hb1.lt
    clear hg1 hb1 hbx1 hgw hc1
    go_wp2_with fail
    refine (take_any _ _ 0 256 4 _ HC1.out (by omega) (by omega)).mono ?_
    rintro e w2 ⟨⟨k0, rfl, _⟩, hr, hc2⟩
    have hsz2 := hr.size
    rw [World.size_alloc] at hsz2
    have RD0 := Lib.hid (rd_start (tU := 23) (cs := #[.int .i64 0, .int .i64 0, .int .i64 0, .int .i64 0, .int .i64 0, .int .i64 0, .int .i64 0]) (grownBy_new HG1.out hr (fun j hj => by cases hj; omega)) hc2 (HB1.out.grown hr (by simp; omega)) (by omega) (by omega) (by omega))
    have HX2 := Lib.hid ((HX1.out.grown hr (by simp; omega)).alloc (.cells #[.int .i64 0, .int .i64 0, .int .i64 0, .int .i64 0, .int .i64 0, .int .i64 0, .int .i64 0] 23))
    clear hr hc2
    generalize w1.heap.size = p at *
    go_wp2_with fail
    refine (read_any p (w.heap.size + 1) 4 252 8 73 l _ RD0.out.cur RD0.out.arr (by decide) HLT.out (by omega) (by rw [HLEN.out]; omega) (by rw [HLEN.out]; omega)).mono ?_
    rintro e w3 ⟨rfl, hr, hc⟩
    generalize wrap64 ((num l 4 8 : Nat) : Int) = a0 at *
    have hbx := RD0.out.box.grown hr (by simpa using fun e => RD0.out.pu e.symm)
    have hcl := hbx.cell 0
    have hfr := hbx.frozen 0
    simp only [List.getElem?_toArray, List.getElem?_cons_zero] at hcl
    have RD1 := Lib.hid (show Rd w (w3.setCell ⟨w2.heap.size, 0, none⟩ (.int .i64 a0)) p (w.heap.size + 1) w2.heap.size 12 244 73 23 l #[.int .i64 a0, .int .i64 0, .int .i64 0, .int .i64 0, .int .i64 0, .int .i64 0, .int .i64 0] from RD0.out.step hr hc 0 (.int .i64 a0))
    have HX3 := Lib.hid (RD0.out.other HX2.out hr (by omega) (by omega) 0 (.int .i64 a0))
    clear hr hc hbx
    go_wp2_with fail
    clear hcl hfr
    refine (read_any p (w.heap.size + 1) 12 244 8 73 l _ RD1.out.cur RD1.out.arr (by decide) HLT.out (by omega) (by rw [HLEN.out]; omega) (by rw [HLEN.out]; omega)).mono ?_
    rintro e w4 ⟨rfl, hr, hc⟩
    generalize wrap64 ((num l 12 8 : Nat) : Int) = a1 at *
    have hbx := RD1.out.box.grown hr (by simpa using fun e => RD1.out.pu e.symm)
    have hcl := hbx.cell 1
    have hfr := hbx.frozen 1
    simp only [List.getElem?_toArray, List.getElem?_cons_zero, List.getElem?_cons_succ] at hcl
    have RD2 := Lib.hid (show Rd w (w4.setCell ⟨w2.heap.size, 1, none⟩ (.int .i64 a1)) p (w.heap.size + 1) w2.heap.size 20 236 73 23 l #[.int .i64 a0, .int .i64 a1, .int .i64 0, .int .i64 0, .int .i64 0, .int .i64 0, .int .i64 0] from RD1.out.step hr hc 1 (.int .i64 a1))
    have HX4 := Lib.hid (RD1.out.other HX3.out hr (by omega) (by omega) 1 (.int .i64 a1))
    clear hr hc hbx
    go_wp2_with fail
    clear hcl hfr
    refine (read_any p (w.heap.size + 1) 20 236 8 73 l _ RD2.out.cur RD2.out.arr (by decide) HLT.out (by omega) (by rw [HLEN.out]; omega) (by rw [HLEN.out]; omega)).mono ?_
    rintro e w5 ⟨rfl, hr, hc⟩
    generalize wrap64 ((num l 20 8 : Nat) : Int) = a2 at *
    have hbx := RD2.out.box.grown hr (by simpa using fun e => RD2.out.pu e.symm)
    have hcl := hbx.cell 2
    have hfr := hbx.frozen 2
    simp only [List.getElem?_toArray, List.getElem?_cons_zero, List.getElem?_cons_succ] at hcl
    have RD3 := Lib.hid (show Rd w (w5.setCell ⟨w2.heap.size, 2, none⟩ (.int .i64 a2)) p (w.heap.size + 1) w2.heap.size 28 228 73 23 l #[.int .i64 a0, .int .i64 a1, .int .i64 a2, .int .i64 0, .int .i64 0, .int .i64 0, .int .i64 0] from RD2.out.step hr hc 2 (.int .i64 a2))
    have HX5 := Lib.hid (RD2.out.other HX4.out hr (by omega) (by omega) 2 (.int .i64 a2))
    clear hr hc hbx
    go_wp2_with fail
    clear hcl hfr
    refine (read_any p (w.heap.size + 1) 28 228 8 73 l _ RD3.out.cur RD3.out.arr (by decide) HLT.out (by omega) (by rw [HLEN.out]; omega) (by rw [HLEN.out]; omega)).mono ?_
    rintro e w6 ⟨rfl, hr, hc⟩
    generalize wrap64 ((num l 28 8 : Nat) : Int) = a3 at *
    have hbx := RD3.out.box.grown hr (by simpa using fun e => RD3.out.pu e.symm)
    have hcl := hbx.cell 3
    have hfr := hbx.frozen 3
    simp only [List.getElem?_toArray, List.getElem?_cons_zero, List.getElem?_cons_succ] at hcl
    have RD4 := Lib.hid (show Rd w (w6.setCell ⟨w2.heap.size, 3, none⟩ (.int .i64 a3)) p (w.heap.size + 1) w2.heap.size 36 220 73 23 l #[.int .i64 a0, .int .i64 a1, .int .i64 a2, .int .i64 a3, .int .i64 0, .int .i64 0, .int .i64 0] from RD3.out.step hr hc 3 (.int .i64 a3))
    have HX6 := Lib.hid (RD3.out.other HX5.out hr (by omega) (by omega) 3 (.int .i64 a3))
    clear hr hc hbx
    go_wp2_with fail
    clear hcl hfr
    refine (read_any p (w.heap.size + 1) 36 220 8 73 l _ RD4.out.cur RD4.out.arr (by decide) HLT.out (by omega) (by rw [HLEN.out]; omega) (by rw [HLEN.out]; omega)).mono ?_
    rintro e w7 ⟨rfl, hr, hc⟩
    generalize wrap64 ((num l 36 8 : Nat) : Int) = a4 at *
    have hbx := RD4.out.box.grown hr (by simpa using fun e => RD4.out.pu e.symm)
    have hcl := hbx.cell 4
    have hfr := hbx.frozen 4
    simp only [List.getElem?_toArray, List.getElem?_cons_zero, List.getElem?_cons_succ] at hcl
    have RD5 := Lib.hid (show Rd w (w7.setCell ⟨w2.heap.size, 4, none⟩ (.int .i64 a4)) p (w.heap.size + 1) w2.heap.size 44 212 73 23 l #[.int .i64 a0, .int .i64 a1, .int .i64 a2, .int .i64 a3, .int .i64 a4, .int .i64 0, .int .i64 0] from RD4.out.step hr hc 4 (.int .i64 a4))
    have HX7 := Lib.hid (RD4.out.other HX6.out hr (by omega) (by omega) 4 (.int .i64 a4))
    clear hr hc hbx
    go_wp2_with fail
    clear hcl hfr
    refine (read_any p (w.heap.size + 1) 44 212 8 73 l _ RD5.out.cur RD5.out.arr (by decide) HLT.out (by omega) (by rw [HLEN.out]; omega) (by rw [HLEN.out]; omega)).mono ?_
    rintro e w8 ⟨rfl, hr, hc⟩
    generalize wrap64 ((num l 44 8 : Nat) : Int) = a5 at *
    have hbx := RD5.out.box.grown hr (by simpa using fun e => RD5.out.pu e.symm)
    have hcl := hbx.cell 5
    have hfr := hbx.frozen 5
    simp only [List.getElem?_toArray, List.getElem?_cons_zero, List.getElem?_cons_succ] at hcl
    have RD6 := Lib.hid (show Rd w (w8.setCell ⟨w2.heap.size, 5, none⟩ (.int .i64 a5)) p (w.heap.size + 1) w2.heap.size 52 204 73 23 l #[.int .i64 a0, .int .i64 a1, .int .i64 a2, .int .i64 a3, .int .i64 a4, .int .i64 a5, .int .i64 0] from RD5.out.step hr hc 5 (.int .i64 a5))
    have HX8 := Lib.hid (RD5.out.other HX7.out hr (by omega) (by omega) 5 (.int .i64 a5))
    clear hr hc hbx
    go_wp2_with fail
    clear hcl hfr
    refine (read_any p (w.heap.size + 1) 52 204 8 73 l _ RD6.out.cur RD6.out.arr (by decide) HLT.out (by omega) (by rw [HLEN.out]; omega) (by rw [HLEN.out]; omega)).mono ?_
    rintro e w9 ⟨rfl, hr, hc⟩
    generalize wrap64 ((num l 52 8 : Nat) : Int) = a6 at *
    have hbx := RD6.out.box.grown hr (by simpa using fun e => RD6.out.pu e.symm)
    have hcl := hbx.cell 6
    have hfr := hbx.frozen 6
    simp only [List.getElem?_toArray, List.getElem?_cons_zero, List.getElem?_cons_succ] at hcl
    have RD7 := Lib.hid (show Rd w (w9.setCell ⟨w2.heap.size, 6, none⟩ (.int .i64 a6)) p (w.heap.size + 1) w2.heap.size 60 196 73 23 l #[.int .i64 a0, .int .i64 a1, .int .i64 a2, .int .i64 a3, .int .i64 a4, .int .i64 a5, .int .i64 a6] from RD6.out.step hr hc 6 (.int .i64 a6))
    have HX9 := Lib.hid (RD6.out.other HX8.out hr (by omega) (by omega) 6 (.int .i64 a6))
    clear hr hc hbx
    have x0 := RD7.out.box.cell 0; have x1 := RD7.out.box.cell 1; have x2 := RD7.out.box.cell 2; have x3 := RD7.out.box.cell 3; have x4 := RD7.out.box.cell 4; have x5 := RD7.out.box.cell 5; have x6 := RD7.out.box.cell 6
    simp only [List.getElem?_toArray, List.getElem?_cons_zero, List.getElem?_cons_succ] at x0 x1 x2 x3 x4 x5 x6
    clear RD0 RD1 RD2 RD3 RD4 RD5 RD6 HX1 HX2 HX3 HX4 HX5 HX6 HX7 HX8
    go_wp2_with fail
    clear hcl hfr
    refine (put_super_core b S a0 a1 a2 a3 a4 a5 a6 _ (HR.out.keep RD7.out.grown)).mono ?_
    clear x0 x1 x2 x3 x4 x5 x6
    cases hW : superW [a0, a1, a2, a3, a4, a5, a6] with
    | none =>
      rintro e w10 ⟨_, ⟨l, g, ho, _⟩ | ⟨_, rfl, hg⟩⟩
      · cases ho
      have HX10 := Lib.hid (HX9.out.grown hg (by simp)); have HG10 := Lib.hid (RD7.out.grown.trans hg); have HW := Lib.hid hW
      have HTB := Lib.hid ((HR.out.keep HG10.out).tab)
      clear hg hW
      go_wp2_with fail
      refine (comesback_err A none _ 0 c 0 _).mono ?_
      rintro e w11 ⟨rfl, rfl⟩
      have x0 := HX10.out.cell 0; have x1 := HX10.out.cell 1; have x2 := HX10.out.cell 2; have x3 := HX10.out.cell 3; have x4 := HX10.out.cell 4; have x5 := HX10.out.cell 5; have x6 := HX10.out.cell 6
      have f0 := HX10.out.frozen 0; have f1 := HX10.out.frozen 1; have f2 := HX10.out.frozen 2; have f3 := HX10.out.frozen 3; have f4 := HX10.out.frozen 4; have f5 := HX10.out.frozen 5; have f6 := HX10.out.frozen 6
      simp only [List.getElem?_toArray, List.getElem?_cons_zero, List.getElem?_cons_succ] at x0 x1 x2 x3 x4 x5 x6
      go_wp2_with fail
      refine ret_row2 rfl w.heap.size 23 _ _ rfl (Blk.set7 HX10.out) Try.underlying23 rfl (by kernel_rfl) rfl ⟨?_, ?_, ?_⟩
      · refine grown_any_row ?_ S
        repeat (refine grown_set ?_ (Nat.le_refl _) _)
        exact HG10.out
      · exact tab_sets HTB.out HBL.out
      · rw [HSR.out, HSN.out, if_neg (by rw [HW.out]; simp)]
        rfl
    | some l' =>
      rintro e w10 ⟨hg, ⟨l1, g3, ho, rfl, _, hb3, hlt3, hrd⟩ | ⟨ho, _⟩⟩
      case inr => cases ho
      obtain rfl : l' = l1 := by injection ho
      have HTB := Lib.hid (show Tab w10 b from .inr hrd)
      have HX10 := Lib.hid (HX9.out.grown hg (HR.out.ne (Nat.le_refl _))); have HG10 := Lib.hid ((grown_any_row RD7.out.grown S).trans hg); have HW := Lib.hid hW; have HU10 := Lib.hid (RD7.out.box.grown hg (HR.out.ne RD7.out.hU))
      have HB3 := Lib.hid (blk_bytes (b := w10.heap.size) hb3 (by have := hb3.lt; omega) hlt3)
      have HL3 := Lib.hid (HL0.out.keep (HR.out.up HG10.out))
      clear ho hg hW hb3 hrd
      go_wp2_with fail
      refine (comesback_any _ _ A _ _ _ c _ l l' _ HL3.out HB3.out).mono ?_
      rintro e w11 ⟨rfl, rfl⟩
      have x0 := HX10.out.cell 0; have x1 := HX10.out.cell 1; have x2 := HX10.out.cell 2; have x3 := HX10.out.cell 3; have x4 := HX10.out.cell 4; have x5 := HX10.out.cell 5; have x6 := HX10.out.cell 6
      have f0 := HX10.out.frozen 0; have f1 := HX10.out.frozen 1; have f2 := HX10.out.frozen 2; have f3 := HX10.out.frozen 3; have f4 := HX10.out.frozen 4; have f5 := HX10.out.frozen 5; have f6 := HX10.out.frozen 6
      simp only [List.getElem?_toArray, List.getElem?_cons_zero, List.getElem?_cons_succ] at x0 x1 x2 x3 x4 x5 x6
      have y0 := HU10.out.cell 0; have y1 := HU10.out.cell 1; have y2 := HU10.out.cell 2; have y3 := HU10.out.cell 3; have y4 := HU10.out.cell 4; have y5 := HU10.out.cell 5; have y6 := HU10.out.cell 6
      simp only [List.getElem?_toArray, List.getElem?_cons_zero, List.getElem?_cons_succ] at y0 y1 y2 y3 y4 y5 y6
      cases hd : decide (l = l') with
      | true =>
        have HD := Lib.hid hd; clear hd
        go_wp2_with fail
        refine ret_row2 rfl w.heap.size 23 _ _ rfl (Blk.set7 HX10.out) Try.underlying23 rfl (by kernel_rfl) rfl ⟨?_, ?_, ?_⟩
        · repeat (refine grown_setS ?_ (Nat.le_refl _) _)
          exact HG10.out
        · exact tab_sets HTB.out HBL.out
        · have hl := of_decide_eq_true HD.out
          subst hl
          rw [HSR.out, HSN.out, if_pos HW.out]
          rfl
      | false =>
        have HD := Lib.hid hd; clear hd
        go_wp2_with fail
        refine ret_row2 rfl w.heap.size 23 _ _ rfl (Blk.set7 HX10.out) Try.underlying23 rfl (by kernel_rfl) rfl ⟨?_, ?_, ?_⟩
        · repeat (refine grown_setS ?_ (Nat.le_refl _) _)
          exact HG10.out
        · exact tab_sets HTB.out HBL.out
        · have hl := of_decide_eq_false HD.out
          rw [HSR.out, HSN.out, if_neg (by rw [HW.out]; simpa using fun e => hl e.symm)]
          rfl
  · have hno := superR_none l (by rw [HLEN.out]; exact h256)
    have HNO := Lib.hid hno; clear hno
    generalize superR l = r at *
    have hv : supV (r.getD zero7) = .agg #[.int .i64 0, .int .i64 0, .int .i64 0, .int .i64 0, .int .i64 0, .int .i64 0, .int .i64 0] := by rw [HNO.out]; exact hz0
    have HV := Lib.hid hv; clear hv hz0
    go_enter Try.func26, Try.ntmps26
    go_wp2_with fail
    refine (opensector_no b A n c _ h256).mono ?_
    rintro e w1 ⟨rfl, rfl⟩
    go_wp2_with fail
    refine ret_row2 rfl w.heap.size 23 _ _ rfl (HBX.out.alloc _) Try.underlying23 rfl (by kernel_rfl) rfl ⟨grown_any_row (HG0.out.trans (World.grownBy_alloc _ _ none)) S, (HR.out.keep (HG0.out.trans (World.grownBy_alloc _ _ none))).tab, ?_⟩
    rw [HV.out, HNO.out]
    rfl
theorem codec_get_super (b : Nat) (A : Option Addr) (n c : Nat) (l : List Nat) (w : World) (hR : Ready w b) (hl : Bytes w b A n l) :
    Calls Try.prog 26 #[.pointer (some ⟨b, 0, none⟩), .slice A n c] w (Told w (supV ((superR l).getD zero7)) (superR l).isSome) :=
  (codec_get_super_core b none A n c l w (.inl ⟨hR, rfl⟩) hl).mono fun _ _ h => ⟨h.1, h.2.2⟩
set_option maxRecDepth 100000 in
set_option maxHeartbeats 800000 in
theorem codec_get_super_nil (A : Option Addr) (n c : Nat) (w : World) :
    Calls Try.prog 26 #[.pointer none, .slice A n c] w (Told w (supV zero7) false) := by
  rw [show supV zero7 = .agg #[.int .i64 0, .int .i64 0, .int .i64 0, .int .i64 0, .int .i64 0, .int .i64 0, .int .i64 0] from rfl]
  have hbk := Blk.new w 23 #[.int .i64 0, .int .i64 0, .int .i64 0, .int .i64 0, .int .i64 0, .int .i64 0, .int .i64 0]
  have HBK := Lib.hid hbk; clear hbk
  have HG0 := Lib.hid (World.grownBy_alloc w (.cells #[.int .i64 0, .int .i64 0, .int .i64 0, .int .i64 0, .int .i64 0, .int .i64 0, .int .i64 0] 23) none)
  go_enter Try.func26, Try.ntmps26
  go_wp2_with fail
  refine (opensector_nil A n c _).mono ?_
  rintro e w1 ⟨rfl, rfl⟩
  go_wp2_with fail
  exact ret_row2 rfl w.heap.size 23 _ _ rfl (HBK.out.alloc _) Try.underlying23 rfl (by kernel_rfl) rfl ⟨HG0.out.trans (World.grownBy_alloc _ _ none), rfl⟩
end Go.Proofs.Ytagikgejhckfbaa.Codec
/- readBoth of package super. -/
namespace Go.Proofs.Ytagikgejhckfbaa.Sup
open Go.RowKit CrcMath CodecMath Mem Crc Codec DiskSpec Dsk

/-! ### Both sectors are read -/
def bothE (S : St) : Int := if (readE (readE S 0 1).2 1 1).1 = 0 then (readE S 0 1).1 else (readE (readE S 0 1).2 1 1).1
theorem readE_n (S : St) (a c : Int) : (readE S a c).2.n = S.n := by unfold readE; split; rfl; split <;> rfl
theorem readE_two {S : St} (h : 2 ≤ S.n) (a : Nat) (ha : a < 2) : (readE S a 1).1 = 0 ∨ (readE S a 1).1 = 10 := by
  have : S.has a 1 = true := by simp [St.has]; omega
  unfold readE
  rw [if_neg (by rw [this]; simp)]
  split
  · exact .inr rfl
  · exact .inl rfl
theorem bothE_two {S : St} (h : 2 ≤ S.n) : bothE S = if (readE S 0 1).1 ≠ 0 ∨ (readE (readE S 0 1).2 1 1).1 ≠ 0 then 10 else 0 := by
  have h0 := readE_two h 0 (by omega)
  have h1 := readE_two (S := (readE S 0 1).2) (by rw [readE_n]; exact h) 1 (by omega)
  unfold bothE
  rcases h0 with h0 | h0 <;> rcases h1 with h1 | h1 <;> rw [show ((0 : Nat) : Int) = 0 from rfl] at h0 <;> rw [show ((1 : Nat) : Int) = 1 from rfl] at h1 <;> rw [h0, h1] <;> simp
theorem gave_shape {w : World} {base : Nat} {v : Value} {l : List Nat} (h : Gave8 w base v l) : ∃ A n c, v = .slice A n c := by
  rcases h with ⟨rfl, _⟩ | ⟨g, cap, rfl, _⟩
  · exact ⟨_, _, _, rfl⟩
  · exact ⟨_, _, _, rfl⟩
theorem gave_grown {w w' : World} {base : Nat} {v : Value} {l : List Nat} {row : Option Nat} (h : Gave8 w base v l) (hg : w.grownBy w' row) (hr : ∀ g, base ≤ g → g < w.heap.size → row ≠ some g) : Gave8 w' base v l := by
  rcases h with h | ⟨g, cap, hv, hb, hbk⟩
  · exact .inl h
  · exact .inr ⟨g, cap, hv, hb, hbk.grown hg (fun e => hr g hb hbk.lt e.symm)⟩
theorem gave_turn {w w' : World} {base : Nat} {v : Value} {l : List Nat} {o o' : Nat → Prop} (h : Gave8 w base v l) (ht : Turn w w' o o') (hn : ∀ g, base ≤ g → ¬ o g) : Gave8 w' base v l := by
  rcases h with h | ⟨g, cap, hv, hb, hbk⟩
  · exact .inl h
  · exact .inr ⟨g, cap, hv, hb, blk_of_block hbk (ht.block g hbk.lt (hn g hb))⟩
theorem gave_low {w : World} {base base' : Nat} {v : Value} {l : List Nat} (h : Gave8 w base v l) (hb : base' ≤ base) : Gave8 w base' v l := by
  rcases h with h | ⟨g, cap, hv, hbb, hbk⟩
  · exact .inl h
  · exact .inr ⟨g, cap, hv, Nat.le_trans hb hbb, hbk⟩

/-- Where the reader of both stands: the disk, the result, the array that is filled. -/
structure RB (w wr : World) (own : Nat → Prop) (B b : Nat) (S : St) (c0 c1 : Value) : Prop where
  d : DAt wr B b S own
  t : Turn w wr own own
  r : Blk wr w.heap.size 75 #[.slice none 0 0, .slice none 0 0]
  a : Blk wr (w.heap.size + 1) 75 #[c0, c1]
  l : ∀ i, own i → i < w.heap.size
theorem RB.read {w wr w' : World} {own : Nat → Prop} {B b : Nat} {S S' : St} {c0 c1 : Value} (h : RB w wr own B b S c0 c1) (hd : DAt w' B b S' own) (ht : Turn wr w' own own) : RB w w' own B b S' c0 c1 :=
  ⟨hd, h.t.trans ht, blk_of_block h.r (ht.block _ h.r.lt (fun ho => by have := h.l _ ho; omega)), blk_of_block h.a (ht.block _ h.a.lt (fun ho => by have := h.l _ ho; omega)), h.l⟩
theorem RB.set_ {w wr : World} {own : Nat → Prop} {B b : Nat} {S : St} {c0 c1 : Value} (h : RB w wr own B b S c0 c1) (j : Nat) (v : Value) {d0 d1 : Value} (he : (#[c0, c1] : Array Value).setIfInBounds j v = #[d0, d1]) : RB w (wr.setCell ⟨w.heap.size + 1, j, none⟩ v) own B b S d0 d1 := by
  have hg : wr.grownBy (wr.setCell ⟨w.heap.size + 1, j, none⟩ v) (some (w.heap.size + 1)) := Lib.grownBy_setB (World.grownBy.refl wr _) j v
  refine ⟨dat_grown h.d hg (fun i e => by cases e; exact fun ho => by have := h.l _ ho; omega), turn_later h.t hg (by omega), h.r.grown hg (by simp), ?_, h.l⟩
  rw [← he]
  exact h.a.set_ j v
theorem gave_set {wr : World} {base g j : Nat} {v u : Value} {l : List Nat} (h : Gave8 wr base v l) (hg : g < base) : Gave8 (wr.setCell ⟨g, j, none⟩ u) base v l :=
  gave_grown h (Lib.grownBy_setB (World.grownBy.refl wr (some g)) j u) (fun k hk _ e => by cases e; omega)

set_option maxRecDepth 100000 in
set_option maxHeartbeats 3200000 in
theorem readboth_any {w : World} {B b : Nat} {S : St} {own : Nat → Prop} (h : DAt w B b S own) (hn : 2 ≤ S.n) :
    Calls Try.prog 25 #[.pointer (some ⟨b, 0, none⟩)] w fun e w' => ∃ v0 v1, e = .returned (.tuple #[.agg #[v0, v1], .int .i64 (bothE S)]) ∧ Gave8 w' w.heap.size v0 (readL S 0 1) ∧ Gave8 w' w.heap.size v1 (readL (readE S 0 1).2 1 1) ∧ DAt w' B b (loadS S) own ∧ Turn w w' own own := by
  have hl : ∀ i, own i → i < w.heap.size := by obtain ⟨_, _, _, hd⟩ := h; exact hd.lt
  have hr0 : ∀ wx, DAt wx B b S own → Calls Try.prog 14 #[.pointer (some ⟨b, 0, none⟩), .int .i64 0, .int .i64 1] wx fun e w' => ∃ v, e = .returned (.tuple #[v, .int .i64 (readE S 0 1).1]) ∧ Gave8 w' wx.heap.size v (readL S 0 1) ∧ DAt w' B b (readE S 0 1).2 own ∧ Turn wx w' own own := fun wx hx => disk_read_all hx 0 1 (by omega) (by omega)
  have hr1 : ∀ wx, DAt wx B b (readE S 0 1).2 own → Calls Try.prog 14 #[.pointer (some ⟨b, 0, none⟩), .int .i64 1, .int .i64 1] wx fun e w' => ∃ v, e = .returned (.tuple #[v, .int .i64 (readE (readE S 0 1).2 1 1).1]) ∧ Gave8 w' wx.heap.size v (readL (readE S 0 1).2 1 1) ∧ DAt w' B b (loadS S) own ∧ Turn wx w' own own := fun wx hx => disk_read_all hx 1 1 (by omega) (by omega)
  have h0 : (readE S 0 1).1 = 0 ∨ (readE S 0 1).1 = 10 := readE_two hn 0 (by omega)
  have h1 : (readE (readE S 0 1).2 1 1).1 = 0 ∨ (readE (readE S 0 1).2 1 1).1 = 10 := readE_two (S := (readE S 0 1).2) (by rw [readE_n]; exact hn) 1 (by omega)
  have hE : bothE S = if (readE (readE S 0 1).2 1 1).1 = 0 then (readE S 0 1).1 else (readE (readE S 0 1).2 1 1).1 := rfl
  have HL := Lib.hid hl; have HR0 := Lib.hid hr0; have HR1 := Lib.hid hr1
  have HRB := Lib.hid (show RB w ((w.alloc (.cells #[.slice none 0 0, .slice none 0 0] 75)).alloc (.cells #[.slice none 0 0, .slice none 0 0] 75)) own B b S (.slice none 0 0) (.slice none 0 0) from
    ⟨dat_grown h ((World.grownBy_alloc w _ none).trans (World.grownBy_alloc _ _ none)) (fun _ e => by cases e), Turn.none_ ((World.grownBy_alloc w _ none).trans (World.grownBy_alloc _ _ none)), (Blk.new w _ _).alloc _, by simpa using Blk.new (w.alloc (.cells #[.slice none 0 0, .slice none 0 0] 75)) 75 #[.slice none 0 0, .slice none 0 0], hl⟩)
  clear hl hr0 hr1 h
  generalize bothE S = EE at *
  generalize (readE (readE S 0 1).2 1 1).1 = E1 at *
  generalize loadS S = S2 at *
  generalize readL (readE S 0 1).2 1 1 = L1 at *
  generalize (readE S 0 1).2 = S1 at *
  generalize (readE S 0 1).1 = E0 at *
  generalize readL S 0 1 = L0 at *
  have HE := Lib.hid hE; have H0 := Lib.hid h0; have H1 := Lib.hid h1
  clear hE h0 h1 hn
  go_enter Try.func25, Try.ntmps25
  go_wp2_with fail
  go_loopw [5, 6, 7, 8, 9] (fun er _ _ _ i wr =>
      (i = .int .i64 0 ∧ er = .int .i64 0 ∧ RB w wr own B b S (.slice none 0 0) (.slice none 0 0)) ∨
      (i = .int .i64 1 ∧ er = .int .i64 E0 ∧ ∃ v0, Gave8 wr (w.heap.size + 2) v0 L0 ∧ RB w wr own B b S1 v0 (.slice none 0 0)) ∨
      (i = .int .i64 2 ∧ er = .int .i64 EE ∧ ∃ v0 v1, Gave8 wr (w.heap.size + 2) v0 L0 ∧ Gave8 wr (w.heap.size + 2) v1 L1 ∧ RB w wr own B b S2 v0 v1)) (fun _ _ _ _ i _ => 2 - (Go.RowKit.intOf i).toNat)
  case atStart => exact .inl ⟨rfl, rfl, HRB.out⟩
  case round =>
    clear HRB
    rcases hrel with ⟨rfl, rfl, hrb⟩ | ⟨rfl, rfl, v0, hg0, hrb⟩ | ⟨rfl, rfl, v0, v1, hg0, hg1, hrb⟩
    · have HRB := Lib.hid hrb
      have hsz := hrb.a.lt
      clear hrb
      go_wp2_with fail
      refine (HR0.out _ HRB.out.d).mono ?_
      rintro e w1 ⟨v, rfl, hgv, hd, ht⟩
      have hrb1 := HRB.out.read hd ht
      have hgv1 := gave_low (base' := w.heap.size + 2) hgv (by omega)
      obtain ⟨A, n, c, rfl⟩ := gave_shape hgv1
      have hcl := hrb1.a.cell 0
      have hfr := hrb1.a.frozen 0
      simp only [List.getElem?_toArray, List.getElem?_cons_zero] at hcl
      have HRB1 := Lib.hid (hrb1.set_ 0 (.slice A n c) (d0 := .slice A n c) (d1 := .slice none 0 0) rfl)
      have HGV := Lib.hid (gave_set (g := w.heap.size + 1) (j := 0) (u := .slice A n c) hgv1 (by omega))
      clear hgv hd ht hrb1 hgv1 hsz HRB
      rcases H0.out with hE0 | hE0
      · subst hE0
        go_wp2_with fail
        go_roundw
        case rel => exact .inr (.inl ⟨rfl, rfl, _, HGV.out, HRB1.out⟩)
        case measure => simp [Go.RowKit.intOf]
      · subst hE0
        go_wp2_with fail
        go_roundw
        case rel => exact .inr (.inl ⟨rfl, rfl, _, HGV.out, HRB1.out⟩)
        case measure => simp [Go.RowKit.intOf]
    · have HRB := Lib.hid hrb
      have hsz := hrb.a.lt
      obtain ⟨A0, n0, c0, rfl⟩ := gave_shape hg0
      have HGA := Lib.hid hg0
      clear hrb hg0
      go_wp2_with fail
      refine (HR1.out _ HRB.out.d).mono ?_
      rintro e w1 ⟨v, rfl, hgv, hd, ht⟩
      have hrb1 := HRB.out.read hd ht
      have hgv1 := gave_low (base' := w.heap.size + 2) hgv (by omega)
      have hga1 := gave_turn HGA.out ht (fun g hg ho => by have := HRB.out.l g ho; omega)
      obtain ⟨A, n, c, rfl⟩ := gave_shape hgv1
      have hcl := hrb1.a.cell 1
      have hfr := hrb1.a.frozen 1
      simp only [List.getElem?_toArray, List.getElem?_cons_zero, List.getElem?_cons_succ] at hcl
      have HRB1 := Lib.hid (hrb1.set_ 1 (.slice A n c) (d0 := .slice A0 n0 c0) (d1 := .slice A n c) rfl)
      have HGV := Lib.hid (gave_set (g := w.heap.size + 1) (j := 1) (u := .slice A n c) hgv1 (by omega))
      have HG0 := Lib.hid (gave_set (g := w.heap.size + 1) (j := 1) (u := .slice A n c) hga1 (by omega))
      clear hgv hd ht hrb1 hgv1 hga1 hsz HRB HGA
      rcases H1.out with hE1 | hE1
      · have HEE := Lib.hid (show EE = E0 by rw [HE.out, if_pos hE1])
        subst hE1
        go_wp2_with fail
        go_roundw
        case rel => exact .inr (.inr ⟨rfl, by rw [HEE.out], _, _, HG0.out, HGV.out, HRB1.out⟩)
        case measure => simp [Go.RowKit.intOf]
      · have HEE := Lib.hid (show EE = 10 by rw [HE.out, if_neg (by rw [hE1]; omega), hE1])
        subst hE1
        go_wp2_with fail
        go_roundw
        case rel => exact .inr (.inr ⟨rfl, by rw [HEE.out], _, _, HG0.out, HGV.out, HRB1.out⟩)
        case measure => simp [Go.RowKit.intOf]
    · obtain ⟨A0, n0, c0, rfl⟩ := gave_shape hg0
      obtain ⟨A1, n1, c1, rfl⟩ := gave_shape hg1
      have HRB := Lib.hid hrb; have HG0 := Lib.hid hg0; have HG1 := Lib.hid hg1
      have x0 := hrb.a.cell 0; have x1 := hrb.a.cell 1
      have y0 := hrb.r.cell 0; have y1 := hrb.r.cell 1
      have z0 := hrb.r.frozen 0; have z1 := hrb.r.frozen 1
      simp only [List.getElem?_toArray, List.getElem?_cons_zero, List.getElem?_cons_succ] at x0 x1 y0 y1
      clear hrb hg0 hg1
      go_wp2_with fail
      refine ret_row2 rfl w.heap.size 75 _ _ rfl (Blk.set2 HRB.out.r) Try.underlying75 rfl (by kernel_rfl) rfl ⟨_, _, rfl, ?_, ?_, ?_, ?_⟩
      · exact gave_low (gave_set (gave_set HG0.out (by omega)) (by omega)) (by omega)
      · exact gave_low (gave_set (gave_set HG1.out (by omega)) (by omega)) (by omega)
      · have hg : ∀ (wx : World) (j : Nat) (u : Value), DAt wx B b S2 own → DAt (wx.setCell ⟨w.heap.size, j, none⟩ u) B b S2 own := fun wx j u hx =>
          dat_grown hx (Lib.grownBy_setB (World.grownBy.refl wx (some w.heap.size)) j u) (fun i e => by cases e; exact fun ho => by have := HL.out _ ho; omega)
        exact hg _ _ _ (hg _ _ _ HRB.out.d)
      · have hg : ∀ (wx : World) (j : Nat) (u : Value), Turn w wx own own → Turn w (wx.setCell ⟨w.heap.size, j, none⟩ u) own own := fun wx j u hx =>
          turn_later hx (Lib.grownBy_setB (World.grownBy.refl wx (some w.heap.size)) j u) (Nat.le_refl _)
        exact hg _ _ _ (hg _ _ _ HRB.out.t)
end Go.Proofs.Ytagikgejhckfbaa.Sup
/- Load of package super. -/
namespace Go.Proofs.Ytagikgejhckfbaa.Sup
open Go.RowKit CrcMath CodecMath Mem Crc Codec DiskSpec Dsk

/-- The best of the first j. -/
def seen (n : Int) (l0 l1 : List Nat) : Nat → Option (List Int)
  | 0 => none
  | j + 1 => newer (seen n l0 l1 j) (sound n j (if j = 0 then l0 else l1))
theorem newer_none (a : Option (List Int)) : newer a none = a := by cases a <;> rfl
theorem newer_some (s : List Int) : newer none (some s) = some s := rfl
theorem newer_two (u s : List Int) : newer (some u) (some s) = if gen u < gen s then some s else some u := rfl
theorem seen_two (n : Int) (l0 l1 : List Nat) : seen n l0 l1 2 = bestOf n l0 l1 := by
  show newer (newer none (sound n 0 l0)) (sound n 1 l1) = newer (sound n 0 l0) (sound n 1 l1)
  cases sound n 0 l0 <;> rfl
theorem seen_succ (n : Int) (l0 l1 : List Nat) (j : Nat) : seen n l0 l1 (j + 1) = newer (seen n l0 l1 j) (sound n j (if j = 0 then l0 else l1)) := rfl
theorem seen_len (n : Int) (l0 l1 : List Nat) : ∀ (j : Nat) (s : List Int), seen n l0 l1 j = some s → s.length = 7 := by
  intro j
  induction j with
  | zero => intro s h; cases h
  | succ j ih =>
    intro s h
    rw [seen_succ] at h
    cases hq : sound n j (if j = 0 then l0 else l1) with
    | none => rw [hq, newer_none] at h; exact ih s h
    | some q =>
      rw [hq] at h
      cases hp : seen n l0 l1 j with
      | none => rw [hp, newer_some] at h; cases h; exact (sound_len hq).1
      | some p =>
        rw [hp, newer_two] at h
        split at h
        · cases h; exact (sound_len hq).1
        · cases h; exact ih _ hp
theorem list7 {s : List Int} (h : s.length = 7) : ∃ a0 a1 a2 a3 a4 a5 a6, s = [a0, a1, a2, a3, a4, a5, a6] := by
  match s, h with
  | [a0, a1, a2, a3, a4, a5, a6], _ => exact ⟨a0, a1, a2, a3, a4, a5, a6, rfl⟩
def cells7 (s : List Int) : Array Value := (s.map fun n => Value.int .i64 n).toArray
theorem readL_lt' {S : St} (h : S.ok) (a c : Int) : ∀ x ∈ readL S a c, x < 256 := by
  unfold readL
  split
  · simp
  · split
    · simp
    · exact reads_lt h _ _
theorem readE_ok {S : St} (h : S.ok) (a c : Int) : (readE S a c).2.ok := by
  unfold readE
  split
  · exact h
  · split <;> exact { h with f1 := by have := h.f1; show S.f1 - 1 ≤ _; omega }
theorem index2 (A0 A1 : Option Addr) (n0 c0 n1 c1 j : Nat) (hj : j < 2) (w : World) :
    (Instr.index 75 (.agg #[.slice A0 n0 c0, .slice A1 n1 c1]) (.int .i64 j)).run Try.prog w = .ok (if j = 0 then .slice A0 n0 c0 else .slice A1 n1 c1) w := by
  obtain rfl | rfl : j = 0 ∨ j = 1 := by omega
  · kernel_rfl
  · kernel_rfl
theorem bytes_gave {w : World} {base tb n c : Nat} {A : Option Addr} {l : List Nat} (h : Gave8 w base (.slice A n c) l) (hx : ∀ x ∈ l, x < 256) (htb : tb < base) : Bytes w tb A n l := by
  rcases h with ⟨h, rfl⟩ | ⟨g, cap, h, hb, hbk⟩
  · cases h; exact Bytes.none_ _ _ _
  · cases h; exact blk_bytes (b := tb) hbk (by omega) hx

/-- Where Load stands: the disk, the result, both sectors' bytes. -/
structure LD (w wr : World) (own : Nat → Prop) (B b tb : Nat) (S : St) (v0 v1 : Value) (l0 l1 : List Nat) (T : Nat) : Prop where
  s : SAt wr B b tb S own
  t : Turn w wr (With own tb) (With own tb)
  r : Blk wr w.heap.size 23 #[.int .i64 0, .int .i64 0, .int .i64 0, .int .i64 0, .int .i64 0, .int .i64 0, .int .i64 0]
  g0 : Gave8 wr (w.heap.size + 1) v0 l0
  g1 : Gave8 wr (w.heap.size + 1) v1 l1
  b0 : ∀ g, v0.ownBlock = some g → g < T
  b1 : ∀ g, v1.ownBlock = some g → g < T
section
variable {w wr w' : World} {own : Nat → Prop} {B b tb T : Nat} {S : St} {v0 v1 : Value} {l0 l1 : List Nat}
theorem gave_row {base : Nat} {v : Value} {l : List Nat} {row : Option Nat} (h : Gave8 wr base v l) (hg : wr.grownBy w' row) (hr : ∀ g, v.ownBlock = some g → base ≤ g → row ≠ some g) : Gave8 w' base v l := by
  rcases h with h | ⟨g, cap, hv, hb, hbk⟩
  · exact .inl h
  · exact .inr ⟨g, cap, hv, hb, hbk.grown hg (fun e => hr g (by rw [hv]; rfl) hb e.symm)⟩
theorem LD.quiet (h : LD w wr own B b tb S v0 v1 l0 l1 T) (hg : wr.grownBy w' none) : LD w w' own B b tb S v0 v1 l0 l1 T :=
  ⟨h.s.quiet hg, h.t.trans (Turn.none_ hg), h.r.grown hg (by simp), gave_row h.g0 hg (fun _ _ _ => by simp), gave_row h.g1 hg (fun _ _ _ => by simp), h.b0, h.b1⟩
theorem LD.table (h : LD w wr own B b tb S v0 v1 l0 l1 T) (hg : wr.grownBy w' (some tb)) (ht : Tab w' tb) (hlt : tb < w.heap.size) : LD w w' own B b tb S v0 v1 l0 l1 T :=
  ⟨h.s.table hg ht, h.t.trans (turn_table hg), h.r.grown hg (by simp; omega), gave_row h.g0 hg (fun g _ hb e => by cases e; omega), gave_row h.g1 hg (fun g _ hb e => by cases e; omega), h.b0, h.b1⟩
theorem LD.set_ (h : LD w wr own B b tb S v0 v1 l0 l1 T) (hl : ∀ i, own i → i < w.heap.size) (hlt : tb < w.heap.size) (hT : w.heap.size + 1 ≤ T) (i : Nat) (v : Value) : LD w (wr.setCell ⟨T + 1, i, none⟩ v) own B b tb S v0 v1 l0 l1 T := by
  have hg : wr.grownBy (wr.setCell ⟨T + 1, i, none⟩ v) (some (T + 1)) := Lib.grownBy_setB (World.grownBy.refl wr _) i v
  exact ⟨h.s.far hg (fun ho => by have := hl _ ho; omega) (by omega), turn_later h.t hg (by omega), h.r.grown hg (by simp; omega), gave_row h.g0 hg (fun g hv _ e => by cases e; have := h.b0 _ hv; omega), gave_row h.g1 hg (fun g hv _ e => by cases e; have := h.b1 _ hv; omega), h.b0, h.b1⟩
/-- The result is written. -/
theorem fin_set (hl : ∀ i, own i → i < w.heap.size) (hlt : tb < w.heap.size) (h : SAt wr B b tb S own ∧ Turn w wr (With own tb) (With own tb)) (i : Nat) (v : Value) :
    SAt (wr.setCell ⟨w.heap.size, i, none⟩ v) B b tb S own ∧ Turn w (wr.setCell ⟨w.heap.size, i, none⟩ v) (With own tb) (With own tb) := by
  have hg : wr.grownBy (wr.setCell ⟨w.heap.size, i, none⟩ v) (some w.heap.size) := Lib.grownBy_setB (World.grownBy.refl wr _) i v
  exact ⟨h.1.far hg (fun ho => by have := hl _ ho; omega) (by omega), turn_later h.2 hg (Nat.le_refl _)⟩
theorem fin_set7 (hl : ∀ i, own i → i < w.heap.size) (hlt : tb < w.heap.size) (h : SAt wr B b tb S own ∧ Turn w wr (With own tb) (With own tb)) {a0 a1 a2 a3 a4 a5 a6 : Value} :
    SAt (((((((wr.setCell ⟨w.heap.size, 0, none⟩ a0).setCell ⟨w.heap.size, 1, none⟩ a1).setCell ⟨w.heap.size, 2, none⟩ a2).setCell ⟨w.heap.size, 3, none⟩ a3).setCell ⟨w.heap.size, 4, none⟩ a4).setCell ⟨w.heap.size, 5, none⟩ a5).setCell ⟨w.heap.size, 6, none⟩ a6) B b tb S own ∧
    Turn w (((((((wr.setCell ⟨w.heap.size, 0, none⟩ a0).setCell ⟨w.heap.size, 1, none⟩ a1).setCell ⟨w.heap.size, 2, none⟩ a2).setCell ⟨w.heap.size, 3, none⟩ a3).setCell ⟨w.heap.size, 4, none⟩ a4).setCell ⟨w.heap.size, 5, none⟩ a5).setCell ⟨w.heap.size, 6, none⟩ a6) (With own tb) (With own tb) :=
  fin_set hl hlt (fin_set hl hlt (fin_set hl hlt (fin_set hl hlt (fin_set hl hlt (fin_set hl hlt (fin_set hl hlt h 0 a0) 1 a1) 2 a2) 3 a3) 4 a4) 5 a5) 6 a6
theorem LD.set7 (h : LD w wr own B b tb S v0 v1 l0 l1 T) (hl : ∀ i, own i → i < w.heap.size) (hlt : tb < w.heap.size) (hT : w.heap.size + 1 ≤ T) {a0 a1 a2 a3 a4 a5 a6 : Value} :
    LD w (((((((wr.setCell ⟨T + 1, 0, none⟩ a0).setCell ⟨T + 1, 1, none⟩ a1).setCell ⟨T + 1, 2, none⟩ a2).setCell ⟨T + 1, 3, none⟩ a3).setCell ⟨T + 1, 4, none⟩ a4).setCell ⟨T + 1, 5, none⟩ a5).setCell ⟨T + 1, 6, none⟩ a6) own B b tb S v0 v1 l0 l1 T :=
  (((((((h.set_ hl hlt hT 0 a0).set_ hl hlt hT 1 a1).set_ hl hlt hT 2 a2).set_ hl hlt hT 3 a3).set_ hl hlt hT 4 a4).set_ hl hlt hT 5 a5).set_ hl hlt hT 6 a6)
end

set_option maxRecDepth 100000 in
set_option maxHeartbeats 1600000 in
theorem load_small {w : World} {B b tb : Nat} {S : St} {own : Nat → Prop} (h : SAt w B b tb S own) (h2 : S.n < 2) :
    Calls Try.prog 13 #[.pointer (some ⟨b, 0, none⟩), .pointer (some ⟨tb, 0, none⟩)] w fun e w' =>
      e = .returned (.tuple #[supV (loadV S), .int .i64 (loadE S)]) ∧ SAt w' B b tb (loadT S) own ∧ Turn w w' (With own tb) (With own tb) := by
  have hg0 := World.grownBy_alloc w (.cells #[.int .i64 0, .int .i64 0, .int .i64 0, .int .i64 0, .int .i64 0, .int .i64 0, .int .i64 0] 23) none
  have hl : ∀ i, own i → i < w.heap.size := fun i hi => h.own_lt hi
  have hlt := tab_lt h.t
  have HL := Lib.hid hl; have HLT := Lib.hid hlt
  have hR := Blk.new w 23 #[.int .i64 0, .int .i64 0, .int .i64 0, .int .i64 0, .int .i64 0, .int .i64 0, .int .i64 0]
  have H0 := Lib.hid (h.quiet hg0)
  have HT0 := Lib.hid (Turn.none_ (own := With own tb) hg0)
  have HSZ := Lib.hid (h.quiet hg0).size
  have HR := Lib.hid hR
  clear hg0 hl hlt
  have HE := Lib.hid (show loadE S = 1 by unfold loadE; rw [if_pos h2])
  have HV := Lib.hid (show loadV S = zero7' by unfold loadV; rw [if_pos h2])
  have HTT := Lib.hid (show loadT S = S by unfold loadT; rw [if_pos h2])
  have x0 := hR.cell 0; have x1 := hR.cell 1; have x2 := hR.cell 2; have x3 := hR.cell 3; have x4 := hR.cell 4; have x5 := hR.cell 5; have x6 := hR.cell 6
  simp only [List.getElem?_toArray, List.getElem?_cons_zero, List.getElem?_cons_succ] at x0 x1 x2 x3 x4 x5 x6
  have f0 := hR.frozen 0; have f1 := hR.frozen 1; have f2 := hR.frozen 2; have f3 := hR.frozen 3; have f4 := hR.frozen 4; have f5 := hR.frozen 5; have f6 := hR.frozen 6
  have hd2 : decide ((S.n : Int) < 2) = true := by simp; omega
  clear h hR h2
  generalize (S.n : Int) = n at *
  go_enter Try.func13, Try.ntmps13
  go_wp2_with fail
  refine HSZ.out.mono ?_
  rintro e w1 ⟨rfl, rfl⟩
  go_wp2_with fail
  refine ret_row2 rfl w.heap.size 23 _ _ rfl HR.out Try.underlying23 rfl (by kernel_rfl) rfl ⟨?_, ?_⟩
  · rw [HE.out, HV.out]; first | done | rfl
  · first | exact ⟨H0.out, HT0.out⟩ | (rw [HTT.out]; exact ⟨H0.out, HT0.out⟩)

set_option maxRecDepth 100000 in
set_option maxHeartbeats 3200000 in
theorem load_bad {w : World} {B b tb : Nat} {S : St} {own : Nat → Prop} (h : SAt w B b tb S own) (h2 : ¬ S.n < 2) (hbad : (readE S 0 1).1 ≠ 0 ∨ (readE (readE S 0 1).2 1 1).1 ≠ 0) :
    Calls Try.prog 13 #[.pointer (some ⟨b, 0, none⟩), .pointer (some ⟨tb, 0, none⟩)] w fun e w' =>
      e = .returned (.tuple #[supV (loadV S), .int .i64 (loadE S)]) ∧ SAt w' B b tb (loadT S) own ∧ Turn w w' (With own tb) (With own tb) := by
  have hg0 := World.grownBy_alloc w (.cells #[.int .i64 0, .int .i64 0, .int .i64 0, .int .i64 0, .int .i64 0, .int .i64 0, .int .i64 0] 23) none
  have hl : ∀ i, own i → i < w.heap.size := fun i hi => h.own_lt hi
  have hlt := tab_lt h.t
  have HL := Lib.hid hl; have HLT := Lib.hid hlt
  have hR := Blk.new w 23 #[.int .i64 0, .int .i64 0, .int .i64 0, .int .i64 0, .int .i64 0, .int .i64 0, .int .i64 0]
  have H0 := Lib.hid (h.quiet hg0)
  have HT0 := Lib.hid (Turn.none_ (own := With own tb) hg0)
  have HSZ := Lib.hid (h.quiet hg0).size
  have HR := Lib.hid hR
  clear hg0 hl hlt
  have hn2 : 2 ≤ S.n := by omega
  have hd2 : decide ((S.n : Int) < 2) = false := by simp; omega
  have HB := Lib.hid (readboth_any H0.out.d hn2)
  have hbe := bothE_two hn2
  have HEV := Lib.hid (show loadE S = if (readE S 0 1).1 ≠ 0 ∨ (readE (readE S 0 1).2 1 1).1 ≠ 0 then 10 else if (bestOf S.n (readL S 0 1) (readL (readE S 0 1).2 1 1)).isSome then 0 else 14 by unfold loadE; rw [if_neg h2])
  have HVV := Lib.hid (show loadV S = if (readE S 0 1).1 ≠ 0 ∨ (readE (readE S 0 1).2 1 1).1 ≠ 0 then zero7' else (bestOf S.n (readL S 0 1) (readL (readE S 0 1).2 1 1)).getD zero7' by unfold loadV; rw [if_neg h2])
  have HTT := Lib.hid (show loadT S = loadS S by unfold loadT; rw [if_neg h2])
  have hb0 := readL_lt' h.ok 0 1
  have hb1 := readL_lt' (readE_ok h.ok 0 1) 1 1
  have HN2 := Lib.hid (show (loadS S).n = S.n by unfold loadS; rw [readE_n, readE_n])
  have HL0 := Lib.hid hb0; have HL1 := Lib.hid hb1
  clear hb0 hb1 hn2 h2 h
  generalize bothE S = EE at *
  generalize loadE S = LE at *
  generalize loadV S = LV at *
  generalize loadT S = LT at *
  generalize loadS S = S2 at *
  generalize readL S 0 1 = l0 at *
  generalize readL (readE S 0 1).2 1 1 = l1 at *
  rw [if_pos hbad] at hbe HEV HVV
  clear hbad
  subst hbe
  generalize hnn : (S.n : Int) = n at *
  clear hnn
  go_enter Try.func13, Try.ntmps13
  go_wp2_with fail
  refine HSZ.out.mono ?_
  rintro e w1 ⟨rfl, rfl⟩
  go_wp2_with fail
  refine HB.out.mono ?_
  rintro e w3 ⟨v0, v1, rfl, hv0, hv1, hd, ht⟩
  obtain ⟨A0, n0, c0, rfl⟩ := gave_shape hv0
  obtain ⟨A1, n1, c1, rfl⟩ := gave_shape hv1
  clear hv0 hv1
  obtain HTT' := HTT.out
  subst HTT'
  have hR3 : Blk w3 w.heap.size 23 #[.int .i64 0, .int .i64 0, .int .i64 0, .int .i64 0, .int .i64 0, .int .i64 0, .int .i64 0] := blk_of_block HR.out (ht.block _ HR.out.lt (fun ho => by have := HL.out _ ho; omega))
  have H3 := Lib.hid (H0.out.disk hd ht); have HT3 := Lib.hid (HT0.out.trans (turn_with ht tb))
  have HR3 := Lib.hid (hR3.alloc (.cells #[.slice A0 n0 c0, .slice A1 n1 c1] 75))
  clear hR hd ht hR3
  have x0 := HR3.out.cell 0; have x1 := HR3.out.cell 1; have x2 := HR3.out.cell 2; have x3 := HR3.out.cell 3; have x4 := HR3.out.cell 4; have x5 := HR3.out.cell 5; have x6 := HR3.out.cell 6
  simp only [List.getElem?_toArray, List.getElem?_cons_zero, List.getElem?_cons_succ] at x0 x1 x2 x3 x4 x5 x6
  have f0 := HR3.out.frozen 0; have f1 := HR3.out.frozen 1; have f2 := HR3.out.frozen 2; have f3 := HR3.out.frozen 3; have f4 := HR3.out.frozen 4; have f5 := HR3.out.frozen 5; have f6 := HR3.out.frozen 6
  go_wp2_with fail
  refine ret_row2 rfl w.heap.size 23 _ _ rfl (Blk.set7 HR3.out) Try.underlying23 rfl (by kernel_rfl) rfl ⟨?_, ?_⟩
  · rw [HEV.out, HVV.out]; first | done | rfl
  · first | exact fin_set7 HL.out HLT.out ⟨H3.out.quiet (World.grownBy_alloc _ _ none), HT3.out.trans (Turn.none_ (World.grownBy_alloc _ _ none))⟩ | (rw [HTT.out]; exact fin_set7 HL.out HLT.out ⟨H3.out.quiet (World.grownBy_alloc _ _ none), HT3.out.trans (Turn.none_ (World.grownBy_alloc _ _ none))⟩)
end Go.Proofs.Ytagikgejhckfbaa.Sup
