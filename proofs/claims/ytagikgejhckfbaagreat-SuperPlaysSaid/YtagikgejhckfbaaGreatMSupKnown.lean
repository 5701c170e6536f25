/- Nil disks and tables; the laws' test of a known superblock. -/
import Derived.Test.YtagikgejhckfbaaGreatMSupBoth
import Derived.Test.YtagikgejhckfbaaGreatMCodecSpec
import Derived.Test.YtagikgejhckfbaaGreatMDiskNew
import Derived.Test.YtagikgejhckfbaaGreatMOnce
import Derived.Laws.StructEq
namespace Go.Proofs.YtagikgejhckfbaaGreat.Sup
open Go.RowKit CrcMath CodecMath Mem Crc Codec DiskSpec Dsk

set_option maxRecDepth 100000 in
set_option maxHeartbeats 800000 in
theorem load_nil_d (tv : Value) (w : World) :
    Calls Tryz.prog 10 #[.pointer none, tv] w fun e w' => e = .returned (.tuple #[supV zero7', .int .i64 1]) ∧ w.grownBy w' none := by
  have hR := Blk.new w 34 #[.int .i64 0, .int .i64 0, .int .i64 0, .int .i64 0, .int .i64 0, .int .i64 0, .int .i64 0]
  have HR := Lib.hid hR
  have HG0 := Lib.hid (World.grownBy_alloc w (.cells #[.int .i64 0, .int .i64 0, .int .i64 0, .int .i64 0, .int .i64 0, .int .i64 0, .int .i64 0] 34) none)
  have x0 := hR.cell 0; have x1 := hR.cell 1; have x2 := hR.cell 2; have x3 := hR.cell 3; have x4 := hR.cell 4; have x5 := hR.cell 5; have x6 := hR.cell 6
  simp only [List.getElem?_toArray, List.getElem?_cons_zero, List.getElem?_cons_succ] at x0 x1 x2 x3 x4 x5 x6
  have f0 := hR.frozen 0; have f1 := hR.frozen 1; have f2 := hR.frozen 2; have f3 := hR.frozen 3; have f4 := hR.frozen 4; have f5 := hR.frozen 5; have f6 := hR.frozen 6
  clear hR
  go_enter Tryz.func10, Tryz.ntmps10
  go_wp2_with fail
  refine ret_row2 rfl w.heap.size 34 _ _ rfl HR.out Tryz.underlying34 rfl (by kernel_rfl) rfl ⟨rfl, HG0.out⟩
set_option maxRecDepth 100000 in
set_option maxHeartbeats 800000 in
theorem load_nil_t (b : Nat) (w : World) :
    Calls Tryz.prog 10 #[.pointer (some ⟨b, 0, none⟩), .pointer none] w fun e w' => e = .returned (.tuple #[supV zero7', .int .i64 1]) ∧ w.grownBy w' none := by
  have hR := Blk.new w 34 #[.int .i64 0, .int .i64 0, .int .i64 0, .int .i64 0, .int .i64 0, .int .i64 0, .int .i64 0]
  have HR := Lib.hid hR
  have HG0 := Lib.hid (World.grownBy_alloc w (.cells #[.int .i64 0, .int .i64 0, .int .i64 0, .int .i64 0, .int .i64 0, .int .i64 0, .int .i64 0] 34) none)
  have x0 := hR.cell 0; have x1 := hR.cell 1; have x2 := hR.cell 2; have x3 := hR.cell 3; have x4 := hR.cell 4; have x5 := hR.cell 5; have x6 := hR.cell 6
  simp only [List.getElem?_toArray, List.getElem?_cons_zero, List.getElem?_cons_succ] at x0 x1 x2 x3 x4 x5 x6
  have f0 := hR.frozen 0; have f1 := hR.frozen 1; have f2 := hR.frozen 2; have f3 := hR.frozen 3; have f4 := hR.frozen 4; have f5 := hR.frozen 5; have f6 := hR.frozen 6
  clear hR
  go_enter Tryz.func10, Tryz.ntmps10
  go_wp2_with fail
  refine ret_row2 rfl w.heap.size 34 _ _ rfl HR.out Tryz.underlying34 rfl (by kernel_rfl) rfl ⟨rfl, HG0.out⟩
set_option maxRecDepth 100000 in
set_option maxHeartbeats 800000 in
theorem save_nil_d (tv : Value) (a0 a1 a2 a3 a4 a5 a6 : Int) (w : World) :
    Calls Tryz.prog 8 #[.pointer none, tv, .agg #[.int .i64 a0, .int .i64 a1, .int .i64 a2, .int .i64 a3, .int .i64 a4, .int .i64 a5, .int .i64 a6]] w fun e w' => e = .returned (.int .i64 1) ∧ w.grownBy w' none := by
  have HG0 := Lib.hid (World.grownBy_alloc w (.cells #[.int .i64 a0, .int .i64 a1, .int .i64 a2, .int .i64 a3, .int .i64 a4, .int .i64 a5, .int .i64 a6] 34) none)
  go_enter Tryz.func8, Tryz.ntmps8
  go_wp2_with fail
  go_quiet (fail)
  go_wp2
  go_ret
  exact ⟨rfl, grown_drewN HG0.out _⟩
set_option maxRecDepth 100000 in
set_option maxHeartbeats 800000 in
theorem save_nil_t (b : Nat) (a0 a1 a2 a3 a4 a5 a6 : Int) (w : World) :
    Calls Tryz.prog 8 #[.pointer (some ⟨b, 0, none⟩), .pointer none, .agg #[.int .i64 a0, .int .i64 a1, .int .i64 a2, .int .i64 a3, .int .i64 a4, .int .i64 a5, .int .i64 a6]] w fun e w' => e = .returned (.int .i64 1) ∧ w.grownBy w' none := by
  have HG0 := Lib.hid (World.grownBy_alloc w (.cells #[.int .i64 a0, .int .i64 a1, .int .i64 a2, .int .i64 a3, .int .i64 a4, .int .i64 a5, .int .i64 a6] 34) none)
  go_enter Tryz.func8, Tryz.ntmps8
  go_wp2_with fail
  go_quiet (fail)
  go_wp2
  go_ret
  exact ⟨rfl, grown_drewN HG0.out _⟩

/-- A new disk, a table beside it. -/
theorem sat_new {w w2 : World} {b bd bm : Nat} {n : Nat} {f : Nat → Option Value} {own : Nat → Prop} {tb : Nat} (hT : Tab w tb) (hl : Lay w2 w.heap.size b bd bm f (St.new n) own) (hg : w.grownBy w2 none) :
    SAt w2 w.heap.size b tb (plain n fun _ => DiskSpec.zeros) own :=
  ⟨⟨bd, bm, f, hl⟩, tab_keep hT hg (by simp), fun ho => by have := hl.low _ ho; have := tab_lt hT; omega, hg.size⟩
theorem sup_below {w w1 w2 : World} (h : w.grownBy w1 none) (k : Below w.heap.size w1 w2) : w.grownBy w2 none :=
  ⟨k.os.trans h.os, k.tape.trans h.tape, k.output.trans h.output, Nat.le_trans h.size k.size, fun i hi hn => (k.block i hi).trans (h.block i hi hn)⟩
theorem load_plain {w : World} {B b tb n : Nat} {dur : Nat → List Nat} {own : Nat → Prop} (h : SAt w B b tb (plain n dur) own) (h2 : 2 ≤ n) :
    Calls Tryz.prog 10 #[.pointer (some ⟨b, 0, none⟩), .pointer (some ⟨tb, 0, none⟩)] w fun e w' =>
      e = .returned (.tuple #[supV ((bestP n dur).getD zero7'), .int .i64 (if (bestP n dur).isSome then 0 else 14)]) ∧ SAt w' B b tb (plain n dur) own ∧ Turn w w' (With own tb) (With own tb) := by
  have hc := load_any h
  rw [plain_loadT h2, (plain_load h2).1, (plain_load h2).2] at hc
  exact hc
theorem save_plain {w : World} {B b tb n : Nat} {dur : Nat → List Nat} {own : Nat → Prop} (h : SAt w B b tb (plain n dur) own) (a0 a1 a2 a3 a4 a5 a6 : Int) (hm : mayB [a0, a1, a2, a3, a4, a5, a6] n = true) :
    Calls Tryz.prog 8 #[.pointer (some ⟨b, 0, none⟩), .pointer (some ⟨tb, 0, none⟩), .agg #[.int .i64 a0, .int .i64 a1, .int .i64 a2, .int .i64 a3, .int .i64 a4, .int .i64 a5, .int .i64 a6]] w fun e w' =>
      e = .returned (.int .i64 0) ∧ ∃ own', SAt w' B b tb (plain n (upd dur (placeOf [a0, a1, a2, a3, a4, a5, a6]) (frame (superB [a0, a1, a2, a3, a4, a5, a6])))) own' ∧ Turn w w' (With own tb) (With own' tb) := by
  have hc := save_any h a0 a1 a2 a3 a4 a5 a6 (fun i => by show ([] : List (List Nat)).length < _; simp)
  rw [plain_save rfl hm] at hc
  exact hc
theorem save_plain_no {w : World} {B b tb n : Nat} {dur : Nat → List Nat} {own : Nat → Prop} (h : SAt w B b tb (plain n dur) own) (a0 a1 a2 a3 a4 a5 a6 : Int) (hm : mayB [a0, a1, a2, a3, a4, a5, a6] n = false) :
    Calls Tryz.prog 8 #[.pointer (some ⟨b, 0, none⟩), .pointer (some ⟨tb, 0, none⟩), .agg #[.int .i64 a0, .int .i64 a1, .int .i64 a2, .int .i64 a3, .int .i64 a4, .int .i64 a5, .int .i64 a6]] w fun e w' =>
      e = .returned (.int .i64 1) ∧ ∃ own', SAt w' B b tb (plain n dur) own' ∧ Turn w w' (With own tb) (With own' tb) := by
  have hc := save_any h a0 a1 a2 a3 a4 a5 a6 (fun i => by show ([] : List (List Nat)).length < _; simp)
  rw [plain_save_no hm] at hc
  exact hc

/-- Where a law stands: since w nothing that was there has turned; a disk and a table, both newer. -/
structure Kn (w wx : World) (B b tb : Nat) (S : St) (own : Nat → Prop) : Prop where
  s : SAt wx B b tb S own
  g : w.grownBy wx none
  t : w.heap.size ≤ tb
  b : w.heap.size ≤ B
section
variable {w wx w' : World} {B b tb g : Nat} {S S' : St} {own own' : Nat → Prop} {t : TypeId} {cs : Array Value}
theorem Kn.quiet (h : Kn w wx B b tb S own) (hg : wx.grownBy w' none) : Kn w w' B b tb S own := ⟨h.s.quiet hg, h.g.trans hg, h.t, h.b⟩
theorem Kn.turn (h : Kn w wx B b tb S own) (hs : SAt w' B b tb S' own') (ht : Turn wx w' (With own tb) (With own' tb)) : Kn w w' B b tb S' own' :=
  ⟨hs, sup_below h.g (ht.below (fun i hi => by
    rcases hi with hi | rfl
    · exact Nat.le_trans h.b (h.s.low hi)
    · exact h.t) h.g.size), h.t, h.b⟩
theorem Kn.out (h : Kn w wx B b tb S own) (hg : wx.heap.size ≤ g) : ¬ With own tb g := by
  rintro (h1 | rfl)
  · have := h.s.own_lt h1; omega
  · have := tab_lt h.s.t; omega
theorem blk_with (hb : Blk wx g t cs) (ho : ¬ With own tb g) (ht : Turn wx w' (With own tb) (With own' tb)) : Blk w' g t cs ∧ ¬ With own' tb g :=
  ⟨blk_of_block hb (ht.block g hb.lt ho), fun h => by
    rcases ht.fresh g h with h1 | h1
    · exact ho h1
    · have := hb.lt; omega⟩
end

set_option maxRecDepth 100000 in
set_option maxHeartbeats 3200000 in
theorem known_any (w : World) :
    Calls Tryz.prog 7 #[] w fun e w' => e = .returned (.bool true) ∧ w.grownBy w' none := by
  have hm : mayB [1, 1, 16, 18, 64, 0, 0] ((100 : Nat) : Int) = true := by decide
  have hpl : placeOf [1, 1, 16, 18, 64, 0, 0] = 1 := by decide
  have hbz := best_zeros 100
  have hb1 : bestP 100 (upd (fun _ => DiskSpec.zeros) 1 (frame (superB [1, 1, 16, 18, 64, 0, 0]))) = some [1, 1, 16, 18, 64, 0, 0] := by
    unfold bestP bestOf
    rw [upd_ne _ _ (by omega : (0 : Nat) ≠ 1), upd_same, sound_no superR_zeros, sound_of rfl hm (by decide)]
    rfl
  have HM := Lib.hid hm; have HPL := Lib.hid hpl; have HBZ := Lib.hid hbz; have HB1 := Lib.hid hb1
  clear hm hpl hbz hb1
  have hT : Tab (w.alloc (.cells zeroCs 61)) w.heap.size := .inl ⟨_, Blk.new w 61 zeroCs, fresh_zero⟩
  have HT := Lib.hid hT; have HG0 := Lib.hid (World.grownBy_alloc w (.cells zeroCs 61) none)
  clear hT
  go_enter Tryz.func7, Tryz.ntmps7
  go_wp2_with fail
  refine (new_any _).mono ?_
  rintro e w1 ⟨rfl, rfl⟩
  have HN := Lib.hid (show Calls Tryz.prog 5 #[.int .i64 100] (w.alloc (.cells zeroCs 61)) fun e w' => ∃ b bd bm f own, e = .returned (.tuple #[.pointer (some ⟨b, 0, none⟩), .int .i64 0]) ∧ Lay w' (w.alloc (.cells zeroCs 61)).heap.size b bd bm f (St.new 100) own ∧ (w.alloc (.cells zeroCs 61)).grownBy w' none from disk_new 100 _ (by omega) (by omega))
  go_wp2_with fail
  refine HN.out.mono ?_
  rintro e w2 ⟨b, bd, bm, f, own, rfl, hl, hg2⟩
  have HK2 := Lib.hid (show Kn w w2 (w.alloc (.cells zeroCs 61)).heap.size b w.heap.size (plain 100 fun _ => DiskSpec.zeros) own from ⟨sat_new HT.out hl hg2, HG0.out.trans hg2, Nat.le_refl _, by simp⟩)
  clear hl hg2 HN HT HG0
  generalize (w.alloc (.cells zeroCs 61)).heap.size = B at *
  generalize htb : w.heap.size = tb at *
  clear htb
  have HBX := Lib.hid (Blk.new w2 34 #[.int .i64 1, .int .i64 1, .int .i64 16, .int .i64 18, .int .i64 64, .int .i64 0, .int .i64 0])
  have HO := Lib.hid (HK2.out.out (Nat.le_refl _))
  have HK3 := Lib.hid (HK2.out.quiet (World.grownBy_alloc w2 (.cells #[.int .i64 1, .int .i64 1, .int .i64 16, .int .i64 18, .int .i64 64, .int .i64 0, .int .i64 0] 34) none))
  go_wp2_with fail
  refine (load_plain HK3.out.s (by omega)).mono ?_
  rintro e w4 ⟨rfl, hs, ht⟩
  rw [HBZ.out]
  rw [show supV ((none : Option (List Int)).getD zero7') = .agg #[.int .i64 0, .int .i64 0, .int .i64 0, .int .i64 0, .int .i64 0, .int .i64 0, .int .i64 0] from rfl, show (if (none : Option (List Int)).isSome then (0 : Int) else 14) = 14 from rfl]
  obtain ⟨hbx, ho⟩ := blk_with HBX.out HO.out ht
  have HK4 := Lib.hid ((HK3.out.turn hs ht).quiet (World.grownBy_alloc w4 (.cells #[.int .i64 0, .int .i64 0, .int .i64 0, .int .i64 0, .int .i64 0, .int .i64 0, .int .i64 0] 34) none))
  have HB4 := Lib.hid (hbx.alloc (.cells #[.int .i64 0, .int .i64 0, .int .i64 0, .int .i64 0, .int .i64 0, .int .i64 0, .int .i64 0] 34)); have HO4 := Lib.hid ho
  clear hs ht hbx ho HK2 HK3 HO HBX HBZ
  have x0 := HB4.out.cell 0; have x1 := HB4.out.cell 1; have x2 := HB4.out.cell 2; have x3 := HB4.out.cell 3; have x4 := HB4.out.cell 4; have x5 := HB4.out.cell 5; have x6 := HB4.out.cell 6
  simp only [List.getElem?_toArray, List.getElem?_cons_zero, List.getElem?_cons_succ] at x0 x1 x2 x3 x4 x5 x6
  go_wp2_with fail
  refine (save_plain HK4.out.s 1 1 16 18 64 0 0 HM.out).mono ?_
  rintro e w5 ⟨rfl, own5, hs, ht⟩
  obtain ⟨hbx, ho⟩ := blk_with HB4.out HO4.out ht
  rw [HPL.out] at hs
  have HK5 := Lib.hid (HK4.out.turn hs ht); have HB5 := Lib.hid hbx; have HO5 := Lib.hid ho
  clear hs ht hbx ho HK4 HB4 HO4 x0 x1 x2 x3 x4 x5 x6
  go_wp2_with fail
  refine (load_plain HK5.out.s (by omega)).mono ?_
  rintro e w6 ⟨rfl, hs, ht⟩
  rw [HB1.out]
  rw [show supV ((some [1, 1, 16, 18, 64, 0, 0]).getD zero7') = .agg #[.int .i64 1, .int .i64 1, .int .i64 16, .int .i64 18, .int .i64 64, .int .i64 0, .int .i64 0] from rfl, show (if (some ([1, 1, 16, 18, 64, 0, 0] : List Int)).isSome then (0 : Int) else 14) = 0 from rfl]
  obtain ⟨hbx, ho⟩ := blk_with HB5.out HO5.out ht
  have HK6 := Lib.hid ((HK5.out.turn hs ht).quiet (World.grownBy_alloc w6 (.cells #[.int .i64 1, .int .i64 1, .int .i64 16, .int .i64 18, .int .i64 64, .int .i64 0, .int .i64 0] 34) none))
  have HB6 := Lib.hid (hbx.alloc (.cells #[.int .i64 1, .int .i64 1, .int .i64 16, .int .i64 18, .int .i64 64, .int .i64 0, .int .i64 0] 34)); have HU6 := Lib.hid (Blk.new w6 34 #[.int .i64 1, .int .i64 1, .int .i64 16, .int .i64 18, .int .i64 64, .int .i64 0, .int .i64 0])
  clear hs ht hbx ho HK5 HB5 HO5 HM HPL HB1
  go_wp2_with fail
  refine (load_nil_d _ _).mono ?_
  rintro e w7 ⟨rfl, hg⟩
  rw [show supV zero7' = .agg #[.int .i64 0, .int .i64 0, .int .i64 0, .int .i64 0, .int .i64 0, .int .i64 0, .int .i64 0] from rfl]
  have hga := World.grownBy_alloc w7 (.cells #[.int .i64 0, .int .i64 0, .int .i64 0, .int .i64 0, .int .i64 0, .int .i64 0, .int .i64 0] 34) none
  have HK7 := Lib.hid (HK6.out.quiet (hg.trans hga)); have HB7 := Lib.hid (HB6.out.grown (hg.trans hga) (by simp)); have HU7 := Lib.hid (HU6.out.grown (hg.trans hga) (by simp))
  clear hg hga HK6 HB6 HU6
  go_wp2_with fail
  refine (load_nil_t b _).mono ?_
  rintro e w8 ⟨rfl, hg⟩
  rw [show supV zero7' = .agg #[.int .i64 0, .int .i64 0, .int .i64 0, .int .i64 0, .int .i64 0, .int .i64 0, .int .i64 0] from rfl]
  have hga := World.grownBy_alloc w8 (.cells #[.int .i64 0, .int .i64 0, .int .i64 0, .int .i64 0, .int .i64 0, .int .i64 0, .int .i64 0] 34) none
  have HK8 := Lib.hid (HK7.out.quiet (hg.trans hga)); have HB8 := Lib.hid (HB7.out.grown (hg.trans hga) (by simp)); have HU8 := Lib.hid (HU7.out.grown (hg.trans hga) (by simp))
  clear hg hga HK7 HB7 HU7
  have x0 := HB8.out.cell 0; have x1 := HB8.out.cell 1; have x2 := HB8.out.cell 2; have x3 := HB8.out.cell 3; have x4 := HB8.out.cell 4; have x5 := HB8.out.cell 5; have x6 := HB8.out.cell 6
  simp only [List.getElem?_toArray, List.getElem?_cons_zero, List.getElem?_cons_succ] at x0 x1 x2 x3 x4 x5 x6
  have y0 := HU8.out.cell 0; have y1 := HU8.out.cell 1; have y2 := HU8.out.cell 2; have y3 := HU8.out.cell 3; have y4 := HU8.out.cell 4; have y5 := HU8.out.cell 5; have y6 := HU8.out.cell 6
  simp only [List.getElem?_toArray, List.getElem?_cons_zero, List.getElem?_cons_succ] at y0 y1 y2 y3 y4 y5 y6
  go_wp2_with fail
  refine (save_nil_d _ 1 1 16 18 64 0 0 _).mono ?_
  rintro e w9 ⟨rfl, hg⟩
  have HK9 := Lib.hid (HK8.out.quiet hg); have HB9 := Lib.hid (HB8.out.grown hg (by simp))
  clear hg HK8 HB8 HU8 x0 x1 x2 x3 x4 x5 x6 y0 y1 y2 y3 y4 y5 y6
  have x0 := HB9.out.cell 0; have x1 := HB9.out.cell 1; have x2 := HB9.out.cell 2; have x3 := HB9.out.cell 3; have x4 := HB9.out.cell 4; have x5 := HB9.out.cell 5; have x6 := HB9.out.cell 6
  simp only [List.getElem?_toArray, List.getElem?_cons_zero, List.getElem?_cons_succ] at x0 x1 x2 x3 x4 x5 x6
  go_wp2_with fail
  refine (save_nil_t b 1 1 16 18 64 0 0 _).mono ?_
  rintro e w10 ⟨rfl, hg⟩
  have HK10 := Lib.hid (HK9.out.quiet hg)
  clear hg HK9 HB9 x0 x1 x2 x3 x4 x5 x6
  go_wp2
  go_ret
  exact ⟨rfl, HK10.out.g⟩
end Go.Proofs.YtagikgejhckfbaaGreat.Sup
