/- One step on both disks: they answer the same, and stay the same. -/
import Derived.Test.YtkfijgdbaihhpaaDiskAny
namespace Go.Proofs.Ytkfijgdbaihhpaa.Dsk
open Go.RowKit Mem Crc DiskSpec

/-- The disk and the document's disk, both as S says, apart from one another. -/
structure Two (w : World) (B b r : Nat) (S : St) (o1 o2 : Nat → Prop) : Prop where
  d : DAt w B b S o1
  r : RAt w B r S o2
  apart : ∀ i, o1 i → ¬ o2 i
  low : B ≤ w.heap.size
def both (o1 o2 : Nat → Prop) : Nat → Prop := fun i => o1 i ∨ o2 i
section
variable {w w' w2 : World} {B b r : Nat} {S S' : St} {o1 o2 o1' o2' : Nat → Prop}
theorem DAt.lt (h : DAt w B b S o1) : ∀ i, o1 i → i < w.heap.size := by obtain ⟨_, _, _, h⟩ := h; exact h.lt
theorem RAt.lt (h : RAt w B r S o2) : ∀ i, o2 i → i < w.heap.size := by obtain ⟨_, _, _, _, _, h⟩ := h; exact h.lt
theorem DAt.least (h : DAt w B b S o1) : ∀ i, o1 i → B ≤ i := by obtain ⟨_, _, _, h⟩ := h; exact h.low
theorem RAt.least (h : RAt w B r S o2) : ∀ i, o2 i → B ≤ i := by obtain ⟨_, _, _, _, _, h⟩ := h; exact h.low
theorem DAt.ok (h : DAt w B b S o1) : S.ok := by obtain ⟨_, _, _, h⟩ := h; exact h.ok
theorem DAt.far {o o' : Nat → Prop} (h : DAt w B b S o1) (ht : Turn w w' o o') (hd : ∀ i, o1 i → ¬ o i) : DAt w' B b S o1 := by
  obtain ⟨bd, bm, f, h⟩ := h; exact ⟨bd, bm, f, h.turn ht hd⟩
theorem RAt.far {o o' : Nat → Prop} (h : RAt w B r S o2) (ht : Turn w w' o o') (hd : ∀ i, o2 i → ¬ o i) : RAt w' B r S o2 := by
  obtain ⟨bl, c, dv, vv, vs, h⟩ := h; exact ⟨bl, c, dv, vv, vs, h.turn ht hd⟩
theorem Turn.left (h : Turn w w' o1 o1') : Turn w w' (both o1 o2) (both o1' o2) :=
  ⟨h.os, h.tape, h.output, h.size, fun i hi hn => h.block i hi (fun e => hn (.inl e)), fun i hi => by
    rcases hi with hi | hi
    · rcases h.fresh i hi with h1 | h1
      · exact .inl (.inl h1)
      · exact .inr h1
    · exact .inl (.inr hi)⟩
theorem Turn.right (h : Turn w w' o2 o2') : Turn w w' (both o1 o2) (both o1 o2') :=
  ⟨h.os, h.tape, h.output, h.size, fun i hi hn => h.block i hi (fun e => hn (.inr e)), fun i hi => by
    rcases hi with hi | hi
    · exact .inl (.inl hi)
    · rcases h.fresh i hi with h1 | h1
      · exact .inl (.inr h1)
      · exact .inr h1⟩
theorem Two.grown (h : Two w B b r S o1 o2) (hg : w.grownBy w' none) : Two w' B b r S o1 o2 :=
  ⟨h.d.far (Turn.none_ (own := fun _ => False) hg) (fun _ _ e => e), h.r.far (Turn.none_ (own := fun _ => False) hg) (fun _ _ e => e), h.apart, Nat.le_trans h.low hg.size⟩
/-- The one is called, then the other. -/
theorem Two.step (h : Two w B b r S o1 o2) (_hd : DAt w' B b S' o1') (ht : Turn w w' o1 o1') : RAt w' B r S o2 ∧ ∀ i, o1' i → ¬ o2 i :=
  ⟨h.r.far ht (fun i hi ho => h.apart i ho hi), fun i hi ho => by
    rcases ht.fresh i hi with h1 | h1
    · exact h.apart i h1 ho
    · have := h.r.lt i ho; omega⟩
theorem Two.next (h : Two w B b r S o1 o2) (hd : DAt w' B b S' o1') (ht : Turn w w' o1 o1') (hr : RAt w2 B r S' o2') (ht2 : Turn w' w2 o2 o2') : Two w2 B b r S' o1' o2' ∧ Turn w w2 (both o1 o2) (both o1' o2') := by
  obtain ⟨h1, h2⟩ := h.step hd ht
  refine ⟨⟨hd.far ht2 h2, hr, fun i hi ho => ?_, Nat.le_trans h.low (Nat.le_trans ht.size ht2.size)⟩, (ht.left (o2 := o2)).trans (ht2.right (o1 := o1'))⟩
  rcases ht2.fresh i ho with h3 | h3
  · exact h2 i hi h3
  · have := hd.lt i hi; omega
theorem cell_turn {g o : Nat} {v : Value} (hc : w.cell? ⟨g, o, none⟩ = some v) (hl : g < w.heap.size) (ht : Turn w w' o1 o1') (hn : ¬ o1 g) : w'.cell? ⟨g, o, none⟩ = some v := by
  rw [World.cell?_of_block (a := ⟨g, o, none⟩) (ht.block g hl hn)]; exact hc
theorem Turn.not_ {g : Nat} (ht : Turn w w' o1 o1') (hl : g < w.heap.size) (hn : ¬ o1 g) : ¬ o1' g := fun h => by
  rcases ht.fresh g h with h1 | h1
  · exact hn h1
  · omega
end

/-- What is left of one step. -/
def stepE (S : St) (kind at_ count bytes fill : Int) (fua : Bool) (picks : List Int) : St :=
  if kind = 0 then (readE S at_ count).2 else if kind = 1 then (writeE S fua at_ (dataL count bytes fill)).2 else if kind = 2 then (flushE S).2
  else if kind = 3 then (failE S at_ count).2 else if kind = 4 then (cutE S count).2 else if kind = 5 then S.crash picks else S

theorem Picks.far {w w' : World} {o1 o1' o2 : Nat → Prop} {A : Option Addr} {n : Nat} {l : List Int} (h1 : Picks w o1 A n l) (h2 : Picks w o2 A n l) (ht : Turn w w' o1 o1') : Picks w' o2 A n l := by
  refine ⟨h2.1, h2.2.1, fun hn => ?_⟩
  obtain ⟨g, o, rfl, hlt, hno, hc⟩ := h2.2.2 hn
  obtain ⟨g1, p1, e1, _, hno1, _⟩ := h1.2.2 hn
  cases e1
  exact ⟨g, o, rfl, Nat.lt_of_lt_of_le hlt ht.size, hno, fun j hj => cell_turn (hc j hj) hlt ht hno1⟩

set_option maxRecDepth 100000 in
set_option maxHeartbeats 3200000 in
theorem does_flush {w : World} {B b r : Nat} {S : St} {o1 o2 : Nat → Prop} (h : Two w B b r S o1 o2) (at_ count bytes fill : Int) (fua : Bool) (A : Option Addr) (n cc : Nat) :
    Calls Try.prog 12 #[.pointer (some ⟨b, 0, none⟩), .pointer (some ⟨r, 0, none⟩), .agg #[.int .i64 2, .int .i64 at_, .int .i64 count, .int .i64 bytes, .int .i64 fill, .bool fua, .slice A n cc]] w fun e w' => e = .returned (.bool true) ∧ ∃ o1' o2', Two w' B b r (flushE S).2 o1' o2' ∧ Turn w w' (both o1 o2) (both o1' o2') := by
  have hg0 := World.grownBy_alloc w (.cells #[.int .i64 2, .int .i64 at_, .int .i64 count, .int .i64 bytes, .int .i64 fill, .bool fua, .slice A n cc] 34) none
  have hb0 := Blk.new w 34 #[.int .i64 2, .int .i64 at_, .int .i64 count, .int .i64 bytes, .int .i64 fill, .bool fua, .slice A n cc]
  have h0 := h.grown hg0
  have HT0 := Lib.hid (Turn.none_ (own := both o1 o2) hg0)
  have hn1 : ¬ o1 w.heap.size := fun e => by have := h.d.lt _ e; omega
  have hn2 : ¬ o2 w.heap.size := fun e => by have := h.r.lt _ e; omega
  have hlx := hb0.lt
  have H0 := Lib.hid h0; have HB0 := Lib.hid hb0; have HN1 := Lib.hid hn1; have HN2 := Lib.hid hn2
  have q0 := hb0.cell 0
  simp only [List.getElem?_toArray, List.getElem?_cons_zero] at q0
  clear hg0 h0 hn1 hn2
  clear hb0 h
  go_enter Try.func12, Try.ntmps12
  go_wp2_with fail
  refine (disk_flush_all H0.out.d).mono ?_
  rintro e w2 ⟨rfl, hd, ht⟩
  obtain ⟨hr, hap⟩ := H0.out.step hd ht
  have HD := Lib.hid hd; have HT := Lib.hid ht; have HR := Lib.hid hr; clear hd ht hr hap
  go_wp2_with fail
  refine (ref_flush_all HR.out).mono ?_
  rintro e w3 ⟨rfl, hr, ht2⟩
  have HN := Lib.hid (H0.out.next HD.out HT.out hr ht2); clear hr ht2
  go_wp2
  go_ret
  exact ⟨rfl, _, _, HN.out.1, HT0.out.trans HN.out.2⟩

set_option maxRecDepth 100000 in
set_option maxHeartbeats 3200000 in
theorem does_fail {w : World} {B b r : Nat} {S : St} {o1 o2 : Nat → Prop} (h : Two w B b r S o1 o2) (at_ count bytes fill : Int) (fua : Bool) (A : Option Addr) (n cc : Nat) :
    Calls Try.prog 12 #[.pointer (some ⟨b, 0, none⟩), .pointer (some ⟨r, 0, none⟩), .agg #[.int .i64 3, .int .i64 at_, .int .i64 count, .int .i64 bytes, .int .i64 fill, .bool fua, .slice A n cc]] w fun e w' => e = .returned (.bool true) ∧ ∃ o1' o2', Two w' B b r (failE S at_ count).2 o1' o2' ∧ Turn w w' (both o1 o2) (both o1' o2') := by
  have hg0 := World.grownBy_alloc w (.cells #[.int .i64 3, .int .i64 at_, .int .i64 count, .int .i64 bytes, .int .i64 fill, .bool fua, .slice A n cc] 34) none
  have hb0 := Blk.new w 34 #[.int .i64 3, .int .i64 at_, .int .i64 count, .int .i64 bytes, .int .i64 fill, .bool fua, .slice A n cc]
  have h0 := h.grown hg0
  have HT0 := Lib.hid (Turn.none_ (own := both o1 o2) hg0)
  have hn1 : ¬ o1 w.heap.size := fun e => by have := h.d.lt _ e; omega
  have hn2 : ¬ o2 w.heap.size := fun e => by have := h.r.lt _ e; omega
  have hlx := hb0.lt
  have H0 := Lib.hid h0; have HB0 := Lib.hid hb0; have HN1 := Lib.hid hn1; have HN2 := Lib.hid hn2
  have q0 := hb0.cell 0
  simp only [List.getElem?_toArray, List.getElem?_cons_zero] at q0
  clear hg0 h0 hn1 hn2
  have HK0 := Lib.hid (show (w.alloc (.cells #[.int .i64 3, .int .i64 at_, .int .i64 count, .int .i64 bytes, .int .i64 fill, .bool fua, .slice A n cc] 34)).drew.cell? ⟨w.heap.size, 1, none⟩ = some (.int .i64 at_) ∧ (w.alloc (.cells #[.int .i64 3, .int .i64 at_, .int .i64 count, .int .i64 bytes, .int .i64 fill, .bool fua, .slice A n cc] 34)).drew.cell? ⟨w.heap.size, 2, none⟩ = some (.int .i64 count) from ⟨by rw [hb0.drew.cell]; rfl, by rw [hb0.drew.cell]; rfl⟩)
  have HLX := Lib.hid hlx
  have H0d := Lib.hid (H0.out.grown (grown_drew _ none))
  have HT0d := Lib.hid (HT0.out.drew)
  clear hb0 h
  go_enter Try.func12, Try.ntmps12
  go_wp2_with fail
  go_region_held3 (fun wx => wx.cell? ⟨w.heap.size, 1, none⟩ = some (.int .i64 at_) ∧ wx.cell? ⟨w.heap.size, 2, none⟩ = some (.int .i64 count))
    (first
      | exact HK0.out
      | exact HK1.out
      | exact HK2.out)
    (first
      | (go_at_call 26
         refine (disk_fail_all H0d.out.d at_ count).mono ?_
         rintro e w2 ⟨rfl, hd, ht⟩
         obtain ⟨hr, hap⟩ := H0d.out.step hd ht
         have HD := Lib.hid hd; have HT := Lib.hid ht; have HR := Lib.hid hr
         have HK1 := Lib.hid (show w2.cell? ⟨w.heap.size, 1, none⟩ = some (.int .i64 at_) ∧ w2.cell? ⟨w.heap.size, 2, none⟩ = some (.int .i64 count) from ⟨cell_turn HK0.out.1 HLX.out ht HN1.out, cell_turn HK0.out.2 HLX.out ht HN1.out⟩)
         clear hd ht hr hap)
      | (go_at_call 30
         refine (ref_fail_all HR.out at_ count).mono ?_
         rintro e w3 ⟨rfl, hr, ht2⟩
         have HN := Lib.hid (H0d.out.next HD.out HT.out hr ht2)
         have HK2 := Lib.hid (show w3.cell? ⟨w.heap.size, 1, none⟩ = some (.int .i64 at_) ∧ w3.cell? ⟨w.heap.size, 2, none⟩ = some (.int .i64 count) from ⟨cell_turn HK1.out.1 (Nat.lt_of_lt_of_le HLX.out HT.out.size) ht2 HN2.out, cell_turn HK1.out.2 (Nat.lt_of_lt_of_le HLX.out HT.out.size) ht2 HN2.out⟩)
         clear hr ht2))
  go_wp2
  go_ret
  exact ⟨rfl, _, _, HN.out.1, HT0d.out.trans HN.out.2⟩

set_option maxRecDepth 100000 in
set_option maxHeartbeats 3200000 in
theorem does_cut {w : World} {B b r : Nat} {S : St} {o1 o2 : Nat → Prop} (h : Two w B b r S o1 o2) (at_ count bytes fill : Int) (fua : Bool) (A : Option Addr) (n cc : Nat) :
    Calls Try.prog 12 #[.pointer (some ⟨b, 0, none⟩), .pointer (some ⟨r, 0, none⟩), .agg #[.int .i64 4, .int .i64 at_, .int .i64 count, .int .i64 bytes, .int .i64 fill, .bool fua, .slice A n cc]] w fun e w' => e = .returned (.bool true) ∧ ∃ o1' o2', Two w' B b r (cutE S count).2 o1' o2' ∧ Turn w w' (both o1 o2) (both o1' o2') := by
  have hg0 := World.grownBy_alloc w (.cells #[.int .i64 4, .int .i64 at_, .int .i64 count, .int .i64 bytes, .int .i64 fill, .bool fua, .slice A n cc] 34) none
  have hb0 := Blk.new w 34 #[.int .i64 4, .int .i64 at_, .int .i64 count, .int .i64 bytes, .int .i64 fill, .bool fua, .slice A n cc]
  have h0 := h.grown hg0
  have HT0 := Lib.hid (Turn.none_ (own := both o1 o2) hg0)
  have hn1 : ¬ o1 w.heap.size := fun e => by have := h.d.lt _ e; omega
  have hn2 : ¬ o2 w.heap.size := fun e => by have := h.r.lt _ e; omega
  have hlx := hb0.lt
  have H0 := Lib.hid h0; have HB0 := Lib.hid hb0; have HN1 := Lib.hid hn1; have HN2 := Lib.hid hn2
  have q0 := hb0.cell 0
  simp only [List.getElem?_toArray, List.getElem?_cons_zero] at q0
  clear hg0 h0 hn1 hn2
  have HK0 := Lib.hid (show (w.alloc (.cells #[.int .i64 4, .int .i64 at_, .int .i64 count, .int .i64 bytes, .int .i64 fill, .bool fua, .slice A n cc] 34)).drew.cell? ⟨w.heap.size, 2, none⟩ = some (.int .i64 count) from by rw [hb0.drew.cell]; rfl)
  have HLX := Lib.hid hlx
  have H0d := Lib.hid (H0.out.grown (grown_drew _ none))
  have HT0d := Lib.hid (HT0.out.drew)
  clear hb0 h
  go_enter Try.func12, Try.ntmps12
  go_wp2_with fail
  go_region_held3 (fun wx => wx.cell? ⟨w.heap.size, 2, none⟩ = some (.int .i64 count))
    (first
      | exact HK0.out
      | exact HK1.out
      | exact HK2.out)
    (first
      | (go_at_call 27
         refine (disk_cut_all H0d.out.d count).mono ?_
         rintro e w2 ⟨rfl, hd, ht⟩
         obtain ⟨hr, hap⟩ := H0d.out.step hd ht
         have HD := Lib.hid hd; have HT := Lib.hid ht; have HR := Lib.hid hr
         have HK1 := Lib.hid (show w2.cell? ⟨w.heap.size, 2, none⟩ = some (.int .i64 count) from cell_turn HK0.out HLX.out ht HN1.out)
         clear hd ht hr hap)
      | (go_at_call 31
         refine (ref_cut_all HR.out count).mono ?_
         rintro e w3 ⟨rfl, hr, ht2⟩
         have HN := Lib.hid (H0d.out.next HD.out HT.out hr ht2)
         have HK2 := Lib.hid (show w3.cell? ⟨w.heap.size, 2, none⟩ = some (.int .i64 count) from cell_turn HK1.out (Nat.lt_of_lt_of_le HLX.out HT.out.size) ht2 HN2.out)
         clear hr ht2))
  go_wp2
  go_ret
  exact ⟨rfl, _, _, HN.out.1, HT0d.out.trans HN.out.2⟩

set_option maxRecDepth 100000 in
set_option maxHeartbeats 3200000 in
theorem does_crash {w : World} {B b r : Nat} {S : St} {o1 o2 : Nat → Prop} (h : Two w B b r S o1 o2) (at_ count bytes fill : Int) (fua : Bool) (A : Option Addr) (n cc : Nat) (picks : List Int) (hp1 : Picks w o1 A n picks) (hp2 : Picks w o2 A n picks) (hnm : n ≤ 9223372036854775807) (hroom : ∀ i, (S.ver i).length < 549755813888) :
    Calls Try.prog 12 #[.pointer (some ⟨b, 0, none⟩), .pointer (some ⟨r, 0, none⟩), .agg #[.int .i64 5, .int .i64 at_, .int .i64 count, .int .i64 bytes, .int .i64 fill, .bool fua, .slice A n cc]] w fun e w' => e = .returned (.bool true) ∧ ∃ o1' o2', Two w' B b r (S.crash picks) o1' o2' ∧ Turn w w' (both o1 o2) (both o1' o2') := by
  have hg0 := World.grownBy_alloc w (.cells #[.int .i64 5, .int .i64 at_, .int .i64 count, .int .i64 bytes, .int .i64 fill, .bool fua, .slice A n cc] 34) none
  have hb0 := Blk.new w 34 #[.int .i64 5, .int .i64 at_, .int .i64 count, .int .i64 bytes, .int .i64 fill, .bool fua, .slice A n cc]
  have h0 := h.grown hg0
  have HT0 := Lib.hid (Turn.none_ (own := both o1 o2) hg0)
  have hn1 : ¬ o1 w.heap.size := fun e => by have := h.d.lt _ e; omega
  have hn2 : ¬ o2 w.heap.size := fun e => by have := h.r.lt _ e; omega
  have hlx := hb0.lt
  have H0 := Lib.hid h0; have HB0 := Lib.hid hb0; have HN1 := Lib.hid hn1; have HN2 := Lib.hid hn2
  have q0 := hb0.cell 0
  simp only [List.getElem?_toArray, List.getElem?_cons_zero] at q0
  clear hg0 h0 hn1 hn2
  have q6 := hb0.cell 6
  simp only [List.getElem?_toArray, List.getElem?_cons_zero, List.getElem?_cons_succ] at q6
  have HP1 := Lib.hid (hp1.turn (Turn.none_ (World.grownBy_alloc w (.cells #[.int .i64 5, .int .i64 at_, .int .i64 count, .int .i64 bytes, .int .i64 fill, .bool fua, .slice A n cc] 34) none)))
  have HP2 := Lib.hid (hp2.turn (Turn.none_ (World.grownBy_alloc w (.cells #[.int .i64 5, .int .i64 at_, .int .i64 count, .int .i64 bytes, .int .i64 fill, .bool fua, .slice A n cc] 34) none)))
  have Q6 := Lib.hid q6; have HLX := Lib.hid hlx
  have HROOM := Lib.hid hroom
  clear hp1 hp2 hroom
  clear hb0 h
  go_enter Try.func12, Try.ntmps12
  go_wp2_with fail
  refine (disk_crash_all H0.out.d A n cc picks HP1.out hnm HROOM.out).mono ?_
  rintro e w2 ⟨rfl, hd, ht⟩
  obtain ⟨hr, hap⟩ := H0.out.step hd ht
  have q62 := cell_turn Q6.out HLX.out ht HN1.out
  have HP3 := Lib.hid (show Picks w2 o2 A n picks from Picks.far HP1.out HP2.out ht)
  have HD := Lib.hid hd; have HT := Lib.hid ht; have HR := Lib.hid hr; clear hd ht hr hap
  go_wp2_with fail
  refine (ref_crash_all HR.out A n cc picks HP3.out hnm HROOM.out).mono ?_
  rintro e w3 ⟨rfl, hr, ht2⟩
  have HN := Lib.hid (H0.out.next HD.out HT.out hr ht2); clear hr ht2
  go_wp2
  go_ret
  exact ⟨rfl, _, _, HN.out.1, HT0.out.trans HN.out.2⟩

set_option maxRecDepth 100000 in
set_option maxHeartbeats 3200000 in
theorem does_else {w : World} {B b r : Nat} {S : St} {o1 o2 : Nat → Prop} (h : Two w B b r S o1 o2) (kind at_ count bytes fill : Int) (fua : Bool) (A : Option Addr) (n cc : Nat) (h0' : kind ≠ 0) (h1' : kind ≠ 1) (h2' : kind ≠ 2) (h3' : kind ≠ 3) (h4' : kind ≠ 4) (h5' : kind ≠ 5) :
    Calls Try.prog 12 #[.pointer (some ⟨b, 0, none⟩), .pointer (some ⟨r, 0, none⟩), .agg #[.int .i64 kind, .int .i64 at_, .int .i64 count, .int .i64 bytes, .int .i64 fill, .bool fua, .slice A n cc]] w fun e w' => e = .returned (.bool true) ∧ ∃ o1' o2', Two w' B b r S o1' o2' ∧ Turn w w' (both o1 o2) (both o1' o2') := by
  have hg0 := World.grownBy_alloc w (.cells #[.int .i64 kind, .int .i64 at_, .int .i64 count, .int .i64 bytes, .int .i64 fill, .bool fua, .slice A n cc] 34) none
  have hb0 := Blk.new w 34 #[.int .i64 kind, .int .i64 at_, .int .i64 count, .int .i64 bytes, .int .i64 fill, .bool fua, .slice A n cc]
  have h0 := h.grown hg0
  have HT0 := Lib.hid (Turn.none_ (own := both o1 o2) hg0)
  have hn1 : ¬ o1 w.heap.size := fun e => by have := h.d.lt _ e; omega
  have hn2 : ¬ o2 w.heap.size := fun e => by have := h.r.lt _ e; omega
  have hlx := hb0.lt
  have H0 := Lib.hid h0; have HB0 := Lib.hid hb0; have HN1 := Lib.hid hn1; have HN2 := Lib.hid hn2
  have q0 := hb0.cell 0
  simp only [List.getElem?_toArray, List.getElem?_cons_zero] at q0
  clear hg0 h0 hn1 hn2
  clear hb0 h
  go_enter Try.func12, Try.ntmps12
  have e0 : (kind == 0) = false := by simpa using h0'
  have e1 : (kind == 1) = false := by simpa using h1'
  have e2 : (kind == 2) = false := by simpa using h2'
  have e3 : (kind == 3) = false := by simpa using h3'
  have e4 : (kind == 4) = false := by simpa using h4'
  have e5 : (kind == 5) = false := by simpa using h5'
  go_wp2
  go_ret
  exact ⟨rfl, _, _, H0.out, HT0.out⟩
end Go.Proofs.Ytkfijgdbaihhpaa.Dsk
