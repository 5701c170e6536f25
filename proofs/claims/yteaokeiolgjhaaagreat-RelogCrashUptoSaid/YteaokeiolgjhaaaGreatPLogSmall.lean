/- Texts of this seat's proofs: LogSmall, SupBoth, SupLoad, SupLoad2. -/
import Derived.Test.YteaokeiolgjhaaaGreatPSupSave
import Derived.Test.YteaokeiolgjhaaaGreatPCodecBits2
import Derived.Deep.QuietTactic
import Derived.BigQuiet
/- The small calls of package log: size, place, Room, Tail, Drop, pass, New. -/
namespace Go.Proofs.YteaokeiolgjhaaaGreat.Log
open Go.RowKit CrcMath CodecMath Mem Crc Codec DiskSpec Dsk Sup

set_option maxHeartbeats 400000 in
theorem size_any (n : Nat) (w : World) (h1 : n ≤ 1099511627776) : Calls Tryz.prog 142 #[.int .i64 (n : Nat)] w fun e w' => e = .returned (.int .i64 (1 + n : Nat)) ∧ w' = w := by
  go_enter Tryz.func142, Tryz.ntmps142
  go_wp2
  go_ret
  exact ⟨ret_int (by omega), rfl⟩
set_option maxHeartbeats 800000 in
theorem log_room {w : World} {g b tb : Nat} {L : Lg} (h : LBlk w g L b tb) (hk : L.taken ≤ L.ln) (hl : L.ln ≤ 1099511627776) :
    Calls Tryz.prog 108 #[.pointer (some ⟨g, 0, none⟩)] w fun e w' => e = .returned (.int .i64 (L.room : Nat)) ∧ ∃ m, w' = w.drewN m := by
  obtain ⟨_, _, _, _, x6, _, _, x11, x12⟩ := h.cells
  cases hb : L.broken with
  | true =>
    rw [hb] at x12
    have HR := Lib.hid (show L.room = 0 by simp [Lg.room, hb])
    clear hb
    go_enter Tryz.func108, Tryz.ntmps108
    go_wp2
    go_ret
    exact ⟨by rw [HR.out]; rfl, 0, rfl⟩
  | false =>
    rw [hb] at x12
    have HR := Lib.hid (show L.room = L.ln - L.taken by simp [Lg.room, hb])
    clear hb
    go_enter Tryz.func108, Tryz.ntmps108
    go_wp2_with fail
    go_quiet (fail)
    go_wp2
    go_ret
    exact ⟨by rw [HR.out]; exact ret_int (by omega), _, rfl⟩
set_option maxHeartbeats 800000 in
theorem log_tail {w : World} {g b tb : Nat} {L : Lg} (h : LBlk w g L b tb) :
    Calls Tryz.prog 109 #[.pointer (some ⟨g, 0, none⟩)] w fun e w' => e = .returned (.tuple #[.int .i64 (L.tail : Nat), .int .i64 (L.seq : Nat)]) ∧ ∃ m, w' = w.drewN m := by
  obtain ⟨_, _, _, _, _, x9, x10, _, _⟩ := h.cells
  go_enter Tryz.func109, Tryz.ntmps109
  go_wp2_with fail
  go_quiet (fail)
  go_wp2
  go_ret2
  exact ⟨rfl, _, rfl⟩
set_option maxHeartbeats 800000 in
theorem log_place {w : World} {g b tb : Nat} {L : Lg} (h : LBlk w g L b tb) (k : Nat) (hk : k ≤ 1099511627776) (ht : L.tail ≤ 1099511627776) (h1 : 1 ≤ L.ln) :
    Calls Tryz.prog 176 #[.pointer (some ⟨g, 0, none⟩), .int .i64 (k : Nat)] w fun e w' => e = .returned (.int .i64 ((L.tail + k) % L.ln : Nat)) ∧ ∃ m, w' = w.drewN m := by
  obtain ⟨_, _, _, _, x6, x9, _, _, _⟩ := h.cells
  have hw1 : IntKind.i64.wrap ((L.tail : Int) + (k : Int)) = (L.tail : Int) + (k : Int) := IntWalk.i64_in _ (by omega)
  have hne : ¬ ((L.ln : Int) = 0) := by omega
  have hnb : ((L.ln : Int) == 0) = false := by simp; omega
  have HV := Lib.hid (show ((L.tail : Int) + (k : Int)).tmod (L.ln : Int) = (((L.tail + k) % L.ln : Nat) : Int) from by
    rw [Int.tmod_eq_emod_of_nonneg (by omega)]; simp)
  have HW := Lib.hid (show IntKind.i64.wrap ((((L.tail + k) % L.ln : Nat)) : Int) = (((L.tail + k) % L.ln : Nat) : Int) from IntWalk.i64_in _ (by have := Nat.mod_lt (L.tail + k) (show 0 < L.ln by omega); have := Nat.mod_le (L.tail + k) L.ln; omega))
  go_enter Tryz.func176, Tryz.ntmps176
  go_wp2_with fail
  go_quiet (fail)
  go_wp2
  go_ret
  exact ⟨ret_int (by first | exact HV.out | (rw [HV.out, HW.out]) | (simp [HV.out])), _, rfl⟩
end Go.Proofs.YteaokeiolgjhaaaGreat.Log
/- readBoth of package super. -/
namespace Go.Proofs.YteaokeiolgjhaaaGreat.Sup
open Go.RowKit CrcMath CodecMath Mem Crc Codec DiskSpec Dsk

/-! ### Both sectors are read -/
def bothE (S : St) : Int := if (readE (readE S 0 1).2 1 1).1 = 0 then (readE S 0 1).1 else (readE (readE S 0 1).2 1 1).1
theorem readE_n (S : St) (a c : Int) : (readE S a c).2.n = S.n := by unfold readE; split; rfl; split <;> rfl
theorem readE_two {S : St} (h : 2 ≤ S.n) (a : Nat) (ha : a < 2) : (readE S a 1).1 = 0 ∨ (readE S a 1).1 = 10 := by
  have : S.has a 1 = true := by simp [St.has]; omega
  unfold readE
  rw [if_neg (by rw [this]; simp)]
  split
  · exact .inr rfl
  · exact .inl rfl
theorem bothE_two {S : St} (h : 2 ≤ S.n) : bothE S = if (readE S 0 1).1 ≠ 0 ∨ (readE (readE S 0 1).2 1 1).1 ≠ 0 then 10 else 0 := by
  have h0 := readE_two h 0 (by omega)
  have h1 := readE_two (S := (readE S 0 1).2) (by rw [readE_n]; exact h) 1 (by omega)
  unfold bothE
  rcases h0 with h0 | h0 <;> rcases h1 with h1 | h1 <;> rw [show ((0 : Nat) : Int) = 0 from rfl] at h0 <;> rw [show ((1 : Nat) : Int) = 1 from rfl] at h1 <;> rw [h0, h1] <;> simp
theorem gave_shape {w : World} {base : Nat} {v : Value} {l : List Nat} (h : Gave8 w base v l) : ∃ A n c, v = .slice A n c := by
  rcases h with ⟨rfl, _⟩ | ⟨g, cap, rfl, _⟩
  · exact ⟨_, _, _, rfl⟩
  · exact ⟨_, _, _, rfl⟩
theorem gave_grown {w w' : World} {base : Nat} {v : Value} {l : List Nat} {row : Option Nat} (h : Gave8 w base v l) (hg : w.grownBy w' row) (hr : ∀ g, base ≤ g → g < w.heap.size → row ≠ some g) : Gave8 w' base v l := by
  rcases h with h | ⟨g, cap, hv, hb, hbk⟩
  · exact .inl h
  · exact .inr ⟨g, cap, hv, hb, hbk.grown hg (fun e => hr g hb hbk.lt e.symm)⟩
theorem gave_turn {w w' : World} {base : Nat} {v : Value} {l : List Nat} {o o' : Nat → Prop} (h : Gave8 w base v l) (ht : Turn w w' o o') (hn : ∀ g, base ≤ g → ¬ o g) : Gave8 w' base v l := by
  rcases h with h | ⟨g, cap, hv, hb, hbk⟩
  · exact .inl h
  · exact .inr ⟨g, cap, hv, hb, blk_of_block hbk (ht.block g hbk.lt (hn g hb))⟩
theorem gave_low {w : World} {base base' : Nat} {v : Value} {l : List Nat} (h : Gave8 w base v l) (hb : base' ≤ base) : Gave8 w base' v l := by
  rcases h with h | ⟨g, cap, hv, hbb, hbk⟩
  · exact .inl h
  · exact .inr ⟨g, cap, hv, Nat.le_trans hb hbb, hbk⟩

/-- Where the reader of both stands: the disk, the result, the array that is filled. -/
structure RB (w wr : World) (own : Nat → Prop) (B b : Nat) (S : St) (c0 c1 : Value) : Prop where
  d : DAt wr B b S own
  t : Turn w wr own own
  r : Blk wr w.heap.size 200 #[.slice none 0 0, .slice none 0 0]
  a : Blk wr (w.heap.size + 1) 200 #[c0, c1]
  l : ∀ i, own i → i < w.heap.size
theorem RB.read {w wr w' : World} {own : Nat → Prop} {B b : Nat} {S S' : St} {c0 c1 : Value} (h : RB w wr own B b S c0 c1) (hd : DAt w' B b S' own) (ht : Turn wr w' own own) : RB w w' own B b S' c0 c1 :=
  ⟨hd, h.t.trans ht, blk_of_block h.r (ht.block _ h.r.lt (fun ho => by have := h.l _ ho; omega)), blk_of_block h.a (ht.block _ h.a.lt (fun ho => by have := h.l _ ho; omega)), h.l⟩
theorem RB.set_ {w wr : World} {own : Nat → Prop} {B b : Nat} {S : St} {c0 c1 : Value} (h : RB w wr own B b S c0 c1) (j : Nat) (v : Value) {d0 d1 : Value} (he : (#[c0, c1] : Array Value).setIfInBounds j v = #[d0, d1]) : RB w (wr.setCell ⟨w.heap.size + 1, j, none⟩ v) own B b S d0 d1 := by
  have hg : wr.grownBy (wr.setCell ⟨w.heap.size + 1, j, none⟩ v) (some (w.heap.size + 1)) := Lib.grownBy_setB (World.grownBy.refl wr _) j v
  refine ⟨dat_grown h.d hg (fun i e => by cases e; exact fun ho => by have := h.l _ ho; omega), turn_later h.t hg (by omega), h.r.grown hg (by simp), ?_, h.l⟩
  rw [← he]
  exact h.a.set_ j v
theorem gave_set {wr : World} {base g j : Nat} {v u : Value} {l : List Nat} (h : Gave8 wr base v l) (hg : g < base) : Gave8 (wr.setCell ⟨g, j, none⟩ u) base v l :=
  gave_grown h (Lib.grownBy_setB (World.grownBy.refl wr (some g)) j u) (fun k hk _ e => by cases e; omega)

set_option maxRecDepth 100000 in
set_option maxHeartbeats 3200000 in
theorem readboth_any {w : World} {B b : Nat} {S : St} {own : Nat → Prop} (h : DAt w B b S own) (hn : 2 ≤ S.n) :
    Calls Tryz.prog 138 #[.pointer (some ⟨b, 0, none⟩)] w fun e w' => ∃ v0 v1, e = .returned (.tuple #[.agg #[v0, v1], .int .i64 (bothE S)]) ∧ Gave8 w' w.heap.size v0 (readL S 0 1) ∧ Gave8 w' w.heap.size v1 (readL (readE S 0 1).2 1 1) ∧ DAt w' B b (loadS S) own ∧ Turn w w' own own := by
  have hl : ∀ i, own i → i < w.heap.size := by obtain ⟨_, _, _, hd⟩ := h; exact hd.lt
  have hr0 : ∀ wx, DAt wx B b S own → Calls Tryz.prog 106 #[.pointer (some ⟨b, 0, none⟩), .int .i64 0, .int .i64 1] wx fun e w' => ∃ v, e = .returned (.tuple #[v, .int .i64 (readE S 0 1).1]) ∧ Gave8 w' wx.heap.size v (readL S 0 1) ∧ DAt w' B b (readE S 0 1).2 own ∧ Turn wx w' own own := fun wx hx => disk_read_all hx 0 1 (by omega) (by omega)
  have hr1 : ∀ wx, DAt wx B b (readE S 0 1).2 own → Calls Tryz.prog 106 #[.pointer (some ⟨b, 0, none⟩), .int .i64 1, .int .i64 1] wx fun e w' => ∃ v, e = .returned (.tuple #[v, .int .i64 (readE (readE S 0 1).2 1 1).1]) ∧ Gave8 w' wx.heap.size v (readL (readE S 0 1).2 1 1) ∧ DAt w' B b (loadS S) own ∧ Turn wx w' own own := fun wx hx => disk_read_all hx 1 1 (by omega) (by omega)
  have h0 : (readE S 0 1).1 = 0 ∨ (readE S 0 1).1 = 10 := readE_two hn 0 (by omega)
  have h1 : (readE (readE S 0 1).2 1 1).1 = 0 ∨ (readE (readE S 0 1).2 1 1).1 = 10 := readE_two (S := (readE S 0 1).2) (by rw [readE_n]; exact hn) 1 (by omega)
  have hE : bothE S = if (readE (readE S 0 1).2 1 1).1 = 0 then (readE S 0 1).1 else (readE (readE S 0 1).2 1 1).1 := rfl
  have HL := Lib.hid hl; have HR0 := Lib.hid hr0; have HR1 := Lib.hid hr1
  have HRB := Lib.hid (show RB w ((w.alloc (.cells #[.slice none 0 0, .slice none 0 0] 200)).alloc (.cells #[.slice none 0 0, .slice none 0 0] 200)) own B b S (.slice none 0 0) (.slice none 0 0) from
    ⟨dat_grown h ((World.grownBy_alloc w _ none).trans (World.grownBy_alloc _ _ none)) (fun _ e => by cases e), Turn.none_ ((World.grownBy_alloc w _ none).trans (World.grownBy_alloc _ _ none)), (Blk.new w _ _).alloc _, by simpa using Blk.new (w.alloc (.cells #[.slice none 0 0, .slice none 0 0] 200)) 200 #[.slice none 0 0, .slice none 0 0], hl⟩)
  clear hl hr0 hr1 h
  generalize bothE S = EE at *
  generalize (readE (readE S 0 1).2 1 1).1 = E1 at *
  generalize loadS S = S2 at *
  generalize readL (readE S 0 1).2 1 1 = L1 at *
  generalize (readE S 0 1).2 = S1 at *
  generalize (readE S 0 1).1 = E0 at *
  generalize readL S 0 1 = L0 at *
  have HE := Lib.hid hE; have H0 := Lib.hid h0; have H1 := Lib.hid h1
  clear hE h0 h1 hn
  go_enter Tryz.func138, Tryz.ntmps138
  go_wp2_with fail
  go_loopw [5, 6, 7, 8, 9] (fun er _ _ _ i wr =>
      (i = .int .i64 0 ∧ er = .int .i64 0 ∧ RB w wr own B b S (.slice none 0 0) (.slice none 0 0)) ∨
      (i = .int .i64 1 ∧ er = .int .i64 E0 ∧ ∃ v0, Gave8 wr (w.heap.size + 2) v0 L0 ∧ RB w wr own B b S1 v0 (.slice none 0 0)) ∨
      (i = .int .i64 2 ∧ er = .int .i64 EE ∧ ∃ v0 v1, Gave8 wr (w.heap.size + 2) v0 L0 ∧ Gave8 wr (w.heap.size + 2) v1 L1 ∧ RB w wr own B b S2 v0 v1)) (fun _ _ _ _ i _ => 2 - (Go.RowKit.intOf i).toNat)
  case atStart => exact .inl ⟨rfl, rfl, HRB.out⟩
  case round =>
    clear HRB
    rcases hrel with ⟨rfl, rfl, hrb⟩ | ⟨rfl, rfl, v0, hg0, hrb⟩ | ⟨rfl, rfl, v0, v1, hg0, hg1, hrb⟩
    · have HRB := Lib.hid hrb
      have hsz := hrb.a.lt
      clear hrb
      go_wp2_with fail
      refine (HR0.out _ HRB.out.d).mono ?_
      rintro e w1 ⟨v, rfl, hgv, hd, ht⟩
      have hrb1 := HRB.out.read hd ht
      have hgv1 := gave_low (base' := w.heap.size + 2) hgv (by omega)
      obtain ⟨A, n, c, rfl⟩ := gave_shape hgv1
      have hcl := hrb1.a.cell 0
      have hfr := hrb1.a.frozen 0
      simp only [List.getElem?_toArray, List.getElem?_cons_zero] at hcl
      have HRB1 := Lib.hid (hrb1.set_ 0 (.slice A n c) (d0 := .slice A n c) (d1 := .slice none 0 0) rfl)
      have HGV := Lib.hid (gave_set (g := w.heap.size + 1) (j := 0) (u := .slice A n c) hgv1 (by omega))
      clear hgv hd ht hrb1 hgv1 hsz HRB
      rcases H0.out with hE0 | hE0
      · subst hE0
        go_wp2_with fail
        go_roundw
        case rel => exact .inr (.inl ⟨rfl, rfl, _, HGV.out, HRB1.out⟩)
        case measure => simp [Go.RowKit.intOf]
      · subst hE0
        go_wp2_with fail
        go_roundw
        case rel => exact .inr (.inl ⟨rfl, rfl, _, HGV.out, HRB1.out⟩)
        case measure => simp [Go.RowKit.intOf]
    · have HRB := Lib.hid hrb
      have hsz := hrb.a.lt
      obtain ⟨A0, n0, c0, rfl⟩ := gave_shape hg0
      have HGA := Lib.hid hg0
      clear hrb hg0
      go_wp2_with fail
      refine (HR1.out _ HRB.out.d).mono ?_
      rintro e w1 ⟨v, rfl, hgv, hd, ht⟩
      have hrb1 := HRB.out.read hd ht
      have hgv1 := gave_low (base' := w.heap.size + 2) hgv (by omega)
      have hga1 := gave_turn HGA.out ht (fun g hg ho => by have := HRB.out.l g ho; omega)
      obtain ⟨A, n, c, rfl⟩ := gave_shape hgv1
      have hcl := hrb1.a.cell 1
      have hfr := hrb1.a.frozen 1
      simp only [List.getElem?_toArray, List.getElem?_cons_zero, List.getElem?_cons_succ] at hcl
      have HRB1 := Lib.hid (hrb1.set_ 1 (.slice A n c) (d0 := .slice A0 n0 c0) (d1 := .slice A n c) rfl)
      have HGV := Lib.hid (gave_set (g := w.heap.size + 1) (j := 1) (u := .slice A n c) hgv1 (by omega))
      have HG0 := Lib.hid (gave_set (g := w.heap.size + 1) (j := 1) (u := .slice A n c) hga1 (by omega))
      clear hgv hd ht hrb1 hgv1 hga1 hsz HRB HGA
      rcases H1.out with hE1 | hE1
      · have HEE := Lib.hid (show EE = E0 by rw [HE.out, if_pos hE1])
        subst hE1
        go_wp2_with fail
        go_roundw
        case rel => exact .inr (.inr ⟨rfl, by rw [HEE.out], _, _, HG0.out, HGV.out, HRB1.out⟩)
        case measure => simp [Go.RowKit.intOf]
      · have HEE := Lib.hid (show EE = 10 by rw [HE.out, if_neg (by rw [hE1]; omega), hE1])
        subst hE1
        go_wp2_with fail
        go_roundw
        case rel => exact .inr (.inr ⟨rfl, by rw [HEE.out], _, _, HG0.out, HGV.out, HRB1.out⟩)
        case measure => simp [Go.RowKit.intOf]
    · obtain ⟨A0, n0, c0, rfl⟩ := gave_shape hg0
      obtain ⟨A1, n1, c1, rfl⟩ := gave_shape hg1
      have HRB := Lib.hid hrb; have HG0 := Lib.hid hg0; have HG1 := Lib.hid hg1
      have x0 := hrb.a.cell 0; have x1 := hrb.a.cell 1
      have y0 := hrb.r.cell 0; have y1 := hrb.r.cell 1
      have z0 := hrb.r.frozen 0; have z1 := hrb.r.frozen 1
      simp only [List.getElem?_toArray, List.getElem?_cons_zero, List.getElem?_cons_succ] at x0 x1 y0 y1
      clear hrb hg0 hg1
      go_wp2_with fail
      refine ret_row2 rfl w.heap.size 200 _ _ rfl (Blk.set2 HRB.out.r) Tryz.underlying200 rfl (by kernel_rfl) rfl ⟨_, _, rfl, ?_, ?_, ?_, ?_⟩
      · exact gave_low (gave_set (gave_set HG0.out (by omega)) (by omega)) (by omega)
      · exact gave_low (gave_set (gave_set HG1.out (by omega)) (by omega)) (by omega)
      · have hg : ∀ (wx : World) (j : Nat) (u : Value), DAt wx B b S2 own → DAt (wx.setCell ⟨w.heap.size, j, none⟩ u) B b S2 own := fun wx j u hx =>
          dat_grown hx (Lib.grownBy_setB (World.grownBy.refl wx (some w.heap.size)) j u) (fun i e => by cases e; exact fun ho => by have := HL.out _ ho; omega)
        exact hg _ _ _ (hg _ _ _ HRB.out.d)
      · have hg : ∀ (wx : World) (j : Nat) (u : Value), Turn w wx own own → Turn w (wx.setCell ⟨w.heap.size, j, none⟩ u) own own := fun wx j u hx =>
          turn_later hx (Lib.grownBy_setB (World.grownBy.refl wx (some w.heap.size)) j u) (Nat.le_refl _)
        exact hg _ _ _ (hg _ _ _ HRB.out.t)
end Go.Proofs.YteaokeiolgjhaaaGreat.Sup
/- Load of package super. -/
namespace Go.Proofs.YteaokeiolgjhaaaGreat.Sup
open Go.RowKit CrcMath CodecMath Mem Crc Codec DiskSpec Dsk

/-- The best of the first j. -/
def seen (n : Int) (l0 l1 : List Nat) : Nat → Option (List Int)
  | 0 => none
  | j + 1 => newer (seen n l0 l1 j) (sound n j (if j = 0 then l0 else l1))
theorem newer_none (a : Option (List Int)) : newer a none = a := by cases a <;> rfl
theorem newer_isSome {a b : Option (List Int)} (h : (newer a b).isSome = true) : a.isSome = true ∨ b.isSome = true := by
  cases a <;> cases b <;> simp [newer] at *
theorem newer_some (s : List Int) : newer none (some s) = some s := rfl
theorem newer_two (u s : List Int) : newer (some u) (some s) = if gen u < gen s then some s else some u := rfl
theorem seen_two (n : Int) (l0 l1 : List Nat) : seen n l0 l1 2 = bestOf n l0 l1 := by
  show newer (newer none (sound n 0 l0)) (sound n 1 l1) = newer (sound n 0 l0) (sound n 1 l1)
  cases sound n 0 l0 <;> rfl
theorem seen_succ (n : Int) (l0 l1 : List Nat) (j : Nat) : seen n l0 l1 (j + 1) = newer (seen n l0 l1 j) (sound n j (if j = 0 then l0 else l1)) := rfl
theorem seen_len (n : Int) (l0 l1 : List Nat) : ∀ (j : Nat) (s : List Int), seen n l0 l1 j = some s → s.length = 7 := by
  intro j
  induction j with
  | zero => intro s h; cases h
  | succ j ih =>
    intro s h
    rw [seen_succ] at h
    cases hq : sound n j (if j = 0 then l0 else l1) with
    | none => rw [hq, newer_none] at h; exact ih s h
    | some q =>
      rw [hq] at h
      cases hp : seen n l0 l1 j with
      | none => rw [hp, newer_some] at h; cases h; exact (sound_len hq).1
      | some p =>
        rw [hp, newer_two] at h
        split at h
        · cases h; exact (sound_len hq).1
        · cases h; exact ih _ hp
theorem list7 {s : List Int} (h : s.length = 7) : ∃ a0 a1 a2 a3 a4 a5 a6, s = [a0, a1, a2, a3, a4, a5, a6] := by
  match s, h with
  | [a0, a1, a2, a3, a4, a5, a6], _ => exact ⟨a0, a1, a2, a3, a4, a5, a6, rfl⟩
def cells7 (s : List Int) : Array Value := (s.map fun n => Value.int .i64 n).toArray
theorem readL_lt' {S : St} (h : S.ok) (a c : Int) : ∀ x ∈ readL S a c, x < 256 := by
  unfold readL
  split
  · simp
  · split
    · simp
    · exact reads_lt h _ _
theorem readE_ok {S : St} (h : S.ok) (a c : Int) : (readE S a c).2.ok := by
  unfold readE
  split
  · exact h
  · split <;> exact { h with f1 := by have := h.f1; show S.f1 - 1 ≤ _; omega }
theorem index2 (A0 A1 : Option Addr) (n0 c0 n1 c1 j : Nat) (hj : j < 2) (w : World) :
    (Instr.index 200 (.agg #[.slice A0 n0 c0, .slice A1 n1 c1]) (.int .i64 j)).run Tryz.prog w = .ok (if j = 0 then .slice A0 n0 c0 else .slice A1 n1 c1) w := by
  obtain rfl | rfl : j = 0 ∨ j = 1 := by omega
  · kernel_rfl
  · kernel_rfl
theorem bytes_gave {w : World} {base tb n c : Nat} {A : Option Addr} {l : List Nat} (h : Gave8 w base (.slice A n c) l) (hx : ∀ x ∈ l, x < 256) (htb : tb < base) : Bytes w tb A n l := by
  rcases h with ⟨h, rfl⟩ | ⟨g, cap, h, hb, hbk⟩
  · cases h; exact Bytes.none_ _ _ _
  · cases h; exact blk_bytes (b := tb) hbk (by omega) hx

/-- Where Load stands: the disk, the result, both sectors' bytes. -/
structure LD (w wr : World) (own : Nat → Prop) (B b tb : Nat) (S : St) (v0 v1 : Value) (l0 l1 : List Nat) (T : Nat) (c : Bool) : Prop where
  s : SAt wr B b tb S own
  t : Turn w wr (With own tb) (With own tb)
  r : Blk wr w.heap.size 49 #[.int .i64 0, .int .i64 0, .int .i64 0, .int .i64 0, .int .i64 0, .int .i64 0, .int .i64 0]
  g0 : Gave8 wr (w.heap.size + 1) v0 l0
  g1 : Gave8 wr (w.heap.size + 1) v1 l1
  b0 : ∀ g, v0.ownBlock = some g → g < T
  b1 : ∀ g, v1.ownBlock = some g → g < T
  y : c = true → Ready wr tb
section
variable {w wr w' : World} {own : Nat → Prop} {B b tb T : Nat} {S : St} {v0 v1 : Value} {l0 l1 : List Nat} {c : Bool}
theorem gave_row {base : Nat} {v : Value} {l : List Nat} {row : Option Nat} (h : Gave8 wr base v l) (hg : wr.grownBy w' row) (hr : ∀ g, v.ownBlock = some g → base ≤ g → row ≠ some g) : Gave8 w' base v l := by
  rcases h with h | ⟨g, cap, hv, hb, hbk⟩
  · exact .inl h
  · exact .inr ⟨g, cap, hv, hb, hbk.grown hg (fun e => hr g (by rw [hv]; rfl) hb e.symm)⟩
theorem LD.quiet (h : LD w wr own B b tb S v0 v1 l0 l1 T c) (hg : wr.grownBy w' none) : LD w w' own B b tb S v0 v1 l0 l1 T c :=
  ⟨h.s.quiet hg, h.t.trans (Turn.none_ hg), h.r.grown hg (by simp), gave_row h.g0 hg (fun _ _ _ => by simp), gave_row h.g1 hg (fun _ _ _ => by simp), h.b0, h.b1, fun hc => (h.y hc).keep hg (by simp)⟩
theorem LD.table (h : LD w wr own B b tb S v0 v1 l0 l1 T c) (hg : wr.grownBy w' (some tb)) (ht : Tab w' tb) (hlt : tb < w.heap.size) {c' : Bool} (hy : c' = true → Ready w' tb) : LD w w' own B b tb S v0 v1 l0 l1 T c' :=
  ⟨h.s.table hg ht, h.t.trans (turn_table hg), h.r.grown hg (by simp; omega), gave_row h.g0 hg (fun g _ hb e => by cases e; omega), gave_row h.g1 hg (fun g _ hb e => by cases e; omega), h.b0, h.b1, hy⟩
theorem LD.set_ (h : LD w wr own B b tb S v0 v1 l0 l1 T c) (hl : ∀ i, own i → i < w.heap.size) (hlt : tb < w.heap.size) (hT : w.heap.size + 1 ≤ T) (i : Nat) (v : Value) : LD w (wr.setCell ⟨T + 1, i, none⟩ v) own B b tb S v0 v1 l0 l1 T c := by
  have hg : wr.grownBy (wr.setCell ⟨T + 1, i, none⟩ v) (some (T + 1)) := Lib.grownBy_setB (World.grownBy.refl wr _) i v
  exact ⟨h.s.far hg (fun ho => by have := hl _ ho; omega) (by omega), turn_later h.t hg (by omega), h.r.grown hg (by simp; omega), gave_row h.g0 hg (fun g hv _ e => by cases e; have := h.b0 _ hv; omega), gave_row h.g1 hg (fun g hv _ e => by cases e; have := h.b1 _ hv; omega), h.b0, h.b1, fun hc => (h.y hc).keep hg (by simp; omega)⟩
/-- The result is written. -/
theorem fin_set (hl : ∀ i, own i → i < w.heap.size) (hlt : tb < w.heap.size) (h : SAt wr B b tb S own ∧ Turn w wr (With own tb) (With own tb)) (i : Nat) (v : Value) :
    SAt (wr.setCell ⟨w.heap.size, i, none⟩ v) B b tb S own ∧ Turn w (wr.setCell ⟨w.heap.size, i, none⟩ v) (With own tb) (With own tb) := by
  have hg : wr.grownBy (wr.setCell ⟨w.heap.size, i, none⟩ v) (some w.heap.size) := Lib.grownBy_setB (World.grownBy.refl wr _) i v
  exact ⟨h.1.far hg (fun ho => by have := hl _ ho; omega) (by omega), turn_later h.2 hg (Nat.le_refl _)⟩
theorem fin_set7 (hl : ∀ i, own i → i < w.heap.size) (hlt : tb < w.heap.size) (h : SAt wr B b tb S own ∧ Turn w wr (With own tb) (With own tb)) {a0 a1 a2 a3 a4 a5 a6 : Value} :
    SAt (((((((wr.setCell ⟨w.heap.size, 0, none⟩ a0).setCell ⟨w.heap.size, 1, none⟩ a1).setCell ⟨w.heap.size, 2, none⟩ a2).setCell ⟨w.heap.size, 3, none⟩ a3).setCell ⟨w.heap.size, 4, none⟩ a4).setCell ⟨w.heap.size, 5, none⟩ a5).setCell ⟨w.heap.size, 6, none⟩ a6) B b tb S own ∧
    Turn w (((((((wr.setCell ⟨w.heap.size, 0, none⟩ a0).setCell ⟨w.heap.size, 1, none⟩ a1).setCell ⟨w.heap.size, 2, none⟩ a2).setCell ⟨w.heap.size, 3, none⟩ a3).setCell ⟨w.heap.size, 4, none⟩ a4).setCell ⟨w.heap.size, 5, none⟩ a5).setCell ⟨w.heap.size, 6, none⟩ a6) (With own tb) (With own tb) :=
  fin_set hl hlt (fin_set hl hlt (fin_set hl hlt (fin_set hl hlt (fin_set hl hlt (fin_set hl hlt (fin_set hl hlt h 0 a0) 1 a1) 2 a2) 3 a3) 4 a4) 5 a5) 6 a6
theorem LD.set7 (h : LD w wr own B b tb S v0 v1 l0 l1 T c) (hl : ∀ i, own i → i < w.heap.size) (hlt : tb < w.heap.size) (hT : w.heap.size + 1 ≤ T) {a0 a1 a2 a3 a4 a5 a6 : Value} :
    LD w (((((((wr.setCell ⟨T + 1, 0, none⟩ a0).setCell ⟨T + 1, 1, none⟩ a1).setCell ⟨T + 1, 2, none⟩ a2).setCell ⟨T + 1, 3, none⟩ a3).setCell ⟨T + 1, 4, none⟩ a4).setCell ⟨T + 1, 5, none⟩ a5).setCell ⟨T + 1, 6, none⟩ a6) own B b tb S v0 v1 l0 l1 T c :=
  (((((((h.set_ hl hlt hT 0 a0).set_ hl hlt hT 1 a1).set_ hl hlt hT 2 a2).set_ hl hlt hT 3 a3).set_ hl hlt hT 4 a4).set_ hl hlt hT 5 a5).set_ hl hlt hT 6 a6)
end

set_option maxRecDepth 100000 in
set_option maxHeartbeats 1600000 in
theorem load_small {w : World} {B b tb : Nat} {S : St} {own : Nat → Prop} (h : SAt w B b tb S own) (h2 : S.n < 2) :
    Calls Tryz.prog 93 #[.pointer (some ⟨b, 0, none⟩), .pointer (some ⟨tb, 0, none⟩)] w fun e w' =>
      e = .returned (.tuple #[supV (loadV S), .int .i64 (loadE S)]) ∧ SAt w' B b tb (loadT S) own ∧ Turn w w' (With own tb) (With own tb) ∧ (loadE S = 0 → Ready w' tb) := by
  have hg0 := World.grownBy_alloc w (.cells #[.int .i64 0, .int .i64 0, .int .i64 0, .int .i64 0, .int .i64 0, .int .i64 0, .int .i64 0] 49) none
  have hl : ∀ i, own i → i < w.heap.size := fun i hi => h.own_lt hi
  have hlt := tab_lt h.t
  have HL := Lib.hid hl; have HLT := Lib.hid hlt
  have hR := Blk.new w 49 #[.int .i64 0, .int .i64 0, .int .i64 0, .int .i64 0, .int .i64 0, .int .i64 0, .int .i64 0]
  have H0 := Lib.hid (h.quiet hg0)
  have HT0 := Lib.hid (Turn.none_ (own := With own tb) hg0)
  have HSZ := Lib.hid (h.quiet hg0).size
  have HR := Lib.hid hR
  clear hg0 hl hlt
  have HE := Lib.hid (show loadE S = 1 by unfold loadE; rw [if_pos h2])
  have HV := Lib.hid (show loadV S = zero7' by unfold loadV; rw [if_pos h2])
  have HTT := Lib.hid (show loadT S = S by unfold loadT; rw [if_pos h2])
  have x0 := hR.cell 0; have x1 := hR.cell 1; have x2 := hR.cell 2; have x3 := hR.cell 3; have x4 := hR.cell 4; have x5 := hR.cell 5; have x6 := hR.cell 6
  simp only [List.getElem?_toArray, List.getElem?_cons_zero, List.getElem?_cons_succ] at x0 x1 x2 x3 x4 x5 x6
  have f0 := hR.frozen 0; have f1 := hR.frozen 1; have f2 := hR.frozen 2; have f3 := hR.frozen 3; have f4 := hR.frozen 4; have f5 := hR.frozen 5; have f6 := hR.frozen 6
  have hd2 : decide ((S.n : Int) < 2) = true := by simp; omega
  clear h hR h2
  generalize (S.n : Int) = n at *
  go_enter Tryz.func93, Tryz.ntmps93
  go_wp2_with fail
  refine HSZ.out.mono ?_
  rintro e w1 ⟨rfl, rfl⟩
  go_wp2_with fail
  refine ret_row2 rfl w.heap.size 49 _ _ rfl HR.out Tryz.underlying49 rfl (by kernel_rfl) rfl ⟨?_, ?_⟩
  · rw [HE.out, HV.out]; first | done | rfl
  · refine ⟨?_, HT0.out, fun hc => ?_⟩
    · first | exact H0.out | (rw [HTT.out]; exact H0.out)
    · rw [HE.out] at hc; cases hc

set_option maxRecDepth 100000 in
set_option maxHeartbeats 3200000 in
theorem load_bad {w : World} {B b tb : Nat} {S : St} {own : Nat → Prop} (h : SAt w B b tb S own) (h2 : ¬ S.n < 2) (hbad : (readE S 0 1).1 ≠ 0 ∨ (readE (readE S 0 1).2 1 1).1 ≠ 0) :
    Calls Tryz.prog 93 #[.pointer (some ⟨b, 0, none⟩), .pointer (some ⟨tb, 0, none⟩)] w fun e w' =>
      e = .returned (.tuple #[supV (loadV S), .int .i64 (loadE S)]) ∧ SAt w' B b tb (loadT S) own ∧ Turn w w' (With own tb) (With own tb) ∧ (loadE S = 0 → Ready w' tb) := by
  have hg0 := World.grownBy_alloc w (.cells #[.int .i64 0, .int .i64 0, .int .i64 0, .int .i64 0, .int .i64 0, .int .i64 0, .int .i64 0] 49) none
  have hl : ∀ i, own i → i < w.heap.size := fun i hi => h.own_lt hi
  have hlt := tab_lt h.t
  have HL := Lib.hid hl; have HLT := Lib.hid hlt
  have hR := Blk.new w 49 #[.int .i64 0, .int .i64 0, .int .i64 0, .int .i64 0, .int .i64 0, .int .i64 0, .int .i64 0]
  have H0 := Lib.hid (h.quiet hg0)
  have HT0 := Lib.hid (Turn.none_ (own := With own tb) hg0)
  have HSZ := Lib.hid (h.quiet hg0).size
  have HR := Lib.hid hR
  clear hg0 hl hlt
  have hn2 : 2 ≤ S.n := by omega
  have hd2 : decide ((S.n : Int) < 2) = false := by simp; omega
  have HB := Lib.hid (readboth_any H0.out.d hn2)
  have hbe := bothE_two hn2
  have HEV := Lib.hid (show loadE S = if (readE S 0 1).1 ≠ 0 ∨ (readE (readE S 0 1).2 1 1).1 ≠ 0 then 10 else if (bestOf S.n (readL S 0 1) (readL (readE S 0 1).2 1 1)).isSome then 0 else 14 by unfold loadE; rw [if_neg h2])
  have HVV := Lib.hid (show loadV S = if (readE S 0 1).1 ≠ 0 ∨ (readE (readE S 0 1).2 1 1).1 ≠ 0 then zero7' else (bestOf S.n (readL S 0 1) (readL (readE S 0 1).2 1 1)).getD zero7' by unfold loadV; rw [if_neg h2])
  have HTT := Lib.hid (show loadT S = loadS S by unfold loadT; rw [if_neg h2])
  have hb0 := readL_lt' h.ok 0 1
  have hb1 := readL_lt' (readE_ok h.ok 0 1) 1 1
  have HN2 := Lib.hid (show (loadS S).n = S.n by unfold loadS; rw [readE_n, readE_n])
  have HL0 := Lib.hid hb0; have HL1 := Lib.hid hb1
  clear hb0 hb1 hn2 h2 h
  generalize bothE S = EE at *
  generalize loadE S = LE at *
  generalize loadV S = LV at *
  generalize loadT S = LT at *
  generalize loadS S = S2 at *
  generalize readL S 0 1 = l0 at *
  generalize readL (readE S 0 1).2 1 1 = l1 at *
  rw [if_pos hbad] at hbe HEV HVV
  clear hbad
  subst hbe
  generalize hnn : (S.n : Int) = n at *
  clear hnn
  go_enter Tryz.func93, Tryz.ntmps93
  go_wp2_with fail
  refine HSZ.out.mono ?_
  rintro e w1 ⟨rfl, rfl⟩
  go_wp2_with fail
  refine HB.out.mono ?_
  rintro e w3 ⟨v0, v1, rfl, hv0, hv1, hd, ht⟩
  obtain ⟨A0, n0, c0, rfl⟩ := gave_shape hv0
  obtain ⟨A1, n1, c1, rfl⟩ := gave_shape hv1
  clear hv0 hv1
  obtain HTT' := HTT.out
  subst HTT'
  have hR3 : Blk w3 w.heap.size 49 #[.int .i64 0, .int .i64 0, .int .i64 0, .int .i64 0, .int .i64 0, .int .i64 0, .int .i64 0] := blk_of_block HR.out (ht.block _ HR.out.lt (fun ho => by have := HL.out _ ho; omega))
  have H3 := Lib.hid (H0.out.disk hd ht); have HT3 := Lib.hid (HT0.out.trans (turn_with ht tb))
  have HR3 := Lib.hid (hR3.alloc (.cells #[.slice A0 n0 c0, .slice A1 n1 c1] 200))
  clear hR hd ht hR3
  have x0 := HR3.out.cell 0; have x1 := HR3.out.cell 1; have x2 := HR3.out.cell 2; have x3 := HR3.out.cell 3; have x4 := HR3.out.cell 4; have x5 := HR3.out.cell 5; have x6 := HR3.out.cell 6
  simp only [List.getElem?_toArray, List.getElem?_cons_zero, List.getElem?_cons_succ] at x0 x1 x2 x3 x4 x5 x6
  have f0 := HR3.out.frozen 0; have f1 := HR3.out.frozen 1; have f2 := HR3.out.frozen 2; have f3 := HR3.out.frozen 3; have f4 := HR3.out.frozen 4; have f5 := HR3.out.frozen 5; have f6 := HR3.out.frozen 6
  go_wp2_with fail
  refine ret_row2 rfl w.heap.size 49 _ _ rfl (Blk.set7 HR3.out) Tryz.underlying49 rfl (by kernel_rfl) rfl ⟨?_, ?_⟩
  · rw [HEV.out, HVV.out]; first | done | rfl
  · refine ⟨?_, ?_, fun hc => ?_⟩
    · first | exact (fin_set7 HL.out HLT.out ⟨H3.out.quiet (World.grownBy_alloc _ _ none), HT3.out.trans (Turn.none_ (World.grownBy_alloc _ _ none))⟩).1 | (rw [HTT.out]; exact (fin_set7 HL.out HLT.out ⟨H3.out.quiet (World.grownBy_alloc _ _ none), HT3.out.trans (Turn.none_ (World.grownBy_alloc _ _ none))⟩).1)
    · exact (fin_set7 HL.out HLT.out ⟨H3.out.quiet (World.grownBy_alloc _ _ none), HT3.out.trans (Turn.none_ (World.grownBy_alloc _ _ none))⟩).2
    · rw [HEV.out] at hc; cases hc
end Go.Proofs.YteaokeiolgjhaaaGreat.Sup
/- Load of package super: both sectors read. -/
namespace Go.Proofs.YteaokeiolgjhaaaGreat.Sup
open Go.RowKit CrcMath CodecMath Mem Crc Codec DiskSpec Dsk

set_option maxRecDepth 100000 in
set_option maxHeartbeats 3200000 in
theorem load_good {w : World} {B b tb : Nat} {S : St} {own : Nat → Prop} (h : SAt w B b tb S own) (h2 : ¬ S.n < 2) (hbad : ¬ ((readE S 0 1).1 ≠ 0 ∨ (readE (readE S 0 1).2 1 1).1 ≠ 0)) :
    Calls Tryz.prog 93 #[.pointer (some ⟨b, 0, none⟩), .pointer (some ⟨tb, 0, none⟩)] w fun e w' =>
      e = .returned (.tuple #[supV (loadV S), .int .i64 (loadE S)]) ∧ SAt w' B b tb (loadT S) own ∧ Turn w w' (With own tb) (With own tb) ∧ (loadE S = 0 → Ready w' tb) := by
  have hg0 := World.grownBy_alloc w (.cells #[.int .i64 0, .int .i64 0, .int .i64 0, .int .i64 0, .int .i64 0, .int .i64 0, .int .i64 0] 49) none
  have hl : ∀ i, own i → i < w.heap.size := fun i hi => h.own_lt hi
  have hlt := tab_lt h.t
  have HL := Lib.hid hl; have HLT := Lib.hid hlt
  have hR := Blk.new w 49 #[.int .i64 0, .int .i64 0, .int .i64 0, .int .i64 0, .int .i64 0, .int .i64 0, .int .i64 0]
  have H0 := Lib.hid (h.quiet hg0)
  have HT0 := Lib.hid (Turn.none_ (own := With own tb) hg0)
  have HSZ := Lib.hid (h.quiet hg0).size
  have HR := Lib.hid hR
  clear hg0 hl hlt
  have hn2 : 2 ≤ S.n := by omega
  have hd2 : decide ((S.n : Int) < 2) = false := by simp; omega
  have HB := Lib.hid (readboth_any H0.out.d hn2)
  have hbe := bothE_two hn2
  have HEV := Lib.hid (show loadE S = if (readE S 0 1).1 ≠ 0 ∨ (readE (readE S 0 1).2 1 1).1 ≠ 0 then 10 else if (bestOf S.n (readL S 0 1) (readL (readE S 0 1).2 1 1)).isSome then 0 else 14 by unfold loadE; rw [if_neg h2])
  have HVV := Lib.hid (show loadV S = if (readE S 0 1).1 ≠ 0 ∨ (readE (readE S 0 1).2 1 1).1 ≠ 0 then zero7' else (bestOf S.n (readL S 0 1) (readL (readE S 0 1).2 1 1)).getD zero7' by unfold loadV; rw [if_neg h2])
  have HTT := Lib.hid (show loadT S = loadS S by unfold loadT; rw [if_neg h2])
  have hb0 := readL_lt' h.ok 0 1
  have hb1 := readL_lt' (readE_ok h.ok 0 1) 1 1
  have HN2 := Lib.hid (show (loadS S).n = S.n by unfold loadS; rw [readE_n, readE_n])
  have HL0 := Lib.hid hb0; have HL1 := Lib.hid hb1
  clear hb0 hb1 hn2 h2 h
  generalize bothE S = EE at *
  generalize loadE S = LE at *
  generalize loadV S = LV at *
  generalize loadT S = LT at *
  generalize loadS S = S2 at *
  generalize readL S 0 1 = l0 at *
  generalize readL (readE S 0 1).2 1 1 = l1 at *
  rw [if_neg hbad] at hbe HEV HVV
  clear hbad
  subst hbe
  generalize hnn : (S.n : Int) = n at *
  have HNN := Lib.hid (show (S2.n : Int) = n by rw [HN2.out]; exact hnn)
  clear hnn
  go_enter Tryz.func93, Tryz.ntmps93
  go_wp2_with fail
  refine HSZ.out.mono ?_
  rintro e w1 ⟨rfl, rfl⟩
  go_wp2_with fail
  refine HB.out.mono ?_
  rintro e w3 ⟨v0, v1, rfl, hv0, hv1, hd, ht⟩
  obtain ⟨A0, n0, c0, rfl⟩ := gave_shape hv0
  obtain ⟨A1, n1, c1, rfl⟩ := gave_shape hv1
  obtain HTT' := HTT.out
  subst HTT'
  have hR3 : Blk w3 w.heap.size 49 #[.int .i64 0, .int .i64 0, .int .i64 0, .int .i64 0, .int .i64 0, .int .i64 0, .int .i64 0] := blk_of_block HR.out (ht.block _ HR.out.lt (fun ho => by have := HL.out _ ho; omega))
  have hsz3 := ht.size
  rw [World.size_alloc] at hsz3 hv0 hv1
  have hown : ∀ v l, Gave8 w3 (w.heap.size + 1) v l → ∀ g, v.ownBlock = some g → g < w3.heap.size := by
    intro v l hg g hv
    rcases hg with ⟨rfl, _⟩ | ⟨g', cap, rfl, _, hbk⟩
    · cases hv
    · have := hbk.lt
      simp [Value.ownBlock] at hv
      omega
  have hld3 : LD w w3 own B b tb LT (.slice A0 n0 c0) (.slice A1 n1 c1) l0 l1 w3.heap.size false :=
    ⟨H0.out.disk hd ht, HT0.out.trans (turn_with ht tb), hR3, hv0, hv1, hown _ _ hv0, hown _ _ hv1, fun hc => by cases hc⟩
  have HLD := Lib.hid ((hld3.quiet (World.grownBy_alloc w3 (.cells #[.slice A0 n0 c0, .slice A1 n1 c1] 200) none)).quiet (World.grownBy_alloc _ (.cells #[.int .i64 0, .int .i64 0, .int .i64 0, .int .i64 0, .int .i64 0, .int .i64 0, .int .i64 0] 49) none))
  have HX := Lib.hid (show Blk ((w3.alloc (.cells #[.slice A0 n0 c0, .slice A1 n1 c1] 200)).alloc (.cells #[.int .i64 0, .int .i64 0, .int .i64 0, .int .i64 0, .int .i64 0, .int .i64 0, .int .i64 0] 49)) (w3.heap.size + 1) 49 (cells7 ((seen n l0 l1 0).getD zero7)) from (show Blk ((w3.alloc (.cells #[.slice A0 n0 c0, .slice A1 n1 c1] 200)).alloc (.cells #[.int .i64 0, .int .i64 0, .int .i64 0, .int .i64 0, .int .i64 0, .int .i64 0, .int .i64 0] 49)) (w3.heap.size + 1) 49 #[.int .i64 0, .int .i64 0, .int .i64 0, .int .i64 0, .int .i64 0, .int .i64 0, .int .i64 0] by simpa using Blk.new (w3.alloc (.cells #[.slice A0 n0 c0, .slice A1 n1 c1] 200)) 49 #[.int .i64 0, .int .i64 0, .int .i64 0, .int .i64 0, .int .i64 0, .int .i64 0, .int .i64 0]))
  have HSZ3 := Lib.hid hsz3
  have HBST := Lib.hid (seen_two n l0 l1)
  clear hR hd ht hR3 hv0 hv1 hown hld3 hsz3 HSZ HB
  go_wp2_with fail
  generalize hTT : w3.heap.size = T at *
  clear hTT
  go_loopw [9, 10, 11, 12, 13, 14, 37] (fun fo _ _ _ _ _ i wr => ∃ j : Nat, j ≤ 2 ∧ i = .int .i64 j ∧ fo = .bool (seen n l0 l1 j).isSome ∧ LD w wr own B b tb LT (.slice A0 n0 c0) (.slice A1 n1 c1) l0 l1 T (seen n l0 l1 j).isSome ∧ Blk wr (T + 1) 49 (cells7 ((seen n l0 l1 j).getD zero7))) (fun _ _ _ _ _ _ i _ => 2 - (Go.RowKit.intOf i).toNat)
  case atStart => exact ⟨0, by omega, rfl, rfl, HLD.out, HX.out⟩
  case round =>
    clear HLD HX
    obtain ⟨j, hj, rfl, rfl, hld, hx⟩ := hrel
    by_cases hlt : j < 2
    · have hstep := seen_succ n l0 l1 j
      have hslen := seen_len n l0 l1 j
      have hpick : ∃ A m c l, (Instr.index 200 (.agg #[.slice A0 n0 c0, .slice A1 n1 c1]) (.int .i64 j)).run Tryz.prog wr = .ok (.slice A m c) wr ∧ Gave8 wr (w.heap.size + 1) (.slice A m c) l ∧ (∀ x ∈ l, x < 256) ∧ (if j = 0 then l0 else l1) = l := by
        have hi := index2 A0 A1 n0 c0 n1 c1 j hlt wr
        by_cases hj0 : j = 0
        · rw [if_pos hj0] at hi ⊢
          exact ⟨_, _, _, _, hi, hld.g0, HL0.out, rfl⟩
        · rw [if_neg hj0] at hi ⊢
          exact ⟨_, _, _, _, hi, hld.g1, HL1.out, rfl⟩
      obtain ⟨A, m, c, l, hix, hgv, hl256, hif⟩ := hpick
      rw [hif] at hstep
      have hby := bytes_gave (tb := tb) hgv hl256 (by have := HLT.out; omega)
      have HSTEP := Lib.hid hstep; have HBY := Lib.hid hby; have HLD := Lib.hid hld; have HX := Lib.hid hx; have HSL := Lib.hid hslen
      clear hstep hgv hl256 hif hby hld hx hslen
      generalize ho1 : seen n l0 l1 (j + 1) = o' at *
      have HO1 := Lib.hid ho1; clear ho1
      generalize seen n l0 l1 j = o at *
      go_wp2_with fail
      clear hix
      refine (codec_get_super_core tb (some tb) A m c l _ (.inr ⟨HLD.out.s.t, rfl⟩) HBY.out).mono ?_
      rintro e w5 ⟨hg5, ht5, rfl, hy5⟩
      have HLD5 := Lib.hid (HLD.out.table hg5 ht5 HLT.out (c' := o'.isSome) (fun hc => by
        rw [HSTEP.out] at hc
        rcases newer_isSome hc with h1 | h1
        · exact hy5 (.inl (HLD.out.y h1))
        · refine hy5 (.inr ?_)
          rw [sound_def] at h1
          cases hq : superR l with
          | none => rw [hq] at h1; cases h1
          | some _ => rfl))
      have HX5 := Lib.hid (HX.out.grown hg5 (by have := HLT.out; have := HSZ3.out; simp; omega))
      clear hg5 ht5 hy5 HBY HLD HX
      cases hsr : superR l with
      | none =>
        have HO := Lib.hid (show o' = o by rw [HSTEP.out, sound_no hsr, newer_none])
        rw [show supV ((none : Option (List Int)).getD zero7) = .agg #[.int .i64 0, .int .i64 0, .int .i64 0, .int .i64 0, .int .i64 0, .int .i64 0, .int .i64 0] from rfl, show (none : Option (List Int)).isSome = false from rfl]
        clear hsr HSTEP
        have hga := World.grownBy_alloc w5 (.cells #[.int .i64 0, .int .i64 0, .int .i64 0, .int .i64 0, .int .i64 0, .int .i64 0, .int .i64 0] 49) none
        have HLD6 := Lib.hid (HLD5.out.quiet hga); have HX6 := Lib.hid (HX5.out.grown hga (by simp))
        clear hga HLD5 HX5
        go_wp2_with fail
        go_quiet (fail)
        go_wp2
        go_roundw
        case rel => exact ⟨j + 1, by omega, by go_num, by rw [HO1.out, HO.out], (by rw [HO1.out]; exact HLD6.out.quiet (grown_drewN (World.grownBy.refl _ _) _)), by rw [HO1.out, HO.out]; exact HX6.out.drewN _⟩
        case measure => simp [Go.RowKit.intOf]; omega
      | some uu =>
        obtain ⟨u0, u1, u2, u3, u4, u5, u6, rfl⟩ := list7 (superR_some hsr).2
        rw [show supV ((some [u0, u1, u2, u3, u4, u5, u6]).getD zero7) = .agg #[.int .i64 u0, .int .i64 u1, .int .i64 u2, .int .i64 u3, .int .i64 u4, .int .i64 u5, .int .i64 u6] from rfl, show (some ([u0, u1, u2, u3, u4, u5, u6] : List Int)).isSome = true from rfl]
        have hso := sound_yes (n := n) (i := (j : Int)) hsr
        have hba := World.grownBy_alloc w5 (.cells #[.int .i64 u0, .int .i64 u1, .int .i64 u2, .int .i64 u3, .int .i64 u4, .int .i64 u5, .int .i64 u6] 49) none
        have HLD6 := Lib.hid (HLD5.out.quiet hba); have HX6 := Lib.hid (HX5.out.grown hba (by simp))
        have hbu := Blk.new w5 49 #[.int .i64 u0, .int .i64 u1, .int .i64 u2, .int .i64 u3, .int .i64 u4, .int .i64 u5, .int .i64 u6]
        have hkeep : ∀ wx, (w5.alloc (.cells #[.int .i64 u0, .int .i64 u1, .int .i64 u2, .int .i64 u3, .int .i64 u4, .int .i64 u5, .int .i64 u6] 49)).grownBy wx none → wx.cell? ⟨w5.heap.size, 0, none⟩ = some (.int .i64 u0) ∧ wx.cell? ⟨w5.heap.size, 1, none⟩ = some (.int .i64 u1) ∧ wx.cell? ⟨w5.heap.size, 2, none⟩ = some (.int .i64 u2) ∧ wx.cell? ⟨w5.heap.size, 3, none⟩ = some (.int .i64 u3) ∧ wx.cell? ⟨w5.heap.size, 4, none⟩ = some (.int .i64 u4) ∧ wx.cell? ⟨w5.heap.size, 5, none⟩ = some (.int .i64 u5) ∧ wx.cell? ⟨w5.heap.size, 6, none⟩ = some (.int .i64 u6) := by
          intro wx hg
          have hb := hbu.grown hg (by simp)
          exact ⟨by rw [hb.cell]; rfl, by rw [hb.cell]; rfl, by rw [hb.cell]; rfl, by rw [hb.cell]; rfl, by rw [hb.cell]; rfl, by rw [hb.cell]; rfl, by rw [hb.cell]; rfl⟩
        have HKEEP := Lib.hid hkeep; have HBU := Lib.hid hbu
        have HSZ := Lib.hid (fun wx (hg : (w5.alloc (.cells #[.int .i64 u0, .int .i64 u1, .int .i64 u2, .int .i64 u3, .int .i64 u4, .int .i64 u5, .int .i64 u6] 49)).grownBy wx none) => (HLD6.out.s.quiet hg).size)
        have HD0 := Lib.hid (grown_drew (w5.alloc (.cells #[.int .i64 u0, .int .i64 u1, .int .i64 u2, .int .i64 u3, .int .i64 u4, .int .i64 u5, .int .i64 u6] 49)) none)
        have HCK := Lib.hid (fun wx => check_any u0 u1 u2 u3 u4 u5 u6 n wx)
        have HPL := Lib.hid (fun wx => place_any u0 u1 u2 u3 u4 u5 u6 wx)
        have hck : checkE [u0, u1, u2, u3, u4, u5, u6] n = if mayB [u0, u1, u2, u3, u4, u5, u6] n then 0 else 1 := rfl
        rw [HNN.out] at HSZ
        clear hkeep hbu hba hsr HLD5 HX5
        cases hm : mayB [u0, u1, u2, u3, u4, u5, u6] n with
        | false =>
          rw [hm, if_neg (by simp)] at hck
          rw [hck] at HCK
          have hss : soundS n (j : Int) [u0, u1, u2, u3, u4, u5, u6] = false := by simp [soundS, hm]
          rw [hss] at hso
          have HO := Lib.hid (show o' = o by rw [HSTEP.out, hso]; exact newer_none o)
          have hq1 : decide ((1 : Int) = 0) = false := by decide
          have hq2 : ((1 : Int) == 0) = false := by decide
          have hq3 : ¬ ((1 : Int) = 0) := by decide
          clear hck hm hss hso HSTEP HPL
          go_wp2_with fail
          refine wp_region_noPanic ?_
          refine wp_region_held_drew (S := fun wx => wx.cell? ⟨w5.heap.size, 0, none⟩ = some (.int .i64 u0) ∧ wx.cell? ⟨w5.heap.size, 1, none⟩ = some (.int .i64 u1) ∧ wx.cell? ⟨w5.heap.size, 2, none⟩ = some (.int .i64 u2) ∧ wx.cell? ⟨w5.heap.size, 3, none⟩ = some (.int .i64 u3) ∧ wx.cell? ⟨w5.heap.size, 4, none⟩ = some (.int .i64 u4) ∧ wx.cell? ⟨w5.heap.size, 5, none⟩ = some (.int .i64 u5) ∧ wx.cell? ⟨w5.heap.size, 6, none⟩ = some (.int .i64 u6)) (by kernel_rfl) (HKEEP.out _ HD0.out) (fun hHeld => ?_)
          refine wpAnyH_take (i := 0) (v := .bool true) rfl (by kernel_rfl) (by kernel_rfl) (by kernel_rfl) (fun _ _ _ h => h) (Or.inl ⟨by rfl, ?_⟩) (by assumption) ?_
          · intro w1 hSw; (try dsimp only at hSw); go_simp
          simp only [Act.put, List.getElem_toArray, List.getElem_cons_zero, List.setIfInBounds_toArray, List.set_cons_zero, List.set_cons_succ]
          refine wpAnyH_take (i := 1) (v := .bool true) rfl (by kernel_rfl) (by kernel_rfl) (by kernel_rfl) (fun _ _ _ h => h) (Or.inl ⟨by rfl, ?_⟩) (by assumption) ?_
          · intro w1 hSw; (try dsimp only at hSw); go_simp
          simp only [Act.put, List.getElem_toArray, List.getElem_cons_succ, List.getElem_cons_zero, List.setIfInBounds_toArray, List.set_cons_zero, List.set_cons_succ]
          refine wpAnyH_take (i := 2) (v := .agg #[.int .i64 u0, .int .i64 u1, .int .i64 u2, .int .i64 u3, .int .i64 u4, .int .i64 u5, .int .i64 u6]) rfl (by kernel_rfl) (by kernel_rfl) (by kernel_rfl) (fun _ _ _ h => h) (Or.inl ⟨by rfl, ?_⟩) (by assumption) ?_
          · intro w1 hSw; (try dsimp only at hSw); go_simp
          simp only [Act.put, List.getElem_toArray, List.getElem_cons_succ, List.getElem_cons_zero, List.setIfInBounds_toArray, List.set_cons_zero, List.set_cons_succ]
          refine wpAnyH_take (i := 3) (v := .pointer (some ⟨b, 0, none⟩)) rfl (by kernel_rfl) (by kernel_rfl) (by kernel_rfl) (fun _ _ _ h => h) (Or.inl ⟨by rfl, ?_⟩) (by assumption) ?_
          · intro w1 hSw; (try dsimp only at hSw); go_simp
          simp only [Act.put, List.getElem_toArray, List.getElem_cons_succ, List.getElem_cons_zero, List.setIfInBounds_toArray, List.set_cons_zero, List.set_cons_succ]
          refine wpAnyH_ready (rs := [4]) (by kernel_rfl) (by simp) ?_
          refine AllReadyH.cons rfl (fun K hK => ?_) AllReadyH.nil
          go_simp
          go_at_call 42
          refine (HSZ.out _ HD0.out).mono ?_
          rintro e w6 ⟨rfl, rfl⟩
          refine hK.out _ _ (HKEEP.out _ HD0.out) (fun hHeld => ?_)
          clear hK K
          refine wpAnyH_ready (rs := [5]) (by kernel_rfl) (by simp) ?_
          refine AllReadyH.cons rfl (fun K hK => ?_) AllReadyH.nil
          go_simp
          go_at_call 41
          refine (HCK.out _).mono ?_
          rintro e w7 ⟨rfl, hg⟩
          have HG1 := Lib.hid (HD0.out.trans hg)
          clear hg
          refine hK.out _ _ (HKEEP.out _ HG1.out) (fun hHeld => ?_)
          clear hK K
          refine wpAnyH_take (i := 6) (v := .bool false) rfl (by kernel_rfl) (by kernel_rfl) (by kernel_rfl) (fun _ _ _ h => h) (Or.inl ⟨by rfl, ?_⟩) (by assumption) ?_
          · intro w1 hSw; (try dsimp only at hSw); go_simp
          simp only [Act.put, List.getElem_toArray, List.getElem_cons_succ, List.getElem_cons_zero, List.setIfInBounds_toArray, List.set_cons_zero, List.set_cons_succ]
          refine wpAnyH_take (i := 7) (v := .bool false) rfl (by kernel_rfl) (by kernel_rfl) (by kernel_rfl) (fun _ _ _ h => h) (Or.inl ⟨by rfl, ?_⟩) (by assumption) ?_
          · intro w1 hSw; (try dsimp only at hSw); go_simp
          simp only [Act.put, List.getElem_toArray, List.getElem_cons_succ, List.getElem_cons_zero, List.setIfInBounds_toArray, List.set_cons_zero, List.set_cons_succ]
          refine wpAnyH_take (i := 8) (v := .bool false) rfl (by kernel_rfl) (by kernel_rfl) (by kernel_rfl) (fun _ _ _ h => h) (Or.inl ⟨by rfl, ?_⟩) (by assumption) ?_
          · intro w1 hSw; (try dsimp only at hSw); go_simp
          simp only [Act.put, List.getElem_toArray, List.getElem_cons_succ, List.getElem_cons_zero, List.setIfInBounds_toArray, List.set_cons_zero, List.set_cons_succ]
          refine wpAnyH_take (i := 9) (v := undef) rfl (by kernel_rfl) (by kernel_rfl) (by kernel_rfl) (fun _ _ _ h => h) (Or.inr ⟨by rfl, rfl⟩) (by assumption) ?_
          simp only [Act.put, List.getElem_toArray, List.getElem_cons_succ, List.getElem_cons_zero, List.setIfInBounds_toArray, List.set_cons_zero, List.set_cons_succ]
          refine wpAnyH_take (i := 10) (v := undef) rfl (by kernel_rfl) (by kernel_rfl) (by kernel_rfl) (fun _ _ _ h => h) (Or.inr ⟨by rfl, rfl⟩) (by assumption) ?_
          simp only [Act.put, List.getElem_toArray, List.getElem_cons_succ, List.getElem_cons_zero, List.setIfInBounds_toArray, List.set_cons_zero, List.set_cons_succ]
          refine wpAnyH_take (i := 11) (v := undef) rfl (by kernel_rfl) (by kernel_rfl) (by kernel_rfl) (fun _ _ _ h => h) (Or.inr ⟨by rfl, rfl⟩) (by assumption) ?_
          simp only [Act.put, List.getElem_toArray, List.getElem_cons_succ, List.getElem_cons_zero, List.setIfInBounds_toArray, List.set_cons_zero, List.set_cons_succ]
          refine wpAnyH_take (i := 12) (v := undef) rfl (by kernel_rfl) (by kernel_rfl) (by kernel_rfl) (fun _ _ _ h => h) (Or.inr ⟨by rfl, rfl⟩) (by assumption) ?_
          simp only [Act.put, List.getElem_toArray, List.getElem_cons_succ, List.getElem_cons_zero, List.setIfInBounds_toArray, List.set_cons_zero, List.set_cons_succ]
          refine wpAnyH_take (i := 13) (v := .bool false) rfl (by kernel_rfl) (by kernel_rfl) (by kernel_rfl) (fun _ _ _ h => h) (Or.inl ⟨by rfl, ?_⟩) (by assumption) ?_
          · intro w1 hSw; (try dsimp only at hSw); go_simp
          simp only [Act.put, List.getElem_toArray, List.getElem_cons_succ, List.getElem_cons_zero, List.setIfInBounds_toArray, List.set_cons_zero, List.set_cons_succ]
          refine wpAnyH_take (i := 14) (v := .bool false) rfl (by kernel_rfl) (by kernel_rfl) (by kernel_rfl) (fun _ _ _ h => h) (Or.inl ⟨by rfl, ?_⟩) (by assumption) ?_
          · intro w1 hSw; (try dsimp only at hSw); go_simp
          simp only [Act.put, List.getElem_toArray, List.getElem_cons_succ, List.getElem_cons_zero, List.setIfInBounds_toArray, List.set_cons_zero, List.set_cons_succ]
          refine wpAnyH_done (by kernel_rfl) ?_ _
          refine NoPanic.normal ?_
          go_wp2
          go_roundw
          case rel => exact ⟨j + 1, by omega, by go_num, by rw [HO1.out, HO.out], (by rw [HO1.out]; exact HLD6.out.quiet HG1.out), by rw [HO1.out, HO.out]; exact HX6.out.grown HG1.out (by simp)⟩
          case measure => simp [Go.RowKit.intOf]; omega
        | true =>
          rw [hm, if_pos rfl] at hck
          rw [hck] at HCK
          have hss : soundS n (j : Int) [u0, u1, u2, u3, u4, u5, u6] = decide (u0.tmod 2 = j) := by rw [soundS, hm]; rfl
          rw [hss] at hso
          have HSO := Lib.hid hso
          clear hck hm hss hso
          generalize hpq : u0.tmod 2 = pq at *
          go_wp2_with fail
          go_region_held3 (fun wx => wx.cell? ⟨w5.heap.size, 0, none⟩ = some (.int .i64 u0) ∧ wx.cell? ⟨w5.heap.size, 1, none⟩ = some (.int .i64 u1) ∧ wx.cell? ⟨w5.heap.size, 2, none⟩ = some (.int .i64 u2) ∧ wx.cell? ⟨w5.heap.size, 3, none⟩ = some (.int .i64 u3) ∧ wx.cell? ⟨w5.heap.size, 4, none⟩ = some (.int .i64 u4) ∧ wx.cell? ⟨w5.heap.size, 5, none⟩ = some (.int .i64 u5) ∧ wx.cell? ⟨w5.heap.size, 6, none⟩ = some (.int .i64 u6))
            (first
              | exact HKEEP.out _ HD0.out
              | exact HKEEP.out _ HG1.out
              | exact HKEEP.out _ HG2.out)
            (first
              | (go_at_call 42
                 refine (HSZ.out _ HD0.out).mono ?_
                 rintro e w6 ⟨rfl, rfl⟩)
              | (go_at_call 41
                 refine (HCK.out _).mono ?_
                 rintro e w7 ⟨rfl, hg⟩
                 have HG1 := Lib.hid (HD0.out.trans hg)
                 clear hg)
              | (go_at_call 137
                 refine (HPL.out _).mono ?_
                 rintro e w8 ⟨rfl, hg⟩
                 have HG2 := Lib.hid (HG1.out.trans hg)
                 clear hg))
          have HLD8 := Lib.hid (HLD6.out.quiet HG2.out); have hx8 := HX6.out.grown HG2.out (by simp)
          have HX8 := Lib.hid hx8
          obtain ⟨y0, y1, y2, y3, y4, y5, y6⟩ := HKEEP.out _ HG2.out
          clear HKEEP HCK HPL HSZ
          by_cases hpj : pq = (j : Int)
          · have HO := Lib.hid (show o' = newer o (some [u0, u1, u2, u3, u4, u5, u6]) by rw [HSTEP.out, HSO.out, hpj]; simp)
            subst hpj
            clear HSO HSTEP
            cases o with
            | none =>
              rw [newer_some] at HO
              have hx9 : Blk w8 (T + 1) 49 #[.int .i64 0, .int .i64 0, .int .i64 0, .int .i64 0, .int .i64 0, .int .i64 0, .int .i64 0] := hx8
              have x0 := hx9.cell 0; have x1 := hx9.cell 1; have x2 := hx9.cell 2; have x3 := hx9.cell 3; have x4 := hx9.cell 4; have x5 := hx9.cell 5; have x6 := hx9.cell 6
              have f0 := hx9.frozen 0; have f1 := hx9.frozen 1; have f2 := hx9.frozen 2; have f3 := hx9.frozen 3; have f4 := hx9.frozen 4; have f5 := hx9.frozen 5; have f6 := hx9.frozen 6
              simp only [List.getElem?_toArray, List.getElem?_cons_zero, List.getElem?_cons_succ] at x0 x1 x2 x3 x4 x5 x6
              have HX9 := Lib.hid hx9
              clear hx8 hx9
              go_wp2
              go_roundw
              case rel => exact ⟨j + 1, by omega, by go_num, by rw [HO1.out, HO.out]; rfl, (by rw [HO1.out]; exact HLD8.out.set7 HL.out HLT.out HSZ3.out), by rw [HO1.out, HO.out]; exact Blk.set7 HX9.out⟩
              case measure => simp [Go.RowKit.intOf]; omega
            | some pp =>
              obtain ⟨p0, p1, p2, p3, p4, p5, p6, rfl⟩ := list7 (HSL.out pp rfl)
              have hx9 : Blk w8 (T + 1) 49 #[.int .i64 p0, .int .i64 p1, .int .i64 p2, .int .i64 p3, .int .i64 p4, .int .i64 p5, .int .i64 p6] := hx8
              have x0 := hx9.cell 0; have x1 := hx9.cell 1; have x2 := hx9.cell 2; have x3 := hx9.cell 3; have x4 := hx9.cell 4; have x5 := hx9.cell 5; have x6 := hx9.cell 6
              have f0 := hx9.frozen 0; have f1 := hx9.frozen 1; have f2 := hx9.frozen 2; have f3 := hx9.frozen 3; have f4 := hx9.frozen 4; have f5 := hx9.frozen 5; have f6 := hx9.frozen 6
              simp only [List.getElem?_toArray, List.getElem?_cons_zero, List.getElem?_cons_succ] at x0 x1 x2 x3 x4 x5 x6
              have HX9 := Lib.hid hx9
              have hnew : newer (some [p0, p1, p2, p3, p4, p5, p6]) (some [u0, u1, u2, u3, u4, u5, u6]) = if p0 < u0 then some [u0, u1, u2, u3, u4, u5, u6] else some [p0, p1, p2, p3, p4, p5, p6] := rfl
              rw [hnew] at HO
              clear hx8 hx9 hnew
              by_cases hgt : p0 < u0
              · rw [if_pos hgt] at HO
                have hdg : decide (p0 < u0) = true := decide_eq_true hgt
                go_wp2
                go_roundw
                case rel => exact ⟨j + 1, by omega, by go_num, by rw [HO1.out, HO.out]; rfl, (by rw [HO1.out]; exact HLD8.out.set7 HL.out HLT.out HSZ3.out), by rw [HO1.out, HO.out]; exact Blk.set7 HX9.out⟩
                case measure => simp [Go.RowKit.intOf]; omega
              · rw [if_neg hgt] at HO
                have hdg : decide (p0 < u0) = false := decide_eq_false hgt
                go_wp2
                go_roundw
                case rel => exact ⟨j + 1, by omega, by go_num, by rw [HO1.out, HO.out]; rfl, (by rw [HO1.out]; exact HLD8.out), by rw [HO1.out, HO.out]; exact HX9.out⟩
                case measure => simp [Go.RowKit.intOf]; omega
          · have HO := Lib.hid (show o' = o by rw [HSTEP.out, HSO.out, decide_eq_false hpj]; exact newer_none o)
            have hdj : decide (pq = (j : Int)) = false := decide_eq_false hpj
            clear HSO HSTEP hx8
            go_wp2
            go_roundw
            case rel => exact ⟨j + 1, by omega, by go_num, by rw [HO1.out, HO.out], (by rw [HO1.out]; exact HLD8.out), by rw [HO1.out, HO.out]; exact HX8.out⟩
            case measure => simp [Go.RowKit.intOf]; omega
    · obtain rfl : j = 2 := by omega
      rw [HBST.out] at hx hld ⊢
      have hlenb := seen_len n l0 l1 2
      rw [HBST.out] at hlenb
      have HLD := Lib.hid hld
      have x0 := hld.r.cell 0; have x1 := hld.r.cell 1; have x2 := hld.r.cell 2; have x3 := hld.r.cell 3; have x4 := hld.r.cell 4; have x5 := hld.r.cell 5; have x6 := hld.r.cell 6
      have f0 := hld.r.frozen 0; have f1 := hld.r.frozen 1; have f2 := hld.r.frozen 2; have f3 := hld.r.frozen 3; have f4 := hld.r.frozen 4; have f5 := hld.r.frozen 5; have f6 := hld.r.frozen 6
      simp only [List.getElem?_toArray, List.getElem?_cons_zero, List.getElem?_cons_succ] at x0 x1 x2 x3 x4 x5 x6
      clear hld
      generalize bestOf n l0 l1 = best at *
      cases best with
      | none =>
        have HE := Lib.hid (show LE = 14 from HEV.out); have HV := Lib.hid (show LV = zero7' from HVV.out)
        clear HEV HVV hlenb hx
        go_wp2_with fail
        refine ret_row2 rfl w.heap.size 49 _ _ rfl (Blk.set7 HLD.out.r) Tryz.underlying49 rfl (by kernel_rfl) rfl ⟨?_, ?_⟩
        · rw [HE.out, HV.out]; first | done | rfl
        · refine ⟨?_, ?_, fun hc => by rw [HE.out] at hc; cases hc⟩
          · first | exact (fin_set7 HL.out HLT.out ⟨HLD.out.s, HLD.out.t⟩).1 | (rw [HTT.out]; exact (fin_set7 HL.out HLT.out ⟨HLD.out.s, HLD.out.t⟩).1)
          · exact (fin_set7 HL.out HLT.out ⟨HLD.out.s, HLD.out.t⟩).2
      | some pp =>
        obtain ⟨p0, p1, p2, p3, p4, p5, p6, rfl⟩ := list7 (hlenb pp rfl)
        have HE := Lib.hid (show LE = 0 from HEV.out); have HV := Lib.hid (show LV = [p0, p1, p2, p3, p4, p5, p6] from HVV.out)
        have hx' : Blk wr (T + 1) 49 #[.int .i64 p0, .int .i64 p1, .int .i64 p2, .int .i64 p3, .int .i64 p4, .int .i64 p5, .int .i64 p6] := hx
        have y0 := hx'.cell 0; have y1 := hx'.cell 1; have y2 := hx'.cell 2; have y3 := hx'.cell 3; have y4 := hx'.cell 4; have y5 := hx'.cell 5; have y6 := hx'.cell 6
        simp only [List.getElem?_toArray, List.getElem?_cons_zero, List.getElem?_cons_succ] at y0 y1 y2 y3 y4 y5 y6
        clear HEV HVV hlenb hx hx'
        go_wp2_with fail
        refine ret_row2 rfl w.heap.size 49 _ _ rfl (Blk.set7 HLD.out.r) Tryz.underlying49 rfl (by kernel_rfl) rfl ⟨?_, ?_⟩
        · rw [HE.out, HV.out]; first | done | rfl
        · refine ⟨?_, ?_, fun _ => ready_sets (HLD.out.y rfl) HLT.out⟩
          · first | exact (fin_set7 HL.out HLT.out ⟨HLD.out.s, HLD.out.t⟩).1 | (rw [HTT.out]; exact (fin_set7 HL.out HLT.out ⟨HLD.out.s, HLD.out.t⟩).1)
          · exact (fin_set7 HL.out HLT.out ⟨HLD.out.s, HLD.out.t⟩).2

theorem load_any {w : World} {B b tb : Nat} {S : St} {own : Nat → Prop} (h : SAt w B b tb S own) :
    Calls Tryz.prog 93 #[.pointer (some ⟨b, 0, none⟩), .pointer (some ⟨tb, 0, none⟩)] w fun e w' =>
      e = .returned (.tuple #[supV (loadV S), .int .i64 (loadE S)]) ∧ SAt w' B b tb (loadT S) own ∧ Turn w w' (With own tb) (With own tb) ∧ (loadE S = 0 → Ready w' tb) := by
  by_cases h2 : S.n < 2
  · exact load_small h h2
  · by_cases hbad : (readE S 0 1).1 ≠ 0 ∨ (readE (readE S 0 1).2 1 1).1 ≠ 0
    · exact load_bad h h2 hbad
    · exact load_good h h2 hbad
end Go.Proofs.YteaokeiolgjhaaaGreat.Sup
