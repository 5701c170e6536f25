/- Texts of this seat's proofs: StoLatest, StoRestart, StoSwitch, StoWrite, StoHome, StoRead, StoBoth, StoLoad, StoOpen, StoFormat, StoFmt2, StoLaw. -/
import Derived.Test.YteaokeiolgjhaaaGreatPStoSmall
import Derived.Test.YteaokeiolgjhaaaGreatPLogImgs
import Derived.Test.YteaokeiolgjhaaaGreatPLogSmall
import Derived.Test.YteaokeiolgjhaaaGreatPCodecPageGet
import Derived.Test.YteaokeiolgjhaaaGreatPCodecSpec
import Derived.Deep.RegionHeld3
/- What records have, each page as the last one has it. -/
namespace Go.Proofs.YteaokeiolgjhaaaGreat.Sto
open Go.RowKit Go.Maps Go.Shelf CrcMath CodecMath Mem Crc Codec DiskSpec Dsk Sup Log

theorem recs_from {w : World} {P : Nat → Prop} {A : Option Addr} {n : Nat} {l : List Rec} (h : Recs w P A n l) (B : Nat) (hB : w.heap.size ≤ B) : Recs w (From P B) A n l :=
  h.weak (fun i hi hq => by
    rcases hq with hq | hq
    · exact hq
    · omega)
/-- Some records are taken. -/
structure LatAt (w wr : World) (P : Nat → Prop) (A : Option Addr) (n : Nat) (R : List Rec) (D : Pgs) : Prop where
  mp : PMap wr (From P w.heap.size) w.heap.size D
  rc : Recs wr (From P w.heap.size) A n R
  gr : w.grownBy wr none
theorem LatAt.quiet {w wr w' : World} {P : Nat → Prop} {A : Option Addr} {n : Nat} {R : List Rec} {D : Pgs} (h : LatAt w wr P A n R D) (hg : wr.grownBy w' none) : LatAt w w' P A n R D :=
  ⟨h.mp.turn (Turn.none_ hg) (hg.block _ h.mp.lt (by simp)), h.rc.turn (Turn.none_ hg), h.gr.trans hg⟩
theorem LatAt.put {w wr w' : World} {P : Nat → Prop} {A : Option Addr} {n : Nat} {R : List Rec} {D D' : Pgs} (h : LatAt w wr P A n R D) (hg : wr.grownBy w' (some w.heap.size)) (hm : PMap w' (From P w.heap.size) w.heap.size D') : LatAt w w' P A n R D' :=
  ⟨hm, h.rc.turn (.of_grown hg (fun j e => by cases e; exact .inr (Nat.le_refl _))), h.gr.andThen hg (fun j hj => .inl (by cases hj; exact Nat.le_refl _))⟩
theorem latest_take {R : List Rec} {j : Nat} {r : Rec} (h : R[j]? = some r) : latestOf (R.take (j + 1)) = putImgs (latestOf (R.take j)) r.2 := by
  unfold latestOf
  rw [List.take_add_one, h, List.foldl_append]
  rfl
theorem putImgs_take {D : Pgs} {l : List Img} {i : Nat} {x : Img} (h : l[i]? = some x) : putImgs D (l.take (i + 1)) = upd (putImgs D (l.take i)) x.1.toNat (some (x.2.1, x.2.2)) := by
  rw [List.take_add_one, h]
  exact putImgs_snoc _ _ _
set_option maxRecDepth 100000 in
set_option maxHeartbeats 1600000 in
theorem latest_call {w : World} {P : Nat → Prop} {A : Option Addr} {n c : Nat} {R : List Rec} (h : Recs w P A n R) (hn : n ≤ 1099511627776) (hok : ∀ r ∈ R, r.2.length ≤ 40 ∧ ∀ x ∈ r.2, imgOk x = true) :
    Calls Tryz.prog 95 #[.slice A n c] w fun e w' => e = .returned (.map (some w.heap.size)) ∧ PMap w' (From P w.heap.size) w.heap.size (latestOf R) ∧ w.grownBy w' none := by
  have hmm := @run_makeMap Tryz.prog
  have hga := World.grownBy_alloc w (.map #[] 0) none
  have hL := h.len
  have H0 := Lib.hid (show LatAt w (w.alloc (.map #[] 0)) P A n R (latestOf (R.take 0)) from ⟨PMap.made w _, (recs_from h w.heap.size (Nat.le_refl _)).turn (Turn.none_ hga), hga⟩)
  have HOK := Lib.hid hok
  have HL := Lib.hid hL
  clear h hga hok hL
  go_enter Tryz.func95, Tryz.ntmps95
  go_wp2_with fail
  go_loopw [5, 7, 11] (fun _ _ i wr => ∃ j : Nat, j ≤ n ∧ i = .int .i64 j ∧ LatAt w wr P A n R (latestOf (R.take j))) (fun _ _ i _ => n - (Go.RowKit.intOf i).toNat)
  case atStart => exact ⟨0, Nat.zero_le _, rfl, H0.out⟩
  case round =>
    clear H0
    obtain ⟨j, hj, rfl, hr⟩ := hrel
    have HR := Lib.hid hr
    clear hr
    by_cases hlt : j < n
    · have hjn : (j : Int) < (n : Int) := by omega
      obtain ⟨gi, o, x, Bx, mx, cx, rfl, hgi, hno, hx, e0, e1, hmc, himx⟩ := HR.out.rc.at_ hlt
      have hxo := HOK.out _ (List.mem_of_getElem? hx)
      have HXO := Lib.hid hxo
      have HX := Lib.hid hx
      have HIM := Lib.hid himx
      have hml := himx.len
      have hm40 : mx ≤ 40 := by have := hxo.1; omega
      clear hx himx hxo hno hml
      have hga := World.grownBy_alloc wr (.cells #[.int .i64 x.1, .slice Bx mx cx] 133) none
      have H1 := Lib.hid (show LatAt w (wr.alloc (.cells #[.int .i64 x.1, .slice Bx mx cx] 133)) P _ n R (putImgs (latestOf (R.take j)) (x.2.take 0)) from HR.out.quiet hga)
      have HI1 := Lib.hid (HIM.out.turn (Turn.none_ hga))
      clear hga HIM HR hgi
      go_wp2_with fail
      generalize wr.alloc (.cells #[.int .i64 x.1, .slice Bx mx cx] 133) = wa at *
      go_loopw [7, 18] (fun _ i wx => ∃ k : Nat, k ≤ mx ∧ i = .int .i64 k ∧ LatAt w wx P (some ⟨gi, o, none⟩) n R (putImgs (latestOf (R.take j)) (x.2.take k)) ∧ Imgs wx (From P w.heap.size) Bx mx x.2) (fun _ i _ => mx - (Go.RowKit.intOf i).toNat)
      case atStart => exact ⟨0, Nat.zero_le _, rfl, H1.out, HI1.out⟩
      case round =>
        clear H1 HI1
        obtain ⟨k, hk, rfl, hr, hi⟩ := hrel
        have HR := Lib.hid hr
        have HI := Lib.hid hi
        clear hr hi
        by_cases hkm : k < mx
        · have hkn : (k : Int) < (mx : Int) := by omega
          obtain ⟨g2, o2, ⟨y1, y2, y3⟩, By, my, cy, rfl, hg2, hno2, hy, c0, c1, c2, hmc2, hd2⟩ := HI.out.at_ hkm
          dsimp only at c0 c1 c2 hd2
          have hyo := HXO.out.2 _ (List.mem_of_getElem? hy)
          have hy1 := (imgOk_iff hyo).2.1
          dsimp only at hy1
          obtain ⟨q, rfl⟩ : ∃ q : Nat, y1 = (q : Int) := ⟨y1.toNat, by omega⟩
          have hgy := World.grownBy_alloc wr (.cells #[.int .i64 (q : Nat), .int .i64 y2, .slice By my cy] 109) none
          have hr1 := HR.out.quiet hgy
          have hi1 := HI.out.turn (Turn.none_ hgy)
          have hv1 : PgV (wr.alloc (.cells #[.int .i64 (q : Nat), .int .i64 y2, .slice By my cy] 109)) (From P w.heap.size) (.agg #[.int .i64 y2, .slice By my cy]) (y2, y3) := ⟨_, rfl, By, my, cy, rfl, hmc2, Dsk.Data.turn hd2 (Turn.none_ hgy)⟩
          obtain ⟨w3, hr3, hm3, hg3⟩ := hr1.mp.store (k := q) hv1 hyo (.inr (Nat.le_refl _))
          have HR3 := Lib.hid (hr1.put hg3 hm3)
          have HI3 := Lib.hid (hi1.turn (.of_grown hg3 (fun j e => by cases e; exact .inr (Nat.le_refl _))))
          have HPT := Lib.hid (show putImgs (latestOf (R.take j)) (x.2.take (k + 1)) = upd (putImgs (latestOf (R.take j)) (x.2.take k)) q (some (y2, y3)) from putImgs_take hy)
          clear hgy hr1 hi1 hv1 hm3 hg3 hno2 hy hd2 hyo HR HI
          go_wp2_with fail
          go_roundw
          case rel => exact ⟨k + 1, by omega, by first | rfl | simp, by rw [HPT.out]; exact HR3.out, HI3.out⟩
          case measure => simp [Go.RowKit.intOf]; omega
        · have hke : k = mx := by omega
          have hkn : ¬ ((k : Int) < (mx : Int)) := by omega
          have hml := HI.out.len
          have HE := Lib.hid (show LatAt w wr P (some ⟨gi, o, none⟩) n R (latestOf (R.take (j + 1))) from by
            rw [latest_take HX.out]
            have h1 := HR.out
            rw [List.take_of_length_le (l := x.2) (by omega)] at h1
            exact h1)
          clear hml HR
          go_wp2_with fail
          go_roundw
          case rel => exact ⟨j + 1, by omega, by first | rfl | simp, HE.out⟩
          case measure => simp [Go.RowKit.intOf]; omega
    · have hje : j = n := by omega
      have hnj : ¬ ((j : Int) < (n : Int)) := by omega
      have hL := HL.out
      have HE := Lib.hid (show LatAt w wr P A n R (latestOf R) from by
        have h1 := HR.out
        rw [List.take_of_length_le (by omega)] at h1
        exact h1)
      clear hL
      go_wp2_with fail
      go_ret
      exact ⟨rfl, HE.out.mp, HE.out.gr⟩
end Go.Proofs.YteaokeiolgjhaaaGreat.Sto
/- A store begins its log once more. -/
namespace Go.Proofs.YteaokeiolgjhaaaGreat.Sto
open Go.RowKit Go.Shelf CrcMath CodecMath Mem Crc Codec DiskSpec Dsk Sup Log

set_option maxRecDepth 100000 in
set_option maxHeartbeats 800000 in
/-- The superblock of a log that is begun once more. -/
theorem restarted_any (x : Sb) (hg : x.gn ≤ 1099511627776) (he : x.ep ≤ 1099511627776) (w : World) :
    Calls Tryz.prog 50 #[.agg #[.int .i64 (x.gn : Nat), .int .i64 (x.ep : Nat), .int .i64 (x.pg : Nat), .int .i64 (x.st : Nat), .int .i64 (x.ln : Nat), .int .i64 (x.hd : Nat), .int .i64 (x.sq : Nat)]] w fun e w' => e = .returned (.agg #[.int .i64 (((x.gn : Nat) : Int) + 1), .int .i64 (((x.ep : Nat) : Int) + 1), .int .i64 (x.pg : Nat), .int .i64 (x.st : Nat), .int .i64 (x.ln : Nat), .int .i64 0, .int .i64 1]) ∧ w.grownBy w' none := by
  have hw1 : IntKind.i64.wrap (((x.gn : Nat) : Int) + 1) = ((x.gn : Nat) : Int) + 1 := IntWalk.i64_in _ (by omega)
  have hw2 : IntKind.i64.wrap (((x.ep : Nat) : Int) + 1) = ((x.ep : Nat) : Int) + 1 := IntWalk.i64_in _ (by omega)
  have hbn := Blk.new (w.alloc (.cells #[.int .i64 (((x.gn : Nat) : Int) + 1), .int .i64 (((x.ep : Nat) : Int) + 1), .int .i64 (x.pg : Nat), .int .i64 (x.st : Nat), .int .i64 (x.ln : Nat), .int .i64 0, .int .i64 1] 49)) 49 #[.int .i64 (((x.gn : Nat) : Int) + 1), .int .i64 (((x.ep : Nat) : Int) + 1), .int .i64 (x.pg : Nat), .int .i64 (x.st : Nat), .int .i64 (x.ln : Nat), .int .i64 0, .int .i64 1]
  rw [show (w.alloc (.cells #[.int .i64 (((x.gn : Nat) : Int) + 1), .int .i64 (((x.ep : Nat) : Int) + 1), .int .i64 (x.pg : Nat), .int .i64 (x.st : Nat), .int .i64 (x.ln : Nat), .int .i64 0, .int .i64 1] 49)).heap.size = w.heap.size + 1 from by simp] at hbn
  have HBN := Lib.hid hbn
  clear hbn
  go_enter Tryz.func50, Tryz.ntmps50
  go_wp2
  refine ret_row1 rfl (w.heap.size + 1) 49 #[.int .i64 (((x.gn : Nat) : Int) + 1), .int .i64 (((x.ep : Nat) : Int) + 1), .int .i64 (x.pg : Nat), .int .i64 (x.st : Nat), .int .i64 (x.ln : Nat), .int .i64 0, .int .i64 1] _ rfl HBN.out Tryz.underlying49 rfl (by kernel_rfl) rfl ?_
  exact ⟨rfl, (World.grownBy_alloc w _ none).trans (World.grownBy_alloc _ _ none)⟩
section
variable {lv : Value} {w w' w1 wr : World} {B b tb g g' sb dm : Nat} {wm : Option Nat} {own own' own2 : Nat → Prop} {s : Sto}
/-- The store has a log that is new. -/
theorem StoAtG.relog (h : StoAtG lv w B b tb g sb dm wm own s) {M : Lg} (hl : LAt w1 B b tb g' s.S own M) (hg : w.grownBy w1 none) (hlt : w.heap.size ≤ g') :
    StoAt (w1.setCell ⟨sb, 9, none⟩ (.pointer (some ⟨g', 0, none⟩))) B b tb g' sb dm wm own { s with L := M } ∧
    Turn w (w1.setCell ⟨sb, 9, none⟩ (.pointer (some ⟨g', 0, none⟩))) (Foot own tb g sb dm wm) (Foot own tb g' sb dm wm) := by
  have hs := Lib.grownBy_setB (World.grownBy.refl w1 (some sb)) 9 (.pointer (some ⟨g', 0, none⟩))
  have h1 := h.quiet hg
  have hsz := hg.size
  have hlow : B ≤ g' := by have := h.l.s.s; omega
  have ht : Turn w (w1.setCell ⟨sb, 9, none⟩ (.pointer (some ⟨g', 0, none⟩))) (Foot own tb g sb dm wm) (Foot own tb g' sb dm wm) :=
    ⟨hs.os.trans hg.os, hs.tape.trans hg.tape, hs.output.trans hg.output, Nat.le_trans hg.size hs.size, fun i hi hn => (hs.block i (Nat.lt_of_lt_of_le hi hg.size) (fun e => hn (.inr (.inl (by cases e; rfl))))).trans (hg.block i hi (by simp)), fun i hi => by
      rcases hi with (hi | hi) | hi
      · exact .inl (.inl (.inl hi))
      · exact .inr (by rw [hi]; exact hlt)
      · exact .inl (.inr hi)⟩
  have hno : ∀ i, i < w.heap.size → ¬ With2 own tb g i → ¬ With2 own tb g' i := fun i hi hn hp => by
    rcases hp with hp | hp
    · exact hn (.inl hp)
    · rw [hp] at hi; omega
  refine ⟨⟨hl.far hs (fun q e => by cases e; exact hno sb h.c.lt h.osb), h1.r.keep hs (fun e => (by cases e; exact h.osb (.inl (.inr rfl)))), h1.c.set_ 9 _, ?_, fun U hU => ?_, h.n, h.may, hno sb h.c.lt h.osb, ⟨hno dm h.d.lt h.odm.1, h.odm.2⟩, fun m hm => ⟨hno m (h.foot_lt (.inr (.inr (.inr hm)))) (h.owm m hm).1, (h.owm m hm).2⟩, ⟨h.low.1, hlow, h.low.2.2⟩⟩, ht⟩
  · exact h.d.turn ht ((hs.block dm (by have := h.d.lt; omega) (fun e => h.odm.2 (by cases e; rfl))).trans (hg.block dm h.d.lt (by simp)))
  · obtain ⟨m, e, hm⟩ := h.u U hU
    exact ⟨m, e, hm.turn ht ((hs.block m (by have := hm.lt; omega) (fun e2 => (h.owm m e).2.1 (by cases e2; rfl))).trans (hg.block m hm.lt (by simp)))⟩
/-- What restart leaves. -/
def Restarted (lv : Value) (w : World) (B b tb g sb dm : Nat) (wm : Option Nat) (own : Nat → Prop) (s : Sto) (l : List Int) (e : Ending) (w' : World) : Prop :=
  e = .returned (.int .i64 (saveE s.S l).1) ∧ ∃ own' g', Turn w w' (Foot own tb g sb dm wm) (Foot own' tb g' sb dm wm) ∧
    (((saveE s.S l).1 = 0 ∧ ∃ x', x'.l = l ∧ StoAt w' B b tb g' sb dm wm own' { s with S := (saveE s.S l).2, x := x', L := x'.log }) ∨ ((saveE s.S l).1 ≠ 0 ∧ g' = g ∧ StoAtG lv w' B b tb g sb dm wm own' (s.disk (saveE s.S l).2)))
set_option maxRecDepth 100000 in
set_option maxHeartbeats 1600000 in
theorem sto_restart (h : StoAtG lv w B b tb g sb dm wm own s) (a0 a1 a2 a3 a4 a5 a6 : Int) (hroom : ∀ i, (s.S.ver i).length < 549755813888) :
    Calls Tryz.prog 49 #[.pointer (some ⟨sb, 0, none⟩), .agg #[.int .i64 a0, .int .i64 a1, .int .i64 a2, .int .i64 a3, .int .i64 a4, .int .i64 a5, .int .i64 a6]] w (Restarted lv w B b tb g sb dm wm own s [a0, a1, a2, a3, a4, a5, a6]) := by
  have hga := World.grownBy_alloc w (.cells #[.int .i64 a0, .int .i64 a1, .int .i64 a2, .int .i64 a3, .int .i64 a4, .int .i64 a5, .int .i64 a6] 49) none
  have HGA := Lib.hid hga
  have hbn := Blk.new w 49 #[.int .i64 a0, .int .i64 a1, .int .i64 a2, .int .i64 a3, .int .i64 a4, .int .i64 a5, .int .i64 a6]
  have HBN := Lib.hid hbn
  have hsv := sto_save (h.quiet hga) a0 a1 a2 a3 a4 a5 a6 hroom
  unfold Saved at hsv
  unfold Restarted
  obtain ⟨R0, hR0⟩ : ∃ r, saveE s.S [a0, a1, a2, a3, a4, a5, a6] = r := ⟨_, rfl⟩
  rw [hR0] at hsv ⊢
  have HSV := Lib.hid hsv
  clear hR0 hsv
  obtain ⟨er, T⟩ := R0
  dsimp only at HSV ⊢
  have HFR := Lib.hid (show ¬ Foot own tb g sb dm wm w.heap.size from fun hi => by have := h.foot_lt hi; omega)
  have x0 := hbn.cell 0; have x1 := hbn.cell 1; have x2 := hbn.cell 2; have x3 := hbn.cell 3; have x4 := hbn.cell 4; have x5 := hbn.cell 5; have x6 := hbn.cell 6
  simp only [List.getElem?_toArray, List.getElem?_cons_zero, List.getElem?_cons_succ] at x0 x1 x2 x3 x4 x5 x6
  clear hga hbn h
  go_enter Tryz.func49, Tryz.ntmps49
  go_wp2_with fail
  refine HSV.out.mono ?_
  rintro e w2 ⟨rfl, own2, ht2, h2⟩
  have HT2 := Lib.hid ((Turn.none_ HGA.out).trans ht2)
  have HB2 := Lib.hid (blk_of_block HBN.out (ht2.block w.heap.size HBN.out.lt HFR.out))
  clear ht2 HSV HBN HGA x0 x1 x2 x3 x4 x5 x6
  rcases h2 with ⟨he, x', hx', h2⟩ | ⟨he, h2⟩
  · have hx2 := hx'
    unfold Sb.l at hx'
    injection hx' with e0 hx'; injection hx' with e1 hx'; injection hx' with e2 hx'; injection hx' with e3 hx'; injection hx' with e4 hx'; injection hx' with e5 hx'; injection hx' with e6 _
    subst e0 e1 e2 e3 e4 e5 e6
    have heb : (er == 0) = true := by rw [he]; rfl
    subst he
    have HX := Lib.hid hx2
    have HD0 := Lib.hid (grown_drew w2 none)
    have H2 := Lib.hid (h2.quiet HD0.out)
    have HB0 := Lib.hid (HB2.out.grown HD0.out (by simp))
    have hnw := log_new H2.out.l.s (x'.gn : Nat) (x'.pg : Nat) x'.ep x'.st x'.ln x'.hd x'.sq H2.out.may
    unfold supA at hnw
    have HNW := Lib.hid hnw
    clear hnw
    have hkeep : ∀ (lv2 : Value) (wx : World) (g2 : Nat) (own3 : Nat → Prop) (t : Sto), StoAtG lv2 wx B b tb g2 sb dm wm own3 t → Blk wx w.heap.size 49 #[(.int .i64 (x'.gn : Nat)), (.int .i64 (x'.ep : Nat)), (.int .i64 (x'.pg : Nat)), (.int .i64 (x'.st : Nat)), (.int .i64 (x'.ln : Nat)), (.int .i64 (x'.hd : Nat)), (.int .i64 (x'.sq : Nat))] → wx.cell? ⟨sb, 0, none⟩ = some (.pointer (some ⟨b, 0, none⟩)) ∧ wx.cell? ⟨sb, 1, none⟩ = some (.pointer (some ⟨tb, 0, none⟩)) ∧ wx.cell? ⟨w.heap.size, 0, none⟩ = some (.int .i64 (x'.gn : Nat)) ∧ wx.cell? ⟨w.heap.size, 1, none⟩ = some (.int .i64 (x'.ep : Nat)) ∧ wx.cell? ⟨w.heap.size, 2, none⟩ = some (.int .i64 (x'.pg : Nat)) ∧ wx.cell? ⟨w.heap.size, 3, none⟩ = some (.int .i64 (x'.st : Nat)) ∧ wx.cell? ⟨w.heap.size, 4, none⟩ = some (.int .i64 (x'.ln : Nat)) ∧ wx.cell? ⟨w.heap.size, 5, none⟩ = some (.int .i64 (x'.hd : Nat)) ∧ wx.cell? ⟨w.heap.size, 6, none⟩ = some (.int .i64 (x'.sq : Nat)) := fun lv2 wx g2 own3 t hs hb => by
      obtain ⟨c0, c1, _⟩ := hs.cells
      exact ⟨c0, c1, by rw [hb.cell]; rfl, by rw [hb.cell]; rfl, by rw [hb.cell]; rfl, by rw [hb.cell]; rfl, by rw [hb.cell]; rfl, by rw [hb.cell]; rfl, by rw [hb.cell]; rfl⟩
    have HKEEP := Lib.hid hkeep
    clear hx2 h2 HB2 hkeep
    go_wp2_with fail
    go_region_held3 (fun wx => wx.cell? ⟨sb, 0, none⟩ = some (.pointer (some ⟨b, 0, none⟩)) ∧ wx.cell? ⟨sb, 1, none⟩ = some (.pointer (some ⟨tb, 0, none⟩)) ∧ wx.cell? ⟨w.heap.size, 0, none⟩ = some (.int .i64 (x'.gn : Nat)) ∧ wx.cell? ⟨w.heap.size, 1, none⟩ = some (.int .i64 (x'.ep : Nat)) ∧ wx.cell? ⟨w.heap.size, 2, none⟩ = some (.int .i64 (x'.pg : Nat)) ∧ wx.cell? ⟨w.heap.size, 3, none⟩ = some (.int .i64 (x'.st : Nat)) ∧ wx.cell? ⟨w.heap.size, 4, none⟩ = some (.int .i64 (x'.ln : Nat)) ∧ wx.cell? ⟨w.heap.size, 5, none⟩ = some (.int .i64 (x'.hd : Nat)) ∧ wx.cell? ⟨w.heap.size, 6, none⟩ = some (.int .i64 (x'.sq : Nat)))
      (first
        | exact HKEEP.out _ _ _ _ _ H2.out HB0.out
        | exact HKEEP.out _ _ _ _ _ HS5.out.1 HB5.out
        | exact HKEEP.out _ _ _ _ _ HS3.out HB3.out)
      (first
        | (go_at_call 98
           (with_reducible refine HNW.out.mono ?_)
           rintro e w3 ⟨g', rfl, hg', hl3, hg3⟩
           have f9' := (H2.out.quiet hg3).fz 9
           obtain ⟨_, _, _, _, _, _, _, _, _, c9', _, _⟩ := (H2.out.quiet hg3).cells
           have HS3 := Lib.hid (H2.out.quiet hg3)
           have HB3 := Lib.hid (HB0.out.grown hg3 (by simp))
           have HS5 := Lib.hid (H2.out.relog hl3 hg3 hg')
           have HB5 := Lib.hid (HB3.out.far (p := ⟨sb, 9, none⟩) (fun e => HFR.out (.inr (.inl e))) (.pointer (some ⟨g', 0, none⟩)))
           clear hg3 hl3 hg'))
    go_wp2
    go_ret
    exact ⟨rfl, own2, g', (HT2.out.trans (Turn.none_ HD0.out)).trans HS5.out.2, x', HX.out, HS5.out.1⟩
  · have heb : (er == 0) = false := by simpa using he
    have HE := Lib.hid he
    have H2 := Lib.hid h2
    clear he h2
    go_wp2_with fail
    go_ret
    exact ⟨rfl, own2, g, HT2.out, .inr ⟨HE.out, rfl, H2.out⟩⟩
end
end Go.Proofs.YteaokeiolgjhaaaGreat.Sto
/- A store's log is had somewhere else. -/
namespace Go.Proofs.YteaokeiolgjhaaaGreat.Sto
open Go.RowKit Go.Shelf CrcMath CodecMath Mem Crc Codec DiskSpec Dsk Sup Log

section
variable {w w' w1 wr : World} {B b tb g g' sb dm : Nat} {wm : Option Nat} {own own' own2 : Nat → Prop} {s : Sto}
set_option maxRecDepth 100000 in
set_option maxHeartbeats 800000 in
theorem sto_switch_busy (h : StoAt w B b tb g sb dm wm own s) (a c : Int) (hb : s.W.isSome = true ∨ keys s.D ≠ []) :
    Calls Tryz.prog 26 #[.pointer (some ⟨sb, 0, none⟩), .int .i64 a, .int .i64 c] w fun e w' => e = .returned (.int .i64 17) ∧ w' = w := by
  have HU := Lib.hid (sto_under h)
  obtain ⟨_, _, _, _, _, _, _, _, _, _, c10, _⟩ := h.cells
  have hsz := fun ty => h.d.size ty
  clear h
  by_cases hW : s.W.isSome = true
  · rw [hW] at HU
    clear hb hW
    go_enter Tryz.func26, Tryz.ntmps26
    go_wp2_with fail
    refine HU.out.mono ?_
    rintro e w1 ⟨rfl, rfl⟩
    go_wp2_with fail
    go_ret
    exact ⟨rfl, rfl⟩
  · rw [Bool.not_eq_true] at hW
    rw [hW] at HU
    have hk : 0 < (keys s.D).length := by
      rcases hb with hb | hb
      · rw [hW] at hb; cases hb
      · exact List.length_pos_iff.2 hb
    generalize (keys s.D).length = K at *
    have hki : (0 : Int) < (K : Int) := by omega
    clear hb hW
    go_enter Tryz.func26, Tryz.ntmps26
    go_wp2_with fail
    refine HU.out.mono ?_
    rintro e w1 ⟨rfl, rfl⟩
    go_wp2_with fail
    go_ret
    exact ⟨rfl, rfl⟩
set_option maxRecDepth 100000 in
set_option maxHeartbeats 1600000 in
theorem sto_switch (h : StoAt w B b tb g sb dm wm own s) (a c : Int) (hW : s.W.isSome = false) (hk : keys s.D = []) (hroom : ∀ i, (s.S.ver i).length < 549755813888) :
    Calls Tryz.prog 26 #[.pointer (some ⟨sb, 0, none⟩), .int .i64 a, .int .i64 c] w (Restarted (.pointer (some ⟨g, 0, none⟩)) w B b tb g sb dm wm own s [((s.x.gn : Nat) : Int) + 1, ((s.x.ep : Nat) : Int) + 1, ((s.x.pg : Nat) : Int), a, c, 0, 1]) := by
  have HU := Lib.hid (sto_under h)
  rw [hW] at HU
  obtain ⟨_, _, c2, c3, c4, c5, c6, c7, c8, _, c10, _⟩ := h.cells
  have hsz := fun ty => h.d.size ty
  rw [hk] at hsz
  have hmay := mayB_ok h.may
  have hgx := (superOk_at hmay 0 (by simp [Sb.l])).2
  have hex := (superOk_at hmay 1 (by simp [Sb.l])).2
  simp [Sb.l] at hgx hex
  have HRS := Lib.hid (restarted_any s.x (by omega) (by omega) w)
  have H := Lib.hid h
  have HROOM := Lib.hid hroom
  clear h hroom hW hk hmay
  go_enter Tryz.func26, Tryz.ntmps26
  go_wp2_with fail
  refine HU.out.mono ?_
  rintro e w1 ⟨rfl, rfl⟩
  go_wp2_with fail
  refine HRS.out.mono ?_
  rintro e w2 ⟨rfl, hg2⟩
  have HG2 := Lib.hid (hg2.trans (World.grownBy_alloc w2 (.cells #[.int .i64 (((s.x.gn : Nat) : Int) + 1), .int .i64 (((s.x.ep : Nat) : Int) + 1), .int .i64 (s.x.pg : Nat), .int .i64 a, .int .i64 c, .int .i64 0, .int .i64 1] 49) none))
  have HRT := Lib.hid (sto_restart (H.out.quiet HG2.out) (((s.x.gn : Nat) : Int) + 1) (((s.x.ep : Nat) : Int) + 1) ((s.x.pg : Nat) : Int) a c 0 1 HROOM.out)
  clear hg2 HRS c2 c3 c4 c5 c6 c7 c8 c10 hsz
  go_wp2_with fail
  refine HRT.out.mono ?_
  unfold Restarted
  rintro e w3 ⟨rfl, own3, g3, ht3, h3⟩
  have HT3 := Lib.hid ((Turn.none_ HG2.out).trans ht3)
  have H3 := Lib.hid h3
  clear ht3 h3 HRT
  go_wp2_with fail
  go_ret
  exact ⟨rfl, own3, g3, HT3.out, H3.out⟩
end
end Go.Proofs.YteaokeiolgjhaaaGreat.Sto
/- Write of a store. -/
namespace Go.Proofs.YteaokeiolgjhaaaGreat.Sto
open Go.RowKit Go.Shelf CrcMath CodecMath Mem Crc Codec DiskSpec Dsk Sup Log

/-- PutPage tells whether a page may be. -/
def mayE (p : Int) (q : Pg) : Int := if pageOk p q.1 q.2 then 0 else 1
theorem page_any {w : World} {tb : Nat} {P : Nat → Prop} (p : Int) (q : Pg) {A : Option Addr} {n c : Nat} (hR : Ready w tb) (hd : Dsk.Data w P A n q.2) (hP : P tb) :
    Calls Tryz.prog 53 #[.pointer (some ⟨tb, 0, none⟩), .agg #[.int .i64 p, .int .i64 q.1, .slice A n c]] w fun e w' => (∃ A' n' c', e = .returned (.tuple #[.slice A' n' c', .int .i64 (mayE p q)])) ∧ w.grownBy w' none := by
  refine (put_page_core tb tb none p q.1 A n c q.2 w (tabs_ready hR) (data_bytes hd hP)).mono ?_
  rintro e w' ⟨hg, ⟨l, g, ho, rfl, _⟩ | ⟨ho, rfl, _⟩⟩
  · have hk : pageOk p q.1 q.2 = true := by
      unfold pageW at ho
      split at ho
      · assumption
      · cases ho
    have hm : mayE p q = 0 := if_pos hk
    exact ⟨⟨_, _, _, by rw [hm]⟩, hg⟩
  · have hk : ¬ (pageOk p q.1 q.2 = true) := fun hk => by
      rw [pageW, if_pos hk] at ho; cases ho
    have hm : mayE p q = 1 := if_neg hk
    exact ⟨⟨_, _, _, by rw [hm]⟩, hg⟩
section
variable {w w' w1 wr : World} {B b tb g g' sb dm : Nat} {wm : Option Nat} {own own' own2 : Nat → Prop} {s : Sto}
/-- A page is in the transaction. -/
theorem StoAtG.wrote {m : Nat} (h : StoAt w B b tb g sb dm (some m) own s) (hg : w.grownBy w' (some m)) {U : Pgs} (hd : PMap w' (Foot own tb g sb dm (some m)) m U) :
    StoAt w' B b tb g sb dm (some m) own { s with W := some U } ∧ Turn w w' (Foot own tb g sb dm (some m)) (Foot own tb g sb dm (some m)) := by
  have ht : Turn w w' (Foot own tb g sb dm (some m)) (Foot own tb g sb dm (some m)) := .of_grown hg (fun j e => by cases e; exact .inr (.inr (.inr rfl)))
  obtain ⟨m1, m2, m3⟩ := h.owm m rfl
  refine ⟨⟨h.l.far hg (fun q e => (by cases e; exact m1)), h.r.keep hg (fun e => (by cases e; exact m1 (.inl (.inr rfl)))), h.c.grown hg (fun e => m2 (by cases e; rfl)), h.d.turn ht (hg.block dm h.d.lt (fun e => m3 (by cases e; rfl))), fun V hV => ?_, fun e => (by cases e), h.may, h.osb, h.odm, h.owm, h.low⟩, ht⟩
  cases hV
  exact ⟨m, rfl, hd⟩
/-- A look-up answers a page, or the zero page. -/
theorem PMap.lookAgg {P : Nat → Prop} {bm : Nat} {D : Pgs} (h : PMap w P bm D) (k : Nat) (hk : k < 9223372036854775808) : ∃ k0 A n c, (Instr.lookup 102 (.map (some bm)) (.int .i64 (k : Nat)) true).run Tryz.prog w = .ok (.tuple #[.agg #[.int .i64 k0, .slice A n c], .bool (D k).isSome]) w := by
  obtain ⟨v, hr, ⟨_, rfl⟩ | ⟨p, _, bv, rfl, A, n, c, rfl, _⟩⟩ := h.lookOk k hk
  · exact ⟨_, _, _, _, hr⟩
  · exact ⟨_, _, _, _, hr⟩
set_option maxRecDepth 100000 in
set_option maxHeartbeats 1600000 in
theorem sto_write_small (h : StoAt w B b tb g sb dm wm own s) (p : Int) {v : Value} {q : Pg} (hv : PgV w (Foot own tb g sb dm wm) v q) (hs : s.W = none ∨ s.has p = false) :
    Calls Tryz.prog 15 #[.pointer (some ⟨sb, 0, none⟩), .int .i64 p, v] w (Stood w B b tb g sb dm wm own (writePE s p q)) := by
  obtain ⟨bv, rfl, A, n, c, rfl, hnc, hd⟩ := hv
  have hga := World.grownBy_alloc w (.cells #[.int .i64 q.1, .slice A n c] 40) none
  have HU := Lib.hid (sto_under (h.quiet hga))
  have HH := Lib.hid (sto_has (h.quiet hga) p)
  have H1 := Lib.hid (h.quiet hga)
  have HT1 := Lib.hid (Turn.none_ (own := Foot own tb g sb dm wm) hga)
  clear hga h hd
  cases hW : s.W with
  | none =>
    have HE := Lib.hid (show writePE s p q = (18, s) from by unfold writePE; rw [hW])
    rw [hW] at HU
    clear hW hs
    go_enter Tryz.func15, Tryz.ntmps15
    go_wp2_with fail
    refine HU.out.mono ?_
    rintro e w2 ⟨rfl, rfl⟩
    go_wp2_with fail
    go_ret
    rw [HE.out]
    exact ⟨rfl, own, H1.out, HT1.out⟩
  | some U =>
    rcases hs with hs | hs
    · rw [hW] at hs; cases hs
    have HE := Lib.hid (show writePE s p q = (2, s) from by unfold writePE; rw [hW]; exact if_pos hs)
    rw [hW] at HU
    rw [hs] at HH
    clear hW hs
    go_enter Tryz.func15, Tryz.ntmps15
    go_wp2_with fail
    refine HU.out.mono ?_
    rintro e w2 ⟨rfl, rfl⟩
    go_wp2_with fail
    refine HH.out.mono ?_
    rintro e w2 ⟨rfl, rfl⟩
    go_wp2_with fail
    go_ret
    rw [HE.out]
    exact ⟨rfl, own, H1.out, HT1.out⟩
/-- What Write leaves, told for any blocks beside the store's own. -/
def WroteS (w : World) (B b tb g sb dm m : Nat) (own : Nat → Prop) (U : Pgs) (r : Int × Sto) (e : Ending) (w' : World) : Prop :=
  e = .returned (.int .i64 r.1) ∧ StoAt w' B b tb g sb dm (some m) own r.2 ∧ w.grownBy w' (some m) ∧ ∀ Q : Nat → Prop, (∀ i, Q i → i < w.heap.size) → Q m → PMap w Q m U → ∀ U', r.2.W = some U' → PMap w' Q m U'
theorem wroteS_same {w w' : World} {B b tb g sb dm m : Nat} {own : Nat → Prop} {U : Pgs} {s : Sto} {z : Int} (h : StoAt w' B b tb g sb dm (some m) own s) (hU : s.W = some U) (hg : w.grownBy w' none) : WroteS w B b tb g sb dm m own U (z, s) (.returned (.int .i64 z)) w' := by
  refine ⟨rfl, h, grown_any hg _, fun Q _ _ hm U' hU' => ?_⟩
  have : U' = U := by
    have h1 : s.W = some U' := hU'
    rw [hU] at h1
    injection h1 with h1
    exact h1.symm
  subst this
  exact hm.turn (Turn.none_ hg) (hg.block m hm.lt (by simp))
set_option maxRecDepth 100000 in
set_option maxHeartbeats 3200000 in
theorem sto_write_g (h : StoAt w B b tb g sb dm wm own s) (p : Int) {v : Value} {q : Pg} {U : Pgs} (hv : PgV w (Foot own tb g sb dm wm) v q) (hU : s.W = some U) (hp : s.has p = true) :
    Calls Tryz.prog 15 #[.pointer (some ⟨sb, 0, none⟩), .int .i64 p, v] w fun e w' => ∃ m, wm = some m ∧ WroteS w B b tb g sb dm m own U (writePE s p q) e w' := by
  obtain ⟨m, rfl, hm⟩ := h.u U hU
  obtain ⟨bv, rfl, A, n, c, rfl, hnc, hd⟩ := hv
  have hga := World.grownBy_alloc w (.cells #[.int .i64 q.1, .slice A n c] 40) none
  have hpr : 0 ≤ p ∧ p < (s.x.pg : Int) := by simpa [Sto.has] using hp
  have hpg := (superOk_at (mayB_ok h.may) 2 (by simp [Sb.l])).2
  simp [Sb.l] at hpg
  obtain ⟨k, rfl⟩ : ∃ k : Nat, p = (k : Int) := ⟨p.toNat, by omega⟩
  have hk : k < 9223372036854775808 := by omega
  have HU := Lib.hid (sto_under (h.quiet hga))
  have HH := Lib.hid (sto_has (h.quiet hga) (k : Int))
  rw [hU] at HU
  rw [hp] at HH
  have H1 := Lib.hid (h.quiet hga)
  have HT1 := Lib.hid (Turn.none_ (own := Foot own tb g sb dm (some m)) hga)
  have HGW1 := Lib.hid hga
  have HB1 := Lib.hid (Blk.new w 40 #[.int .i64 q.1, .slice A n c])
  have HDT := Lib.hid (Dsk.Data.turn hd HT1.out)
  have HE := Lib.hid (show writePE s (k : Int) q = if pageOk (k : Int) q.1 q.2 = false then (1, s) else if U k = none ∧ (keys U).length = 40 then (16, s) else (0, { s with W := some (upd U k (some q)) }) from by
    unfold writePE
    rw [hU]
    show (if s.has (k : Int) = false then _ else _) = _
    rw [if_neg (by rw [hp]; simp)]
    rfl)
  have HUW := Lib.hid hU
  have HNC := Lib.hid hnc
  have HIX := Lib.hid (show ¬ Foot own tb g sb dm (some m) w.heap.size from fun hi => by have := h.foot_lt hi; omega)
  clear hga hpr hpg h hd hU hp hm hnc
  obtain ⟨R0, hR0⟩ : ∃ r, writePE s (k : Int) q = r := ⟨_, rfl⟩
  rw [hR0] at HE ⊢
  clear hR0
  go_enter Tryz.func15, Tryz.ntmps15
  go_wp2_with fail
  refine HU.out.mono ?_
  rintro e w2 ⟨rfl, rfl⟩
  go_wp2_with fail
  refine HH.out.mono ?_
  rintro e w2 ⟨rfl, rfl⟩
  clear HU HH
  go_wp2_with fail
  generalize w.alloc (.cells #[.int .i64 q.1, .slice A n c] 40) = wq at *
  have hkeep : ∀ (wx : World) (t : Sto), StoAt wx B b tb g sb dm (some m) own t → Blk wx w.heap.size 40 #[.int .i64 q.1, .slice A n c] → wx.cell? ⟨sb, 1, none⟩ = some (.pointer (some ⟨tb, 0, none⟩)) ∧ wx.cell? ⟨sb, 11, none⟩ = some (.map (some m)) ∧ wx.cell? ⟨w.heap.size, 0, none⟩ = some (.int .i64 q.1) ∧ wx.cell? ⟨w.heap.size, 1, none⟩ = some (.slice A n c) := fun wx t hs hb => by
    obtain ⟨_, c1, _, _, _, _, _, _, _, _, _, c11⟩ := hs.cells
    exact ⟨c1, c11, by rw [hb.cell]; rfl, by rw [hb.cell]; rfl⟩
  have HKEEP := Lib.hid hkeep
  have HD0 := Lib.hid (grown_drew wq none)
  have HB0 := Lib.hid (HB1.out.grown HD0.out (by simp))
  have H2 := Lib.hid (H1.out.quiet HD0.out)
  have HPP := Lib.hid (page_any (w := wq.drew) (tb := tb) (P := Foot own tb g sb dm (some m)) (k : Int) q (A := A) (n := n) (c := c) H2.out.r (Dsk.Data.turn HDT.out (Turn.none_ HD0.out)) (.inl (.inl (.inr rfl))))
  clear hkeep
  go_region_held3 (fun wx => wx.cell? ⟨sb, 1, none⟩ = some (.pointer (some ⟨tb, 0, none⟩)) ∧ wx.cell? ⟨sb, 11, none⟩ = some (.map (some m)) ∧ wx.cell? ⟨w.heap.size, 0, none⟩ = some (.int .i64 q.1) ∧ wx.cell? ⟨w.heap.size, 1, none⟩ = some (.slice A n c))
    (first
      | exact HKEEP.out _ _ H2.out HB0.out
      | exact HKEEP.out _ _ H3.out HB3.out)
    (first
      | (go_at_call 53
         (with_reducible refine HPP.out.mono ?_)
         rintro e w3 ⟨⟨A', n', c', rfl⟩, hg3⟩
         have H3 := Lib.hid (H2.out.quiet hg3)
         have HB3 := Lib.hid (HB0.out.grown hg3 (by simp))
         have HT3 := Lib.hid (HT1.out.trans (Turn.none_ (HD0.out.trans hg3)))
         have HDT3 := Lib.hid (Dsk.Data.turn HDT.out (Turn.none_ (HD0.out.trans hg3)))
         have HGW3 := Lib.hid (HGW1.out.trans (HD0.out.trans hg3))
         clear hg3))
  clear HPP HB0 H2 HD0 HB1 H1 HT1 HDT
  by_cases hok : pageOk (k : Int) q.1 q.2 = true
  · have hme : mayE (k : Int) q = 0 := if_pos hok
    have HOK := Lib.hid hok
    have HE1 := Lib.hid (show R0 = if U k = none ∧ (keys U).length = 40 then (16, s) else (0, { s with W := some (upd U k (some q)) }) from HE.out.trans (if_neg (by rw [hok]; simp)))
    rw [hme]
    clear hme hok HE
    obtain ⟨m', em, hm⟩ := H3.out.u U HUW.out
    cases em
    obtain ⟨k0, A1, n1, c1, hlook⟩ := hm.lookAgg k hk
    obtain ⟨ux, hux⟩ : ∃ u, (U k).isSome = u := ⟨_, rfl⟩
    rw [hux] at hlook
    have HUX := Lib.hid hux
    clear hux
    obtain ⟨_, _, _, _, _, _, _, _, _, _, _, y11⟩ := H3.out.cells
    have HG4 := Lib.hid (World.grownBy_alloc w3 (.cells #[.int .i64 k0, .slice A1 n1 c1] 40) none)
    have H4 := Lib.hid (H3.out.quiet HG4.out)
    have HB4 := Lib.hid (HB3.out.grown HG4.out (by simp))
    have HT4 := Lib.hid (HT3.out.trans (Turn.none_ HG4.out))
    have HDT4 := Lib.hid (Dsk.Data.turn HDT3.out (Turn.none_ HG4.out))
    have HGW4 := Lib.hid (HGW3.out.trans HG4.out)
    have HM4 := Lib.hid (hm.quiet HG4.out)
    clear hm
    go_upto_region 9 with fail
    clear hlook y11 HB3 H3 HT3 HDT3 HG4
    generalize w3.alloc (.cells #[.int .i64 k0, .slice A1 n1 c1] 40) = w4 at *
    have hsz := fun ty => HM4.out.size ty
    obtain ⟨_, _, _, _, _, _, _, _, _, _, _, y11⟩ := H4.out.cells
    go_cut [50] (fun s5 wx => s5 = .bool (decide (U k = none ∧ (keys U).length = 40)) ∧ wx = w4)
    case first =>
      generalize (keys U).length = K at *
      cases ux with
      | true =>
        have hUn : ¬ (U k = none) := fun e => by have := HUX.out; rw [e] at this; cases this
        go_wp2_with fail
        go_meet
        exact ⟨by simp [hUn], rfl⟩
      | false =>
        have hUn : U k = none := by have := HUX.out; simpa using this
        have HUN := Lib.hid hUn
        clear hUn
        by_cases hK : K = 40
        · have hK1 : ((K : Int) == 40) = true := by simp; omega
          have hK2 : (K : Int) = 40 := by omega
          go_wp2_with fail
          go_meet
          exact ⟨by simp [hK, HUN.out], rfl⟩
        · have hK1 : ((K : Int) == 40) = false := by simp; omega
          have hK2 : ¬ ((K : Int) = 40) := by omega
          go_wp2_with fail
          go_meet
          exact ⟨by simp [hK], rfl⟩
    case rest =>
      obtain ⟨rfl, rfl⟩ := hcut
      generalize wc = w4 at *
      clear hsz y11
      by_cases hq : U k = none ∧ (keys U).length = 40
      · have hqd : decide (U k = none ∧ (keys U).length = 40) = true := by simpa using hq
        have HE2 := Lib.hid (HE1.out.trans (if_pos hq))
        rw [hqd]
        clear hqd hq
        go_wp2_with fail
        go_ret
        rw [HE2.out]
        exact ⟨m, rfl, wroteS_same H4.out HUW.out HGW4.out⟩
      · have hqd : decide (U k = none ∧ (keys U).length = 40) = false := by simpa using hq
        have HE2 := Lib.hid (HE1.out.trans (if_neg hq))
        rw [hqd]
        clear hqd hq
        have hl : q.2.length = 240 := (pageOk_iff HOK.out).2.2.1
        have HD5 := Lib.hid (grown_drew w4 none)
        have H5 := Lib.hid (H4.out.quiet HD5.out)
        have HB5 := Lib.hid (HB4.out.grown HD5.out (by simp))
        have HCP := Lib.hid (copied_any (w := w4.drew) (P := Foot own tb g sb dm (some m)) (v := .agg #[.int .i64 q.1, .slice A n c]) (p := q) ⟨_, rfl, A, n, c, rfl, HNC.out, Dsk.Data.turn HDT4.out (Turn.none_ HD5.out)⟩ (by omega) (by omega))
        have HFL := Lib.hid (fun i (hi : Foot own tb g sb dm (some m) i) => H5.out.foot_lt hi)
        have hmm := (H5.out.u U HUW.out)
        have HMM := Lib.hid (show PMap w4.drew (Foot own tb g sb dm (some m)) m U from by obtain ⟨m', em, hm⟩ := hmm; cases em; exact hm)
        clear hl hmm HM4
        go_wp2_with fail
        go_region_held3 (fun wx => wx.cell? ⟨sb, 1, none⟩ = some (.pointer (some ⟨tb, 0, none⟩)) ∧ wx.cell? ⟨sb, 11, none⟩ = some (.map (some m)) ∧ wx.cell? ⟨w.heap.size, 0, none⟩ = some (.int .i64 q.1) ∧ wx.cell? ⟨w.heap.size, 1, none⟩ = some (.slice A n c))
          (first
            | exact HKEEP.out _ _ H5.out HB5.out
            | exact HKEEP.out _ _ H7.out.1 HB7.out
            | exact HKEEP.out _ _ H6.out HB6.out)
          (first
            | (go_at_call 54
               (with_reducible refine HCP.out.mono ?_)
               rintro e w6 ⟨v', rfl, hv', hg6⟩
               have H6 := Lib.hid (H5.out.quiet hg6)
               have HB6 := Lib.hid (HB5.out.grown hg6 (by simp))
               obtain ⟨w7, hrun, hd7, hg7⟩ := (HMM.out.quiet hg6).store (k := k) (p := q) (v := v') (hv'.weak (fun i _ hi => HFL.out i hi)) HOK.out (.inr (.inr (.inr rfl)))
               have H7 := Lib.hid (H6.out.wrote hg7 hd7)
               have HB7 := Lib.hid (HB6.out.grown hg7 (fun e => HIX.out (.inr (.inr (.inr (by cases e; rfl))))))
               have HGW6 := Lib.hid (HGW4.out.trans (HD5.out.trans hg6))
               have HGW7 := Lib.hid ((grown_any HGW6.out (some m)).trans hg7)
               have HQ7 := Lib.hid (show ∀ Q : Nat → Prop, (∀ i, Q i → i < w.heap.size) → Q m → PMap w Q m U → PMap w7 Q m (upd U k (some q)) from fun Q hQ hQm hU0 => (by
                 have h6 : PMap w6 Q m U := hU0.turn (Turn.none_ HGW6.out) (HGW6.out.block m hU0.lt (by simp))
                 obtain ⟨w7', hr', hd', _⟩ := h6.store (k := k) (p := q) (v := v') (hv'.weak (fun i _ hi => Nat.lt_of_lt_of_le (hQ i hi) (HGW4.out.trans HD5.out).size)) HOK.out hQm
                 have e7 := hrun.symm.trans hr'
                 injection e7 with _ e7
                 rw [e7]
                 exact hd'))
               clear hv' hg6 hd7 hg7))
        go_wp2
        go_ret
        rw [HE2.out]
        exact ⟨m, rfl, rfl, H7.out.1, HGW7.out, fun Q h1 h2 h3 U' hU' => by cases hU'; exact HQ7.out Q h1 h2 h3⟩
  · have hme : mayE (k : Int) q = 1 := if_neg hok
    have HE1 := Lib.hid (show R0 = (1, s) from HE.out.trans (if_pos (by simpa using hok)))
    rw [hme]
    clear hme hok HE
    go_wp2_with fail
    go_ret
    rw [HE1.out]
    exact ⟨m, rfl, wroteS_same H3.out HUW.out HGW3.out⟩
theorem sto_write (h : StoAt w B b tb g sb dm wm own s) (p : Int) {v : Value} {q : Pg} {U : Pgs} (hv : PgV w (Foot own tb g sb dm wm) v q) (hU : s.W = some U) (hp : s.has p = true) :
    Calls Tryz.prog 15 #[.pointer (some ⟨sb, 0, none⟩), .int .i64 p, v] w (Stood w B b tb g sb dm wm own (writePE s p q)) := by
  refine (sto_write_g h p hv hU hp).mono ?_
  rintro e w1 ⟨m, rfl, h1, h2, h3, _⟩
  exact ⟨h1, own, h2, .of_grown h3 (fun j e => by cases e; exact .inr (.inr (.inr rfl)))⟩
end
end Go.Proofs.YteaokeiolgjhaaaGreat.Sto
/- A page is read from its home. -/
namespace Go.Proofs.YteaokeiolgjhaaaGreat.Sto
open Go.RowKit Go.Shelf CrcMath CodecMath Mem Crc Codec DiskSpec Dsk Sup Log

/-- What readHome answers. -/
def homeQ (o : Option (Int × List Nat)) : Int × Pg := match o with | some q => (0, q) | none => (13, (0, []))
def readHE (s : Sto) (p : Int) : Int × Pg := if (readE s.S (2 + p) 1).1 = 0 then homeQ (pageR (readL s.S (2 + p) 1) p) else ((readE s.S (2 + p) 1).1, (0, []))
theorem PgV.zero (w : World) (P : Nat → Prop) : PgV w P (.agg #[.int .i64 0, .slice none 0 0]) (0, []) := ⟨_, rfl, none, 0, 0, rfl, Nat.le_refl _, rfl, by simp, fun h => by omega⟩
theorem body_lies {w : World} {base : Nat} {v : Value} {l : List Nat} {P : Nat → Prop} (h : Lies w base v l) (hP : ∀ i, P i → i < base) : BodyAt w P v l := by
  obtain ⟨A, c, rfl, hc, hx, hl⟩ := h
  refine ⟨A, l.length, c, rfl, hc, rfl, hx, fun h0 => ?_⟩
  obtain ⟨g, o, t, L, rfl, hg, hb, hoL, he⟩ := hl h0
  refine ⟨g, o, rfl, hb.lt, fun hp => by have := hP g hp; omega, fun j hj => ?_⟩
  have hq : o + j < L.length := by omega
  rw [hb.cell, List.getElem?_toArray, u8s_at L (o + j) hq]
  have hL : l.getD j 0 = L.getD (o + j) 0 := by
    rw [he]
    simp [List.getD_eq_getElem?_getD, List.getElem?_drop, hj]
  rw [hL]
section
variable {w w' w1 wr : World} {B b tb g g' sb dm : Nat} {wm : Option Nat} {own own' own2 : Nat → Prop} {s : Sto}
/-- The disk has turned, and behind it a block that is new. -/
theorem StoAtG.read_ (h : StoAt w B b tb g sb dm wm own s) {w2 w3 : World} {T : St} {r : Nat} (hd : DAt w2 B b T own) (ht : Turn w w2 own own) (hn : T.n = s.S.n) (hg : w2.grownBy w3 (some r)) (hr : w.heap.size ≤ r) :
    StoAt w3 B b tb g sb dm wm own (s.disk T) ∧ Turn w w3 own own :=
  have hd3 := dat_grown hd hg (fun j e ho => by cases e; have := h.l.own_lt (.inl (.inl ho)); omega)
  have ht3 := ht.new_ hg hr
  ⟨h.disk hd3 ht3 hn, ht3⟩
set_option maxRecDepth 100000 in
set_option maxHeartbeats 1600000 in
theorem sto_home (h : StoAt w B b tb g sb dm wm own s) (p : Int) (hp : -9223372036854775808 ≤ p ∧ p ≤ 9223372036854775800) :
    Calls Tryz.prog 57 #[.pointer (some ⟨sb, 0, none⟩), .int .i64 p] w fun e w' => ∃ v, e = .returned (.tuple #[v, .int .i64 (readHE s p).1]) ∧ PgV w' (fun i => i < w.heap.size) v (readHE s p).2 ∧
      StoAt w' B b tb g sb dm wm own (s.disk (readE s.S (2 + p) 1).2) ∧ Turn w w' own own := by
  have hga := World.grownBy_alloc w (.cells #[.int .i64 0, .slice none 0 0] 40) none
  have HZ1 := Lib.hid (Blk.new w 40 #[.int .i64 0, .slice none 0 0])
  have HIX := Lib.hid (show ¬ Foot own tb g sb dm wm w.heap.size from fun hi => by have := h.foot_lt hi; omega)
  have HD1 := Lib.hid (grown_drew (w.alloc (.cells #[.int .i64 0, .slice none 0 0] 40)) none)
  have H1 := Lib.hid ((h.quiet hga).quiet HD1.out)
  have HB1 := Lib.hid (HZ1.out.grown HD1.out (by simp))
  have HT1 := Lib.hid (Turn.none_ (own := Foot own tb g sb dm wm) (hga.trans HD1.out))
  have HSZ := Lib.hid (show w.heap.size < (w.alloc (.cells #[.int .i64 0, .slice none 0 0] 40)).drew.heap.size from HB1.out.lt)
  have HRD := Lib.hid (disk_read_all H1.out.l.s.d (2 + p) 1 (by omega) (by omega))
  have HHM := Lib.hid (fun wx => home_any p wx hp)
  have HRN := Lib.hid (readE_n s.S (2 + p) 1)
  obtain ⟨R0, hR0⟩ : ∃ r, readHE s p = r := ⟨_, rfl⟩
  rw [hR0]
  unfold readHE at hR0
  have HR0 := Lib.hid hR0.symm
  have H0 := Lib.hid h
  have HTD := Lib.hid (Turn.none_ (own := own) (hga.trans HD1.out))
  have HTB := Lib.hid (show tb < w.heap.size from h.foot_lt (.inl (.inl (.inr rfl))))
  have hlt0 := hga.size
  have HLR := Lib.hid (readL_lt' h.l.s.ok (2 + p) 1)
  clear hga h hp hR0 HZ1
  generalize readL s.S (2 + p) 1 = l at *
  generalize readE s.S (2 + p) 1 = R at *
  obtain ⟨er, T⟩ := R
  dsimp only at *
  go_enter Tryz.func57, Tryz.ntmps57
  go_wp2_with fail
  generalize w.alloc (.cells #[.int .i64 0, .slice none 0 0] 40) = wq at *
  have hkeep : ∀ (wx : World) (t : Sto), StoAt wx B b tb g sb dm wm own t → wx.cell? ⟨sb, 0, none⟩ = some (.pointer (some ⟨b, 0, none⟩)) ∧ wx.cell? ⟨sb, 1, none⟩ = some (.pointer (some ⟨tb, 0, none⟩)) := fun wx t hs => by
    obtain ⟨c0, c1, _⟩ := hs.cells
    exact ⟨c0, c1⟩
  have HKEEP := Lib.hid hkeep
  clear hkeep
  go_region_held3 (fun wx => wx.cell? ⟨sb, 0, none⟩ = some (.pointer (some ⟨b, 0, none⟩)) ∧ wx.cell? ⟨sb, 1, none⟩ = some (.pointer (some ⟨tb, 0, none⟩)))
    (first
      | exact HKEEP.out _ _ H1.out
      | exact HKEEP.out _ _ H2.out)
    (first
      | (go_at_call 44
         (with_reducible refine (HHM.out _).mono ?_)
         rintro e w4 ⟨rfl, rfl⟩)
      | (go_at_call 106
         (with_reducible refine HRD.out.mono ?_)
         rintro e w2 ⟨vr, rfl, hgv, hd2, ht2⟩
         have H2 := Lib.hid (H1.out.disk hd2 ht2 HRN.out)
         have HT2 := Lib.hid (HT1.out.trans (turnD (tb := tb) (g := g) (sb := sb) (dm := dm) (wm := wm) ht2))
         have HB2 := Lib.hid (blk_of_block HB1.out (ht2.block w.heap.size HB1.out.lt (fun ho => HIX.out (.inl (.inl (.inl ho))))))
         have HGV := Lib.hid hgv
         have HDD := Lib.hid hd2
         have HTW := Lib.hid (HTD.out.trans ht2)
         clear hd2 ht2 hgv))
  have b0 := HB2.out.frozen 0; have b1 := HB2.out.frozen 1
  have y0 := HB2.out.cell 0; have y1 := HB2.out.cell 1
  simp only [List.getElem?_toArray, List.getElem?_cons_zero, List.getElem?_cons_succ] at y0 y1
  clear HRD HHM
  by_cases he : er = 0
  · subst he
    have HE := Lib.hid (show R0 = homeQ (pageR l p) from HR0.out.trans (if_pos rfl))
    clear HR0
    obtain ⟨A, n, c, rfl⟩ : ∃ A n c, vr = .slice A n c := by
      rcases HGV.out with ⟨rfl, _⟩ | ⟨_, _, rfl, _⟩ <;> exact ⟨_, _, _, rfl⟩
    have HBY := Lib.hid (bytes_gave (tb := tb) HGV.out HLR.out (by have := HTB.out; have := HSZ.out; omega))
    have HGP := Lib.hid (codec_get_page tb tb A n c l p w2 H2.out.r HBY.out)
    obtain ⟨_, c1, _⟩ := H2.out.cells
    have hs2 : w.heap.size < w2.heap.size := HB2.out.lt
    clear y0 y1 b0 b1 HGV
    generalize pageR l p = o at *
    go_wp2_with fail
    refine HGP.out.mono ?_
    rintro e w3 ⟨hg3, ⟨kind, body, v, ho, rfl, hly⟩ | ⟨ho, rfl⟩⟩
    · subst ho
      have HBO := Lib.hid (body_lies (P := fun i => i < w.heap.size + 1) hly (fun i hi => by omega))
      obtain ⟨A2, c2, rfl, _⟩ := hly
      have HG4 := Lib.hid (hg3.trans (World.grownBy_alloc w3 (.cells #[.int .i64 kind, .slice A2 body.length c2] 40) none))
      have HB4 := Lib.hid (HB2.out.grown HG4.out (by simp))
      have hbk := Blk.new w3 40 #[.int .i64 kind, .slice A2 body.length c2]
      have y0 := HB4.out.cell 0; have y1 := HB4.out.cell 1; have f0 := HB4.out.frozen 0; have f1 := HB4.out.frozen 1
      have z0 := hbk.cell 0; have z1 := hbk.cell 1
      simp only [List.getElem?_toArray, List.getElem?_cons_zero, List.getElem?_cons_succ] at y0 y1 z0 z1
      clear hbk hg3
      go_wp2_with fail
      have hs := Lib.grownBy_setB (Lib.grownBy_setB (World.grownBy.refl (w3.alloc (.cells #[.int .i64 kind, .slice A2 body.length c2] 40)) (some w.heap.size)) 0 (.int .i64 kind)) 1 (.slice A2 body.length c2)
      refine ret_row2 rfl w.heap.size 40 _ _ rfl (Blk.set2 HB4.out) Tryz.underlying40 rfl (by kernel_rfl) rfl ?_
      rw [HE.out]
      have h9 := H0.out.read_ HDD.out HTW.out HRN.out ((grown_any_row HG4.out _).trans hs) (Nat.le_refl _)
      refine ⟨_, rfl, ⟨_, rfl, ?_⟩, h9.1, h9.2⟩
      exact ((HBO.out.turn (Turn.none_ (World.grownBy_alloc w3 _ none))).turn (.of_grown hs (fun j e => by cases e; show w.heap.size < w.heap.size + 1; omega))).weak (fun i _ hi => by show i < w.heap.size + 1; have : i < w.heap.size := hi; omega)
    · subst ho
      have HG4 := Lib.hid (hg3.trans (World.grownBy_alloc w3 (.cells #[.int .i64 0, .slice none 0 0] 40) none))
      have HB4 := Lib.hid (HB2.out.grown HG4.out (by simp))
      have y0 := HB4.out.cell 0; have y1 := HB4.out.cell 1; have f0 := HB4.out.frozen 0; have f1 := HB4.out.frozen 1
      simp only [List.getElem?_toArray, List.getElem?_cons_zero, List.getElem?_cons_succ] at y0 y1
      clear hg3
      go_wp2_with fail
      have hs := Lib.grownBy_setB (Lib.grownBy_setB (World.grownBy.refl (w3.alloc (.cells #[.int .i64 0, .slice none 0 0] 40)) (some w.heap.size)) 0 (.int .i64 0)) 1 (.slice none 0 0)
      refine ret_row2 rfl w.heap.size 40 _ _ rfl (Blk.set2 HB4.out) Tryz.underlying40 rfl (by kernel_rfl) rfl ?_
      rw [HE.out]
      have h9 := H0.out.read_ HDD.out HTW.out HRN.out ((grown_any_row HG4.out _).trans hs) (Nat.le_refl _)
      exact ⟨_, rfl, PgV.zero _ _, h9.1, h9.2⟩
  · have heb : (er == 0) = false := by simpa using he
    have HE := Lib.hid (HR0.out.trans (if_neg he))
    clear HR0 he
    go_wp2_with fail
    have hg3 := Lib.grownBy_setB (Lib.grownBy_setB (World.grownBy.refl w2 (some w.heap.size)) 0 (.int .i64 0)) 1 (.slice none 0 0)
    refine ret_row2 rfl w.heap.size 40 _ _ rfl (Blk.set2 HB2.out) Tryz.underlying40 rfl (by kernel_rfl) rfl ?_
    rw [HE.out]
    have h9 := H0.out.read_ HDD.out HTW.out HRN.out hg3 (Nat.le_refl _)
    exact ⟨_, rfl, PgV.zero _ _, h9.1, h9.2⟩
end
end Go.Proofs.YteaokeiolgjhaaaGreat.Sto
/- Read of a store. -/
namespace Go.Proofs.YteaokeiolgjhaaaGreat.Sto
open Go.RowKit Go.Shelf CrcMath CodecMath Mem Crc Codec DiskSpec Dsk Sup Log

/-- What Read answers and leaves. -/
def readPE (s : Sto) (p : Int) : Int × Pg × Sto :=
  if s.has p = false then (2, (0, []), s) else match s.kept p.toNat with | some q => (0, q, s) | none => ((readHE s p).1, (readHE s p).2, s.disk (readE s.S (2 + p) 1).2)
section
variable {w w' w1 wr : World} {B b tb g g' sb dm : Nat} {wm : Option Nat} {own own' own2 : Nat → Prop} {s : Sto}
/-- A look-up, with the page that it answers. -/
theorem PMap.lookPg {P : Nat → Prop} {bm : Nat} {D : Pgs} (h : PMap w P bm D) (k : Nat) (hk : k < 9223372036854775808) : ∃ k0 A n c, (Instr.lookup 102 (.map (some bm)) (.int .i64 (k : Nat)) true).run Tryz.prog w = .ok (.tuple #[.agg #[.int .i64 k0, .slice A n c], .bool (D k).isSome]) w ∧
    ∀ q, D k = some q → PgV w P (.agg #[.int .i64 k0, .slice A n c]) q := by
  obtain ⟨v, hr, ⟨hD, rfl⟩ | ⟨p, hD, bv, rfl, A, n, c, rfl, h1, h2⟩⟩ := h.lookOk k hk
  · exact ⟨_, _, _, _, hr, fun q hq => by rw [hD] at hq; cases hq⟩
  · exact ⟨_, _, _, _, hr, fun q hq => by rw [hD] at hq; cases hq; exact ⟨_, rfl, A, n, c, rfl, h1, h2⟩⟩
theorem StoAtG.lookW (h : StoAt w B b tb g sb dm wm own s) (k : Nat) (hk : k < 9223372036854775808) : ∃ k0 A n c, (Instr.lookup 102 (.map wm) (.int .i64 (k : Nat)) true).run Tryz.prog w = .ok (.tuple #[.agg #[.int .i64 k0, .slice A n c], .bool ((s.W.getD noPgs) k).isSome]) w ∧
    ∀ q, (s.W.getD noPgs) k = some q → PgV w (Foot own tb g sb dm wm) (.agg #[.int .i64 k0, .slice A n c]) q := by
  cases hW : s.W with
  | none =>
    have hn := h.n hW
    subst hn
    exact ⟨_, _, _, _, nilLook w k hk, fun q hq => by cases hq⟩
  | some U =>
    obtain ⟨m, e, hm⟩ := h.u U hW
    subst e
    exact hm.lookPg k hk
theorem kept_first {k : Nat} {q : Pg} (h : (s.W.getD noPgs) k = some q) : s.kept k = some q := by
  unfold Sto.kept
  cases hW : s.W with
  | none => rw [hW] at h; cases h
  | some U =>
    rw [hW] at h
    show (match U k with | some p => some p | none => s.D k) = some q
    rw [show U k = some q from h]
theorem kept_then {k : Nat} (h : (s.W.getD noPgs) k = none) : s.kept k = s.D k := by
  unfold Sto.kept
  cases hW : s.W with
  | none => rfl
  | some U =>
    rw [hW] at h
    show (match U k with | some p => some p | none => s.D k) = s.D k
    rw [show U k = none from h]
theorem idx0 (c : Value) (w : World) : (Instr.index 113 (.agg #[.map wm, c]) (.int .i64 0)).run Tryz.prog w = .ok (.map wm) w := by kernel_rfl
theorem idx1 (a : Value) (d : Option Nat) (w : World) : (Instr.index 113 (.agg #[a, .map d]) (.int .i64 1)).run Tryz.prog w = .ok (.map d) w := by kernel_rfl
theorem wk_len (h : StoAt w B b tb g sb dm wm own s) {k : Nat} {q : Pg} (hq : (s.W.getD noPgs) k = some q) : q.2.length = 240 := by
  cases hW : s.W with
  | none => rw [hW] at hq; cases hq
  | some U =>
    rw [hW] at hq
    obtain ⟨m, _, hm⟩ := h.u U hW
    exact (pageOk_iff (hm.ok k q hq)).2.2.1
set_option maxRecDepth 100000 in
set_option maxHeartbeats 400000 in
theorem sto_read_none_g (h : StoAt w B b tb g sb dm wm own s) (p : Int) (hp : s.has p = false) :
    Calls Tryz.prog 19 #[.pointer (some ⟨sb, 0, none⟩), .int .i64 p] w fun e w' => ∃ v, e = .returned (.tuple #[v, .int .i64 (readPE s p).1]) ∧ PgV w' (fun i => i < w.heap.size) v (readPE s p).2.1 ∧
      StoAt w' B b tb g sb dm wm own (readPE s p).2.2 ∧ Turn w w' own own := by
  have hga := World.grownBy_alloc w (.cells #[.int .i64 0, .slice none 0 0] 40) none
  have HH := Lib.hid (sto_has (h.quiet hga) p)
  rw [hp] at HH
  have hE : readPE s p = (2, (0, []), s) := by unfold readPE; rw [if_pos hp]
  rw [hE]
  have HGA := Lib.hid hga
  have H1 := Lib.hid (h.quiet hga)
  have HZ1 := Lib.hid (Blk.new w 40 #[.int .i64 0, .slice none 0 0])
  clear hga h hE hp
  go_enter Tryz.func19, Tryz.ntmps19
  go_wp2_with fail
  refine HH.out.mono ?_
  rintro e w2 ⟨rfl, rfl⟩
  go_wp2_with fail
  refine ret_row2 rfl w.heap.size 40 _ _ rfl HZ1.out Tryz.underlying40 rfl (by kernel_rfl) rfl ?_
  exact ⟨_, rfl, PgV.zero _ _, H1.out, Turn.none_ HGA.out⟩
set_option maxRecDepth 100000 in
set_option maxHeartbeats 3200000 in
theorem sto_read_g (h : StoAt w B b tb g sb dm wm own s) (p : Int) (hp : s.has p = true) :
    Calls Tryz.prog 19 #[.pointer (some ⟨sb, 0, none⟩), .int .i64 p] w fun e w' => ∃ v, e = .returned (.tuple #[v, .int .i64 (readPE s p).1]) ∧ PgV w' (fun i => i < w.heap.size) v (readPE s p).2.1 ∧
      StoAt w' B b tb g sb dm wm own (readPE s p).2.2 ∧ Turn w w' own own := by
  have hga := World.grownBy_alloc w (.cells #[.int .i64 0, .slice none 0 0] 40) none
  have hpr : 0 ≤ p ∧ p < (s.x.pg : Int) := by simpa [Sto.has] using hp
  have hpg := (superOk_at (mayB_ok h.may) 2 (by simp [Sb.l])).2
  simp [Sb.l] at hpg
  obtain ⟨k, rfl⟩ : ∃ k : Nat, p = (k : Int) := ⟨p.toNat, by omega⟩
  have hk : k < 9223372036854775808 := by omega
  have hk2 : -9223372036854775808 ≤ (k : Int) ∧ (k : Int) ≤ 9223372036854775800 := by omega
  have HH := Lib.hid (sto_has (h.quiet hga) (k : Int))
  rw [hp] at HH
  have HE := Lib.hid (show readPE s (k : Int) = match s.kept k with | some q => (0, q, s) | none => ((readHE s (k : Int)).1, (readHE s (k : Int)).2, s.disk (readE s.S (2 + (k : Int)) 1).2) from by
    unfold readPE
    rw [if_neg (by rw [hp]; simp)]
    rfl)
  obtain ⟨R0, hR0⟩ : ∃ r, readPE s (k : Int) = r := ⟨_, rfl⟩
  rw [hR0] at HE ⊢
  have HGA := Lib.hid hga
  have H0 := Lib.hid h
  have HZ1 := Lib.hid (Blk.new w 40 #[.int .i64 0, .slice none 0 0])
  have HWD := Lib.hid (show w.heap.size < (w.alloc (.cells #[.int .i64 0, .slice none 0 0] 40)).heap.size from by simp)
  clear hga h hp hpr hpg hR0
  go_enter Tryz.func19, Tryz.ntmps19
  go_wp2_with fail
  refine HH.out.mono ?_
  rintro e w2 ⟨rfl, rfl⟩
  clear HH
  obtain ⟨_, _, _, _, _, _, _, _, _, _, c10, c11⟩ := (H0.out.quiet HGA.out).cells
  go_wp2_with fail
  generalize w.alloc (.cells #[.int .i64 0, .slice none 0 0] 40) = wq at *
  go_quiet (fail)
  clear c10 c11
  have HR0 := Lib.hid (World.grownBy.refl wq none)
  go_wp2_with fail
  go_loopw [7, 8, 9, 24] (fun _ _ _ i wr => ∃ j : Nat, j ≤ 2 ∧ i = .int .i64 j ∧ (1 ≤ j → (s.W.getD noPgs) k = none) ∧ (2 ≤ j → s.D k = none) ∧ wq.grownBy wr none) (fun _ _ _ i _ => 2 - (Go.RowKit.intOf i).toNat)
  case atStart => exact ⟨0, by omega, rfl, fun h => by omega, fun h => by omega, by first | exact HR0.out | exact grown_drewN (World.grownBy.refl _ _) _⟩
  case round =>
    obtain ⟨j, hj, rfl, hj1, hj2, hgr⟩ := hrel
    have HG := Lib.hid (HGA.out.trans hgr)
    have HGQ := Lib.hid hgr
    have HJ1 := Lib.hid hj1; have HJ2 := Lib.hid hj2
    have H := Lib.hid (H0.out.quiet (HGA.out.trans hgr))
    have HZ := Lib.hid (HZ1.out.grown hgr (by simp))
    clear hj1 hj2 hgr
    have hjc : j = 0 ∨ j = 1 ∨ j = 2 := by omega
    have hi0 := fun c wx => idx0 (wm := wm) c wx
    have hi1 := fun a d wx => idx1 a d wx
    rcases hjc with hjj | hjj | hjj
    · subst hjj
      obtain ⟨k0, A, n, c, hlook, hpv⟩ := H.out.lookW k hk
      cases hx : (s.W.getD noPgs) k with
      | some q =>
        rw [hx] at hlook
        have hso : (some q).isSome = true := rfl
        rw [hso] at hlook
        have HQ := Lib.hid (HE.out.trans (by rw [show s.kept k = some q from kept_first hx]))
        have hlq : q.2.length = 240 := wk_len H.out hx
        have hga4 := World.grownBy_alloc wr (.cells #[.int .i64 k0, .slice A n c] 40) none
        have HG4 := Lib.hid hga4
        have HPV := Lib.hid ((hpv q hx).turn (Turn.none_ hga4))
        have HCP := Lib.hid (copied_any HPV.out (by omega) (by omega))
        have HZ4 := Lib.hid (HZ.out.grown hga4 (by simp))
        clear hx hso hga4 hlq hpv
        go_wp2_with fail
        refine HCP.out.mono ?_
        rintro e w5 ⟨v', rfl, hv', hg5⟩
        have HV5 := Lib.hid hv'
        obtain ⟨bv, rfl, A5, n5, c5, rfl, _⟩ := hv'
        have HG5 := Lib.hid hg5
        have HZ5 := Lib.hid (HZ4.out.grown hg5 (by simp))
        have y0 := HZ5.out.cell 0; have y1 := HZ5.out.cell 1; have f0 := HZ5.out.frozen 0; have f1 := HZ5.out.frozen 1
        simp only [List.getElem?_toArray, List.getElem?_cons_zero, List.getElem?_cons_succ] at y0 y1
        clear hg5 HCP hlook
        go_wp2_with fail
        have hs := Lib.grownBy_setB (Lib.grownBy_setB (World.grownBy.refl w5 (some w.heap.size)) 0 (.int .i64 q.1)) 1 (.slice A5 n5 c5)
        refine ret_row2 rfl w.heap.size 40 _ _ rfl (Blk.set2 HZ5.out) Tryz.underlying40 rfl (by kernel_rfl) rfl ?_
        have hgz := grownBy_new (HG.out.trans (HG4.out.trans HG5.out)) hs (fun j e => by cases e; exact Nat.le_refl _)
        have hlt : w.heap.size < (wr.alloc (.cells #[.int .i64 k0, .slice A n c] 40)).heap.size := HZ4.out.lt
        rw [HQ.out]
        refine ⟨_, rfl, ?_, H0.out.quiet hgz, Turn.none_ hgz⟩
        exact (HV5.out.turn (.of_grown hs (fun j e => by cases e; exact hlt))).weak (fun i _ hi => Nat.lt_trans hi hlt)
      | none =>
        rw [hx] at hlook
        have hso : (none : Option Pg).isSome = false := rfl
        rw [hso] at hlook
        have HX := Lib.hid hx
        have HG4 := Lib.hid (HGQ.out.trans (World.grownBy_alloc wr (.cells #[.int .i64 k0, .slice A n c] 40) none))
        clear hx hso hpv
        go_wp2_with fail
        refine ⟨⟨1, by omega, by go_num, fun _ => by first | trivial | exact HX.out, fun h => by omega, HG4.out⟩, ?_⟩
        simp [Go.RowKit.intOf]
    · subst hjj
      obtain ⟨k0, A, n, c, hlook, hpv⟩ := H.out.d.lookPg k hk
      cases hx : s.D k with
      | some q =>
        rw [hx] at hlook
        have hso : (some q).isSome = true := rfl
        rw [hso] at hlook
        have HQ := Lib.hid (HE.out.trans (by rw [show s.kept k = some q from (kept_then (HJ1.out (by omega))).trans hx]))
        have hlq : q.2.length = 240 := (pageOk_iff (H.out.d.ok k q hx)).2.2.1
        have hga4 := World.grownBy_alloc wr (.cells #[.int .i64 k0, .slice A n c] 40) none
        have HG4 := Lib.hid hga4
        have HPV := Lib.hid ((hpv q hx).turn (Turn.none_ hga4))
        have HCP := Lib.hid (copied_any HPV.out (by omega) (by omega))
        have HZ4 := Lib.hid (HZ.out.grown hga4 (by simp))
        clear hx hso hga4 hlq hpv
        go_wp2_with fail
        refine HCP.out.mono ?_
        rintro e w5 ⟨v', rfl, hv', hg5⟩
        have HV5 := Lib.hid hv'
        obtain ⟨bv, rfl, A5, n5, c5, rfl, _⟩ := hv'
        have HG5 := Lib.hid hg5
        have HZ5 := Lib.hid (HZ4.out.grown hg5 (by simp))
        have y0 := HZ5.out.cell 0; have y1 := HZ5.out.cell 1; have f0 := HZ5.out.frozen 0; have f1 := HZ5.out.frozen 1
        simp only [List.getElem?_toArray, List.getElem?_cons_zero, List.getElem?_cons_succ] at y0 y1
        clear hg5 HCP hlook
        go_wp2_with fail
        have hs := Lib.grownBy_setB (Lib.grownBy_setB (World.grownBy.refl w5 (some w.heap.size)) 0 (.int .i64 q.1)) 1 (.slice A5 n5 c5)
        refine ret_row2 rfl w.heap.size 40 _ _ rfl (Blk.set2 HZ5.out) Tryz.underlying40 rfl (by kernel_rfl) rfl ?_
        have hgz := grownBy_new (HG.out.trans (HG4.out.trans HG5.out)) hs (fun j e => by cases e; exact Nat.le_refl _)
        have hlt : w.heap.size < (wr.alloc (.cells #[.int .i64 k0, .slice A n c] 40)).heap.size := HZ4.out.lt
        rw [HQ.out]
        refine ⟨_, rfl, ?_, H0.out.quiet hgz, Turn.none_ hgz⟩
        exact (HV5.out.turn (.of_grown hs (fun j e => by cases e; exact hlt))).weak (fun i _ hi => Nat.lt_trans hi hlt)
      | none =>
        rw [hx] at hlook
        have hso : (none : Option Pg).isSome = false := rfl
        rw [hso] at hlook
        have HX := Lib.hid hx
        have HG4 := Lib.hid (HGQ.out.trans (World.grownBy_alloc wr (.cells #[.int .i64 k0, .slice A n c] 40) none))
        clear hx hso hpv
        go_wp2_with fail
        refine ⟨⟨2, by omega, by go_num, fun _ => HJ1.out (by omega), fun _ => by first | trivial | exact HX.out, HG4.out⟩, ?_⟩
        simp [Go.RowKit.intOf]
    · have hnb : ¬ ((j : Int) < 2) := by omega
      have HQ := Lib.hid (HE.out.trans (by rw [show s.kept k = none from (kept_then (HJ1.out (by omega))).trans (HJ2.out (by omega))]))
      have HRH := Lib.hid (sto_home H.out (k : Int) hk2)
      clear hjj
      go_wp2_with fail
      refine HRH.out.mono ?_
      rintro e w5 ⟨v', rfl, hv', h5, ht5⟩
      have HV5 := Lib.hid hv'
      obtain ⟨bv, rfl, A5, n5, c5, rfl, _⟩ := hv'
      have H5 := Lib.hid h5; have HT5 := Lib.hid ht5
      have HNW := Lib.hid (show ¬ own w.heap.size from fun ho => by have := H0.out.l.own_lt (.inl (.inl ho)); omega)
      have HZ5 := Lib.hid (blk_of_block HZ.out (ht5.block w.heap.size HZ.out.lt HNW.out))
      have y0 := HZ5.out.cell 0; have y1 := HZ5.out.cell 1; have f0 := HZ5.out.frozen 0; have f1 := HZ5.out.frozen 1
      simp only [List.getElem?_toArray, List.getElem?_cons_zero, List.getElem?_cons_succ] at y0 y1
      clear h5 ht5 HRH
      go_wp2_with fail
      have hs := Lib.grownBy_setB (Lib.grownBy_setB (World.grownBy.refl w5 (some w.heap.size)) 0 (.int .i64 (readHE s (k : Int)).2.1)) 1 (.slice A5 n5 c5)
      refine ret_row2 rfl w.heap.size 40 _ _ rfl (Blk.set2 HZ5.out) Tryz.underlying40 rfl (by kernel_rfl) rfl ?_
      have h9 := H0.out.read_ H5.out.l.s.d ((Turn.none_ (own := own) HG.out).trans HT5.out) (readE_n _ _ _) hs (Nat.le_refl _)
      rw [HQ.out]
      refine ⟨_, rfl, ?_, h9.1, h9.2⟩
      exact (HV5.out.turn (.of_grown hs (fun j e => by cases e; exact HZ.out.lt))).weak (fun i _ hi => Nat.lt_trans hi HZ.out.lt)
theorem sto_read (h : StoAt w B b tb g sb dm wm own s) (p : Int) (hp : s.has p = true) :
    Calls Tryz.prog 19 #[.pointer (some ⟨sb, 0, none⟩), .int .i64 p] w fun e w' => ∃ v, e = .returned (.tuple #[v, .int .i64 (readPE s p).1]) ∧ PgV w' (fun i => i < w.heap.size) v (readPE s p).2.1 ∧
      StoAt w' B b tb g sb dm wm own (readPE s p).2.2 ∧ Turn w w' (Foot own tb g sb dm wm) (Foot own tb g sb dm wm) := by
  refine (sto_read_g h p hp).mono ?_
  rintro e w1 ⟨v, h1, h2, h3, h4⟩
  exact ⟨v, h1, h2, h3, turnD h4⟩
end
end Go.Proofs.YteaokeiolgjhaaaGreat.Sto
/- Two superblocks are saved. -/
namespace Go.Proofs.YteaokeiolgjhaaaGreat.Sto
open Go.RowKit Go.Shelf CrcMath CodecMath Mem Crc Codec DiskSpec Dsk Sup Log

/-- What saveBoth answers and leaves. -/
def bothE (S : St) (a0 a1 a2 a3 a4 a5 a6 : Int) : Int × St :=
  if (saveE S [a0, a1, a2, a3, a4, a5, a6]).1 = 0 then saveE (saveE S [a0, a1, a2, a3, a4, a5, a6]).2 [a0 + 1, a1, a2, a3, a4, a5, a6] else saveE S [a0, a1, a2, a3, a4, a5, a6]
section
variable {w w' w1 : World} {B b tb : Nat} {own own' : Nat → Prop} {S T : St}
/-- A table of sums that is new. -/
theorem sat_new (h : DAt w B b S own) (hB : B ≤ w.heap.size) : SAt (w.alloc (.cells zeroCs 197)) B b w.heap.size S own :=
  ⟨dat_grown h (World.grownBy_alloc w _ none) (by simp), .inl ⟨_, Blk.new w 197 zeroCs, fresh_zero⟩, fun ho => by
    obtain ⟨_, _, _, hd⟩ := h
    have := hd.lt _ ho
    omega, by simp; omega⟩
theorem turn_off {g : Nat} (hg : w.grownBy w1 none) (h : Turn w1 w' (With2 own tb g) (With2 own' tb g)) (ht : w.heap.size ≤ tb) (ht2 : w.heap.size ≤ g) : Turn w w' own own' :=
  ⟨h.os.trans hg.os, h.tape.trans hg.tape, h.output.trans hg.output, Nat.le_trans hg.size h.size, fun i hi hn => (h.block i (Nat.lt_of_lt_of_le hi hg.size) (fun e => by
      rcases e with (e | e) | e
      · exact hn e
      · omega
      · omega)).trans (hg.block i hi (by simp)), fun i hi => by
    rcases h.fresh i (.inl (.inl hi)) with ((h1 | h1) | h1) | h1
    · exact .inl h1
    · exact .inr (by omega)
    · exact .inr (by omega)
    · exact .inr (Nat.le_trans hg.size h1)⟩
theorem saveE_verL (S : St) (a0 a1 a2 a3 a4 a5 a6 : Int) (i : Nat) : ((saveE S [a0, a1, a2, a3, a4, a5, a6]).2.ver i).length ≤ (S.ver i).length + 1 := by
  unfold saveE
  split
  · have h := Log.writeE_ver S true ((gen [a0, a1, a2, a3, a4, a5, a6]).tmod 2) (frame (superB [a0, a1, a2, a3, a4, a5, a6])) i
    rw [frame_length _ (by rw [superB_len _ rfl]; omega)] at h
    exact h
  · exact Nat.le_succ _
set_option maxRecDepth 100000 in
set_option maxHeartbeats 1600000 in
theorem both_any (h : DAt w B b S own) (hB : B ≤ w.heap.size) (a0 a1 a2 a3 a4 a5 a6 : Int) (hroom : ∀ i, (S.ver i).length < 549755813000) :
    Calls Tryz.prog 46 #[.pointer (some ⟨b, 0, none⟩), .agg #[.int .i64 a0, .int .i64 a1, .int .i64 a2, .int .i64 a3, .int .i64 a4, .int .i64 a5, .int .i64 a6]] w fun e w' => e = .returned (.int .i64 (bothE S a0 a1 a2 a3 a4 a5 a6).1) ∧
      ∃ own', DAt w' B b (bothE S a0 a1 a2 a3 a4 a5 a6).2 own' ∧ Turn w w' own own' := by
  have hga := World.grownBy_alloc w (.cells #[.int .i64 a0, .int .i64 a1, .int .i64 a2, .int .i64 a3, .int .i64 a4, .int .i64 a5, .int .i64 a6] 49) none
  have h1 := dat_grown h hga (by simp)
  have hbx := Blk.new w 49 #[.int .i64 a0, .int .i64 a1, .int .i64 a2, .int .i64 a3, .int .i64 a4, .int .i64 a5, .int .i64 a6]
  have HLT := Lib.hid (show ∀ i, own i → i < w.heap.size from fun i hi => by obtain ⟨_, _, _, hd⟩ := h; exact hd.lt i hi)
  have HS1 := Lib.hid (sat_new h1 (Nat.le_trans hB hga.size))
  have hgt := World.grownBy_alloc (w.alloc (.cells #[.int .i64 a0, .int .i64 a1, .int .i64 a2, .int .i64 a3, .int .i64 a4, .int .i64 a5, .int .i64 a6] 49)) (.cells zeroCs 197) none
  have HG1 := Lib.hid (hga.trans hgt)
  have HB1 := Lib.hid (hbx.grown hgt (by simp))
  have HTB := Lib.hid hga.size
  have hs0 : (w.alloc (.cells #[.int .i64 a0, .int .i64 a1, .int .i64 a2, .int .i64 a3, .int .i64 a4, .int .i64 a5, .int .i64 a6] 49)).heap.size = w.heap.size + 1 := by simp
  have HROOM := Lib.hid hroom
  have HSV := Lib.hid (save_any HS1.out a0 a1 a2 a3 a4 a5 a6 (fun i => by have := hroom i; omega))
  rw [hs0] at HS1 HTB HSV
  obtain ⟨R0, hR0⟩ : ∃ r, bothE S a0 a1 a2 a3 a4 a5 a6 = r := ⟨_, rfl⟩
  have HE := Lib.hid (show R0 = if (saveE S [a0, a1, a2, a3, a4, a5, a6]).1 = 0 then saveE (saveE S [a0, a1, a2, a3, a4, a5, a6]).2 [a0 + 1, a1, a2, a3, a4, a5, a6] else saveE S [a0, a1, a2, a3, a4, a5, a6] from hR0.symm)
  rw [hR0]
  have HMAY := Lib.hid (fun (e : (saveE S [a0, a1, a2, a3, a4, a5, a6]).1 = 0) => superOk_at (mayB_ok (saveE_may e)) 0 (by simp))
  have HVER := Lib.hid (fun i => saveE_verL S a0 a1 a2 a3 a4 a5 a6 i)
  clear hR0
  generalize saveE S [a0, a1, a2, a3, a4, a5, a6] = R1 at *
  obtain ⟨er, T⟩ := R1
  dsimp only at *
  have x0 := HB1.out.cell 0; have x1 := HB1.out.cell 1; have x2 := HB1.out.cell 2; have x3 := HB1.out.cell 3; have x4 := HB1.out.cell 4; have x5 := HB1.out.cell 5; have x6 := HB1.out.cell 6
  simp only [List.getElem?_toArray, List.getElem?_cons_zero, List.getElem?_cons_succ] at x0 x1 x2 x3 x4 x5 x6
  clear hga h1 hbx hgt h hroom hs0
  go_enter Tryz.func46, Tryz.ntmps46
  go_wp2_with fail
  refine (new_any _).mono ?_
  rintro e w1 ⟨rfl, rfl⟩
  go_wp2_with fail
  refine HSV.out.mono ?_
  rintro e w2 ⟨rfl, own2, hs2, ht2⟩
  have HS2 := Lib.hid hs2
  have HT2 := Lib.hid (turn_log ht2 w.heap.size)
  have HNB := Lib.hid (show ¬ With own2 (w.heap.size + 1) w.heap.size from fun ho => by
    rcases ht2.fresh w.heap.size ho with (h1 | h1) | h1
    · have := HLT.out _ h1; omega
    · omega
    · have := HB1.out.lt; omega)
  have HB2 := Lib.hid (blk_of_block HB1.out (ht2.block w.heap.size HB1.out.lt (fun ho => by
    rcases ho with h1 | h1
    · have := HLT.out _ h1; omega
    · omega)))
  clear hs2 ht2 HSV x0 x1 x2 x3 x4 x5 x6
  by_cases he : er = 0
  · subst he
    have HE2 := Lib.hid (show R0 = saveE T [a0 + 1, a1, a2, a3, a4, a5, a6] from HE.out.trans (if_pos rfl))
    have hmx := HMAY.out rfl
    have x0 := HB2.out.cell 0; have x1 := HB2.out.cell 1; have x2 := HB2.out.cell 2; have x3 := HB2.out.cell 3; have x4 := HB2.out.cell 4; have x5 := HB2.out.cell 5; have x6 := HB2.out.cell 6; have f0 := HB2.out.frozen 0
    simp only [List.getElem?_toArray, List.getElem?_cons_zero, List.getElem?_cons_succ] at x0 x1 x2 x3 x4 x5 x6
    simp at hmx
    have hw1 : IntKind.i64.wrap (a0 + 1) = a0 + 1 := IntWalk.i64_in _ (by omega)
    have hg3 := Lib.grownBy_setB (World.grownBy.refl w2 (some w.heap.size)) 0 (.int .i64 (a0 + 1))
    have HS3 := Lib.hid (show SAt (w2.setCell ⟨w.heap.size, 0, none⟩ (.int .i64 (a0 + 1))) B b (w.heap.size + 1) T own2 from
      ⟨dat_grown HS2.out.d hg3 (fun j e ho => by cases e; exact HNB.out (.inl ho)), tab_keep HS2.out.t hg3 (by simp), HS2.out.n, Nat.le_trans HS2.out.s hg3.size⟩)
    have HSV := Lib.hid (save_any HS3.out (a0 + 1) a1 a2 a3 a4 a5 a6 (fun i => by have h1 := HVER.out i; have h2 := HROOM.out i; omega))
    have HT3 := Lib.hid (HT2.out.trans (turn_logblk hg3))
    have HE3 := Lib.hid HE2.out
    clear hg3 HE HMAY
    go_wp2_with fail
    refine HSV.out.mono ?_
    rintro e w4 ⟨rfl, own4, hs4, ht4⟩
    have HS4 := Lib.hid hs4
    have HT4 := Lib.hid (HT3.out.trans (turn_log ht4 w.heap.size))
    clear hs4 ht4 HSV x0 x1 x2 x3 x4 x5 x6 f0
    go_wp2_with fail
    go_ret
    rw [HE2.out]
    exact ⟨rfl, own4, HS4.out.d, turn_off HG1.out HT4.out (by omega) (Nat.le_refl _)⟩
  · have heb : (er == 0) = false := by simpa using he
    have HE2 := Lib.hid (HE.out.trans (if_neg he))
    clear HE he
    go_wp2_with fail
    go_ret
    rw [HE2.out]
    exact ⟨rfl, own2, HS2.out.d, turn_off HG1.out HT2.out (by omega) (Nat.le_refl _)⟩
end
end Go.Proofs.YteaokeiolgjhaaaGreat.Sto
/- A store is loaded: its superblock, its log's records; it has no log of its own yet. -/
namespace Go.Proofs.YteaokeiolgjhaaaGreat.Sto
open Go.RowKit Go.Maps Go.Shelf CrcMath CodecMath Mem Crc Codec DiskSpec Dsk Sup Log

theorem supV_l (x : Sb) : supV x.l = .agg #[.int .i64 (x.gn : Nat), .int .i64 (x.ep : Nat), .int .i64 (x.pg : Nat), .int .i64 (x.st : Nat), .int .i64 (x.ln : Nat), .int .i64 (x.hd : Nat), .int .i64 (x.sq : Nat)] := rfl
/-- What load leaves: a store that has no log of its own. -/
def Loaded (w : World) (B b : Nat) (own : Nat → Prop) (s : Sto) (e : Ending) (w' : World) : Prop :=
  ∃ tb gl sb dm, e = .returned (.tuple #[.pointer (some ⟨sb, 0, none⟩), .int .i64 0]) ∧ StoAtG (.pointer none) w' B b tb gl sb dm none own s ∧ Turn w w' own (Foot own tb gl sb dm none)
section
variable {w w' w1 : World} {B b : Nat} {own : Nat → Prop}
theorem loaded_at {wa wl wm : World} {tb gl q : Nat} {N : Nat} {dur : Nat → List Nat} {x : Sb} {M : Lg} {D : Pgs} (hown : ∀ i, own i → i < w.heap.size) (hB : B ≤ w.heap.size) (h1 : w.heap.size ≤ tb) (h2 : tb < wa.heap.size) (h3 : wa.heap.size ≤ gl)
    (hw1 : w.heap.size ≤ wa.heap.size) (hl : LAt wl B b tb gl (plain N dur) own M) (hr : Ready wl tb) (ht : Turn w wl own own) (hg : wl.grownBy wm none) (hq : wl.heap.size ≤ q)
    (hd : PMap wm (From (fun i => i < wa.heap.size ∨ i = gl) q) q D) (hmay : mayB x.l (N : Int) = true) :
    StoAtG (.pointer none) (wm.alloc (.cells (stoC b tb (.pointer none) q none x) 104)) B b tb gl wm.heap.size q none own ⟨plain N dur, M, x, D, none⟩ ∧
      Turn w (wm.alloc (.cells (stoC b tb (.pointer none) q none x) 104)) own (Foot own tb gl wm.heap.size q none) := by
  have hga := World.grownBy_alloc wm (.cells (stoC b tb (.pointer none) q none x) 104) none
  have hs1 := hg.size
  have hs2 := hga.size
  have hgl := hl.l.lt
  have hql := hd.lt
  have hws := ht.size
  have hwa : ∀ i, own i → i < wa.heap.size := fun i hi => Nat.lt_of_lt_of_le (hown i hi) hw1
  refine ⟨⟨(hl.quiet hg).quiet hga, (hr.keep hg (by simp)).keep hga (by simp), Blk.new wm 104 _, ?_, fun U hU => (by cases hU), fun _ => rfl, hmay, ?_, ⟨?_, by omega⟩, fun m e => (by cases e), ⟨by omega, by omega, by omega, by omega, fun m e => (by cases e)⟩⟩, ?_⟩
  · refine (hd.weak (fun i hi hf => ?_)).turn (Turn.none_ hga) (hga.block q hql (by simp))
    rcases hf with ((hf | hf) | hf) | hf | hf | hf
    · exact .inl (.inl (hwa i hf))
    · exact .inl (.inl (by omega))
    · exact .inl (.inr hf)
    · omega
    · exact .inr (by omega)
    · cases hf
  · rintro ((hf | hf) | hf)
    · have := hwa _ hf; omega
    · omega
    · omega
  · rintro ((hf | hf) | hf)
    · have := hwa _ hf; omega
    · omega
    · omega
  · have ht2 : Turn w (wm.alloc (.cells (stoC b tb (.pointer none) q none x) 104)) own own := (ht.trans (Turn.none_ hg)).trans (Turn.none_ hga)
    refine ⟨ht2.os, ht2.tape, ht2.output, ht2.size, ht2.block, fun i hi => ?_⟩
    rcases hi with ((hf | hf) | hf) | hf | hf | hf
    · exact .inl hf
    · exact .inr (by omega)
    · exact .inr (by omega)
    · exact .inr (by omega)
    · exact .inr (by omega)
    · cases hf
set_option maxRecDepth 100000 in
set_option maxHeartbeats 3200000 in
theorem sto_load {N : Nat} {dur : Nat → List Nat} (h : DAt w B b (plain N dur) own) (hB : B ≤ w.heap.size) (x : Sb) (hbest : bestP N dur = some x.l) (hmay : mayB x.l (N : Int) = true) (hgn : x.gn < 1099511627776) (hep : x.ep < 1099511627776) (hsq : x.sq ≤ 1099511000000)
    (hlen : (openR (plain N dur) x.log.ln x.log).1.length ≤ 1099511627776) (hok : ∀ r ∈ (openR (plain N dur) x.log.ln x.log).1, r.2.length ≤ 40 ∧ ∀ y ∈ r.2, imgOk y = true) :
    Calls Tryz.prog 47 #[.pointer (some ⟨b, 0, none⟩)] w (Loaded w B b own ⟨plain N dur, (openR (plain N dur) x.log.ln x.log).2, x, latestOf (openR (plain N dur) x.log.ln x.log).1, none⟩) := by
  have hown : ∀ i, own i → i < w.heap.size := fun i hi => by obtain ⟨_, _, _, hd⟩ := h; exact hd.lt i hi
  have hn2 : 2 ≤ N := by have := may_n rfl hmay; omega
  have hs1 := sat_new h hB
  have hld := load_any hs1
  rw [(plain_load hn2).1, (plain_load hn2).2, plain_loadT hn2, hbest] at hld
  simp only [Option.isSome_some, if_true, Option.getD_some, supV_l] at hld
  have HLD := Lib.hid hld
  have HOWN := Lib.hid hown
  have hga0 := World.grownBy_alloc w (.cells zeroCs 197) none
  have HGA0 := Lib.hid hga0
  have hgb : ((x.gn : Int) == 1099511627776) = false := by simp; omega
  have heb : ((x.ep : Int) == 1099511627776) = false := by simp; omega
  have hsz0 : (w.alloc (.cells zeroCs 197)).heap.size = w.heap.size + 1 := by simp
  have HMAY := Lib.hid hmay
  have HNEW := Lib.hid (new_any w)
  clear hs1 hld h hown hbest hga0
  generalize w.alloc (.cells zeroCs 197) = wz at *
  go_enter Tryz.func47, Tryz.ntmps47
  go_wp2_with fail
  refine HNEW.out.mono ?_
  rintro e w1 ⟨rfl, rfl⟩
  clear HNEW
  go_wp2_with fail
  refine HLD.out.mono ?_
  rintro e w2 ⟨rfl, hs2, ht2, hr2⟩
  have hsz2 := ht2.size
  have hga2 := World.grownBy_alloc w2 (.cells #[.int .i64 (x.gn : Nat), .int .i64 (x.ep : Nat), .int .i64 (x.pg : Nat), .int .i64 (x.st : Nat), .int .i64 (x.ln : Nat), .int .i64 (x.hd : Nat), .int .i64 (x.sq : Nat)] 49) none
  have hop := log_open (hs2.quiet hga2) ((hr2 trivial).keep hga2 (by simp)) rfl (x.gn : Nat) (x.pg : Nat) x.ep x.st x.ln x.hd x.sq hmay hsq
  unfold supA at hop
  have HOP := Lib.hid hop
  have hbn := Blk.new w2 49 #[.int .i64 (x.gn : Nat), .int .i64 (x.ep : Nat), .int .i64 (x.pg : Nat), .int .i64 (x.st : Nat), .int .i64 (x.ln : Nat), .int .i64 (x.hd : Nat), .int .i64 (x.sq : Nat)]
  have HBN := Lib.hid hbn
  have x0 := hbn.cell 0; have x1 := hbn.cell 1; have x2 := hbn.cell 2; have x3 := hbn.cell 3; have x4 := hbn.cell 4; have x5 := hbn.cell 5; have x6 := hbn.cell 6
  simp only [List.getElem?_toArray, List.getElem?_cons_zero, List.getElem?_cons_succ] at x0 x1 x2 x3 x4 x5 x6
  have HT2 := Lib.hid (show Turn w (w2.alloc (.cells #[.int .i64 (x.gn : Nat), .int .i64 (x.ep : Nat), .int .i64 (x.pg : Nat), .int .i64 (x.st : Nat), .int .i64 (x.ln : Nat), .int .i64 (x.hd : Nat), .int .i64 (x.sq : Nat)] 49)) own own from by
    refine Turn.trans ⟨ht2.os.trans HGA0.out.os, ht2.tape.trans HGA0.out.tape, ht2.output.trans HGA0.out.output, Nat.le_trans HGA0.out.size ht2.size, fun i hi hn => ?_, fun i hi => .inl hi⟩ (Turn.none_ hga2)
    exact (ht2.block i (Nat.lt_of_lt_of_le hi HGA0.out.size) (fun e => by
      rcases e with e | e
      · exact hn e
      · omega)).trans (HGA0.out.block i hi (by simp)))
  have HNO := Lib.hid (show ¬ own w2.heap.size from fun e => by have := HOWN.out _ e; omega)
  have HSZ := Lib.hid (show (w2.alloc (.cells #[.int .i64 (x.gn : Nat), .int .i64 (x.ep : Nat), .int .i64 (x.pg : Nat), .int .i64 (x.st : Nat), .int .i64 (x.ln : Nat), .int .i64 (x.hd : Nat), .int .i64 (x.sq : Nat)] 49)).heap.size = w2.heap.size + 1 from by simp)
  clear hs2 ht2 hr2 hop hga2 hbn HLD
  go_wp2_with fail
  refine HOP.out.mono ?_
  rintro e w3 ⟨gl, A, n, c, rfl, hnc, hgl, hl3, hr3, hrc3, ht3⟩
  have HB3 := Lib.hid (blk_of_block HBN.out (ht3.block w2.heap.size HBN.out.lt HNO.out))
  have HT3 := Lib.hid (HT2.out.trans ht3)
  have HL3 := Lib.hid hl3; have HR3 := Lib.hid hr3; have HRC3 := Lib.hid hrc3; have HGL := Lib.hid hgl
  clear hl3 hr3 hrc3 ht3 HOP x0 x1 x2 x3 x4 x5 x6 HBN hgl HT2
  have x0 := HB3.out.cell 0; have x1 := HB3.out.cell 1
  simp only [List.getElem?_toArray, List.getElem?_cons_zero, List.getElem?_cons_succ] at x0 x1
  go_wp2_with fail
  clear x0 x1
  generalize hwa : w2.alloc (.cells #[.int .i64 (x.gn : Nat), .int .i64 (x.ep : Nat), .int .i64 (x.pg : Nat), .int .i64 (x.st : Nat), .int .i64 (x.ln : Nat), .int .i64 (x.hd : Nat), .int .i64 (x.sq : Nat)] 49) = wa at *
  have HD3 := Lib.hid (grown_drew w3 none)
  have HB4 := Lib.hid (HB3.out.grown HD3.out (by simp))
  have hnl : n ≤ 1099511627776 := by have := HRC3.out.len; have h2 : (openR (plain N dur) x.log.ln x.log).1.length = n := this; omega
  have HLT := Lib.hid (latest_call (c := c) (HRC3.out.turn (Turn.none_ HD3.out)) hnl hok)
  have HKEEP := Lib.hid (show ∀ wx, Blk wx w2.heap.size 49 #[.int .i64 (x.gn : Nat), .int .i64 (x.ep : Nat), .int .i64 (x.pg : Nat), .int .i64 (x.st : Nat), .int .i64 (x.ln : Nat), .int .i64 (x.hd : Nat), .int .i64 (x.sq : Nat)] → wx.cell? ⟨w2.heap.size, 0, none⟩ = some (.int .i64 (x.gn : Nat)) ∧ wx.cell? ⟨w2.heap.size, 1, none⟩ = some (.int .i64 (x.ep : Nat)) ∧ wx.cell? ⟨w2.heap.size, 2, none⟩ = some (.int .i64 (x.pg : Nat)) ∧ wx.cell? ⟨w2.heap.size, 3, none⟩ = some (.int .i64 (x.st : Nat)) ∧ wx.cell? ⟨w2.heap.size, 4, none⟩ = some (.int .i64 (x.ln : Nat)) ∧ wx.cell? ⟨w2.heap.size, 5, none⟩ = some (.int .i64 (x.hd : Nat)) ∧ wx.cell? ⟨w2.heap.size, 6, none⟩ = some (.int .i64 (x.sq : Nat)) from fun wx hb => ⟨by rw [hb.cell]; rfl, by rw [hb.cell]; rfl, by rw [hb.cell]; rfl, by rw [hb.cell]; rfl, by rw [hb.cell]; rfl, by rw [hb.cell]; rfl, by rw [hb.cell]; rfl⟩)
  clear HB3
  go_region_held3 (fun wx => wx.cell? ⟨w2.heap.size, 0, none⟩ = some (.int .i64 (x.gn : Nat)) ∧ wx.cell? ⟨w2.heap.size, 1, none⟩ = some (.int .i64 (x.ep : Nat)) ∧ wx.cell? ⟨w2.heap.size, 2, none⟩ = some (.int .i64 (x.pg : Nat)) ∧ wx.cell? ⟨w2.heap.size, 3, none⟩ = some (.int .i64 (x.st : Nat)) ∧ wx.cell? ⟨w2.heap.size, 4, none⟩ = some (.int .i64 (x.ln : Nat)) ∧ wx.cell? ⟨w2.heap.size, 5, none⟩ = some (.int .i64 (x.hd : Nat)) ∧ wx.cell? ⟨w2.heap.size, 6, none⟩ = some (.int .i64 (x.sq : Nat)))
    (first
      | exact HKEEP.out _ HB4.out
      | exact HKEEP.out _ HB5.out
      | exact HKEEP.out _ HB6.out)
    (first
      | (go_at_call 95
         (with_reducible refine HLT.out.mono ?_)
         rintro e w5 ⟨rfl, hm5, hg5⟩
         have HM5 := Lib.hid hm5
         have HG5 := Lib.hid (HD3.out.trans hg5)
         have HB5 := Lib.hid (HB4.out.grown hg5 (by simp))
         have HB6 := Lib.hid (HB5.out.grown (World.grownBy_alloc w5 (.cells (stoC b w.heap.size (.pointer none) w3.drew.heap.size none x) 104) none) (by simp))
         clear hm5 hg5))
  go_wp2
  go_ret2
  have hm : PMap w5 (From (fun i => i < wa.heap.size ∨ i = gl) w3.heap.size) w3.heap.size (latestOf (openR (plain N dur) x.log.ln x.log).1) := HM5.out
  have h9 := loaded_at (w := w) (q := w3.heap.size) HOWN.out hB (Nat.le_refl _) (by have := HSZ.out; omega) HGL.out (by have := HSZ.out; omega) HL3.out HR3.out HT3.out HG5.out (Nat.le_refl _) hm HMAY.out
  exact ⟨w.heap.size, gl, w5.heap.size, w3.heap.size, rfl, h9.1, h9.2⟩
end
end Go.Proofs.YteaokeiolgjhaaaGreat.Sto
/- A store is opened. -/
namespace Go.Proofs.YteaokeiolgjhaaaGreat.Sto
open Go.RowKit Go.Maps Go.Shelf CrcMath CodecMath Mem Crc Codec DiskSpec Dsk Sup Log

theorem next_l (x : Sb) : [((x.gn : Nat) : Int) + 1, ((x.ep : Nat) : Int) + 1, ((x.pg : Nat) : Int), ((x.st : Nat) : Int), ((x.ln : Nat) : Int), 0, 1] = x.next.l := by simp [Sb.l, Sb.next]
/-- What Open leaves. -/
def OpenedS (w : World) (B b : Nat) (own : Nat → Prop) (s : Sto) (e : Ending) (w' : World) : Prop :=
  ∃ tb g sb dm own', e = .returned (.tuple #[.pointer (some ⟨sb, 0, none⟩), .int .i64 0]) ∧ StoAt w' B b tb g sb dm none own' s ∧ Turn w w' own (Foot own' tb g sb dm none)
section
variable {w w' w1 : World} {B b : Nat} {own : Nat → Prop}
set_option maxRecDepth 100000 in
set_option maxHeartbeats 3200000 in
theorem sto_open {N : Nat} {dur : Nat → List Nat} (h : DAt w B b (plain N dur) own) (hB : B ≤ w.heap.size) (x : Sb) (hbest : bestP N dur = some x.l) (hmay : mayB x.l (N : Int) = true) (hgn : x.gn < 1099511627776) (hep : x.ep < 1099511627776) (hsq : x.sq ≤ 1099511000000)
    {R : List Rec} {M : Lg} (hR : openR (plain N dur) x.log.ln x.log = (R, M)) (hlen : R.length ≤ 1099511627776) (hok : ∀ r ∈ R, r.2.length ≤ 40 ∧ ∀ y ∈ r.2, imgOk y = true) {S2 S3 : St} (hbr : bringE (plain N dur) (latestOf R) = (0, S2)) (hsv : saveE S2 x.next.l = (0, S3)) :
    Calls Tryz.prog 12 #[.pointer (some ⟨b, 0, none⟩)] w (OpenedS w B b own ⟨S3, x.next.log, x.next, noPgs, none⟩) := by
  have hld := sto_load h hB x hbest hmay hgn hep hsq (by rw [hR]; exact hlen) (by rw [hR]; exact hok)
  rw [hR] at hld
  have HLD := Lib.hid hld
  have HBR := Lib.hid hbr
  have HSV := Lib.hid hsv
  have HGE := Lib.hid (show x.gn ≤ 1099511627776 ∧ x.ep ≤ 1099511627776 from ⟨by omega, by omega⟩)
  clear hld h hB hbest hmay hgn hep hsq hR hlen hok hbr hsv
  go_enter Tryz.func12, Tryz.ntmps12
  go_wp2_with fail
  refine HLD.out.mono ?_
  rintro e w1 ⟨tb, gl, sb, dm, rfl, h1, ht1⟩
  have hb := sto_bring h1 (fun i => by show ([] : List (List Nat)).length < _; simp)
  unfold Brought at hb
  dsimp only at hb
  have HPD := Lib.hid h1.d.ok
  rw [HBR.out] at hb
  have HB := Lib.hid hb
  have HT1 := Lib.hid ht1
  clear h1 ht1 hb HLD
  go_wp2_with fail
  refine HB.out.mono ?_
  rintro e w2 ⟨rfl, own2, h2, ht2⟩
  have HT2 := Lib.hid (HT1.out.trans ht2)
  obtain ⟨_, _, c2, c3, c4, c5, c6, c7, c8, _, _, _⟩ := h2.cells
  have c2' : w2.cell? ⟨sb, 2, none⟩ = some (.int .i64 (x.gn : Nat)) := c2
  have c3' : w2.cell? ⟨sb, 3, none⟩ = some (.int .i64 (x.ep : Nat)) := c3
  have c4' : w2.cell? ⟨sb, 4, none⟩ = some (.int .i64 (x.pg : Nat)) := c4
  have c5' : w2.cell? ⟨sb, 5, none⟩ = some (.int .i64 (x.st : Nat)) := c5
  have c6' : w2.cell? ⟨sb, 6, none⟩ = some (.int .i64 (x.ln : Nat)) := c6
  have c7' : w2.cell? ⟨sb, 7, none⟩ = some (.int .i64 (x.hd : Nat)) := c7
  have c8' : w2.cell? ⟨sb, 8, none⟩ = some (.int .i64 (x.sq : Nat)) := c8
  have H2 := Lib.hid h2
  have HRS := Lib.hid (restarted_any x HGE.out.1 HGE.out.2 w2)
  clear h2 ht2 HB HT1 c2 c3 c4 c5 c6 c7 c8
  go_wp2_with fail
  refine HRS.out.mono ?_
  rintro e w3 ⟨rfl, hg3⟩
  have hv2 := bringE_ver6 (S := plain N dur) HPD.out
  rw [HBR.out] at hv2
  have hrt := sto_restart (H2.out.quiet hg3) (((x.gn : Nat) : Int) + 1) (((x.ep : Nat) : Int) + 1) ((x.pg : Nat) : Int) ((x.st : Nat) : Int) ((x.ln : Nat) : Int) 0 1 (fun i => by
    have h9 := hv2 i
    have h8 : ((plain N dur).ver i).length = 0 := rfl
    show (S2.ver i).length < _
    have h7 : (S2.ver i).length ≤ ((plain N dur).ver i).length + 1024 := h9
    omega)
  unfold Restarted at hrt
  rw [next_l] at hrt
  have hsd : (Sto.disk (⟨plain N dur, M, x, latestOf R, none⟩ : Sto) S2).S = S2 := rfl
  rw [show (Sto.disk (⟨plain N dur, M, x, latestOf R, none⟩ : Sto) (0, S2).2).S = S2 from rfl, HSV.out] at hrt
  have HRT := Lib.hid hrt
  have HT3 := Lib.hid (HT2.out.trans (Turn.none_ hg3))
  clear hrt hv2 hg3 HRS c2' c3' c4' c5' c6' c7' c8' H2 HT2
  go_wp2_with fail
  refine HRT.out.mono ?_
  rintro e w4 ⟨rfl, own4, g4, ht4, h4⟩
  rcases h4 with ⟨_, x', hx', h4⟩ | ⟨hne, _⟩
  · have hxx := Sb.l_inj hx'
    subst hxx
    obtain ⟨_, _, _, _, _, _, _, _, _, _, z10, _⟩ := h4.cells
    obtain ⟨w7, hrun, hd7, hg7⟩ := h4.d.clear 0
    have h7 := h4.cleared hg7 hd7
    have H7 := Lib.hid h7
    have HT4 := Lib.hid (HT3.out.trans ht4)
    clear h4 h7 hd7 hg7 ht4 hx'
    go_wp2_with fail
    go_ret2
    exact ⟨tb, g4, sb, dm, own4, rfl, H7.out.1, HT4.out.trans H7.out.2⟩
  · exact absurd rfl hne
end
end Go.Proofs.YteaokeiolgjhaaaGreat.Sto
/- Format: in plain words, and its loop. -/
namespace Go.Proofs.YteaokeiolgjhaaaGreat.Sto
open Go.RowKit Go.Shelf CrcMath CodecMath Mem Crc Codec DiskSpec Dsk Sup Log

/-- A sector of nothing. -/
def nilSec : List Nat := List.replicate 256 0
/-- The first n homes are written. -/
def wipeE : Nat → St → Int × St
  | 0, S => (0, S)
  | n + 1, S => if (wipeE n S).1 = 0 then writeE (wipeE n S).2 false (2 + (n : Int)) nilSec else wipeE n S
def formatB (S : St) (pg st ln : Int) : Int × St := if (flushE S).1 = 0 then bothE (flushE S).2 1 1 pg st ln 0 1 else flushE S
def formatE (S : St) (pg st ln : Int) : Int × St :=
  if mayB [1, 1, pg, st, ln, 0, 1] (S.n : Nat) then (if (wipeE pg.toNat S).1 = 0 then formatB (wipeE pg.toNat S).2 pg st ln else wipeE pg.toNat S) else (1, S)
theorem wipe_n (S : St) : ∀ n, (wipeE n S).2.n = S.n
  | 0 => rfl
  | n + 1 => by
    rw [wipeE]
    split
    · rw [writeE_n6]; exact wipe_n S n
    · exact wipe_n S n
theorem wipe_ver (S : St) (i : Nat) : ∀ n, ((wipeE n S).2.ver i).length ≤ (S.ver i).length + n
  | 0 => Nat.le_refl _
  | n + 1 => by
    have h1 := wipe_ver S i n
    have h2 := writeE_ver6 (wipeE n S).2 false (2 + (n : Int)) (l := nilSec) List.length_replicate i
    rw [wipeE]
    split
    · omega
    · omega
theorem wipe_stop {S : St} {n : Nat} (h : (wipeE n S).1 ≠ 0) : ∀ m, n ≤ m → wipeE m S = wipeE n S
  | 0, hm => by have : n = 0 := by omega
                subst this; rfl
  | m + 1, hm => by
    by_cases e : n = m + 1
    · rw [e]
    · have h1 := wipe_stop h m (by omega)
      rw [wipeE, h1, if_neg h]
section
variable {w w' w1 : World} {B b tb : Nat} {own own' : Nat → Prop} {S T : St}
theorem size_any (h : DAt w B b S own) : Calls Tryz.prog 42 #[.pointer (some ⟨b, 0, none⟩)] w fun e w' => e = .returned (.int .i64 (S.n : Nat)) ∧ w = w' := by
  obtain ⟨_, _, _, hd⟩ := h
  exact disk_size hd
set_option maxRecDepth 100000 in
set_option maxHeartbeats 3200000 in
theorem format_no (h : DAt w B b S own) (pg st ln : Int) (hm : mayB [1, 1, pg, st, ln, 0, 1] (S.n : Nat) = false) :
    Calls Tryz.prog 11 #[.pointer (some ⟨b, 0, none⟩), .int .i64 pg, .int .i64 st, .int .i64 ln] w fun e w' => e = .returned (.int .i64 (formatE S pg st ln).1) ∧ ∃ own', DAt w' B b (formatE S pg st ln).2 own' ∧ Turn w w' own own' := by
  have hga := World.grownBy_alloc w (.cells #[.int .i64 1, .int .i64 1, .int .i64 pg, .int .i64 st, .int .i64 ln, .int .i64 0, .int .i64 1] 49) none
  have HGA := Lib.hid hga
  have hbk := Blk.new w 49 #[.int .i64 1, .int .i64 1, .int .i64 pg, .int .i64 st, .int .i64 ln, .int .i64 0, .int .i64 1]
  have HBK := Lib.hid hbk
  have HDR := Lib.hid (grown_drew (w.alloc (.cells #[.int .i64 1, .int .i64 1, .int .i64 pg, .int .i64 st, .int .i64 ln, .int .i64 0, .int .i64 1] 49)) none)
  have HD1 := Lib.hid (dat_grown h (hga.trans HDR.out) (by simp))
  have HSZ := Lib.hid (size_any HD1.out)
  have HCK := Lib.hid (fun wx => check_any 1 1 pg st ln 0 1 (S.n : Int) wx)
  have HNO := Lib.hid (show ∀ i, own i → i < w.heap.size from fun i hi => by obtain ⟨_, _, _, hd⟩ := h; exact hd.lt i hi)
  have hck : checkE [1, 1, pg, st, ln, 0, 1] (S.n : Int) = if mayB [1, 1, pg, st, ln, 0, 1] S.n then 0 else 1 := rfl
  have hkeep : ∀ wx, (w.alloc (.cells #[.int .i64 1, .int .i64 1, .int .i64 pg, .int .i64 st, .int .i64 ln, .int .i64 0, .int .i64 1] 49)).grownBy wx none → wx.cell? ⟨w.heap.size, 0, none⟩ = some (.int .i64 1) ∧ wx.cell? ⟨w.heap.size, 1, none⟩ = some (.int .i64 1) ∧ wx.cell? ⟨w.heap.size, 2, none⟩ = some (.int .i64 pg) ∧ wx.cell? ⟨w.heap.size, 3, none⟩ = some (.int .i64 st) ∧ wx.cell? ⟨w.heap.size, 4, none⟩ = some (.int .i64 ln) ∧ wx.cell? ⟨w.heap.size, 5, none⟩ = some (.int .i64 0) ∧ wx.cell? ⟨w.heap.size, 6, none⟩ = some (.int .i64 1) := fun wx hg => by
    have hb := hbk.grown hg (by simp)
    exact ⟨by rw [hb.cell]; rfl, by rw [hb.cell]; rfl, by rw [hb.cell]; rfl, by rw [hb.cell]; rfl, by rw [hb.cell]; rfl, by rw [hb.cell]; rfl, by rw [hb.cell]; rfl⟩
  have HKEEP := Lib.hid hkeep
  obtain ⟨R0, hR0⟩ : ∃ r, formatE S pg st ln = r := ⟨_, rfl⟩
  rw [hR0]
  unfold formatE at hR0
  have HE := Lib.hid hR0.symm
  clear hR0 hga hbk h hkeep
  rw [hm] at hck HE
  rw [hck] at HCK
  clear hck hm
  generalize hn : (S.n : Int) = n at *
  go_enter Tryz.func11, Tryz.ntmps11
  go_wp2_with fail
  go_region_held3 (fun wx => wx.cell? ⟨w.heap.size, 0, none⟩ = some (.int .i64 1) ∧ wx.cell? ⟨w.heap.size, 1, none⟩ = some (.int .i64 1) ∧ wx.cell? ⟨w.heap.size, 2, none⟩ = some (.int .i64 pg) ∧ wx.cell? ⟨w.heap.size, 3, none⟩ = some (.int .i64 st) ∧ wx.cell? ⟨w.heap.size, 4, none⟩ = some (.int .i64 ln) ∧ wx.cell? ⟨w.heap.size, 5, none⟩ = some (.int .i64 0) ∧ wx.cell? ⟨w.heap.size, 6, none⟩ = some (.int .i64 1))
    (first
      | exact HKEEP.out _ HDR.out
      | exact HKEEP.out _ HG2.out)
    (first
      | (go_at_call 42
         refine HSZ.out.mono ?_
         rintro e w1 ⟨rfl, rfl⟩)
      | (go_at_call 41
         refine (HCK.out _).mono ?_
         rintro e w2 ⟨rfl, hg⟩
         have HG2 := Lib.hid (HDR.out.trans hg)
         have HD2 := Lib.hid (dat_grown HD1.out hg (by simp))
         clear hg))
  go_wp2
  go_ret
  rw [HE.out.trans (if_neg (by simp))]
  exact ⟨rfl, own, HD2.out, Turn.none_ (HGA.out.trans HG2.out)⟩
end
end Go.Proofs.YteaokeiolgjhaaaGreat.Sto
/- Format, where it is not refused. -/
namespace Go.Proofs.YteaokeiolgjhaaaGreat.Sto
open Go.RowKit Go.Shelf CrcMath CodecMath Mem Crc Codec DiskSpec Dsk Sup Log

theorem make_sec (w : World) : (Instr.makeSlice 38 (.int .i64 256) (.int .i64 256)).run Tryz.prog w = .ok (.slice (some ⟨w.heap.size, 0, none⟩) 256 256) (w.alloc (.cells (Array.replicate 256 (.int .u8 0)) 5)) := by kernel_rfl
theorem nilSec_cells : (Array.replicate 256 (Value.int .u8 0)) = (u8s nilSec).toArray := by
  unfold nilSec u8s
  rw [List.map_replicate]
  apply Array.ext'
  simp
section
variable {w w' w1 : World} {B b tb : Nat} {own own' : Nat → Prop} {S T : St}
set_option maxRecDepth 100000 in
set_option maxHeartbeats 3200000 in
theorem format_yes (h : DAt w B b S own) (hB : B ≤ w.heap.size) (pg st ln : Int) (hm : mayB [1, 1, pg, st, ln, 0, 1] (S.n : Nat) = true) (hroom : ∀ i, (S.ver i).length < 549755800000) :
    Calls Tryz.prog 11 #[.pointer (some ⟨b, 0, none⟩), .int .i64 pg, .int .i64 st, .int .i64 ln] w fun e w' => e = .returned (.int .i64 (formatE S pg st ln).1) ∧ ∃ own', DAt w' B b (formatE S pg st ln).2 own' ∧ Turn w w' own own' := by
  have hga := World.grownBy_alloc w (.cells #[.int .i64 1, .int .i64 1, .int .i64 pg, .int .i64 st, .int .i64 ln, .int .i64 0, .int .i64 1] 49) none
  have HGA := Lib.hid hga
  have hbk := Blk.new w 49 #[.int .i64 1, .int .i64 1, .int .i64 pg, .int .i64 st, .int .i64 ln, .int .i64 0, .int .i64 1]
  have HBK := Lib.hid hbk
  have HDR := Lib.hid (grown_drew (w.alloc (.cells #[.int .i64 1, .int .i64 1, .int .i64 pg, .int .i64 st, .int .i64 ln, .int .i64 0, .int .i64 1] 49)) none)
  have HD1 := Lib.hid (dat_grown h (hga.trans HDR.out) (by simp))
  have HSZ := Lib.hid (size_any HD1.out)
  have HCK := Lib.hid (fun wx => check_any 1 1 pg st ln 0 1 (S.n : Int) wx)
  have hmk := make_sec
  rw [nilSec_cells] at hmk
  have HNO := Lib.hid (show ∀ i, own i → i < w.heap.size from fun i hi => by obtain ⟨_, _, _, hd⟩ := h; exact hd.lt i hi)
  have hck : checkE [1, 1, pg, st, ln, 0, 1] (S.n : Int) = if mayB [1, 1, pg, st, ln, 0, 1] S.n then 0 else 1 := rfl
  have hkeep : ∀ wx, (w.alloc (.cells #[.int .i64 1, .int .i64 1, .int .i64 pg, .int .i64 st, .int .i64 ln, .int .i64 0, .int .i64 1] 49)).grownBy wx none → wx.cell? ⟨w.heap.size, 0, none⟩ = some (.int .i64 1) ∧ wx.cell? ⟨w.heap.size, 1, none⟩ = some (.int .i64 1) ∧ wx.cell? ⟨w.heap.size, 2, none⟩ = some (.int .i64 pg) ∧ wx.cell? ⟨w.heap.size, 3, none⟩ = some (.int .i64 st) ∧ wx.cell? ⟨w.heap.size, 4, none⟩ = some (.int .i64 ln) ∧ wx.cell? ⟨w.heap.size, 5, none⟩ = some (.int .i64 0) ∧ wx.cell? ⟨w.heap.size, 6, none⟩ = some (.int .i64 1) := fun wx hg => by
    have hb := hbk.grown hg (by simp)
    exact ⟨by rw [hb.cell]; rfl, by rw [hb.cell]; rfl, by rw [hb.cell]; rfl, by rw [hb.cell]; rfl, by rw [hb.cell]; rfl, by rw [hb.cell]; rfl, by rw [hb.cell]; rfl⟩
  have HKEEP := Lib.hid hkeep
  obtain ⟨R0, hR0⟩ : ∃ r, formatE S pg st ln = r := ⟨_, rfl⟩
  rw [hR0]
  unfold formatE at hR0
  have HE := Lib.hid hR0.symm
  clear hR0 hga hbk h hkeep
  have hpg : 16 ≤ pg ∧ pg ≤ 1024 := by
    have hr : roomB [1, 1, pg, st, ln, 0, 1] (S.n : Nat) = true := by
      unfold mayB at hm
      rw [Bool.and_eq_true] at hm
      exact hm.2
    simp [roomB] at hr
    omega
  obtain ⟨N, hN⟩ : ∃ N : Nat, pg = (N : Int) := ⟨pg.toNat, by omega⟩
  rw [show pg.toNat = N by omega] at HE
  have HN := Lib.hid hN
  have HNB := Lib.hid (show N ≤ 1024 by omega)
  have HBB := Lib.hid hB
  have HROOM := Lib.hid hroom
  have HMAY := Lib.hid hm
  clear hroom hN hpg
  rw [hm] at hck HE
  rw [hck] at HCK
  clear hck hm
  generalize hn : (S.n : Int) = n at *
  go_enter Tryz.func11, Tryz.ntmps11
  go_wp2_with fail
  go_region_held3 (fun wx => wx.cell? ⟨w.heap.size, 0, none⟩ = some (.int .i64 1) ∧ wx.cell? ⟨w.heap.size, 1, none⟩ = some (.int .i64 1) ∧ wx.cell? ⟨w.heap.size, 2, none⟩ = some (.int .i64 pg) ∧ wx.cell? ⟨w.heap.size, 3, none⟩ = some (.int .i64 st) ∧ wx.cell? ⟨w.heap.size, 4, none⟩ = some (.int .i64 ln) ∧ wx.cell? ⟨w.heap.size, 5, none⟩ = some (.int .i64 0) ∧ wx.cell? ⟨w.heap.size, 6, none⟩ = some (.int .i64 1))
    (first
      | exact HKEEP.out _ HDR.out
      | exact HKEEP.out _ HG2.out)
    (first
      | (go_at_call 42
         refine HSZ.out.mono ?_
         rintro e w1 ⟨rfl, rfl⟩)
      | (go_at_call 41
         refine (HCK.out _).mono ?_
         rintro e w2 ⟨rfl, hg⟩
         have HG2 := Lib.hid (HDR.out.trans hg)
         have HD2 := Lib.hid (dat_grown HD1.out hg (by simp))
         clear hg))
  have HE1 := Lib.hid (show R0 = (if (wipeE N S).1 = 0 then formatB (wipeE N S).2 pg st ln else wipeE N S) from HE.out.trans (if_pos (by simp)))
  have HB2 := Lib.hid (HBK.out.grown HG2.out (by simp))
  have H0 := Lib.hid (show DAt w2 B b (wipeE 0 S).2 own ∧ Turn w2 w2 own own ∧ (wipeE 0 S).1 = 0 from ⟨HD2.out, Turn.refl _ _, rfl⟩)
  clear HE HD1 HSZ HCK HKEEP HDR
  go_wp2_with fail
  go_loopw [10, 11, 27] (fun _ _ i wr => ∃ j : Nat, j ≤ N ∧ i = .int .i64 j ∧ ∃ own', DAt wr B b (wipeE j S).2 own' ∧ Turn w2 wr own own' ∧ (wipeE j S).1 = 0) (fun _ _ i _ => N - (Go.RowKit.intOf i).toNat)
  case atStart => exact ⟨0, Nat.zero_le _, rfl, own, H0.out⟩
  case round =>
    clear H0
    obtain ⟨j, hj, rfl, own', hd, ht, he⟩ := hrel
    have HD := Lib.hid hd; have HT := Lib.hid ht; have HOK := Lib.hid he
    clear hd ht he
    have hsz2 := HG2.out.size
    have hsz3 := HT.out.size
    have hsz1 := HGA.out.size
    have HBW := Lib.hid (blk_of_block HB2.out (HT.out.block w.heap.size HB2.out.lt (fun e => by have := HNO.out _ e; omega)))
    have HTW := Lib.hid ((Turn.none_ (HGA.out.trans HG2.out)).trans HT.out)
    have HNW := Lib.hid (show ∀ i, own' i → i < wr.heap.size from fun i hi => by obtain ⟨_, _, _, hd⟩ := HD.out; exact hd.lt i hi)
    have HNB9 := Lib.hid (show ¬ own' w.heap.size from fun e => by
      rcases HTW.out.fresh _ e with h1 | h1
      · have := HNO.out _ h1; omega
      · rcases HT.out.fresh _ e with h2 | h2
        · have := HNO.out _ h2; omega
        · have := HB2.out.lt; omega)
    have HVW := Lib.hid (fun i => wipe_ver S i j)
    have hbw : B ≤ wr.heap.size := by have := HBB.out; omega
    by_cases hlt : j < N
    · have hjn : (j : Int) < pg := by have := HN.out; omega
      have HHM := Lib.hid (fun wx => home_any (j : Int) wx (by have := HNB.out; omega))
      have hwj : IntKind.i64.wrap ((j : Int) + 1) = (j : Int) + 1 := IntWalk.i64_in _ (by have := HNB.out; omega)
      have hga := World.grownBy_alloc wr (.cells (u8s nilSec).toArray 5) none
      have hbk := Blk.new wr 5 (u8s nilSec).toArray
      have hg2 := hga.trans (grown_drew (wr.alloc (.cells (u8s nilSec).toArray 5)) none)
      have hd2 := dat_grown HD.out hg2 (by simp)
      have hl : nilSec.length = 256 := List.length_replicate
      have hda := data_of_blk (own := own') (hbk.grown (grown_drew (wr.alloc (.cells (u8s nilSec).toArray 5)) none) (by simp)) (fun x hx => by rw [(List.mem_replicate.1 hx).2]; omega) (fun e => by have := HNW.out _ e; omega)
      rw [hl] at hda
      have hnb := HNB.out
      have hwr := disk_write_all hd2 (2 + (j : Int)) (some ⟨wr.heap.size, 0, none⟩) 256 256 _ false (by omega) hda (by omega) (by omega) (fun i => by have := HVW.out i; have := HROOM.out i; omega) (Nat.le_trans hbw hg2.size)
      have hstep : wipeE (j + 1) S = writeE (wipeE j S).2 false (2 + (j : Int)) nilSec := by
        rw [wipeE, if_pos HOK.out]
      have HSTOP := Lib.hid (fun (h : (wipeE (j + 1) S).1 ≠ 0) => wipe_stop h N (by omega))
      rw [← hstep] at hwr
      generalize hq : wipeE (j + 1) S = r at *
      have HQ := Lib.hid hq
      obtain ⟨er, Tr⟩ := r
      dsimp only at hwr
      have HWR := Lib.hid hwr
      have HG2B := Lib.hid hg2
      clear hga hbk hg2 hd2 hl hda hnb hwr hstep hq
      generalize u8s nilSec = zs at *
      go_wp2_with fail
      go_region_held3 (fun _ => True)
        (first | trivial)
        (first
          | (go_at_call 44
             (with_reducible refine (HHM.out _).mono ?_)
             rintro e w4 ⟨rfl, rfl⟩)
          | (go_at_call 43
             (with_reducible refine HWR.out.mono ?_)
             rintro e w5 ⟨rfl, own5, hd5, ht5⟩
             have HD5 := Lib.hid hd5
             have HT5 := Lib.hid ((Turn.none_ HG2B.out).trans ht5)
             clear hd5 ht5))
      all_goals (
        by_cases h0 : er = 0
        · subst h0
          go_wp2_with fail
          go_roundw
          case rel => exact ⟨j + 1, by omega, by first | rfl | simp [hwj], own5, by rw [HQ.out]; exact HD5.out, HT.out.trans HT5.out, by rw [HQ.out]⟩
          case measure => simp [Go.RowKit.intOf]; omega
        · have h0b : (er == 0) = false := by simpa using h0
          have HR0 := Lib.hid (show R0 = (er, Tr) from by
            have h1 := HSTOP.out h0
            have h2 := HE1.out
            rw [h1, if_neg h0] at h2
            exact h2)
          go_wp2_with fail
          go_ret
          rw [HR0.out]
          exact ⟨rfl, own5, HD5.out, HTW.out.trans HT5.out⟩)
    · have hje : j = N := by omega
      subst hje
      have hjn : ¬ ((j : Int) < pg) := by have := HN.out; omega
      have HF := Lib.hid (disk_flush_all HD.out)
      have HE2 := Lib.hid (show R0 = formatB (wipeE j S).2 pg st ln from HE1.out.trans (if_pos HOK.out))
      have HVF := Lib.hid (fun i => flushE_ver6 (wipeE j S).2 i)
      have HNJ := Lib.hid (show j ≤ 1024 from HNB.out)
      unfold formatB at HE2
      generalize (wipeE j S).2 = S2 at *
      generalize hq : flushE S2 = r at *
      obtain ⟨ef, Tf⟩ := r
      dsimp only at HF HE2 HVF
      clear hq
      go_wp2_with fail
      refine HF.out.mono ?_
      rintro e w5 ⟨rfl, hd5, ht5⟩
      have HD5 := Lib.hid hd5
      have HT5 := Lib.hid (HTW.out.trans ht5)
      have HB5 := Lib.hid (blk_of_block HBW.out (ht5.block w.heap.size HBW.out.lt HNB9.out))
      have hs5 := ht5.size
      clear hd5 ht5 HF
      by_cases h0 : ef = 0
      · subst h0
        have HBO := Lib.hid (both_any HD5.out (Nat.le_trans hbw hs5) 1 1 pg st ln 0 1 (fun i => by have h1 := HVF.out i; have h2 := HVW.out i; have h3 := HROOM.out i; have h4 := HNJ.out; omega))
        have HE3 := Lib.hid (show R0 = bothE Tf 1 1 pg st ln 0 1 from HE2.out.trans (if_pos rfl))
        have x0 := HB5.out.cell 0; have x1 := HB5.out.cell 1; have x2 := HB5.out.cell 2; have x3 := HB5.out.cell 3; have x4 := HB5.out.cell 4; have x5 := HB5.out.cell 5; have x6 := HB5.out.cell 6
        simp only [List.getElem?_toArray, List.getElem?_cons_zero, List.getElem?_cons_succ] at x0 x1 x2 x3 x4 x5 x6
        go_wp2_with fail
        refine HBO.out.mono ?_
        rintro e w6 ⟨rfl, own6, hd6, ht6⟩
        have HD6 := Lib.hid hd6
        have HT6 := Lib.hid (HT5.out.trans ht6)
        clear hd6 ht6 HBO x0 x1 x2 x3 x4 x5 x6
        go_wp2_with fail
        go_ret
        rw [HE3.out]
        exact ⟨rfl, own6, HD6.out, HT6.out⟩
      · have h0b : (ef == 0) = false := by simpa using h0
        have HE3 := Lib.hid (HE2.out.trans (if_neg h0))
        go_wp2_with fail
        go_ret
        rw [HE3.out]
        exact ⟨rfl, own', HD5.out, HT5.out⟩
end
end Go.Proofs.YteaokeiolgjhaaaGreat.Sto
/- The laws' own small functions: one of n; a page that has one byte throughout; are two pages the same? -/
namespace Go.Proofs.YteaokeiolgjhaaaGreat.Sto
open Go.RowKit Go.Maps Go.Shelf CrcMath CodecMath Mem Crc Codec DiskSpec Dsk Sup Log

set_option maxRecDepth 100000 in
set_option maxHeartbeats 400000 in
theorem pick_call (c : Int) (hc : -9223372036854775808 ≤ c ∧ c ≤ 9223372036854775807) (n : Nat) (hn : 0 < n ∧ n ≤ 1000) (w : World) :
    Calls Tryz.prog 13 #[.int .i64 c, .int .i64 (n : Nat)] w fun e w' => (∃ k : Nat, k < n ∧ e = .returned (.int .i64 (k : Nat))) ∧ w' = w := by
  have hn0 : ¬ ((n : Int) = 0) := by omega
  have hnb : ((n : Int) == 0) = false := by simpa using hn0
  by_cases h0 : c < 0
  · have hw1 : IntKind.i64.wrap (c + 1) = c + 1 := IntWalk.i64_in _ (by omega)
    have hw2 : IntKind.i64.wrap (-(c + 1)) = -(c + 1) := IntWalk.i64_in _ (by omega)
    have e : (-(c + 1)).tmod (n : Int) = -(c + 1) % (n : Int) := Int.tmod_eq_emod_of_nonneg (by omega)
    have hm1 := Int.emod_nonneg (-(c + 1)) hn0
    have hm2 := Int.emod_lt_of_pos (-(c + 1)) (show (0 : Int) < n by omega)
    obtain ⟨k, hk⟩ : ∃ k : Nat, (-(c + 1)).tmod (n : Int) = (k : Int) := ⟨((-(c + 1)).tmod (n : Int)).toNat, by omega⟩
    have HK := Lib.hid (show k < n by omega)
    have hwk : IntKind.i64.wrap (k : Int) = (k : Int) := IntWalk.i64_in _ (by omega)
    clear e hm1 hm2
    go_enter Tryz.func13, Tryz.ntmps13
    go_wp2
    go_ret
    exact ⟨⟨k, HK.out, rfl⟩, rfl⟩
  · have e : c.tmod (n : Int) = c % (n : Int) := Int.tmod_eq_emod_of_nonneg (by omega)
    have hm1 := Int.emod_nonneg c hn0
    have hm2 := Int.emod_lt_of_pos c (show (0 : Int) < n by omega)
    obtain ⟨k, hk⟩ : ∃ k : Nat, c.tmod (n : Int) = (k : Int) := ⟨(c.tmod (n : Int)).toNat, by omega⟩
    have HK := Lib.hid (show k < n by omega)
    have hwk : IntKind.i64.wrap (k : Int) = (k : Int) := IntWalk.i64_in _ (by omega)
    clear e hm1 hm2
    go_enter Tryz.func13, Tryz.ntmps13
    go_wp2
    go_ret
    exact ⟨⟨k, HK.out, rfl⟩, rfl⟩
/-- The body that has one byte throughout. -/
def bodyOne (f : Int) : List Nat := List.replicate 240 (fillB f 0)
/-- .. as far as it was filled. -/
def fillTo (c i : Nat) : List Nat := List.replicate i c ++ List.replicate (240 - i) 0
theorem fillTo_all (f : Int) : fillTo (fillB f 0) 240 = bodyOne f := by simp [fillTo, bodyOne]
theorem fillTo_zero (c : Nat) : fillTo c 0 = List.replicate 240 0 := by simp [fillTo]
theorem fillTo_len (c : Nat) {i : Nat} (hi : i ≤ 240) : (fillTo c i).length = 240 := by simp [fillTo]; omega
theorem fillTo_step (c : Nat) {i : Nat} (hi : i < 240) : (u8s (fillTo c i)).toArray.setIfInBounds i (.int .u8 (c : Nat)) = (u8s (fillTo c (i + 1))).toArray := by
  apply Array.ext'
  rw [Array.toList_setIfInBounds]
  show (u8s (fillTo c i)).set i _ = u8s (fillTo c (i + 1))
  have e : 240 - i = (240 - (i + 1)) + 1 := by omega
  unfold fillTo u8s
  rw [List.map_append, List.map_append, List.map_replicate, List.map_replicate, List.map_replicate, List.map_replicate, List.set_append_right _ _ (by simp), List.length_replicate, Nat.sub_self, e, List.replicate_succ (n := 240 - (i + 1)), List.set_cons_zero, List.replicate_succ' (n := i), List.append_assoc]
  rfl
theorem bodyOne_len (f : Int) : (bodyOne f).length = 240 := List.length_replicate
theorem bodyOne_lt (f : Int) : ∀ x ∈ bodyOne f, x < 256 := fun x hx => by rw [List.eq_of_mem_replicate hx]; exact fillB_lt _ _
theorem make_body (w : World) : (Instr.makeSlice 38 (.int .i64 240) (.int .i64 240)).run Tryz.prog w = .ok (.slice (some ⟨w.heap.size, 0, none⟩) 240 240) (w.alloc (.cells (Array.replicate 240 (.int .u8 0)) 5)) := by kernel_rfl
theorem body_cells (c : Nat) : (Array.replicate 240 (Value.int .u8 0)) = (u8s (fillTo c 0)).toArray := by
  rw [fillTo_zero]
  unfold u8s
  rw [List.map_replicate]
  apply Array.ext'
  simp
theorem fillTo_at (c : Nat) {i : Nat} (hi : i < 240) : (u8s (fillTo c i)).toArray[i]? = some (.int .u8 0) := by
  have e : 240 - i = (240 - (i + 1)) + 1 := by omega
  unfold fillTo u8s
  rw [List.getElem?_toArray, List.map_append, List.getElem?_append_right (by simp), List.map_replicate, List.map_replicate, List.length_replicate, Nat.sub_self, e, List.replicate_succ]
  rfl
set_option maxRecDepth 100000 in
set_option maxHeartbeats 1600000 in
theorem page_call (k p wh f n l : Int) (pk : Value) (hpk : ∃ A m c, pk = .slice A m c) (hn : n ≠ 77) (w : World) :
    Calls Tryz.prog 16 #[.agg #[.int .i64 k, .int .i64 p, .int .i64 wh, .int .i64 f, .int .i64 n, .int .i64 l, pk]] w fun e w' =>
      ∃ g, e = .returned (.agg #[.int .i64 wh, .slice (some ⟨g, 0, none⟩) 240 240]) ∧ w.heap.size ≤ g ∧ Blk w' g 5 (u8s (bodyOne f)).toArray ∧ w.grownBy w' none := by
  obtain ⟨Ap, mp, cp, rfl⟩ := hpk
  have hnb : (n == 77) = false := by simpa using hn
  have hfb : f % 256 = ((fillB f 0 : Nat) : Int) := by unfold fillB; omega
  have hmk := make_body
  rw [body_cells (fillB f 0)] at hmk
  have hg1 := World.grownBy_alloc w (.cells #[.int .i64 k, .int .i64 p, .int .i64 wh, .int .i64 f, .int .i64 n, .int .i64 l, .slice Ap mp cp] 34) none
  have hb1 := Blk.new w 34 #[.int .i64 k, .int .i64 p, .int .i64 wh, .int .i64 f, .int .i64 n, .int .i64 l, .slice Ap mp cp]
  have hs1 : (w.alloc (.cells #[.int .i64 k, .int .i64 p, .int .i64 wh, .int .i64 f, .int .i64 n, .int .i64 l, .slice Ap mp cp] 34)).heap.size = w.heap.size + 1 := by simp
  have hb2 := Blk.new (w.alloc (.cells #[.int .i64 k, .int .i64 p, .int .i64 wh, .int .i64 f, .int .i64 n, .int .i64 l, .slice Ap mp cp] 34)) 40 #[.int .i64 0, .slice none 0 0]
  have hg2 := World.grownBy_alloc (w.alloc (.cells #[.int .i64 k, .int .i64 p, .int .i64 wh, .int .i64 f, .int .i64 n, .int .i64 l, .slice Ap mp cp] 34)) (.cells #[.int .i64 0, .slice none 0 0] 40) none
  rw [hs1] at hb2
  have hs2 : ((w.alloc (.cells #[.int .i64 k, .int .i64 p, .int .i64 wh, .int .i64 f, .int .i64 n, .int .i64 l, .slice Ap mp cp] 34)).alloc (.cells #[.int .i64 0, .slice none 0 0] 40)).heap.size = w.heap.size + 2 := by simp
  have HB1 := Lib.hid (hb1.grown hg2 (by simp))
  have HB2 := Lib.hid hb2
  have HG := Lib.hid (hg1.trans hg2)
  clear hg1 hb1 hs1 hb2 hg2
  go_enter Tryz.func16, Tryz.ntmps16
  go_wp2
  generalize ((w.alloc (.cells #[.int .i64 k, .int .i64 p, .int .i64 wh, .int .i64 f, .int .i64 n, .int .i64 l, .slice Ap mp cp] 34)).alloc (.cells #[.int .i64 0, .slice none 0 0] 40)) = w2 at *
  have hb3 := Blk.new w2 5 (u8s (fillTo (fillB f 0) 0)).toArray
  rw [hs2] at hb3
  have HB3 := Lib.hid hb3
  have HG3 := Lib.hid (World.grownBy_alloc w2 (.cells (u8s (fillTo (fillB f 0) 0)).toArray 5) none)
  have HS2 := Lib.hid hs2
  clear hb3 hs2
  go_loopw [5] (fun i wr => ∃ j : Nat, j ≤ 240 ∧ i = .int .i64 j ∧ w2.grownBy wr none ∧ Blk wr (w.heap.size + 2) 5 (u8s (fillTo (fillB f 0) j)).toArray) (fun i _ => 240 - (Go.RowKit.intOf i).toNat)
  case atStart => exact ⟨0, by omega, rfl, HG3.out, HB3.out⟩
  case round =>
    clear HB3 HG3 hmk
    obtain ⟨j, hj, rfl, hgr, hbr⟩ := hrel
    have hx1 := HB1.out.grown hgr (by simp)
    have hx2 := HB2.out.grown hgr (by simp)
    have d2 := hx1.cell 2; have d3 := hx1.cell 3
    simp only [List.getElem?_toArray, List.getElem?_cons_zero, List.getElem?_cons_succ] at d2 d3
    have HGR := Lib.hid hgr; have HBR := Lib.hid hbr; have HX2 := Lib.hid hx2
    by_cases hlt : j < 240
    · have hjn : (j : Int) < 240 := by omega
      have hc := hbr.cell j
      rw [fillTo_at _ hlt] at hc
      have hf := hbr.frozen j
      have HB4 := Lib.hid (show Blk (wr.setCell ⟨w.heap.size + 2, j, none⟩ (.int .u8 ((fillB f 0 : Nat) : Int))) (w.heap.size + 2) 5 (u8s (fillTo (fillB f 0) (j + 1))).toArray from by
        rw [← fillTo_step _ hlt]
        exact hbr.set_ j _)
      have HG4 := Lib.hid (hgr.andThen (Lib.grownBy_setB (World.grownBy.refl wr (some (w.heap.size + 2))) j (.int .u8 ((fillB f 0 : Nat) : Int))) (fun q hq => .inl (by have := HS2.out; cases hq; omega)))
      clear hgr hbr hx1 hx2
      go_wp2
      go_roundw
      case rel => exact ⟨j + 1, by omega, by first | rfl | simp, HG4.out, HB4.out⟩
      case measure => simp [Go.RowKit.intOf]; omega
    · have hje : j = 240 := by omega
      have hjn : ¬ ((j : Int) < 240) := by omega
      have HBF := Lib.hid (show Blk wr (w.heap.size + 2) 5 (u8s (bodyOne f)).toArray from by rw [← fillTo_all, ← hje]; exact hbr)
      have r0 := hx2.cell 0; have r1 := hx2.cell 1; have f0 := hx2.frozen 0; have f1 := hx2.frozen 1
      simp only [List.getElem?_toArray, List.getElem?_cons_zero, List.getElem?_cons_succ] at r0 r1
      have HBX := Lib.hid (show Blk ((wr.setCell ⟨w.heap.size + 1, 0, none⟩ (.int .i64 wh)).setCell ⟨w.heap.size + 1, 1, none⟩ (.slice (some ⟨w.heap.size + 2, 0, none⟩) 240 240)) (w.heap.size + 1) 40 #[.int .i64 wh, .slice (some ⟨w.heap.size + 2, 0, none⟩) 240 240] from (hx2.set_ 0 (.int .i64 wh)).set_ 1 (.slice (some ⟨w.heap.size + 2, 0, none⟩) 240 240))
      have hgs := Lib.grownBy_setB (Lib.grownBy_setB (World.grownBy.refl wr (some (w.heap.size + 1))) 0 (.int .i64 wh)) 1 (.slice (some ⟨w.heap.size + 2, 0, none⟩) 240 240)
      have HBY := Lib.hid (HBF.out.grown hgs (by simp))
      have HGS := Lib.hid ((HG.out.trans hgr).andThen hgs (fun q hq => .inl (by cases hq; omega)))
      clear hgr hbr hx1 hx2 hgs
      go_wp2
      refine ret_row1 rfl (w.heap.size + 1) 40 #[.int .i64 wh, .slice (some ⟨w.heap.size + 2, 0, none⟩) 240 240] _ rfl HBX.out Tryz.underlying40 rfl (by kernel_rfl) rfl ?_
      exact ⟨_, rfl, by omega, HBY.out, HGS.out⟩
set_option maxRecDepth 100000 in
set_option maxHeartbeats 1600000 in
theorem same_call {w : World} {P : Nat → Prop} {va vb : Value} {q : Pg} (ha : PgV w P va q) (hb : PgV w P vb q) {t : Nat} (ht : P t) :
    Calls Tryz.prog 25 #[va, vb] w fun e w' => e = .returned (.bool true) ∧ w.grownBy w' none := by
  obtain ⟨_, rfl, A, n, c, rfl, _, hda⟩ := ha
  obtain ⟨_, rfl, A2, n2, c2, rfl, _, hdb⟩ := hb
  have hg1 := World.grownBy_alloc w (.cells #[.int .i64 q.1, .slice A n c] 40) none
  have hg2 := hg1.trans (World.grownBy_alloc _ (.cells #[.int .i64 q.1, .slice A2 n2 c2] 40) none)
  have hs1 := run_str (data_bytes (Dsk.Data.turn hda (Turn.none_ hg2)) ht) c
  have hs2 := run_str (data_bytes (Dsk.Data.turn hdb (Turn.none_ hg2)) ht) c2
  have hq : (q.1 == q.1) = true := by simp
  have HG := Lib.hid hg2
  clear hg1 hg2 hda hdb
  go_enter Tryz.func25, Tryz.ntmps25
  go_wp2
  go_ret
  exact ⟨by simp, HG.out⟩
end Go.Proofs.YteaokeiolgjhaaaGreat.Sto
