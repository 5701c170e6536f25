/- Texts of this seat's proofs: LogImgs, LogFind, LogNew, LogOpen, LogOps, LogSame, LogKnown. -/
import Derived.Test.YteaokeiolgjhaaaGreatPLogMay
import Derived.Test.YteaokeiolgjhaaaGreatPCodecPageGet
import Derived.Test.YteaokeiolgjhaaaGreatPCodecSpec
import Derived.Test.YteaokeiolgjhaaaGreatPDiskNew
import Derived.Test.YteaokeiolgjhaaaGreatPOnce
import Derived.Deep.RegionHeld3
import Derived.Deep.RegionLaw
/- images of package log. -/
namespace Go.Proofs.YteaokeiolgjhaaaGreat.Log
open Go.RowKit CrcMath CodecMath Mem Crc Codec DiskSpec Dsk Sup

/-- A body that a reader has given. -/
theorem lies_body {w : World} {base : Nat} {P : Nat → Prop} {v : Value} {l : List Nat} (h : Lies w base v l) (hP : ∀ i, base ≤ i → ¬ P i) : BodyAt w P v l := by
  obtain ⟨A, c, rfl, hc, hlt, hx⟩ := h
  refine ⟨A, l.length, c, rfl, hc, rfl, hlt, fun h0 => ?_⟩
  obtain ⟨g, off, t, L, rfl, hg, hbk, hfit, he⟩ := hx h0
  refine ⟨g, off, rfl, hbk.lt, hP g hg, fun j hj => ?_⟩
  rw [hbk.cell, List.getElem?_toArray, u8s_at _ _ (by omega)]
  congr 3
  have e2 : l.getD j 0 = ((L.drop off).take l.length).getD j 0 := by rw [← he]
  rw [e2]
  simp [List.getD_eq_getElem?_getD, List.getElem?_take_of_lt hj]
/-- What images leaves. -/
def SaidImgs (w : World) (r : Option (List Img)) (e : Ending) (w' : World) : Prop :=
  w.grownBy w' none ∧ ((∃ l A c, r = some l ∧ e = .returned (.tuple #[.slice A l.length c, .bool true]) ∧ l.length ≤ c ∧ c ≤ maxLen ∧ Imgs w' (· < w.heap.size) A l.length l) ∨ (r = none ∧ e = .returned (.tuple #[.slice none 0 0, .bool false])))
theorem turn_grew2 {w w' : World} {v v' : Value} {R : Nat → Prop} (h : Grew w w' v v') : Turn w w' (fun i => R i ∨ v.ownBlock = some i) (fun i => R i ∨ v'.ownBlock = some i) :=
  ⟨h.1.os, h.1.tape, h.1.output, h.1.size, fun i hi hn => h.1.block i hi (fun e => hn (.inr e.symm)), fun i hi => by
    rcases hi with hi | hi
    · exact .inl (.inl hi)
    · rcases h.2 i hi with h1 | h1
      · exact .inl (.inr h1)
      · exact .inr h1⟩
/-- Whole numbers that were there in w, read in wr. -/
def IntsAt (w wr : World) (A : Option Addr) (n : Nat) (l : List Int) : Prop := 0 < n → ∃ g o, A = some ⟨g, o, none⟩ ∧ g < w.heap.size ∧ ∀ j, j < n → wr.cell? ⟨g, o + j, none⟩ = some (.int .i64 (l.getD j 0))
theorem IntsAt.grown {w wr w' : World} {A : Option Addr} {n : Nat} {l : List Int} (h : IntsAt w wr A n l) (hw : w.heap.size ≤ wr.heap.size) {row : Option Nat} (hg : wr.grownBy w' row) (hr : ∀ q, row = some q → w.heap.size ≤ q) : IntsAt w w' A n l := by
  intro h0
  obtain ⟨g, o, e, hlt, hc⟩ := h h0
  refine ⟨g, o, e, hlt, fun j hj => ?_⟩
  rw [World.cell?_of_block (a := ⟨g, o + j, none⟩) (hg.block g (by omega) (fun e2 => by have := hr g e2.symm; omega))]
  exact hc j hj
/-- Where images stands at image j. -/
structure ImAt (w wr : World) (g b tb : Nat) (L : Lg) (ep sq : Int) (A : Option Addr) (n c sum : Nat) (pages : List Int) (As : Option Addr) (m : Nat) (bytes : List Nat) (vo : Value) (j : Nat) : Prop where
  gr : w.grownBy wr none
  lb : LBlk wr g L b tb
  r : Ready wr tb
  hd : Blk wr w.heap.size 175 #[.int .i64 ep, .int .i64 sq, .slice A n c, .int .u32 (sum : Nat)]
  pg : IntsAt w wr A n pages
  bs : Dsk.Data wr (From (· = tb) w.heap.size) As m bytes
  lo : g < w.heap.size ∧ tb < w.heap.size
  im : ∃ V : List (Img × Value), imgsR ep sq pages bytes j = some (V.map (·.1)) ∧ V.length = j ∧ Own wr (w.heap.size + 1) 109 3 vo j (imC V) ∧ ∀ p ∈ V, BodyAt wr (fun i => i < w.heap.size ∨ vo.ownBlock = some i) p.2 p.1.2.2
section
variable {w wr w' : World} {g b tb : Nat} {L : Lg} {ep sq : Int} {A : Option Addr} {n c sum : Nat} {pages : List Int} {As : Option Addr} {m : Nat} {bytes : List Nat} {vo : Value} {j : Nat}
theorem ImAt.quiet (h : ImAt w wr g b tb L ep sq A n c sum pages As m bytes vo j) (hg : wr.grownBy w' none) : ImAt w w' g b tb L ep sq A n c sum pages As m bytes vo j := by
  obtain ⟨V, h1, h2, h3, h4⟩ := h.im
  exact ⟨h.gr.trans hg, h.lb.grown hg (by simp), h.r.keep hg (by simp), h.hd.grown hg (by simp), h.pg.grown h.gr.size hg (fun _ e => by cases e), Dsk.Data.turn h.bs (Turn.none_ hg), h.lo, V, h1, h2, h3.keep hg (fun _ _ => by simp), fun p hp => (h4 p hp).turn (Turn.none_ hg)⟩
end
theorem sec_bytes {w : World} {b g o m j : Nat} {l : List Nat} (h : Bytes w b (some ⟨g, o, none⟩) m l) (hj : 256 * (j + 1) ≤ m) : Bytes w b (some ⟨g, o + j * 256, none⟩) 256 (DiskSpec.sec l j) := by
  obtain ⟨h1, h2, h3⟩ := h
  have hl : (DiskSpec.sec l j).length = 256 := by unfold DiskSpec.sec; rw [List.length_take, List.length_drop, h1]; omega
  refine ⟨hl, fun x hx => h2 x (List.mem_of_mem_drop (List.mem_of_mem_take hx)), fun _ => ?_⟩
  obtain ⟨g', o', e, hlt, hne, hc⟩ := h3 (by omega)
  simp only [Option.some.injEq, Addr.mk.injEq, and_true] at e
  obtain ⟨rfl, rfl⟩ := e
  refine ⟨g, o + j * 256, rfl, hlt, hne, fun q hq => ?_⟩
  rw [show o + j * 256 + q = o + (256 * j + q) from by omega, hc _ (by omega)]
  congr 3
  unfold DiskSpec.sec
  simp [List.getD_eq_getElem?_getD, List.getElem?_take_of_lt hq, List.getElem?_drop]
/-- What is known of a sector that was read as an image, with its image in a block of its own. -/
def GotIm (wr wx : World) (r : Option (Int × Int × Int × Int × List Nat)) (s11 s12 s13 s14 : Value) : Prop :=
  wr.grownBy wx none ∧ ∃ gq, s13 = .pointer (some ⟨gq, 0, none⟩) ∧ wr.heap.size ≤ gq ∧
    ((∃ e s n k b A m c, r = some (e, s, n, k, b) ∧ s11 = .int .i64 e ∧ s12 = .int .i64 s ∧ s14 = .bool true ∧ Blk wx gq 109 #[.int .i64 n, .int .i64 k, .slice A m c] ∧ BodyAt wx (· < wr.heap.size) (.slice A m c) b) ∨
      (r = none ∧ s11 = .int .i64 0 ∧ s12 = .int .i64 0 ∧ s14 = .bool false ∧ Blk wx gq 109 #[.int .i64 0, .int .i64 0, .slice none 0 0]))
theorem size_u8 (w : World) : (sizeOf (Tryz.prog.elem 38)).run Tryz.prog w = .ok 1 w := by kernel_rfl
theorem slice_part (gs os m cs j : Nat) (hj : 256 * (j + 1) ≤ m) (hm : m ≤ cs) (w : World) :
    (Instr.slice 38 (.slice (some ⟨gs, os, none⟩) m cs) (some (.int .i64 ((j : Int) * 256))) (some (.int .i64 (((j : Int) + 1) * 256))) none).run Tryz.prog w = .ok (.slice (some ⟨gs, os + j * 256, none⟩) 256 (cs - j * 256)) w := by
  rw [run_slice_lh w 38 _ m cs (by kernel_rfl) .i64 .i64 _ _ (by omega) (by omega) (by omega), size_u8]
  have e1 : ((j : Int) * 256).toNat = j * 256 := by omega
  have e2 : (((j : Int) + 1) * 256).toNat = j * 256 + 256 := by omega
  rw [e1, e2]
  show Result.ok (sliced (some ⟨gs, os, none⟩) (j * 256) (j * 256 + 256) cs 1) w = _
  unfold sliced
  rw [if_neg (by omega), show j * 256 + 256 - j * 256 = 256 from by omega]
  simp only [Option.map, Nat.mul_one]
  congr 3
  unfold Addr.add
  split <;> simp_all
theorem sliceAt_part (gs os m cs j : Nat) (hj : 256 * (j + 1) ≤ m) (hm : m ≤ cs) (w : World) :
    (Instr.sliceAt 38 (.slice (some ⟨gs, os, none⟩) m cs) (some (.int .i64 ((j : Int) * 256))) (some (.int .i64 (((j : Int) + 1) * 256))) none).run Tryz.prog w = .ok (.slice (some ⟨gs, os + j * 256, none⟩) 256 (cs - j * 256)) w := by
  rw [run_sliceAt_slice w 38 _ _ _ _ (by kernel_rfl)]
  exact slice_part gs os m cs j hj hm w
set_option maxRecDepth 100000 in
set_option maxHeartbeats 3200000 in
theorem log_images {w : World} {g b tb : Nat} {L : Lg} (ep sq : Int) (A : Option Addr) (n c sum : Nat) (pages : List Int) (As : Option Addr) (m cs : Nat) (bytes : List Nat)
    (hlb : LBlk w g L b tb) (hR : Ready w tb) (hpg : Ints w tb A n pages) (hbs : Bytes w tb As m bytes) (hm : m = 256 * n) (hn : n ≤ 40) (h1 : 1 ≤ n) (hmc : m ≤ cs) (hsum : sum < 4294967296) :
    Calls Tryz.prog 175 #[.pointer (some ⟨g, 0, none⟩), .agg #[.int .i64 ep, .int .i64 sq, .slice A n c, .int .u32 (sum : Nat)], .slice As m cs] w (SaidImgs w (bodyR ep sq pages sum bytes)) := by
  subst hm
  obtain ⟨i0, hi0, hz0, hz1, hz2⟩ := info_parts image_info
  have hi := Lib.hid hi0; have z0 := Lib.hid hz0; have z1 := Lib.hid hz1; have z2 := Lib.hid hz2
  have hlen := hpg.1
  have hbd : Dsk.Data w (From (· = tb) w.heap.size) As (256 * n) bytes := ⟨hbs.1, hbs.2.1, fun h0 => by
    obtain ⟨g2, o2, e, hlt, hne, hc⟩ := hbs.2.2 h0
    exact ⟨g2, o2, e, hlt, fun h => by rcases h with h | h; exact hne h; omega, hc⟩⟩
  have hga := World.grownBy_alloc w (.cells #[.int .i64 ep, .int .i64 sq, .slice A n c, .int .u32 (sum : Nat)] 175) none
  have H0 := Lib.hid (show ImAt w (w.alloc (.cells #[.int .i64 ep, .int .i64 sq, .slice A n c, .int .u32 (sum : Nat)] 175)) g b tb L ep sq A n c sum pages As (256 * n) bytes (.slice none 0 0) 0 from
    ⟨hga, hlb.grown hga (by simp), hR.keep hga (by simp), Blk.new w _ _, IntsAt.grown (w := w) (wr := w) (fun h0 => by obtain ⟨g2, o2, e, hlt, _, hc⟩ := hpg.2.2 h0; exact ⟨g2, o2, e, hlt, hc⟩) (Nat.le_refl _) hga (fun _ e => by cases e), Dsk.Data.turn hbd (Turn.none_ hga), ⟨hlb.lt, by obtain ⟨_, h, _⟩ := hR; exact h.lt⟩, [], rfl, rfl, Own.nil _ _ _ _, by simp⟩)
  have HLEN := Lib.hid hlen
  obtain ⟨gs, os, rfl, _, _, _⟩ := hbs.2.2 (by omega)
  clear hlb hR hpg hbs hbd hga hi0 hz0 hz1 hz2 hlen
  have HBR := Lib.hid (show bodyR ep sq pages sum bytes = if M 0 bytes = sum then imgsR ep sq pages bytes pages.length else none from rfl)
  have hkeep : ∀ wx, (w.alloc (.cells #[.int .i64 ep, .int .i64 sq, .slice A n c, .int .u32 (sum : Nat)] 175)).grownBy wx none → wx.cell? ⟨g, 1, none⟩ = some (.pointer (some ⟨tb, 0, none⟩)) ∧ wx.cell? ⟨w.heap.size, 3, none⟩ = some (.int .u32 (sum : Nat)) := by
    intro wx hg
    have h := H0.out.quiet hg
    exact ⟨h.lb.cells.2.1, by rw [h.hd.cell]; rfl⟩
  have HKEEP := Lib.hid hkeep
  have HD0 := Lib.hid (grown_drew (w.alloc (.cells #[.int .i64 ep, .int .i64 sq, .slice A n c, .int .u32 (sum : Nat)] 175)) none)
  have HSUM := Lib.hid (fun wx (hg : (w.alloc (.cells #[.int .i64 ep, .int .i64 sq, .slice A n c, .int .u32 (sum : Nat)] 175)).grownBy wx none) => sum_ready tb (some ⟨gs, os, none⟩) (256 * n) cs bytes wx (H0.out.quiet hg).r (data_bytes (H0.out.quiet hg).bs (.inl rfl)) (by omega))
  clear hkeep
  go_enter Tryz.func175, Tryz.ntmps175
  go_wp2_with fail
  generalize w.alloc (.cells #[.int .i64 ep, .int .i64 sq, .slice A n c, .int .u32 (sum : Nat)] 175) = wa at *
  generalize hmm : M 0 bytes = mb at *
  have HMM := Lib.hid hmm; clear hmm
  go_region_held3 (fun wx => wx.cell? ⟨g, 1, none⟩ = some (.pointer (some ⟨tb, 0, none⟩)) ∧ wx.cell? ⟨w.heap.size, 3, none⟩ = some (.int .u32 (sum : Nat)))
    (first
      | exact HKEEP.out _ HD0.out)
    (first
      | (go_at_call 144
         (with_reducible refine (HSUM.out _ HD0.out).mono ?_)
         rintro e w2 ⟨rfl, rfl⟩))
  obtain ⟨hk1, hk3⟩ := HKEEP.out _ HD0.out
  by_cases hsm : mb = sum
  · subst hsm
    simp only [bne_self_eq_false]
    have HRES := Lib.hid (show bodyR ep sq pages mb bytes = imgsR ep sq pages bytes n by rw [HBR.out, if_pos rfl, HLEN.out])
    have H1 := Lib.hid (H0.out.quiet (grown_drew wa none))
    clear HSUM HBR H0
    generalize wa.drew = wb at *
    have x2 := H1.out.hd.cell 2
    simp only [List.getElem?_toArray, List.getElem?_cons_zero, List.getElem?_cons_succ] at x2
    go_wp2_with fail
    go_loopw [8, 27] (fun vo i wr => ∃ j : Nat, j ≤ n ∧ i = .int .i64 j ∧ ImAt w wr g b tb L ep sq A n c mb pages (some ⟨gs, os, none⟩) (256 * n) bytes vo j) (fun _ i _ => n - (Go.RowKit.intOf i).toNat)
    case atStart => exact ⟨0, Nat.zero_le _, rfl, H1.out⟩
    case round =>
      clear H1 HKEEP HD0 hk1 hk3 x2
      obtain ⟨j, hj, rfl, hr⟩ := hrel
      have HR := Lib.hid hr; clear hr
      by_cases hlt : j < n
      · have hjn : (j : Int) < (n : Int) := by omega
        obtain ⟨gp, op, rfl, _, hpc⟩ := HR.out.pg (by omega)
        have hpj := hpc j hlt
        have HPJ := Lib.hid (show pages.getD j 0 = pages.getD j 0 from rfl)
        generalize hpe : pages.getD j 0 = pj at hpj HPJ
        have HPE := Lib.hid hpe
        have hlb := HR.out.lb.cells.2.1
        have hw1 : IntKind.i64.wrap ((j : Int) * 256) = (j : Int) * 256 := IntWalk.i64_in _ (by omega)
        have hw2 : IntKind.i64.wrap ((j : Int) + 1) = (j : Int) + 1 := IntWalk.i64_in _ (by omega)
        have hw3 : IntKind.i64.wrap (((j : Int) + 1) * 256) = ((j : Int) + 1) * 256 := IntWalk.i64_in _ (by omega)
        have hs1 := slice_part gs os (256 * n) cs j (by omega) hmc
        have hs2 := sliceAt_part gs os (256 * n) cs j (by omega) hmc
        clear hpc HPJ hpe
        go_upto_region 8 with fail
        go_cut [9, 10, 11, 12, 13, 14] (fun s9 s10 s11 s12 s13 s14 wx => s9 = .int .i64 j ∧ s10 = .int .i64 pj ∧ GotIm wr wx (imageR (DiskSpec.sec bytes j)) s11 s12 s13 s14)
        case first =>
          have HGI := Lib.hid (fun wx (hg : wr.grownBy wx none) => codec_get_image tb tb (some ⟨gs, os + j * 256, none⟩) 256 (cs - j * 256) (DiskSpec.sec bytes j) wx (HR.out.quiet hg).r (sec_bytes (data_bytes (b := tb) (HR.out.quiet hg).bs (.inl rfl)) (by omega)))
          have HD1 := Lib.hid (grown_drew wr none)
          have HDA := Lib.hid ((World.grownBy_alloc wr (.cells #[.int .i64 0, .int .i64 0, .slice none 0 0] 109) none).trans (grown_drew _ none))
          have HBA := Lib.hid (show Blk (wr.alloc (.cells #[.int .i64 0, .int .i64 0, .slice none 0 0] 109)).drew wr.heap.size 109 #[.int .i64 0, .int .i64 0, .slice none 0 0] from Blk.new wr _ _)
          have HKP := Lib.hid (show ∀ wx, wr.grownBy wx none → wx.cell? ⟨g, 1, none⟩ = some (.pointer (some ⟨tb, 0, none⟩)) from fun wx hg => (HR.out.quiet hg).lb.cells.2.1)
          cases hgi : imageR (DiskSpec.sec bytes j) with
          | none =>
            rw [hgi] at HGI
            have HGIE := Lib.hid hgi
            clear hgi
            go_wp2_with fail
            go_region_held3 (fun wx => wx.cell? ⟨g, 1, none⟩ = some (.pointer (some ⟨tb, 0, none⟩)))
              (first
                | exact HKP.out _ HD1.out
                | exact HKP.out _ HDA.out
                | exact HKP.out _ HG2.out
                | exact HKP.out _ (HG2.out.trans (World.grownBy_alloc _ _ none))
                | exact HKP.out _ (grown_set (grown_set (grown_set HG2.out (Nat.le_refl _) _) (Nat.le_refl _) _) (Nat.le_refl _) _)
                | go_keep)
              (first
                | (go_at_call 196
                   (with_reducible refine (HGI.out _ HD1.out).mono ?_)
                   rintro e w2 ⟨hg2, ⟨_, _, _, _, _, _, ho, _⟩ | ⟨_, rfl⟩⟩
                   case inl => cases ho
                   have HG2 := Lib.hid (HD1.out.trans hg2)
                   have HB2 := Lib.hid (show True from trivial)
                   clear hg2)
                | (go_at_call 196
                   (with_reducible refine (HGI.out _ HDA.out).mono ?_)
                   rintro e w2 ⟨hg2, ⟨_, _, _, _, _, _, ho, _⟩ | ⟨_, rfl⟩⟩
                   case inl => cases ho
                   have HG2 := Lib.hid (HDA.out.trans hg2)
                   have hb2 := HBA.out.grown hg2 (by simp)
                   have HB2 := Lib.hid hb2
                   have y0 := hb2.cell 0; have y1 := hb2.cell 1; have y2 := hb2.cell 2; have z0 := hb2.frozen 0; have z1 := hb2.frozen 1; have z2 := hb2.frozen 2
                   simp only [List.getElem?_toArray, List.getElem?_cons_zero, List.getElem?_cons_succ] at y0 y1 y2
                   clear hg2 hb2))
            all_goals
              go_wp2_with fail
              go_meet
              first
                | exact ⟨rfl, rfl, HG2.out.trans (World.grownBy_alloc _ _ none), _, rfl, HG2.out.size, .inr ⟨HGIE.out, rfl, rfl, rfl, Blk.new _ _ _⟩⟩
                | exact ⟨rfl, rfl, grown_set (grown_set (grown_set HG2.out (Nat.le_refl _) _) (Nat.le_refl _) _) (Nat.le_refl _) _, _, rfl, Nat.le_refl _, .inr ⟨HGIE.out, rfl, rfl, rfl, Blk.set3 HB2.out⟩⟩
          | some p =>
            obtain ⟨e0, s0, n0, k0, b0⟩ := p
            rw [hgi] at HGI
            have HGIE := Lib.hid hgi
            clear hgi
            go_wp2_with fail
            go_region_held3 (fun wx => wx.cell? ⟨g, 1, none⟩ = some (.pointer (some ⟨tb, 0, none⟩)))
              (first
                | exact HKP.out _ HD1.out
                | exact HKP.out _ HDA.out
                | exact HKP.out _ HG2.out
                | exact HKP.out _ (HG2.out.trans (World.grownBy_alloc _ _ none))
                | exact HKP.out _ (grown_set (grown_set (grown_set HG2.out (Nat.le_refl _) _) (Nat.le_refl _) _) (Nat.le_refl _) _)
                | go_keep)
              (first
                | (go_at_call 196
                   (with_reducible refine (HGI.out _ HD1.out).mono ?_)
                   rintro e w2 ⟨hg2, ⟨e1, s1, n1, k1, b1, v1, ho, rfl, hl⟩ | ⟨ho, _⟩⟩
                   case inr => cases ho
                   cases ho
                   have HG2 := Lib.hid (HD1.out.trans hg2)
                   have HBY := Lib.hid (lies_body (P := (· < wr.heap.size)) hl (fun i h1 h2 => Nat.lt_irrefl _ (Nat.lt_of_lt_of_le h2 h1)))
                   obtain ⟨Ab, cb, rfl, _⟩ := hl
                   have HB2 := Lib.hid (show True from trivial)
                   clear hg2)
                | (go_at_call 196
                   (with_reducible refine (HGI.out _ HDA.out).mono ?_)
                   rintro e w2 ⟨hg2, ⟨e1, s1, n1, k1, b1, v1, ho, rfl, hl⟩ | ⟨ho, _⟩⟩
                   case inr => cases ho
                   cases ho
                   have HG2 := Lib.hid (HDA.out.trans hg2)
                   have HBY := Lib.hid (lies_body (P := (· ≤ wr.heap.size)) hl (fun i h1 h2 => by simp at h1; omega))
                   obtain ⟨Ab, cb, rfl, _⟩ := hl
                   have hb2 := HBA.out.grown hg2 (by simp)
                   have HB2 := Lib.hid hb2
                   have y0 := hb2.cell 0; have y1 := hb2.cell 1; have y2 := hb2.cell 2; have z0 := hb2.frozen 0; have z1 := hb2.frozen 1; have z2 := hb2.frozen 2
                   simp only [List.getElem?_toArray, List.getElem?_cons_zero, List.getElem?_cons_succ] at y0 y1 y2
                   clear hg2 hb2))
            all_goals
              go_wp2_with fail
              go_meet
              first
                | exact ⟨rfl, rfl, HG2.out.trans (World.grownBy_alloc _ _ none), _, rfl, HG2.out.size, .inl ⟨_, _, _, _, _, _, _, _, HGIE.out, rfl, rfl, rfl, Blk.new _ _ _, HBY.out.turn (Turn.none_ (World.grownBy_alloc _ _ none))⟩⟩
                | exact ⟨rfl, rfl, grown_set (grown_set (grown_set HG2.out (Nat.le_refl _) _) (Nat.le_refl _) _) (Nat.le_refl _) _, _, rfl, Nat.le_refl _, .inl ⟨_, _, _, _, _, _, _, _, HGIE.out, rfl, rfl, rfl, Blk.set3 HB2.out,
                    (HBY.out.turn (P' := (· ≤ wr.heap.size)) (Turn.of_grown (Lib.grownBy_setB (Lib.grownBy_setB (Lib.grownBy_setB (World.grownBy.refl _ _) 0 _) 1 _) 2 _) (fun q e => by cases e; exact Nat.le_refl _))).weak (fun i _ h => Nat.le_of_lt h)⟩⟩
        case rest =>
          obtain ⟨rfl, rfl, hgr, gq, rfl, hgq, hcase⟩ := hcut
          have HQ := Lib.hid (HR.out.quiet hgr)
          have hqb : Blk wc w.heap.size 175 #[.int .i64 ep, .int .i64 sq, .slice (some ⟨gp, op, none⟩) n c, .int .u32 (mb : Nat)] := HQ.out.hd
          have q0 := hqb.cell 0; have q1 := hqb.cell 1
          simp only [List.getElem?_toArray, List.getElem?_cons_zero, List.getElem?_cons_succ] at q0 q1
          have HGQ := Lib.hid hgq
          clear hgr hqb hgq hs1 hs2 hw1 hw2 hw3 hpj hlb
          rcases hcase with ⟨e0, s0, n0, k0, b0, A0, m0, c0, hir, rfl, rfl, rfl, hbq, hby⟩ | ⟨hir, rfl, rfl, rfl, _⟩
          · have y0 := hbq.cell 0
            simp only [List.getElem?_toArray, List.getElem?_cons_zero] at y0
            by_cases hall : e0 = ep ∧ s0 = sq ∧ n0 = pj
            · obtain ⟨rfl, rfl, rfl⟩ := hall
              have HIR := Lib.hid (imgR_yes hir)
              have y1 := hbq.cell 1; have y2 := hbq.cell 2
              simp only [List.getElem?_toArray, List.getElem?_cons_zero, List.getElem?_cons_succ] at y1 y2
              have HBY := Lib.hid hby
              obtain ⟨V, v1, v2, v3, v4⟩ := HQ.out.im
              have HV1 := Lib.hid v1; have HV2 := Lib.hid v2; have HV3 := Lib.hid v3; have HV4 := Lib.hid v4
              have hszw := HQ.out.hd.lt
              have hszr := HR.out.gr.size
              clear hir hbq hby v1 v2 v3 v4
              go_wp2_with (at_builtin
                           refine wpList_append_own_full _ rfl (.tmp 69) (.tmp 71) _ rfl (w.heap.size + 1) 109 i0 _ 3 40 Tryz.underlying76 hi.out z0.out z1.out z2.out rfl (by omega) _ j _ rfl (HV3.out.alloc _)
                             _ _ 1 1 _ rfl (reads_one_img _ _ _ _) (fun u hu => by simp at hu; rcases hu with rfl | rfl | rfl <;> rfl) (by simp only [maxLen]; omega) (by omega) (by simp; omega) ?_
                           intro v' w' hown' hgr'
                           have HO' := Lib.hid hown'; have HG' := Lib.hid hgr'; clear hown' hgr')
              have HN := Lib.hid (show ImAt w w' g b tb L e0 s0 (some ⟨gp, op, none⟩) n c mb pages (some ⟨gs, os, none⟩) (256 * n) bytes v' (j + 1) from by
                have hal := World.grownBy_alloc wc (.cells #[.int .i64 n0, .int .i64 k0, .slice A0 m0 c0] 109) none
                have hqa := HQ.out.quiet hal
                have hlo : ∀ q, u8.ownBlock = some q → w.heap.size + 1 ≤ q := fun q hq => (HV3.out.base_ q hq).1
                have htb : tb < w.heap.size := hqa.lo.2
                have hgl : g < w.heap.size := hqa.lo.1
                refine ⟨grownBy_new hqa.gr HG'.out.1 (fun q hq => by have := hlo q hq; omega), hqa.lb.grown HG'.out.1 (fun e => by have := hlo _ e.symm; omega), hqa.r.keep HG'.out.1 (fun e => by have := hlo _ e.symm; omega), hqa.hd.grown HG'.out.1 (fun e => by have := hlo _ e.symm; omega), hqa.pg.grown hqa.gr.size HG'.out.1 (fun q hq => by have := hlo q hq; omega), Dsk.Data.turn hqa.bs (Turn.of_grown HG'.out.1 (fun q hq => .inr (by have := hlo q hq; omega))), hqa.lo, V ++ [((n0, k0, b0), .slice A0 m0 c0)], ?_, by rw [List.length_append, HV2.out]; rfl, ?_, ?_⟩
                · rw [List.map_append]
                  exact imgsR_go HV1.out (by rw [HPE.out]; exact HIR.out)
                · rw [imC_snoc]
                  exact HO'.out
                · intro p hp
                  rcases List.mem_append.1 hp with hp | hp
                  · exact ((HV4.out p hp).turn (Turn.none_ hal)).turn (turn_grew2 HG'.out)
                  · simp at hp
                    subst hp
                    have hb : BodyAt wc (fun i => i < w.heap.size ∨ u8.ownBlock = some i) (.slice A0 m0 c0) b0 := HBY.out.weak (fun i hi hh => by
                      rcases hh with hh | hh
                      · omega
                      · obtain ⟨V2, _, _, ho2, _⟩ := HR.out.im
                        exact (ho2.base_ i hh).2)
                    exact (hb.turn (Turn.none_ hal)).turn (turn_grew2 HG'.out))
              clear HO' HG' HV1 HV2 HV3 HV4 HQ HR
              go_wp2_with fail
              go_roundw
              case rel => exact ⟨j + 1, by omega, by go_num, HN.out⟩
              case measure => simp [Go.RowKit.intOf]; omega
            · have HNO := Lib.hid (show imgsR ep sq pages bytes n = none from imgsR_stop (imgR_no hir (by rw [HPE.out]; exact hall)) hlt)
              have HALL := Lib.hid hall
              clear hir hall hby hbq
              have hend : SaidImgs w (bodyR ep sq pages mb bytes) (.returned (.tuple #[.slice none 0 0, .bool false])) wc := ⟨HQ.out.gr, .inr ⟨by rw [HRES.out]; exact HNO.out, rfl⟩⟩
              have HEND := Lib.hid hend; clear hend
              by_cases h1 : e0 = ep
              · by_cases h2 : s0 = sq
                · have h3 : ¬ (n0 = pj) := fun h => HALL.out ⟨h1, h2, h⟩
                  subst h1 h2
                  go_wp2_with fail
                  go_ret2
                  exact HEND.out
                · subst h1
                  go_wp2_with fail
                  go_ret2
                  exact HEND.out
              · go_wp2_with fail
                go_ret2
                exact HEND.out
          · have HNO := Lib.hid (show imgsR ep sq pages bytes n = none from imgsR_stop (imgR_none hir) hlt)
            clear hir
            go_wp2_with fail
            go_ret2
            exact ⟨HQ.out.gr, .inr ⟨by rw [HRES.out]; exact HNO.out, rfl⟩⟩
      · obtain rfl : j = n := by omega
        obtain ⟨V, v1, v2, v3, v4⟩ := HR.out.im
        obtain ⟨Ao, co, rfl, hjc, hcm, _⟩ := v3.shape
        have HI := Lib.hid (imgs_of_own (P := (· < w.heap.size)) v3 v2 (fun i h1 h2 h3 => by omega) (fun p hp => (v4 p hp).weak (fun i _ h => .inl h)))
        have HV1 := Lib.hid v1
        have HVL := Lib.hid (show (V.map (·.1)).length = j from by simpa using v2)
        clear v1 v2 v3 v4
        go_wp2_with fail
        go_ret2
        refine ⟨HR.out.gr, .inl ⟨V.map (·.1), Ao, co, by rw [HRES.out]; exact HV1.out, by rw [HVL.out]; rfl, by rw [HVL.out]; exact hjc, hcm, by rw [HVL.out]; exact HI.out⟩⟩
  · have HRES := Lib.hid (show bodyR ep sq pages sum bytes = none by rw [HBR.out, if_neg hsm])
    have hsI : ¬ ((mb : Int) = (sum : Int)) := by omega
    have HGR := Lib.hid ((H0.out.gr).trans HD0.out)
    go_wp2_with fail
    go_ret2
    exact ⟨HGR.out, .inr ⟨HRES.out, rfl⟩⟩
end Go.Proofs.YteaokeiolgjhaaaGreat.Log
/- find of package log, where no read fails. -/
namespace Go.Proofs.YteaokeiolgjhaaaGreat.Log
open Go.RowKit CrcMath CodecMath Mem Crc Codec DiskSpec Dsk Sup

theorem ret_row3 {P : Program} {fn : Func} {R : Ending → World → Prop} {a : Act} {w : World} {p q u : Tmp} {ty : TypeId} (h : fn.results = #[.cell p ty, .tmp q, .tmp u])
    (g : Nat) (t : TypeId) (cs : Array Value) (d : TypeDesc) (hp : a.tmps.getD p undef = .pointer (some ⟨g, 0, none⟩)) (hg : Blk w g t cs)
    (hu : P.underlying ty = some d) (hd : (match d with | .struct _ | .array _ _ => true | _ => false) = true) (hi : (P.info? ty).map (·.size) = some cs.size) (hdf : a.defers = [])
    (hR : R (.returned (.tuple #[.agg cs, a.tmps.getD q undef, a.tmps.getD u undef])) w) : bodyPost P fn R .ret a w := by
  have hp' : a.tmps[p]?.getD undef = .pointer (some ⟨g, 0, none⟩) := by simpa using hp
  refine bodyPost_ret (v := .tuple #[.agg cs, a.tmps.getD q undef, a.tmps.getD u undef]) ?_ hdf hR
  simp [results, h, hp', asAddr, run_loadVar_row w g t ty cs (0, 0) d hg hu hd hi, Result.andThen]
/-- What find leaves. -/
def SaidFind (w : World) (B b tb g : Nat) (S : St) (own : Nat → Prop) (L : Lg) (e : Ending) (w' : World) : Prop :=
  Quiet w w' B b tb g S own L ∧ ((∃ l A c, findR S L = some l ∧ e = .returned (.tuple #[.agg #[.int .i64 (L.seq : Nat), .slice A l.length c], .bool true, .int .i64 0]) ∧ l.length ≤ c ∧ c ≤ maxLen ∧ Imgs w' (· < w.heap.size) A l.length l) ∨
    (findR S L = none ∧ e = .returned (.tuple #[.agg #[.int .i64 0, .slice none 0 0], .bool false, .int .i64 0])))
/-- Where find stands. -/
structure FAt (w wx : World) (B b tb g : Nat) (S : St) (own : Nat → Prop) (L : Lg) : Prop where
  q : Quiet w wx B b tb g S own L
  r : Ready wx tb
  z : Blk wx w.heap.size 133 #[.int .i64 0, .slice none 0 0]
  o : ∀ i, own i → i < w.heap.size
section
variable {w wx w' : World} {B b tb g : Nat} {S : St} {own : Nat → Prop} {L : Lg}
theorem FAt.quiet (h : FAt w wx B b tb g S own L) (hg : wx.grownBy w' none) : FAt w w' B b tb g S own L :=
  ⟨⟨h.q.1.quiet hg, h.q.2.trans (Turn.none_ hg)⟩, h.r.keep hg (by simp), h.z.grown hg (by simp), h.o⟩
theorem FAt.turn (h : FAt w wx B b tb g S own L) (hq : Quiet wx w' B b tb g S own L) : FAt w w' B b tb g S own L :=
  ⟨⟨hq.1, h.q.2.trans hq.2⟩, Quiet.ready h.q.1 hq h.r, blk_of_block h.z (hq.2.block _ h.z.lt (fun ho => by have := h.o _ ho; omega)), h.o⟩
theorem FAt.blk (h : FAt w wx B b tb g S own L) (hq : Quiet wx w' B b tb g S own L) {q : Nat} {t : TypeId} {cs : Array Value} (hb : Blk wx q t cs) (hge : w.heap.size ≤ q) : Blk w' q t cs :=
  blk_of_block hb (hq.2.block _ hb.lt (fun ho => by have := h.o _ ho; omega))
end
theorem ints_turn {w w' : World} {own : Nat → Prop} {tb n : Nat} {A : Option Addr} {l : List Int} {base : Nat} (h : Ints w tb A n l) (ht : Turn w w' own own) (hlo : ∀ g, A = some ⟨g, 0, none⟩ → base ≤ g) (ho : ∀ i, own i → i < base) (h0 : ∃ g, A = some ⟨g, 0, none⟩) : Ints w' tb A n l := by
  obtain ⟨g0, rfl⟩ := h0
  refine ⟨h.1, h.2.1, fun hn => ?_⟩
  obtain ⟨g, o, e, hlt, hne, hc⟩ := h.2.2 hn
  simp only [Option.some.injEq, Addr.mk.injEq, and_true] at e
  obtain ⟨rfl, rfl⟩ := e
  refine ⟨g0, 0, rfl, Nat.lt_of_lt_of_le hlt ht.size, hne, fun j hj => ?_⟩
  rw [World.cell?_of_block (a := ⟨g0, 0 + j, none⟩) (ht.block g0 hlt (fun h1 => by have := ho _ h1; have := hlo _ rfl; omega))]
  exact hc j hj
theorem FAt.done {w wx : World} {B b tb g : Nat} {S : St} {own : Nat → Prop} {L : Lg} (h : FAt w wx B b tb g S own L) (h0 : LAt w B b tb g S own L) (v0 v1 : Value) :
    Blk ((wx.setCell ⟨w.heap.size, 0, none⟩ v0).setCell ⟨w.heap.size, 1, none⟩ v1) w.heap.size 133 #[v0, v1] ∧ Quiet w ((wx.setCell ⟨w.heap.size, 0, none⟩ v0).setCell ⟨w.heap.size, 1, none⟩ v1) B b tb g S own L :=
  ⟨Blk.set2 h.z, Quiet.far h0 h.q (Lib.grownBy_setB (Lib.grownBy_setB (World.grownBy.refl wx (some w.heap.size)) 0 v0) 1 v1) (fun q e => by cases e; exact Nat.le_refl _)⟩
theorem headR_some {l : List Nat} {ep sq : Int} {pages : List Int} {sum : Nat} (h : headR l = some (ep, sq, pages, sum)) : headW ep sq pages sum = some l := by
  unfold headR at h
  split at h
  · rename_i h1
    simp only [Option.some.injEq, Prod.mk.injEq] at h
    obtain ⟨h2, h3, h4, h5⟩ := h
    rw [h2, h3, h4, h5] at h1
    exact h1
  · cases h
theorem own_ints_at {w : World} {base n b : Nat} {v : Value} {l : List Int} (h : Own w base 3 1 v n (i64s l)) (hl : ∀ x ∈ l, -9223372036854775808 ≤ x ∧ x ≤ 9223372036854775807) (hb : b < base) (h0 : 0 < n) :
    ∃ g cap, v = .slice (some ⟨g, 0, none⟩) n cap ∧ base ≤ g ∧ n ≤ cap ∧ Ints w b (some ⟨g, 0, none⟩) n l := by
  obtain ⟨g, cap, hv, h1, h2, h3, h4, h5⟩ := h.reads h0
  have hlen := h.len
  rw [i64s_length, Nat.mul_one] at hlen
  refine ⟨g, cap, hv, h1, h3, hlen, hl, fun _ => ⟨g, 0, rfl, h2, by omega, fun j hj => ?_⟩⟩
  rw [Nat.zero_add]
  exact h5 _ _ (i64s_at l j (by omega))
set_option maxRecDepth 100000 in
set_option maxHeartbeats 6400000 in
theorem log_find {w : World} {B b tb g : Nat} {S : St} {own : Nat → Prop} {L : Lg} (h : LAt w B b tb g S own L) (hR : Ready w tb) (hf : S.f1 = 0) :
    Calls Tryz.prog 140 #[.pointer (some ⟨g, 0, none⟩)] w (SaidFind w B b tb g S own L) := by
  have hga := World.grownBy_alloc w (.cells #[.int .i64 0, .slice none 0 0] 133) none
  have H0 := Lib.hid (show FAt w (w.alloc (.cells #[.int .i64 0, .slice none 0 0] 133)) B b tb g S own L from
    ⟨⟨h.quiet hga, Turn.none_ hga⟩, hR.keep hga (by simp), Blk.new w _ _, fun i hi => h.s.own_lt hi⟩)
  have hkk := h.k
  have htk := hkk.taken; have hfit := hkk.fit; have htop := h.s.ok.top; have hlo1 := hkk.low; have htl1 := hkk.tail
  have HLB := Lib.hid h.l.lt
  have HTB := Lib.hid (show tb < w.heap.size from by obtain ⟨_, h, _⟩ := hR; exact h.lt)
  have HOK := Lib.hid h.s.ok
  have HSE := Lib.hid (S.now_sec h.s.ok (L.sec 0))
  have HF := Lib.hid hf; have H := Lib.hid h
  clear h hR hga hkk hf
  go_enter Tryz.func140, Tryz.ntmps140
  go_wp2_with fail
  refine (log_read H0.out.q.1 HF.out 0 (by omega)).mono ?_
  rintro e w1 ⟨gs, cap, rfl, hgs, hbs, hq⟩
  have H1 := Lib.hid (H0.out.turn hq)
  have hby := blk_bytes (b := tb) hbs (by have := HTB.out; simp at hgs; omega) HSE.out.2
  rw [HSE.out.1] at hby
  have HBY := Lib.hid hby
  have HGS := Lib.hid hgs
  clear hgs hbs hq hby H0
  obtain ⟨_, c1, c3, _, _, _, c10, _, _⟩ := H1.out.q.1.l.cells
  have HGH := Lib.hid (codec_get_head tb tb (some ⟨gs, 0, none⟩) 256 cap (S.now (L.sec 0)) w1 H1.out.r HBY.out)
  go_wp2_with fail
  cases hh : headR (S.now (L.sec 0)) with
  | none =>
    have HFN := Lib.hid (findR_none hh)
    rw [hh] at HGH
    clear hh
    refine HGH.out.mono ?_
    rintro e w2 ⟨hg2, ⟨_, _, _, _, _, ho, _⟩ | ⟨_, rfl⟩⟩
    case inl => cases ho
    have H2 := Lib.hid ((H1.out.quiet hg2).quiet (World.grownBy_alloc w2 (.cells #[.int .i64 0, .int .i64 0, .slice none 0 0, .int .u32 0] 175) none))
    clear hg2 H1 c1 c3 c10
    go_wp2_with fail
    generalize w2.alloc (.cells #[.int .i64 0, .int .i64 0, .slice none 0 0, .int .u32 0] 175) = w3 at *
    have x0 := H2.out.z.cell 0; have x1 := H2.out.z.cell 1; have f0 := H2.out.z.frozen 0; have f1 := H2.out.z.frozen 1
    simp only [List.getElem?_toArray, List.getElem?_cons_zero, List.getElem?_cons_succ] at x0 x1
    go_quiet (fail)
    have hd := FAt.done (H2.out.quiet (grown_drewN (World.grownBy.refl _ _) nq)) H.out (.int .i64 0) (.slice none 0 0)
    have HD := Lib.hid hd; clear hd
    go_wp2_with fail
    refine ret_row3 rfl w.heap.size 133 _ _ rfl HD.out.1 Tryz.underlying133 rfl (by kernel_rfl) rfl ⟨HD.out.2, .inr ⟨HFN.out, rfl⟩⟩
  | some p =>
    obtain ⟨ep, sq, pages, sum⟩ := p
    have hw := headW_some (headR_some hh)
    obtain ⟨_, _, hp1, hp40, _⟩ := headOk_iff hw.2
    have HH := Lib.hid hh
    rw [hh] at HGH
    clear hh hw
    refine HGH.out.mono ?_
    rintro e w2 ⟨hg2, ⟨e1, s1, p1, m1, v, ho, rfl, hown, hrng, hsm⟩ | ⟨ho, _⟩⟩
    case inr => cases ho
    cases ho
    obtain ⟨n, hn⟩ : ∃ n, pages.length = n := ⟨_, rfl⟩
    rw [hn] at hown hp1 hp40
    have HN := Lib.hid hn
    obtain ⟨gp, cp, rfl, hgp, hcp, hin⟩ := own_ints_at (b := tb) hown hrng (by have := HTB.out; have := H1.out.q.2.size; omega) hp1
    have hga := World.grownBy_alloc w2 (.cells #[.int .i64 ep, .int .i64 sq, .slice (some ⟨gp, 0, none⟩) n cp, .int .u32 (sum : Nat)] 175) none
    have H2 := Lib.hid ((H1.out.quiet hg2).quiet hga)
    have HIN := Lib.hid (ints_keep hin hga (.inl rfl))
    have HGP := Lib.hid (show w.heap.size ≤ gp from Nat.le_trans H1.out.q.2.size hgp)
    have HHB := Lib.hid (Blk.new w2 175 #[.int .i64 ep, .int .i64 sq, .slice (some ⟨gp, 0, none⟩) n cp, .int .u32 (sum : Nat)])
    have HW2 := Lib.hid (show w.heap.size ≤ w2.heap.size from Nat.le_trans H1.out.q.2.size hg2.size)
    have HSM := Lib.hid hsm
    clear hg2 H1 c1 c3 c10 hown hrng hsm hga hin hn hgp HGH
    go_wp2_with fail
    generalize w2.alloc (.cells #[.int .i64 ep, .int .i64 sq, .slice (some ⟨gp, 0, none⟩) n cp, .int .u32 (sum : Nat)] 175) = w3 at *
    generalize w2.heap.size = hb at *
    have x0 := H2.out.z.cell 0; have x1 := H2.out.z.cell 1; have f0 := H2.out.z.frozen 0; have f1 := H2.out.z.frozen 1
    have y0 := HHB.out.cell 0; have y1 := HHB.out.cell 1; have y2 := HHB.out.cell 2; have y3 := HHB.out.cell 3
    simp only [List.getElem?_toArray, List.getElem?_cons_zero, List.getElem?_cons_succ] at x0 x1 y0 y1 y2 y3
    obtain ⟨_, c1, c3, _, _, _, c10, _, _⟩ := H2.out.q.1.l.cells
    have HSI := Lib.hid (fun q => size_i n (w3.drewN q) (by omega))
    have HRO := Lib.hid (fun q => log_room (LBlk.drewN H2.out.q.1.l q) htk (by omega))
    by_cases hc : ep = L.ep ∧ sq = L.seq ∧ 1 + n ≤ L.room
    · have HFY := Lib.hid (findR_yes HH.out (by rw [HN.out]; exact hc))
      obtain ⟨rfl, rfl, h3⟩ := hc
      have h3I : ¬ ((L.room : Int) < 1 + (n : Int)) := by omega
      have h3D : decide ((L.room : Int) < 1 + (n : Int)) = false := by simpa using h3I
      go_quiet (first
        | (go_at_call 142; exact Calls.quiet_of_same (HSI.out _))
        | (go_at_call 108; exact Calls.quiet_of (HRO.out _)))
      have hgd := grown_drewN (World.grownBy.refl w3 none) nq
      have H4 := Lib.hid (H2.out.quiet hgd)
      have HI4 := Lib.hid (ints_keep HIN.out hgd (.inl rfl))
      have HH4 := Lib.hid (HHB.out.grown hgd (by simp))
      clear hgd H2 HIN HHB HSI HRO x0 x1 f0 f1 y0 y1 y2 y3 c1 c3 c10
      generalize w3.drewN nq = w4 at *
      have y2 := HH4.out.cell 2
      simp only [List.getElem?_toArray, List.getElem?_cons_zero, List.getElem?_cons_succ] at y2
      go_wp2_with fail
      refine (log_readimages H4.out.q.1 HF.out n (by omega)).mono ?_
      rintro e w5 ⟨v5, rfl, hown5, hq5⟩
      have H5 := Lib.hid (H4.out.turn hq5)
      have hb5 := H4.out.blk hq5 HH4.out HW2.out
      have HB5 := Lib.hid hb5
      have HI5 := Lib.hid (ints_turn HI4.out hq5.2 (base := w.heap.size) (fun g e => by cases e; exact HGP.out) H4.out.o ⟨_, rfl⟩)
      obtain ⟨g5, c5, rfl, _, _, hc5, hm5, _, hby5⟩ := own_bytes_at (b := tb) hown5 (readsL_lt HOK.out L n) (by have := HTB.out; have := H4.out.q.2.size; omega) (by omega)
      have HIM := Lib.hid (log_images (L.ep : Nat) (L.seq : Nat) (some ⟨gp, 0, none⟩) n cp sum pages (some ⟨g5, 0, none⟩) (256 * n) c5 (readsL S L n) H5.out.q.1.l H5.out.r HI5.out hby5 rfl hp40 hp1 hc5 HSM.out)
      have z0 := hb5.cell 0; have z1 := hb5.cell 1; have z2 := hb5.cell 2; have z3 := hb5.cell 3
      simp only [List.getElem?_toArray, List.getElem?_cons_zero, List.getElem?_cons_succ] at z0 z1 z2 z3
      have HSW := Lib.hid (show w.heap.size ≤ w5.heap.size from H5.out.q.2.size)
      rw [HN.out] at HFY
      clear hb5 hown5 hq5 hby5 hm5 y2 H4 HI4 HH4
      go_wp2_with fail
      refine HIM.out.mono ?_
      rintro e w6 ⟨hg6, ⟨l, A6, c6, hbr, rfl, hlc, hcm, him⟩ | ⟨hbr, rfl⟩⟩
      · have HFL := Lib.hid (HFY.out.trans hbr)
        have H6 := Lib.hid (H5.out.quiet hg6)
        have hb6 := HB5.out.grown hg6 (by simp)
        have z1' := hb6.cell 1
        have x0 := H6.out.z.cell 0; have x1 := H6.out.z.cell 1; have f0 := H6.out.z.frozen 0; have f1 := H6.out.z.frozen 1
        simp only [List.getElem?_toArray, List.getElem?_cons_zero, List.getElem?_cons_succ] at x0 x1 z1'
        have HD := Lib.hid (FAt.done H6.out H.out (.int .i64 (L.seq : Nat)) (.slice A6 l.length c6))
        have HIX := Lib.hid ((him.weak (Q := fun i => i ≤ w.heap.size) (fun i _ hi => by
          have h1 := H5.out.z.lt
          show i < w5.heap.size
          exact Nat.lt_of_le_of_lt hi h1)).turn (P' := fun i => i ≤ w.heap.size) (Turn.of_grown (Lib.grownBy_setB (Lib.grownBy_setB (World.grownBy.refl w6 (some w.heap.size)) 0 (.int .i64 (L.seq : Nat))) 1 (.slice A6 l.length c6)) (fun q e => by cases e; exact Nat.le_refl _)))
        have HLC := Lib.hid hlc; have HCM := Lib.hid hcm
        clear hg6 hb6 hbr him z0 z1 z2 z3 hlc hcm HIM
        go_wp2_with fail
        refine ret_row3 rfl w.heap.size 133 _ _ rfl HD.out.1 Tryz.underlying133 rfl (by kernel_rfl) rfl ⟨HD.out.2, .inl ⟨l, A6, c6, HFL.out, rfl, HLC.out, HCM.out, HIX.out.weak (fun i _ hi => Nat.le_of_lt hi)⟩⟩
      · have HFN := Lib.hid (HFY.out.trans hbr)
        have H6 := Lib.hid (H5.out.quiet hg6)
        have x0 := H6.out.z.cell 0; have x1 := H6.out.z.cell 1; have f0 := H6.out.z.frozen 0; have f1 := H6.out.z.frozen 1
        simp only [List.getElem?_toArray, List.getElem?_cons_zero, List.getElem?_cons_succ] at x0 x1
        have HD := Lib.hid (FAt.done H6.out H.out (.int .i64 0) (.slice none 0 0))
        clear hg6 hbr z0 z1 z2 z3 HIM
        go_wp2_with fail
        refine ret_row3 rfl w.heap.size 133 _ _ rfl HD.out.1 Tryz.underlying133 rfl (by kernel_rfl) rfl ⟨HD.out.2, .inr ⟨HFN.out, rfl⟩⟩
    · have HFN := Lib.hid (findR_no HH.out (by rw [HN.out]; exact hc))
      have HC := Lib.hid hc
      clear hc
      by_cases h1 : ep = L.ep
      · by_cases h2 : sq = L.seq
        · have h3 : ¬ (1 + n ≤ L.room) := fun h => HC.out ⟨h1, h2, h⟩
          subst h1 h2
          have h3I : (L.room : Int) < 1 + (n : Int) := by omega
          have h3D : decide ((L.room : Int) < 1 + (n : Int)) = true := by simpa using h3I
          go_quiet (first
            | (go_at_call 142; exact Calls.quiet_of_same (HSI.out _))
            | (go_at_call 108; exact Calls.quiet_of (HRO.out _)))
          have HD := Lib.hid (FAt.done (H2.out.quiet (grown_drewN (World.grownBy.refl _ _) nq)) H.out (.int .i64 0) (.slice none 0 0))
          go_wp2_with fail
          refine ret_row3 rfl w.heap.size 133 _ _ rfl HD.out.1 Tryz.underlying133 rfl (by kernel_rfl) rfl ⟨HD.out.2, .inr ⟨HFN.out, rfl⟩⟩
        · subst h1
          have hdd : ((sq : Int) != (L.seq : Int)) = true := by simpa using h2
          have hde : (sq == (L.seq : Int)) = false := by simpa using h2
          go_quiet (fail)
          have HD := Lib.hid (FAt.done (H2.out.quiet (grown_drewN (World.grownBy.refl _ _) nq)) H.out (.int .i64 0) (.slice none 0 0))
          go_wp2_with fail
          refine ret_row3 rfl w.heap.size 133 _ _ rfl HD.out.1 Tryz.underlying133 rfl (by kernel_rfl) rfl ⟨HD.out.2, .inr ⟨HFN.out, rfl⟩⟩
      · have hdd : ((ep : Int) != (L.ep : Int)) = true := by simpa using h1
        have hde : (ep == (L.ep : Int)) = false := by simpa using h1
        go_quiet (fail)
        have HD := Lib.hid (FAt.done (H2.out.quiet (grown_drewN (World.grownBy.refl _ _) nq)) H.out (.int .i64 0) (.slice none 0 0))
        go_wp2_with fail
        refine ret_row3 rfl w.heap.size 133 _ _ rfl HD.out.1 Tryz.underlying133 rfl (by kernel_rfl) rfl ⟨HD.out.2, .inr ⟨HFN.out, rfl⟩⟩
end Go.Proofs.YteaokeiolgjhaaaGreat.Log
/- New of package log. -/
namespace Go.Proofs.YteaokeiolgjhaaaGreat.Log
open Go.RowKit CrcMath CodecMath Mem Crc Codec DiskSpec Dsk Sup

/-- A superblock's value. -/
def supA (gn ep pg st ln hd sq : Int) : Value := .agg #[.int .i64 gn, .int .i64 ep, .int .i64 pg, .int .i64 st, .int .i64 ln, .int .i64 hd, .int .i64 sq]
theorem may_log {gn pg : Int} {ep st ln hd sq n : Nat} (h : mayB [gn, (ep : Int), pg, (st : Int), (ln : Int), (hd : Int), (sq : Int)] (n : Nat) = true) : (Lg.new gn ep pg st ln hd sq).ok n ∧ 64 ≤ ln := by
  have hs := mayB_ok h
  have h1 := (superOk_at hs 1 (by simp)).2
  have h6 := (superOk_at hs 6 (by simp)).2
  have hr : roomB [gn, (ep : Int), pg, (st : Int), (ln : Int), (hd : Int), (sq : Int)] (n : Nat) = true := by
    unfold mayB at h
    rw [Bool.and_eq_true] at h
    exact h.2
  simp [roomB] at hr h1 h6
  refine ⟨⟨?_, ?_, ?_, Nat.zero_le _, ?_, ?_⟩, by omega⟩
  · show st + ln ≤ n; omega
  · show 1 ≤ ln; omega
  · show hd < ln; omega
  · show ep ≤ _; omega
  · show sq ≤ _; omega
set_option maxRecDepth 100000 in
set_option maxHeartbeats 800000 in
theorem log_new_nil_d (tv : Value) (gn ep pg st ln hd sq : Int) (w : World) :
    Calls Tryz.prog 98 #[.pointer none, tv, supA gn ep pg st ln hd sq] w fun e w' => e = .returned (.pointer none) ∧ w.grownBy w' none := by
  have HG0 := Lib.hid (World.grownBy_alloc w (.cells #[.int .i64 gn, .int .i64 ep, .int .i64 pg, .int .i64 st, .int .i64 ln, .int .i64 hd, .int .i64 sq] 49) none)
  unfold supA
  go_enter Tryz.func98, Tryz.ntmps98
  go_wp2_with fail
  go_quiet (fail)
  go_wp2
  go_ret
  exact ⟨rfl, grown_drewN HG0.out _⟩
set_option maxRecDepth 100000 in
set_option maxHeartbeats 800000 in
theorem log_new_nil_t (b : Nat) (gn ep pg st ln hd sq : Int) (w : World) :
    Calls Tryz.prog 98 #[.pointer (some ⟨b, 0, none⟩), .pointer none, supA gn ep pg st ln hd sq] w fun e w' => e = .returned (.pointer none) ∧ w.grownBy w' none := by
  have HG0 := Lib.hid (World.grownBy_alloc w (.cells #[.int .i64 gn, .int .i64 ep, .int .i64 pg, .int .i64 st, .int .i64 ln, .int .i64 hd, .int .i64 sq] 49) none)
  unfold supA
  go_enter Tryz.func98, Tryz.ntmps98
  go_wp2_with fail
  go_quiet (fail)
  go_wp2
  go_ret
  exact ⟨rfl, grown_drewN HG0.out _⟩
set_option maxRecDepth 100000 in
set_option maxHeartbeats 3200000 in
theorem log_new {w : World} {B b tb : Nat} {S : St} {own : Nat → Prop} (h : SAt w B b tb S own) (gn pg : Int) (ep st ln hd sq : Nat) (hm : mayB [gn, (ep : Int), pg, (st : Int), (ln : Int), (hd : Int), (sq : Int)] (S.n : Nat) = true) :
    Calls Tryz.prog 98 #[.pointer (some ⟨b, 0, none⟩), .pointer (some ⟨tb, 0, none⟩), supA gn (ep : Nat) pg (st : Nat) (ln : Nat) (hd : Nat) (sq : Nat)] w fun e w' => ∃ g, e = .returned (.pointer (some ⟨g, 0, none⟩)) ∧ w.heap.size ≤ g ∧ LAt w' B b tb g S own (Lg.new gn ep pg st ln hd sq) ∧ w.grownBy w' none := by
  have hok := (may_log hm).1
  have HM := Lib.hid hm; have HOK := Lib.hid hok; have H := Lib.hid h
  have hbk := Blk.new w 49 #[.int .i64 gn, .int .i64 (ep : Nat), .int .i64 pg, .int .i64 (st : Nat), .int .i64 (ln : Nat), .int .i64 (hd : Nat), .int .i64 (sq : Nat)]
  have HG0 := Lib.hid (World.grownBy_alloc w (.cells #[.int .i64 gn, .int .i64 (ep : Nat), .int .i64 pg, .int .i64 (st : Nat), .int .i64 (ln : Nat), .int .i64 (hd : Nat), .int .i64 (sq : Nat)] 49) none)
  have HBK := Lib.hid hbk
  have HS0 := Lib.hid (h.quiet HG0.out)
  clear h hm hok hbk
  unfold supA
  have hck : checkE [gn, (ep : Int), pg, (st : Int), (ln : Int), (hd : Int), (sq : Int)] (S.n : Nat) = 0 := by unfold checkE; rw [HM.out, if_pos rfl]
  have HCK := Lib.hid (fun wx => check_any gn (ep : Nat) pg (st : Nat) (ln : Nat) (hd : Nat) (sq : Nat) (S.n : Nat) wx)
  rw [hck] at HCK
  clear hck
  go_enter Tryz.func98, Tryz.ntmps98
  go_wp2_with fail
  generalize w.alloc (.cells #[.int .i64 gn, .int .i64 (ep : Nat), .int .i64 pg, .int .i64 (st : Nat), .int .i64 (ln : Nat), .int .i64 (hd : Nat), .int .i64 (sq : Nat)] 49) = wa at *
  have hkeep : ∀ wx, wa.grownBy wx none → wx.cell? ⟨w.heap.size, 0, none⟩ = some (.int .i64 gn) ∧ wx.cell? ⟨w.heap.size, 1, none⟩ = some (.int .i64 (ep : Nat)) ∧ wx.cell? ⟨w.heap.size, 2, none⟩ = some (.int .i64 pg) ∧ wx.cell? ⟨w.heap.size, 3, none⟩ = some (.int .i64 (st : Nat)) ∧ wx.cell? ⟨w.heap.size, 4, none⟩ = some (.int .i64 (ln : Nat)) ∧ wx.cell? ⟨w.heap.size, 5, none⟩ = some (.int .i64 (hd : Nat)) ∧ wx.cell? ⟨w.heap.size, 6, none⟩ = some (.int .i64 (sq : Nat)) := by
    intro wx hg
    have hb := HBK.out.grown hg (by simp)
    exact ⟨by rw [hb.cell]; rfl, by rw [hb.cell]; rfl, by rw [hb.cell]; rfl, by rw [hb.cell]; rfl, by rw [hb.cell]; rfl, by rw [hb.cell]; rfl, by rw [hb.cell]; rfl⟩
  have HKEEP := Lib.hid hkeep
  have HD0 := Lib.hid (grown_drew wa none)
  have HSZ := Lib.hid (fun wx (hg : wa.grownBy wx none) => (HS0.out.quiet hg).size)
  generalize hn : ((S.n : Nat) : Int) = nn at HSZ HCK
  clear hkeep
  go_region_held3 (fun wx => wx.cell? ⟨w.heap.size, 0, none⟩ = some (.int .i64 gn) ∧ wx.cell? ⟨w.heap.size, 1, none⟩ = some (.int .i64 (ep : Nat)) ∧ wx.cell? ⟨w.heap.size, 2, none⟩ = some (.int .i64 pg) ∧ wx.cell? ⟨w.heap.size, 3, none⟩ = some (.int .i64 (st : Nat)) ∧ wx.cell? ⟨w.heap.size, 4, none⟩ = some (.int .i64 (ln : Nat)) ∧ wx.cell? ⟨w.heap.size, 5, none⟩ = some (.int .i64 (hd : Nat)) ∧ wx.cell? ⟨w.heap.size, 6, none⟩ = some (.int .i64 (sq : Nat)))
    (first
      | exact HKEEP.out _ HD0.out
      | exact HKEEP.out _ HG1.out)
    (first
      | (go_at_call 42
         refine (HSZ.out _ HD0.out).mono ?_
         rintro e w1 ⟨rfl, rfl⟩)
      | (go_at_call 41
         refine (HCK.out _).mono ?_
         rintro e w2 ⟨rfl, hg⟩
         have HG1 := Lib.hid (HD0.out.trans hg)
         clear hg))
  obtain ⟨x0, x1, x2, x3, x4, x5, x6⟩ := HKEEP.out _ HG1.out
  have HS2 := Lib.hid (HS0.out.quiet HG1.out)
  have HGW := Lib.hid (HG0.out.trans HG1.out)
  go_wp2_with fail
  go_ret
  have hga := World.grownBy_alloc w2 (.cells ((Lg.new gn ep pg st ln hd sq).cs b tb) 207) none
  exact ⟨w2.heap.size, rfl, HGW.out.size, ⟨HS2.out.quiet hga, Blk.new w2 _ _, fun ho => by
    rcases ho with ho | ho
    · have := HS2.out.own_lt ho; omega
    · have := tab_lt HS2.out.t; omega, HOK.out⟩, HGW.out.trans hga⟩
end Go.Proofs.YteaokeiolgjhaaaGreat.Log
/- Open of package log, where no read fails. -/
namespace Go.Proofs.YteaokeiolgjhaaaGreat.Log
open Go.RowKit CrcMath CodecMath Mem Crc Codec DiskSpec Dsk Sup

/-! ### Records in memory -/
def rcC (R : List (Rec × Value)) : List Value := R.flatMap fun p => [.int .i64 p.1.1, p.2]
theorem rcC_snoc (R : List (Rec × Value)) (p : Rec × Value) : rcC (R ++ [p]) = rcC R ++ [.int .i64 p.1.1, p.2] := by simp [rcC]
theorem rcC_at : ∀ (R : List (Rec × Value)) (j : Nat) (p : Rec × Value), R[j]? = some p → (rcC R)[j * 2]? = some (.int .i64 p.1.1) ∧ (rcC R)[j * 2 + 1]? = some p.2
  | [], j, p, h => by simp at h
  | a :: R, 0, p, h => by
    simp at h
    subst h
    exact ⟨rfl, rfl⟩
  | a :: R, j + 1, p, h => by
    have e : rcC (a :: R) = [.int .i64 a.1.1, a.2] ++ rcC R := rfl
    have hl : ([.int .i64 a.1.1, a.2] : List Value).length = 2 := rfl
    obtain ⟨h1, h2⟩ := rcC_at R j p (by simpa using h)
    rw [e]
    refine ⟨?_, ?_⟩
    · rw [List.getElem?_append_right (by rw [hl]; omega), hl, show (j + 1) * 2 - 2 = j * 2 from by omega]; exact h1
    · rw [List.getElem?_append_right (by rw [hl]; omega), hl, show (j + 1) * 2 + 1 - 2 = j * 2 + 1 from by omega]; exact h2
/-- A slice of images, as a value. -/
def ImgsV (w : World) (P : Nat → Prop) (v : Value) (l : List Img) : Prop := ∃ A n c, v = .slice A n c ∧ n ≤ c ∧ Imgs w P A n l
theorem ImgsV.turn {w w' : World} {P P' : Nat → Prop} {v : Value} {l : List Img} (h : ImgsV w P v l) (ht : Turn w w' P P') : ImgsV w' P' v l := by
  obtain ⟨A, n, c, h1, h2, h3⟩ := h
  exact ⟨A, n, c, h1, h2, h3.turn ht⟩
theorem ImgsV.weak {w : World} {P Q : Nat → Prop} {v : Value} {l : List Img} (h : ImgsV w P v l) (hq : ∀ i, i < w.heap.size → Q i → P i) : ImgsV w Q v l := by
  obtain ⟨A, n, c, h1, h2, h3⟩ := h
  exact ⟨A, n, c, h1, h2, h3.weak hq⟩
/-- A slice of records outside P. -/
def Recs (w : World) (P : Nat → Prop) (A : Option Addr) (n : Nat) (l : List Rec) : Prop :=
  ∃ R : List (Rec × Value), R.map (·.1) = l ∧ l.length = n ∧ (0 < n → ∃ g o, A = some ⟨g, o, none⟩ ∧ g < w.heap.size ∧ ¬ P g ∧ ∀ j u, (rcC R)[j]? = some u → w.cell? ⟨g, o + j, none⟩ = some u) ∧ ∀ p ∈ R, ImgsV w P p.2 p.1.2
section
variable {w w' : World} {P P' Q : Nat → Prop} {A : Option Addr} {n : Nat} {l : List Rec}
theorem Recs.len (h : Recs w P A n l) : l.length = n := by obtain ⟨_, _, h, _⟩ := h; exact h
theorem Recs.turn (h : Recs w P A n l) (ht : Turn w w' P P') : Recs w' P' A n l := by
  obtain ⟨R, h1, h2, h3, h4⟩ := h
  refine ⟨R, h1, h2, fun hn => ?_, fun p hp => (h4 p hp).turn ht⟩
  obtain ⟨g, o, e, hlt, hno, hc⟩ := h3 hn
  refine ⟨g, o, e, Nat.lt_of_lt_of_le hlt ht.size, fun h5 => ?_, fun j u hu => ?_⟩
  · rcases ht.fresh g h5 with h6 | h6
    · exact hno h6
    · omega
  · rw [World.cell?_of_block (a := ⟨g, o + j, none⟩) (ht.block g hlt hno)]
    exact hc j u hu
theorem Recs.weak (h : Recs w P A n l) (hq : ∀ i, i < w.heap.size → Q i → P i) : Recs w Q A n l := by
  obtain ⟨R, h1, h2, h3, h4⟩ := h
  refine ⟨R, h1, h2, fun hn => ?_, fun p hp => (h4 p hp).weak hq⟩
  obtain ⟨g, o, e, hlt, hno, hc⟩ := h3 hn
  exact ⟨g, o, e, hlt, fun h5 => hno (hq g hlt h5), hc⟩
theorem Recs.at_ (h : Recs w P A n l) {j : Nat} (hj : j < n) : ∃ g o x B m c, A = some ⟨g, o, none⟩ ∧ g < w.heap.size ∧ ¬ P g ∧ l[j]? = some x ∧ w.cell? ⟨g, o + j * 2, none⟩ = some (.int .i64 x.1) ∧
    w.cell? ⟨g, o + j * 2 + 1, none⟩ = some (.slice B m c) ∧ m ≤ c ∧ Imgs w P B m x.2 := by
  obtain ⟨R, h1, h2, h3, h4⟩ := h
  obtain ⟨g, o, e, hlt, hno, hc⟩ := h3 (by omega)
  have hjR : j < R.length := by rw [← h1] at h2; simp at h2; omega
  obtain ⟨c0, c1⟩ := rcC_at R j R[j] (List.getElem?_eq_getElem hjR)
  obtain ⟨B, m, c, e2, hm, hd⟩ := h4 R[j] (List.getElem_mem hjR)
  refine ⟨g, o, R[j].1, B, m, c, e, hlt, hno, ?_, hc _ _ c0, ?_, hm, hd⟩
  · rw [← h1, List.getElem?_map, List.getElem?_eq_getElem hjR]; rfl
  · rw [← e2]; exact hc _ _ c1
end
theorem recs_of_own {w : World} {base n : Nat} {P : Nat → Prop} {A : Option Addr} {m c : Nat} {R : List (Rec × Value)} (h : Own w base 133 2 (.slice A m c) n (rcC R)) (hR : R.length = n) (hb : ∀ i, base ≤ i → i < w.heap.size → ¬ P i) (hl : ∀ p ∈ R, ImgsV w P p.2 p.1.2) :
    Recs w P A n (R.map (·.1)) := by
  refine ⟨R, rfl, by simpa using hR, fun hn => ?_, hl⟩
  obtain ⟨g, cap, e, hg, hlt, _, _, hc⟩ := h.reads hn
  have hA : A = some ⟨g, 0, none⟩ := by injection e
  exact ⟨g, 0, hA, hlt, hb g hg hlt, fun j u hu => by rw [Nat.zero_add]; exact hc j u hu⟩
theorem record_info : (Tryz.prog.info? 133).map (fun i => (i.zero, i.size, i.bytes)) = some (some (.agg #[.int .i64 0, .slice none 0 0]), 2, 32) := by kernel_rfl
theorem reads_one_rec (w : World) (a0 a1 : Value) : Reads (w.alloc (.cells #[a0, a1] 133)) (w.heap.size + 1) 2 (some ⟨w.heap.size, 0, none⟩) 1 [a0, a1] := by
  refine ⟨rfl, fun _ => ⟨_, rfl, by simp, fun j u hu => ?_⟩⟩
  have hb := (Blk.new w 133 #[a0, a1]).cell j
  rw [addr_add, hb]
  simpa using hu

theorem reads_one_rec' (w : World) (q : Nat) (hq : w.heap.size = q) (a0 a1 : Value) : Reads (w.alloc (.cells #[a0, a1] 133)) (q + 1) 2 (some ⟨q, 0, none⟩) 1 [a0, a1] := by
  subst hq
  exact reads_one_rec w a0 a1
/-! ### Open -/
/-- Where Open stands behind k records. -/
structure OpenAt (w wr : World) (B b tb g base : Nat) (S : St) (own : Nat → Prop) (L0 Lk : Lg) (vr : Value) (k : Nat) : Prop where
  q : LAt wr B b tb g S own Lk
  t : Turn w wr own own
  r : Ready wr tb
  ln : Lk.ln = L0.ln
  kt : k ≤ Lk.taken
  lo : w.heap.size ≤ g ∧ g < base ∧ base ≤ wr.heap.size
  re : ∃ R : List (Rec × Value), Own wr base 133 2 vr k (rcC R) ∧ R.length = k ∧ (∀ p ∈ R, ImgsV wr (fun i => i < w.heap.size ∨ i = g ∨ vr.ownBlock = some i) p.2 p.1.2) ∧
    openR S L0.ln L0 = (R.map (·.1) ++ (openR S (L0.ln - k) Lk).1, (openR S (L0.ln - k) Lk).2)
section
variable {w wr w' : World} {B b tb g base : Nat} {S : St} {own : Nat → Prop} {L0 Lk : Lg} {vr : Value} {k : Nat}
theorem OpenAt.quiet (h : OpenAt w wr B b tb g base S own L0 Lk vr k) (hg : wr.grownBy w' none) : OpenAt w w' B b tb g base S own L0 Lk vr k := by
  obtain ⟨R, h1, h2, h3, h4⟩ := h.re
  exact ⟨h.q.quiet hg, h.t.trans (Turn.none_ hg), h.r.keep hg (by simp), h.ln, h.kt, ⟨h.lo.1, h.lo.2.1, Nat.le_trans h.lo.2.2 hg.size⟩, R, h1.keep hg (fun _ _ => by simp), h2, fun p hp => (h3 p hp).turn (Turn.none_ hg), h4⟩
theorem OpenAt.turn (h : OpenAt w wr B b tb g base S own L0 Lk vr k) (ho : ∀ i, own i → i < w.heap.size) (hq : Quiet wr w' B b tb g S own Lk) : OpenAt w w' B b tb g base S own L0 Lk vr k := by
  obtain ⟨R, h1, h2, h3, h4⟩ := h.re
  have hlo := h.lo
  refine ⟨hq.1, h.t.trans hq.2, Quiet.ready h.q hq h.r, h.ln, h.kt, ⟨h.lo.1, h.lo.2.1, Nat.le_trans h.lo.2.2 hq.2.size⟩, R, own_of_block h1 (fun q hv => hq.2.block q (h1.base_ q hv).2 (fun hi => by have := ho _ hi; have := (h1.base_ q hv).1; omega)), h2, fun p hp => (h3 p hp).turn ?_, h4⟩
  exact ⟨hq.2.os, hq.2.tape, hq.2.output, hq.2.size, fun i hi hn => hq.2.block i hi (fun h5 => hn (.inl (ho _ h5))), fun i hi => .inl hi⟩
/-- What Open leaves. -/
def Opened5 (w : World) (B b tb : Nat) (S : St) (own : Nat → Prop) (L0 : Lg) (e : Ending) (w' : World) : Prop :=
  ∃ g A n c, e = .returned (.tuple #[.pointer (some ⟨g, 0, none⟩), .slice A n c, .int .i64 0]) ∧ n ≤ c ∧ w.heap.size ≤ g ∧ LAt w' B b tb g S own (openR S L0.ln L0).2 ∧ Ready w' tb ∧ Recs w' (fun i => i < w.heap.size ∨ i = g) A n (openR S L0.ln L0).1 ∧ Turn w w' own own
theorem OpenAt.stop (h : OpenAt w wr B b tb g base S own L0 Lk vr k) (he : openR S (L0.ln - k) Lk = ([], Lk)) : Opened5 w B b tb S own L0 (.returned (.tuple #[.pointer (some ⟨g, 0, none⟩), vr, .int .i64 0])) wr := by
  obtain ⟨R, h1, h2, h3, h4⟩ := h.re
  obtain ⟨A, c, rfl, hc, _, _⟩ := h1.shape
  have hlo := h.lo
  rw [he] at h4
  refine ⟨g, A, k, c, rfl, hc, h.lo.1, by rw [h4]; exact h.q, h.r, ?_, h.t⟩
  rw [h4, List.append_nil]
  refine recs_of_own h1 h2 (fun i hb _ hi => by omega) (fun p hp => (h3 p hp).weak (fun i _ hi => ?_))
  rcases hi with hi | hi
  · exact .inl hi
  · exact .inr (.inl hi)
theorem OpenAt.next {w3 w5 w6 : World} (h : OpenAt w wr B b tb g base S own L0 Lk vr k) (ho : ∀ i, own i → i < w.heap.size) (htb : tb < w.heap.size) {R : List (Rec × Value)} (r1 : Own wr base 133 2 vr k (rcC R)) (r2 : R.length = k)
    (r3 : ∀ p ∈ R, ImgsV wr (fun i => i < w.heap.size ∨ i = g ∨ vr.ownBlock = some i) p.2 p.1.2) (r4 : openR S L0.ln L0 = (R.map (·.1) ++ (openR S (L0.ln - k) Lk).1, (openR S (L0.ln - k) Lk).2)) {l : List Img} {A : Option Addr} {c : Nat} (hlc : l.length ≤ c)
    (him : Imgs wr (fun i => i < w.heap.size ∨ i = g ∨ vr.ownBlock = some i) A l.length l) (hr0 : Lk.room ≠ 0) (hfr : findR S Lk = some l) (h3 : wr.grownBy w3 none) {v' : Value}
    (hown : Own w5 base 133 2 v' (k + 1) (rcC R ++ [.int .i64 (Lk.seq : Nat), .slice A l.length c])) (hgr : Grew w3 w5 vr v')
    (hl6 : LBlk w6 g (Lk.pass (1 + l.length)) b tb) (hg6 : w5.grownBy w6 (some g)) (hsq : Lk.seq ≤ 1099511627775) : OpenAt w w6 B b tb g base S own L0 (Lk.pass (1 + l.length)) v' (k + 1) := by
  have hlo := h.lo
  have hvb : ∀ q, vr.ownBlock = some q → base ≤ q := fun q hq => (r1.base_ q hq).1
  have hrm := findR_room hfr
  have hkt := h.kt
  have hroom : Lk.room = Lk.ln - Lk.taken := by
    unfold Lg.room at hr0 ⊢
    split
    · rename_i hb; rw [if_pos hb] at hr0; exact absurd rfl hr0
    · rfl
  have hq3 := h.q.quiet h3
  have hq5 := hq3.far hgr.1 (fun q e ho2 => by
    have h1 := hvb q e
    rcases ho2 with (h2 | h2) | h2
    · have := ho _ h2; omega
    · omega
    · omega)
  have hq6 := hq5.log hg6 hl6 (hq5.k.pass hrm hsq)
  have ht5 : Turn w w5 own own := ⟨hgr.1.os.trans (h3.os.trans h.t.os), hgr.1.tape.trans (h3.tape.trans h.t.tape), hgr.1.output.trans (h3.output.trans h.t.output), Nat.le_trans h.t.size (Nat.le_trans h3.size hgr.1.size),
    fun i hi hno => ((hgr.1.block i (Nat.lt_of_lt_of_le hi (Nat.le_trans h.t.size h3.size)) (fun e => by have := hvb i e.symm; omega)).trans (h3.block i (Nat.lt_of_lt_of_le hi h.t.size) (by simp))).trans (h.t.block i hi hno), fun i hi => .inl hi⟩
  have hP : Turn wr w6 (fun i => (i < w.heap.size ∨ i = g) ∨ vr.ownBlock = some i) (fun i => (i < w.heap.size ∨ i = g) ∨ v'.ownBlock = some i) :=
    ((Turn.none_ h3).trans (turn_grew2 hgr)).trans (Turn.of_grown hg6 (fun q e => by cases e; exact .inl (.inr rfl)))
  have hw : ∀ {v : Value} {y : List Img}, ImgsV wr (fun i => i < w.heap.size ∨ i = g ∨ vr.ownBlock = some i) v y → ImgsV w6 (fun i => i < w.heap.size ∨ i = g ∨ v'.ownBlock = some i) v y := fun {v y} hv =>
    ((hv.weak (Q := fun i => (i < w.heap.size ∨ i = g) ∨ vr.ownBlock = some i) (fun i _ hi => by rcases hi with (hi | hi) | hi; exact .inl hi; exact .inr (.inl hi); exact .inr (.inr hi))).turn hP).weak (fun i _ hi => by rcases hi with hi | hi | hi; exact .inl (.inl hi); exact .inl (.inr hi); exact .inr hi)
  refine ⟨hq6, turn_later ht5 hg6 hlo.1, ?_, h.ln, ?_, ⟨hlo.1, hlo.2.1, Nat.le_trans hlo.2.2 (Nat.le_trans h3.size (Nat.le_trans hgr.1.size hg6.size))⟩, R ++ [(((Lk.seq : Int), l), .slice A l.length c)], ?_, by rw [List.length_append, r2]; rfl, ?_, ?_⟩
  · exact ((h.r.keep h3 (by simp)).keep hgr.1 (fun e => by have := hvb _ e.symm; omega)).keep hg6 (by simp; omega)
  · show k + 1 ≤ Lk.taken + (1 + l.length)
    omega
  · rw [rcC_snoc]
    exact hown.keep hg6 (fun q e1 e2 => by
      cases e2
      have := (hown.base_ g e1).1
      omega)
  · intro p hp
    rcases List.mem_append.1 hp with hp | hp
    · exact hw (r3 p hp)
    · simp at hp
      subst hp
      exact hw ⟨A, l.length, c, rfl, hlc, him⟩
  · have hln := h.ln
    rw [r4, show L0.ln - k = (L0.ln - (k + 1)) + 1 from by omega, openR_go hr0 hfr, List.map_append]
    simp
end
set_option maxRecDepth 100000 in
set_option maxHeartbeats 3200000 in
theorem log_open {w : World} {B b tb : Nat} {S : St} {own : Nat → Prop} (h : SAt w B b tb S own) (hR : Ready w tb) (hf : S.f1 = 0) (gn pg : Int) (ep st ln hd sq : Nat) (hm : mayB [gn, (ep : Int), pg, (st : Int), (ln : Int), (hd : Int), (sq : Int)] (S.n : Nat) = true) (hsq : sq ≤ 1099511000000) :
    Calls Tryz.prog 94 #[.pointer (some ⟨b, 0, none⟩), .pointer (some ⟨tb, 0, none⟩), supA gn (ep : Nat) pg (st : Nat) (ln : Nat) (hd : Nat) (sq : Nat)] w (Opened5 w B b tb S own (Lg.new gn ep pg st ln hd sq)) := by
  obtain ⟨i0, hi0, hz0, hz1, hz2⟩ := info_parts record_info
  have hi := Lib.hid hi0; have z0 := Lib.hid hz0; have z1 := Lib.hid hz1; have z2 := Lib.hid hz2
  have hga := World.grownBy_alloc w (.cells #[.int .i64 gn, .int .i64 (ep : Nat), .int .i64 pg, .int .i64 (st : Nat), .int .i64 (ln : Nat), .int .i64 (hd : Nat), .int .i64 (sq : Nat)] 49) none
  have hnew := log_new (h.quiet hga) gn pg ep st ln hd sq hm
  unfold supA at hnew
  have HNEW := Lib.hid hnew
  have HG0 := Lib.hid hga
  have HR0 := Lib.hid (hR.keep hga (by simp))
  have HO := Lib.hid (fun i (hi : own i) => h.own_lt hi)
  have HTB := Lib.hid (show tb < w.heap.size from by obtain ⟨_, h, _⟩ := hR; exact h.lt)
  have HF := Lib.hid hf
  have hok := (may_log hm).1
  have HOK := Lib.hid hok
  have HTOP := Lib.hid h.ok.top
  have hb := Blk.new w 49 #[.int .i64 gn, .int .i64 (ep : Nat), .int .i64 pg, .int .i64 (st : Nat), .int .i64 (ln : Nat), .int .i64 (hd : Nat), .int .i64 (sq : Nat)]
  have x0 := hb.cell 0; have x1 := hb.cell 1; have x2 := hb.cell 2; have x3 := hb.cell 3; have x4 := hb.cell 4; have x5 := hb.cell 5; have x6 := hb.cell 6
  simp only [List.getElem?_toArray, List.getElem?_cons_zero, List.getElem?_cons_succ] at x0 x1 x2 x3 x4 x5 x6
  clear h hR hf hm hga hnew hok hb hi0 hz0 hz1 hz2
  unfold supA
  go_enter Tryz.func94, Tryz.ntmps94
  go_wp2_with fail
  refine HNEW.out.mono ?_
  rintro e w1 ⟨g, rfl, hge, hla, hg1⟩
  generalize hL0 : Lg.new gn ep pg st ln hd sq = L0 at *
  have HL0 := Lib.hid hL0; clear hL0
  have H1 := Lib.hid (show OpenAt w w1 B b tb g w1.heap.size S own L0 L0 (.slice none 0 0) 0 from
    ⟨hla, Turn.none_ (HG0.out.trans hg1), HR0.out.keep hg1 (by simp), rfl, Nat.zero_le _, ⟨Nat.le_trans HG0.out.size hge, hla.l.lt, Nat.le_refl _⟩, [], Own.nil _ _ _ _, rfl, by simp, by simp⟩)
  clear hge hla hg1 HNEW HR0 HG0 x0 x1 x2 x3 x4 x5 x6
  generalize hbs : w1.heap.size = base at *
  clear hbs
  go_wp2_with fail
  go_loopw [10] (fun v wr => ∃ (k : Nat) (Lk : Lg), Lk.seq = L0.seq + k ∧ OpenAt w wr B b tb g base S own L0 Lk v k) (fun v _ => match v with | .slice _ n _ => L0.ln - n | _ => 0)
  case atStart => exact ⟨0, L0, rfl, H1.out⟩
  case round =>
    clear H1
    obtain ⟨k, Lk, hks, hoa⟩ := hrel
    have HA := Lib.hid hoa
    have hkk := hoa.q.k
    have htk := hkk.taken; have hfit := hkk.fit; have hkt := hoa.kt; have hln := hoa.ln
    have htop := HTOP.out
    have HKS := Lib.hid hks
    clear hoa hkk hks
    obtain ⟨R, r1, r2, r3, r4⟩ := HA.out.re
    obtain ⟨A0, c0, rfl, _, _, _⟩ := r1.shape
    have HLN := Lib.hid hln; clear hln r1 r2 r3 r4
    go_wp2_with fail
    refine (room_grown HA.out.q.l htk (by omega)).mono ?_
    rintro e w2 ⟨rfl, hg2⟩
    have HA2 := Lib.hid (HA.out.quiet hg2)
    clear hg2 HA
    by_cases h0 : Lk.room = 0
    · have h0I : ¬ ((0 : Int) < (Lk.room : Int)) := by omega
      have HE := Lib.hid (HA2.out.stop (openR_full h0))
      go_wp2_with fail
      go_ret3
      exact HE.out
    · have h0I : (0 : Int) < (Lk.room : Int) := by omega
      go_wp2_with fail
      refine (log_find HA2.out.q HA2.out.r HF.out).mono ?_
      rintro e w3 ⟨hq3, ⟨l, A, c, hfr, rfl, hlc, hcm, him⟩ | ⟨hfr, rfl⟩⟩
      · have hga := World.grownBy_alloc w3 (.cells #[.int .i64 (Lk.seq : Nat), .slice A l.length c] 133) none
        have HA3 := Lib.hid ((HA2.out.turn HO.out hq3).quiet hga)
        have hlt2 := HA2.out.lo
        have HNE := Lib.hid (show some w3.heap.size ≠ (Value.slice A0 k c0).ownBlock from fun e => by
          obtain ⟨R2, q1, _⟩ := (HA2.out.turn HO.out hq3).re
          have := (q1.base_ _ e.symm).2
          omega)
        obtain ⟨R, r1, r2, r3, r4⟩ := HA3.out.re
        have HIM := Lib.hid ((him.weak (Q := fun i => i < w.heap.size ∨ i = g ∨ (Value.slice A0 k c0).ownBlock = some i) (fun i _ hi => by
          rcases hi with hi | hi | hi
          · exact Nat.lt_of_lt_of_le hi HA2.out.t.size
          · show i < w2.heap.size; omega
          · obtain ⟨R2, q1, _⟩ := HA2.out.re
            exact (q1.base_ i hi).2)).turn (Turn.none_ (own := fun i => i < w.heap.size ∨ i = g ∨ (Value.slice A0 k c0).ownBlock = some i) hga))
        have HB3 := Lib.hid (Blk.new w3 133 #[.int .i64 (Lk.seq : Nat), .slice A l.length c])
        have HR1 := Lib.hid r1; have HR2 := Lib.hid r2; have HR3 := Lib.hid r3; have HR4 := Lib.hid r4; have HFR := Lib.hid hfr; have HLC := Lib.hid hlc
        have hrm := findR_room hfr
        have hrl : Lk.room + Lk.taken ≤ Lk.ln := by unfold Lg.room; split <;> omega
        have hkl : k < L0.ln := by have := HLN.out; omega
        clear hq3 hfr hlc hcm him hga r1 r2 r3 r4
        have HSZ := Lib.hid (show base ≤ w3.heap.size + 1 from by have := HA3.out.lo.2.2; simpa using this)
        go_wp2_with (at_builtin
                     refine wpList_append_own_full _ rfl (.tmp 34) (.tmp 36) _ rfl base 133 i0 _ 2 32 Tryz.underlying129 hi.out z0.out z1.out z2.out rfl (by omega) _ k _ rfl (HR1.out.alloc _)
                       _ _ 1 1 _ rfl (reads_one_rec' _ (w3.heap.size + 1) (World.size_alloc _ _) _ _) (fun u hu => by simp at hu; rcases hu with rfl | rfl <;> rfl) (by simp only [maxLen]; omega) (by omega) (by have := HSZ.out; simp; omega) ?_
                     intro v' w5 hown' hgr'
                     have HO5 := Lib.hid hown'; have HG5 := Lib.hid hgr'
                     have y1 := ((HB3.out.alloc _).grown hgr'.1 HNE.out).cell 1
                     simp only [List.getElem?_toArray, List.getElem?_cons_zero, List.getElem?_cons_succ] at y1
                     clear hown' hgr')
        have hal := World.grownBy_alloc (w3.alloc (.cells #[.int .i64 (Lk.seq : Nat), .slice A l.length c] 133)) (.cells #[.int .i64 (Lk.seq : Nat), .slice A l.length c] 133) none
        have HAL := Lib.hid hal
        have hl5 := (HA3.out.quiet hal).q.far HG5.out.1 (fun q e ho2 => by
          have h1 := (HR1.out.base_ q e).1
          rcases ho2 with (h2 | h2) | h2
          · have := HO.out _ h2; omega
          · have := HTB.out; omega
          · omega)
        have HL5 := Lib.hid hl5
        have hlen : l.length ≤ 1099511627776 := by omega
        have hseq : Lk.seq ≤ 1099511627775 := by
          have h1 := HKS.out
          have h2 : L0.seq = sq := by rw [← HL0.out]; rfl
          omega
        have HSQ := Lib.hid hseq
        clear hal hl5
        refine (size_any l.length _ hlen).mono ?_
        rintro e w6 ⟨rfl, rfl⟩
        go_wp2_with fail
        refine (log_pass HL5.out.l (1 + l.length) (by omega) (by omega) (by have := HL5.out.k.tail; omega) (by omega) (by omega)).mono ?_
        rintro e w7 ⟨rfl, hl7, hg7⟩
        have HN := Lib.hid (HA3.out.next HO.out HTB.out HR1.out HR2.out HR3.out HR4.out HLC.out HIM.out h0 HFR.out HAL.out HO5.out HG5.out hl7 hg7 HSQ.out)
        have HKN := Lib.hid (show (Lk.pass (1 + l.length)).seq = L0.seq + (k + 1) from by show Lk.seq + 1 = _; have := HKS.out; omega)
        clear hl7 hg7 HL5 y1 HO5 HG5 HAL HR1 HR3 HIM HB3
        obtain ⟨R9, q9, _⟩ := HN.out.re
        obtain ⟨A5, c5, rfl, _, _, _⟩ := q9.shape
        go_wp2_with fail
        go_roundw
        case rel => exact ⟨k + 1, _, HKN.out, HN.out⟩
        case measure => simp; omega
      · have HA3 := Lib.hid ((HA2.out.turn HO.out hq3).quiet (World.grownBy_alloc w3 (.cells #[.int .i64 0, .slice none 0 0] 133) none))
        have HE := Lib.hid (HA3.out.stop (openR_end hfr))
        clear hq3 hfr HA2
        go_wp2_with fail
        go_ret3
        exact HE.out
end Go.Proofs.YteaokeiolgjhaaaGreat.Log
/- The images that a step of the laws appends. -/
namespace Go.Proofs.YteaokeiolgjhaaaGreat.Log
open Go.RowKit CrcMath CodecMath Mem Crc Codec DiskSpec Dsk Sup

/-- The byte that the body of image i is full of. -/
def fillB (fill : Int) (i : Nat) : Nat := ((fill + i) % 256).toNat
def imagesOf (pages : List Int) (page fill : Int) : List Img := (List.range pages.length).map fun i => (pages.getD i 0, page, List.replicate 240 (fillB fill i))
theorem imagesOf_len (pages : List Int) (page fill : Int) : (imagesOf pages page fill).length = pages.length := by simp [imagesOf]
theorem imagesOf_at (pages : List Int) (page fill : Int) {j : Nat} (hj : j < pages.length) : (imagesOf pages page fill)[j]? = some (pages.getD j 0, page, List.replicate 240 (fillB fill j)) := by simp [imagesOf, hj]
theorem fillB_lt (fill : Int) (i : Nat) : fillB fill i < 256 := by unfold fillB; omega
theorem rep_snoc (k x : Nat) : List.replicate (k + 1) x = List.replicate k x ++ [x] := List.replicate_succ'
theorem turn_grew {w w' : World} {v v' : Value} {R : Nat → Prop} (h : Grew w w' v v') : Turn w w' (fun i => R i ∨ v.ownBlock = some i) (fun i => R i ∨ v'.ownBlock = some i) :=
  ⟨h.1.os, h.1.tape, h.1.output, h.1.size, fun i hi hn => h.1.block i hi (fun e => hn (.inr e.symm)), fun i hi => by
    rcases hi with hi | hi
    · exact .inl (.inl hi)
    · rcases h.2 i hi with h1 | h1
      · exact .inl (.inr h1)
      · exact .inr h1⟩
/-- Whole numbers that were there in w, read in wr. -/
def PgAt (w wr : World) (A : Option Addr) (n : Nat) (l : List Int) : Prop := 0 < n → ∃ g o, A = some ⟨g, o, none⟩ ∧ g < w.heap.size ∧ ∀ j, j < n → wr.cell? ⟨g, o + j, none⟩ = some (.int .i64 (l.getD j 0))
theorem PgAt.grown {w wr w' : World} {A : Option Addr} {n : Nat} {l : List Int} (h : PgAt w wr A n l) (hw : w.heap.size ≤ wr.heap.size) {row : Option Nat} (hg : wr.grownBy w' row) (hr : ∀ q, row = some q → w.heap.size ≤ q) : PgAt w w' A n l := by
  intro h0
  obtain ⟨g, o, e, hlt, hc⟩ := h h0
  refine ⟨g, o, e, hlt, fun j hj => ?_⟩
  rw [World.cell?_of_block (a := ⟨g, o + j, none⟩) (hg.block g (by omega) (fun e2 => by have := hr g e2.symm; omega))]
  exact hc j hj
end Go.Proofs.YteaokeiolgjhaaaGreat.Log
/- Two lists of records that are the same. -/
namespace Go.Proofs.YteaokeiolgjhaaaGreat.Log
open Go.RowKit CrcMath CodecMath Mem Crc Codec DiskSpec Dsk Sup

theorem imgs_small {w : World} {P : Nat → Prop} {A : Option Addr} {n : Nat} {l : List Img} (h : Imgs w P A n l) {j : Nat} (hj : j < n) : ∃ g o x B m c, A = some ⟨g, o, none⟩ ∧ l[j]? = some x ∧ w.cell? ⟨g, o + j * 3, none⟩ = some (.int .i64 x.1) ∧ w.cell? ⟨g, o + j * 3 + 1, none⟩ = some (.int .i64 x.2.1) ∧
    w.cell? ⟨g, o + j * 3 + 2, none⟩ = some (.slice B m c) ∧ Dsk.Data w P B m x.2.2 := by
  obtain ⟨g, o, x, B, m, c, h1, _, _, h2, h3, h4, h5, _, h6⟩ := h.at_ hj
  exact ⟨g, o, x, B, m, c, h1, h2, h3, h4, h5, h6⟩
theorem data_any {w : World} {P : Nat → Prop} {A : Option Addr} {n : Nat} {l : List Nat} (h : Dsk.Data w P A n l) : Bytes w w.heap.size A n l := by
  refine ⟨h.1, h.2.1, fun hn => ?_⟩
  obtain ⟨g, o, e, hlt, _, hc⟩ := h.2.2 hn
  exact ⟨g, o, e, hlt, by omega, hc⟩
/-- Small records: what their slices' lengths may be. -/
def Small (l : List Rec) : Prop := ∀ x ∈ l, x.2.length ≤ 1099511627776 ∧ ∀ y ∈ x.2, y.2.2.length ≤ 1099511627776
end Go.Proofs.YteaokeiolgjhaaaGreat.Log
/- The laws' test of a known record; images that may be written. -/
namespace Go.Proofs.YteaokeiolgjhaaaGreat.Log
open Go.RowKit CrcMath CodecMath Mem Crc Codec DiskSpec Dsk Sup

theorem mayW_mk : ∀ {l : List Img} {seen : List Int}, (∀ x ∈ l, imgOk x = true) → (nos l).Nodup → (∀ x ∈ l, x.1 ∉ seen) → mayW seen l = true
  | [], _, _, _, _ => rfl
  | x :: r, seen, h1, h2, h3 => by
    have hn : (x.1 :: nos r).Nodup := h2
    rw [List.nodup_cons] at hn
    have h4 : mayW (x.1 :: seen) r = true := mayW_mk (fun y hy => h1 y (List.mem_cons_of_mem _ hy)) hn.2 (fun y hy hm => by
      rcases List.mem_cons.1 hm with hm | hm
      · exact hn.1 (by rw [← hm]; exact List.mem_map.2 ⟨y, hy, rfl⟩)
      · exact h3 y (List.mem_cons_of_mem _ hy) hm)
    have h5 : seen.contains x.1 = false := by
      have := h3 x (List.mem_cons_self ..)
      simpa using this
    rw [mayW, h1 x (List.mem_cons_self ..), h5, h4]
    rfl
theorem nos_images (pages : List Int) (page fill : Int) : nos (imagesOf pages page fill) = pages := by
  apply List.ext_getElem (by simp [nos, imagesOf])
  intro i h1 h2
  simp [nos, imagesOf, h2]
theorem images_may {pages : List Int} {page fill : Int} (hp : 1 ≤ page ∧ page ≤ 5) (h1 : ∀ p ∈ pages, 0 ≤ p ∧ p ≤ 1023) (h2 : pages.Nodup) : mayW [] (imagesOf pages page fill) = true := by
  refine mayW_mk (fun x hx => ?_) (by rw [nos_images]; exact h2) (fun _ _ h => by cases h)
  obtain ⟨i, hi, rfl⟩ := List.mem_map.1 hx
  have hi' : i < pages.length := List.mem_range.1 hi
  exact pageOk_mk ⟨hp, h1 _ (by rw [List.getD_eq_getElem?_getD, List.getElem?_eq_getElem hi']; exact List.getElem_mem hi'), List.length_replicate, fun y hy => by rw [List.eq_of_mem_replicate hy]; exact fillB_lt _ _⟩
theorem new_sat {w w2 : World} {b bd bm n : Nat} {f : Nat → Option Value} {own : Nat → Prop} {tb : Nat} (hT : Tab w tb) (hl : Lay w2 w.heap.size b bd bm f (St.new n) own) (hg : w.grownBy w2 none) : SAt w2 w.heap.size b tb (St.new n) own :=
  ⟨⟨bd, bm, f, hl⟩, tab_keep hT hg (by simp), fun ho => by have := hl.low _ ho; have := tab_lt hT; omega, hg.size⟩
theorem new_now (n p : Nat) : (St.new n).now p = DiskSpec.zeros := rfl
/-- What is turned is the table, or new. -/
theorem turn_base {w wx w' : World} {P P' : Nat → Prop} {tb : Nat} (h : Turn wx w' P P') (hg : w.grownBy wx (some tb)) (hP : ∀ i, P i → i = tb ∨ w.heap.size ≤ i) : w.grownBy w' (some tb) :=
  ⟨h.os.trans hg.os, h.tape.trans hg.tape, h.output.trans hg.output, Nat.le_trans hg.size h.size, fun i hi hne => (h.block i (Nat.lt_of_lt_of_le hi hg.size) (fun hp => by
    rcases hP i hp with e | e
    · exact hne (by rw [e])
    · omega)).trans (hg.block i hi hne)⟩
set_option maxRecDepth 100000 in
set_option maxHeartbeats 800000 in
theorem log_open_nil (tv : Value) (gn ep pg st ln hd sq : Int) (w : World) :
    Calls Tryz.prog 94 #[.pointer none, tv, supA gn ep pg st ln hd sq] w fun e w' => e = .returned (.tuple #[.pointer none, .slice none 0 0, .int .i64 1]) ∧ w.grownBy w' none := by
  have hb := Blk.new w 49 #[.int .i64 gn, .int .i64 ep, .int .i64 pg, .int .i64 st, .int .i64 ln, .int .i64 hd, .int .i64 sq]
  have x0 := hb.cell 0; have x1 := hb.cell 1; have x2 := hb.cell 2; have x3 := hb.cell 3; have x4 := hb.cell 4; have x5 := hb.cell 5; have x6 := hb.cell 6
  simp only [List.getElem?_toArray, List.getElem?_cons_zero, List.getElem?_cons_succ] at x0 x1 x2 x3 x4 x5 x6
  have HG0 := Lib.hid (World.grownBy_alloc w (.cells #[.int .i64 gn, .int .i64 ep, .int .i64 pg, .int .i64 st, .int .i64 ln, .int .i64 hd, .int .i64 sq] 49) none)
  have hnew := fun wx => log_new_nil_d tv gn ep pg st ln hd sq wx
  unfold supA at hnew
  have HNEW := Lib.hid hnew
  clear hb hnew
  unfold supA
  go_enter Tryz.func94, Tryz.ntmps94
  go_wp2_with fail
  refine (HNEW.out _).mono ?_
  rintro e w1 ⟨rfl, hg⟩
  have HG1 := Lib.hid (HG0.out.trans hg); clear hg
  go_wp2_with fail
  go_ret3
  exact ⟨rfl, HG1.out⟩
end Go.Proofs.YteaokeiolgjhaaaGreat.Log
