/- The walk over the law RelogCrash. -/
import Derived.Test.YteaokeiolgjhaaaGreatPStoBools
import Derived.Deep.DeepCutAuto
import Derived.Deep.CutBlock
import Derived.Deep.RegionHeld3
namespace Go.Proofs.YteaokeiolgjhaaaGreat.RelogCrashUpto
open Go.ChangeShapes Go.WideShapes Go.ChangeAt Go.RowKit Go.Maps Go.Shelf
open Crc CrcMath Mem CodecMath Codec DiskSpec Dsk Sup Log Sto

/-- What stays true from page to page. -/
structure Cr (W wr : World) (b tb g sb dm gl : Nat) (own : Nat → Prop) (s : Sto) (C : Pgs) (j : Nat) : Prop where
  u : Use W wr 400 16 b tb g sb dm none own s C none
  l : Kb wr (Foot own tb g sb dm none) gl 85 (laC C)
  lo : W.heap.size ≤ gl
  kd : ∀ k q, C k = some q → q = ((5 : Int), bodyOne ((k : Int) + 1))
  gn : s.x.gn ≤ 3 + j
  ep : s.x.ep = 2
  sq : 1 ≤ s.L.seq ∧ s.L.seq ≤ 1 + j
  ver : ∀ i, (s.S.ver i).length ≤ j
/-- What stays true from step to step on a disk that may be cut. -/
structure Cx (W w : World) (b tb g sb dm mb gl xw : Nat) (own : Nat → Prop) (s : Sto) (C : Pgs) (tg : Option (Int × Int)) (a0 a1 : Int) (ask : Bool) (o0 o1 o2 o3 o4 o5 o6 : Nat) (j : Nat) : Prop where
  a : StoAt w W.heap.size b tb g sb dm none own s
  gr : W.grownBy w none
  h : ∃ ls, Held 400 16 s ls C
  m : MovAt w (Foot own tb g sb dm none) W.heap.size mb sb ((400 : Nat) : Int) tg
  l : Kb w (FM own tb g sb dm none mb) gl 85 (laC C)
  x : Kb w (FM own tb g sb dm none mb) xw 49 #[.int .i64 (o0 : Nat), .int .i64 (o1 : Nat), .int .i64 (o2 : Nat), .int .i64 (o3 : Nat), .int .i64 (o4 : Nat), .int .i64 (o5 : Nat), .int .i64 (o6 : Nat)]
  kd : ∀ k q, C k = some q → q = ((5 : Int), bodyOne ((k : Int) + 1))
  tgs : ∀ q, tg = some q → (∃ st ln, MayGo 400 16 q st ln) ∧ q = (a0, a1) ∧ ask = true
  pl : (s.x.st = o3 ∧ s.x.ln = o4) ∨ (ask = true ∧ (s.x.st : Int) = a0 ∧ (s.x.ln : Int) = a1)
  gn : s.x.gn ≤ 1048600 + j
  ep : s.x.ep ≤ 2 + j
  sq : s.L.seq ≤ 1048600 + j
  ver : ∀ i, (s.S.ver i).length ≤ 1025 * j
section
variable {W w w' : World} {b tb g sb dm mb gl xw : Nat} {own : Nat → Prop} {s : Sto} {C : Pgs} {tg : Option (Int × Int)} {a0 a1 : Int} {ask : Bool} {o0 o1 o2 o3 o4 o5 o6 : Nat} {j : Nat}
theorem Cr.quiet (h : Cr W w b tb g sb dm gl own s C j) (hg : w.grownBy w' none) : Cr W w' b tb g sb dm gl own s C j :=
  ⟨h.u.quiet hg, h.l.quiet hg, h.lo, h.kd, h.gn, h.ep, h.sq, h.ver⟩
/-- A step, whatever the disk answers. -/
theorem cx_step (h : Cx W w b tb g sb dm mb gl xw own s C tg a0 a1 ask o0 o1 o2 o3 o4 o5 o6 j) (hj : j ≤ 3) : Calls Tryz.prog 36 #[.pointer (some ⟨mb, 0, none⟩)] w fun e w' => ∃ dn er g' own' s' tg', e = .returned (.tuple #[.bool dn, .int .i64 er]) ∧
    Cx W w' b tb g' sb dm mb gl xw own' s' C tg' a0 a1 ask o0 o1 o2 o3 o4 o5 o6 (j + 1) := by
  have hc := rel_step h.a h.m (fun i => by have := h.ver i; omega)
  unfold Stepped at hc
  refine hc.mono ?_
  rintro e w1 ⟨dn, er, own1, g1, s1, tg1, rfl, hR, h1, hm1, ht⟩
  obtain ⟨ls, hh⟩ := h.h
  obtain ⟨ls', hh', hf, hpl, htg⟩ := held_step hh hR (fun q e => (h.tgs q e).1) (by have := h.gn; omega) (by have := h.ep; omega) (by have := h.sq; omega)
  refine ⟨dn, er, g1, own1, s1, tg1, rfl, ⟨h1, grown_foot h.gr ht (fun i hi => ?_), ⟨ls', hh'⟩, hm1, h.l.turn ht, h.x.turn ht, h.kd, fun q e => h.tgs q (htg q e), ?_, by have := h.gn; have := hf.gn; omega, by have := h.ep; have := hf.ep; omega, by have := h.sq; have := hf.sq; omega, fun i => by have := h.ver i; have := hf.ver i; omega⟩⟩
  · rcases hi with hi | hi
    · exact h.a.foot_low hi
    · rw [hi]; exact h.m.2.1
  · rcases hpl with hp | ⟨q, hq, h2, h3⟩
    · rcases h.pl with h4 | h4
      · exact .inl ⟨hp.1.trans h4.1, hp.2.trans h4.2⟩
      · exact .inr ⟨h4.1, by rw [hp.1]; exact h4.2.1, by rw [hp.2]; exact h4.2.2⟩
    · have h5 := h.tgs q hq
      rw [h5.2.1] at h2 h3
      exact .inr ⟨h5.2.2, h2, h3⟩
end
set_option maxRecDepth 100000 in
set_option maxHeartbeats 12800000 in
theorem walk {H : Type} {enc : TypeId × Value → H} (W : World) (base : Nat) (v0 v1 v2 v3 v4 : Value) (d0 d1 d2 d3 d4 : DataW H) (p0 p1 p2 p3 p4 : List MemPlace)
    (o0 : Value.okWide Tryz.prog W .any base 32 v0)
    (o1 : Value.okWide Tryz.prog W .any base 3 v1)
    (o2 : Value.okWide Tryz.prog W .any base 3 v2)
    (o3 : Value.okWide Tryz.prog W .any base 3 v3)
    (o4 : Value.okWide Tryz.prog W .any base 32 v4)
    (h0 : DataW.Trod enc Tryz.prog W 0 (fun _ => true) true 32 v0 d0 p0)
    (h1 : DataW.Trod enc Tryz.prog W 0 (fun _ => true) true 3 v1 d1 p1)
    (h2 : DataW.Trod enc Tryz.prog W 0 (fun _ => true) true 3 v2 d2 p2)
    (h3 : DataW.Trod enc Tryz.prog W 0 (fun _ => true) true 3 v3 d3 p3)
    (h4 : DataW.Trod enc Tryz.prog W 0 (fun _ => true) true 32 v4 d4 p4)
    (_hsz : (DataW.weightsEach Tryz.prog [32, 3, 3, 3, 32] [d0, d1, d2, d3, d4]).all (· ≤ reachBytes) = true) (hk : Rows.uptoSmall H [d0, d1, d2, d3, d4] = true) :
    Calls Tryz.prog 9 #[v0, v1, v2, v3, v4] W fun e W' => e = .returned (.bool true) ∧ Below W.heap.size W W' := by
  obtain ⟨A, n, c, ps, rfl, hpi, hd0⟩ := open_counts o0 h0
  have hn := bulk_len hk (List.mem_cons_self ..) hd0
  obtain ⟨st, rfl, _, _, _⟩ := open_int Tryz.underlying3 o1 h1
  obtain ⟨ln, rfl, _, _, _⟩ := open_int Tryz.underlying3 o2 h2
  obtain ⟨cut, rfl, _, _, _⟩ := open_int Tryz.underlying3 o3 h3
  obtain ⟨A4, n4, c4, picks, rfl, hpk, hn4, hc4⟩ := open_picks o4 h4
  have HN4 := Lib.hid (show n4 ≤ 9223372036854775807 from Nat.le_trans hn4 (Nat.le_trans hc4 (by unfold maxLen; omega)))
  have HPI := Lib.hid hpi; have HPK := Lib.hid hpk
  clear o0 o1 o2 o3 o4 h0 h1 h2 h3 h4 hk hpi hpk hd0 hn4 hc4
  have HFM := Lib.hid (formatted_call W)
  go_enter Tryz.func9, Tryz.ntmps9
  go_wp2_with fail
  refine HFM.out.mono ?_
  rintro e w1 ⟨b, tb, g, sb, dm, own, s, rfl, hb1⟩
  have HB1 := Lib.hid hb1
  have HKN := Lib.hid (known7_call w1)
  clear hb1 HFM
  go_wp2_with fail
  refine HKN.out.mono ?_
  rintro e w2 ⟨rfl, hg2⟩
  have HG2 := Lib.hid hg2
  clear hg2 HKN
  obtain ⟨zs, hzs⟩ : ∃ zs, laC noPgs = zs := ⟨_, rfl⟩
  have hz16 := zero16b
  rw [hzs] at hz16
  have hga := World.grownBy_alloc w2 (.cells zs 85) none
  have HC0 := Lib.hid (show Cr W (w2.alloc (.cells zs 85)) b tb g sb dm w2.heap.size own s noPgs 0 from
    ⟨(HB1.out.u.quiet HG2.out).quiet hga, ⟨by rw [hzs]; exact Blk.new w2 _ _, fun e => by have h1 := HB1.out.u.foot_lt e; have h2 := HG2.out.size; omega⟩, by have h1 := HB1.out.u.gr.size; have h2 := HG2.out.size; omega, fun k q e => (by cases e),
      by rw [HB1.out.xs]; exact Nat.le_refl _, by rw [HB1.out.xs]; rfl, by rw [HB1.out.ls]; exact ⟨Nat.le_refl _, Nat.le_refl _⟩, fun i => by rw [HB1.out.ver i]; exact Nat.le_refl _⟩)
  clear hga hzs
  go_wp2_with fail
  generalize w2.alloc (.cells zs 85) = w3 at *
  generalize w2.heap.size = gl at *
  clear hz16 HG2 HB1
  go_loopw [14, 15, 16, 17, 18] (fun i _ _ _ _ wr => ∃ (j : Nat) (ow : Nat → Prop) (s : Sto) (C : Pgs), j ≤ n ∧ i = .int .i64 j ∧ Cr W wr b tb g sb dm gl ow s C j) (fun i _ _ _ _ _ => n - (Go.RowKit.intOf i).toNat)
  case atStart => exact ⟨0, own, s, noPgs, Nat.zero_le _, rfl, HC0.out⟩
  case round =>
    clear HC0
    obtain ⟨j, ow, s, C, hj, rfl, ha⟩ := hrel
    have HA := Lib.hid ha
    clear ha
    by_cases hlt : j < n
    · have hjn : (j : Int) < (n : Int) := by omega
      obtain ⟨gc, oc, rfl, e0, _, _⟩ := PIn.at_ HPI.out (below_of_grown HA.out.u.gr (Nat.le_refl _) (fun _ e => by cases e)) hlt
      obtain ⟨z, hz⟩ : ∃ z, ps.getD j 0 = z := ⟨_, rfl⟩
      rw [hz] at e0
      obtain ⟨tm, htm⟩ : ∃ tm, z.tmod 16 = tm := ⟨_, rfl⟩
      have HTM := Lib.hid (show -16 < tm ∧ tm < 16 from by
        rw [← htm]
        have h1 := Int.tmod_lt_of_pos z (show (0 : Int) < 16 by decide)
        have h2 := Int.lt_tmod_of_pos z (show (0 : Int) < 16 by decide)
        omega)
      clear hz
      go_upto_if 52 with fail
      go_cut [15] (fun p wx => ∃ k : Nat, k < 16 ∧ p = .int .i64 (k : Nat) ∧ wx = wr)
      case first =>
        by_cases h0 : tm < 0
        · have hb0 : decide (tm < 0) = true := decide_eq_true h0
          have hw1 : IntKind.i64.wrap (tm + 16) = tm + 16 := IntWalk.i64_in _ (by have := HTM.out; omega)
          obtain ⟨k, hkk⟩ : ∃ k : Nat, tm + 16 = (k : Int) := ⟨(tm + 16).toNat, by have := HTM.out; omega⟩
          have HK := Lib.hid (show k < 16 by have := HTM.out; omega)
          have HKK := Lib.hid hkk
          clear hkk
          go_wp2_with fail
          go_meet
          exact ⟨k, HK.out, by rw [HKK.out], rfl⟩
        · have hb0 : decide (tm < 0) = false := decide_eq_false h0
          obtain ⟨k, hkk⟩ : ∃ k : Nat, tm = (k : Int) := ⟨tm.toNat, by omega⟩
          have HK := Lib.hid (show k < 16 by have := HTM.out; omega)
          have HKK := Lib.hid hkk
          clear hkk
          go_wp2_with fail
          go_meet
          exact ⟨k, HK.out, by rw [HKK.out], rfl⟩
      case rest =>
        obtain ⟨k, hk16, rfl, rfl⟩ := hcut
        clear htm e0 HTM
        have HBG := Lib.hid (use_begin HA.out.u)
        go_wp2_with fail
        refine HBG.out.mono ?_
        rintro e w4 ⟨rfl, wm4, hu4, ht4⟩
        have HU4 := Lib.hid hu4; have HT4 := Lib.hid ht4
        have HPC := Lib.hid (page7_call ((k : Int) + 1) w4)
        have hw1 : IntKind.i64.wrap ((k : Int) + 1) = (k : Int) + 1 := IntWalk.i64_in _ (by omega)
        clear hu4 ht4 HBG
        go_wp2_with fail
        refine HPC.out.mono ?_
        rintro e w5 ⟨gp, rfl, hgp, hbp, hg5⟩
        have HWR := Lib.hid (use_write (HU4.out.quiet hg5) hk16 (page7_val (F := Foot ow tb g sb dm wm4) hbp (fun e => by have := HU4.out.foot_lt e; omega)) (one_ok k (by omega) ((k : Int) + 1)) (by rw [(keys_nil PgsOk.none_).2 rfl]; simp))
        have HT5 := Lib.hid (HT4.out.trans (Turn.none_ hg5))
        clear hgp hbp hg5 HPC HU4 HT4
        go_wp2_with fail
        refine HWR.out.mono ?_
        rintro e w6 ⟨rfl, own6, hu6, ht6⟩
        have HU6 := Lib.hid hu6
        have HT6 := Lib.hid (HT5.out.trans ht6)
        clear hu6 ht6 HWR HT5
        have HCM := Lib.hid (use_commit HU6.out (by have := HA.out.gn; show s.x.gn < _; omega) (by have := HA.out.ep; show s.x.ep ≤ _; omega) (by have := HA.out.sq; show s.L.seq ≤ _; omega) (fun i => by have := HA.out.ver i; show (s.S.ver i).length < _; omega))
        go_wp2_with fail
        refine HCM.out.mono ?_
        rintro e w7 ⟨rfl, own7, s7, hu7, hn7, ht7⟩
        have hl7 := HA.out.l.turn (HT6.out.trans ht7)
        have z0 := hl7.b.cell k
        rw [laC_at _ hk16] at z0
        have zf := hl7.b.frozen k
        have hkn : (k : Int) < 16 := by omega
        have hgs := Lib.grownBy_setB (World.grownBy.refl w7 (some gl)) k (.bool true)
        have hset := hl7.b.set_ k (.bool true)
        rw [laC_set C ((5 : Int), bodyOne ((k : Int) + 1))] at hset
        have HE := Lib.hid (show Cr W (w7.setCell ⟨gl, k, none⟩ (.bool true)) b tb g sb dm gl own7 s7 (upd C k (some ((5 : Int), bodyOne ((k : Int) + 1)))) (j + 1) from by
          have hu8 := hu7
          rw [over_one] at hu8
          refine ⟨hu8.nou8 hgs hl7.b (laC_nou8 C) hl7.n HA.out.lo, ⟨hset, hl7.n⟩, HA.out.lo, fun i q hi => ?_, ?_, ?_, ?_, fun i => ?_⟩
          · by_cases e : i = k
            · subst e
              rw [upd_same] at hi
              cases hi; rfl
            · rw [upd_ne _ _ e] at hi
              exact HA.out.kd i q hi
          · have h1 := HA.out.gn; have h2 : s7.x.gn ≤ s.x.gn + 1 := hn7.gn.2; omega
          · have h1 := HA.out.ep; have h2 : s7.x.ep = s.x.ep := hn7.ep; omega
          · have h1 := HA.out.sq; have h2 : s.L.seq ≤ s7.L.seq ∧ s7.L.seq ≤ s.L.seq + 1 := hn7.seq; omega
          · have h1 := HA.out.ver i; have h2 : (s7.S.ver i).length ≤ (s.S.ver i).length + 1 := hn7.ver i; omega)
        clear hu7 hn7 ht7 hl7 hgs hset HCM HU6 HT6
        go_wp2_with fail
        go_roundw
        case rel => exact ⟨j + 1, own7, s7, _, by omega, by first | rfl | simp, HE.out⟩
        case measure => simp [Go.RowKit.intOf]; omega
    · have hje : j = n := by omega
      have hjn : ¬ ((j : Int) < (n : Int)) := by omega
      have HSY := Lib.hid (use_sync HA.out.u)
      have HNN := Lib.hid (show j ≤ 1048576 by omega)
      clear HPI
      go_wp2_with fail
      refine HSY.out.mono ?_
      rintro e w4 ⟨rfl, own4, hu4, ht4, hgs4⟩
      have HU4 := Lib.hid hu4; have HS4 := Lib.hid hgs4
      have HL4 := Lib.hid (HA.out.l.turn ht4)
      have HNW := Lib.hid (rel_new_at hu4 400)
      clear hu4 ht4 hgs4 HSY
      go_wp2_with fail
      refine HNW.out.mono ?_
      rintro e w5 ⟨mb, rfl, hu5, hm5, hg5⟩
      have HU5 := Lib.hid hu5; have HM5 := Lib.hid hm5
      have HL5 := Lib.hid (HL4.out.quiet hg5)
      have HNE := Lib.hid (show gl ≠ mb from blk_ne HL5.out.b (show Blk w5 mb 138 _ from hm5.2.2) (by decide))
      have HSU := Lib.hid (super_is7 hu5.at_)
      clear hu5 hm5 hg5 HNW HU4 HL4
      go_wp2_with fail
      refine HSU.out.mono ?_
      rintro e w6 ⟨rfl, hg6⟩
      dsimp only at *
      have hga := World.grownBy_alloc w6 (.cells #[.int .i64 (s.x.gn : Nat), .int .i64 (s.x.ep : Nat), .int .i64 (s.x.pg : Nat), .int .i64 (s.x.st : Nat), .int .i64 (s.x.ln : Nat), .int .i64 (s.x.hd : Nat), .int .i64 (s.x.sq : Nat)] 49) none
      have hgg := hg6.trans hga
      have HU7 := Lib.hid (HU5.out.quiet hgg); have HM7 := Lib.hid (HM5.out.quiet hgg); have HL7 := Lib.hid (HL5.out.quiet hgg)
      have HX7 := Lib.hid (show Kb (w6.alloc (.cells #[.int .i64 (s.x.gn : Nat), .int .i64 (s.x.ep : Nat), .int .i64 (s.x.pg : Nat), .int .i64 (s.x.st : Nat), .int .i64 (s.x.ln : Nat), .int .i64 (s.x.hd : Nat), .int .i64 (s.x.sq : Nat)] 49)) (FM own4 tb g sb dm none mb) w6.heap.size 49 #[.int .i64 (s.x.gn : Nat), .int .i64 (s.x.ep : Nat), .int .i64 (s.x.pg : Nat), .int .i64 (s.x.st : Nat), .int .i64 (s.x.ln : Nat), .int .i64 (s.x.hd : Nat), .int .i64 (s.x.sq : Nat)] from
        ⟨Blk.new w6 _ _, fun e => by
          have h1 := hg6.size
          rcases e with e | e
          · have := HU5.out.foot_lt e; omega
          · have := HM5.out.lt; omega⟩)
      have HAS := Lib.hid (use_ask (N := 400) HU7.out HM7.out st ln)
      clear hg6 hga hgg HSU HU5 HM5 HL5
      go_wp2_with fail
      generalize w6.alloc (.cells #[.int .i64 (s.x.gn : Nat), .int .i64 (s.x.ep : Nat), .int .i64 (s.x.pg : Nat), .int .i64 (s.x.st : Nat), .int .i64 (s.x.ln : Nat), .int .i64 (s.x.hd : Nat), .int .i64 (s.x.sq : Nat)] 49) = w7 at *
      generalize w6.heap.size = xw at *
      refine HAS.out.mono ?_
      rintro e w8 ⟨hu8, hg8, hc8⟩
      obtain ⟨zv, ask, tg, rfl, hask, hm8, htg⟩ : ∃ (zv : Int) (ask : Bool) (tg : Option (Int × Int)), e = .returned (.int .i64 zv) ∧ (zv == 0) = ask ∧ MovAt w8 (Foot own4 tb g sb dm none) W.heap.size mb sb ((400 : Nat) : Int) tg ∧ (∀ q, tg = some q → (∃ st ln, MayGo 400 16 q st ln) ∧ q = (st, ln) ∧ ask = true) := by
        rcases hc8 with ⟨he, _, hm, hmg⟩ | ⟨z, hz, he, hm⟩
        · exact ⟨0, true, _, he, rfl, hm, fun q e => by cases e; exact ⟨hmg, rfl, rfl⟩⟩
        · exact ⟨z, false, _, he, by simpa using hz, hm, fun q e => by cases e⟩
      have HU8 := Lib.hid hu8; have HM8 := Lib.hid hm8; have HTG := Lib.hid htg
      have HL8 := Lib.hid (show Kb w8 (FM own4 tb g sb dm none mb) gl 85 (laC C) from ⟨(HL7.out.far hg8 HNE.out).b, fun e => by
        rcases e with e | e
        · exact HL7.out.n e
        · exact HNE.out e⟩)
      have HX8 := Lib.hid (HX7.out.turn (turn_gmb hg8))
      have HCT := Lib.hid (disk_cut_all hu8.at_.l.s.d cut)
      clear hu8 hg8 hc8 hm8 htg HAS HU7 HM7 HL7 HX7
      go_wp2_with fail
      refine HCT.out.mono ?_
      rintro e w9 ⟨rfl, hd9, ht9⟩
      have hcn : (cutE s.S.flush cut).2.n = s.S.flush.n := by unfold cutE; split <;> rfl
      have HX := Lib.hid (show Cx W w9 b tb g sb dm mb gl xw own4 ({ s with S := (cutE s.S.flush cut).2 } : Sto) C tg st ln ask s.x.gn s.x.ep s.x.pg s.x.st s.x.ln s.x.hd s.x.sq 0 from by
        obtain ⟨ls, hg⟩ := HS4.out
        have hw : ({ s with S := s.S.flush } : Sto).W = none := HU8.out.w
        obtain ⟨nn, hcut⟩ : ∃ z : Int, (cutE s.S.flush cut).2 = { s.S.flush with left := z } := by
          unfold cutE
          split
          · exact ⟨s.S.flush.left, rfl⟩
          · exact ⟨cut, rfl⟩
        have hh := Held.start hg hw rfl HU8.out.sees nn
        refine ⟨HU8.out.at_.disk hd9 ht9 hcn, HU8.out.out (turnD ht9), ⟨ls, ?_⟩, HM8.out.turn (turnD ht9), HL8.out.turn (turn_mb (turnD ht9)), HX8.out.turn (turn_mb (turnD ht9)), HA.out.kd, HTG.out, .inl ⟨rfl, rfl⟩, ?_, ?_, ?_, fun i => ?_⟩
        · rw [hcut]; exact hh
        · have h1 := HA.out.gn; have h2 := HNN.out; show s.x.gn ≤ _; omega
        · have h1 := HA.out.ep; show s.x.ep ≤ _; omega
        · have h1 := HA.out.sq; have h2 := HNN.out; show s.L.seq ≤ _; omega
        · rw [hcut]; exact Nat.zero_le _)
      clear hd9 ht9 hcn HCT HU8 HM8 HL8 HX8 HTG HS4
      generalize ({ s with S := (cutE s.S.flush cut).2 } : Sto) = s9 at *
      have HP1 := Lib.hid (cx_step HX.out (by omega))
      go_wp2_with fail
      refine HP1.out.mono ?_
      rintro e w10 ⟨dn1, er1, g10, own10, s10, tg10, rfl, hx10⟩
      have HX10 := Lib.hid hx10
      have HP2 := Lib.hid (cx_step hx10 (by omega))
      clear hx10 HP1 HX
      go_wp2_with fail
      refine HP2.out.mono ?_
      rintro e w11 ⟨dn2, er2, g11, own11, s11, tg11, rfl, hx11⟩
      have HX11 := Lib.hid hx11
      have HP3 := Lib.hid (cx_step hx11 (by omega))
      clear hx11 HP2 HX10
      go_wp2_with fail
      refine HP3.out.mono ?_
      rintro e w12 ⟨dn3, er3, g12, own12, s12, tg12, rfl, hx12⟩
      have HX12 := Lib.hid hx12
      have hcr : Calls Tryz.prog 23 #[.pointer (some ⟨b, 0, none⟩), .slice A4 n4 c4] w12 fun e w' => e = .returned (.tuple #[]) ∧ Turn w12 w' own12 own12 ∧ ∃ dur ls' M, Fell W w' 400 16 b own12 dur s12.x ls' M ∧ Sees 16 ⟨plain 400 dur, M, s12.x, latestOf (recsOf (s12.x.sq : Int) ls'), none⟩ C := by
        obtain ⟨ls, hh⟩ := hx12.h
        exact held_crash hx12.a hx12.gr hh A4 n4 c4 picks (PIn.picks_ HPK.out hx12.gr (fun i hi => hx12.a.foot_low (.inl (.inl (.inl hi))))) HN4.out (fun i => by have := hx12.ver i; omega)
      have HCR := Lib.hid hcr
      clear hx12 hcr HP3 HX11
      go_wp2_with fail
      refine HCR.out.mono ?_
      rintro e w13 ⟨rfl, ht13, dur, ls13, M, hfl, hsee⟩
      have HL13 := Lib.hid (HX12.out.l.turn (turn_mb (turnD ht13))); have HX13 := Lib.hid (HX12.out.x.turn (turn_mb (turnD ht13)))
      have HSQ := Lib.hid (show s12.x.sq ≤ 1048700 from by
        obtain ⟨ls, hh⟩ := HX12.out.h
        have h1 := hh.g.seq
        have h2 : s12.L.seq = s12.x.sq + ls.length := h1
        have h3 := HX12.out.sq
        omega)
      have HOP := Lib.hid (use_open hfl.at_ hfl.gr s12.x hfl.d hfl.sup hfl.pgs hfl.top hfl.rec_ (by have := HX12.out.gn; omega) (by have := HX12.out.ep; omega) (by have := HSQ.out; omega) hfl.op hsee)
      clear ht13 hfl hsee HCR
      go_wp2_with fail
      refine HOP.out.mono ?_
      rintro e w14 ⟨tb', g', sb', dm', own14, s14, rfl, hb14, ht14⟩
      have HB14 := Lib.hid hb14
      have HL14 := Lib.hid ((HL13.out.weak (F' := own12) (fun i hi => .inl (.inl (.inl (.inl hi))))).turn ht14)
      have HX14 := Lib.hid ((HX13.out.weak (F' := own12) (fun i hi => .inl (.inl (.inl (.inl hi))))).turn ht14)
      have HSU := Lib.hid (super_is7 hb14.u.at_)
      have HPL0 := Lib.hid (show (((s14.x.st : Nat) : Int) = ((s.x.st : Nat) : Int) ∧ ((s14.x.ln : Nat) : Int) = ((s.x.ln : Nat) : Int)) ∨ (ask = true ∧ ((s14.x.st : Nat) : Int) = st ∧ ((s14.x.ln : Nat) : Int) = ln) from by
        rw [hb14.xs]
        rcases HX12.out.pl with h | h
        · exact .inl ⟨by show ((s12.x.st : Nat) : Int) = _; rw [h.1], by show ((s12.x.ln : Nat) : Int) = _; rw [h.2]⟩
        · exact .inr h)
      have HKD := Lib.hid HX12.out.kd
      clear hb14 ht14 HOP HL13 HX13 HX12 HPK
      go_wp2_with fail
      refine HSU.out.mono ?_
      rintro e w15 ⟨rfl, hg15⟩
      have hga := World.grownBy_alloc w15 (.cells #[.int .i64 (s14.x.gn : Nat), .int .i64 (s14.x.ep : Nat), .int .i64 (s14.x.pg : Nat), .int .i64 (s14.x.st : Nat), .int .i64 (s14.x.ln : Nat), .int .i64 (s14.x.hd : Nat), .int .i64 (s14.x.sq : Nat)] 49) none
      have HG16 := Lib.hid (hg15.trans hga)
      have hbu := Blk.new w15 49 #[.int .i64 (s14.x.gn : Nat), .int .i64 (s14.x.ep : Nat), .int .i64 (s14.x.pg : Nat), .int .i64 (s14.x.st : Nat), .int .i64 (s14.x.ln : Nat), .int .i64 (s14.x.hd : Nat), .int .i64 (s14.x.sq : Nat)]
      have HU16 := Lib.hid (HB14.out.u.quiet HG16.out); have HL16 := Lib.hid (HL14.out.quiet HG16.out)
      have hx16 := HX14.out.quiet HG16.out
      have x3 := hbu.cell 3; have x4 := hbu.cell 4; have y3 := hx16.b.cell 3; have y4 := hx16.b.cell 4
      simp only [List.getElem?_toArray, List.getElem?_cons_zero, List.getElem?_cons_succ] at x3 x4 y3 y4
      clear hg15 hga hbu hx16 HSU HL14 HX14 HB14
      go_upto_region 33 with fail
      generalize w15.alloc (.cells #[.int .i64 (s14.x.gn : Nat), .int .i64 (s14.x.ep : Nat), .int .i64 (s14.x.pg : Nat), .int .i64 (s14.x.st : Nat), .int .i64 (s14.x.ln : Nat), .int .i64 (s14.x.hd : Nat), .int .i64 (s14.x.sq : Nat)] 49) = w16 at *
      generalize w15.heap.size = xu at *
      generalize ((s14.x.st : Nat) : Int) = A1 at *
      generalize ((s14.x.ln : Nat) : Int) = A2 at *
      generalize ((s.x.st : Nat) : Int) = B1 at *
      generalize ((s.x.ln : Nat) : Int) = B2 at *
      go_cut [25] (fun p wx => p = .bool (decide (A1 = B1) && decide (A2 = B2)) ∧ wx = w16)
      case first =>
        by_cases e1 : A1 = B1
        · have b1 : (A1 == B1) = true := by simp [e1]
          have HE1 := Lib.hid e1
          clear e1
          have HR := Lib.hid (show (decide (A1 = B1) && decide (A2 = B2)) = (A2 == B2) from by rw [decide_eq_true HE1.out, Bool.true_and]; rfl)
          go_wp2_with fail
          go_meet
          exact ⟨by rw [HR.out], rfl⟩
        · have b1 : (A1 == B1) = false := by simpa using e1
          have HR := Lib.hid (show (decide (A1 = B1) && decide (A2 = B2)) = false from by rw [decide_eq_false e1]; rfl)
          clear e1
          go_wp2_with fail
          go_meet
          exact ⟨by rw [HR.out], rfl⟩
      case rest =>
        obtain ⟨rfl, rfl⟩ := hcut
        obtain ⟨old, hold⟩ : ∃ o, (decide (A1 = B1) && decide (A2 = B2)) = o := ⟨_, rfl⟩
        have HOLD := Lib.hid hold
        rw [hold]
        clear hold y3 y4
        obtain ⟨mvd, hmvd⟩ : ∃ o, (ask && decide (A1 = st) && decide (A2 = ln)) = o := ⟨_, rfl⟩
        have HMV := Lib.hid hmvd
        clear hmvd
        go_upto_region 34 with fail
        go_cut [26] (fun p wx => p = .bool mvd ∧ wx = wc)
        case first =>
          cases ask with
          | false =>
            have HR := Lib.hid (show mvd = false from by rw [← HMV.out]; rfl)
            go_wp2_with fail
            go_meet
            exact ⟨by rw [HR.out], rfl⟩
          | true =>
            by_cases e1 : A1 = st
            · have b1 : (A1 == st) = true := by simp [e1]
              have HR := Lib.hid (show mvd = (A2 == ln) from by rw [← HMV.out, decide_eq_true e1]; rfl)
              clear e1
              go_wp2_with fail
              go_meet
              exact ⟨by rw [HR.out], rfl⟩
            · have b1 : (A1 == st) = false := by simpa using e1
              have HR := Lib.hid (show mvd = false from by rw [← HMV.out, decide_eq_false e1]; rfl)
              clear e1
              go_wp2_with fail
              go_meet
              exact ⟨by rw [HR.out], rfl⟩
        case rest =>
          obtain ⟨rfl, rfl⟩ := hcut
          have HOR := Lib.hid (show old = true ∨ mvd = true from by
            rcases HPL0.out with h | h
            · exact .inl (by rw [← HOLD.out, decide_eq_true h.1, decide_eq_true h.2]; rfl)
            · exact .inr (by rw [← HMV.out, h.1, decide_eq_true h.2.1, decide_eq_true h.2.2]; rfl))
          clear HMV HPL0 HOLD x3 x4
          go_upto_region 35 with fail
          go_cut [146] (fun p wx => p = .bool false ∧ wx = wc)
          case first =>
            cases old with
            | true =>
              go_wp2_with fail
              go_meet
              exact ⟨rfl, rfl⟩
            | false =>
              have hm : mvd = true := by
                rcases HOR.out with h | h
                · cases h
                · exact h
              subst hm
              go_wp2_with fail
              go_meet
              exact ⟨rfl, rfl⟩
          case rest =>
            obtain ⟨rfl, rfl⟩ := hcut
            clear HOR
            go_wp2_with fail
            generalize wc = wl at *
            go_loopw [27, 28, 29] (fun i _ _ wx => ∃ q : Nat, q ≤ 16 ∧ i = .int .i64 q ∧ Use W wx 400 16 b tb' g' sb' dm' none own14 s14 C none ∧ Kb wx (Foot own14 tb' g' sb' dm' none) gl 85 (laC C)) (fun i _ _ _ => 16 - (Go.RowKit.intOf i).toNat)
            case atStart => exact ⟨0, by omega, rfl, HU16.out, HL16.out⟩
            case round =>
              clear HU16 HL16
              obtain ⟨q, hq, rfl, hu, hl⟩ := hrel
              have HU := Lib.hid hu; have HL := Lib.hid hl
              clear hu hl
              by_cases hlq : q < 16
              · have hqn : (q : Int) < 16 := by omega
                have HRD := Lib.hid (use_read HU.out hlq)
                go_wp2_with fail
                refine HRD.out.mono ?_
                rintro e w2 ⟨v, rfl, hv, hu2, ht2⟩
                have hv2 : PgV w2 (fun i => i < wr.heap.size) v ((C q).getD (0, [])) := hv
                have HU2 := Lib.hid hu2; have HL2 := Lib.hid (HL.out.turn ht2)
                obtain ⟨_, rfl, Av, nv, cv, rfl, hnc, hdv⟩ := hv2
                clear hv hu2 ht2 HRD HU HL
                cases hC : C q with
                | none =>
                  try rw [hC] at hdv
                  simp only [Option.getD_none] at hdv ⊢
                  have hga := World.grownBy_alloc w2 (.cells #[.int .i64 0, .slice Av nv cv] 40) none
                  have HU3 := Lib.hid (HU2.out.quiet hga); have HL3 := Lib.hid (HL2.out.quiet hga)
                  have hbx := Blk.new w2 40 #[.int .i64 0, .slice Av nv cv]
                  have x0 := hbx.cell 0; have x1 := hbx.cell 1
                  have z0 := HL3.out.b.cell q
                  rw [laC_at _ hlq, hC] at z0
                  simp only [List.getElem?_toArray, List.getElem?_cons_zero, List.getElem?_cons_succ, Option.isSome_none] at x0 x1 z0
                  clear hga hbx HU2 HL2 hnc hdv
                  go_wp2_with fail
                  go_roundw
                  case rel => exact ⟨q + 1, by omega, by first | rfl | simp, HU3.out, HL3.out⟩
                  case measure => simp [Go.RowKit.intOf]; omega
                | some r =>
                  have hr := HKD.out q r hC
                  try rw [hC] at hdv
                  simp only [Option.getD_some] at hdv ⊢
                  subst hr
                  dsimp only at hdv ⊢
                  obtain ⟨hln, _, hdc⟩ := hdv
                  rw [bodyOne_len] at hln
                  subst hln
                  obtain ⟨gv, ov, rfl, hgl, _, hcl⟩ := hdc (by omega)
                  have hga := World.grownBy_alloc w2 (.cells #[.int .i64 5, .slice (some ⟨gv, ov, none⟩) 240 cv] 40) none
                  have HU3 := Lib.hid (HU2.out.quiet hga); have HL3 := Lib.hid (HL2.out.quiet hga)
                  have hbx := Blk.new w2 40 #[.int .i64 5, .slice (some ⟨gv, ov, none⟩) 240 cv]
                  have x0 := hbx.cell 0; have x1 := hbx.cell 1
                  have z0 := HL3.out.b.cell q
                  rw [laC_at _ hlq, hC] at z0
                  simp only [List.getElem?_toArray, List.getElem?_cons_zero, List.getElem?_cons_succ, Option.isSome_some] at x0 x1 z0
                  have hb0 : (bodyOne ((q : Int) + 1)).getD 0 0 = fillB ((q : Int) + 1) 0 := by
                    unfold bodyOne
                    rw [List.getD_eq_getElem?_getD, List.getElem?_replicate, if_pos (by omega)]; rfl
                  have y0 := hcl 0 (by omega)
                  rw [hb0] at y0
                  rw [← World.cell?_of_block (a := ⟨gv, ov + 0, none⟩) (hga.block gv hgl (by simp))] at y0
                  rw [Nat.add_zero] at y0
                  have hfl : ((fillB ((q : Int) + 1) 0 : Nat) : Int) = (q : Int) + 1 := by unfold fillB; omega
                  rw [hfl] at y0
                  have hw1 : IntKind.i64.wrap ((q : Int) + 1) = (q : Int) + 1 := IntWalk.i64_in _ (by omega)
                  have hw2 : IntKind.u8.wrap ((q : Int) + 1) = (q : Int) + 1 := by rw [IntKind.wrap_u8]; omega
                  have hc4 : (((q : Int) + 1) != ((q : Int) + 1)) = false := bne_self_eq_false _
                  clear hga hbx HU2 HL2 hnc hdc hcl hb0 hgl hfl
                  go_wp2_with fail
                  go_roundw
                  case rel => exact ⟨q + 1, by omega, by first | rfl | simp, HU3.out, HL3.out⟩
                  case measure => simp [Go.RowKit.intOf]; omega
              · have hqe : q = 16 := by omega
                have hqn : ¬ ((q : Int) < 16) := by omega
                have HE := Lib.hid HU.out.gr
                go_wp2_with fail
                go_ret
                exact ⟨rfl, below_of_grown HE.out (Nat.le_refl _) (fun _ e => by cases e)⟩
end Go.Proofs.YteaokeiolgjhaaaGreat.RelogCrashUpto
