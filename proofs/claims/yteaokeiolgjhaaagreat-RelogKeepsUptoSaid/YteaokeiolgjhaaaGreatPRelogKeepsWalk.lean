/- The walk over the law RelogKeeps. -/
import Derived.Test.YteaokeiolgjhaaaGreatPStoBools
import Derived.Deep.DeepCutAuto
import Derived.Deep.CutBlock
import Derived.Deep.RegionHeld3
namespace Go.Proofs.YteaokeiolgjhaaaGreat.RelogKeepsUpto
open Go.ChangeShapes Go.WideShapes Go.ChangeAt Go.RowKit Go.Maps Go.Shelf
open Crc CrcMath Mem CodecMath Codec DiskSpec Dsk Sup Log Sto

/-- What stays true from step to step. -/
structure Kp (W wr : World) (b tb g sb dm mb gw ga : Nat) (own : Nat → Prop) (s : Sto) (C : Pgs) (tg : Option (Int × Int)) (a0 a1 : Int) (j : Nat) : Prop where
  u : Use W wr 400 16 b tb g sb dm none own s C none
  m : MovAt wr (Foot own tb g sb dm none) W.heap.size mb sb ((400 : Nat) : Int) tg
  f : Kb wr (FM own tb g sb dm none mb) gw 80 (flC C)
  a : Kb wr (FM own tb g sb dm none mb) ga 81 #[.int .i64 a0, .int .i64 a1]
  lo : W.heap.size ≤ gw ∧ W.heap.size ≤ ga
  tgs : ∀ q, tg = some q → (∃ st ln, MayGo 400 16 q st ln) ∧ a0 = q.1 ∧ a1 = q.2
  kd : ∀ k q, C k = some q → ∃ f, q = ((5 : Int), bodyOne f)
  gn : s.x.gn ≤ 3 + 2 * j
  ep : s.x.ep ≤ 2 + j
  sq : 1 ≤ s.L.seq ∧ s.L.seq ≤ 1 + 2 * j
  ver : ∀ i, (s.S.ver i).length ≤ 2 * j
section
variable {W wr w' : World} {b tb g sb dm mb gw ga : Nat} {own : Nat → Prop} {s : Sto} {C : Pgs} {tg : Option (Int × Int)} {a0 a1 : Int} {j : Nat}
theorem Kp.quiet (h : Kp W wr b tb g sb dm mb gw ga own s C tg a0 a1 j) (hg : wr.grownBy w' none) : Kp W w' b tb g sb dm mb gw ga own s C tg a0 a1 j :=
  ⟨h.u.quiet hg, h.m.quiet hg, h.f.quiet hg, h.a.quiet hg, h.lo, h.tgs, h.kd, h.gn, h.ep, h.sq, h.ver⟩
theorem Kp.next (h : Kp W wr b tb g sb dm mb gw ga own s C tg a0 a1 j) : Kp W wr b tb g sb dm mb gw ga own s C tg a0 a1 (j + 1) :=
  ⟨h.u, h.m, h.f, h.a, h.lo, h.tgs, h.kd, by have := h.gn; omega, by have := h.ep; omega, by have := h.sq; omega, fun i => by have := h.ver i; omega⟩
theorem Kp.lts (h : Kp W wr b tb g sb dm mb gw ga own s C tg a0 a1 j) {i : Nat} (hi : FM own tb g sb dm none mb i) : i < wr.heap.size := by
  rcases hi with hi | hi
  · exact h.u.foot_lt hi
  · rw [hi]; exact h.m.lt
/-- Both cells of the row of what was asked are written. -/
theorem Kp.asked {tg' : Option (Int × Int)} (h : Kp W wr b tb g sb dm mb gw ga own s C tg a0 a1 j) (hu : Use W w' 400 16 b tb g sb dm none own s C none) (hm : MovAt w' (Foot own tb g sb dm none) W.heap.size mb sb ((400 : Nat) : Int) tg')
    (hf : Kb w' (FM own tb g sb dm none mb) gw 80 (flC C)) (ha : Kb w' (FM own tb g sb dm none mb) ga 81 #[.int .i64 a0, .int .i64 a1]) {x y : Int} (hx : ∀ q, tg' = some q → (∃ st ln, MayGo 400 16 q st ln) ∧ x = q.1 ∧ y = q.2) :
    Kp W ((w'.setCell ⟨ga, 0, none⟩ (.int .i64 x)).setCell ⟨ga, 1, none⟩ (.int .i64 y)) b tb g sb dm mb gw ga own s C tg' x y j := by
  have hg := Lib.grownBy_setB (Lib.grownBy_setB (World.grownBy.refl w' (some ga)) 0 (.int .i64 x)) 1 (.int .i64 y)
  have hn : NoU8 #[.int .i64 a0, .int .i64 a1] := fun i x h => by
    have h2 := (Array.getElem?_eq_some_iff.1 h).1
    simp at h2
    have : i = 0 ∨ i = 1 := by omega
    rcases this with rfl | rfl <;> simp at h
  exact ⟨hu.nou8 hg ha.b hn (fun e => ha.n (.inl e)) h.lo.2, hm.far ha.b hg (by decide) (by decide), hf.far hg (fun e => blk_ne hf.b ha.b (by decide) e), ⟨(ha.b.set_ 0 (.int .i64 x)).set_ 1 (.int .i64 y), ha.n⟩, h.lo, hx, h.kd, h.gn, h.ep, h.sq, h.ver⟩
/-- A mover that turned alone. -/
theorem Kp.mov {tg' : Option (Int × Int)} (h : Kp W wr b tb g sb dm mb gw ga own s C tg a0 a1 j) (hg : wr.grownBy w' (some mb)) (hu : Use W w' 400 16 b tb g sb dm none own s C none) (hm : MovAt w' (Foot own tb g sb dm none) W.heap.size mb sb ((400 : Nat) : Int) tg')
    (hx : ∀ q, tg' = some q → tg = some q) : Kp W w' b tb g sb dm mb gw ga own s C tg' a0 a1 (j + 1) :=
  ⟨hu, hm, h.f.turn (turn_gmb hg), h.a.turn (turn_gmb hg), h.lo, fun q e => h.tgs q (hx q e), h.kd, by have := h.gn; omega, by have := h.ep; omega, by have := h.sq; omega, fun i => by have := h.ver i; omega⟩
/-- A step was taken. -/
theorem Kp.step {own' : Nat → Prop} {g' : Nat} {s' : Sto} {tg' : Option (Int × Int)} (h : Kp W wr b tb g sb dm mb gw ga own s C tg a0 a1 j) (hu : Use W w' 400 16 b tb g' sb dm none own' s' C none) (hm : MovAt w' (Foot own' tb g' sb dm none) W.heap.size mb sb ((400 : Nat) : Int) tg')
    (ht : Turn wr w' (FM own tb g sb dm none mb) (FM own' tb g' sb dm none mb)) (hf : Far7 s s') (hx : ∀ q, tg' = some q → tg = some q) : Kp W w' b tb g' sb dm mb gw ga own' s' C tg' a0 a1 (j + 1) :=
  ⟨hu, hm, h.f.turn ht, h.a.turn ht, h.lo, fun q e => h.tgs q (hx q e), h.kd, by have := h.gn; have := hf.gn; omega, by have := h.ep; have := hf.ep; omega, by have := h.sq; have := hf.sq; have := hf.one; omega, fun i => by have := h.ver i; have := hf.ver i; omega⟩
/-- The row of pages has one more. -/
theorem Kp.put {own' : Nat → Prop} {s' : Sto} {k : Nat} {fi : Int} (h : Use W w' 400 16 b tb g sb dm none own' s' (upd C k (some ((5 : Int), bodyOne fi))) none) (hm : MovAt w' (Foot own' tb g sb dm none) W.heap.size mb sb ((400 : Nat) : Int) tg)
    (hf : Kb w' (FM own' tb g sb dm none mb) gw 80 (flC C)) (ha : Kb w' (FM own' tb g sb dm none mb) ga 81 #[.int .i64 a0, .int .i64 a1]) (h0 : Kp W wr b tb g sb dm mb gw ga own s C tg a0 a1 j)
    (e1 : s'.x.gn ≤ s.x.gn + 1) (e2 : s'.x.ep = s.x.ep) (e3 : s.L.seq ≤ s'.L.seq ∧ s'.L.seq ≤ s.L.seq + 1) (e4 : ∀ i, (s'.S.ver i).length ≤ (s.S.ver i).length + 1) :
    Kp W (w'.setCell ⟨gw, k, none⟩ (.int .i64 ((fillB fi 0 : Nat) : Int))) b tb g sb dm mb gw ga own' s' (upd C k (some ((5 : Int), bodyOne fi))) tg a0 a1 (j + 1) := by
  have hg := Lib.grownBy_setB (World.grownBy.refl w' (some gw)) k (.int .i64 ((fillB fi 0 : Nat) : Int))
  have hset := hf.b.set_ k (.int .i64 ((fillB fi 0 : Nat) : Int))
  rw [← flV_one fi, flC_set C ((5 : Int), bodyOne fi), flV_one fi] at hset
  refine ⟨h.nou8 hg hf.b (flC_nou8 C) (fun e => hf.n (.inl e)) h0.lo.1, hm.far hf.b hg (by decide) (by decide), ⟨hset, hf.n⟩, ha.far hg (fun e => blk_ne ha.b hf.b (by decide) e), h0.lo, h0.tgs, fun i q hi => ?_, by have := h0.gn; omega, by have := h0.ep; omega, by have := h0.sq; omega, fun i => by have := h0.ver i; have := e4 i; omega⟩
  by_cases e : i = k
  · subst e
    rw [upd_same] at hi
    cases hi; exact ⟨fi, rfl⟩
  · rw [upd_ne _ _ e] at hi
    exact h0.kd i q hi
end
set_option maxRecDepth 100000 in
set_option maxHeartbeats 12800000 in
theorem walk {H : Type} {enc : TypeId × Value → H} (W : World) (base : Nat) (v0 : Value) (d0 : DataW H) (p0 : List MemPlace)
    (o0 : Value.okWide Tryz.prog W .any base 54 v0)
    (h0 : DataW.Trod enc Tryz.prog W 0 (fun _ => true) true 54 v0 d0 p0)
    (_hsz : (DataW.weightsEach Tryz.prog [54] [d0]).all (· ≤ reachBytes) = true) (hk : Rows.uptoSmall H [d0] = true) :
    Calls Tryz.prog 8 #[v0] W fun e W' => e = .returned (.bool true) ∧ Below W.heap.size W W' := by
  obtain ⟨A, n, c, ops, rfl, hsc, hn⟩ := open_script7 o0 h0 hk (List.mem_cons_self ..)
  have HSC := Lib.hid hsc
  clear o0 h0 hk hsc
  have HFM := Lib.hid (formatted_call W)
  go_enter Tryz.func8, Tryz.ntmps8
  go_wp2_with fail
  refine HFM.out.mono ?_
  rintro e w1 ⟨b, tb, g, sb, dm, own, s, rfl, hb1⟩
  have HB1 := Lib.hid hb1
  have HKN := Lib.hid (known7_call w1)
  clear hb1 HFM
  go_wp2_with fail
  refine HKN.out.mono ?_
  rintro e w2 ⟨rfl, hg2⟩
  have HNW := Lib.hid (rel_new_at (HB1.out.u.quiet hg2) 400)
  clear hg2 HKN
  go_wp2_with fail
  refine HNW.out.mono ?_
  rintro e w3 ⟨mb, rfl, hu3, hm3, hg3⟩
  have HU3 := Lib.hid hu3; have HM3 := Lib.hid hm3
  clear hu3 hm3 hg3 HNW
  obtain ⟨zs, hzs⟩ : ∃ zs, fl0 0 = zs := ⟨_, rfl⟩
  have hz16 := zero16
  rw [hzs] at hz16
  have hga := World.grownBy_alloc w3 (.cells zs 80) none
  have HG4 := Lib.hid hga
  have HF4 := Lib.hid (show Blk (w3.alloc (.cells zs 80)) w3.heap.size 80 (fl0 0) from by rw [hzs]; exact Blk.new w3 _ _)
  clear hga hzs
  go_wp2_with fail
  generalize w3.alloc (.cells zs 80) = w4 at *
  have HLO := Lib.hid (show W.heap.size ≤ w3.heap.size from HU3.out.gr.size)
  have HGF := Lib.hid (show ∀ i, FM own tb g sb dm none mb i → i ≠ w3.heap.size from fun i hi e => by
    rcases hi with hi | hi
    · have := HU3.out.foot_lt hi; omega
    · have := HM3.out.lt; omega)
  clear hz16
  go_loopw [7] (fun i wr => ∃ q : Nat, q ≤ 16 ∧ i = .int .i64 q ∧ w3.grownBy wr none ∧ Blk wr w3.heap.size 80 (fl0 q)) (fun i _ => 16 - (Go.RowKit.intOf i).toNat)
  case atStart => exact ⟨0, by omega, rfl, HG4.out, HF4.out⟩
  case round =>
    clear HG4 HF4
    obtain ⟨q, hq, rfl, hgr, hbr⟩ := hrel
    by_cases hlq : q < 16
    · have hqn : (q : Int) < 16 := by omega
      have c0 := hbr.cell q
      rw [fl0_at hlq] at c0
      have f0 := hbr.frozen q
      have HB4 := Lib.hid (show Blk (wr.setCell ⟨w3.heap.size, q, none⟩ (.int .i64 (-1))) w3.heap.size 80 (fl0 (q + 1)) from by
        rw [← fl0_step hlq]
        exact hbr.set_ q _)
      have HG5 := Lib.hid (hgr.andThen (Lib.grownBy_setB (World.grownBy.refl wr (some w3.heap.size)) q (.int .i64 (-1))) (fun p hp => .inl (by cases hp; exact Nat.le_refl _)))
      clear hgr hbr
      go_wp2_with fail
      go_roundw
      case rel => exact ⟨q + 1, by omega, by first | rfl | simp, HG5.out, HB4.out⟩
      case measure => simp [Go.RowKit.intOf]; omega
    · have hqe : q = 16 := by omega
      have hqn : ¬ ((q : Int) < 16) := by omega
      have hbe : Blk wr w3.heap.size 80 (flC noPgs) := by rw [← fl0_all, ← hqe]; exact hbr
      have HBE := Lib.hid hbe
      have hga := World.grownBy_alloc wr (.cells #[.int .i64 0, .int .i64 0] 81) none
      have hgt := hgr.trans hga
      have HK0 := Lib.hid (show Kp W (wr.alloc (.cells #[.int .i64 0, .int .i64 0] 81)) b tb g sb dm mb w3.heap.size wr.heap.size own s noPgs none 0 0 0 from
        ⟨HU3.out.quiet hgt, HM3.out.quiet hgt, ⟨hbe.grown hga (by simp), fun e => HGF.out _ e rfl⟩, ⟨Blk.new wr _ _, fun e => by
          have h1 := hgr.size
          have h2 := hbe.lt
          rcases e with e | e
          · have := HU3.out.foot_lt e; omega
          · have := HM3.out.lt; omega⟩, ⟨HLO.out, by have := hgr.size; have := HLO.out; omega⟩, fun q e => (by cases e), fun k q e => (by cases e),
          by rw [HB1.out.xs]; exact Nat.le_refl _, by rw [HB1.out.xs]; exact Nat.le_refl _, by rw [HB1.out.ls]; exact ⟨Nat.le_refl _, Nat.le_refl _⟩, fun i => by rw [HB1.out.ver i]; exact Nat.le_refl _⟩)
      have HX := Lib.hid (show ((18 : Nat) : Int) = ((s.x.st : Nat) : Int) ∧ ((64 : Nat) : Int) = ((s.x.ln : Nat) : Int) from by rw [HB1.out.xs]; exact ⟨rfl, rfl⟩)
      clear hgr hbr hbe hga hgt HBE HU3 HM3 HB1 HGF
      go_wp2_with fail
      generalize wr.alloc (.cells #[.int .i64 0, .int .i64 0] 81) = wl at *
      generalize wr.heap.size = ga at *
      generalize w3.heap.size = gw at *
      have HLI := Lib.hid (show ∃ st ln : Nat, Value.int .i64 18 = .int .i64 (st : Int) ∧ Value.int .i64 64 = .int .i64 (ln : Int) ∧ st = s.x.st ∧ ln = s.x.ln from ⟨18, 64, rfl, rfl, by have := HX.out; omega, by have := HX.out; omega⟩)
      clear HX
      go_loopw [8, 9, 11, 12, 13, 14, 15, 16, 17] (fun p8 p9 i _ _ _ _ _ _ wr => ∃ (j g : Nat) (ow : Nat → Prop) (s : Sto) (C : Pgs) (tg : Option (Int × Int)) (a0 a1 : Int), j ≤ n ∧ i = .int .i64 j ∧ p8 = .int .i64 (s.x.st : Nat) ∧ p9 = .int .i64 (s.x.ln : Nat) ∧ Kp W wr b tb g sb dm mb gw ga ow s C tg a0 a1 j) (fun _ _ i _ _ _ _ _ _ _ => n - (Go.RowKit.intOf i).toNat)
      case atStart =>
        obtain ⟨st, ln, e8, e9, es, el⟩ := HLI.out
        exact ⟨0, g, own, s, noPgs, none, 0, 0, Nat.zero_le _, rfl, by rw [e8, es], by rw [e9, el], HK0.out⟩
      case round =>
        clear HK0 HLI
        obtain ⟨j, g, ow, s, C, tg, a0, a1, hj, rfl, rfl, rfl, ha⟩ := hrel
        have HA := Lib.hid ha
        clear ha
        by_cases hlt : j < n
        · have hjn : (j : Int) < (n : Int) := by omega
          obtain ⟨gc, oc, x, rfl, hx, hxok, e0, e1, e2, e3, e4, e5, e6⟩ := HSC.out.at_ HA.out.u.gr hlt
          have HOK := Lib.hid hxok
          obtain ⟨kd, st, le, pa, fi, lf, xA, xn, xc, pks⟩ := x
          dsimp only at *
          have hga := World.grownBy_alloc wr (.cells #[.int .i64 kd, .int .i64 st, .int .i64 le, .int .i64 pa, .int .i64 fi, .bool lf, .slice xA xn xc] 74) none
          have HA1 := Lib.hid (HA.out.quiet hga)
          have HX1 := Lib.hid (show Kb (wr.alloc (.cells #[.int .i64 kd, .int .i64 st, .int .i64 le, .int .i64 pa, .int .i64 fi, .bool lf, .slice xA xn xc] 74)) (FM ow tb g sb dm none mb) wr.heap.size 74 #[.int .i64 kd, .int .i64 st, .int .i64 le, .int .i64 pa, .int .i64 fi, .bool lf, .slice xA xn xc] from ⟨Blk.new wr _ _, fun e => by have := HA.out.lts e; omega⟩)
          have x0 := HX1.out.b.cell 0
          simp only [List.getElem?_toArray, List.getElem?_cons_zero] at x0
          clear hx hxok hga HA
          go_upto_block 4 with fail
          generalize wr.alloc (.cells #[.int .i64 kd, .int .i64 st, .int .i64 le, .int .i64 pa, .int .i64 fi, .bool lf, .slice xA xn xc] 74) = wb at *
          generalize wr.heap.size = xb at *
          go_cut [8, 9, 13, 14, 15, 16, 53] (fun p8 p9 _ _ _ _ _ wx => ∃ (g2 : Nat) (ow2 : Nat → Prop) (s2 : Sto) (C2 : Pgs) (tg2 : Option (Int × Int)) (b0 b1 : Int), p8 = .int .i64 (s2.x.st : Nat) ∧ p9 = .int .i64 (s2.x.ln : Nat) ∧ Kp W wx b tb g2 sb dm mb gw ga ow2 s2 C2 tg2 b0 b1 (j + 1))
          case first =>
            have x1 := HX1.out.b.cell 1; have x2 := HX1.out.b.cell 2
            simp only [List.getElem?_toArray, List.getElem?_cons_zero, List.getElem?_cons_succ] at x1 x2
            by_cases k0 : kd = 0
            · as_aux_lemma =>
              have t0 : (kd == 0) = true := by simp [k0]
              have HAS := Lib.hid (use_ask HA1.out.u HA1.out.m st le)
              go_wp2_with fail
              refine HAS.out.mono ?_
              rintro e w5 ⟨hu5, hg5, hc5⟩
              have HU5 := Lib.hid hu5
              have HG5 := Lib.hid hg5
              have HF5 := Lib.hid (HA1.out.f.turn (turn_gmb hg5))
              have HQ5 := Lib.hid (HA1.out.a.turn (turn_gmb hg5))
              have HX5 := Lib.hid (HX1.out.turn (turn_gmb hg5))
              clear hu5 hg5 HAS x0 x1 x2
              rcases hc5 with ⟨rfl, htg, hm5, hmg⟩ | ⟨z, hz, rfl, hm5⟩
              · have x1 := HX5.out.b.cell 1; have x2 := HX5.out.b.cell 2
                have y0 := HQ5.out.b.cell 0; have y1 := HQ5.out.b.cell 1
                have f0 := HQ5.out.b.frozen 0; have f1 := HQ5.out.b.frozen 1
                simp only [List.getElem?_toArray, List.getElem?_cons_zero, List.getElem?_cons_succ] at x1 x2 y0 y1
                have HE := Lib.hid ((HA1.out.asked HU5.out hm5 HF5.out HQ5.out (x := st) (y := le) (fun q e => by cases e; exact ⟨hmg, rfl, rfl⟩)).next)
                clear htg hm5 hmg
                go_wp2_with fail
                go_meet
                exact ⟨g, ow, s, C, _, st, le, rfl, rfl, HE.out⟩
              · have hzb : (z == 0) = false := by simpa using hz
                have HE := Lib.hid (HA1.out.mov HG5.out HU5.out hm5 (fun q e => e))
                clear hz hm5
                go_wp2_with fail
                go_meet
                exact ⟨g, ow, s, C, _, a0, a1, rfl, rfl, HE.out⟩
            · have t0 : (kd == 0) = false := by simpa using k0
              by_cases k1 : kd = 1
              · as_aux_lemma =>
                have t1 : (kd == 1) = true := by simp [k1]
                have HBS := Lib.hid (rel_busy HA1.out.m)
                have HST := Lib.hid (use_step HA1.out.u HA1.out.m (fun q e => (HA1.out.tgs q e).1) (by have := HA1.out.gn; omega) (by have := HA1.out.ep; omega) (by have := HA1.out.sq; omega) (fun i => by have := HA1.out.ver i; omega))
                clear x1 x2
                go_wp2_with fail
                refine HBS.out.mono ?_
                rintro e w5 ⟨rfl, rfl⟩
                go_wp2_with fail
                refine HST.out.mono ?_
                rintro e w6 ⟨dn, er, own6, g6, s6, tg6, rfl, hu6, hm6, ht6, hf6, hw6⟩
                have HU6 := Lib.hid hu6; have HM6 := Lib.hid hm6; have HT6 := Lib.hid ht6; have HF6 := Lib.hid hf6
                clear hu6 hm6 ht6 hf6 HST HBS x0
                cases hw6 with
                | idle hs =>
                  subst hs
                  have HE := Lib.hid (HA1.out.step HU6.out HM6.out HT6.out HF6.out (fun q e => by cases e))
                  simp only [Option.isSome_none]
                  go_wp2_with fail
                  go_meet
                  exact ⟨g6, own6, s6, C, none, a0, a1, rfl, rfl, HE.out⟩
                | home q h1 h2 h3 =>
                  have HE := Lib.hid (HA1.out.step HU6.out HM6.out HT6.out HF6.out (fun q e => e))
                  have HP := Lib.hid h3
                  clear h1 h2 h3
                  simp only [Option.isSome_some]
                  go_wp2_with fail
                  go_meet
                  exact ⟨g6, own6, s6, C, _, a0, a1, by rw [HP.out.1], by rw [HP.out.2], HE.out⟩
                | done q h1 h2 =>
                  have HE := Lib.hid (HA1.out.step HU6.out HM6.out HT6.out HF6.out (fun q e => by cases e))
                  have hat := (HA1.out.tgs q rfl).2
                  have HP := Lib.hid (show (s6.x.st : Int) = a0 ∧ (s6.x.ln : Int) = a1 from ⟨h2.1.trans hat.1.symm, h2.2.trans hat.2.symm⟩)
                  have y0 := HE.out.a.b.cell 0; have y1 := HE.out.a.b.cell 1
                  simp only [List.getElem?_toArray, List.getElem?_cons_zero, List.getElem?_cons_succ] at y0 y1
                  clear h1 h2 hat
                  simp only [Option.isSome_some]
                  go_wp2_with fail
                  go_meet
                  exact ⟨g6, own6, s6, C, none, a0, a1, by rw [HP.out.1], by rw [HP.out.2], HE.out⟩
              · have t1 : (kd == 1) = false := by simpa using k1
                by_cases k2 : kd = 2
                · as_aux_lemma =>
                  have t2 : (kd == 2) = true := by simp [k2]
                  have HCN := Lib.hid (rel_cancel HA1.out.m)
                  clear x1 x2
                  go_wp2_with fail
                  refine HCN.out.mono ?_
                  rintro e w5 ⟨rfl, hm5, hg5⟩
                  have HE := Lib.hid (HA1.out.mov hg5 ⟨HA1.out.u.at_.mover HA1.out.m hg5, use_out_mb HA1.out.u HA1.out.m.2.1 (turn_gmb hg5), HA1.out.u.gd, HA1.out.u.w, HA1.out.u.sees⟩ hm5 (fun q e => by cases e))
                  clear hm5 hg5 HCN x0
                  go_wp2_with fail
                  go_meet
                  exact ⟨g, ow, s, C, none, a0, a1, rfl, rfl, HE.out⟩
                · have t2 : (kd == 2) = false := by simpa using k2
                  by_cases k3 : kd = 3
                  · as_aux_lemma =>
                    have t3 : (kd == 3) = true := by simp [k3]
                    have HBG := Lib.hid (use_begin HA1.out.u)
                    clear x1 x2
                    go_wp2_with fail
                    refine HBG.out.mono ?_
                    rintro e w5 ⟨rfl, wm5, hu5, ht5⟩
                    have HD0 := Lib.hid (grown_drew w5 none)
                    have HU5 := Lib.hid (hu5.quiet HD0.out)
                    have HTA := Lib.hid ((turn_mb (mb := mb) ht5).trans (Turn.none_ HD0.out))
                    have HMA := Lib.hid ((HA1.out.m.turn ht5).quiet HD0.out)
                    have HX5 := Lib.hid (HX1.out.turn HTA.out)
                    have HKX := Lib.hid (show ∀ (wz : World) (F : Nat → Prop), Kb wz F xb 74 #[.int .i64 kd, .int .i64 st, .int .i64 le, .int .i64 pa, .int .i64 fi, .bool lf, .slice xA xn xc] → wz.cell? ⟨xb, 3, none⟩ = some (.int .i64 pa) ∧ wz.cell? ⟨xb, 4, none⟩ = some (.int .i64 fi) from fun wz F h => ⟨by rw [h.b.cell]; rfl, by rw [h.b.cell]; rfl⟩)
                    have HPC := Lib.hid (page7_call fi w5.drew)
                    clear hu5 ht5 HBG x0
                    by_cases hpa : 0 ≤ pa ∧ pa < 16
                    · obtain ⟨k, rfl⟩ : ∃ k : Nat, pa = (k : Int) := ⟨pa.toNat, by omega⟩
                      have hk16 : k < 16 := by omega
                      have HWR := Lib.hid (fun (wp : World) (gp : Nat) (hgp : w5.drew.heap.size ≤ gp) (hbp : Blk wp gp 5 (u8s (bodyOne fi)).toArray) (hgq : w5.drew.grownBy wp none) =>
                        show Calls Tryz.prog 15 #[.pointer (some ⟨sb, 0, none⟩), .int .i64 (k : Nat), .agg #[.int .i64 5, .slice (some ⟨gp, 0, none⟩) 240 240]] wp _ from use_write (HU5.out.quiet hgq) hk16 (page7_val (F := Foot ow tb g sb dm wm5) hbp (fun e => by have := HU5.out.foot_lt e; omega)) (one_ok k (by omega) fi) (by rw [(keys_nil PgsOk.none_).2 rfl]; simp))
                      go_wp2_with fail
                      go_region_held3 (fun wz => wz.cell? ⟨xb, 3, none⟩ = some (.int .i64 (k : Nat)) ∧ wz.cell? ⟨xb, 4, none⟩ = some (.int .i64 fi))
                        (first
                          | exact HKX.out _ _ HX5.out
                          | exact HKX.out _ _ HX6.out
                          | exact HKX.out _ _ HX7.out)
                        (first
                          | (go_at_call 38
                             (with_reducible refine HPC.out.mono ?_)
                             rintro e w6 ⟨gp, rfl, hgp, hbp, hgq⟩
                             have HGP := Lib.hid hgp; have HBP := Lib.hid hbp; have HGQ := Lib.hid hgq
                             have HX6 := Lib.hid (HX5.out.quiet hgq)
                             clear hgp hbp hgq)
                          | (go_at_call 15
                             (with_reducible refine (HWR.out _ gp HGP.out HBP.out HGQ.out).mono ?_)
                             rintro e w7 ⟨rfl, ow7, hu7, ht7⟩
                             have HU7 := Lib.hid hu7
                             have HX7 := Lib.hid (HX6.out.turn (turn_mb ht7))
                             have HT7 := Lib.hid ((HTA.out.trans (Turn.none_ HGQ.out)).trans (turn_mb ht7))
                             have HM7 := Lib.hid ((HMA.out.quiet HGQ.out).turn ht7)
                             clear hu7 ht7))
                      have HCM := Lib.hid (use_commit HU7.out (by have := HA1.out.gn; show s.x.gn < _; omega) (by have := HA1.out.ep; show s.x.ep ≤ _; omega) (by have := HA1.out.sq; show s.L.seq ≤ _; omega) (fun i => by have := HA1.out.ver i; show (s.S.ver i).length < _; omega))
                      clear HPC HWR HX5 HX6 HGP HBP HU5 HMA
                      go_wp2_with fail
                      refine HCM.out.mono ?_
                      rintro e w8 ⟨rfl, own8, s8, hu8, hn8, ht8⟩
                      have HT8 := Lib.hid (HT7.out.trans (turn_mb ht8))
                      have HX8 := Lib.hid (HX1.out.turn HT8.out)
                      have hf8 := HA1.out.f.turn HT8.out
                      have hu8' := hu8
                      rw [over_one] at hu8'
                      have HP := Lib.hid (show s8.x.st = s.x.st ∧ s8.x.ln = s.x.ln from hn8.pl)
                      have HE := Lib.hid (Kp.put hu8' (HM7.out.turn ht8) hf8 (HA1.out.a.turn HT8.out) HA1.out hn8.gn.2 hn8.ep hn8.seq hn8.ver)
                      have x3 := HX8.out.b.cell 3; have x4 := HX8.out.b.cell 4
                      have z0 := hf8.b.cell k
                      have zf := hf8.b.frozen k
                      rw [flC_at _ hk16] at z0
                      simp only [List.getElem?_toArray, List.getElem?_cons_zero, List.getElem?_cons_succ] at x3 x4
                      have hfb : fi % 256 = ((fillB fi 0 : Nat) : Int) := by unfold fillB; omega
                      have hkn : (k : Int) < 16 := by omega
                      clear hu8 hu8' hn8 ht8 hf8 HCM HU7 HX7 HT7 HM7
                      go_wp2_with fail
                      go_meet
                      exact ⟨g, own8, s8, _, tg, a0, a1, by rw [HP.out.1], by rw [HP.out.2], HE.out⟩
                    · have hpb : (decide (0 ≤ pa) && decide (pa < 16)) = false := by simp; omega
                      have HWR := Lib.hid (fun (wp : World) (gp : Nat) (hgp : w5.drew.heap.size ≤ gp) (hbp : Blk wp gp 5 (u8s (bodyOne fi)).toArray) (hgq : w5.drew.grownBy wp none) =>
                        show Calls Tryz.prog 15 #[.pointer (some ⟨sb, 0, none⟩), .int .i64 pa, .agg #[.int .i64 5, .slice (some ⟨gp, 0, none⟩) 240 240]] wp _ from use_write_bad (HU5.out.quiet hgq) hpb (page7_val (F := Foot ow tb g sb dm wm5) hbp (fun e => by have := HU5.out.foot_lt e; omega)))
                      go_wp2_with fail
                      go_region_held3 (fun wz => wz.cell? ⟨xb, 3, none⟩ = some (.int .i64 pa) ∧ wz.cell? ⟨xb, 4, none⟩ = some (.int .i64 fi))
                        (first
                          | exact HKX.out _ _ HX5.out
                          | exact HKX.out _ _ HX6.out
                          | exact HKX.out _ _ HX7.out)
                        (first
                          | (go_at_call 38
                             (with_reducible refine HPC.out.mono ?_)
                             rintro e w6 ⟨gp, rfl, hgp, hbp, hgq⟩
                             have HGP := Lib.hid hgp; have HBP := Lib.hid hbp; have HGQ := Lib.hid hgq
                             have HX6 := Lib.hid (HX5.out.quiet hgq)
                             clear hgp hbp hgq)
                          | (go_at_call 15
                             (with_reducible refine (HWR.out _ gp HGP.out HBP.out HGQ.out).mono ?_)
                             rintro e w7 ⟨rfl, ow7, hu7, ht7⟩
                             have HU7 := Lib.hid hu7
                             have HX7 := Lib.hid (HX6.out.turn (turn_mb ht7))
                             have HT7 := Lib.hid ((HTA.out.trans (Turn.none_ HGQ.out)).trans (turn_mb ht7))
                             have HM7 := Lib.hid ((HMA.out.quiet HGQ.out).turn ht7)
                             clear hu7 ht7))
                      have HCM := Lib.hid (use_commit HU7.out (by have := HA1.out.gn; show s.x.gn < _; omega) (by have := HA1.out.ep; show s.x.ep ≤ _; omega) (by have := HA1.out.sq; show s.L.seq ≤ _; omega) (fun i => by have := HA1.out.ver i; show (s.S.ver i).length < _; omega))
                      clear HPC HWR HX5 HX6 HGP HBP HU5 HMA
                      go_wp2_with fail
                      refine HCM.out.mono ?_
                      rintro e w8 ⟨rfl, own8, s8, hu8, hn8, ht8⟩
                      have hu8' := hu8
                      rw [over_none PgsOk.none_ ((keys_nil PgsOk.none_).2 rfl)] at hu8'
                      have HT8 := HT7.out.trans (turn_mb ht8)
                      have HP := Lib.hid (show s8.x.st = s.x.st ∧ s8.x.ln = s.x.ln from hn8.pl)
                      have HE := Lib.hid (show Kp W w8 b tb g sb dm mb gw ga own8 s8 C tg a0 a1 (j + 1) from
                        ⟨hu8', HM7.out.turn ht8, HA1.out.f.turn HT8, HA1.out.a.turn HT8, HA1.out.lo, HA1.out.tgs, HA1.out.kd, by have h1 := HA1.out.gn; have h2 : s8.x.gn ≤ s.x.gn + 1 := hn8.gn.2; omega, by have h1 := HA1.out.ep; have h2 : s8.x.ep = s.x.ep := hn8.ep; omega,
                          by have h1 := HA1.out.sq; have h2 : s.L.seq ≤ s8.L.seq ∧ s8.L.seq ≤ s.L.seq + 1 := hn8.seq; omega, fun i => by have h1 := HA1.out.ver i; have h2 : (s8.S.ver i).length ≤ (s.S.ver i).length + 1 := hn8.ver i; omega⟩)
                      clear hu8 hu8' hn8 ht8 HT8 HCM HU7 HX7 HT7 HM7
                      go_wp2_with fail
                      go_meet
                      exact ⟨g, own8, s8, C, tg, a0, a1, by rw [HP.out.1], by rw [HP.out.2], HE.out⟩
                  · as_aux_lemma =>
                    have t3 : (kd == 3) = false := by simpa using k3
                    have HE := Lib.hid HA1.out.next
                    clear x1 x2
                    go_wp2_with fail
                    go_meet
                    exact ⟨g, ow, s, C, tg, a0, a1, rfl, rfl, HE.out⟩
          case rest =>
            obtain ⟨g2, ow2, s2, C2, tg2, b0, b1, rfl, rfl, hk2⟩ := hcut
            have HK2 := Lib.hid hk2
            have HSU := Lib.hid (super_is7 hk2.u.at_)
            clear hk2 HA1 HX1 x0
            go_wp2_with fail
            refine HSU.out.mono ?_
            rintro e w7 ⟨rfl, hg7⟩
            have hga := World.grownBy_alloc w7 (.cells #[.int .i64 (s2.x.gn : Nat), .int .i64 (s2.x.ep : Nat), .int .i64 (s2.x.pg : Nat), .int .i64 (s2.x.st : Nat), .int .i64 (s2.x.ln : Nat), .int .i64 (s2.x.hd : Nat), .int .i64 (s2.x.sq : Nat)] 49) none
            have HK3 := Lib.hid (HK2.out.quiet (hg7.trans hga))
            have hbx := Blk.new w7 49 #[.int .i64 (s2.x.gn : Nat), .int .i64 (s2.x.ep : Nat), .int .i64 (s2.x.pg : Nat), .int .i64 (s2.x.st : Nat), .int .i64 (s2.x.ln : Nat), .int .i64 (s2.x.hd : Nat), .int .i64 (s2.x.sq : Nat)]
            have x3 := hbx.cell 3; have x4 := hbx.cell 4
            simp only [List.getElem?_toArray, List.getElem?_cons_zero, List.getElem?_cons_succ] at x3 x4
            clear hg7 hga hbx HSU HK2
            go_wp2_with fail
            go_roundw
            case rel => exact ⟨j + 1, g2, ow2, s2, C2, tg2, b0, b1, by omega, by first | rfl | simp, rfl, rfl, HK3.out⟩
            case measure => simp [Go.RowKit.intOf]; omega
        · have hje : j = n := by omega
          have hjn : ¬ ((j : Int) < (n : Int)) := by omega
          clear HSC
          go_wp2_with fail
          go_loopw [18, 19, 20] (fun i _ _ wx => ∃ q : Nat, q ≤ 16 ∧ i = .int .i64 q ∧ Kp W wx b tb g sb dm mb gw ga ow s C tg a0 a1 j) (fun i _ _ _ => 16 - (Go.RowKit.intOf i).toNat)
          case atStart => exact ⟨0, by omega, rfl, HA.out⟩
          case round =>
            clear HA
            obtain ⟨q, hq, rfl, ha⟩ := hrel
            have HA := Lib.hid ha
            clear ha
            by_cases hlq : q < 16
            · have hqn : (q : Int) < 16 := by omega
              have HRD := Lib.hid (use_read HA.out.u hlq)
              go_wp2_with fail
              refine HRD.out.mono ?_
              rintro e w2 ⟨v, rfl, hv, hu2, ht2⟩
              have hv2 : PgV w2 (fun i => i < wr.heap.size) v ((C q).getD (0, [])) := hv
              have HA2 := Lib.hid (show Kp W w2 b tb g sb dm mb gw ga ow s C tg a0 a1 j from ⟨hu2, HA.out.m.turn ht2, HA.out.f.turn (turn_mb ht2), HA.out.a.turn (turn_mb ht2), HA.out.lo, HA.out.tgs, HA.out.kd, HA.out.gn, HA.out.ep, HA.out.sq, HA.out.ver⟩)
              obtain ⟨_, rfl, Av, nv, cv, rfl, hnc, hdv⟩ := hv2
              clear hv hu2 ht2 HRD HA
              cases hC : C q with
              | none =>
                try rw [hC] at hdv
                simp only [Option.getD_none] at hdv ⊢
                have hga := World.grownBy_alloc w2 (.cells #[.int .i64 0, .slice Av nv cv] 40) none
                have HA3 := Lib.hid (HA2.out.quiet hga)
                have hbx := Blk.new w2 40 #[.int .i64 0, .slice Av nv cv]
                have x0 := hbx.cell 0; have x1 := hbx.cell 1
                have z0 := HA3.out.f.b.cell q
                rw [flC_at _ hlq, hC, show flV none = -1 from rfl] at z0
                simp only [List.getElem?_toArray, List.getElem?_cons_zero, List.getElem?_cons_succ] at x0 x1
                clear hga hbx HA2 hnc hdv
                go_wp2_with fail
                generalize w2.alloc (.cells #[.int .i64 0, .slice Av nv cv] 40) = wz at *
                go_quiet (fail)
                go_wp2_with fail
                exact ⟨⟨q + 1, by omega, by simp, HA3.out.quiet (grown_drewN (World.grownBy.refl _ _) _)⟩, by simp [Go.RowKit.intOf]; omega⟩
              | some r =>
                obtain ⟨f, hr⟩ := HA2.out.kd q r hC
                try rw [hC] at hdv
                simp only [Option.getD_some] at hdv ⊢
                subst hr
                dsimp only at hdv ⊢
                obtain ⟨hln, _, hdc⟩ := hdv
                rw [bodyOne_len] at hln
                subst hln
                obtain ⟨gv, ov, rfl, hgl, _, hcl⟩ := hdc (by omega)
                have hga := World.grownBy_alloc w2 (.cells #[.int .i64 5, .slice (some ⟨gv, ov, none⟩) 240 cv] 40) none
                have HA3 := Lib.hid (HA2.out.quiet hga)
                have hbx := Blk.new w2 40 #[.int .i64 5, .slice (some ⟨gv, ov, none⟩) 240 cv]
                have x0 := hbx.cell 0; have x1 := hbx.cell 1
                have z0 := HA3.out.f.b.cell q
                rw [flC_at _ hlq, hC, flV_one] at z0
                simp only [List.getElem?_toArray, List.getElem?_cons_zero, List.getElem?_cons_succ] at x0 x1
                have hb0 : ∀ i, i < 240 → (bodyOne f).getD i 0 = fillB f 0 := fun i hi => by
                  unfold bodyOne
                  rw [List.getD_eq_getElem?_getD, List.getElem?_replicate, if_pos hi]; rfl
                have y0 := hcl 0 (by omega); have y9 := hcl 239 (by omega)
                rw [hb0 0 (by omega)] at y0; rw [hb0 239 (by omega)] at y9
                rw [← World.cell?_of_block (a := ⟨gv, ov + 0, none⟩) (hga.block gv hgl (by simp))] at y0
                rw [← World.cell?_of_block (a := ⟨gv, ov + 239, none⟩) (hga.block gv hgl (by simp))] at y9
                rw [Nat.add_zero] at y0
                have hfl := fillB_lt f 0
                generalize fillB f 0 = c0 at *
                have hc1 : ¬ ((c0 : Int) < 0) := by omega
                have hc2 : (0 : Int) ≤ (c0 : Int) := by omega
                have hc3 : IntKind.u8.wrap (c0 : Int) = (c0 : Int) := by rw [IntKind.wrap_u8]; omega
                have hc4 : ((c0 : Int) != (c0 : Int)) = false := bne_self_eq_false _
                have hc5 : ((c0 : Int) != IntKind.u8.wrap (c0 : Int)) = false := by rw [hc3]; exact bne_self_eq_false _
                have hc6 : decide ((c0 : Int) < 0) = false := decide_eq_false hc1
                clear hga hbx HA2 hnc hdc hcl hb0 hgl
                go_wp2_with fail
                generalize w2.alloc (.cells #[.int .i64 5, .slice (some ⟨gv, ov, none⟩) 240 cv] 40) = wz at *
                go_quiet (fail)
                go_wp2_with fail
                exact ⟨⟨q + 1, by omega, by simp, HA3.out.quiet (grown_drewN (World.grownBy.refl _ _) _)⟩, by simp [Go.RowKit.intOf]; omega⟩
            · have hqe : q = 16 := by omega
              have hqn : ¬ ((q : Int) < 16) := by omega
              have HE := Lib.hid HA.out.u.gr
              go_wp2_with fail
              go_ret
              exact ⟨rfl, below_of_grown HE.out (Nat.le_refl _) (fun _ e => by cases e)⟩
end Go.Proofs.YteaokeiolgjhaaaGreat.RelogKeepsUpto
