/- follows: whether two nodes of one kind may stand one behind the other. -/
import Derived.Test.YtlbadapcaooieaaNdHalves
namespace Go.Proofs.Ytlbadapcaooieaa.Node
open Go.RowKit CrcMath Mem Crc Codec NdSpec
set_option linter.unusedVariables false
set_option linter.unusedSimpArgs false

set_option maxRecDepth 100000 in
set_option maxHeartbeats 3200000 in
theorem follows_call {w : World} {A A' B B' : Option Addr} {n n' c c' m m' d d' : Nat} {ka va kb vb : List Int} (la lb : Bool) (h : NdAt w A A' n n' c c' ka va) (k : NdAt w B B' m m' d d' kb vb) :
    Calls Try.prog 38 #[.agg #[.bool la, .slice A n c, .slice A' n' c'], .agg #[.bool lb, .slice B m d, .slice B' m' d']] w fun e w' => e = .returned (.bool (follows la ka va lb kb vb)) ∧ w.grownBy w' none := by
  have hg0 := (World.grownBy_alloc w (.cells #[.bool la, .slice A n c, .slice A' n' c'] 24) none).trans (World.grownBy_alloc _ (.cells #[.bool lb, .slice B m d, .slice B' m' d'] 24) none)
  obtain ⟨hb1, hb2⟩ := two2 w 24 #[.bool la, .slice A n c, .slice A' n' c'] #[.bool lb, .slice B m d, .slice B' m' d']
  have HG0 := Lib.hid hg0; have HB1 := Lib.hid hb1; have HB2 := Lib.hid hb2
  have HA := Lib.hid h; have HK := Lib.hid k
  have hkl := h.klen; have hml := k.klen
  have HM1 := Lib.hid (mayBe_call la (h.keep hg0))
  cases e1 : may la ka va with
  | false =>
    have hr : follows la ka va lb kb vb = false := by simp [follows, e1]
    rw [hr]
    rw [e1] at HM1
    clear h k hg0 hb1 hb2 hr e1 hkl hml
    go_enter Try.func38, Try.ntmps38
    go_wp2_with fail
    refine HM1.out.mono ?_
    rintro e w1 ⟨rfl, hg⟩
    have HG1 := Lib.hid (HG0.out.trans hg)
    clear hg
    go_wp2
    go_ret
    exact ⟨rfl, HG1.out⟩
  | true =>
    rw [e1] at HM1
    have hn8 := (may_len e1).2.1
    cases e2 : may lb kb vb with
    | false =>
      have hr : follows la ka va lb kb vb = false := by simp [follows, e2]
      rw [hr]
      have E2 := Lib.hid e2
      clear h k hg0 hb1 hb2 hr e1 e2 hkl hml hn8
      go_enter Try.func38, Try.ntmps38
      go_wp2_with fail
      refine HM1.out.mono ?_
      rintro e w1 ⟨rfl, hg⟩
      have HG1 := Lib.hid (HG0.out.trans hg)
      have x := HB2.out.grown hg (by simp)
      obtain ⟨x0, x1, x2⟩ := box3 x
      clear hg x
      go_wp2_with fail
      refine (mayBe_call lb (HK.out.keep HG1.out)).mono ?_
      rw [E2.out]
      rintro e w2 ⟨rfl, hg⟩
      have HG2 := Lib.hid (HG1.out.trans hg)
      clear hg x0 x1 x2
      go_wp2
      go_ret
      exact ⟨rfl, HG2.out⟩
    | true =>
      have hm8 := (may_len e2).2.1
      have E2 := Lib.hid e2
      by_cases e3 : la = lb
      case neg =>
        have hr : follows la ka va lb kb vb = false := by simp [follows, e1, e2, e3]
        rw [hr]
        have hll : (la == lb) = false := by simp; exact e3
        clear h k hg0 hb1 hb2 hr e1 e2 hkl hml e3
        go_enter Try.func38, Try.ntmps38
        go_wp2_with fail
        refine HM1.out.mono ?_
        rintro e w1 ⟨rfl, hg⟩
        have HG1 := Lib.hid (HG0.out.trans hg)
        have x := HB2.out.grown hg (by simp); have y := HB1.out.grown hg (by simp)
        have HX := Lib.hid x; have HY := Lib.hid y
        obtain ⟨x0, x1, x2⟩ := box3 x
        clear hg x y
        go_wp2_with fail
        refine (mayBe_call lb (HK.out.keep HG1.out)).mono ?_
        rw [E2.out]
        rintro e w2 ⟨rfl, hg⟩
        have HG2 := Lib.hid (HG1.out.trans hg)
        have y0 := (box3 (HX.out.grown hg (by simp))).1; have z0 := (box3 (HY.out.grown hg (by simp))).1
        clear hg x0 x1 x2
        go_wp2
        go_ret
        exact ⟨rfl, HG2.out⟩
      subst e3
      have hr : follows la ka va la kb vb = seam ka kb := by simp [follows, e1, e2]
      rw [hr]
      have hll : (la == la) = true := by simp
      have HKL := Lib.hid hkl; have HML := Lib.hid hml
      by_cases hn : n = 0
      · have hs : seam ka kb = true := by simp [seam, hkl, hn]
        rw [hs]
        have hw1 : IntKind.i64.wrap ((n : Int) - 1) = -1 := by rw [hn]; decide
        clear h k hg0 hb1 hb2 hr e1 e2 hkl hml hn hs
        go_enter Try.func38, Try.ntmps38
        go_wp2_with fail
        refine HM1.out.mono ?_
        rintro e w1 ⟨rfl, hg⟩
        have HG1 := Lib.hid (HG0.out.trans hg)
        have x := HB2.out.grown hg (by simp); have y := HB1.out.grown hg (by simp)
        have HX := Lib.hid x; have HY := Lib.hid y
        obtain ⟨x0, x1, x2⟩ := box3 x
        clear hg x y
        go_wp2_with fail
        refine (mayBe_call la (HK.out.keep HG1.out)).mono ?_
        rw [E2.out]
        rintro e w2 ⟨rfl, hg⟩
        have HG2 := Lib.hid (HG1.out.trans hg)
        obtain ⟨y0, y1, y2⟩ := box3 (HX.out.grown hg (by simp)); obtain ⟨z0, z1, z2⟩ := box3 (HY.out.grown hg (by simp))
        clear hg x0 x1 x2
        go_wp2_with fail
        go_region
        go_wp2
        go_ret
        exact ⟨rfl, HG2.out.trans (grown_drew _ none)⟩
      · obtain ⟨j, hj⟩ : ∃ j, n = j + 1 := ⟨n - 1, by omega⟩
        have hw1 : IntKind.i64.wrap ((n : Int) - 1) = (j : Int) := by rw [show (n : Int) - 1 = (j : Int) from by omega]; exact IntWalk.i64_in _ (by omega)
        by_cases hm : m = 0
        · have hs : seam ka kb = true := by simp [seam, hml, hm]
          rw [hs]
          have hm0 : ((m : Int) == 0) = true := by rw [hm]; rfl
          have jn : decide ((j : Int) < 0) = false := by simp
          clear h k hg0 hb1 hb2 hr e1 e2 hkl hml hn hm hs hj
          go_enter Try.func38, Try.ntmps38
          go_wp2_with fail
          refine HM1.out.mono ?_
          rintro e w1 ⟨rfl, hg⟩
          have HG1 := Lib.hid (HG0.out.trans hg)
          have x := HB2.out.grown hg (by simp); have y := HB1.out.grown hg (by simp)
          have HX := Lib.hid x; have HY := Lib.hid y
          obtain ⟨x0, x1, x2⟩ := box3 x
          clear hg x y
          go_wp2_with fail
          refine (mayBe_call la (HK.out.keep HG1.out)).mono ?_
          rw [E2.out]
          rintro e w2 ⟨rfl, hg⟩
          have HG2 := Lib.hid (HG1.out.trans hg)
          obtain ⟨y0, y1, y2⟩ := box3 (HX.out.grown hg (by simp)); obtain ⟨z0, z1, z2⟩ := box3 (HY.out.grown hg (by simp))
          clear hg x0 x1 x2
          go_wp2_with fail
          go_region
          go_wp2
          go_ret
          exact ⟨rfl, HG2.out.trans (grown_drew _ none)⟩
        · have hs : seam ka kb = decide (ka.getD j 0 < kb.getD 0 0) := by
            unfold seam
            rw [hkl, hml, decide_eq_false hn, decide_eq_false hm, hj, Nat.add_sub_cancel]
            rfl
          rw [hs]
          generalize hx : ka.getD j 0 = x at *
          generalize hy : kb.getD 0 0 = y at *
          have HXE := Lib.hid hx; have HYE := Lib.hid hy
          have hm0 : ((m : Int) == 0) = false := by simp; omega
          have j0 : (0 : Int) ≤ j := by omega
          have j1 : (j : Int) < n := by omega
          have jn : decide ((j : Int) < 0) = false := by simp
          have m1 : (0 : Int) < m := by omega
          have HJN := Lib.hid (show 0 < n ∧ j < n ∧ 0 < m by omega)
          clear h k hg0 hb1 hb2 hr e1 e2 hkl hml hn hm hs hj hx hy
          go_enter Try.func38, Try.ntmps38
          go_wp2_with fail
          refine HM1.out.mono ?_
          rintro e w1 ⟨rfl, hg⟩
          have HG1 := Lib.hid (HG0.out.trans hg)
          have p := HB2.out.grown hg (by simp); have q := HB1.out.grown hg (by simp)
          have HX := Lib.hid p; have HY := Lib.hid q
          obtain ⟨x0, x1, x2⟩ := box3 p
          clear hg p q
          go_wp2_with fail
          refine (mayBe_call la (HK.out.keep HG1.out)).mono ?_
          rw [E2.out]
          rintro e w2 ⟨rfl, hg⟩
          have HG2 := Lib.hid (HG1.out.trans hg)
          obtain ⟨y0, y1, y2⟩ := box3 (HX.out.grown hg (by simp)); obtain ⟨z0, z1, z2⟩ := box3 (HY.out.grown hg (by simp))
          clear hg x0 x1 x2
          obtain ⟨g, o, rfl, _, hc⟩ := (HA.out.keep HG2.out).kc HJN.out.1
          obtain ⟨g', o', rfl, _, hc'⟩ := (HK.out.keep HG2.out).kc HJN.out.2.2
          have q1 := hc j HJN.out.2.1
          have q2 := hc' 0 HJN.out.2.2
          clear hc hc'
          rw [Nat.add_zero, HYE.out] at q2
          rw [HXE.out] at q1
          go_wp2_with fail
          go_region
          go_wp2
          go_ret
          exact ⟨rfl, HG2.out.trans (grown_drew _ none)⟩
end Go.Proofs.Ytlbadapcaooieaa.Node
