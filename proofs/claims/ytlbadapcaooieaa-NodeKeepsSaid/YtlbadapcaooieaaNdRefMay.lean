/- When a node may be, by the document: fits, May; the project's Check. -/
import Derived.Test.YtlbadapcaooieaaNdSmall
import Derived.Deep.QuietTactic
namespace Go.Proofs.Ytlbadapcaooieaa.Node
open Go.RowKit CrcMath Mem Crc Codec NdSpec
set_option linter.unusedVariables false
set_option linter.unusedSimpArgs false

theorem fits_call (k v : Int) (w : World) : Calls Try.prog 29 #[.int .i64 k, .int .i64 v] w fun e w' => e = .returned (.bool (inK k && inV v)) ∧ w' = w := by
  by_cases h1 : 0 ≤ k
  · by_cases h2 : k < 1048576
    · by_cases h3 : 1 ≤ v
      · by_cases h4 : v < 1024
        · have hr : (inK k && inV v) = true := by simp [inK, inV, h1, h2, h3, h4]
          have h3' : (0 : Int) < v := by omega
          rw [hr]
          clear hr
          go_enter Try.func29, Try.ntmps29
          go_wp2
          go_ret
          exact ⟨rfl, rfl⟩
        · have hr : (inK k && inV v) = false := by simp [inK, inV, h1, h2, h3, h4]
          have h3' : (0 : Int) < v := by omega
          rw [hr]
          clear hr
          go_enter Try.func29, Try.ntmps29
          go_wp2
          go_ret
          exact ⟨rfl, rfl⟩
      · have hr : (inK k && inV v) = false := by simp [inK, inV, h1, h2, h3]
        have h3' : ¬ (0 : Int) < v := by omega
        rw [hr]
        clear hr
        go_enter Try.func29, Try.ntmps29
        go_wp2
        go_ret
        exact ⟨rfl, rfl⟩
    · have hr : (inK k && inV v) = false := by simp [inK, inV, h1, h2]
      rw [hr]
      clear hr
      go_enter Try.func29, Try.ntmps29
      go_wp2
      go_ret
      exact ⟨rfl, rfl⟩
  · have hr : (inK k && inV v) = false := by simp [inK, inV, h1]
    rw [hr]
    clear hr
    go_enter Try.func29, Try.ntmps29
    go_wp2
    go_ret
    exact ⟨rfl, rfl⟩

set_option maxRecDepth 100000 in
set_option maxHeartbeats 1600000 in
theorem rmay_call {w : World} {A A' : Option Addr} {n n' c c' : Nat} {ks vs : List Int} (lf : Bool) (h : NdAt w A A' n n' c c' ks vs) :
    Calls Try.prog 11 #[.agg #[.bool lf, .slice A n c, .slice A' n' c']] w fun e w' => e = .returned (.bool (may lf ks vs)) ∧ w.grownBy w' none := by
  have hg0 := World.grownBy_alloc w (.cells #[.bool lf, .slice A n c, .slice A' n' c'] 24) none
  have hb0 := Blk.new w 24 #[.bool lf, .slice A n c, .slice A' n' c']
  have hkl := h.klen; have hvl := h.vlen
  have HG0 := Lib.hid hg0
  by_cases h1 : n' = n
  case neg =>
    have hno := may_no1 (lf := lf) (ks := ks) (vs := vs) (by omega)
    have hne : (((n : Nat) : Int) != ((n' : Nat) : Int)) = true := by simp; omega
    have HNO := Lib.hid hno
    clear h hkl hvl hno hb0 hg0
    generalize may lf ks vs = r at *
    go_enter Try.func11, Try.ntmps11
    go_wp2
    go_ret
    exact ⟨by rw [HNO.out]; rfl, HG0.out⟩
  subst h1
  by_cases h2 : 8 < n'
  · have hno := may_no2 (lf := lf) (ks := ks) (vs := vs) (by omega)
    have HNO := Lib.hid hno
    clear h hkl hvl hno hb0 hg0
    generalize may lf ks vs = r at *
    go_enter Try.func11, Try.ntmps11
    go_wp2
    go_ret
    exact ⟨by rw [HNO.out]; rfl, HG0.out⟩
  by_cases h3 : lf = false ∧ n' = 0
  · obtain ⟨rfl, rfl⟩ := h3
    have hno := may_no3 (lf := false) (ks := ks) (vs := vs) rfl hkl
    have HNO := Lib.hid hno
    clear h hkl hvl hno hb0 hg0
    generalize may false ks vs = r at *
    go_enter Try.func11, Try.ntmps11
    go_wp2
    go_ret
    exact ⟨by rw [HNO.out]; rfl, HG0.out⟩
  have hyes := @may_yes lf ks vs (by omega) (by omega) (by cases lf <;> simp_all) 
  have hno := @may_no4 lf ks vs
  have HY := Lib.hid hyes; have HN := Lib.hid hno; have HB := Lib.hid hb0; have H := Lib.hid h; have HKL := Lib.hid hkl; have HVL := Lib.hid hvl
  have h3' : lf = true ∨ 0 < n' := by cases lf <;> simp_all <;> omega
  have h8 : n' ≤ 8 := by omega
  clear h hkl hvl hno hb0 hg0 hyes h3 h2
  generalize may lf ks vs = r at *
  cases lf
  all_goals
    first | (have h0 : 0 < n' := by simpa using h3'
             have hn0 : ((n' : Int) == 0) = false := by simp; omega) | skip
    clear h3'
    go_enter Try.func11, Try.ntmps11
    go_wp2_with fail
    go_loopw [3] (fun i wr => ∃ j : Nat, j ≤ n' ∧ i = .int .i64 j ∧ (w.alloc (.cells #[.bool _, .slice A n' c, .slice A' n' c'] 24)).grownBy wr none ∧ (∀ q, q < j → okAt ks vs q = true)) (fun i _ => n' - (intOf i).toNat)
    case atStart => exact ⟨0, by omega, rfl, World.grownBy.refl _ _, fun q hq => by omega⟩
    case round =>
      obtain ⟨j, hj, rfl, hg, hin⟩ := hrel
      have HG := Lib.hid hg; have HIN := Lib.hid hin
      have hbx := HB.out.grown hg (by simp)
      have x1 := hbx.cell 1; have x2 := hbx.cell 2
      simp only [List.getElem?_toArray, List.getElem?_cons_zero, List.getElem?_cons_succ] at x1 x2
      clear hg hin hbx
      by_cases hlt : j < n'
      · obtain ⟨g, o, rfl, _, hc⟩ := (H.out.keep (HG0.out.trans HG.out)).kc (by omega)
        obtain ⟨g', o', rfl, _, hc'⟩ := (H.out.keep (HG0.out.trans HG.out)).vc (by omega)
        have y1 := hc j hlt; have y2 := hc' j hlt
        have j0 : (0 : Int) ≤ j := by omega
        have j1 : (j : Int) < n' := by omega
        cases e1 : (inK (ks.getD j 0) && inV (vs.getD j 0)) with
        | false =>
          have HNO := Lib.hid (HN.out j (by rw [HKL.out]; exact hlt) (okAt_no12 e1))
          have HE1 := Lib.hid (fun w => e1 ▸ fits_call (ks.getD j 0) (vs.getD j 0) w)
          clear hc hc' e1
          generalize ks.getD j 0 = x at *
          generalize vs.getD j 0 = y at *
          go_wp2_with fail
          go_quiet ((go_at_call 29; exact Calls.quiet_of_same (HE1.out _)))
          go_wp2_with fail
          go_region
          go_wp2
          go_ret
          exact ⟨by rw [HNO.out]; rfl, grown_trans_none (HG0.out.trans HG.out) ⟨rfl, rfl, rfl, Nat.le_refl _, fun _ _ _ => rfl⟩⟩
        | true =>
          have HE1 := Lib.hid (fun w => e1 ▸ fits_call (ks.getD j 0) (vs.getD j 0) w)
          obtain ⟨e2, e3⟩ := Bool.and_eq_true_iff.1 e1
          by_cases hj0 : j = 0
          · have hok : okAt ks vs j = true := okAt_mk e2 e3 (.inl hj0)
            have HI1 := Lib.hid (show ∀ q, q < j + 1 → okAt ks vs q = true from fun q hq => by
              obtain rfl : q = j := by omega
              exact hok)
            have hjn : decide (0 < j) = false := by simp; omega
            clear hc hc' e1 e2 e3 hok hj0
            generalize ks.getD j 0 = x at *
            generalize vs.getD j 0 = y at *
            go_wp2_with fail
            go_quiet ((go_at_call 29; exact Calls.quiet_of_same (HE1.out _)))
            go_wp2_with fail
            go_region
            go_wp2_with fail
            go_roundw
            case rel => exact ⟨j + 1, by omega, by go_num, grown_trans_none HG.out ⟨rfl, rfl, rfl, Nat.le_refl _, fun _ _ _ => rfl⟩, HI1.out⟩
            case measure => simp [intOf]; omega
          · obtain ⟨k, hk⟩ : ∃ k, j = k + 1 := ⟨j - 1, by omega⟩
            have y3 := hc k (by omega)
            have hjn : decide (0 < j) = true := by simp; omega
            have hw1 : IntKind.i64.wrap ((j : Int) - 1) = (k : Int) := by rw [show (j : Int) - 1 = (k : Int) from by omega]; exact IntWalk.i64_in _ (by omega)
            have hkj : j - 1 = k := by omega
            have HKJ := Lib.hid hkj
            have k0 : (0 : Int) ≤ k := by omega
            have k1 : (k : Int) < n' := by omega
            clear hk hkj hj0
            by_cases hxy : ks.getD k 0 < ks.getD j 0
            · have hok : okAt ks vs j = true := okAt_mk e2 e3 (.inr (by rw [HKJ.out]; exact hxy))
              have HI1 := Lib.hid (show ∀ q, q < j + 1 → okAt ks vs q = true from fun q hq => by
                by_cases e : q = j
                · subst e; exact hok
                · exact HIN.out q (by omega))
              clear hc hc' e1 e2 e3 hok
              generalize ks.getD j 0 = x at *
              generalize ks.getD k 0 = z at *
              generalize vs.getD j 0 = y at *
              have hxz : decide (x ≤ z) = false := by simp; omega
              go_wp2_with fail
              go_quiet ((go_at_call 29; exact Calls.quiet_of_same (HE1.out _)))
              go_wp2_with fail
              go_region
              go_wp2_with fail
              go_roundw
              case rel => exact ⟨j + 1, by omega, by go_num, grown_trans_none HG.out ⟨rfl, rfl, rfl, Nat.le_refl _, fun _ _ _ => rfl⟩, HI1.out⟩
              case measure => simp [intOf]; omega
            · have HNO := Lib.hid (HN.out j (by rw [HKL.out]; exact hlt) (okAt_no3 (by intro e; subst e; simp at hjn) (by rw [HKJ.out]; omega)))
              clear hc hc' e1 e2 e3
              generalize ks.getD j 0 = x at *
              generalize ks.getD k 0 = z at *
              generalize vs.getD j 0 = y at *
              have hxz : decide (x ≤ z) = true := by simp; omega
              go_wp2_with fail
              go_quiet ((go_at_call 29; exact Calls.quiet_of_same (HE1.out _)))
              go_wp2_with fail
              go_region
              go_wp2
              go_ret
              exact ⟨by rw [HNO.out]; rfl, grown_trans_none (HG0.out.trans HG.out) ⟨rfl, rfl, rfl, Nat.le_refl _, fun _ _ _ => rfl⟩⟩
      · obtain rfl : j = n' := by omega
        have HD := Lib.hid (HY.out (fun q hq => HIN.out q (by rw [← HKL.out]; exact hq)))
        go_wp2
        go_ret
        exact ⟨by rw [HD.out]; rfl, HG0.out.trans HG.out⟩

set_option maxRecDepth 100000 in
theorem check_call {w : World} {A A' : Option Addr} {n n' c c' : Nat} {ks vs : List Int} (lf : Bool) (h : NdAt w A A' n n' c c' ks vs) :
    Calls Try.prog 12 #[.agg #[.bool lf, .slice A n c, .slice A' n' c']] w fun e w' => e = .returned (.int .i64 (if may lf ks vs then 0 else 22)) ∧ w.grownBy w' none := by
  have HG0 := Lib.hid (World.grownBy_alloc w (.cells #[.bool lf, .slice A n c, .slice A' n' c'] 24) none)
  have HM := Lib.hid (mayBe_call lf (h.keep HG0.out))
  clear h
  generalize may lf ks vs = r at *
  cases r
  all_goals
    go_enter Try.func12, Try.ntmps12
    go_wp2_with fail
    refine HM.out.mono ?_
    rintro e w1 ⟨rfl, hg⟩
    have HG := Lib.hid (HG0.out.trans hg)
    clear hg
    go_wp2
    go_ret
    exact ⟨rfl, HG.out⟩
end Go.Proofs.Ytlbadapcaooieaa.Node
