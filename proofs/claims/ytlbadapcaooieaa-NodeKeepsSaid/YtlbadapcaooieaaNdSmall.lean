/- When a node may be: the project's mayBe, Check, and the document's May. -/
import Derived.Test.YtlbadapcaooieaaNdMem
namespace Go.Proofs.Ytlbadapcaooieaa.Node
open Go.RowKit CrcMath Mem Crc Codec NdSpec
set_option linter.unusedVariables false
set_option linter.unusedSimpArgs false

theorem isKey_call (k : Int) (w : World) : Calls Try.prog 31 #[.int .i64 k] w fun e w' => e = .returned (.bool (inK k)) ∧ w' = w := by
  cases h : inK k with
  | true =>
    obtain ⟨h1, h2⟩ := inK_yes h
    clear h
    go_enter Try.func31, Try.ntmps31
    go_wp2
    go_ret
    exact ⟨rfl, rfl⟩
  | false =>
    rcases inK_no h with h1 | h1
    · clear h
      have h2 : ¬ (0 ≤ k) := by omega
      go_enter Try.func31, Try.ntmps31
      go_wp2
      go_ret
      exact ⟨rfl, rfl⟩
    · clear h
      have h2 : 0 ≤ k := by omega
      have h3 : ¬ (k < 1048576) := by omega
      go_enter Try.func31, Try.ntmps31
      go_wp2
      go_ret
      exact ⟨rfl, rfl⟩
theorem isVal_call (k : Int) (w : World) : Calls Try.prog 32 #[.int .i64 k] w fun e w' => e = .returned (.bool (inV k)) ∧ w' = w := by
  cases h : inV k with
  | true =>
    obtain ⟨h1, h2⟩ := inV_yes h
    clear h
    go_enter Try.func32, Try.ntmps32
    go_wp2
    go_ret
    exact ⟨rfl, rfl⟩
  | false =>
    rcases inV_no h with h1 | h1
    · clear h
      have h2 : ¬ (1 ≤ k) := by omega
      go_enter Try.func32, Try.ntmps32
      go_wp2
      go_ret
      exact ⟨rfl, rfl⟩
    · clear h
      have h2 : 1 ≤ k := by omega
      have h3 : ¬ (k < 1024) := by omega
      go_enter Try.func32, Try.ntmps32
      go_wp2
      go_ret
      exact ⟨rfl, rfl⟩

set_option maxRecDepth 100000 in
set_option maxHeartbeats 1600000 in
theorem mayBe_call {w : World} {A A' : Option Addr} {n n' c c' : Nat} {ks vs : List Int} (lf : Bool) (h : NdAt w A A' n n' c c' ks vs) :
    Calls Try.prog 30 #[.agg #[.bool lf, .slice A n c, .slice A' n' c']] w fun e w' => e = .returned (.bool (may lf ks vs)) ∧ w.grownBy w' none := by
  have hg0 := World.grownBy_alloc w (.cells #[.bool lf, .slice A n c, .slice A' n' c'] 24) none
  have hb0 := Blk.new w 24 #[.bool lf, .slice A n c, .slice A' n' c']
  have hkl := h.klen; have hvl := h.vlen
  have HG0 := Lib.hid hg0
  by_cases h1 : n' = n
  case neg =>
    have hno := may_no1 (lf := lf) (ks := ks) (vs := vs) (by omega)
    have hne : (((n' : Nat) : Int) != ((n : Nat) : Int)) = true := by simp; omega
    have HNO := Lib.hid hno
    clear h hkl hvl hno hb0 hg0
    generalize may lf ks vs = r at *
    go_enter Try.func30, Try.ntmps30
    go_wp2
    go_ret
    exact ⟨by rw [HNO.out]; rfl, HG0.out⟩
  subst h1
  by_cases h2 : 8 < n'
  · have hno := may_no2 (lf := lf) (ks := ks) (vs := vs) (by omega)
    have HNO := Lib.hid hno
    clear h hkl hvl hno hb0 hg0
    generalize may lf ks vs = r at *
    go_enter Try.func30, Try.ntmps30
    go_wp2
    go_ret
    exact ⟨by rw [HNO.out]; rfl, HG0.out⟩
  by_cases h3 : lf = false ∧ n' = 0
  · obtain ⟨rfl, rfl⟩ := h3
    have hno := may_no3 (lf := false) (ks := ks) (vs := vs) rfl hkl
    have HNO := Lib.hid hno
    clear h hkl hvl hno hb0 hg0
    generalize may false ks vs = r at *
    go_enter Try.func30, Try.ntmps30
    go_wp2
    go_ret
    exact ⟨by rw [HNO.out]; rfl, HG0.out⟩
  have hyes := @may_yes lf ks vs (by omega) (by omega) (by cases lf <;> simp_all) 
  have hno := @may_no4 lf ks vs
  have HY := Lib.hid hyes; have HN := Lib.hid hno; have HB := Lib.hid hb0; have H := Lib.hid h; have HKL := Lib.hid hkl; have HVL := Lib.hid hvl
  have h3' : lf = true ∨ 0 < n' := by cases lf <;> simp_all <;> omega
  have h8 : n' ≤ 8 := by omega
  clear h hkl hvl hno hb0 hg0 hyes h3 h2
  generalize may lf ks vs = r at *
  cases lf
  all_goals
    first | (have h0 : 0 < n' := by simpa using h3'
             have hn0 : ((n' : Int) == 0) = false := by simp; omega) | skip
    clear h3'
    go_enter Try.func30, Try.ntmps30
    go_wp2_with fail
    go_loopw [29] (fun i wr => ∃ j : Nat, j ≤ n' ∧ i = .int .i64 j ∧ (w.alloc (.cells #[.bool _, .slice A n' c, .slice A' n' c'] 24)).grownBy wr none ∧ (∀ q, q < j → okAt ks vs q = true)) (fun i _ => n' - (intOf i).toNat)
    case atStart => exact ⟨0, by omega, rfl, World.grownBy.refl _ _, fun q hq => by omega⟩
    case round =>
      obtain ⟨j, hj, rfl, hg, hin⟩ := hrel
      have HG := Lib.hid hg; have HIN := Lib.hid hin
      have hbx := HB.out.grown hg (by simp)
      have x1 := hbx.cell 1; have x2 := hbx.cell 2
      simp only [List.getElem?_toArray, List.getElem?_cons_zero, List.getElem?_cons_succ] at x1 x2
      clear hg hin hbx
      by_cases hlt : j < n'
      · obtain ⟨g, o, rfl, _, hc⟩ := (H.out.keep (HG0.out.trans HG.out)).kc (by omega)
        obtain ⟨g', o', rfl, _, hc'⟩ := (H.out.keep (HG0.out.trans HG.out)).vc (by omega)
        have y1 := hc j hlt; have y2 := hc' j hlt
        have j0 : (0 : Int) ≤ j := by omega
        have j1 : (j : Int) < n' := by omega
        cases e1 : inK (ks.getD j 0) with
        | false =>
          have HNO := Lib.hid (HN.out j (by rw [HKL.out]; exact hlt) (okAt_no1 e1))
          have HE1 := Lib.hid e1
          clear hc hc' e1
          generalize ks.getD j 0 = x at *
          go_wp2_with fail
          refine (isKey_call x _).mono ?_
          rintro e w1 ⟨rfl, rfl⟩
          rw [HE1.out]
          go_wp2
          go_ret
          exact ⟨by rw [HNO.out]; rfl, HG0.out.trans HG.out⟩
        | true =>
          cases e2 : inV (vs.getD j 0) with
          | false =>
            have HNO := Lib.hid (HN.out j (by rw [HKL.out]; exact hlt) (okAt_no2 e2))
            have HE1 := Lib.hid e1; have HE2 := Lib.hid e2
            clear hc hc' e1 e2
            generalize ks.getD j 0 = x at *
            generalize vs.getD j 0 = y at *
            go_wp2_with fail
            refine (isKey_call x _).mono ?_
            rintro e w1 ⟨rfl, rfl⟩
            rw [HE1.out]
            go_wp2_with fail
            refine (isVal_call y _).mono ?_
            rintro e w1 ⟨rfl, rfl⟩
            rw [HE2.out]
            go_wp2
            go_ret
            exact ⟨by rw [HNO.out]; rfl, HG0.out.trans HG.out⟩
          | true =>
            have HE1 := Lib.hid e1; have HE2 := Lib.hid e2
            by_cases hj0 : j = 0
            · have hok : okAt ks vs j = true := okAt_mk e1 e2 (.inl hj0)
              have HI1 := Lib.hid (show ∀ q, q < j + 1 → okAt ks vs q = true from fun q hq => by
                obtain rfl : q = j := by omega
                exact hok)
              have hjn : decide (0 < j) = false := by simp; omega
              clear hc hc' e1 e2 hok hj0
              generalize ks.getD j 0 = x at *
              generalize vs.getD j 0 = y at *
              go_wp2_with fail
              refine (isKey_call x _).mono ?_
              rintro e w1 ⟨rfl, rfl⟩
              rw [HE1.out]
              go_wp2_with fail
              refine (isVal_call y _).mono ?_
              rintro e w1 ⟨rfl, rfl⟩
              rw [HE2.out]
              go_wp2_with fail
              go_region
              go_wp2_with fail
              go_roundw
              case rel => exact ⟨j + 1, by omega, by go_num, HG.out.trans (grown_drew _ none), HI1.out⟩
              case measure => simp [intOf]; omega
            · obtain ⟨k, rfl⟩ : ∃ k, j = k + 1 := ⟨j - 1, by omega⟩
              have y3 := hc k (by omega)
              by_cases hxy : ks.getD k 0 < ks.getD (k + 1) 0
              · have hok : okAt ks vs (k + 1) = true := okAt_mk e1 e2 (.inr hxy)
                have HI1 := Lib.hid (show ∀ q, q < k + 1 + 1 → okAt ks vs q = true from fun q hq => by
                  by_cases e : q = k + 1
                  · subst e; exact hok
                  · exact HIN.out q (by omega))
                clear hc hc' e1 e2 hok
                generalize ks.getD (k + 1) 0 = x at *
                generalize ks.getD k 0 = z at *
                generalize vs.getD (k + 1) 0 = y at *
                have hxz : decide (x ≤ z) = false := by simp; omega
                have hjn : decide (0 < k + 1) = true := by simp
                have hw1 : IntKind.i64.wrap (((k + 1 : Nat) : Int) - 1) = (k : Int) := by rw [show ((k + 1 : Nat) : Int) - 1 = (k : Int) from by omega]; exact IntWalk.i64_in _ (by omega)
                go_wp2_with fail
                refine (isKey_call x _).mono ?_
                rintro e w1 ⟨rfl, rfl⟩
                rw [HE1.out]
                go_wp2_with fail
                refine (isVal_call y _).mono ?_
                rintro e w1 ⟨rfl, rfl⟩
                rw [HE2.out]
                go_wp2_with fail
                go_region
                go_wp2_with fail
                go_roundw
                case rel => exact ⟨k + 1 + 1, by omega, by go_num, HG.out.trans (grown_drew _ none), HI1.out⟩
                case measure => simp [intOf]; omega
              · have HNO := Lib.hid (HN.out (k + 1) (by rw [HKL.out]; exact hlt) (okAt_no3 (by omega) (by rw [Nat.add_sub_cancel]; omega)))
                clear hc hc' e1 e2
                generalize ks.getD (k + 1) 0 = x at *
                generalize ks.getD k 0 = z at *
                generalize vs.getD (k + 1) 0 = y at *
                have hxz : decide (x ≤ z) = true := by simp; omega
                have hjn : decide (0 < k + 1) = true := by simp
                have hw1 : IntKind.i64.wrap (((k + 1 : Nat) : Int) - 1) = (k : Int) := by rw [show ((k + 1 : Nat) : Int) - 1 = (k : Int) from by omega]; exact IntWalk.i64_in _ (by omega)
                go_wp2_with fail
                refine (isKey_call x _).mono ?_
                rintro e w1 ⟨rfl, rfl⟩
                rw [HE1.out]
                go_wp2_with fail
                refine (isVal_call y _).mono ?_
                rintro e w1 ⟨rfl, rfl⟩
                rw [HE2.out]
                go_wp2_with fail
                go_region
                go_wp2
                go_ret
                exact ⟨by rw [HNO.out]; rfl, (HG0.out.trans HG.out).trans (grown_drew _ none)⟩
      · obtain rfl : j = n' := by omega
        have HD := Lib.hid (HY.out (fun q hq => HIN.out q (by rw [← HKL.out]; exact hq)))
        go_wp2
        go_ret
        exact ⟨by rw [HD.out]; rfl, HG0.out.trans HG.out⟩
end Go.Proofs.Ytlbadapcaooieaa.Node
