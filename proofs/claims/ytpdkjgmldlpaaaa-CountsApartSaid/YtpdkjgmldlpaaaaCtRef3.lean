/- The document's counts: Touched. -/
import Derived.Test.YtpdkjgmldlpaaaaCtRef2
namespace Go.Proofs.Ytpdkjgmldlpaaaa.Cts
open Go.RowKit CrcMath CodecMath Mem Crc Codec
set_option linter.unusedVariables false
set_option linter.unusedSimpArgs false

theorem chg_end {x : Ct} {n i j : Nat} (h : CtOk n x) (hj : j ≤ 120) (hn : j = 120 ∨ n ≤ 120 * i + j) : chg x i j = chg x i 120 := by
  rcases hn with rfl | hn
  · rfl
  · have := chg_far h hn (120 - j)
    rw [show j + (120 - j) = 120 by omega] at this
    exact this.symm
theorem tch_yes {x : Ct} {i : Nat} (h : chg x i 120 = true) : tch x (i + 1) = tch x i ++ [((i : Nat) : Int)] := by rw [tch_succ, h]; rfl
theorem tch_no {x : Ct} {i : Nat} (h : chg x i 120 = false) : tch x (i + 1) = tch x i := by rw [tch_succ, h]; simp
section
variable {w w' : World} {B r nb wb n : Nat} {x : Ct}
set_option maxRecDepth 100000 in
set_option maxHeartbeats 2000000 in
theorem r_touched (h : RCtAt w B r nb wb n x) :
    Calls Try.prog 26 #[.pointer (some ⟨r, 0, none⟩)] w fun e w' => ∃ v, e = .returned v ∧ Own w' w.heap.size 3 1 v (touchE n x).length (i64s (touchE n x)) ∧ w.grownBy w' none := by
  obtain ⟨i0, hi0, hz0, hz1, hz2⟩ := info_parts int_info
  have hi := Lib.hid hi0; have z0 := Lib.hid hz0; have z1 := Lib.hid hz1; have z2 := Lib.hid hz2; clear hi0 hz0 hz1 hz2
  have HA := Lib.hid h
  have hn := h.ok.most
  have HM := fun w => Lib.hid (r_many w (n : Int))
  rw [manyI_nat h.ok.one h.ok.most] at HM
  have HME := Lib.hid (show touchE n x = tch x (manyN n) from rfl)
  have HMN := Lib.hid (show manyN n = (n + 119) / 120 from rfl)
  clear h
  obtain ⟨m, hm⟩ : ∃ m, manyN n = m := ⟨_, rfl⟩
  rw [hm] at HM HME HMN
  clear hm
  have hm9 : m ≤ 9 := by have := HMN.out; omega
  go_enter Try.func26, Try.ntmps26
  go_wp2_with fail
  go_loopw [3, 4] (fun u k wr => ∃ i : Nat, i ≤ m ∧ k = .int .i64 i ∧ Own wr w.heap.size 3 1 u (tch x i).length (i64s (tch x i)) ∧ w.grownBy wr none) (fun _ k _ => m - (RowKit.intOf k).toNat)
  case atStart => exact ⟨0, by omega, rfl, Own.nil _ _ _ _, World.grownBy.refl _ _⟩
  case round =>
    obtain ⟨i, him, rfl, ho, hg⟩ := hrel
    generalize wr = w1 at *
    have HO := Lib.hid ho; have HG := Lib.hid hg
    clear ho hg
    have HA1 := Lib.hid (HA.out.grown HG.out)
    have c0 := HA1.out.cells.1
    have hsz := HG.out.size
    by_cases hlt : i < m
    · have hin : 120 * i < n := by have := HMN.out; omega
      go_wp2_with (go_at_call 9; refine (HM _).out.mono ?_; rintro e w' ⟨rfl, rfl⟩)
      go_loopw [5, 6] (fun b k wr => ∃ j : Nat, j ≤ 120 ∧ 120 * i + j ≤ n ∧ b = .bool (chg x i j) ∧ k = .int .i64 ((120 * i + j : Nat) : Int) ∧ w'.grownBy wr none) (fun _ k _ => 120 * i + 120 - (RowKit.intOf k).toNat)
      case atStart => exact ⟨0, by omega, by omega, by rw [chg_zero], by congr 1; omega, World.grownBy.refl _ _⟩
      case round =>
        obtain ⟨j, hj, hjn, rfl, rfl, hg2⟩ := hrel
        have HA2 := Lib.hid (HA1.out.grown hg2)
        have HG2 := Lib.hid hg2; clear hg2
        have hsz2 := HG2.out.size
        obtain ⟨d0, d1⟩ := HA2.out.cells
        by_cases hend : j < 120 ∧ 120 * i + j < n
        · obtain ⟨hj1, hj2⟩ := hend
          have q1 : ((120 * i + j : Nat) : Int) < ((i : Int) + 1) * 120 := by omega
          have q2 : ((120 * i + j : Nat) : Int) < (n : Int) := by omega
          have d2 := HA2.out.hN.at_ hj2
          have d3 := HA2.out.hW.at_ hj2
          have HC := Lib.hid (chg_succ x i j)
          obtain ⟨u, hu⟩ : ∃ u, x.N (120 * i + j) = u := ⟨_, rfl⟩
          obtain ⟨v, hv⟩ : ∃ v, x.W (120 * i + j) = v := ⟨_, rfl⟩
          rw [hu] at d2 HC
          rw [hv] at d3 HC
          clear hu hv
          obtain ⟨k, hk⟩ : ∃ k : Nat, 120 * i + j = k := ⟨_, rfl⟩
          rw [hk] at q1 q2 d2 d3 hj2 ⊢
          have HK := Lib.hid hk; clear hk
          cases hc : chg x i j with
          | true =>
            rw [hc, Bool.true_or] at HC
            clear hc
            go_wp2_with fail
            go_region
            go_wp2_with fail
            go_roundw
            case rel => exact ⟨j + 1, by omega, by have := HK.out; omega, by rw [HC.out], by congr 1; have := HK.out; omega, HG2.out.trans (grown_drew _ none)⟩
            case measure => simp [RowKit.intOf]; have := HK.out; omega
          | false =>
            rw [hc, Bool.false_or] at HC
            have HC2 := Lib.hid (show decide (u ≠ v) = (u != v) by
              by_cases h : u = v
              · subst h; simp
              · rw [decide_eq_true h]; symm; simpa using h)
            clear hc
            go_wp2_with fail
            go_region
            go_wp2_with fail
            go_roundw
            case rel => exact ⟨j + 1, by omega, by have := HK.out; omega, by rw [HC.out, HC2.out], by congr 1; have := HK.out; omega, HG2.out.trans (grown_drew _ none)⟩
            case measure => simp [RowKit.intOf]; have := HK.out; omega
        · have hend2 : j = 120 ∨ n ≤ 120 * i + j := by omega
          have HCE := Lib.hid (chg_end HA.out.ok hj hend2)
          have hlen := tch_len x i
          have HO2 := Lib.hid (HO.out.keep HG2.out (by simp))
          have HCY := Lib.hid (tch_yes (x := x) (i := i)); have HCN := Lib.hid (tch_no (x := x) (i := i))
          have hq : (¬ ((120 * i + j : Nat) : Int) < ((i : Int) + 1) * 120) ∨ (((120 * i + j : Nat) : Int) < ((i : Int) + 1) * 120 ∧ ¬ ((120 * i + j : Nat) : Int) < (n : Int)) := by omega
          obtain ⟨k, hk⟩ : ∃ k : Nat, 120 * i + j = k := ⟨_, rfl⟩
          rw [hk] at hq hend2 hjn hend ⊢
          clear hk
          rw [HCE.out]
          cases hc : chg x i 120 with
          | true =>
            have HT := Lib.hid (HCY.out hc)
            obtain ⟨l, hl⟩ : ∃ l, tch x i = l := ⟨_, rfl⟩
            rw [hl] at HO2 HT hlen
            clear hl hc HCY HCN HO HCE
            obtain ⟨z, hz⟩ : ∃ z, l.length = z := ⟨_, rfl⟩
            rw [hz] at HO2 hlen
            have HZ := Lib.hid hz; clear hz
            rcases hq with hq | ⟨hq, hq2⟩
            · go_wp2_with (at_builtin
                           refine wpList_append_own_full _ rfl (.tmp 54) (.tmp 56) _ rfl w.heap.size 3 i0 _ 1 8 Try.underlying39 hi.out z0.out z1.out z2.out rfl (by omega) _ z _ rfl (HO2.out.alloc _)
                             _ _ 1 1 _ rfl (reads_one_int _ _) (fun u hu => by simp at hu; subst hu; rfl) (by simp only [maxLen]; omega) (by omega) (by simp; omega) ?_
                           intro v' w3 hown' hgr'
                           have HO' := Lib.hid hown'; have HG' := Lib.hid hgr'; clear hown' hgr')
              go_roundw
              case rel =>
                refine ⟨i + 1, by omega, by go_num, ?_, grownBy_new ((HG.out.trans HG2.out).trans (World.grownBy_alloc _ _ none)) HG'.out.1 (fun i hi => (HO2.out.base_ i hi).1)⟩
                rw [HT.out, i64s_append, List.length_append, HZ.out]
                exact HO'.out
              case measure => simp [RowKit.intOf]; omega
            · go_wp2_with (at_builtin
                           refine wpList_append_own_full _ rfl (.tmp 54) (.tmp 56) _ rfl w.heap.size 3 i0 _ 1 8 Try.underlying39 hi.out z0.out z1.out z2.out rfl (by omega) _ z _ rfl (HO2.out.alloc _)
                             _ _ 1 1 _ rfl (reads_one_int _ _) (fun u hu => by simp at hu; subst hu; rfl) (by simp only [maxLen]; omega) (by omega) (by simp; omega) ?_
                           intro v' w3 hown' hgr'
                           have HO' := Lib.hid hown'; have HG' := Lib.hid hgr'; clear hown' hgr')
              go_roundw
              case rel =>
                refine ⟨i + 1, by omega, by go_num, ?_, grownBy_new ((HG.out.trans HG2.out).trans (World.grownBy_alloc _ _ none)) HG'.out.1 (fun i hi => (HO2.out.base_ i hi).1)⟩
                rw [HT.out, i64s_append, List.length_append, HZ.out]
                exact HO'.out
              case measure => simp [RowKit.intOf]; omega
          | false =>
            have HT := Lib.hid (HCN.out hc)
            clear hc HCY HCN HO HCE
            rcases hq with hq | ⟨hq, hq2⟩
            · go_wp2_with fail
              go_roundw
              case rel => exact ⟨i + 1, by omega, by go_num, by rw [HT.out]; exact HO2.out, HG.out.trans HG2.out⟩
              case measure => simp [RowKit.intOf]; omega
            · go_wp2_with fail
              go_roundw
              case rel => exact ⟨i + 1, by omega, by go_num, by rw [HT.out]; exact HO2.out, HG.out.trans HG2.out⟩
              case measure => simp [RowKit.intOf]; omega
    · have hie : i = m := by omega
      subst hie
      go_wp2_with (go_at_call 9; refine (HM _).out.mono ?_; rintro e w' ⟨rfl, rfl⟩)
      go_ret
      rw [HME.out]
      exact ⟨_, rfl, HO.out, HG.out⟩
end
end Go.Proofs.Ytpdkjgmldlpaaaa.Cts
