/- Drop of the document's node. -/
import Derived.Test.YtlbadapcaooieaaNdRefFrom
import Derived.Test.YtlbadapcaooieaaNdRefMay
namespace Go.Proofs.Ytlbadapcaooieaa.Node
open Go.RowKit CrcMath Mem Crc Codec NdSpec
set_option linter.unusedVariables false
set_option linter.unusedSimpArgs false

/-- What stands ahead of place j, without what stands at place a. -/
def dl (l : List Int) (a j : Nat) : List Int := cut l 0 (min j a) ++ cut l (a + 1) j
theorem cut_none (l : List Int) {a j : Nat} (h : j ≤ a) : cut l a j = [] := by unfold cut; rw [Nat.sub_eq_zero_of_le h, List.take_zero]
theorem dl_zero (l : List Int) (a : Nat) : dl l a 0 = [] := by unfold dl; rw [Nat.zero_min, cut_nil, cut_none l (by omega)]; rfl
theorem dl_at (l : List Int) (a : Nat) : dl l a (a + 1) = dl l a a := by
  unfold dl
  rw [Nat.min_eq_right (by omega), Nat.min_self, cut_nil, cut_none l (a := a + 1) (j := a) (by omega)]
theorem dl_succ {l : List Int} {a j : Nat} (h : j ≠ a) (hj : j < l.length) : dl l a (j + 1) = dl l a j ++ [l.getD j 0] := by
  unfold dl
  rcases Nat.lt_or_gt_of_ne h with h1 | h1
  · rw [Nat.min_eq_left (by omega), Nat.min_eq_left (by omega), cut_none l (show j + 1 ≤ a + 1 by omega), cut_none l (show j ≤ a + 1 by omega), List.append_nil, List.append_nil, cut_succ (Nat.zero_le j) hj]
  · rw [Nat.min_eq_right (by omega), Nat.min_eq_right (by omega), cut_succ (show a + 1 ≤ j by omega) hj, List.append_assoc]
theorem dl_end {l : List Int} {a n : Nat} (h : l.length = n) (ha : a < n) : dl l a n = del l a := by
  unfold dl del
  rw [Nat.min_eq_right (by omega)]
  unfold cut
  rw [List.drop_zero, Nat.sub_zero, List.take_of_length_le (i := n - (a + 1)) (by rw [List.length_drop]; omega)]
theorem dl_len {l : List Int} {a j : Nat} (hj : j ≤ l.length) : (dl l a j).length ≤ j := by
  unfold dl
  rw [List.length_append, cut_len (by omega), cut_len hj]
  omega
set_option maxRecDepth 100000 in
set_option maxHeartbeats 3200000 in
theorem rdrop_call {w : World} {A A' : Option Addr} {n n' c c' : Nat} {ks vs : List Int} (lf : Bool) (i : Int) (h : NdAt w A A' n n' c c' ks vs) :
    Calls Try.prog 22 #[.agg #[.bool lf, .slice A n c, .slice A' n' c'], .int .i64 i] w (Told1 w (dropR lf ks vs i)) := by
  obtain ⟨i0, hi0, hz0, hz1, hz2⟩ := info_int
  have hi := Lib.hid hi0; have z0 := Lib.hid hz0; have z1 := Lib.hid hz1; have z2 := Lib.hid hz2
  have HONE := Lib.hid (show 0 < 1 by omega)
  have hg0 := (World.grownBy_alloc w (.cells #[.bool lf, .slice A n c, .slice A' n' c'] 24) none).trans (World.grownBy_alloc _ (.cells #[.bool false, .slice none 0 0, .slice none 0 0] 24) none)
  obtain ⟨hb1, hb2⟩ := two2 w 24 #[.bool lf, .slice A n c, .slice A' n' c'] #[.bool false, .slice none 0 0, .slice none 0 0]
  have HG0 := Lib.hid hg0; have HB1 := Lib.hid hb1; have HB2 := Lib.hid hb2
  have HH := Lib.hid h
  have hkl := h.klen; have hvl := h.vlen
  have HM1 := Lib.hid (rmay_call lf (h.keep hg0))
  cases e1 : may lf ks vs with
  | false =>
    have hr : dropR lf ks vs i = (22, nil) := by unfold dropR; rw [if_pos e1]
    rw [hr]
    rw [e1] at HM1
    clear h hg0 hb1 hb2 hr e1 hkl hvl hi0 hz0 hz1 hz2
    go_enter Try.func22, Try.ntmps22
    go_wp2_with fail
    refine HM1.out.mono ?_
    rintro e w1 ⟨rfl, hg⟩
    have HG1 := Lib.hid (HG0.out.trans hg); have HX := Lib.hid (HB2.out.grown hg (by simp))
    clear hg
    obtain ⟨x0, x1, x2⟩ := box3 HX.out
    have f0 := HX.out.frozen 0; have f1 := HX.out.frozen 1; have f2 := HX.out.frozen 2
    go_wp2_with fail
    refine ret_row2 rfl (w.heap.size + 1) 24 _ _ rfl (Blk.set3 HX.out) Try.underlying24 rfl (by kernel_rfl) rfl ⟨?_, _, _, rfl, NdOwn.nil _ _⟩
    repeat (refine grown_set1 ?_ (by omega) _)
    exact HG1.out
  | true =>
    rw [e1] at HM1
    have hm := may_len e1
    have hnn : n' = n := by rw [← hkl, ← hvl]; exact hm.1.symm
    have hn8 : n ≤ 8 := by rw [← hkl]; exact hm.2.1
    subst hnn
    by_cases hi1 : i < 0
    · have hr : dropR lf ks vs i = (1, nil) := by unfold dropR; rw [if_neg (by simp [e1]), if_pos (.inl hi1)]
      rw [hr]
      clear h hg0 hb1 hb2 hr e1 hkl hvl hm hi0 hz0 hz1 hz2
      go_enter Try.func22, Try.ntmps22
      go_wp2_with fail
      refine HM1.out.mono ?_
      rintro e w1 ⟨rfl, hg⟩
      have HG1 := Lib.hid (HG0.out.trans hg); have HX := Lib.hid (HB2.out.grown hg (by simp))
      clear hg
      obtain ⟨x0, x1, x2⟩ := box3 HX.out
      have f0 := HX.out.frozen 0; have f1 := HX.out.frozen 1; have f2 := HX.out.frozen 2
      go_wp2_with fail
      refine ret_row2 rfl (w.heap.size + 1) 24 _ _ rfl (Blk.set3 HX.out) Try.underlying24 rfl (by kernel_rfl) rfl ⟨?_, _, _, rfl, NdOwn.nil _ _⟩
      repeat (refine grown_set1 ?_ (by omega) _)
      exact HG1.out
    · by_cases hin : (n' : Int) ≤ i
      · have hr : dropR lf ks vs i = (1, nil) := by unfold dropR; rw [if_neg (by simp [e1]), if_pos (.inr (by rw [hkl]; exact hin))]
        rw [hr]
        clear h hg0 hb1 hb2 hr e1 hkl hvl hm hi0 hz0 hz1 hz2
        go_enter Try.func22, Try.ntmps22
        go_wp2_with fail
        refine HM1.out.mono ?_
        rintro e w1 ⟨rfl, hg⟩
        have HG1 := Lib.hid (HG0.out.trans hg); have HX := Lib.hid (HB2.out.grown hg (by simp)); have HX1 := Lib.hid (HB1.out.grown hg (by simp))
        clear hg
        obtain ⟨b0, b1, b2⟩ := box3 HX1.out
        obtain ⟨x0, x1, x2⟩ := box3 HX.out
        have f0 := HX.out.frozen 0; have f1 := HX.out.frozen 1; have f2 := HX.out.frozen 2
        go_wp2_with fail
        refine ret_row2 rfl (w.heap.size + 1) 24 _ _ rfl (Blk.set3 HX.out) Try.underlying24 rfl (by kernel_rfl) rfl ⟨?_, _, _, rfl, NdOwn.nil _ _⟩
        repeat (refine grown_set1 ?_ (by omega) _)
        exact HG1.out
      · obtain ⟨a, rfl⟩ := Int.eq_ofNat_of_zero_le (show 0 ≤ i by omega)
        have han : a < n' := by omega
        have hr : dropR lf ks vs (a : Nat) = if may lf (del ks a) (del vs a) = false then (22, nil) else (0, lf, del ks a, del vs a) := by
          unfold dropR
          rw [if_neg (by simp [e1]), if_neg (by rw [hkl]; omega), Int.toNat_natCast]
        have HR := Lib.hid hr
        generalize dropR lf ks vs (a : Nat) = r at *
        have HKL := Lib.hid hkl; have HVL := Lib.hid hvl; have HAN := Lib.hid han
        have HKI := Lib.hid h.kin; have HVI := Lib.hid h.vin
        have hlt1 : (a : Int) < n' := by omega
        have hd1 : decide (n' ≤ a) = false := by simp; omega
        have hd2 : decide ((a : Int) < 0) = false := by simp
        clear h hg0 hb1 hb2 hr e1 hkl hvl hm hi1 hi0 hz0 hz1 hz2
        go_enter Try.func22, Try.ntmps22
        go_wp2_with fail
        refine HM1.out.mono ?_
        rintro e w1 ⟨rfl, hg⟩
        have hal := World.grownBy_alloc w1 (.cells #[.bool lf, .slice none 0 0, .slice none 0 0] 24) none
        have HG1 := Lib.hid (HG0.out.trans (hg.trans hal)); have HX := Lib.hid (HB2.out.grown (hg.trans hal) (by simp)); have HX1 := Lib.hid (HB1.out.grown (hg.trans hal) (by simp)); have HX1w := Lib.hid (HB1.out.grown hg (by simp))
        have HSW := Lib.hid (show w.heap.size + 1 < w1.heap.size from (HB2.out.grown hg (by simp)).lt)
        have HWW := Lib.hid (show w.heap.size ≤ w1.heap.size by have := HSW.out; omega)
        have hga := (show Gat _ _ (· < w1.heap.size) w1.heap.size w1.heap.size lf (.slice none 0 0) (.slice none 0 0) [] [] from
          ⟨Kept.refl _ _, fun i hi => Nat.lt_of_lt_of_le hi hal.size, by omega, Blk.new w1 _ _, NdOwn.nil _ _, fun i hi => by simp [Value.ownBlock] at hi, fun i hi => by simp [Value.ownBlock] at hi⟩)
        have HGA0 := Lib.hid hga
        have HBW := Lib.hid hal.size
        clear hg hal hga
        obtain ⟨b0, b1, b2⟩ := box3 HX1w.out
        go_wp2_with fail
        generalize hW0 : w1.alloc (.cells #[.bool lf, .slice none 0 0, .slice none 0 0] 24) = W0 at *
        clear hW0 b0 b1 b2 HX1w
        generalize hS1 : w1.heap.size = S1 at *
        clear hS1
        go_loopw [8] (fun i wr => ∃ (j : Nat) (v1 v2 : Value), j ≤ n' ∧ i = .int .i64 j ∧ Gat W0 wr (· < S1) S1 S1 lf v1 v2 (dl ks a j) (dl vs a j)) (fun i _ => n' - (intOf i).toNat)
        case atStart => exact ⟨0, _, _, by omega, rfl, by rw [dl_zero, dl_zero]; exact HGA0.out⟩
        case round =>
          obtain ⟨j, v1, v2, hjn, rfl, hga⟩ := hrel
          obtain ⟨A1, A2, c1, c2, rfl, rfl, hat⟩ := hga.shape
          have hbx := hga.kept.blk HX1.out (by have := HSW.out; omega)
          obtain ⟨p0, p1, p2⟩ := box3 hbx
          have hgw := hga.kept.grown HG1.out (fun i hi => by have := HWW.out; omega)
          by_cases hlt : j < n'
          · by_cases hja : j = a
            · subst hja
              have HGA := Lib.hid hga
              have hjj : ((j : Int) != (j : Int)) = false := by simp
              clear hat hbx hgw hga
              go_wp2_with fail
              go_roundw
              case rel => exact ⟨j + 1, _, _, by omega, by go_num, by rw [dl_at, dl_at]; exact HGA.out⟩
              case measure => simp [intOf]; omega
            · have hne : ((j : Int) != (a : Int)) = true := by simp; omega
              have hKs := dl_succ (l := ks) hja (by rw [HKL.out]; exact hlt)
              have hVs := dl_succ (l := vs) hja (by rw [HVL.out]; exact hlt)
              have hl1 := dl_len (l := ks) (a := a) (j := j) (by rw [HKL.out]; omega)
              have hl2 := dl_len (l := vs) (a := a) (j := j) (by rw [HVL.out]; omega)
              have HT := Lib.hid (And.intro hKs hVs)
              obtain ⟨g, o, ee, _, hc⟩ := (HH.out.keep hgw).kc (by omega)
              obtain ⟨g', o', ee', _, hc'⟩ := (HH.out.keep hgw).vc (by omega)
              have s1 := hc j hlt
              clear hc hc'
              subst ee ee'
              have HI1 := Lib.hid (getD_in HKI.out j); have HI2 := Lib.hid (getD_in HVI.out j)
              generalize hx : ks.getD j 0 = x at *
              generalize hy : vs.getD j 0 = y at *
              have HY := Lib.hid hy
              have j0 : (0 : Int) ≤ j := by omega
              have j1 : (j : Int) < n' := by omega
              have HIN := Lib.hid (show ∀ t ∈ [x], -9223372036854775808 ≤ t ∧ t ≤ 9223372036854775807 from fun t ht => by simp at ht; subst ht; exact HI1.out)
              generalize hKK : dl ks a j = Ks at *
              generalize hVV : dl vs a j = Vs at *
              obtain ⟨k1, hk1⟩ : ∃ k1, Ks.length = k1 := ⟨_, rfl⟩
              obtain ⟨k2, hk2⟩ : ∃ k2, Vs.length = k2 := ⟨_, rfl⟩
              rw [hk1, hk2] at hga
              have hk16 : Ks.length ≤ 16 ∧ Vs.length ≤ 16 := by omega
              have HGA := Lib.hid hga
              clear hKs hVs hl1 hl2 hgw hx hy hbx hKK hVV hk1 hk2 hat hga
              go_upto_region 11 with fail
              go_cut [8] (fun s8 wx => s8 = .int .i64 j ∧ ∃ v', Gat W0 wx (· < S1) S1 S1 lf v' (.slice A2 k2 c2) (Ks ++ [x]) Vs)
              case first =>
                have HGB := Lib.hid ((HGA.out.quiet (World.grownBy_alloc wr (.cells #[.int .i64 x] 3) none)).quiet (grown_drew _ none))
                have HOK := Lib.hid HGB.out.own.k
                have HRD := Lib.hid (Reads.drew (reads_one_int wr (.int .i64 x)))
                have HSZ := Lib.hid (show S1 ≤ (wr.alloc (.cells #[.int .i64 x] 3)).drew.heap.size from Nat.le_trans HBW.out HGB.out.kept.size)
                obtain ⟨⟨x0, x1, x2⟩, y0, y1, y2⟩ := HGA.out.cells
                obtain ⟨⟨wq0, wq1, wq2⟩, _, _, _⟩ := (HGA.out.quiet (World.grownBy_alloc wr (.cells #[.int .i64 x] 3) none)).cells
                go_region_law (first
                  | (refine step_append_any _ rfl (.tmp 38) (.tmp 44) _ rfl S1 3 i0 _ 1 8 Try.underlying22 hi.out z0.out z1.out z2.out rfl HONE.out (.slice A1 k1 c1) Ks.length (i64s Ks) ?_ HOK.out
                       _ (some ⟨wr.heap.size, 0, none⟩) 1 1 [.int .i64 x] ?_ HRD.out ?_ ?_ ?_ ?_ ?_
                     rfl
                     rfl
                     (intro u hu; simp at hu; subst hu; rfl)
                     (simp only [maxLen]; omega)
                     omega
                     exact HSZ.out
                     intro v' w' hown' hgr hwh
                     have hgc := HGB.out.key (l := [x]) (m := 1) hgr hown' hwh rfl HIN.out
                     have hbb := HGB.out.box.grown hgr (fun e => (HGB.out.r1 _ e.symm).2 rfl)
                     obtain ⟨A6, c6, hv, _, _, _⟩ := (Own.of hown').shape
                     subst hv
                     have q1 := hbb.cell 1
                     have q2 := hbb.frozen 1
                     simp only [List.getElem?_toArray, List.getElem?_cons_zero, List.getElem?_cons_succ] at q1
                     have HGC := Lib.hid hgc
                     clear hgc hbb hown' hgr hwh))
                all_goals
                  go_wp2_with fail
                  go_meet
                  exact ⟨rfl, _, HGC.out⟩
              case rest =>
                obtain ⟨rfl, v3, hgc⟩ := hcut
                obtain ⟨A3, A4, c3, c4, rfl, e4, hat⟩ := hgc.shape
                have hgw := hgc.kept.grown HG1.out (fun i hi => by have := HWW.out; omega)
                obtain ⟨g3, o3, ee, _, hcw⟩ := (HH.out.keep hgw).vc (by omega)
                cases ee
                clear s1 p0 p1 p2 HGA HIN
                have s1 := hcw j (by omega)
                rw [HY.out] at s1
                obtain ⟨p0, p1, p2⟩ := box3 (hgc.kept.blk HX1.out (by have := HSW.out; omega))
                have HIN := Lib.hid (show ∀ t ∈ [y], -9223372036854775808 ≤ t ∧ t ≤ 9223372036854775807 from fun t ht => by simp at ht; subst ht; exact HI2.out)
                have HGA := Lib.hid hgc
                clear e4 hat hgw hcw hgc
                go_wp2_with fail
                have HGB := Lib.hid ((HGA.out.quiet (World.grownBy_alloc wc (.cells #[.int .i64 y] 3) none)).quiet (grown_drew _ none))
                have HOK := Lib.hid HGB.out.own.v
                have HRD := Lib.hid (Reads.drew (reads_one_int wc (.int .i64 y)))
                have HSZ := Lib.hid (show S1 ≤ (wc.alloc (.cells #[.int .i64 y] 3)).drew.heap.size from Nat.le_trans HBW.out HGB.out.kept.size)
                obtain ⟨⟨x0, x1, x2⟩, y0, y1, y2⟩ := HGA.out.cells
                obtain ⟨⟨wq0, wq1, wq2⟩, _, _, _⟩ := (HGA.out.quiet (World.grownBy_alloc wc (.cells #[.int .i64 y] 3) none)).cells
                go_region_law (first
                  | (refine step_append_any _ rfl (.tmp 48) (.tmp 54) _ rfl S1 3 i0 _ 1 8 Try.underlying22 hi.out z0.out z1.out z2.out rfl HONE.out (.slice A2 k2 c2) Vs.length (i64s Vs) ?_ HOK.out
                       _ (some ⟨wc.heap.size, 0, none⟩) 1 1 [.int .i64 y] ?_ HRD.out ?_ ?_ ?_ ?_ ?_
                     rfl
                     rfl
                     (intro u hu; simp at hu; subst hu; rfl)
                     (simp only [maxLen]; omega)
                     omega
                     exact HSZ.out
                     intro v' w' hown' hgr hwh
                     have hgc := HGB.out.val (l := [y]) (m := 1) hgr hown' hwh rfl HIN.out
                     have hbb := HGB.out.box.grown hgr (fun e => (HGB.out.r2 _ e.symm).2 rfl)
                     obtain ⟨A6, c6, hv, _, _, _⟩ := (Own.of hown').shape
                     subst hv
                     have q1 := hbb.cell 2
                     have q2 := hbb.frozen 2
                     simp only [List.getElem?_toArray, List.getElem?_cons_zero, List.getElem?_cons_succ] at q1
                     have HGC := Lib.hid hgc
                     clear hgc hbb hown' hgr hwh))
                all_goals
                  go_wp2_with fail
                  go_roundw
                  case rel =>
                    refine ⟨j + 1, .slice A3 (Ks ++ [x]).length c3, .slice A6 (Vs.length + 1) c6, by omega, by go_num, ?_⟩
                    rw [HT.out.1, HT.out.2]
                    exact HGC.out
                  case measure => simp [intOf]; omega
          · obtain rfl : j = n' := by omega
            rw [dl_end HKL.out HAN.out, dl_end HVL.out HAN.out] at hga hat
            generalize hKK : del ks a = K at *
            generalize hVV : del vs a = V at *
            obtain ⟨L, hL⟩ : ∃ L, K.length = L := ⟨_, rfl⟩
            obtain ⟨L', hL'⟩ : ∃ L', V.length = L' := ⟨_, rfl⟩
            rw [hL, hL'] at hga hat
            have HO := Lib.hid hga.own
            have HGX := Lib.hid hgw
            have HZq := Lib.hid (hga.kept.blk HX.out (by have := HSW.out; omega))
            have HBQ := Lib.hid hga.box
            have HM2 := Lib.hid (rmay_call lf hat)
            obtain ⟨⟨x0, x1, x2⟩, _, _, _⟩ := hga.cells
            clear hL hL' hKK hVV hga hat hgw hbx
            go_wp2_with fail
            refine HM2.out.mono ?_
            rintro e w9 ⟨rfl, hg⟩
            have HG9 := Lib.hid (HGX.out.trans hg); have HZ9 := Lib.hid (HZq.out.grown hg (by simp)); have HO9 := Lib.hid (HO.out.keep hg); have HB9 := Lib.hid (HBQ.out.grown hg (by simp))
            clear hg x0 x1 x2
            obtain ⟨x0, x1, x2⟩ := box3 HB9.out
            obtain ⟨z4, z5, z6⟩ := box3 HZ9.out
            have f0 := HZ9.out.frozen 0; have f1 := HZ9.out.frozen 1; have f2 := HZ9.out.frozen 2
            cases hmm : may lf K V with
            | false =>
              have hr : r = (22, nil) := by rw [HR.out, if_pos hmm]
              subst hr
              clear hmm
              go_wp2_with fail
              refine ret_row2 rfl (w.heap.size + 1) 24 _ _ rfl (Blk.set3 HZ9.out) Try.underlying24 rfl (by kernel_rfl) rfl ⟨?_, _, _, rfl, NdOwn.nil _ _⟩
              repeat (refine grown_set1 ?_ (by omega) _)
              exact HG9.out
            | true =>
              have hr : r = (0, lf, K, V) := by rw [HR.out, if_neg (by simp [hmm])]
              subst hr
              clear hmm
              go_wp2_with fail
              refine ret_row2 rfl (w.heap.size + 1) 24 _ _ rfl (Blk.set3 HZ9.out) Try.underlying24 rfl (by kernel_rfl) rfl ⟨?_, _, _, rfl, ?_⟩
              · repeat (refine grown_set1 ?_ (by omega) _)
                exact HG9.out
              · exact own_far3 HO9.out HSW.out HWW.out _ _ _
end Go.Proofs.Ytlbadapcaooieaa.Node
