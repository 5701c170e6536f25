/- The laws' test whether two catalogues are the same; the comparison of two structs of whole numbers. -/
import Derived.Test.YtboccfficmaoaaaMRefPageGet
import Derived.Laws.StructEq
namespace Go.Proofs.Ytboccfficmaoaaa.Codec
open Go.RowKit CrcMath CodecMath Mem Crc

set_option maxRecDepth 100000 in
set_option maxHeartbeats 800000 in
theorem run_neq_vol (w : World) (a0 a1 a2 a3 a4 a5 b0 b1 b2 b3 b4 b5 : Int) (h : [a0, a1, a2, a3, a4, a5] ≠ [b0, b1, b2, b3, b4, b5]) :
    (binOp .neq 121 (.agg #[.int .i64 a0, .int .i64 a1, .int .i64 a2, .int .i64 a3, .int .i64 a4, .int .i64 a5]) (.agg #[.int .i64 b0, .int .i64 b1, .int .i64 b2, .int .i64 b3, .int .i64 b4, .int .i64 b5])).run Try.prog w = .ok (.bool true) w := by
  by_cases h0 : a0 = b0
  · subst h0
    by_cases h1 : a1 = b1
    · subst h1
      by_cases h2 : a2 = b2
      · subst h2
        by_cases h3 : a3 = b3
        · subst h3
          by_cases h4 : a4 = b4
          · subst h4
            by_cases h5 : a5 = b5
            · subst h5; exact absurd rfl h
            · have k : (a5 == b5) = false := by simpa using h5
              clear h
              go_simp
          · have k : (a4 == b4) = false := by simpa using h4
            clear h
            go_simp
        · have k : (a3 == b3) = false := by simpa using h3
          clear h
          go_simp
      · have k : (a2 == b2) = false := by simpa using h2
        clear h
        go_simp
    · have k : (a1 == b1) = false := by simpa using h1
      clear h
      go_simp
  · have k : (a0 == b0) = false := by simpa using h0
    clear h
    go_simp
set_option maxRecDepth 100000 in
set_option maxHeartbeats 3200000 in
theorem catalogues_any (b b' : Nat) (next next' : Int) (AV AS AV' AS' : Option Addr) (nv cv ns cs nv' cv' ns' cs' : Nat) (stack vs stack' vs' : List Int) (w : World)
    (hs : Ints w b AS ns stack) (hv : Ints w b AV (6 * nv) vs) (hs' : Ints w b' AS' ns' stack') (hv' : Ints w b' AV' (6 * nv') vs') (hns : ns ≤ maxLen) (hns' : ns' ≤ maxLen) (hnv : nv ≤ maxLen) (hnv' : nv' ≤ maxLen) :
    Calls Try.prog 25 #[.agg #[.int .i64 next, .slice AV nv cv, .slice AS ns cs], .agg #[.int .i64 next', .slice AV' nv' cv', .slice AS' ns' cs']] w fun e w' => e = .returned (.bool (decide (next = next') && decide (stack = stack') && decide (vs = vs'))) ∧ w.grownBy w' none := by
  have hg := (World.grownBy_alloc w (.cells #[.int .i64 next, .slice AV nv cv, .slice AS ns cs] 58) none).trans (World.grownBy_alloc _ (.cells #[.int .i64 next', .slice AV' nv' cv', .slice AS' ns' cs'] 58) none)
  have hb1 := (Blk.new w 58 #[.int .i64 next, .slice AV nv cv, .slice AS ns cs]).alloc (.cells #[.int .i64 next', .slice AV' nv' cv', .slice AS' ns' cs'] 58)
  have hb2 := Blk.new (w.alloc (.cells #[.int .i64 next, .slice AV nv cv, .slice AS ns cs] 58)) 58 #[.int .i64 next', .slice AV' nv' cv', .slice AS' ns' cs']
  simp only [World.size_alloc] at hb2
  have HG := Lib.hid hg; have HX := Lib.hid hb1; have HY := Lib.hid hb2
  have HS := Lib.hid (ints_keep hs hg (.inl rfl)); have HS' := Lib.hid (ints_keep hs' hg (.inl rfl)); have HV := Lib.hid hv; have HV' := Lib.hid hv'
  simp only [maxLen] at hns hns' hnv hnv'
  clear hg hs hs' hv hv' hb1 hb2
  by_cases h1 : next = next'
  · subst h1
    cases hd : decide (stack = stack') with
    | false =>
      have HD := Lib.hid hd; clear hd
      go_enter Try.func25, Try.ntmps25
      go_wp2_with fail
      refine (ints_any b b' AS AS' ns ns' cs cs' stack stack' _ HS.out HS'.out (by omega) (by omega)).mono ?_
      rintro e w1 ⟨rfl, hdr⟩
      have HG1 := Lib.hid (HG.out.trans (drawn_grown hdr none)); clear hdr
      rw [HD.out]
      go_wp2
      go_ret
      exact ⟨by simp, HG1.out⟩
    | true =>
      have HD := Lib.hid hd; clear hd
      by_cases hn : nv = nv'
      · subst hn
        have HYES := Lib.hid (fun h => ints_yes (l := vs) (l' := vs') (6 * nv) HV.out.1 HV'.out.1 h)
        have HNO := Lib.hid (fun k h => ints_no (l := vs) (l' := vs') k h)
        generalize hdv : decide (vs = vs') = d at *
        clear hdv
        go_enter Try.func25, Try.ntmps25
        go_wp2_with fail
        refine (ints_any b b' AS AS' ns ns' cs cs' stack stack' _ HS.out HS'.out (by omega) (by omega)).mono ?_
        rintro e w1 ⟨rfl, hdr⟩
        rw [HD.out]
        have hg1 := drawn_grown hdr none
        have HG1 := Lib.hid (HG.out.trans hg1); have hx := HX.out.grown hg1 (by simp); have hy := HY.out.grown hg1 (by simp)
        have HX1 := Lib.hid hx; have HY1 := Lib.hid hy
        have x1 := hx.cell 1; have y1 := hy.cell 1
        simp only [List.getElem?_toArray, List.getElem?_cons_zero, List.getElem?_cons_succ] at x1 y1
        clear hdr hg1 hx hy
        go_wp2_with fail
        clear x1 y1
        go_loopw [5] (fun i wr => ∃ j : Nat, j ≤ nv ∧ i = .int .i64 j ∧ (∀ q, q < 6 * j → vs.getD q 0 = vs'.getD q 0) ∧ w.grownBy wr none ∧ Blk wr w.heap.size 58 #[.int .i64 next, .slice AV nv cv, .slice AS ns cs] ∧ Blk wr (w.heap.size + 1) 58 #[.int .i64 next, .slice AV' nv cv', .slice AS' ns' cs']) (fun i _ => nv - (intOf i).toNat)
        case atStart => exact ⟨0, by omega, rfl, fun q hq => by omega, HG1.out, HX1.out, HY1.out⟩
        case round =>
          obtain ⟨j, hj, rfl, he, hg, hx, hy⟩ := hrel
          have HE := Lib.hid he; have HGr := Lib.hid hg; have HXr := Lib.hid hx; have HYr := Lib.hid hy
          have x1 := hx.cell 1; have y1 := hy.cell 1
          simp only [List.getElem?_toArray, List.getElem?_cons_zero, List.getElem?_cons_succ] at x1 y1
          clear he hg hx hy
          by_cases hlt : j < nv
          · obtain ⟨g, o, rfl, _, _, hc⟩ := (ints_keep HV.out HGr.out (.inl rfl)).2.2 (by omega)
            obtain ⟨g', o', rfl, _, _, hc'⟩ := (ints_keep HV'.out HGr.out (.inl rfl)).2.2 (by omega)
            have c0 := hc (6 * j) (by omega)
            rw [show o + 6 * j = o + j * 6 from by omega] at c0
            have c1 := hc (6 * j + 1) (by omega)
            rw [show o + (6 * j + 1) = o + j * 6 + 1 from by omega] at c1
            have c2 := hc (6 * j + 2) (by omega)
            rw [show o + (6 * j + 2) = o + j * 6 + 2 from by omega] at c2
            have c3 := hc (6 * j + 3) (by omega)
            rw [show o + (6 * j + 3) = o + j * 6 + 3 from by omega] at c3
            have c4 := hc (6 * j + 4) (by omega)
            rw [show o + (6 * j + 4) = o + j * 6 + 4 from by omega] at c4
            have c5 := hc (6 * j + 5) (by omega)
            rw [show o + (6 * j + 5) = o + j * 6 + 5 from by omega] at c5
            have e0 := hc' (6 * j) (by omega)
            rw [show o' + 6 * j = o' + j * 6 from by omega] at e0
            have e1 := hc' (6 * j + 1) (by omega)
            rw [show o' + (6 * j + 1) = o' + j * 6 + 1 from by omega] at e1
            have e2 := hc' (6 * j + 2) (by omega)
            rw [show o' + (6 * j + 2) = o' + j * 6 + 2 from by omega] at e2
            have e3 := hc' (6 * j + 3) (by omega)
            rw [show o' + (6 * j + 3) = o' + j * 6 + 3 from by omega] at e3
            have e4 := hc' (6 * j + 4) (by omega)
            rw [show o' + (6 * j + 4) = o' + j * 6 + 4 from by omega] at e4
            have e5 := hc' (6 * j + 5) (by omega)
            rw [show o' + (6 * j + 5) = o' + j * 6 + 5 from by omega] at e5
            clear hc hc'
            have hstep : [vs.getD (6 * j) 0, vs.getD (6 * j + 1) 0, vs.getD (6 * j + 2) 0, vs.getD (6 * j + 3) 0, vs.getD (6 * j + 4) 0, vs.getD (6 * j + 5) 0] = [vs'.getD (6 * j) 0, vs'.getD (6 * j + 1) 0, vs'.getD (6 * j + 2) 0, vs'.getD (6 * j + 3) 0, vs'.getD (6 * j + 4) 0, vs'.getD (6 * j + 5) 0] →
                ∀ q, q < 6 * (j + 1) → vs.getD q 0 = vs'.getD q 0 := by
              intro h q hq
              simp only [List.cons.injEq, and_true] at h
              obtain ⟨k0, k1, k2, k3, k4, k5⟩ := h
              by_cases hlo : q < 6 * j
              · exact HE.out q hlo
              · obtain rfl | rfl | rfl | rfl | rfl | rfl : q = 6 * j ∨ q = 6 * j + 1 ∨ q = 6 * j + 2 ∨ q = 6 * j + 3 ∨ q = 6 * j + 4 ∨ q = 6 * j + 5 := by omega
                all_goals assumption
            have hoff : [vs.getD (6 * j) 0, vs.getD (6 * j + 1) 0, vs.getD (6 * j + 2) 0, vs.getD (6 * j + 3) 0, vs.getD (6 * j + 4) 0, vs.getD (6 * j + 5) 0] ≠ [vs'.getD (6 * j) 0, vs'.getD (6 * j + 1) 0, vs'.getD (6 * j + 2) 0, vs'.getD (6 * j + 3) 0, vs'.getD (6 * j + 4) 0, vs'.getD (6 * j + 5) 0] → d = false := by
              intro h
              by_cases k0 : vs.getD (6 * j) 0 = vs'.getD (6 * j) 0
              · by_cases k1 : vs.getD (6 * j + 1) 0 = vs'.getD (6 * j + 1) 0
                · by_cases k2 : vs.getD (6 * j + 2) 0 = vs'.getD (6 * j + 2) 0
                  · by_cases k3 : vs.getD (6 * j + 3) 0 = vs'.getD (6 * j + 3) 0
                    · by_cases k4 : vs.getD (6 * j + 4) 0 = vs'.getD (6 * j + 4) 0
                      · by_cases k5 : vs.getD (6 * j + 5) 0 = vs'.getD (6 * j + 5) 0
                        · exact absurd (by rw [k0, k1, k2, k3, k4, k5]) h
                        · exact HNO.out _ k5
                      · exact HNO.out _ k4
                    · exact HNO.out _ k3
                  · exact HNO.out _ k2
                · exact HNO.out _ k1
              · exact HNO.out _ k0
            have HST := Lib.hid hstep; have HOFF := Lib.hid hoff
            clear hstep hoff HE HYES HNO
            generalize vs.getD (6 * j) 0 = a0 at *
            generalize vs.getD (6 * j + 1) 0 = a1 at *
            generalize vs.getD (6 * j + 2) 0 = a2 at *
            generalize vs.getD (6 * j + 3) 0 = a3 at *
            generalize vs.getD (6 * j + 4) 0 = a4 at *
            generalize vs.getD (6 * j + 5) 0 = a5 at *
            generalize vs'.getD (6 * j) 0 = b0 at *
            generalize vs'.getD (6 * j + 1) 0 = b1 at *
            generalize vs'.getD (6 * j + 2) 0 = b2 at *
            generalize vs'.getD (6 * j + 3) 0 = b3 at *
            generalize vs'.getD (6 * j + 4) 0 = b4 at *
            generalize vs'.getD (6 * j + 5) 0 = b5 at *
            by_cases hsix : [a0, a1, a2, a3, a4, a5] = [b0, b1, b2, b3, b4, b5]
            · have HE1 := Lib.hid (HST.out hsix); clear HST HOFF
              simp only [List.cons.injEq, and_true] at hsix
              obtain ⟨rfl, rfl, rfl, rfl, rfl, rfl⟩ := hsix
              have run_eq : ∀ w : World, (binOp .neq 121 (.agg #[.int .i64 a0, .int .i64 a1, .int .i64 a2, .int .i64 a3, .int .i64 a4, .int .i64 a5]) (.agg #[.int .i64 a0, .int .i64 a1, .int .i64 a2, .int .i64 a3, .int .i64 a4, .int .i64 a5])).run Try.prog w = .ok (.bool false) w := fun w => by go_simp
              go_wp2_with fail
              go_region
              go_wp2_with fail
              go_roundw
              case rel => exact ⟨j + 1, by omega, by go_num, HE1.out, HGr.out.trans (drawn_grown (Drawn.refl _).drew none), HXr.out.grown (drawn_grown (Drawn.refl _).drew none) (by simp), HYr.out.grown (drawn_grown (Drawn.refl _).drew none) (by simp)⟩
              case measure => simp [intOf]; omega
            · have HF := Lib.hid (HOFF.out hsix); clear HST HOFF
              have run_ne := fun w => run_neq_vol w a0 a1 a2 a3 a4 a5 b0 b1 b2 b3 b4 b5 hsix
              clear hsix
              go_wp2_with fail
              go_region
              go_wp2
              go_ret
              exact ⟨by rw [HF.out]; rfl, HGr.out.trans (drawn_grown (Drawn.refl _).drew none)⟩
          · obtain rfl : j = nv := by omega
            have HF := Lib.hid (HYES.out HE.out)
            go_wp2
            go_ret
            exact ⟨by rw [HF.out]; rfl, HGr.out⟩
      · have HNO := Lib.hid (ints_len (l := vs) (l' := vs') (by rw [HV.out.1, HV'.out.1]; omega))
        have hne : (((nv : Nat) : Int) != ((nv' : Nat) : Int)) = true := by simp; omega
        go_enter Try.func25, Try.ntmps25
        go_wp2_with fail
        refine (ints_any b b' AS AS' ns ns' cs cs' stack stack' _ HS.out HS'.out (by omega) (by omega)).mono ?_
        rintro e w1 ⟨rfl, hdr⟩
        rw [HD.out]
        have hg1 := drawn_grown hdr none
        have HG1 := Lib.hid (HG.out.trans hg1)
        have x1 := (HX.out.grown hg1 (by simp)).cell 1; have y1 := (HY.out.grown hg1 (by simp)).cell 1
        simp only [List.getElem?_toArray, List.getElem?_cons_zero, List.getElem?_cons_succ] at x1 y1
        clear hdr hg1
        go_wp2
        go_ret
        exact ⟨by rw [HNO.out]; simp, HG1.out⟩
  · have hne : (next != next') = true := by simpa using h1
    go_enter Try.func25, Try.ntmps25
    go_wp2
    go_ret
    exact ⟨by simp [h1], HG.out⟩
set_option maxRecDepth 100000 in
set_option maxHeartbeats 800000 in
theorem heads_same (b b' : Nat) (ep ep' sq sq' : Int) (A A' : Option Addr) (n n' c c' : Nat) (pages pages' : List Int) (sum sum' : Nat) (w : World) (hp : Ints w b A n pages) (hp' : Ints w b' A' n' pages') (hn : n ≤ maxLen) (hn' : n' ≤ maxLen) :
    Calls Try.prog 13 #[.agg #[.int .i64 ep, .int .i64 sq, .slice A n c, .int .u32 (sum : Nat)], .agg #[.int .i64 ep', .int .i64 sq', .slice A' n' c', .int .u32 (sum' : Nat)]] w fun e w' => e = .returned (.bool (decide (ep = ep') && decide (sq = sq') && decide (sum = sum') && decide (pages = pages'))) ∧ w.grownBy w' none := by
  have hg := (World.grownBy_alloc w (.cells #[.int .i64 ep, .int .i64 sq, .slice A n c, .int .u32 (sum : Nat)] 34) none).trans (World.grownBy_alloc _ (.cells #[.int .i64 ep', .int .i64 sq', .slice A' n' c', .int .u32 (sum' : Nat)] 34) none)
  have HG := Lib.hid hg; have HP := Lib.hid (ints_keep hp hg (.inl rfl)); have HP' := Lib.hid (ints_keep hp' hg (.inl rfl))
  simp only [maxLen] at hn hn'
  clear hg hp hp'
  by_cases h1 : ep = ep'
  · subst h1
    by_cases h2 : sq = sq'
    · subst h2
      by_cases h3 : sum = sum'
      · subst h3
        generalize hd : decide (pages = pages') = d
        have HD := Lib.hid hd; clear hd
        go_enter Try.func13, Try.ntmps13
        go_wp2_with fail
        refine (ints_any b b' A A' n n' c c' pages pages' _ HP.out HP'.out (by omega) (by omega)).mono ?_
        rintro e w1 ⟨rfl, hdr⟩
        have HG1 := Lib.hid (HG.out.trans (drawn_grown hdr none)); clear hdr
        rw [HD.out]
        go_wp2
        go_ret
        exact ⟨by simp, HG1.out⟩
      · have hne : (((sum : Nat) : Int) == ((sum' : Nat) : Int)) = false := by simp; omega
        go_enter Try.func13, Try.ntmps13
        go_wp2
        go_ret
        exact ⟨by simp [h3], HG.out⟩
    · have hne : (sq == sq') = false := by simpa using h2
      go_enter Try.func13, Try.ntmps13
      go_wp2
      go_ret
      exact ⟨by simp [h2], HG.out⟩
  · have hne : (ep == ep') = false := by simpa using h1
    go_enter Try.func13, Try.ntmps13
    go_wp2
    go_ret
    exact ⟨by simp [h1], HG.out⟩
end Go.Proofs.Ytboccfficmaoaaa.Codec
