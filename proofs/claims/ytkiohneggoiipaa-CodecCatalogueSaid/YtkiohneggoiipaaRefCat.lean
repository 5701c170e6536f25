/- The walk over the document's own answer for catalogues: volume, PutCatalogue. -/
import Derived.Test.YtkiohneggoiipaaCodecCatPut2
import Derived.Test.YtkiohneggoiipaaRefNode
namespace Go.Proofs.Ytkiohneggoiipaa.Codec
open Go.RowKit CrcMath CodecMath Mem Crc

set_option maxRecDepth 100000 in
set_option maxHeartbeats 800000 in
theorem refvolume_any (a0 a1 a2 a3 a4 a5 : Int) (w : World) :
    Calls Try.prog 73 #[.agg #[.int .i64 a0, .int .i64 a1, .int .i64 a2, .int .i64 a3, .int .i64 a4, .int .i64 a5]] w fun e w' => e = .returned (.bool (volOk a0 a1 a2 a3 a4 a5)) ∧ w' = w.alloc (.cells #[.int .i64 a0, .int .i64 a1, .int .i64 a2, .int .i64 a3, .int .i64 a4, .int .i64 a5] 129) := by
  obtain ⟨ok, hok⟩ : ∃ ok, ok = volOk a0 a1 a2 a3 a4 a5 := ⟨_, rfl⟩
  rw [← hok]
  have HOK := Lib.hid (show ok = (inB a0 1073741824 && (inB a1 2 && (inB a2 1048576 && (inB a3 1048576 && (inB a4 1023 && inB a5 1048576))))) from hok); clear hok
  cases h0 : inB a0 1073741824 with
  | false =>
    have H0 := Lib.hid h0; clear h0
    have HN := Lib.hid (show ok = false by rw [HOK.out, H0.out]; simp)
    go_enter Try.func73, Try.ntmps73
    go_wp2_with fail
    refine (in_any a0 _ _).mono ?_
    rintro e w2 ⟨rfl, rfl⟩
    rw [H0.out]
    go_wp2
    go_ret
    exact ⟨by rw [HN.out]; rfl, rfl⟩
  | true =>
    have H0 := Lib.hid h0; clear h0
    cases h1 : inB a1 2 with
    | false =>
      have H1 := Lib.hid h1; clear h1
      have HN := Lib.hid (show ok = false by rw [HOK.out, H0.out, H1.out]; simp)
      go_enter Try.func73, Try.ntmps73
      go_wp2_with fail
      refine (in_any a0 _ _).mono ?_
      rintro e w2 ⟨rfl, rfl⟩
      rw [H0.out]
      go_wp2_with fail
      refine (in_any a1 _ _).mono ?_
      rintro e w2 ⟨rfl, rfl⟩
      rw [H1.out]
      go_wp2
      go_ret
      exact ⟨by rw [HN.out]; rfl, rfl⟩
    | true =>
      have H1 := Lib.hid h1; clear h1
      cases h2 : inB a2 1048576 with
      | false =>
        have H2 := Lib.hid h2; clear h2
        have HN := Lib.hid (show ok = false by rw [HOK.out, H0.out, H1.out, H2.out]; simp)
        go_enter Try.func73, Try.ntmps73
        go_wp2_with fail
        refine (in_any a0 _ _).mono ?_
        rintro e w2 ⟨rfl, rfl⟩
        rw [H0.out]
        go_wp2_with fail
        refine (in_any a1 _ _).mono ?_
        rintro e w2 ⟨rfl, rfl⟩
        rw [H1.out]
        go_wp2_with fail
        refine (in_any a2 _ _).mono ?_
        rintro e w2 ⟨rfl, rfl⟩
        rw [H2.out]
        go_wp2
        go_ret
        exact ⟨by rw [HN.out]; rfl, rfl⟩
      | true =>
        have H2 := Lib.hid h2; clear h2
        cases h3 : inB a3 1048576 with
        | false =>
          have H3 := Lib.hid h3; clear h3
          have HN := Lib.hid (show ok = false by rw [HOK.out, H0.out, H1.out, H2.out, H3.out]; simp)
          go_enter Try.func73, Try.ntmps73
          go_wp2_with fail
          refine (in_any a0 _ _).mono ?_
          rintro e w2 ⟨rfl, rfl⟩
          rw [H0.out]
          go_wp2_with fail
          refine (in_any a1 _ _).mono ?_
          rintro e w2 ⟨rfl, rfl⟩
          rw [H1.out]
          go_wp2_with fail
          refine (in_any a2 _ _).mono ?_
          rintro e w2 ⟨rfl, rfl⟩
          rw [H2.out]
          go_wp2_with fail
          refine (in_any a3 _ _).mono ?_
          rintro e w2 ⟨rfl, rfl⟩
          rw [H3.out]
          go_wp2
          go_ret
          exact ⟨by rw [HN.out]; rfl, rfl⟩
        | true =>
          have H3 := Lib.hid h3; clear h3
          cases h5 : inB a5 1048576 with
          | false =>
            have H5 := Lib.hid h5; clear h5
            have HN := Lib.hid (show ok = false by rw [HOK.out, H0.out, H1.out, H2.out, H3.out, H5.out]; simp)
            go_enter Try.func73, Try.ntmps73
            go_wp2_with fail
            refine (in_any a0 _ _).mono ?_
            rintro e w2 ⟨rfl, rfl⟩
            rw [H0.out]
            go_wp2_with fail
            refine (in_any a1 _ _).mono ?_
            rintro e w2 ⟨rfl, rfl⟩
            rw [H1.out]
            go_wp2_with fail
            refine (in_any a2 _ _).mono ?_
            rintro e w2 ⟨rfl, rfl⟩
            rw [H2.out]
            go_wp2_with fail
            refine (in_any a3 _ _).mono ?_
            rintro e w2 ⟨rfl, rfl⟩
            rw [H3.out]
            go_wp2_with fail
            refine (in_any a5 _ _).mono ?_
            rintro e w2 ⟨rfl, rfl⟩
            rw [H5.out]
            go_wp2
            go_ret
            exact ⟨by rw [HN.out]; rfl, rfl⟩
          | true =>
            have H5 := Lib.hid h5; clear h5
            cases h4 : inB a4 1023 with
            | false =>
              have H4 := Lib.hid h4; clear h4
              have HN := Lib.hid (show ok = false by rw [HOK.out, H0.out, H1.out, H2.out, H3.out, H4.out, H5.out]; simp)
              go_enter Try.func73, Try.ntmps73
              go_wp2_with fail
              refine (in_any a0 _ _).mono ?_
              rintro e w2 ⟨rfl, rfl⟩
              rw [H0.out]
              go_wp2_with fail
              refine (in_any a1 _ _).mono ?_
              rintro e w2 ⟨rfl, rfl⟩
              rw [H1.out]
              go_wp2_with fail
              refine (in_any a2 _ _).mono ?_
              rintro e w2 ⟨rfl, rfl⟩
              rw [H2.out]
              go_wp2_with fail
              refine (in_any a3 _ _).mono ?_
              rintro e w2 ⟨rfl, rfl⟩
              rw [H3.out]
              go_wp2_with fail
              refine (in_any a5 _ _).mono ?_
              rintro e w2 ⟨rfl, rfl⟩
              rw [H5.out]
              go_wp2_with fail
              refine (in_any a4 _ _).mono ?_
              rintro e w2 ⟨rfl, rfl⟩
              rw [H4.out]
              go_wp2
              go_ret
              exact ⟨by rw [HN.out]; rfl, rfl⟩
            | true =>
              have H4 := Lib.hid h4; clear h4
              have HN := Lib.hid (show ok = true by rw [HOK.out, H0.out, H1.out, H2.out, H3.out, H4.out, H5.out]; rfl)
              go_enter Try.func73, Try.ntmps73
              go_wp2_with fail
              refine (in_any a0 _ _).mono ?_
              rintro e w2 ⟨rfl, rfl⟩
              rw [H0.out]
              go_wp2_with fail
              refine (in_any a1 _ _).mono ?_
              rintro e w2 ⟨rfl, rfl⟩
              rw [H1.out]
              go_wp2_with fail
              refine (in_any a2 _ _).mono ?_
              rintro e w2 ⟨rfl, rfl⟩
              rw [H2.out]
              go_wp2_with fail
              refine (in_any a3 _ _).mono ?_
              rintro e w2 ⟨rfl, rfl⟩
              rw [H3.out]
              go_wp2_with fail
              refine (in_any a5 _ _).mono ?_
              rintro e w2 ⟨rfl, rfl⟩
              rw [H5.out]
              go_wp2_with fail
              refine (in_any a4 _ _).mono ?_
              rintro e w2 ⟨rfl, rfl⟩
              rw [H4.out]
              go_wp2
              go_ret
              exact ⟨by rw [HN.out]; rfl, rfl⟩
set_option maxRecDepth 100000 in
set_option maxHeartbeats 3200000 in
theorem ref_put_catalogue (b : Nat) (next : Int) (AV AS : Option Addr) (nv cv ns cs : Nat) (stack vs : List Int) (w : World) (hs : Ints w b AS ns stack) (hv : Ints w b AV (6 * nv) vs) (hns : ns ≤ 9223372036854775807) :
    Calls Try.prog 40 #[.agg #[.int .i64 next, .slice AV nv cv, .slice AS ns cs]] w (Wrote w (catW next stack vs)) := by
  have HSL := Lib.hid hs.1; have HVL := Lib.hid hv.1
  have hga := World.grownBy_alloc w (.cells #[.int .i64 next, .slice AV nv cv, .slice AS ns cs] 75) none
  have HS := Lib.hid hs; have HV := Lib.hid hv; have HG0 := Lib.hid hga
  have HEQ := Lib.hid (catOk_eq (next := next) hs.1 hv.1)
  have HNONE := Lib.hid (fun h => by rw [catW, h]; rfl : catOk next stack vs = false → catW next stack vs = none)
  clear hs hv hga
  cases hn : inB next 1073741824 with
  | false =>
    have H0 := Lib.hid hn; clear hn
    have HNO := Lib.hid (HNONE.out (by rw [HEQ.out, H0.out]; simp))
    go_enter Try.func40, Try.ntmps40
    go_wp2_with fail
    refine (in_any next _ _).mono ?_
    rintro e w2 ⟨rfl, rfl⟩
    rw [H0.out]
    go_wp2
    go_ret2
    exact ⟨HG0.out, .inr ⟨HNO.out, rfl⟩⟩
  | true =>
    by_cases h8 : ns ≤ 8
    · by_cases hv8 : nv = 8
      · subst hv8
        obtain ⟨n0, n1⟩ := inB_yes hn
        have H0 := Lib.hid hn; clear hn
        obtain ⟨m, rfl⟩ := Int.eq_ofNat_of_zero_le n0
        have HS8 := Lib.hid (show stack.length ≤ 8 by rw [HSL.out]; exact h8)
        have HV48 := Lib.hid (show vs.length = 48 from HVL.out)
        have h8' : ¬ ((8 : Int) < (ns : Int)) := by omega
        have HXD := Lib.hid (Blk.new w 75 #[.int .i64 (m : Nat), .slice AV 8 cv, .slice AS ns cs]).drew
        have HGD := Lib.hid (HG0.out.trans (grown_drew _ none))
        have HBS := Lib.hid (show w.heap.size + 1 ≤ ((w.alloc (.cells #[.int .i64 (m : Nat), .slice AV 8 cv, .slice AS ns cs] 75)).drew).heap.size by simp)
        have HKEEP := Lib.hid (fun wx hx => ⟨hx.cell 0, hx.cell 2⟩ : ∀ wx, Blk wx w.heap.size 75 #[.int .i64 (m : Nat), .slice AV 8 cv, .slice AS ns cs] → wx.cell? ⟨w.heap.size, 0, none⟩ = some (.int .i64 (m : Nat)) ∧ wx.cell? ⟨w.heap.size, 2, none⟩ = some (.slice AS ns cs))
        go_enter Try.func40, Try.ntmps40
        go_wp2_with fail
        refine (in_any (m : Int) _ _).mono ?_
        rintro e w2 ⟨rfl, rfl⟩
        rw [H0.out]
        go_upto_region 3 with fail
        go_cut [4] (fun s4 wx => Own wx (w.heap.size + 1) 5 1 s4 5 (u8s (catQ m stack 0)) ∧ w.grownBy wx none ∧ Blk wx w.heap.size 75 #[.int .i64 (m : Nat), .slice AV 8 cv, .slice AS ns cs])
        case first =>
          go_region_held3 (fun w' => w'.cell? ⟨w.heap.size, 0, none⟩ = some (.int .i64 (m : Nat)) ∧ w'.cell? ⟨w.heap.size, 2, none⟩ = some (.slice AS ns cs))
            (first
              | exact HKEEP.out _ HXD.out
              | exact HKEEP.out _ HXb.out
              | exact HKEEP.out _ HXa.out
              | go_keep)
            (first
              | (go_at_call_of 57 (Value.slice none 0 0)
                 refine (put_any (w.heap.size + 1) (.slice none 0 0) 0 [] m 4 _ (Own.nil _ _ _ _) HBS.out (by omega) (by omega)).mono ?_
                 rintro e w1 ⟨v1, rfl, ho1, hg1⟩
                 have HOa := Lib.hid ho1; have HGa := Lib.hid hg1; have HXa := Lib.hid (HXD.out.grown hg1.1 (by simp [Value.ownBlock]))
                 clear ho1 hg1)
              | (go_at_call_of 57 v1
                 refine (put_any (w.heap.size + 1) v1 4 (be 4 m) ns 1 _ HOa.out (Nat.le_trans HBS.out HGa.out.1.size) (by omega) (by omega)).mono ?_
                 rintro e w2 ⟨v2, rfl, ho2, hg2⟩
                 have HOb := Lib.hid ho2; have HGb := Lib.hid hg2; have HXb := Lib.hid (HXa.out.grown hg2.1 (fun e => by have := (HOa.out.base_ _ e.symm).1; omega))
                 clear ho2 hg2))
          all_goals
            go_wp2_with fail
            go_meet
            refine ⟨?_, grownBy_new HGD.out (HGa.out.trans HGb.out).1 (fun j hj => by simp [Value.ownBlock] at hj), HXb.out⟩
            have h := HOb.out
            rwa [show be 4 m ++ be 1 ns = catQ m stack 0 by simp [catQ, HSL.out]] at h
        case rest =>
        obtain ⟨ho, hg, hx⟩ := hcut
        have HO := Lib.hid ho; have HG := Lib.hid hg; have HX := Lib.hid hx; clear ho hg hx HXD HGD HBS HKEEP
        have x2 := HX.out.cell 2
        simp only [List.getElem?_toArray, List.getElem?_cons_zero, List.getElem?_cons_succ] at x2
        go_wp2_with fail
        clear x2
        go_loopw [4, 5] (fun u i wr => ∃ j : Nat, j ≤ ns ∧ i = .int .i64 j ∧ Own wr (w.heap.size + 1) 5 1 u (5 + 2 * j) (u8s (catQ m stack j)) ∧ w.grownBy wr none ∧ Blk wr w.heap.size 75 #[.int .i64 (m : Nat), .slice AV 8 cv, .slice AS ns cs] ∧ (∀ q, q < j → inB (stack.getD q 0) 1023 = true)) (fun _ i _ => ns - (intOf i).toNat)
        case atStart => exact ⟨0, by omega, rfl, HO.out, HG.out, HX.out, fun q hq => by omega⟩
        case round =>
          obtain ⟨j, hj, rfl, ho, hg, hx, hin⟩ := hrel
          have HOr := Lib.hid ho; have HGr := Lib.hid hg; have HXr := Lib.hid hx; have HIN := Lib.hid hin
          have x2 := hx.cell 2
          simp only [List.getElem?_toArray, List.getElem?_cons_zero, List.getElem?_cons_succ] at x2
          clear ho hg hx hin
          by_cases hlt : j < ns
          · obtain ⟨g, o, rfl, _, _, hck⟩ := (ints_keep HS.out HGr.out (.inl rfl)).2.2 (by omega)
            have hcj := hck j hlt
            clear hck
            cases hib : inB (stack.getD j 0) 1023 with
            | false =>
              have HNO := Lib.hid (HNONE.out (by rw [HEQ.out, allB_no j (by rw [HSL.out]; exact hlt) hib]; simp))
              generalize stack.getD j 0 = x at *
              have HIX := Lib.hid hib; clear hib
              go_wp2_with fail
              refine (in_any x _ _).mono ?_
              rintro e w5 ⟨rfl, rfl⟩
              rw [HIX.out]
              go_wp2
              go_ret2
              exact ⟨HGr.out, .inr ⟨HNO.out, rfl⟩⟩
            | true =>
              have HTF := Lib.hid (catQ_succ m stack j (by rw [HSL.out]; exact hlt))
              have HIN' : Hid (∀ q, q < j + 1 → inB (stack.getD q 0) 1023 = true) := Lib.hid (fun q hq => by
                by_cases e : q = j
                · subst e; exact hib
                · exact HIN.out q (by omega))
              generalize stack.getD j 0 = x at *
              obtain ⟨hx0, hx1⟩ := inB_yes hib
              have HIX := Lib.hid hib; clear hib
              obtain ⟨y, rfl⟩ := Int.eq_ofNat_of_zero_le hx0
              rw [Int.toNat_natCast] at HTF
              have hszr : w.heap.size + 1 ≤ wr.heap.size := HXr.out.lt
              have HSZ := Lib.hid hszr; clear hszr
              go_wp2_with fail
              refine (in_any (y : Int) _ _).mono ?_
              rintro e w5 ⟨rfl, rfl⟩
              rw [HIX.out]
              go_wp2_with fail
              refine (put_any (w.heap.size + 1) _ _ _ y 2 _ HOr.out HSZ.out (by omega) (by omega)).mono ?_
              rintro e w5 ⟨v', rfl, ho', hg'⟩
              have HO' := Lib.hid ho'; have HG' := Lib.hid hg'; clear ho' hg'
              go_wp2_with fail
              go_roundw
              case measure => simp [intOf]; omega
              case rel =>
                refine ⟨j + 1, by omega, by go_num, ?_, grownBy_new HGr.out HG'.out.1 (fun i hi => by have := (HOr.out.base_ i hi).1; omega), HXr.out.grown HG'.out.1 (fun e => by have := (HOr.out.base_ _ e.symm).1; omega), HIN'.out⟩
                rw [HTF.out, show 5 + 2 * (j + 1) = 5 + 2 * j + 2 from by omega]
                exact HO'.out
          · obtain rfl : ns = j := by omega
            have HST := Lib.hid (allB_mk ns HSL.out HIN.out)
            have HSZ := Lib.hid (show w.heap.size + 1 ≤ wr.heap.size from HXr.out.lt)
            go_wp2_with fail
            refine (filled_any (w.heap.size + 1) _ (5 + 2 * ns) _ 21 _ HOr.out HSZ.out (by omega) (by omega)).mono ?_
            rintro e w5 ⟨v5, rfl, ho5, hg5⟩
            have hq : fill (catQ m stack ns) 21 = catV (m : Int) stack vs 0 := by
              have e := catQ_all m stack
              rw [HSL.out] at e
              rw [e]
              simp [catV, volsB]
            rw [hq] at ho5
            have HO5 := Lib.hid ho5; have HG5 := Lib.hid (grownBy_new HGr.out hg5.1 (fun i hi => by have := (HOr.out.base_ i hi).1; omega)); have HX5 := Lib.hid (HXr.out.grown hg5.1 (fun e => by have := (HOr.out.base_ _ e.symm).1; omega))
            clear ho5 hg5 hq x2
            go_wp2_with fail
            go_loopw [4, 6, 7] (fun u i _ wr => ∃ q : Nat, q ≤ 8 ∧ i = .int .i64 q ∧ Own wr (w.heap.size + 1) 5 1 u (21 + 19 * q) (u8s (catV (m : Int) stack vs q)) ∧ w.grownBy wr none ∧ Blk wr w.heap.size 75 #[.int .i64 (m : Nat), .slice AV 8 cv, .slice AS ns cs] ∧ (∀ s, s < 6 * q → inB (vs.getD s 0) (most (s % 6)) = true)) (fun _ i _ _ => 8 - (intOf i).toNat)
            case atStart => exact ⟨0, by omega, rfl, HO5.out, HG5.out, HX5.out, fun q hq => by omega⟩
            case round =>
              obtain ⟨q, hq, rfl, ho, hg, hx, hin⟩ := hrel
              have HOq := Lib.hid ho; have HGq := Lib.hid hg; have HXq := Lib.hid hx; have HIV := Lib.hid hin
              have x1 := hx.cell 1
              simp only [List.getElem?_toArray, List.getElem?_cons_zero, List.getElem?_cons_succ] at x1
              clear ho hg hx hin
              by_cases hlt2 : q < 8
              · obtain ⟨g, o, rfl, _, _, hcl⟩ := (ints_keep HV.out HGq.out (.inl rfl)).2.2 (by omega)
                have c0 := hcl (6 * q) (by omega)
                rw [show o + 6 * q = o + q * 6 from by omega] at c0
                have c1 := hcl (6 * q + 1) (by omega)
                rw [show o + (6 * q + 1) = o + q * 6 + 1 from by omega] at c1
                have c2 := hcl (6 * q + 2) (by omega)
                rw [show o + (6 * q + 2) = o + q * 6 + 2 from by omega] at c2
                have c3 := hcl (6 * q + 3) (by omega)
                rw [show o + (6 * q + 3) = o + q * 6 + 3 from by omega] at c3
                have c4 := hcl (6 * q + 4) (by omega)
                rw [show o + (6 * q + 4) = o + q * 6 + 4 from by omega] at c4
                have c5 := hcl (6 * q + 5) (by omega)
                rw [show o + (6 * q + 5) = o + q * 6 + 5 from by omega] at c5
                clear hcl
                have HSIX := Lib.hid (vol_six (vs := vs) q)
                have HVS := Lib.hid (catV_succ (m : Int) stack vs q)
                have HOKN : Hid (volOk (vs.getD (6 * q) 0) (vs.getD (6 * q + 1) 0) (vs.getD (6 * q + 2) 0) (vs.getD (6 * q + 3) 0) (vs.getD (6 * q + 4) 0) (vs.getD (6 * q + 5) 0) = false → catW (m : Int) stack vs = none) := Lib.hid (fun h => HNONE.out (by
                  cases hc : catOk (m : Int) stack vs with
                  | false => rfl
                  | true =>
                    obtain ⟨_, _, _, _, hvo⟩ := catOk_iff hc
                    have := (vol_six (vs := vs) q).2 (fun t h1 h2 => List.all_eq_true.1 hvo t (List.mem_range.2 (by rw [HV48.out]; omega)))
                    rw [h] at this; cases this))
                have HSZ := Lib.hid (show w.heap.size + 1 ≤ wr.heap.size from HXq.out.lt)
                generalize vs.getD (6 * q) 0 = a0 at *
                generalize vs.getD (6 * q + 1) 0 = a1 at *
                generalize vs.getD (6 * q + 2) 0 = a2 at *
                generalize vs.getD (6 * q + 3) 0 = a3 at *
                generalize vs.getD (6 * q + 4) 0 = a4 at *
                generalize vs.getD (6 * q + 5) 0 = a5 at *
                go_wp2_with fail
                refine (refvolume_any a0 a1 a2 a3 a4 a5 _).mono ?_
                rintro e w6 ⟨rfl, rfl⟩
                have hgv := (World.grownBy_alloc wr (.cells #[.int .i64 a0, .int .i64 a1, .int .i64 a2, .int .i64 a3, .int .i64 a4, .int .i64 a5] 129) none).trans (World.grownBy_alloc _ (.cells #[.int .i64 a0, .int .i64 a1, .int .i64 a2, .int .i64 a3, .int .i64 a4, .int .i64 a5] 129) none)
                cases hok : volOk a0 a1 a2 a3 a4 a5 with
                | false =>
                  have HNO := Lib.hid (HOKN.out hok); clear hok
                  have HGN := Lib.hid (HGq.out.trans hgv); clear hgv
                  go_wp2
                  go_ret2
                  exact ⟨HGN.out, .inr ⟨HNO.out, rfl⟩⟩
                | true =>
                  have HIN7 : Hid (∀ s, s < 6 * (q + 1) → inB (vs.getD s 0) (most (s % 6)) = true) := Lib.hid (fun s hs => by
                    by_cases e : s < 6 * q
                    · exact HIV.out s e
                    · exact HSIX.out.1 hok s (by omega) (by omega))
                  have hok' := hok
                  simp only [volOk, Bool.and_eq_true] at hok'
                  obtain ⟨k0, k1, k2, k3, k4, k5⟩ := hok'
                  obtain ⟨m0, rfl⟩ := Int.eq_ofNat_of_zero_le (inB_yes k0).1
                  obtain ⟨m1, rfl⟩ := Int.eq_ofNat_of_zero_le (inB_yes k1).1
                  obtain ⟨m2, rfl⟩ := Int.eq_ofNat_of_zero_le (inB_yes k2).1
                  obtain ⟨m3, rfl⟩ := Int.eq_ofNat_of_zero_le (inB_yes k3).1
                  obtain ⟨m4, rfl⟩ := Int.eq_ofNat_of_zero_le (inB_yes k4).1
                  obtain ⟨m5, rfl⟩ := Int.eq_ofNat_of_zero_le (inB_yes k5).1
                  simp only [Int.toNat_natCast] at HVS
                  have HB6 := Lib.hid ((Blk.new wr 129 #[.int .i64 (m0 : Nat), .int .i64 (m1 : Nat), .int .i64 (m2 : Nat), .int .i64 (m3 : Nat), .int .i64 (m4 : Nat), .int .i64 (m5 : Nat)]).alloc (.cells #[.int .i64 (m0 : Nat), .int .i64 (m1 : Nat), .int .i64 (m2 : Nat), .int .i64 (m3 : Nat), .int .i64 (m4 : Nat), .int .i64 (m5 : Nat)] 129))
                  have HG6 := Lib.hid (HGq.out.trans hgv); have HO6 := Lib.hid (HOq.out.keep hgv (fun _ _ h => by cases h)); have HX6 := Lib.hid (HXq.out.grown hgv (by simp))
                  have HNE6 := Lib.hid (fun e => by have := (HOq.out.base_ _ e).2; omega : _ ≠ some wr.heap.size)
                  clear hok k0 k1 k2 k3 k4 k5 hgv HSIX HOKN HIV x1 c0 c1 c2 c3 c4 c5
                  go_upto_region 17 with fail
                  go_cut [4] (fun s4 wx => Own wx (w.heap.size + 1) 5 1 s4 (21 + 19 * q + 4 + 1 + 4) (u8s (catV (m : Int) stack vs q ++ be 4 m0 ++ be 1 m1 ++ be 4 m2)) ∧ w.grownBy wx none ∧ Blk wx w.heap.size 75 #[.int .i64 (m : Nat), .slice (some ⟨g, o, none⟩) 8 cv, .slice AS ns cs] ∧ Blk wx wr.heap.size 129 #[.int .i64 (m0 : Nat), .int .i64 (m1 : Nat), .int .i64 (m2 : Nat), .int .i64 (m3 : Nat), .int .i64 (m4 : Nat), .int .i64 (m5 : Nat)] ∧ s4.ownBlock ≠ some wr.heap.size)
                  case first =>
                    have OD := Lib.hid HO6.out.drew; have BD := Lib.hid HB6.out.drew; have XD := Lib.hid HX6.out.drew
                    have SD := Lib.hid XD.out.lt
                    have KP := Lib.hid (fun wx hx => ⟨hx.cell 0, hx.cell 1, hx.cell 2⟩ : ∀ wx, Blk wx wr.heap.size 129 #[.int .i64 (m0 : Nat), .int .i64 (m1 : Nat), .int .i64 (m2 : Nat), .int .i64 (m3 : Nat), .int .i64 (m4 : Nat), .int .i64 (m5 : Nat)] → wx.cell? ⟨wr.heap.size, 0, none⟩ = some (.int .i64 (m0 : Nat)) ∧ wx.cell? ⟨wr.heap.size, 1, none⟩ = some (.int .i64 (m1 : Nat)) ∧ wx.cell? ⟨wr.heap.size, 2, none⟩ = some (.int .i64 (m2 : Nat)))
                    go_region_held3 (fun wx => wx.cell? ⟨wr.heap.size, 0, none⟩ = some (.int .i64 (m0 : Nat)) ∧ wx.cell? ⟨wr.heap.size, 1, none⟩ = some (.int .i64 (m1 : Nat)) ∧ wx.cell? ⟨wr.heap.size, 2, none⟩ = some (.int .i64 (m2 : Nat)))
                      (first
                        | exact KP.out _ BD.out
                        | exact KP.out _ BBa.out
                        | exact KP.out _ BBb.out
                        | exact KP.out _ BBc.out
                        | go_keep)
                      (first
                        | (go_at_call_of 57 (Value.int IntKind.i64 ((m0 : Nat) : Int))
                           refine (put_any (w.heap.size + 1) _ (21 + 19 * q) (catV (m : Int) stack vs q) m0 4 _ OD.out SD.out (by omega) (by omega)).mono ?_
                           rintro e w1a ⟨v1a, rfl, ho1, hg1⟩
                           have OOa := Lib.hid ho1; have GGa := Lib.hid hg1; have BBa := Lib.hid (BD.out.grown hg1.1 (fun e => HNE6.out e.symm)); have XXa := Lib.hid (XD.out.grown hg1.1 (fun e => by have := (OD.out.base_ _ e.symm).1; omega)); have NNa := Lib.hid (Grew.apart hg1 BD.out.lt HNE6.out)
                           clear ho1 hg1)
                        | (go_at_call_of 57 (Value.int IntKind.i64 ((m1 : Nat) : Int))
                           refine (put_any (w.heap.size + 1) _ (21 + 19 * q + 4) (catV (m : Int) stack vs q ++ be 4 m0) m1 1 _ OOa.out (Nat.le_trans SD.out (GGa.out.1.size)) (by omega) (by omega)).mono ?_
                           rintro e w1b ⟨v1b, rfl, ho1, hg1⟩
                           have OOb := Lib.hid ho1; have GGb := Lib.hid hg1; have BBb := Lib.hid (BBa.out.grown hg1.1 (fun e => NNa.out e.symm)); have XXb := Lib.hid (XXa.out.grown hg1.1 (fun e => by have := (OOa.out.base_ _ e.symm).1; omega)); have NNb := Lib.hid (Grew.apart hg1 BBa.out.lt NNa.out)
                           clear ho1 hg1)
                        | (go_at_call_of 57 (Value.int IntKind.i64 ((m2 : Nat) : Int))
                           refine (put_any (w.heap.size + 1) _ (21 + 19 * q + 4 + 1) (catV (m : Int) stack vs q ++ be 4 m0 ++ be 1 m1) m2 4 _ OOb.out (Nat.le_trans SD.out (Nat.le_trans GGa.out.1.size GGb.out.1.size)) (by omega) (by omega)).mono ?_
                           rintro e w1c ⟨v1c, rfl, ho1, hg1⟩
                           have OOc := Lib.hid ho1; have GGc := Lib.hid hg1; have BBc := Lib.hid (BBb.out.grown hg1.1 (fun e => NNb.out e.symm)); have XXc := Lib.hid (XXb.out.grown hg1.1 (fun e => by have := (OOb.out.base_ _ e.symm).1; omega)); have NNc := Lib.hid (Grew.apart hg1 BBb.out.lt NNb.out)
                           clear ho1 hg1))
                    all_goals
                      go_wp2_with fail
                      go_meet
                      exact ⟨OOc.out, grownBy_new (HG6.out.trans (grown_drew _ none)) ((GGa.out.trans GGb.out).trans GGc.out).1 (fun i hi => by have := (HO6.out.base_ i hi).1; omega), XXc.out, BBc.out, NNc.out⟩
                  case rest =>
                  obtain ⟨ho7, hg7, hx7, hb7, hne7⟩ := hcut
                  have HO7 := Lib.hid ho7; have HG7 := Lib.hid hg7; have HX7 := Lib.hid hx7; have HB7 := Lib.hid hb7; have HNE7 := Lib.hid hne7
                  clear ho7 hg7 hx7 hb7 hne7 HO6 HG6 HX6 HB6 HNE6
                  go_upto_region 18 with fail
                  have OD := Lib.hid HO7.out.drew; have BD := Lib.hid HB7.out.drew; have XD := Lib.hid HX7.out.drew
                  have SD := Lib.hid XD.out.lt
                  have KP := Lib.hid (fun wx hx => ⟨hx.cell 3, hx.cell 4, hx.cell 5⟩ : ∀ wx, Blk wx wr.heap.size 129 #[.int .i64 (m0 : Nat), .int .i64 (m1 : Nat), .int .i64 (m2 : Nat), .int .i64 (m3 : Nat), .int .i64 (m4 : Nat), .int .i64 (m5 : Nat)] → wx.cell? ⟨wr.heap.size, 3, none⟩ = some (.int .i64 (m3 : Nat)) ∧ wx.cell? ⟨wr.heap.size, 4, none⟩ = some (.int .i64 (m4 : Nat)) ∧ wx.cell? ⟨wr.heap.size, 5, none⟩ = some (.int .i64 (m5 : Nat)))
                  go_region_held3 (fun wx => wx.cell? ⟨wr.heap.size, 3, none⟩ = some (.int .i64 (m3 : Nat)) ∧ wx.cell? ⟨wr.heap.size, 4, none⟩ = some (.int .i64 (m4 : Nat)) ∧ wx.cell? ⟨wr.heap.size, 5, none⟩ = some (.int .i64 (m5 : Nat)))
                    (first
                      | exact KP.out _ BD.out
                      | exact KP.out _ BBa.out
                      | exact KP.out _ BBb.out
                      | exact KP.out _ BBc.out
                      | go_keep)
                    (first
                      | (go_at_call_of 57 (Value.int IntKind.i64 ((m3 : Nat) : Int))
                         refine (put_any (w.heap.size + 1) _ (21 + 19 * q + 4 + 1 + 4) (catV (m : Int) stack vs q ++ be 4 m0 ++ be 1 m1 ++ be 4 m2) m3 4 _ OD.out SD.out (by omega) (by omega)).mono ?_
                         rintro e w1a ⟨v1a, rfl, ho1, hg1⟩
                         have OOa := Lib.hid ho1; have GGa := Lib.hid hg1; have BBa := Lib.hid (BD.out.grown hg1.1 (fun e => HNE7.out e.symm)); have XXa := Lib.hid (XD.out.grown hg1.1 (fun e => by have := (OD.out.base_ _ e.symm).1; omega)); have NNa := Lib.hid (Grew.apart hg1 BD.out.lt HNE7.out)
                         clear ho1 hg1)
                      | (go_at_call_of 57 (Value.int IntKind.i64 ((m4 : Nat) : Int))
                         refine (put_any (w.heap.size + 1) _ (21 + 19 * q + 4 + 1 + 4 + 4) (catV (m : Int) stack vs q ++ be 4 m0 ++ be 1 m1 ++ be 4 m2 ++ be 4 m3) m4 2 _ OOa.out (Nat.le_trans SD.out (GGa.out.1.size)) (by omega) (by omega)).mono ?_
                         rintro e w1b ⟨v1b, rfl, ho1, hg1⟩
                         have OOb := Lib.hid ho1; have GGb := Lib.hid hg1; have BBb := Lib.hid (BBa.out.grown hg1.1 (fun e => NNa.out e.symm)); have XXb := Lib.hid (XXa.out.grown hg1.1 (fun e => by have := (OOa.out.base_ _ e.symm).1; omega)); have NNb := Lib.hid (Grew.apart hg1 BBa.out.lt NNa.out)
                         clear ho1 hg1)
                      | (go_at_call_of 57 (Value.int IntKind.i64 ((m5 : Nat) : Int))
                         refine (put_any (w.heap.size + 1) _ (21 + 19 * q + 4 + 1 + 4 + 4 + 2) (catV (m : Int) stack vs q ++ be 4 m0 ++ be 1 m1 ++ be 4 m2 ++ be 4 m3 ++ be 2 m4) m5 4 _ OOb.out (Nat.le_trans SD.out (Nat.le_trans GGa.out.1.size GGb.out.1.size)) (by omega) (by omega)).mono ?_
                         rintro e w1c ⟨v1c, rfl, ho1, hg1⟩
                         have OOc := Lib.hid ho1; have GGc := Lib.hid hg1; have BBc := Lib.hid (BBb.out.grown hg1.1 (fun e => NNb.out e.symm)); have XXc := Lib.hid (XXb.out.grown hg1.1 (fun e => by have := (OOb.out.base_ _ e.symm).1; omega)); have NNc := Lib.hid (Grew.apart hg1 BBb.out.lt NNb.out)
                         clear ho1 hg1))
                  all_goals
                    have hv8 : catV (m : Int) stack vs (q + 1) = catV (m : Int) stack vs q ++ be 4 m0 ++ be 1 m1 ++ be 4 m2 ++ be 4 m3 ++ be 2 m4 ++ be 4 m5 := by rw [HVS.out]; simp [volB, List.append_assoc]
                    have ho8 := OOc.out
                    rw [← hv8, show 21 + 19 * q + 4 + 1 + 4 + 4 + 2 + 4 = 21 + 19 * (q + 1) from by omega] at ho8
                    have HO8 := Lib.hid ho8; have HG8 := Lib.hid (grownBy_new (HG7.out.trans (grown_drew _ none)) ((GGa.out.trans GGb.out).trans GGc.out).1 (fun i hi => by have := (HO7.out.base_ i hi).1; omega))
                    clear ho8 hv8
                    go_wp2_with fail
                    go_roundw
                    case measure => simp [intOf]; omega
                    case rel => exact ⟨q + 1, by omega, by go_num, HO8.out, HG8.out, XXc.out, HIN7.out⟩
              · obtain rfl : q = 8 := by omega
                have hvo : volsOk vs = true := volsOk_mk fun t ht => HIV.out t (by rw [HV48.out] at ht; omega)
                have HVO := Lib.hid hvo; clear hvo
                have HYES := Lib.hid (show catW (m : Int) stack vs = some (fill (catB (m : Int) stack vs) 240) by rw [catW, if_pos (by rw [HEQ.out, H0.out, HST.out, HVO.out]; simp [h8])])
                have HSZ := Lib.hid (show w.heap.size + 1 ≤ wr.heap.size from HXq.out.lt)
                clear x1
                go_wp2_with fail
                refine (filled_any (w.heap.size + 1) _ (21 + 19 * 8) _ 240 _ HOq.out HSZ.out (by omega) (by omega)).mono ?_
                rintro e w5 ⟨v5, rfl, ho5, hg5⟩
                rw [catV_all] at ho5
                have HO9 := Lib.hid ho5; have HG9 := Lib.hid (grownBy_new HGq.out hg5.1 (fun i hi => by have := (HOq.out.base_ i hi).1; omega))
                clear ho5 hg5
                go_wp2
                go_ret2
                refine ⟨HG9.out, .inl ⟨_, _, HYES.out, rfl, ?_, fill_lt _ _ (catB_lt _ _ _)⟩⟩
                rw [fill_length _ _ (by rw [catB_len _ _ _ HS8.out]; omega)]
                exact HO9.out.low (by omega)
      · have HNO := Lib.hid (HNONE.out (by rw [HEQ.out]; simp [hv8]))
        have HN8 := Lib.hid hn; clear hn
        have h8' : ¬ ((8 : Int) < (ns : Int)) := by omega
        have hne : (((nv : Nat) : Int) != 8) = true := by simp; omega
        go_enter Try.func40, Try.ntmps40
        go_wp2_with fail
        refine (in_any next _ _).mono ?_
        rintro e w2 ⟨rfl, rfl⟩
        rw [HN8.out]
        go_wp2
        go_ret2
        exact ⟨HG0.out, .inr ⟨HNO.out, rfl⟩⟩
    · have HNO := Lib.hid (HNONE.out (by rw [HEQ.out]; simp [h8]))
      have HN8 := Lib.hid hn; clear hn
      have h8' : (8 : Int) < (ns : Int) := by omega
      go_enter Try.func40, Try.ntmps40
      go_wp2_with fail
      refine (in_any next _ _).mono ?_
      rintro e w2 ⟨rfl, rfl⟩
      rw [HN8.out]
      go_wp2
      go_ret2
      exact ⟨HG0.out, .inr ⟨HNO.out, rfl⟩⟩
end Go.Proofs.Ytkiohneggoiipaa.Codec
