/- both of the document's node: two nodes, one behind the other. -/
import Derived.Test.YtlbadapcaooieaaNdRefHalves
import Derived.Test.YtlbadapcaooieaaNdJoin
namespace Go.Proofs.Ytlbadapcaooieaa.Node
open Go.RowKit CrcMath Mem Crc Codec NdSpec
set_option linter.unusedVariables false
set_option linter.unusedSimpArgs false

theorem seam_nil {ka kb : List Int} (h : kb.length = 0) : seam ka kb = true := by simp [seam, h]
theorem seam_nil' {ka kb : List Int} (h : ka.length = 0) : seam ka kb = true := by simp [seam, h]
theorem both_last {la : Bool} {ka kb vb : List Int} (hb : may la kb vb = true) {j k : Nat} (hj : j < kb.length) (hk : ka.length + j = k + 1) :
    (seam ka kb = true → (ka ++ cut kb 0 j).getD k 0 < kb.getD j 0) ∧ (seam ka kb = false → j = 0 → kb.getD j 0 ≤ (ka ++ cut kb 0 j).getD k 0) := by
  by_cases h0 : j = 0
  · subst h0
    have e : (ka ++ cut kb 0 0).getD k 0 = ka.getD (ka.length - 1) 0 := by
      rw [cut_nil, List.append_nil, show k = ka.length - 1 by omega]
    rw [e]
    unfold seam
    rw [decide_eq_false (show ¬ ka.length = 0 by omega), decide_eq_false (show ¬ kb.length = 0 by omega)]
    refine ⟨fun h => by simpa using h, fun h _ => ?_⟩
    have : ¬ (ka.getD (ka.length - 1) 0 < kb.getD 0 0) := by simpa using h
    omega
  · refine ⟨fun _ => ?_, fun _ h => absurd h h0⟩
    have e : (ka ++ cut kb 0 j).getD k 0 = kb.getD (j - 1) 0 := by
      rw [List.getD_eq_getElem?_getD, List.getElem?_append_right (by omega), show k - ka.length = j - 1 by omega]
      unfold cut
      rw [List.drop_zero, Nat.sub_zero, List.getElem?_take_of_lt (by omega), List.getD_eq_getElem?_getD]
    rw [e]
    exact rise hb (j - 1) j (by omega) hj
theorem cut_whole {l : List Int} {m : Nat} (h : l.length = m) : cut l 0 m = l := by
  unfold cut
  rw [List.drop_zero, Nat.sub_zero, List.take_of_length_le (by omega)]
def ToldB (w : World) (ok lf : Bool) (Ks Vs : List Int) (e : Ending) (w' : World) : Prop :=
  w.grownBy w' none ∧ ((ok = false ∧ e = .returned (.tuple #[.agg #[.bool false, .slice none 0 0, .slice none 0 0], .bool false])) ∨
    (ok = true ∧ ∃ E E' L L' e1 e1', e = .returned (.tuple #[.agg #[.bool lf, .slice E L e1, .slice E' L' e1'], .bool true]) ∧ NdOwn w' w.heap.size (.slice E L e1) (.slice E' L' e1') Ks Vs))
set_option maxRecDepth 100000 in
set_option maxHeartbeats 6400000 in
theorem rboth_call {w : World} {A A' B B' : Option Addr} {n n' c c' m m' d d' : Nat} {ka va kb vb : List Int} (la lb : Bool) (h : NdAt w A A' n n' c c' ka va) (k : NdAt w B B' m m' d d' kb vb) :
    Calls Try.prog 39 #[.agg #[.bool la, .slice A n c, .slice A' n' c'], .agg #[.bool lb, .slice B m d, .slice B' m' d']] w (ToldB w (follows la ka va lb kb vb) la (ka ++ kb) (va ++ vb)) := by
  obtain ⟨i0, hi0, hz0, hz1, hz2⟩ := info_int
  have hi := Lib.hid hi0; have z0 := Lib.hid hz0; have z1 := Lib.hid hz1; have z2 := Lib.hid hz2
  have HONE := Lib.hid (show 0 < 1 by omega)
  have hg0 := ((World.grownBy_alloc w (.cells #[.bool la, .slice A n c, .slice A' n' c'] 24) none).trans (World.grownBy_alloc _ (.cells #[.bool lb, .slice B m d, .slice B' m' d'] 24) none)).trans (World.grownBy_alloc _ (.cells #[.bool false, .slice none 0 0, .slice none 0 0] 24) none)
  obtain ⟨hb1, hb2, hb3⟩ := three3 w 24 #[.bool la, .slice A n c, .slice A' n' c'] #[.bool lb, .slice B m d, .slice B' m' d'] #[.bool false, .slice none 0 0, .slice none 0 0]
  have HG0 := Lib.hid hg0; have HB1 := Lib.hid hb1; have HB2 := Lib.hid hb2; have HB3 := Lib.hid hb3
  have HM1 := Lib.hid (rmay_call la (h.keep hg0))
  have HH := Lib.hid h; have HK := Lib.hid k
  have hkl := h.klen; have hvl := h.vlen; have hml := k.klen; have hwl := k.vlen
  obtain ⟨r1, hr1⟩ : ∃ r, may la ka va = r := ⟨_, rfl⟩
  obtain ⟨r2, hr2⟩ : ∃ r, may lb kb vb = r := ⟨_, rfl⟩
  have HM2 := Lib.hid (fun (W : World) (hW : NdAt W B B' m m' d d' kb vb) => by have q := rmay_call lb hW; rw [hr2] at q; exact q)
  rw [hr1] at HM1
  by_cases hbad : r1 = false ∨ r2 = false ∨ la ≠ lb
  · have hf : follows la ka va lb kb vb = false := by
      unfold follows
      rw [hr1, hr2]
      rcases hbad with h | h | h
      · rw [h]; rfl
      · rw [h, Bool.and_false]; rfl
      · rw [beq_eq_false_iff_ne.2 h, Bool.and_false]; rfl
    rw [hf]
    have hbb : r1 = false ∨ (r1 = true ∧ r2 = false) ∨ (r1 = true ∧ r2 = true ∧ (la == lb) = false) := by
      cases r1
      · exact .inl rfl
      · cases r2
        · exact .inr (.inl ⟨rfl, rfl⟩)
        · refine .inr (.inr ⟨rfl, rfl, ?_⟩)
          rcases hbad with h | h | h
          · cases h
          · cases h
          · exact beq_eq_false_iff_ne.2 h
    clear h k hkl hvl hml hwl hg0 hb1 hb2 hb3 hr1 hr2 hf hi0 hz0 hz1 hz2 hbad
    rcases hbb with rfl | ⟨rfl, rfl⟩ | ⟨rfl, rfl, hll⟩
    all_goals
      go_enter Try.func39, Try.ntmps39
      go_wp2_with fail
      refine HM1.out.mono ?_
      rintro e w1 ⟨rfl, hg⟩
      have HG1 := Lib.hid (HG0.out.trans hg); have HX1 := Lib.hid (HB1.out.grown hg (by simp)); have HX2 := Lib.hid (HB2.out.grown hg (by simp)); have HX := Lib.hid (HB3.out.grown hg (by simp))
      clear hg
      obtain ⟨x0, x1, x2⟩ := box3 HX2.out
      go_wp2_with fail
      refine (HM2.out _ (HK.out.keep HG1.out)).mono ?_
      rintro e w2 ⟨rfl, hg⟩
      have HG2 := Lib.hid (HG1.out.trans hg); have HY := Lib.hid (HX.out.grown hg (by simp))
      have HY1 := Lib.hid (HX1.out.grown hg (by simp)); have HY2 := Lib.hid (HX2.out.grown hg (by simp))
      clear hg x0 x1 x2
      obtain ⟨x0, x1, x2⟩ := box3 HY1.out
      obtain ⟨y0, y1, y2⟩ := box3 HY2.out
      obtain ⟨z4, z5, z6⟩ := box3 HY.out
      have f0 := HY.out.frozen 0; have f1 := HY.out.frozen 1; have f2 := HY.out.frozen 2
      go_wp2_with fail
      refine ret_row2 rfl (w.heap.size + 1 + 1) 24 _ _ rfl (Blk.set3 HY.out) Try.underlying24 rfl (by kernel_rfl) rfl ⟨?_, .inl ⟨rfl, rfl⟩⟩
      repeat (refine grown_set1 ?_ (by omega) _)
      exact HG2.out
  · obtain rfl : r1 = true := by cases r1 <;> simp_all
    obtain rfl : r2 = true := by cases r2 <;> simp_all
    obtain rfl : la = lb := by
      by_cases e : la = lb
      · exact e
      · exact absurd (.inr (.inr e)) hbad
    have hm1 := may_len hr1; have hm2 := may_len hr2
    have hff : follows la ka va la kb vb = seam ka kb := by simp [follows, hr1, hr2]
    rw [hff]
    obtain rfl : n' = n := by rw [← hkl, ← hvl]; exact hm1.1.symm
    obtain rfl : m' = m := by rw [← hml, ← hwl]; exact hm2.1.symm
    have hn8 : n' ≤ 8 := by rw [← hkl]; exact hm1.2.1
    have hm8 : m' ≤ 8 := by rw [← hml]; exact hm2.2.1
    have HKL := Lib.hid hkl; have HVL := Lib.hid hvl; have HML := Lib.hid hml; have HWL := Lib.hid hwl
    have HLAST := Lib.hid (fun j k hj hk => @both_last la ka kb vb hr2 j k hj hk)
    have HSN := Lib.hid (@seam_nil ka kb); have HSN' := Lib.hid (@seam_nil' ka kb)
    have HKI := Lib.hid k.kin; have HWI := Lib.hid k.vin
    have hll : (la == la) = true := by simp
    have HN16 := Lib.hid (show n' ≤ 16 by omega)
    obtain ⟨sm, hsm⟩ : ∃ s, seam ka kb = s := ⟨_, rfl⟩
    rw [hsm] at HLAST HSN HSN' ⊢
    clear h k hkl hvl hml hwl hg0 hb1 hb2 hb3 hr1 hr2 hff hm1 hm2 hi0 hz0 hz1 hz2 hbad
    go_enter Try.func39, Try.ntmps39
    go_wp2_with fail
    refine HM1.out.mono ?_
    rintro e w1 ⟨rfl, hg⟩
    have HG1 := Lib.hid (HG0.out.trans hg); have HX1 := Lib.hid (HB1.out.grown hg (by simp)); have HX2 := Lib.hid (HB2.out.grown hg (by simp)); have HX := Lib.hid (HB3.out.grown hg (by simp))
    clear hg
    obtain ⟨x0, x1, x2⟩ := box3 HX2.out
    go_wp2_with fail
    refine (HM2.out _ (HK.out.keep HG1.out)).mono ?_
    rintro e w2 ⟨rfl, hg⟩
    have HG2 := Lib.hid (HG1.out.trans hg); have HY := Lib.hid (HX.out.grown hg (by simp))
    have HY1 := Lib.hid (HX1.out.grown hg (by simp)); have HY2 := Lib.hid (HX2.out.grown hg (by simp))
    clear hg x0 x1 x2
    obtain ⟨x0, x1, x2⟩ := box3 HY1.out
    obtain ⟨y0, y1, y2⟩ := box3 HY2.out
    go_wp2_with fail
    refine (rfrom_first la n' (HH.out.keep HG2.out) (Nat.le_refl _) (Nat.le_refl _) HN16.out).mono ?_
    rintro e w3 ⟨hg, E, E', L, L', e1, e1', rfl, ho⟩
    rw [List.take_of_length_le (by rw [HKL.out]; exact Nat.le_refl _), List.take_of_length_le (by rw [HVL.out]; exact Nat.le_refl _)] at ho
    have hg' := hg.trans (World.grownBy_alloc w3 (.cells #[.bool la, .slice E L e1, .slice E' L' e1'] 24) none)
    have HG3 := Lib.hid (HG2.out.trans hg')
    have HZ := Lib.hid (HY.out.grown hg' (by simp)); have HZ2 := Lib.hid (HY2.out.grown hg' (by simp))
    have hlt2 := HY.out.lt
    have HBW := Lib.hid (show w2.heap.size ≤ (w3.alloc (.cells #[.bool la, .slice E L e1, .slice E' L' e1'] 24)).heap.size from hg'.size)
    have HGA0 := Lib.hid (show Gat _ _ (· < w2.heap.size) w2.heap.size w3.heap.size la (.slice E L e1) (.slice E' L' e1') ka va from
      ⟨Kept.refl _ _, fun i hi => Nat.lt_of_lt_of_le hi hg'.size, by have := hg.size; omega, Blk.new w3 _ _, ho.keep (World.grownBy_alloc _ _ none),
        fun i hi => by have := ho.k.base_ i hi; omega, fun i hi => by have := ho.v.base_ i hi; omega⟩)
    have HSW := Lib.hid (show w.heap.size + 1 + 1 < w2.heap.size from hlt2)
    have HWW := Lib.hid (show w.heap.size ≤ w2.heap.size from HG2.out.size)
    clear hg hg' ho x0 x1 x2 y0 y1 y2 hlt2 hll
    go_wp2_with fail
    generalize hW0 : w3.alloc (.cells #[.bool la, .slice E L e1, .slice E' L' e1'] 24) = W0 at *
    generalize w3.heap.size = BB at *
    clear hW0
    go_loopw [9] (fun i wr => ∃ (j : Nat) (v1 v2 : Value), j ≤ m' ∧ i = .int .i64 j ∧ Gat W0 wr (· < w2.heap.size) w2.heap.size BB la v1 v2 (ka ++ cut kb 0 j) (va ++ cut vb 0 j) ∧ (0 < j → sm = true)) (fun i _ => m' - (intOf i).toNat)
    case atStart => exact ⟨0, _, _, by omega, rfl, by rw [cut_nil, cut_nil, List.append_nil, List.append_nil]; exact HGA0.out, fun hh => absurd hh (by omega)⟩
    case round =>
      obtain ⟨j, v1, v2, hjm, rfl, hga, hsj⟩ := hrel
      have HSJ := Lib.hid hsj
      obtain ⟨A1, A2, c1, c2, rfl, rfl, hat⟩ := hga.shape
      have hbx := hga.kept.blk HZ2.out (by have := HSW.out; omega)
      obtain ⟨p0, p1, p2⟩ := box3 hbx
      have hgw := hga.kept.grown HG3.out (fun i hi => by have := HWW.out; omega)
      have HGW := Lib.hid hgw
      by_cases hlt : j < m'
      · have hKs := cut_succ (l := kb) (a := 0) (Nat.zero_le j) (by rw [HML.out]; exact hlt)
        have hVs := cut_succ (l := vb) (a := 0) (Nat.zero_le j) (by rw [HWL.out]; exact hlt)
        have hl1 : (ka ++ cut kb 0 j).length = n' + j := by rw [List.length_append, cut_len (by rw [HML.out]; omega), HKL.out, Nat.sub_zero]
        have hl2 : (va ++ cut vb 0 j).length = n' + j := by rw [List.length_append, cut_len (by rw [HWL.out]; omega), HVL.out, Nat.sub_zero]
        have HT := Lib.hid (show ka ++ cut kb 0 (j + 1) = (ka ++ cut kb 0 j) ++ [kb.getD j 0] ∧ va ++ cut vb 0 (j + 1) = (va ++ cut vb 0 j) ++ [vb.getD j 0] by rw [hKs, hVs, List.append_assoc, List.append_assoc]; exact ⟨rfl, rfl⟩)
        obtain ⟨g, o, ee, _, hc⟩ := (HK.out.keep hgw).kc (by omega)
        obtain ⟨g', o', ee', _, hc'⟩ := (HK.out.keep hgw).vc (by omega)
        have s1 := hc j hlt
        clear hc hc'
        have HLJ := Lib.hid (HLAST.out j)
        have HI1 := Lib.hid (getD_in HKI.out j); have HI2 := Lib.hid (getD_in HWI.out j)
        subst ee ee'
        generalize hx : kb.getD j 0 = x at *
        generalize hy : vb.getD j 0 = y at *
        have HY' := Lib.hid hy; have HX' := Lib.hid hx
        clear hx hy
        have j0 : (0 : Int) ≤ j := by omega
        have j1 : (j : Int) < m' := by omega
        have HIN := Lib.hid (show ∀ t ∈ [x], -9223372036854775808 ≤ t ∧ t ≤ 9223372036854775807 from fun t ht => by simp at ht; subst ht; exact HI1.out)
        generalize hKK : ka ++ cut kb 0 j = Ks at *
        generalize hVV : va ++ cut vb 0 j = Vs at *
        obtain ⟨k1, hk1⟩ : ∃ k1, Ks.length = k1 := ⟨_, rfl⟩
        obtain ⟨k2, hk2⟩ : ∃ k2, Vs.length = k2 := ⟨_, rfl⟩
        rw [hk1, hk2] at hga hat
        have hk16 : Ks.length ≤ 16 ∧ Vs.length ≤ 16 := by omega
        have hk1n : k1 = n' + j := by omega
        have HAT := Lib.hid hat
        have HGA := Lib.hid hga
        obtain ⟨⟨x0, x1, x2⟩, _, _, _⟩ := hga.cells
        have HKN := Lib.hid hk1n
        clear hl1 hl2 hKs hVs
        by_cases hpass : k1 = 0 ∨ sm = true
        · -- it goes on
          go_upto_region 9 with fail
          go_cut [9, 59] (fun s9 s59 wx => s9 = .int .i64 j ∧ s59 = .bool false ∧ Gat W0 wx (· < w2.heap.size) w2.heap.size BB la (.slice A1 k1 c1) (.slice A2 k2 c2) Ks Vs)
          case first =>
            by_cases hk0 : k1 = 0
            · have hd : decide ((0 : Int) < (k1 : Int)) = false := by simp; omega
              have hd' : decide (0 < k1) = false := by simp; omega
              clear hk0 hk1n hpass hga hat hk1 hk2
              go_region
              go_wp2_with fail
              go_meet
              exact ⟨rfl, rfl, HGA.out.quiet (grown_drew _ none)⟩
            · obtain ⟨k, hk⟩ : ∃ k, k1 = k + 1 := ⟨k1 - 1, by omega⟩
              have hsm1 : sm = true := by rcases hpass with h | h
                                          · exact absurd h hk0
                                          · exact h
              have hlast := (HLJ.out k (by rw [HML.out]; exact hlt) (by rw [HKL.out, ← hk1n, hk])).1 hsm1
              have hrow : ∃ g2 o2, A1 = some ⟨g2, o2, none⟩ ∧ wr.cell? ⟨g2, o2 + k, none⟩ = some (.int .i64 (Ks.getD k 0)) := by
                obtain ⟨g2, o2, e2, _, h2⟩ := HAT.out.kc (by omega)
                exact ⟨g2, o2, e2, h2 k (by omega)⟩
              obtain ⟨g2, o2, rfl, s3⟩ := hrow
              generalize hz : Ks.getD k 0 = z at *
              have hd : decide ((0 : Int) < (k1 : Int)) = true := by simp; omega
              have hd' : decide (0 < k1) = true := by simp; omega
              have hxz : decide (x ≤ z) = false := by simp; omega
              have hw1 : IntKind.i64.wrap ((k1 : Int) - 1) = (k : Int) := by rw [show (k1 : Int) - 1 = (k : Int) from by omega]; exact IntWalk.i64_in _ (by omega)
              have k0 : (0 : Int) ≤ k := by omega
              have kk1 : (k : Int) < k1 := by omega
              clear hk0 hk1n hpass hga hat hk1 hk2 hk hz hsm1
              go_region
              go_wp2_with fail
              go_meet
              exact ⟨rfl, rfl, HGA.out.quiet (grown_drew _ none)⟩
          case rest =>
            obtain ⟨rfl, rfl, hgc⟩ := hcut
            have hsmj : 0 < j + 1 → sm = true := by
              intro _
              rcases hpass with h | h
              · exact HSN'.out (by rw [HKL.out]; have := HKN.out; omega)
              · exact h
            have HSMJ := Lib.hid hsmj
            have hgw2 := hgc.kept.grown HG3.out (fun i hi => by have := HWW.out; omega)
            obtain ⟨g3, o3, ee, _, hcw⟩ := (HK.out.keep hgw2).kc (by omega)
            cases ee
            clear s1 p0 p1 p2 HGA x0 x1 x2 hsmj hpass hk1 hk2 hk1n hga hat
            have s1 := hcw j (by omega)
            rw [HX'.out] at s1
            obtain ⟨p0, p1, p2⟩ := box3 (hgc.kept.blk HZ2.out (by have := HSW.out; omega))
            have HGA := Lib.hid hgc
            clear hgw2 hcw hgc
            generalize wc = wd at *
            go_upto_region 11 with fail
            go_cut [9] (fun s9 wx => s9 = .int .i64 j ∧ ∃ v', Gat W0 wx (· < w2.heap.size) w2.heap.size BB la v' (.slice A2 k2 c2) (Ks ++ [x]) Vs)
            case first =>
              have HGB := Lib.hid ((HGA.out.quiet (World.grownBy_alloc wd (.cells #[.int .i64 x] 3) none)).quiet (grown_drew _ none))
              have HOK := Lib.hid HGB.out.own.k
              have HRD := Lib.hid (Reads.drew (reads_one_int wd (.int .i64 x)))
              have HSZ := Lib.hid (show w2.heap.size ≤ (wd.alloc (.cells #[.int .i64 x] 3)).drew.heap.size from Nat.le_trans HBW.out HGB.out.kept.size)
              obtain ⟨⟨x0, x1, x2⟩, y0, y1, y2⟩ := HGA.out.cells
              obtain ⟨⟨wq0, wq1, wq2⟩, _, _, _⟩ := (HGA.out.quiet (World.grownBy_alloc wd (.cells #[.int .i64 x] 3) none)).cells
              go_region_law (first
                | (refine step_append_any _ rfl (.tmp 62) (.tmp 68) _ rfl w2.heap.size 3 i0 _ 1 8 Try.underlying22 hi.out z0.out z1.out z2.out rfl HONE.out (.slice A1 k1 c1) Ks.length (i64s Ks) ?_ HOK.out
                     _ (some ⟨wd.heap.size, 0, none⟩) 1 1 [.int .i64 x] ?_ HRD.out ?_ ?_ ?_ ?_ ?_
                   rfl
                   rfl
                   (intro u hu; simp at hu; subst hu; rfl)
                   (simp only [maxLen]; omega)
                   omega
                   exact HSZ.out
                   intro v' w' hown' hgr hwh
                   have hgc := HGB.out.key (l := [x]) (m := 1) hgr hown' hwh rfl HIN.out
                   have hbb := HGB.out.box.grown hgr (fun e => (HGB.out.r1 _ e.symm).2 rfl)
                   obtain ⟨A6, c6, hv, _, _, _⟩ := (Own.of hown').shape
                   subst hv
                   have q1 := hbb.cell 1
                   have q2 := hbb.frozen 1
                   simp only [List.getElem?_toArray, List.getElem?_cons_zero, List.getElem?_cons_succ] at q1
                   have HGC := Lib.hid hgc
                   clear hgc hbb hown' hgr hwh))
              all_goals
                go_wp2_with fail
                go_meet
                exact ⟨rfl, _, HGC.out⟩
            case rest =>
              obtain ⟨rfl, v3, hgc⟩ := hcut
              obtain ⟨A3, A4, c3, c4, rfl, e4, hat⟩ := hgc.shape
              have hgw := hgc.kept.grown HG3.out (fun i hi => by have := HWW.out; omega)
              obtain ⟨g3, o3, ee, _, hcw⟩ := (HK.out.keep hgw).vc (by omega)
              cases ee
              clear s1 p0 p1 p2 HGA HIN
              have s1 := hcw j (by omega)
              rw [HY'.out] at s1
              obtain ⟨p0, p1, p2⟩ := box3 (hgc.kept.blk HZ2.out (by have := HSW.out; omega))
              have HIN := Lib.hid (show ∀ t ∈ [y], -9223372036854775808 ≤ t ∧ t ≤ 9223372036854775807 from fun t ht => by simp at ht; subst ht; exact HI2.out)
              have HGA := Lib.hid hgc
              clear e4 hat hgw hcw hgc
              generalize wc = we at *
              go_wp2_with fail
              have HGB := Lib.hid ((HGA.out.quiet (World.grownBy_alloc we (.cells #[.int .i64 y] 3) none)).quiet (grown_drew _ none))
              have HOK := Lib.hid HGB.out.own.v
              have HRD := Lib.hid (Reads.drew (reads_one_int we (.int .i64 y)))
              have HSZ := Lib.hid (show w2.heap.size ≤ (we.alloc (.cells #[.int .i64 y] 3)).drew.heap.size from Nat.le_trans HBW.out HGB.out.kept.size)
              obtain ⟨⟨x0, x1, x2⟩, y0, y1, y2⟩ := HGA.out.cells
              obtain ⟨⟨wq0, wq1, wq2⟩, _, _, _⟩ := (HGA.out.quiet (World.grownBy_alloc we (.cells #[.int .i64 y] 3) none)).cells
              go_region_law (first
                | (refine step_append_any _ rfl (.tmp 72) (.tmp 78) _ rfl w2.heap.size 3 i0 _ 1 8 Try.underlying22 hi.out z0.out z1.out z2.out rfl HONE.out (.slice A2 k2 c2) Vs.length (i64s Vs) ?_ HOK.out
                     _ (some ⟨we.heap.size, 0, none⟩) 1 1 [.int .i64 y] ?_ HRD.out ?_ ?_ ?_ ?_ ?_
                   rfl
                   rfl
                   (intro u hu; simp at hu; subst hu; rfl)
                   (simp only [maxLen]; omega)
                   omega
                   exact HSZ.out
                   intro v' w' hown' hgr hwh
                   have hgc := HGB.out.val (l := [y]) (m := 1) hgr hown' hwh rfl HIN.out
                   have hbb := HGB.out.box.grown hgr (fun e => (HGB.out.r2 _ e.symm).2 rfl)
                   obtain ⟨A6, c6, hv, _, _, _⟩ := (Own.of hown').shape
                   subst hv
                   have q1 := hbb.cell 2
                   have q2 := hbb.frozen 2
                   simp only [List.getElem?_toArray, List.getElem?_cons_zero, List.getElem?_cons_succ] at q1
                   have HGC := Lib.hid hgc
                   clear hgc hbb hown' hgr hwh))
              all_goals
                go_wp2_with fail
                go_roundw
                case rel =>
                  refine ⟨j + 1, .slice A3 (Ks ++ [x]).length c3, .slice A6 (Vs.length + 1) c6, by omega, by go_num, ?_, HSMJ.out⟩
                  rw [HT.out.1, HT.out.2]
                  exact HGC.out
                case measure => simp [intOf]; omega
        · have hk0 : ¬ k1 = 0 := fun e => hpass (.inl e)
          have hsm0 : sm = false := by
            cases hh : sm
            · rfl
            · exact absurd (.inr hh) hpass
          subst hsm0
          obtain ⟨k, hk⟩ : ∃ k, k1 = k + 1 := ⟨k1 - 1, by omega⟩
          have hj0 : j = 0 := by
            rcases Nat.eq_zero_or_pos j with h | h
            · exact h
            · exact absurd (HSJ.out h) (by simp)
          have hlast := (HLJ.out k (by rw [HML.out]; exact hlt) (by rw [HKL.out, ← hk1n, hk])).2 rfl hj0
          have hrow : ∃ g2 o2, A1 = some ⟨g2, o2, none⟩ ∧ wr.cell? ⟨g2, o2 + k, none⟩ = some (.int .i64 (Ks.getD k 0)) := by
            obtain ⟨g2, o2, e2, _, h2⟩ := HAT.out.kc (by omega)
            exact ⟨g2, o2, e2, h2 k (by omega)⟩
          obtain ⟨g2, o2, rfl, s3⟩ := hrow
          generalize hz : Ks.getD k 0 = z at *
          have hd : decide ((0 : Int) < (k1 : Int)) = true := by simp; omega
          have hd' : decide (0 < k1) = true := by simp; omega
          have hxz : decide (x ≤ z) = true := by simp; omega
          have hw1 : IntKind.i64.wrap ((k1 : Int) - 1) = (k : Int) := by rw [show (k1 : Int) - 1 = (k : Int) from by omega]; exact IntWalk.i64_in _ (by omega)
          have k0 : (0 : Int) ≤ k := by omega
          have kk1 : (k : Int) < k1 := by omega
          have HZr := Lib.hid (hga.kept.blk HZ.out (by have := HSW.out; omega))
          obtain ⟨z4, z5, z6⟩ := box3 HZr.out
          have f0 := HZr.out.frozen 0; have f1 := HZr.out.frozen 1; have f2 := HZr.out.frozen 2
          clear hk0 hk1n hpass hga hat hk1 hk2 hk hz hj0 hsj
          go_wp2_with fail
          go_region
          go_wp2_with fail
          refine ret_row2 rfl (w.heap.size + 1 + 1) 24 _ _ rfl (Blk.set3 HZr.out.drew) Try.underlying24 rfl (by kernel_rfl) rfl ⟨?_, .inl ⟨rfl, rfl⟩⟩
          refine World.grownBy.trans ?_ (grown_drew _ none)
          repeat (refine grown_set1 ?_ (by omega) _)
          exact HGW.out
      · obtain rfl : j = m' := by omega
        have hsm1 : sm = true := by
          rcases Nat.eq_zero_or_pos j with h | h
          · exact HSN.out (by rw [HML.out]; exact h)
          · exact hsj h
        subst hsm1
        rw [cut_whole HML.out, cut_whole HWL.out] at hga hat
        have HZr := Lib.hid (hga.kept.blk HZ.out (by have := HSW.out; omega))
        obtain ⟨z4, z5, z6⟩ := box3 HZr.out
        have f0 := HZr.out.frozen 0; have f1 := HZr.out.frozen 1; have f2 := HZr.out.frozen 2
        have HOW := Lib.hid hga.own
        have HBX := Lib.hid hga.box
        have HN1 := Lib.hid hga.r1; have HN2 := Lib.hid hga.r2
        generalize hKK : ka ++ kb = Ks at *
        generalize hVV : va ++ vb = Vs at *
        generalize hk1 : Ks.length = k1 at *
        generalize hk2 : Vs.length = k2 at *
        obtain ⟨x0, x1, x2⟩ := box3 HBX.out
        clear hga hat hk1 hk2 hsj
        go_wp2_with fail
        refine ret_row2 rfl (w.heap.size + 1 + 1) 24 _ _ rfl (Blk.set3 HZr.out) Try.underlying24 rfl (by kernel_rfl) rfl ⟨?_, .inr ⟨rfl, _, _, _, _, _, _, rfl, ?_⟩⟩
        · repeat (refine grown_set1 ?_ (by omega) _)
          exact HGW.out
        · subst hKK hVV
          refine own_far3 HOW.out ?_ ?_ _ _ _
          · exact HSW.out
          · exact HWW.out
end Go.Proofs.Ytlbadapcaooieaa.Node
