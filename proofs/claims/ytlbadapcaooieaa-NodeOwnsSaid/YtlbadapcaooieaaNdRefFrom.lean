/- from: some of a node, by the document. -/
import Derived.Test.YtlbadapcaooieaaNdLaid
import Derived.Test.YtlbadapcaooieaaNdHalves
namespace Go.Proofs.Ytlbadapcaooieaa.Node
open Go.RowKit CrcMath Mem Crc Codec NdSpec
set_option linter.unusedVariables false
set_option linter.unusedSimpArgs false

/-- The places of a list from one on, up to another. -/
def cut (l : List Int) (a z : Nat) : List Int := (l.drop a).take (z - a)
theorem cut_nil (l : List Int) (a : Nat) : cut l a a = [] := by simp [cut]
theorem cut_succ {l : List Int} {a j : Nat} (h : a ≤ j) (hj : j < l.length) : cut l a (j + 1) = cut l a j ++ [l.getD j 0] := by
  unfold cut
  rw [show j + 1 - a = (j - a) + 1 by omega, List.take_add_one, List.getElem?_drop, show a + (j - a) = j by omega, List.getElem?_eq_getElem hj]
  simp [List.getD_eq_getElem?_getD, hj]
theorem cut_len {l : List Int} {a z : Nat} (hz : z ≤ l.length) : (cut l a z).length = z - a := by
  unfold cut
  rw [List.length_take, List.length_drop]
  omega
theorem getD_in {l : List Int} (h : ∀ x ∈ l, -9223372036854775808 ≤ x ∧ x ≤ 9223372036854775807) (j : Nat) : -9223372036854775808 ≤ l.getD j 0 ∧ l.getD j 0 ≤ 9223372036854775807 := by
  rw [List.getD_eq_getElem?_getD]
  cases e : l[j]? with
  | none => simp
  | some y => exact h y (List.mem_of_getElem? e)

set_option maxRecDepth 100000 in
set_option maxHeartbeats 1600000 in
theorem rfrom_call {w : World} {A A' : Option Addr} {n n' c c' : Nat} {ks vs : List Int} (lf : Bool) (a z : Nat) (h : NdAt w A A' n n' c c' ks vs) (haz : a ≤ z) (hz : z ≤ n) (hz' : z ≤ n') (h16 : z ≤ 16) :
    Calls Try.prog 35 #[.agg #[.bool lf, .slice A n c, .slice A' n' c'], .int .i64 (a : Nat), .int .i64 (z : Nat)] w fun e w' => w.grownBy w' none ∧
      ∃ E E' L L' e1 e1', e = .returned (.agg #[.bool lf, .slice E L e1, .slice E' L' e1']) ∧ NdOwn w' w.heap.size (.slice E L e1) (.slice E' L' e1') (cut ks a z) (cut vs a z) := by
  obtain ⟨i0, hi0, hz0, hz1, hz2⟩ := info_int
  have hi := Lib.hid hi0; have z0 := Lib.hid hz0; have z1 := Lib.hid hz1; have z2 := Lib.hid hz2
  have HONE := Lib.hid (show 0 < 1 by omega)
  have hg0 := ((World.grownBy_alloc w (.cells #[.bool lf, .slice A n c, .slice A' n' c'] 24) none).trans (World.grownBy_alloc _ (.cells #[.bool false, .slice none 0 0, .slice none 0 0] 24) none)).trans (World.grownBy_alloc _ (.cells #[.bool lf, .slice none 0 0, .slice none 0 0] 24) none)
  obtain ⟨hb1, hb2, hb3⟩ := three3 w 24 #[.bool lf, .slice A n c, .slice A' n' c'] #[.bool false, .slice none 0 0, .slice none 0 0] #[.bool lf, .slice none 0 0, .slice none 0 0]
  have HG0 := Lib.hid hg0; have HB1 := Lib.hid hb1; have HB2 := Lib.hid hb2
  have hs3 : (((w.alloc (.cells #[.bool lf, .slice A n c, .slice A' n' c'] 24)).alloc (.cells #[.bool false, .slice none 0 0, .slice none 0 0] 24)).alloc (.cells #[.bool lf, .slice none 0 0, .slice none 0 0] 24)).heap.size = w.heap.size + 3 := by rw [World.size_alloc, World.size_alloc, World.size_alloc]
  have HG := Lib.hid (show Gat _ _ (· ≤ w.heap.size + 1) w.heap.size (w.heap.size + 1 + 1) lf (.slice none 0 0) (.slice none 0 0) [] [] from
    ⟨Kept.refl _ _, fun i hi => by rw [hs3]; omega, by omega, hb3, NdOwn.nil _ _, fun i hi => by simp [Value.ownBlock] at hi, fun i hi => by simp [Value.ownBlock] at hi⟩)
  have HH := Lib.hid h
  have hkl := h.klen; have hvl := h.vlen
  have HKL := Lib.hid hkl; have HVL := Lib.hid hvl
  have HKI := Lib.hid h.kin; have HVI := Lib.hid h.vin
  clear hi0 hz0 hz1 hz2 h hg0 hb1 hb2 hb3 hkl hvl
  go_enter Try.func35, Try.ntmps35
  go_wp2_with fail
  generalize hW0 : (((w.alloc (.cells #[.bool lf, .slice A n c, .slice A' n' c'] 24)).alloc (.cells #[.bool false, .slice none 0 0, .slice none 0 0] 24)).alloc (.cells #[.bool lf, .slice none 0 0, .slice none 0 0] 24)) = W0 at *
  clear hW0
  have HBW := Lib.hid (show w.heap.size ≤ W0.heap.size by omega)
  clear hs3
  go_loopw [8] (fun i wr => ∃ (j : Nat) (v1 v2 : Value), a ≤ j ∧ j ≤ z ∧ i = .int .i64 j ∧ Gat W0 wr (· ≤ w.heap.size + 1) w.heap.size (w.heap.size + 1 + 1) lf v1 v2 (cut ks a j) (cut vs a j)) (fun i _ => z - (intOf i).toNat)
  case atStart => exact ⟨a, _, _, by omega, haz, rfl, by rw [cut_nil, cut_nil]; exact HG.out⟩
  case round =>
    obtain ⟨j, v1, v2, haj, hjz, rfl, hga⟩ := hrel
    obtain ⟨A1, A2, c1, c2, rfl, rfl, hat⟩ := hga.shape
    by_cases hlt : j < z
    · have hKs := cut_succ (l := ks) haj (by rw [HKL.out]; omega)
      have hVs := cut_succ (l := vs) haj (by rw [HVL.out]; omega)
      have hl1 := cut_len (l := ks) (a := a) (z := j) (by rw [HKL.out]; omega)
      have hl2 := cut_len (l := vs) (a := a) (z := j) (by rw [HVL.out]; omega)
      have HT := Lib.hid (And.intro hKs hVs)
      obtain ⟨g, o, rfl, _, hc⟩ := HH.out.kc (by omega)
      obtain ⟨g', o', rfl, _, hc'⟩ := HH.out.vc (by omega)
      have hgw := hga.kept.grown HG0.out (fun i hi => by omega)
      have hNw := HH.out.keep hgw
      obtain ⟨g2, o2, ee, _, hcw⟩ := hNw.kc (by omega)
      cases ee
      have s1 := hcw j (by omega)
      have HI1 := Lib.hid (getD_in HKI.out j); have HI2 := Lib.hid (getD_in HVI.out j)
      generalize hx : ks.getD j 0 = x at *
      generalize hy : vs.getD j 0 = y at *
      have HY := Lib.hid hy
      have hbx := hga.kept.blk HB1.out (by omega)
      obtain ⟨p0, p1, p2⟩ := box3 hbx
      have j0 : (0 : Int) ≤ j := by omega
      have j1 : (j : Int) < n := by omega
      have j2 : (j : Int) < n' := by omega
      have HIN := Lib.hid (show ∀ t ∈ [x], -9223372036854775808 ≤ t ∧ t ≤ 9223372036854775807 from fun t ht => by simp at ht; subst ht; exact HI1.out)
      generalize hKK : cut ks a j = Ks at *
      generalize hVV : cut vs a j = Vs at *
      obtain ⟨k1, hk1⟩ : ∃ k1, Ks.length = k1 := ⟨_, rfl⟩
      obtain ⟨k2, hk2⟩ : ∃ k2, Vs.length = k2 := ⟨_, rfl⟩
      rw [hk1, hk2] at hga
      have hk16 : Ks.length ≤ 16 ∧ Vs.length ≤ 16 := by omega
      have HGA := Lib.hid hga
      clear hKs hVs hl1 hl2 hc hc' hgw hNw hcw hx hy hbx hKK hVV hk1 hk2 hat hga
      go_upto_region 5 with fail
      go_cut [8] (fun s8 wx => s8 = .int .i64 j ∧ ∃ v', Gat W0 wx (· ≤ w.heap.size + 1) w.heap.size (w.heap.size + 1 + 1) lf v' (.slice A2 k2 c2) (Ks ++ [x]) Vs)
      case first =>
        have HGB := Lib.hid ((HGA.out.quiet (World.grownBy_alloc wr (.cells #[.int .i64 x] 3) none)).quiet (grown_drew _ none))
        have HOK := Lib.hid HGB.out.own.k
        have HRD := Lib.hid (Reads.drew (reads_one_int wr (.int .i64 x)))
        have HSZ := Lib.hid (show w.heap.size ≤ (wr.alloc (.cells #[.int .i64 x] 3)).drew.heap.size from Nat.le_trans HBW.out HGB.out.kept.size)
        obtain ⟨⟨x0, x1, x2⟩, y0, y1, y2⟩ := HGA.out.cells
        obtain ⟨⟨w0, w1, w2⟩, _, _, _⟩ := (HGA.out.quiet (World.grownBy_alloc wr (.cells #[.int .i64 x] 3) none)).cells
        go_region_law (first
          | (refine step_append_any _ rfl (.tmp 19) (.tmp 25) _ rfl w.heap.size 3 i0 _ 1 8 Try.underlying22 hi.out z0.out z1.out z2.out rfl HONE.out (.slice A1 k1 c1) Ks.length (i64s Ks) ?_ HOK.out
               _ (some ⟨wr.heap.size, 0, none⟩) 1 1 [.int .i64 x] ?_ HRD.out ?_ ?_ ?_ ?_ ?_
             rfl
             rfl
             (intro u hu; simp at hu; subst hu; rfl)
             (simp only [maxLen]; omega)
             omega
             exact HSZ.out
             intro v' w' hown' hgr hwh
             have hgc := HGB.out.key (l := [x]) (m := 1) hgr hown' hwh rfl HIN.out
             have hbb := HGB.out.box.grown hgr (fun e => (HGB.out.r1 _ e.symm).2 rfl)
             obtain ⟨A6, c6, hv, _, _, _⟩ := (Own.of hown').shape
             subst hv
             have q1 := hbb.cell 1
             have q2 := hbb.frozen 1
             simp only [List.getElem?_toArray, List.getElem?_cons_zero, List.getElem?_cons_succ] at q1
             have HGC := Lib.hid hgc
             clear hgc hbb hown' hgr hwh))
        all_goals
          go_wp2_with fail
          go_meet
          exact ⟨rfl, _, HGC.out⟩
      case rest =>
        obtain ⟨rfl, v3, hgc⟩ := hcut
        obtain ⟨A3, A4, c3, c4, rfl, e4, hat⟩ := hgc.shape
        have hgw := hgc.kept.grown HG0.out (fun i hi => by omega)
        obtain ⟨g3, o3, ee, _, hcw⟩ := (HH.out.keep hgw).vc (by omega)
        cases ee
        clear s1 p0 p1 p2 HGA HIN
        have s1 := hcw j (by omega)
        rw [HY.out] at s1
        obtain ⟨p0, p1, p2⟩ := box3 (hgc.kept.blk HB1.out (by omega))
        have HIN := Lib.hid (show ∀ t ∈ [y], -9223372036854775808 ≤ t ∧ t ≤ 9223372036854775807 from fun t ht => by simp at ht; subst ht; exact HI2.out)
        have HGA := Lib.hid hgc
        clear e4 hat hgw hcw hgc
        go_wp2_with fail
        have HGB := Lib.hid ((HGA.out.quiet (World.grownBy_alloc wc (.cells #[.int .i64 y] 3) none)).quiet (grown_drew _ none))
        have HOK := Lib.hid HGB.out.own.v
        have HRD := Lib.hid (Reads.drew (reads_one_int wc (.int .i64 y)))
        have HSZ := Lib.hid (show w.heap.size ≤ (wc.alloc (.cells #[.int .i64 y] 3)).drew.heap.size from Nat.le_trans HBW.out HGB.out.kept.size)
        obtain ⟨⟨x0, x1, x2⟩, y0, y1, y2⟩ := HGA.out.cells
        obtain ⟨⟨w0, w1, w2⟩, _, _, _⟩ := (HGA.out.quiet (World.grownBy_alloc wc (.cells #[.int .i64 y] 3) none)).cells
        go_region_law (first
          | (refine step_append_any _ rfl (.tmp 29) (.tmp 35) _ rfl w.heap.size 3 i0 _ 1 8 Try.underlying22 hi.out z0.out z1.out z2.out rfl HONE.out (.slice A2 k2 c2) Vs.length (i64s Vs) ?_ HOK.out
               _ (some ⟨wc.heap.size, 0, none⟩) 1 1 [.int .i64 y] ?_ HRD.out ?_ ?_ ?_ ?_ ?_
             rfl
             rfl
             (intro u hu; simp at hu; subst hu; rfl)
             (simp only [maxLen]; omega)
             omega
             exact HSZ.out
             intro v' w' hown' hgr hwh
             have hgc := HGB.out.val (l := [y]) (m := 1) hgr hown' hwh rfl HIN.out
             have hbb := HGB.out.box.grown hgr (fun e => (HGB.out.r2 _ e.symm).2 rfl)
             obtain ⟨A6, c6, hv, _, _, _⟩ := (Own.of hown').shape
             subst hv
             have q1 := hbb.cell 2
             have q2 := hbb.frozen 2
             simp only [List.getElem?_toArray, List.getElem?_cons_zero, List.getElem?_cons_succ] at q1
             have HGC := Lib.hid hgc
             clear hgc hbb hown' hgr hwh))
        all_goals
          go_wp2_with fail
          go_roundw
          case rel =>
            refine ⟨j + 1, .slice A3 (Ks ++ [x]).length c3, .slice A6 (Vs.length + 1) c6, by omega, by omega, by go_num, ?_⟩
            rw [HT.out.1, HT.out.2]
            exact HGC.out
          case measure => simp [intOf]; omega
    · obtain rfl : j = z := by omega
      have hbr := hga.kept.blk HB2.out (by omega)
      have HBR := Lib.hid hbr
      obtain ⟨⟨x0, x1, x2⟩, _, _, _⟩ := hga.cells
      obtain ⟨z4, z5, z6⟩ := box3 hbr
      have f0 := hbr.frozen 0; have f1 := hbr.frozen 1; have f2 := hbr.frozen 2
      have HQ := Lib.hid (hga.kept.grown HG0.out (fun i hi => by omega)); have HOW := Lib.hid hga.own
      have HN1 := Lib.hid hga.r1; have HN2 := Lib.hid hga.r2
      generalize hKK : cut ks a j = Ks at *
      generalize hVV : cut vs a j = Vs at *
      generalize hk1 : Ks.length = k1 at *
      generalize hk2 : Vs.length = k2 at *
      clear hga hat hbr hk1 hk2
      go_wp2_with fail
      refine ret_cell1 rfl (w.heap.size + 1) 24 _ _ rfl (Blk.set3 HBR.out) Try.underlying24 rfl (by kernel_rfl) rfl ⟨?_, _, _, _, _, _, _, rfl, ?_⟩
      · repeat (refine grown_set1 ?_ (by omega) _)
        exact HQ.out
      · subst hKK hVV
        exact HOW.out.far3 (fun e => (HN1.out _ e).1 (Nat.le_refl _)) (fun e => (HN2.out _ e).1 (Nat.le_refl _)) _ _ _
end Go.Proofs.Ytlbadapcaooieaa.Node
