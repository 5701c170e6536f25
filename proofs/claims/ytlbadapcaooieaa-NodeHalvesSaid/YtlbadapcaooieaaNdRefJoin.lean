/- Split, Join and Share of the document's node. -/
import Derived.Test.YtlbadapcaooieaaNdRefBoth
namespace Go.Proofs.Ytlbadapcaooieaa.Node
open Go.RowKit CrcMath Mem Crc Codec NdSpec
set_option linter.unusedVariables false
set_option linter.unusedSimpArgs false

set_option maxRecDepth 100000 in
set_option maxHeartbeats 3200000 in
theorem rsplit_call {w : World} {A A' : Option Addr} {n n' c c' : Nat} {ks vs : List Int} (lf : Bool) (h : NdAt w A A' n n' c c' ks vs) :
    Calls Try.prog 24 #[.agg #[.bool lf, .slice A n c, .slice A' n' c']] w (Told2 w (splitR lf ks vs)) := by
  have hg0 := ((World.grownBy_alloc w (.cells #[.bool lf, .slice A n c, .slice A' n' c'] 24) none).trans (World.grownBy_alloc _ (.cells #[.bool false, .slice none 0 0, .slice none 0 0] 24) none)).trans (World.grownBy_alloc _ (.cells #[.bool false, .slice none 0 0, .slice none 0 0] 24) none)
  obtain ⟨hb0, hb1, hb2⟩ := three3 w 24 #[.bool lf, .slice A n c, .slice A' n' c'] #[.bool false, .slice none 0 0, .slice none 0 0] #[.bool false, .slice none 0 0, .slice none 0 0]
  have HG0 := Lib.hid hg0; have HB1 := Lib.hid hb1; have HB2 := Lib.hid hb2; have HBX := Lib.hid hb0
  have HM1 := Lib.hid (rmay_call lf (h.keep hg0))
  have HH := Lib.hid (h.keep hg0)
  have hkl := h.klen; have hvl := h.vlen
  cases e1 : may lf ks vs with
  | false =>
    have hr : splitR lf ks vs = (22, nil, nil) := by unfold splitR; rw [if_pos e1]
    rw [hr]
    rw [e1] at HM1
    clear h hkl hvl hg0 hr hb0 hb1 hb2 e1
    go_enter Try.func24, Try.ntmps24
    go_wp2_with fail
    refine HM1.out.mono ?_
    rintro e w1 ⟨rfl, hg⟩
    have HG1 := Lib.hid (HG0.out.trans hg); have HX1 := Lib.hid (HB1.out.grown hg (by simp)); have HX2 := Lib.hid (HB2.out.grown hg (by simp))
    clear hg
    obtain ⟨p0, p1, p2⟩ := box3 HX1.out
    obtain ⟨q0, q1, q2⟩ := box3 HX2.out
    have f0 := HX1.out.frozen 0; have f1 := HX1.out.frozen 1; have f2 := HX1.out.frozen 2
    have g0 := HX2.out.frozen 0; have g1 := HX2.out.frozen 1; have g2 := HX2.out.frozen 2
    go_wp2_with fail
    refine ret_cell22 rfl (w.heap.size + 1) 24 _ _ rfl (blk_far3 (Blk.set3 HX1.out) (by omega) _ _ _) Try.underlying24 rfl (by kernel_rfl) (w.heap.size + 1 + 1) 24 _ _ rfl (Blk.set3 (blk_far3 HX2.out (by omega) _ _ _)) Try.underlying24 rfl (by kernel_rfl) rfl (told2_nil ?_)
    repeat (refine grown_set1 ?_ (by omega) _)
    exact HG1.out
  | true =>
    have hm := may_len e1
    rw [e1] at HM1
    have hnn : n' = n := by rw [← hkl, ← hvl]; exact hm.1.symm
    have hn8 : n ≤ 16 := by rw [← hkl]; exact Nat.le_trans hm.2.1 (by omega)
    subst hnn
    by_cases h2 : n' < 2
    · have hr : splitR lf ks vs = (22, nil, nil) := by unfold splitR halvesR; rw [if_neg (by simp [e1]), if_pos (by omega)]
      rw [hr]
      clear h hkl hvl hg0 hr hb0 hb1 hb2 e1 hm
      go_enter Try.func24, Try.ntmps24
      go_wp2_with fail
      refine HM1.out.mono ?_
      rintro e w1 ⟨rfl, hg⟩
      have HG1 := Lib.hid (HG0.out.trans hg); have HX1 := Lib.hid (HB1.out.grown hg (by simp)); have HX2 := Lib.hid (HB2.out.grown hg (by simp)); have HX0 := Lib.hid (HBX.out.grown hg (by simp))
      clear hg
      obtain ⟨x0, x1, x2⟩ := box3 HX0.out
      obtain ⟨p0, p1, p2⟩ := box3 HX1.out
      obtain ⟨q0, q1, q2⟩ := box3 HX2.out
      have f0 := HX1.out.frozen 0; have f1 := HX1.out.frozen 1; have f2 := HX1.out.frozen 2
      have g0 := HX2.out.frozen 0; have g1 := HX2.out.frozen 1; have g2 := HX2.out.frozen 2
      go_wp2_with fail
      refine ret_cell22 rfl (w.heap.size + 1) 24 _ _ rfl (blk_far3 (Blk.set3 HX1.out) (by omega) _ _ _) Try.underlying24 rfl (by kernel_rfl) (w.heap.size + 1 + 1) 24 _ _ rfl (Blk.set3 (blk_far3 HX2.out (by omega) _ _ _)) Try.underlying24 rfl (by kernel_rfl) rfl (told2_nil ?_)
      repeat (refine grown_set1 ?_ (by omega) _)
      exact HG1.out
    · have hr : splitR lf ks vs = (0, (lf, ks.take (half ks), vs.take (half ks)), (lf, ks.drop (half ks), vs.drop (half ks))) := by
        unfold splitR halvesR
        rw [if_neg (by simp [e1]), if_neg (by omega)]
      rw [hr]
      have HN8 := Lib.hid hn8
      have HRH := Lib.hid (fun (W : World) (hW : NdAt W A A' n' n' c c' ks vs) => rhalves_call lf hW hn8)
      generalize hK1 : ks.take (half ks) = k1 at *
      generalize hV1 : vs.take (half ks) = v1 at *
      generalize hK2 : ks.drop (half ks) = k2 at *
      generalize hV2 : vs.drop (half ks) = v2 at *
      clear h hkl hvl hg0 hr hb0 hb1 hb2 e1 hm hK1 hV1 hK2 hV2
      go_enter Try.func24, Try.ntmps24
      go_wp2_with fail
      refine HM1.out.mono ?_
      rintro e w1 ⟨rfl, hg⟩
      have HG1 := Lib.hid (HG0.out.trans hg); have HX1 := Lib.hid (HB1.out.grown hg (by simp)); have HX2 := Lib.hid (HB2.out.grown hg (by simp)); have HX0 := Lib.hid (HBX.out.grown hg (by simp)); have HH1 := Lib.hid (HH.out.keep hg)
      clear hg
      obtain ⟨x0, x1, x2⟩ := box3 HX0.out
      go_wp2_with fail
      refine (HRH.out _ HH1.out).mono ?_
      clear HRH
      rintro e w2 ⟨hg, E, E', L, L', e1, e1', F, F', M, M', d1, d1', rfl, ho1, ho2⟩
      simp only at ho1 ho2 ⊢
      have hg2 := (World.grownBy_alloc w2 (.cells #[.bool lf, .slice E L e1, .slice E' L' e1'] 24) none).trans (World.grownBy_alloc _ (.cells #[.bool lf, .slice F M d1, .slice F' M' d1'] 24) none)
      obtain ⟨hc1, hc2⟩ := two2 w2 24 #[.bool lf, .slice E L e1, .slice E' L' e1'] #[.bool lf, .slice F M d1, .slice F' M' d1']
      have HG3 := Lib.hid ((HG1.out.trans hg).trans hg2)
      have HY1 := Lib.hid (HX1.out.grown (hg.trans hg2) (by simp)); have HY2 := Lib.hid (HX2.out.grown (hg.trans hg2) (by simp))
      have HO1 := Lib.hid (ho1.keep hg2); have HO2 := Lib.hid (ho2.keep hg2)
      have HSZ := Lib.hid hg.size
      have hs := HX2.out.lt
      have HS := Lib.hid (show w.heap.size + 1 < w1.heap.size ∧ w.heap.size + 1 + 1 < w1.heap.size ∧ w.heap.size ≤ w1.heap.size by omega)
      go_upto_region 5 with fail
      obtain ⟨c0, c1, c2⟩ := box3 hc1
      obtain ⟨b0, b1, b2⟩ := box3 hc2
      clear hg hg2 x0 x1 x2 ho1 ho2 hs hc1 hc2
      obtain ⟨p0, p1, p2⟩ := box3 HY1.out
      obtain ⟨q0, q1, q2⟩ := box3 HY2.out
      have f0 := HY1.out.frozen 0; have f1 := HY1.out.frozen 1; have f2 := HY1.out.frozen 2
      have g0 := HY2.out.frozen 0; have g1 := HY2.out.frozen 1; have g2 := HY2.out.frozen 2
      generalize (w2.alloc (.cells #[.bool lf, .slice E L e1, .slice E' L' e1'] 24)).alloc (.cells #[.bool lf, .slice F M d1, .slice F' M' d1'] 24) = w3 at *
      have hz : w.heap.size + 1 + 1 < w2.heap.size := by have := HG1.out.size; have := HX2.out.lt; have := HSZ.out; omega
      generalize w2.heap.size = z2 at *
      have n1 : ¬ (w.heap.size + 1 = z2) := by omega
      have n2 : ¬ (w.heap.size + 1 = z2 + 1) := by omega
      have n3 : ¬ (w.heap.size + 1 + 1 = z2) := by omega
      have n4 : ¬ (w.heap.size + 1 + 1 = z2 + 1) := by omega
      have n5 : ¬ (w.heap.size = z2) := by omega
      have n6 : ¬ (z2 = w.heap.size + 1) := by omega
      have n7 : ¬ (z2 = w.heap.size) := by omega
      have HNE := Lib.hid (show w.heap.size + 1 ≠ w.heap.size + 1 + 1 ∧ w.heap.size + 1 + 1 ≠ w.heap.size + 1 by omega)
      go_region
      go_wp2_with fail
      refine ret_cell22 rfl (w.heap.size + 1) 24 _ _ rfl (Blk.drew (blk_far3 (Blk.set3 HY1.out) HNE.out.1 _ _ _)) Try.underlying24 rfl (by kernel_rfl) (w.heap.size + 1 + 1) 24 _ _ rfl (Blk.drew (Blk.set3 (blk_far3 HY2.out HNE.out.2 _ _ _))) Try.underlying24 rfl (by kernel_rfl) rfl ⟨?_, _, _, _, _, rfl, ?_, ?_⟩
      · refine World.grownBy.trans ?_ (grown_drew _ none)
        repeat (refine grown_set1 ?_ (by omega) _)
        exact HG3.out
      · exact (own_far33 HO1.out HS.out.1 HS.out.2.1 HS.out.2.2 _ _ _ _ _ _).keep (grown_drew _ none)
      · exact (own_far33 HO2.out HS.out.1 HS.out.2.1 HS.out.2.2 _ _ _ _ _ _).keep (grown_drew _ none)

set_option maxRecDepth 100000 in
set_option maxHeartbeats 3200000 in
theorem rjoin_call {w : World} {A A' B B' : Option Addr} {n n' c c' m m' d d' : Nat} {ka va kb vb : List Int} (la lb : Bool) (h : NdAt w A A' n n' c c' ka va) (k : NdAt w B B' m m' d d' kb vb) :
    Calls Try.prog 26 #[.agg #[.bool la, .slice A n c, .slice A' n' c'], .agg #[.bool lb, .slice B m d, .slice B' m' d']] w (Told1 w (joinR la ka va lb kb vb)) := by
  have hg0 := ((World.grownBy_alloc w (.cells #[.bool la, .slice A n c, .slice A' n' c'] 24) none).trans (World.grownBy_alloc _ (.cells #[.bool lb, .slice B m d, .slice B' m' d'] 24) none)).trans (World.grownBy_alloc _ (.cells #[.bool false, .slice none 0 0, .slice none 0 0] 24) none)
  obtain ⟨hb1, hb2, hb3⟩ := three3 w 24 #[.bool la, .slice A n c, .slice A' n' c'] #[.bool lb, .slice B m d, .slice B' m' d'] #[.bool false, .slice none 0 0, .slice none 0 0]
  have HG0 := Lib.hid hg0; have HB3 := Lib.hid hb3
  have HM1 := Lib.hid (rboth_call la lb (h.keep hg0) (k.keep hg0))
  have hs3 := hb3.lt
  have HS3 := Lib.hid hs3
  cases e1 : follows la ka va lb kb vb with
  | false =>
    have hr : joinR la ka va lb kb vb = (22, nil) := by unfold joinR; rw [if_pos e1]
    rw [hr]
    rw [e1] at HM1
    clear h k hg0 hr hb1 hb2 hb3 e1 hs3
    go_enter Try.func26, Try.ntmps26
    go_wp2_with fail
    refine HM1.out.mono ?_
    rintro e w1 ⟨hg, ⟨_, rfl⟩ | ⟨hh, _⟩⟩
    case inr => cases hh
    have hg2 := hg.trans (World.grownBy_alloc w1 (.cells #[.bool false, .slice none 0 0, .slice none 0 0] 24) none)
    have HG1 := Lib.hid (HG0.out.trans hg2); have HX := Lib.hid (HB3.out.grown hg2 (by simp))
    clear hg hg2
    obtain ⟨x0, x1, x2⟩ := box3 HX.out
    have f0 := HX.out.frozen 0; have f1 := HX.out.frozen 1; have f2 := HX.out.frozen 2
    go_wp2_with fail
    refine ret_row2 rfl (w.heap.size + 1 + 1) 24 _ _ rfl (Blk.set3 HX.out) Try.underlying24 rfl (by kernel_rfl) rfl ⟨?_, _, _, rfl, NdOwn.nil _ _⟩
    repeat (refine grown_set1 ?_ (by omega) _)
    exact HG1.out
  | true =>
    rw [e1] at HM1
    have hkl := h.klen; have hml := k.klen
    obtain ⟨s, hs⟩ : ∃ s, (ka ++ kb).length = s := ⟨_, rfl⟩
    have hr : joinR la ka va lb kb vb = if 8 < s then (15, nil) else (0, la, ka ++ kb, va ++ vb) := by unfold joinR; rw [if_neg (by simp [e1]), ← List.length_append, hs]
    have HR := Lib.hid hr
    generalize joinR la ka va lb kb vb = r at *
    generalize hKK : ka ++ kb = Ks at *
    generalize hVV : va ++ vb = Vs at *
    have HSL := Lib.hid hs
    clear h k hg0 hr hb1 hb2 hb3 e1 hkl hml hs hKK hVV hs3
    go_enter Try.func26, Try.ntmps26
    go_wp2_with fail
    refine HM1.out.mono ?_
    rintro e w1 ⟨hg, ⟨hh, _⟩ | ⟨_, E, E', L, L', e1, e1', rfl, ho⟩⟩
    case inl => cases hh
    obtain ⟨F1, F1', f1, f1', q1, q2, hat⟩ := ho.at_
    simp only [Value.slice.injEq] at q1 q2
    obtain ⟨rfl, q1, rfl⟩ := q1
    obtain ⟨rfl, q2, rfl⟩ := q2
    obtain rfl : L = s := by rw [q1, HSL.out]
    have hg2 := hg.trans (World.grownBy_alloc w1 (.cells #[.bool la, .slice E L e1, .slice E' L' e1'] 24) none)
    have HG1 := Lib.hid (HG0.out.trans hg2); have HX := Lib.hid (HB3.out.grown hg2 (by simp))
    have HO := Lib.hid (ho.keep (World.grownBy_alloc w1 (.cells #[.bool la, .slice E L e1, .slice E' L' e1'] 24) none))
    have hsz := HG0.out.size
    have hlt := HB3.out.lt
    have HSS := Lib.hid (And.intro hlt hsz)
    clear hg hg2 ho q1 q2 hat hsz hlt
    obtain ⟨x0, x1, x2⟩ := box3 HX.out
    have f0 := HX.out.frozen 0; have f1 := HX.out.frozen 1; have f2 := HX.out.frozen 2
    by_cases hs8 : 8 < L
    · have hr : r = (15, nil) := by rw [HR.out, if_pos hs8]
      subst hr
      go_wp2_with fail
      refine ret_row2 rfl (w.heap.size + 1 + 1) 24 _ _ rfl (Blk.set3 HX.out) Try.underlying24 rfl (by kernel_rfl) rfl ⟨?_, _, _, rfl, NdOwn.nil _ _⟩
      repeat (refine grown_set1 ?_ (by omega) _)
      exact HG1.out
    · have hr : r = (0, la, Ks, Vs) := by rw [HR.out, if_neg hs8]
      subst hr
      go_wp2_with fail
      refine ret_row2 rfl (w.heap.size + 1 + 1) 24 _ _ rfl (Blk.set3 HX.out) Try.underlying24 rfl (by kernel_rfl) rfl ⟨?_, _, _, rfl, ?_⟩
      · repeat (refine grown_set1 ?_ (by omega) _)
        exact HG1.out
      · exact own_far3 HO.out HSS.out.1 HSS.out.2 _ _ _

set_option maxRecDepth 100000 in
set_option maxHeartbeats 3200000 in
theorem rshare_call {w : World} {A A' B B' : Option Addr} {n n' c c' m m' d d' : Nat} {ka va kb vb : List Int} (la lb : Bool) (h : NdAt w A A' n n' c c' ka va) (k : NdAt w B B' m m' d d' kb vb) :
    Calls Try.prog 28 #[.agg #[.bool la, .slice A n c, .slice A' n' c'], .agg #[.bool lb, .slice B m d, .slice B' m' d']] w (Told2 w (shareR la ka va lb kb vb)) := by
  have hg0 := (((World.grownBy_alloc w (.cells #[.bool la, .slice A n c, .slice A' n' c'] 24) none).trans (World.grownBy_alloc _ (.cells #[.bool lb, .slice B m d, .slice B' m' d'] 24) none)).trans (World.grownBy_alloc _ (.cells #[.bool false, .slice none 0 0, .slice none 0 0] 24) none)).trans (World.grownBy_alloc _ (.cells #[.bool false, .slice none 0 0, .slice none 0 0] 24) none)
  obtain ⟨⟨hb1, hb2⟩, hb3, hb4⟩ := four4 w 24 #[.bool la, .slice A n c, .slice A' n' c'] #[.bool lb, .slice B m d, .slice B' m' d'] #[.bool false, .slice none 0 0, .slice none 0 0] #[.bool false, .slice none 0 0, .slice none 0 0]
  have HG0 := Lib.hid hg0; have HB3 := Lib.hid hb3; have HB4 := Lib.hid hb4
  have HM1 := Lib.hid (rboth_call la lb (h.keep hg0) (k.keep hg0))
  cases e1 : follows la ka va lb kb vb with
  | false =>
    have hr : shareR la ka va lb kb vb = (22, nil, nil) := by unfold shareR; rw [if_pos e1]
    rw [hr]
    rw [e1] at HM1
    clear h k hg0 hr hb1 hb2 hb3 hb4 e1
    go_enter Try.func28, Try.ntmps28
    go_wp2_with fail
    refine HM1.out.mono ?_
    rintro e w1 ⟨hg, ⟨_, rfl⟩ | ⟨hh, _⟩⟩
    case inr => cases hh
    have hg2 := hg.trans (World.grownBy_alloc w1 (.cells #[.bool false, .slice none 0 0, .slice none 0 0] 24) none)
    have HG1 := Lib.hid (HG0.out.trans hg2); have HX1 := Lib.hid (HB3.out.grown hg2 (by simp)); have HX2 := Lib.hid (HB4.out.grown hg2 (by simp))
    clear hg hg2
    obtain ⟨p0, p1, p2⟩ := box3 HX1.out
    obtain ⟨q0, q1, q2⟩ := box3 HX2.out
    have f0 := HX1.out.frozen 0; have f1 := HX1.out.frozen 1; have f2 := HX1.out.frozen 2
    have g0 := HX2.out.frozen 0; have g1 := HX2.out.frozen 1; have g2 := HX2.out.frozen 2
    go_wp2_with fail
    refine ret_cell22 rfl (w.heap.size + 1 + 1) 24 _ _ rfl (blk_far3 (Blk.set3 HX1.out) (by omega) _ _ _) Try.underlying24 rfl (by kernel_rfl) (w.heap.size + 1 + 1 + 1) 24 _ _ rfl (Blk.set3 (blk_far3 HX2.out (by omega) _ _ _)) Try.underlying24 rfl (by kernel_rfl) rfl (told2_nil ?_)
    repeat (refine grown_set1 ?_ (by omega) _)
    exact HG1.out
  | true =>
    rw [e1] at HM1
    obtain ⟨p1, p2, rfl⟩ := follows_parts e1
    have hm1 := may_len p1; have hm2 := may_len p2
    have HLL := Lib.hid (show (ka ++ kb).length = (va ++ vb).length ∧ (ka ++ kb).length ≤ 16 by rw [List.length_append, List.length_append]; omega)
    have hr : shareR la ka va la kb vb = halvesR la (ka ++ kb) (va ++ vb) := by unfold shareR; rw [if_neg (by simp [e1])]
    rw [hr]
    generalize hKK : ka ++ kb = Ks at *
    generalize hVV : va ++ vb = Vs at *
    clear h k hg0 hr hb1 hb2 hb3 hb4 e1 p1 p2 hm1 hm2 hKK hVV
    by_cases hs2 : Ks.length < 2
    · have hr : halvesR la Ks Vs = (22, nil, nil) := by unfold halvesR; rw [if_pos hs2]
      rw [hr]
      clear hr
      obtain ⟨s, hs⟩ : ∃ s, Ks.length = s := ⟨_, rfl⟩
      rw [hs] at hs2
      have HSL := Lib.hid hs
      clear hs
      go_enter Try.func28, Try.ntmps28
      go_wp2_with fail
      refine HM1.out.mono ?_
      rintro e w1 ⟨hg, ⟨hh, _⟩ | ⟨_, E, E', L, L', e1, e1', rfl, ho⟩⟩
      case inl => cases hh
      obtain ⟨F1, F1', f1, f1', q1, q2, hat⟩ := ho.at_
      simp only [Value.slice.injEq] at q1 q2
      obtain ⟨rfl, q1, rfl⟩ := q1
      obtain ⟨rfl, q2, rfl⟩ := q2
      obtain rfl : L = s := by rw [q1, HSL.out]
      have hg2 := hg.trans (World.grownBy_alloc w1 (.cells #[.bool la, .slice E L e1, .slice E' L' e1'] 24) none)
      have HG1 := Lib.hid (HG0.out.trans hg2); have HX1 := Lib.hid (HB3.out.grown hg2 (by simp)); have HX2 := Lib.hid (HB4.out.grown hg2 (by simp))
      clear hg hg2 ho q1 q2 hat
      obtain ⟨p0, p1, p2⟩ := box3 HX1.out
      obtain ⟨q0, q1, q2⟩ := box3 HX2.out
      have f0 := HX1.out.frozen 0; have f1 := HX1.out.frozen 1; have f2 := HX1.out.frozen 2
      have g0 := HX2.out.frozen 0; have g1 := HX2.out.frozen 1; have g2 := HX2.out.frozen 2
      go_wp2_with fail
      refine ret_cell22 rfl (w.heap.size + 1 + 1) 24 _ _ rfl (blk_far3 (Blk.set3 HX1.out) (by omega) _ _ _) Try.underlying24 rfl (by kernel_rfl) (w.heap.size + 1 + 1 + 1) 24 _ _ rfl (Blk.set3 (blk_far3 HX2.out (by omega) _ _ _)) Try.underlying24 rfl (by kernel_rfl) rfl (told2_nil ?_)
      repeat (refine grown_set1 ?_ (by omega) _)
      exact HG1.out
    · have hr : halvesR la Ks Vs = (0, (la, Ks.take (half Ks), Vs.take (half Ks)), (la, Ks.drop (half Ks), Vs.drop (half Ks))) := by
        unfold halvesR
        rw [if_neg hs2]
      rw [hr]
      obtain ⟨s, hs⟩ : ∃ s, Ks.length = s := ⟨_, rfl⟩
      rw [hs] at hs2
      have HSL := Lib.hid hs
      have HSV := Lib.hid (show Vs.length = s by rw [← HLL.out.1, hs])
      have HS16 := Lib.hid (show s ≤ 16 by rw [← hs]; exact HLL.out.2)
      have HRH := Lib.hid (fun (W : World) (X X' : Option Addr) (x x' : Nat) (hW : NdAt W X X' s s x x' Ks Vs) => rhalves_call la hW HS16.out)
      generalize hK1 : Ks.take (half Ks) = k1 at *
      generalize hV1 : Vs.take (half Ks) = v1 at *
      generalize hK2 : Ks.drop (half Ks) = k2 at *
      generalize hV2 : Vs.drop (half Ks) = v2 at *
      clear hs hr hK1 hV1 hK2 hV2
      go_enter Try.func28, Try.ntmps28
      go_wp2_with fail
      refine HM1.out.mono ?_
      rintro e w1 ⟨hg, ⟨hh, _⟩ | ⟨_, E, E', L, L', e1, e1', rfl, ho⟩⟩
      case inl => cases hh
      obtain ⟨F1, F1', f1, f1', q1, q2, hat⟩ := ho.at_
      simp only [Value.slice.injEq] at q1 q2
      obtain ⟨rfl, q1, rfl⟩ := q1
      obtain ⟨rfl, q2, rfl⟩ := q2
      rw [HSL.out, HSV.out] at hat
      obtain rfl : L = s := by rw [q1, HSL.out]
      obtain rfl : L' = L := by rw [q2, HSV.out]
      have ha := World.grownBy_alloc w1 (.cells #[.bool la, .slice E L' e1, .slice E' L' e1'] 24) none
      have hg2 := hg.trans ha
      have HG1 := Lib.hid (HG0.out.trans hg2); have HX1 := Lib.hid (HB3.out.grown hg2 (by simp)); have HX2 := Lib.hid (HB4.out.grown hg2 (by simp))
      have HAT := Lib.hid (hat.keep ha)
      clear hg hg2 ho q1 q2 hat ha
      go_wp2_with fail
      refine (HRH.out _ _ _ _ _ HAT.out).mono ?_
      clear HRH
      generalize w1.alloc (.cells #[.bool la, .slice E L' e1, .slice E' L' e1'] 24) = w1' at *
      rintro e w2 ⟨hg, P, P', M, M', d1, d1', Q, Q', N, N', c1, c1', rfl, ho1, ho2⟩
      simp only at ho1 ho2 ⊢
      have hg2 := (World.grownBy_alloc w2 (.cells #[.bool la, .slice P M d1, .slice P' M' d1'] 24) none).trans (World.grownBy_alloc _ (.cells #[.bool la, .slice Q N c1, .slice Q' N' c1'] 24) none)
      obtain ⟨hc1, hc2⟩ := two2 w2 24 #[.bool la, .slice P M d1, .slice P' M' d1'] #[.bool la, .slice Q N c1, .slice Q' N' c1']
      have HG3 := Lib.hid ((HG1.out.trans hg).trans hg2)
      have HY1 := Lib.hid (HX1.out.grown (hg.trans hg2) (by simp)); have HY2 := Lib.hid (HX2.out.grown (hg.trans hg2) (by simp))
      have HO1 := Lib.hid (ho1.keep hg2); have HO2 := Lib.hid (ho2.keep hg2)
      have HSZ := Lib.hid hg.size
      have hs := HX2.out.lt
      have HS := Lib.hid (show w.heap.size + 1 + 1 < w1'.heap.size ∧ w.heap.size + 1 + 1 + 1 < w1'.heap.size ∧ w.heap.size ≤ w1'.heap.size by omega)
      go_upto_region 5 with fail
      obtain ⟨c0, cc1, c2⟩ := box3 hc1
      obtain ⟨b0, b1, b2⟩ := box3 hc2
      clear hg hg2 ho1 ho2 hs hc1 hc2
      obtain ⟨p0, p1, p2⟩ := box3 HY1.out
      obtain ⟨q0, q1, q2⟩ := box3 HY2.out
      have f0 := HY1.out.frozen 0; have f1 := HY1.out.frozen 1; have f2 := HY1.out.frozen 2
      have g0 := HY2.out.frozen 0; have g1 := HY2.out.frozen 1; have g2 := HY2.out.frozen 2
      generalize (w2.alloc (.cells #[.bool la, .slice P M d1, .slice P' M' d1'] 24)).alloc (.cells #[.bool la, .slice Q N c1, .slice Q' N' c1'] 24) = w3 at *
      have hz : w.heap.size + 1 + 1 + 1 < w2.heap.size := by have := HX2.out.lt; have := HSZ.out; omega
      generalize w2.heap.size = z2 at *
      have n1 : ¬ (w.heap.size + 1 + 1 = z2) := by omega
      have n2 : ¬ (w.heap.size + 1 + 1 = z2 + 1) := by omega
      have n3 : ¬ (w.heap.size + 1 + 1 + 1 = z2) := by omega
      have n4 : ¬ (w.heap.size + 1 + 1 + 1 = z2 + 1) := by omega
      have n5 : ¬ (w.heap.size + 1 = z2) := by omega
      have n6 : ¬ (z2 = w.heap.size + 1) := by omega
      have HNE := Lib.hid (show w.heap.size + 1 + 1 ≠ w.heap.size + 1 + 1 + 1 ∧ w.heap.size + 1 + 1 + 1 ≠ w.heap.size + 1 + 1 by omega)
      have n7 : ¬ (z2 = w.heap.size) := by omega
      go_region
      go_wp2_with fail
      refine ret_cell22 rfl (w.heap.size + 1 + 1) 24 _ _ rfl (Blk.drew (blk_far3 (Blk.set3 HY1.out) HNE.out.1 _ _ _)) Try.underlying24 rfl (by kernel_rfl) (w.heap.size + 1 + 1 + 1) 24 _ _ rfl (Blk.drew (Blk.set3 (blk_far3 HY2.out HNE.out.2 _ _ _))) Try.underlying24 rfl (by kernel_rfl) rfl ⟨?_, _, _, _, _, rfl, ?_, ?_⟩
      · refine World.grownBy.trans ?_ (grown_drew _ none)
        repeat (refine grown_set1 ?_ (by omega) _)
        exact HG3.out
      · exact (own_far33 HO1.out HS.out.1 HS.out.2.1 HS.out.2.2 _ _ _ _ _ _).keep (grown_drew _ none)
      · exact (own_far33 HO2.out HS.out.1 HS.out.2.1 HS.out.2.2 _ _ _ _ _ _).keep (grown_drew _ none)
end Go.Proofs.Ytlbadapcaooieaa.Node
