/- Split, Join and Share of the project's package node. -/
import Derived.Test.YtlbadapcaooieaaNdFollows
namespace Go.Proofs.Ytlbadapcaooieaa.Node
open Go.RowKit CrcMath Mem Crc Codec NdSpec
set_option linter.unusedVariables false
set_option linter.unusedSimpArgs false

theorem told2_nil {w wx : World} {n : Int} (hg : w.grownBy wx none) : Told2 w (n, nil, nil) (.returned (.tuple #[.agg #[.bool false, .slice none 0 0, .slice none 0 0], .agg #[.bool false, .slice none 0 0, .slice none 0 0], .int .i64 n])) wx :=
  ⟨hg, _, _, _, _, rfl, NdOwn.nil _ _, NdOwn.nil _ _, Apart2.nil _ _⟩
set_option maxRecDepth 100000 in
set_option maxHeartbeats 3200000 in
theorem split_call {w : World} {A A' : Option Addr} {n n' c c' : Nat} {ks vs : List Int} (lf : Bool) (h : NdAt w A A' n n' c c' ks vs) :
    Calls Try.prog 23 #[.agg #[.bool lf, .slice A n c, .slice A' n' c']] w (Told2 w (splitR lf ks vs)) := by
  have hg0 := ((World.grownBy_alloc w (.cells #[.bool lf, .slice A n c, .slice A' n' c'] 24) none).trans (World.grownBy_alloc _ (.cells #[.bool false, .slice none 0 0, .slice none 0 0] 24) none)).trans (World.grownBy_alloc _ (.cells #[.bool false, .slice none 0 0, .slice none 0 0] 24) none)
  obtain ⟨hb1, hb2⟩ := three2 w (.cells #[.bool lf, .slice A n c, .slice A' n' c'] 24) 24 #[.bool false, .slice none 0 0, .slice none 0 0] #[.bool false, .slice none 0 0, .slice none 0 0]
  have HG0 := Lib.hid hg0; have HB1 := Lib.hid hb1; have HB2 := Lib.hid hb2
  have HBX := Lib.hid (((Blk.new w 24 #[.bool lf, .slice A n c, .slice A' n' c']).alloc (.cells #[.bool false, .slice none 0 0, .slice none 0 0] 24)).alloc (.cells #[.bool false, .slice none 0 0, .slice none 0 0] 24))
  have HM1 := Lib.hid (mayBe_call lf (h.keep hg0))
  have HH := Lib.hid (h.keep hg0)
  have hkl := h.klen; have hvl := h.vlen
  cases e1 : may lf ks vs with
  | false =>
    have hr : splitR lf ks vs = (22, nil, nil) := by unfold splitR; rw [if_pos e1]
    rw [hr]
    rw [e1] at HM1
    clear h hkl hvl hg0 hr hb1 hb2 e1
    go_enter Try.func23, Try.ntmps23
    go_wp2_with fail
    refine HM1.out.mono ?_
    rintro e w1 ⟨rfl, hg⟩
    have HG1 := Lib.hid (HG0.out.trans hg); have HX1 := Lib.hid (HB1.out.grown hg (by simp)); have HX2 := Lib.hid (HB2.out.grown hg (by simp))
    clear hg
    obtain ⟨p0, p1, p2⟩ := box3 HX1.out
    obtain ⟨q0, q1, q2⟩ := box3 HX2.out
    have f0 := HX1.out.frozen 0; have f1 := HX1.out.frozen 1; have f2 := HX1.out.frozen 2
    have g0 := HX2.out.frozen 0; have g1 := HX2.out.frozen 1; have g2 := HX2.out.frozen 2
    go_wp2_with fail
    refine ret_cell22 rfl (w.heap.size + 1) 24 _ _ rfl (blk_far3 (Blk.set3 HX1.out) (by omega) _ _ _) Try.underlying24 rfl (by kernel_rfl) (w.heap.size + 1 + 1) 24 _ _ rfl (Blk.set3 (blk_far3 HX2.out (by omega) _ _ _)) Try.underlying24 rfl (by kernel_rfl) rfl (told2_nil ?_)
    repeat (refine grown_set1 ?_ (by omega) _)
    exact HG1.out
  | true =>
    have hm := may_len e1
    have hr : splitR lf ks vs = halvesR lf ks vs := by unfold splitR; rw [if_neg (by simp [e1])]
    rw [hr]
    rw [e1] at HM1
    have hnn : n' = n := by rw [← hkl, ← hvl]; exact hm.1.symm
    have hn8 : n ≤ 16 := by rw [← hkl]; exact Nat.le_trans hm.2.1 (by omega)
    subst hnn
    have HN8 := Lib.hid hn8
    generalize hR : halvesR lf ks vs = r at *
    have HR := Lib.hid hR
    clear h hkl hvl hg0 hr hb1 hb2 e1 hm hR
    go_enter Try.func23, Try.ntmps23
    go_wp2_with fail
    refine HM1.out.mono ?_
    rintro e w1 ⟨rfl, hg⟩
    have HG1 := Lib.hid (HG0.out.trans hg); have HX1 := Lib.hid (HB1.out.grown hg (by simp)); have HX2 := Lib.hid (HB2.out.grown hg (by simp)); have HX0 := Lib.hid (HBX.out.grown hg (by simp)); have HH1 := Lib.hid (HH.out.keep hg)
    clear hg
    obtain ⟨x0, x1, x2⟩ := box3 HX0.out
    go_wp2_with fail
    refine (halves_call lf HH1.out HN8.out).mono ?_
    rw [HR.out]
    rintro e w2 ⟨hg, v1, v2, u1, u2, rfl, ho1, ho2, hap⟩
    have HAP := Lib.hid hap
    clear hap
    obtain ⟨E1, E1', d1, d1', rfl, rfl, _⟩ := ho1.at_
    obtain ⟨E2, E2', d2, d2', rfl, rfl, _⟩ := ho2.at_
    obtain ⟨r0, ⟨rl, rk, rv⟩, ⟨sl, sk, sv⟩⟩ := r
    simp only at ho1 ho2 ⊢
    generalize hL1 : rk.length = L1 at *
    generalize hL2 : rv.length = L2 at *
    generalize hL3 : sk.length = L3 at *
    generalize hL4 : sv.length = L4 at *
    have HG2 := Lib.hid (HG1.out.trans hg); have HY1 := Lib.hid (HX1.out.grown hg (by simp)); have HY2 := Lib.hid (HX2.out.grown hg (by simp))
    have HO1 := Lib.hid ho1; have HO2 := Lib.hid ho2
    have hs := HX2.out.lt
    have HS := Lib.hid (show w.heap.size + 1 < w1.heap.size ∧ w.heap.size + 1 + 1 < w1.heap.size ∧ w.heap.size ≤ w1.heap.size by omega)
    clear hg x0 x1 x2 ho1 ho2 hL1 hL2 hL3 hL4 hs
    obtain ⟨p0, p1, p2⟩ := box3 HY1.out
    obtain ⟨q0, q1, q2⟩ := box3 HY2.out
    have f0 := HY1.out.frozen 0; have f1 := HY1.out.frozen 1; have f2 := HY1.out.frozen 2
    have g0 := HY2.out.frozen 0; have g1 := HY2.out.frozen 1; have g2 := HY2.out.frozen 2
    go_wp2_with fail
    refine ret_cell22 rfl (w.heap.size + 1) 24 _ _ rfl (blk_far3 (Blk.set3 HY1.out) (by omega) _ _ _) Try.underlying24 rfl (by kernel_rfl) (w.heap.size + 1 + 1) 24 _ _ rfl (Blk.set3 (blk_far3 HY2.out (by omega) _ _ _)) Try.underlying24 rfl (by kernel_rfl) rfl ⟨?_, _, _, _, _, rfl, ?_, ?_, HAP.out⟩
    · repeat (refine grown_set1 ?_ (by omega) _)
      exact HG2.out
    · exact own_far33 HO1.out HS.out.1 HS.out.2.1 HS.out.2.2 _ _ _ _ _ _
    · exact own_far33 HO2.out HS.out.1 HS.out.2.1 HS.out.2.2 _ _ _ _ _ _

theorem follows_parts {la lb : Bool} {ka va kb vb : List Int} (h : follows la ka va lb kb vb = true) : may la ka va = true ∧ may lb kb vb = true ∧ la = lb := by
  simp only [follows, Bool.and_eq_true, beq_iff_eq] at h
  exact ⟨h.1.1.1, h.1.1.2, h.1.2⟩
set_option maxRecDepth 100000 in
set_option maxHeartbeats 3200000 in
theorem join_call {w : World} {A A' B B' : Option Addr} {n n' c c' m m' d d' : Nat} {ka va kb vb : List Int} (la lb : Bool) (h : NdAt w A A' n n' c c' ka va) (k : NdAt w B B' m m' d d' kb vb) :
    Calls Try.prog 25 #[.agg #[.bool la, .slice A n c, .slice A' n' c'], .agg #[.bool lb, .slice B m d, .slice B' m' d']] w (Told1 w (joinR la ka va lb kb vb)) := by
  have hg0 := ((World.grownBy_alloc w (.cells #[.bool la, .slice A n c, .slice A' n' c'] 24) none).trans (World.grownBy_alloc _ (.cells #[.bool lb, .slice B m d, .slice B' m' d'] 24) none)).trans (World.grownBy_alloc _ (.cells #[.bool false, .slice none 0 0, .slice none 0 0] 24) none)
  obtain ⟨hb1, hb2, hb3⟩ := three3 w 24 #[.bool la, .slice A n c, .slice A' n' c'] #[.bool lb, .slice B m d, .slice B' m' d'] #[.bool false, .slice none 0 0, .slice none 0 0]
  have HG0 := Lib.hid hg0; have HB1 := Lib.hid hb1; have HB2 := Lib.hid hb2; have HB3 := Lib.hid hb3
  have HM1 := Lib.hid (follows_call la lb (h.keep hg0) (k.keep hg0))
  have HH := Lib.hid (h.keep hg0); have HK := Lib.hid (k.keep hg0)
  have hkl := h.klen; have hvl := h.vlen; have hml := k.klen; have hwl := k.vlen
  cases e1 : follows la ka va lb kb vb with
  | false =>
    have hr : joinR la ka va lb kb vb = (22, nil) := by unfold joinR; rw [if_pos e1]
    rw [hr]
    rw [e1] at HM1
    clear h k hkl hvl hml hwl hg0 hr hb1 hb2 hb3 e1
    go_enter Try.func25, Try.ntmps25
    go_wp2_with fail
    refine HM1.out.mono ?_
    rintro e w1 ⟨rfl, hg⟩
    have HG1 := Lib.hid (HG0.out.trans hg); have HX := Lib.hid (HB3.out.grown hg (by simp))
    clear hg
    obtain ⟨x0, x1, x2⟩ := box3 HX.out
    have f0 := HX.out.frozen 0; have f1 := HX.out.frozen 1; have f2 := HX.out.frozen 2
    go_wp2_with fail
    refine ret_row2 rfl (w.heap.size + 1 + 1) 24 _ _ rfl (Blk.set3 HX.out) Try.underlying24 rfl (by kernel_rfl) rfl ⟨?_, _, _, rfl, NdOwn.nil _ _⟩
    repeat (refine grown_set1 ?_ (by omega) _)
    exact HG1.out
  | true =>
    obtain ⟨p1, p2, rfl⟩ := follows_parts e1
    have hm1 := may_len p1; have hm2 := may_len p2
    rw [e1] at HM1
    obtain ⟨s, hs⟩ : ∃ s, n + m = s := ⟨_, rfl⟩
    have hr : joinR la ka va la kb vb = if 8 < s then (15, nil) else (0, la, ka ++ kb, va ++ vb) := by unfold joinR; rw [if_neg (by simp [e1]), hkl, hml, hs]
    have HR := Lib.hid hr
    generalize joinR la ka va la kb vb = r at *
    have hw : IntKind.i64.wrap ((n : Int) + (m : Int)) = ((s : Nat) : Int) := by rw [show (n : Int) + (m : Int) = ((s : Nat) : Int) from by omega]; exact IntWalk.i64_in _ (by omega)
    have HL := Lib.hid (show n ≤ 16 ∧ n' ≤ 16 ∧ m ≤ 16 ∧ m' ≤ 16 by omega)
    clear h k hkl hvl hml hwl hg0 hr hb1 hb2 hb3 e1 p1 p2 hm1 hm2 hs
    go_enter Try.func25, Try.ntmps25
    go_wp2_with fail
    refine HM1.out.mono ?_
    rintro e w1 ⟨rfl, hg⟩
    have HG1 := Lib.hid (HG0.out.trans hg); have HX1 := Lib.hid (HB1.out.grown hg (by simp)); have HX2 := Lib.hid (HB2.out.grown hg (by simp)); have HX := Lib.hid (HB3.out.grown hg (by simp))
    have HH1 := Lib.hid (HH.out.keep hg); have HK1 := Lib.hid (HK.out.keep hg)
    clear hg
    obtain ⟨x0, x1, x2⟩ := box3 HX1.out
    obtain ⟨y0, y1, y2⟩ := box3 HX2.out
    by_cases hs8 : 8 < s
    · have hr : r = (15, nil) := by rw [HR.out, if_pos hs8]
      subst hr
      obtain ⟨z0, z1, z2⟩ := box3 HX.out
      have f0 := HX.out.frozen 0; have f1 := HX.out.frozen 1; have f2 := HX.out.frozen 2
      go_wp2_with fail
      refine ret_row2 rfl (w.heap.size + 1 + 1) 24 _ _ rfl (Blk.set3 HX.out) Try.underlying24 rfl (by kernel_rfl) rfl ⟨?_, _, _, rfl, NdOwn.nil _ _⟩
      repeat (refine grown_set1 ?_ (by omega) _)
      exact HG1.out
    · have hr : r = (0, la, ka ++ kb, va ++ vb) := by rw [HR.out, if_neg hs8]
      subst hr
      go_wp2_with fail
      refine (laid2_at (Blk.new w1 _ _) (HH1.out.alloc _) (HK1.out.alloc _) HL.out.1 HL.out.2.1 HL.out.2.2.1 HL.out.2.2.2 _).mono ?_
      rintro e w2 ⟨hg, E, E', L, L', e1, e1', rfl, ho⟩
      have hg' := (World.grownBy_alloc w1 (.cells #[.bool la, .slice A n c, .slice A' n' c', .bool la, .slice B m d, .slice B' m' d'] 24) none).trans hg
      have HG2 := Lib.hid (HG1.out.trans hg'); have HY := Lib.hid (HX.out.grown hg' (by simp)); have HO := Lib.hid ho
      have hlt := HX.out.lt
      have HS := Lib.hid (show w.heap.size + 1 + 1 < (w1.alloc (.cells #[.bool la, .slice A n c, .slice A' n' c', .bool la, .slice B m d, .slice B' m' d'] 24)).heap.size ∧ w.heap.size ≤ (w1.alloc (.cells #[.bool la, .slice A n c, .slice A' n' c', .bool la, .slice B m d, .slice B' m' d'] 24)).heap.size by rw [World.size_alloc]; omega)
      clear hg hg' ho x0 x1 x2 y0 y1 y2 hlt
      obtain ⟨z0, z1, z2⟩ := box3 HY.out
      have f0 := HY.out.frozen 0; have f1 := HY.out.frozen 1; have f2 := HY.out.frozen 2
      go_wp2_with fail
      refine ret_row2 rfl (w.heap.size + 1 + 1) 24 _ _ rfl (Blk.set3 HY.out) Try.underlying24 rfl (by kernel_rfl) rfl ⟨?_, _, _, rfl, ?_⟩
      · repeat (refine grown_set1 ?_ (by omega) _)
        exact HG2.out
      · exact own_far3 HO.out HS.out.1 HS.out.2 _ _ _

theorem four4 (w : World) (t : TypeId) (cs cs' cs2 cs3 : Array Value) :
    (Blk ((((w.alloc (.cells cs t)).alloc (.cells cs' t)).alloc (.cells cs2 t)).alloc (.cells cs3 t)) w.heap.size t cs ∧ Blk ((((w.alloc (.cells cs t)).alloc (.cells cs' t)).alloc (.cells cs2 t)).alloc (.cells cs3 t)) (w.heap.size + 1) t cs') ∧
      Blk ((((w.alloc (.cells cs t)).alloc (.cells cs' t)).alloc (.cells cs2 t)).alloc (.cells cs3 t)) (w.heap.size + 1 + 1) t cs2 ∧ Blk ((((w.alloc (.cells cs t)).alloc (.cells cs' t)).alloc (.cells cs2 t)).alloc (.cells cs3 t)) (w.heap.size + 1 + 1 + 1) t cs3 := by
  obtain ⟨h1, h2, h3⟩ := three3 w t cs cs' cs2
  refine ⟨⟨h1.alloc _, h2.alloc _⟩, h3.alloc _, ?_⟩
  have := Blk.new (((w.alloc (.cells cs t)).alloc (.cells cs' t)).alloc (.cells cs2 t)) t cs3
  rwa [World.size_alloc, World.size_alloc, World.size_alloc] at this
set_option maxRecDepth 100000 in
set_option maxHeartbeats 3200000 in
theorem share_call {w : World} {A A' B B' : Option Addr} {n n' c c' m m' d d' : Nat} {ka va kb vb : List Int} (la lb : Bool) (h : NdAt w A A' n n' c c' ka va) (k : NdAt w B B' m m' d d' kb vb) :
    Calls Try.prog 27 #[.agg #[.bool la, .slice A n c, .slice A' n' c'], .agg #[.bool lb, .slice B m d, .slice B' m' d']] w (Told2 w (shareR la ka va lb kb vb)) := by
  have hg0 := (((World.grownBy_alloc w (.cells #[.bool la, .slice A n c, .slice A' n' c'] 24) none).trans (World.grownBy_alloc _ (.cells #[.bool lb, .slice B m d, .slice B' m' d'] 24) none)).trans (World.grownBy_alloc _ (.cells #[.bool false, .slice none 0 0, .slice none 0 0] 24) none)).trans (World.grownBy_alloc _ (.cells #[.bool false, .slice none 0 0, .slice none 0 0] 24) none)
  obtain ⟨⟨hb1, hb2⟩, hb3, hb4⟩ := four4 w 24 #[.bool la, .slice A n c, .slice A' n' c'] #[.bool lb, .slice B m d, .slice B' m' d'] #[.bool false, .slice none 0 0, .slice none 0 0] #[.bool false, .slice none 0 0, .slice none 0 0]
  have HG0 := Lib.hid hg0; have HB1 := Lib.hid hb1; have HB2 := Lib.hid hb2; have HB3 := Lib.hid hb3; have HB4 := Lib.hid hb4
  have HM1 := Lib.hid (follows_call la lb (h.keep hg0) (k.keep hg0))
  have HH := Lib.hid (h.keep hg0); have HK := Lib.hid (k.keep hg0)
  have hkl := h.klen; have hvl := h.vlen; have hml := k.klen; have hwl := k.vlen
  cases e1 : follows la ka va lb kb vb with
  | false =>
    have hr : shareR la ka va lb kb vb = (22, nil, nil) := by unfold shareR; rw [if_pos e1]
    rw [hr]
    rw [e1] at HM1
    clear h k hkl hvl hml hwl hg0 hr hb1 hb2 hb3 hb4 e1
    go_enter Try.func27, Try.ntmps27
    go_wp2_with fail
    refine HM1.out.mono ?_
    rintro e w1 ⟨rfl, hg⟩
    have HG1 := Lib.hid (HG0.out.trans hg); have HX1 := Lib.hid (HB3.out.grown hg (by simp)); have HX2 := Lib.hid (HB4.out.grown hg (by simp))
    clear hg
    obtain ⟨p0, p1, p2⟩ := box3 HX1.out
    obtain ⟨q0, q1, q2⟩ := box3 HX2.out
    have f0 := HX1.out.frozen 0; have f1 := HX1.out.frozen 1; have f2 := HX1.out.frozen 2
    have g0 := HX2.out.frozen 0; have g1 := HX2.out.frozen 1; have g2 := HX2.out.frozen 2
    go_wp2_with fail
    refine ret_cell22 rfl (w.heap.size + 1 + 1) 24 _ _ rfl (blk_far3 (Blk.set3 HX1.out) (by omega) _ _ _) Try.underlying24 rfl (by kernel_rfl) (w.heap.size + 1 + 1 + 1) 24 _ _ rfl (Blk.set3 (blk_far3 HX2.out (by omega) _ _ _)) Try.underlying24 rfl (by kernel_rfl) rfl (told2_nil ?_)
    repeat (refine grown_set1 ?_ (by omega) _)
    exact HG1.out
  | true =>
    obtain ⟨p1, p2, rfl⟩ := follows_parts e1
    have hm1 := may_len p1; have hm2 := may_len p2
    rw [e1] at HM1
    have hr : shareR la ka va la kb vb = halvesR la (ka ++ kb) (va ++ vb) := by unfold shareR; rw [if_neg (by simp [e1])]
    rw [hr]
    have HLL := Lib.hid (show (ka ++ kb).length = (va ++ vb).length ∧ (ka ++ kb).length ≤ 16 by rw [List.length_append, List.length_append]; omega)
    generalize hR : halvesR la (ka ++ kb) (va ++ vb) = r at *
    have HR := Lib.hid hR
    have HL := Lib.hid (show n ≤ 16 ∧ n' ≤ 16 ∧ m ≤ 16 ∧ m' ≤ 16 by omega)
    clear h k hkl hvl hml hwl hg0 hr hb1 hb2 hb3 hb4 e1 p1 p2 hm1 hm2 hR
    go_enter Try.func27, Try.ntmps27
    go_wp2_with fail
    refine HM1.out.mono ?_
    rintro e w1 ⟨rfl, hg⟩
    have HG1 := Lib.hid (HG0.out.trans hg); have HX1 := Lib.hid (HB1.out.grown hg (by simp)); have HX2 := Lib.hid (HB2.out.grown hg (by simp)); have HX3 := Lib.hid (HB3.out.grown hg (by simp)); have HX4 := Lib.hid (HB4.out.grown hg (by simp))
    have HH1 := Lib.hid (HH.out.keep hg); have HK1 := Lib.hid (HK.out.keep hg)
    clear hg
    obtain ⟨x0, x1, x2⟩ := box3 HX1.out
    obtain ⟨y0, y1, y2⟩ := box3 HX2.out
    go_wp2_with fail
    refine (laid2_at (Blk.new w1 _ _) (HH1.out.alloc _) (HK1.out.alloc _) HL.out.1 HL.out.2.1 HL.out.2.2.1 HL.out.2.2.2 _).mono ?_
    rintro e w2 ⟨hg, E, E', L, L', e1, e1', rfl, ho⟩
    have hg' := (World.grownBy_alloc w1 (.cells #[.bool la, .slice A n c, .slice A' n' c', .bool la, .slice B m d, .slice B' m' d'] 24) none).trans hg
    have HG2 := Lib.hid (HG1.out.trans hg'); have HY3 := Lib.hid (HX3.out.grown hg' (by simp)); have HY4 := Lib.hid (HX4.out.grown hg' (by simp))
    obtain ⟨F1, F1', f1, f1', q1, q2, hat⟩ := ho.at_
    simp only [Value.slice.injEq] at q1 q2
    obtain ⟨rfl, q1, rfl⟩ := q1
    obtain ⟨rfl, q2, rfl⟩ := q2
    rw [← q1, ← q2] at hat
    obtain rfl : L' = L := by rw [q1, q2]; exact HLL.out.1.symm
    have hL16 : L' ≤ 16 := by rw [q1]; exact HLL.out.2
    have hat3 := hat
    have HAT := Lib.hid hat3; have HL16 := Lib.hid hL16
    clear hg hg' ho x0 x1 x2 y0 y1 y2 hat hat3 hL16 q1 q2
    go_wp2_with fail
    with_reducible refine (halves_call la HAT.out HL16.out).mono ?_
    rw [HR.out]
    rintro e w3 ⟨hg, v1, v2, u1, u2, rfl, ho1, ho2, hap⟩
    have HAP := Lib.hid hap
    clear hap
    obtain ⟨E1, E1', d1, d1', rfl, rfl, _⟩ := ho1.at_
    obtain ⟨E2, E2', d2, d2', rfl, rfl, _⟩ := ho2.at_
    obtain ⟨r0, ⟨rl, rk, rv⟩, ⟨sl, sk, sv⟩⟩ := r
    simp only at ho1 ho2 ⊢
    generalize hL1 : rk.length = L1 at *
    generalize hL2 : rv.length = L2 at *
    generalize hL3 : sk.length = L3 at *
    generalize hL4 : sv.length = L4 at *
    have HG3 := Lib.hid (HG2.out.trans hg); have HZ1 := Lib.hid (HY3.out.grown hg (by simp)); have HZ2 := Lib.hid (HY4.out.grown hg (by simp))
    have HO1 := Lib.hid ho1; have HO2 := Lib.hid ho2
    have hs := HY4.out.lt
    have HS := Lib.hid (show w.heap.size + 1 + 1 < w2.heap.size ∧ w.heap.size + 1 + 1 + 1 < w2.heap.size ∧ w.heap.size ≤ w2.heap.size by omega)
    clear hg ho1 ho2 hL1 hL2 hL3 hL4 hs
    obtain ⟨p0, p1, p2⟩ := box3 HZ1.out
    obtain ⟨q0, q1, q2⟩ := box3 HZ2.out
    have f0 := HZ1.out.frozen 0; have f1 := HZ1.out.frozen 1; have f2 := HZ1.out.frozen 2
    have g0 := HZ2.out.frozen 0; have g1 := HZ2.out.frozen 1; have g2 := HZ2.out.frozen 2
    go_wp2_with fail
    refine ret_cell22 rfl (w.heap.size + 1 + 1) 24 _ _ rfl (blk_far3 (Blk.set3 HZ1.out) (by omega) _ _ _) Try.underlying24 rfl (by kernel_rfl) (w.heap.size + 1 + 1 + 1) 24 _ _ rfl (Blk.set3 (blk_far3 HZ2.out (by omega) _ _ _)) Try.underlying24 rfl (by kernel_rfl) rfl ⟨?_, _, _, _, _, rfl, ?_, ?_, HAP.out⟩
    · repeat (refine grown_set1 ?_ (by omega) _)
      exact HG3.out
    · exact own_far33 HO1.out HS.out.1 HS.out.2.1 HS.out.2.2 _ _ _ _ _ _
    · exact own_far33 HO2.out HS.out.1 HS.out.2.1 HS.out.2.2 _ _ _ _ _ _
end Go.Proofs.Ytlbadapcaooieaa.Node
