/- Drop of the project's package node. -/
import Derived.Test.YtlbadapcaooieaaNdPut
namespace Go.Proofs.Ytlbadapcaooieaa.Node
open Go.RowKit CrcMath Mem Crc Codec NdSpec
set_option linter.unusedVariables false
set_option linter.unusedSimpArgs false

set_option maxRecDepth 100000 in
set_option maxHeartbeats 3200000 in
theorem drop_call {w : World} {A A' : Option Addr} {n n' c c' : Nat} {ks vs : List Int} (lf : Bool) (i : Int) (h : NdAt w A A' n n' c c' ks vs) :
    Calls Try.prog 21 #[.agg #[.bool lf, .slice A n c, .slice A' n' c'], .int .i64 i] w (Told1 w (dropR lf ks vs i)) := by
  have hg0 := (World.grownBy_alloc w (.cells #[.bool lf, .slice A n c, .slice A' n' c'] 24) none).trans (World.grownBy_alloc _ (.cells #[.bool false, .slice none 0 0, .slice none 0 0] 24) none)
  obtain ⟨hb1, hb2⟩ := two2 w 24 #[.bool lf, .slice A n c, .slice A' n' c'] #[.bool false, .slice none 0 0, .slice none 0 0]
  have HG0 := Lib.hid hg0; have HB1 := Lib.hid hb1; have HB2 := Lib.hid hb2
  have HH := Lib.hid h
  have hkl := h.klen; have hvl := h.vlen
  have HM1 := Lib.hid (mayBe_call lf (h.keep hg0))
  cases e1 : may lf ks vs with
  | false =>
    have hr : dropR lf ks vs i = (22, nil) := by unfold dropR; rw [if_pos e1]
    rw [hr]
    rw [e1] at HM1
    clear h hg0 hb1 hb2 hr e1 hkl hvl
    go_enter Try.func21, Try.ntmps21
    go_wp2_with fail
    refine HM1.out.mono ?_
    rintro e w1 ⟨rfl, hg⟩
    have HG1 := Lib.hid (HG0.out.trans hg); have HX := Lib.hid (HB2.out.grown hg (by simp))
    clear hg
    obtain ⟨x0, x1, x2⟩ := box3 HX.out
    have f0 := HX.out.frozen 0; have f1 := HX.out.frozen 1; have f2 := HX.out.frozen 2
    go_wp2_with fail
    refine ret_row2 rfl (w.heap.size + 1) 24 _ _ rfl (Blk.set3 HX.out) Try.underlying24 rfl (by kernel_rfl) rfl ⟨?_, _, _, rfl, NdOwn.nil _ _⟩
    repeat (refine grown_set1 ?_ (by omega) _)
    exact HG1.out
  | true =>
    rw [e1] at HM1
    have hm := may_len e1
    have hnn : n' = n := by rw [← hkl, ← hvl]; exact hm.1.symm
    have hn8 : n ≤ 8 := by rw [← hkl]; exact hm.2.1
    subst hnn
    by_cases hi0 : i < 0
    · have hr : dropR lf ks vs i = (1, nil) := by unfold dropR; rw [if_neg (by simp [e1]), if_pos (.inl hi0)]
      rw [hr]
      clear h hg0 hb1 hb2 hr e1 hkl hvl hm
      go_enter Try.func21, Try.ntmps21
      go_wp2_with fail
      refine HM1.out.mono ?_
      rintro e w1 ⟨rfl, hg⟩
      have HG1 := Lib.hid (HG0.out.trans hg); have HX := Lib.hid (HB2.out.grown hg (by simp))
      clear hg
      obtain ⟨x0, x1, x2⟩ := box3 HX.out
      have f0 := HX.out.frozen 0; have f1 := HX.out.frozen 1; have f2 := HX.out.frozen 2
      go_wp2_with fail
      refine ret_row2 rfl (w.heap.size + 1) 24 _ _ rfl (Blk.set3 HX.out) Try.underlying24 rfl (by kernel_rfl) rfl ⟨?_, _, _, rfl, NdOwn.nil _ _⟩
      repeat (refine grown_set1 ?_ (by omega) _)
      exact HG1.out
    · by_cases hin : (n' : Int) ≤ i
      · have hr : dropR lf ks vs i = (1, nil) := by unfold dropR; rw [if_neg (by simp [e1]), if_pos (.inr (by rw [hkl]; exact hin))]
        rw [hr]
        clear h hg0 hb1 hb2 hr e1 hkl hvl hm
        go_enter Try.func21, Try.ntmps21
        go_wp2_with fail
        refine HM1.out.mono ?_
        rintro e w1 ⟨rfl, hg⟩
        have HG1 := Lib.hid (HG0.out.trans hg); have HX := Lib.hid (HB2.out.grown hg (by simp)); have HX1 := Lib.hid (HB1.out.grown hg (by simp))
        clear hg
        obtain ⟨x0, x1, x2⟩ := box3 HX.out
        obtain ⟨y0, y1, y2⟩ := box3 HX1.out
        have f0 := HX.out.frozen 0; have f1 := HX.out.frozen 1; have f2 := HX.out.frozen 2
        go_wp2_with fail
        refine ret_row2 rfl (w.heap.size + 1) 24 _ _ rfl (Blk.set3 HX.out) Try.underlying24 rfl (by kernel_rfl) rfl ⟨?_, _, _, rfl, NdOwn.nil _ _⟩
        repeat (refine grown_set1 ?_ (by omega) _)
        exact HG1.out
      · obtain ⟨a, rfl⟩ := Int.eq_ofNat_of_zero_le (show 0 ≤ i by omega)
        have han : a < n' := by omega
        obtain ⟨a1, ha1⟩ : ∃ a1, a + 1 = a1 := ⟨_, rfl⟩
        have hr : dropR lf ks vs (a : Nat) = if may lf (ks.take a ++ ks.drop a1) (vs.take a ++ vs.drop a1) = false then (22, nil) else (0, lf, ks.take a ++ ks.drop a1, vs.take a ++ vs.drop a1) := by
          unfold dropR del
          rw [if_neg (by simp [e1]), if_neg (by rw [hkl]; omega), Int.toNat_natCast, ha1]
        have HR := Lib.hid hr
        generalize dropR lf ks vs (a : Nat) = r at *
        have haw : IntKind.i64.wrap ((a : Int) + 1) = ((a1 : Nat) : Int) := by rw [← ha1]; exact IntWalk.i64_in _ (by omega)
        have HA0 := Lib.hid (show a ≤ n' by omega); have HA1n := Lib.hid (show a1 ≤ n' by omega)
        have HR16 := Lib.hid (show n' - a1 ≤ 16 by omega); have HF16 := Lib.hid (show a ≤ 16 by omega)
        have hlt1 : (a : Int) < n' := by omega
        clear h hg0 hb1 hb2 hr e1 hkl hvl hm ha1 hi0
        go_enter Try.func21, Try.ntmps21
        go_wp2_with fail
        refine HM1.out.mono ?_
        rintro e W0 ⟨rfl, hg⟩
        have HGW := Lib.hid (HG0.out.trans hg); have HZ1 := Lib.hid (HB1.out.grown hg (by simp)); have HZ2 := Lib.hid (HB2.out.grown hg (by simp))
        have HN := Lib.hid (HH.out.keep HGW.out)
        clear hg
        obtain ⟨x0, x1, x2⟩ := box3 HZ1.out
        go_upto_region 5 with fail
        clear x0 x1 x2
        have HS6 := Lib.hid (fun (W : World) (hW : W0.grownBy W none) => (show W.cell? ⟨w.heap.size, 0, none⟩ = some (.bool lf) ∧ W.cell? ⟨w.heap.size, 1, none⟩ = some (.slice A n' c) ∧ W.cell? ⟨w.heap.size, 2, none⟩ = some (.slice A' n' c') from box3 (HZ1.out.grown hW (by simp))))
        go_cut [6] (fun s6 wx => Stored W0 wx s6 lf (ks.take a ++ ks.drop a1) (vs.take a ++ vs.drop a1))
        case first =>
          go_region_held3 (fun W => W.cell? ⟨w.heap.size, 0, none⟩ = some (.bool lf) ∧ W.cell? ⟨w.heap.size, 1, none⟩ = some (.slice A n' c) ∧ W.cell? ⟨w.heap.size, 2, none⟩ = some (.slice A' n' c'))
            (first
              | with_reducible exact HS6.out _ (grown_drew _ none)
              | with_reducible exact HS6.out _ ((World.grownBy_alloc _ _ none).trans (grown_drew _ none))
              | with_reducible exact HS6.out _ HG3.out
              | with_reducible exact HS6.out _ (HG3.out.trans (World.grownBy_alloc _ _ none))
              | with_reducible exact HS6.out _ HG4.out
              | with_reducible exact HS6.out _ (HG4.out.trans (World.grownBy_alloc _ _ none))
              | with_reducible exact HS6.out _ ((HG4.out.trans (World.grownBy_alloc _ _ none)).trans (World.grownBy_alloc _ _ none))
              | with_reducible exact HS6.out _ HG5.out
              | with_reducible exact HS6.out _ (HG5.out.trans (World.grownBy_alloc _ _ none))
              | with_reducible exact HS6.out _ (grown_set1 (grown_set1 (grown_set1 HG5.out HQL.out _) HQL.out _) HQL.out _))
            (first
              | (go_at_call_of 34 (Value.int IntKind.i64 0)
                 with_reducible refine (piece_first lf a (HN.out.keep (grown_drew _ none)) HA0.out HA0.out).mono ?_
                 rintro e w3 ⟨hg, A1, A1', rfl, hat⟩
                 have HG3 := Lib.hid ((grown_drew W0 none).trans hg); have HA1 := Lib.hid hat
                 clear hg hat)
              | (go_at_call_of 34 (Value.int IntKind.i64 0)
                 with_reducible refine (piece_first lf a ((HN.out.alloc _).keep (grown_drew _ none)) HA0.out HA0.out).mono ?_
                 rintro e w3 ⟨hg, A1, A1', rfl, hat⟩
                 have HG3 := Lib.hid (((World.grownBy_alloc W0 _ none).trans (grown_drew _ none)).trans hg); have HA1 := Lib.hid hat
                 have HQ := Lib.hid ((Blk.new W0 24 #[.bool false, .slice none 0 0, .slice none 0 0]).drew.grown hg (by simp))
                 have HQL := Lib.hid (Nat.le_refl W0.heap.size)
                 clear hg hat)
              | (go_at_call_of 34 (Value.int IntKind.i64 a1)
                 with_reducible refine (piece_rest lf a1 (HN.out.keep HG3.out) HA1n.out).mono ?_
                 rintro e w4 ⟨hg, A2, A2', rfl, hat⟩
                 have HG4 := Lib.hid (HG3.out.trans hg); have HA1b := Lib.hid (HA1.out.keep hg); have HA2 := Lib.hid hat
                 try have HQ' := Lib.hid (HQ.out.grown hg (by simp))
                 clear hg hat)
              | (go_at_call_of 34 (Value.int IntKind.i64 a1)
                 with_reducible refine (piece_rest lf a1 ((HN.out.keep HG3.out).alloc _) HA1n.out).mono ?_
                 rintro e w4 ⟨hg, A2, A2', rfl, hat⟩
                 have HG4 := Lib.hid ((HG3.out.trans (World.grownBy_alloc _ _ none)).trans hg); have HA1b := Lib.hid ((HA1.out.alloc _).keep hg); have HA2 := Lib.hid hat
                 have HQ' := Lib.hid ((Blk.new w3 24 #[.bool false, .slice none 0 0, .slice none 0 0]).grown hg (by simp))
                 have HQL := Lib.hid HG3.out.size
                 clear hg hat)
              | (go_at_call 33
                 with_reducible refine (laid2_at (Blk.new w4 _ _) (HA1b.out.alloc _) (HA2.out.alloc _) HF16.out HF16.out HR16.out HR16.out _).mono ?_
                 rintro e w5 ⟨hg, E, E', L, L', e1, e1', rfl, ho⟩
                 have HG5 := Lib.hid ((HG4.out.trans (World.grownBy_alloc _ _ none)).trans hg); have HO := Lib.hid ho
                 try (have HQ2 := Lib.hid ((HQ'.out.alloc _).grown hg (by simp)); obtain ⟨q0, q1, q2⟩ := box3 HQ2.out; have f0 := HQ2.out.frozen 0; have f1 := HQ2.out.frozen 1; have f2 := HQ2.out.frozen 2)
                 clear hg ho)
              | (go_at_call 33
                 with_reducible refine (laid2_at (new2 w4 _ _ _) ((HA1b.out.alloc _).alloc _) ((HA2.out.alloc _).alloc _) HF16.out HF16.out HR16.out HR16.out _).mono ?_
                 rintro e w5 ⟨hg, E, E', L, L', e1, e1', rfl, ho⟩
                 have HG5 := Lib.hid (((HG4.out.trans (World.grownBy_alloc _ _ none)).trans (World.grownBy_alloc _ _ none)).trans hg); have HO := Lib.hid ho
                 have HQ2 := Lib.hid (((Blk.new w4 24 #[.bool false, .slice none 0 0, .slice none 0 0]).alloc _).grown hg (by simp)); have HQL := Lib.hid HG4.out.size; obtain ⟨q0, q1, q2⟩ := box3 HQ2.out; have f0 := HQ2.out.frozen 0; have f1 := HQ2.out.frozen 1; have f2 := HQ2.out.frozen 2
                 clear hg ho)
              | (go_at_call 33
                 with_reducible refine (laid2_at ((Blk.new w4 _ _).alloc _) ((HA1b.out.alloc _).alloc _) ((HA2.out.alloc _).alloc _) HF16.out HF16.out HR16.out HR16.out _).mono ?_
                 rintro e w5 ⟨hg, E, E', L, L', e1, e1', rfl, ho⟩
                 have HG5 := Lib.hid (((HG4.out.trans (World.grownBy_alloc _ _ none)).trans (World.grownBy_alloc _ _ none)).trans hg); have HO := Lib.hid ho
                 have HQ2 := Lib.hid ((new2 w4 _ 24 #[.bool false, .slice none 0 0, .slice none 0 0]).grown hg (by simp)); have HQL := Lib.hid (Nat.le_succ_of_le HG4.out.size); obtain ⟨q0, q1, q2⟩ := box3 HQ2.out; have f0 := HQ2.out.frozen 0; have f1 := HQ2.out.frozen 1; have f2 := HQ2.out.frozen 2
                 clear hg ho))
          all_goals
            go_wp2_with fail
            go_meet
            first
              | (refine stored_a HQ2.out HQL.out ?_ HO.out HG5.out
                 simp only [World.size_alloc]
                 first
                   | (have := HQ'.out.lt; omega)
                   | omega)
              | (refine stored_b HO.out ?_ HG5.out
                 simp only [World.size_alloc]
                 have := HG4.out.size
                 omega)
        case rest =>
          obtain ⟨q, v1, v2, rfl, hq0, hbq, ho, hgx⟩ := hcut
          obtain ⟨E, E', e1, e1', hv1, hv2, hat⟩ := ho.at_
          generalize hK : ks.take a ++ ks.drop a1 = K at *
          generalize hV : vs.take a ++ vs.drop a1 = V at *
          obtain ⟨L, hL⟩ : ∃ L, K.length = L := ⟨_, rfl⟩
          obtain ⟨L', hL'⟩ : ∃ L', V.length = L' := ⟨_, rfl⟩
          rw [hL] at hv1
          rw [hL'] at hv2
          rw [hL, hL'] at hat
          subst hv1 hv2
          have HO := Lib.hid ho
          have HGX := Lib.hid (HGW.out.trans hgx)
          have HZZ := Lib.hid (HZ2.out.grown hgx (by simp))
          have HBQ := Lib.hid hbq
          have HM2 := Lib.hid (mayBe_call lf hat)
          have hqw : w.heap.size + 1 < q := by have := HZ2.out.lt; omega
          have HLW := Lib.hid (show w.heap.size ≤ W0.heap.size from HGW.out.size)
          have HRW := Lib.hid (show w.heap.size + 1 < W0.heap.size from HZ2.out.lt)
          obtain ⟨x0, x1, x2⟩ := box3 hbq
          clear ho hgx hat hL hL' hbq hK hV
          go_wp2_with fail
          refine HM2.out.mono ?_
          rintro e w9 ⟨rfl, hg⟩
          have HG9 := Lib.hid (HGX.out.trans hg); have HZ9 := Lib.hid (HZZ.out.grown hg (by simp)); have HO9 := Lib.hid (HO.out.keep hg); have HB9 := Lib.hid (HBQ.out.grown hg (by simp))
          clear hg x0 x1 x2
          obtain ⟨x0, x1, x2⟩ := box3 HB9.out
          obtain ⟨z0, z1, z2⟩ := box3 HZ9.out
          have f0 := HZ9.out.frozen 0; have f1 := HZ9.out.frozen 1; have f2 := HZ9.out.frozen 2
          cases hmm : may lf K V with
          | false =>
            have hr : r = (22, nil) := by rw [HR.out, if_pos hmm]
            subst hr
            clear hmm
            go_wp2_with fail
            refine ret_row2 rfl (w.heap.size + 1) 24 _ _ rfl (Blk.set3 HZ9.out) Try.underlying24 rfl (by kernel_rfl) rfl ⟨?_, _, _, rfl, NdOwn.nil _ _⟩
            repeat (refine grown_set1 ?_ (by omega) _)
            exact HG9.out
          | true =>
            have hr : r = (0, lf, K, V) := by rw [HR.out, if_neg (by simp [hmm])]
            subst hr
            clear hmm
            go_wp2_with fail
            refine ret_row2 rfl (w.heap.size + 1) 24 _ _ rfl (Blk.set3 HZ9.out) Try.underlying24 rfl (by kernel_rfl) rfl ⟨?_, _, _, rfl, ?_⟩
            · repeat (refine grown_set1 ?_ (by omega) _)
              exact HG9.out
            · exact own_far3 HO9.out HRW.out HLW.out _ _ _
end Go.Proofs.Ytlbadapcaooieaa.Node
