/- Put of the project's package node. -/
import Derived.Test.YtlbadapcaooieaaNdFollows
namespace Go.Proofs.Ytlbadapcaooieaa.Node
open Go.RowKit CrcMath Mem Crc Codec NdSpec
set_option linter.unusedVariables false
set_option linter.unusedSimpArgs false

theorem rest_le {ks : List Int} {key : Int} : rest ks key ≤ ks.length := by
  unfold rest isAt
  have := find_le ks key
  by_cases h : find ks key < ks.length
  · split <;> omega
  · rw [decide_eq_false h, Bool.false_and, if_neg (by simp)]
    exact this
theorem one_node {w : World} {key val : Int} (hk : -9223372036854775808 ≤ key ∧ key ≤ 9223372036854775807) (hv : -9223372036854775808 ≤ val ∧ val ≤ 9223372036854775807) :
    NdAt ((w.alloc (.cells #[.int .i64 key] 3)).alloc (.cells #[.int .i64 val] 3)) (some ⟨w.heap.size, 0, none⟩) (some ⟨w.heap.size + 1, 0, none⟩) 1 1 1 1 [key] [val] := by
  obtain ⟨h1, h2⟩ := two2 w 3 #[.int .i64 key] #[.int .i64 val]
  refine ⟨⟨w.heap.size + 2, rfl, by simpa using hk, fun _ => ⟨_, 0, rfl, h1.lt, by omega, fun j hj => ?_⟩⟩, ⟨w.heap.size + 2, rfl, by simpa using hv, fun _ => ⟨_, 0, rfl, h2.lt, by omega, fun j hj => ?_⟩⟩, by omega, by simp [maxLen], by omega, by simp [maxLen]⟩
  · obtain rfl : j = 0 := by omega
    exact h1.cell 0
  · obtain rfl : j = 0 := by omega
    exact h2.cell 0

/-- A node that a call made is stored in a new block. -/
def Stored (W0 wx : World) (s : Value) (lf : Bool) (Ks Vs : List Int) : Prop :=
  ∃ q v1 v2, s = .pointer (some ⟨q, 0, none⟩) ∧ W0.heap.size ≤ q ∧ Blk wx q 24 #[.bool lf, v1, v2] ∧ NdOwn wx W0.heap.size v1 v2 Ks Vs ∧ W0.grownBy wx none
theorem stored_a {W0 w5 : World} {q B : Nat} {z0 z1 z2 v1 v2 : Value} {lf : Bool} {Ks Vs : List Int} (hq : Blk w5 q 24 #[z0, z1, z2]) (h0 : W0.heap.size ≤ q) (h1 : q < B) (ho : NdOwn w5 B v1 v2 Ks Vs) (hg : W0.grownBy w5 none) :
    Stored W0 (((w5.setCell ⟨q, 0, none⟩ (.bool lf)).setCell ⟨q, 1, none⟩ v1).setCell ⟨q, 2, none⟩ v2) (.pointer (some ⟨q, 0, none⟩)) lf Ks Vs :=
  ⟨q, v1, v2, rfl, h0, Blk.set3 hq, own_far3 ho h1 (by omega) _ _ _, grown_set1 (grown_set1 (grown_set1 hg h0 _) h0 _) h0 _⟩
theorem stored_b {W0 w5 : World} {B : Nat} {v1 v2 : Value} {lf : Bool} {Ks Vs : List Int} (ho : NdOwn w5 B v1 v2 Ks Vs) (hB : W0.heap.size ≤ B) (hg : W0.grownBy w5 none) :
    Stored W0 (w5.alloc (.cells #[.bool lf, v1, v2] 24)) (.pointer (some ⟨w5.heap.size, 0, none⟩)) lf Ks Vs :=
  ⟨_, v1, v2, rfl, hg.size, Blk.new _ _ _, (ho.keep (World.grownBy_alloc _ _ none)).low hB, hg.trans (World.grownBy_alloc _ _ none)⟩

set_option maxRecDepth 100000 in
set_option maxHeartbeats 3200000 in
theorem put_call {w : World} {A A' : Option Addr} {n n' c c' : Nat} {ks vs : List Int} (lf : Bool) (key val : Int) (h : NdAt w A A' n n' c c' ks vs)
    (hkey : -9223372036854775808 ≤ key ∧ key ≤ 9223372036854775807) (hval : -9223372036854775808 ≤ val ∧ val ≤ 9223372036854775807) :
    Calls Try.prog 18 #[.agg #[.bool lf, .slice A n c, .slice A' n' c'], .int .i64 key, .int .i64 val] w (Told1 w (putR lf ks vs key val)) := by
  have hg0 := (World.grownBy_alloc w (.cells #[.bool lf, .slice A n c, .slice A' n' c'] 24) none).trans (World.grownBy_alloc _ (.cells #[.bool false, .slice none 0 0, .slice none 0 0] 24) none)
  obtain ⟨hb1, hb2⟩ := two2 w 24 #[.bool lf, .slice A n c, .slice A' n' c'] #[.bool false, .slice none 0 0, .slice none 0 0]
  have HG0 := Lib.hid hg0; have HB1 := Lib.hid hb1; have HB2 := Lib.hid hb2
  have HH := Lib.hid h
  have hkl := h.klen; have hvl := h.vlen
  have HM1 := Lib.hid (mayBe_call lf (h.keep hg0))
  cases e1 : may lf ks vs with
  | false =>
    have hr : putR lf ks vs key val = (22, nil) := by unfold putR; rw [if_pos e1]
    rw [hr]
    rw [e1] at HM1
    clear h hg0 hb1 hb2 hr e1 hkl hvl
    go_enter Try.func18, Try.ntmps18
    go_wp2_with fail
    refine HM1.out.mono ?_
    rintro e w1 ⟨rfl, hg⟩
    have HG1 := Lib.hid (HG0.out.trans hg); have HX := Lib.hid (HB2.out.grown hg (by simp))
    clear hg
    obtain ⟨x0, x1, x2⟩ := box3 HX.out
    have f0 := HX.out.frozen 0; have f1 := HX.out.frozen 1; have f2 := HX.out.frozen 2
    go_wp2_with fail
    refine ret_row2 rfl (w.heap.size + 1) 24 _ _ rfl (Blk.set3 HX.out) Try.underlying24 rfl (by kernel_rfl) rfl ⟨?_, _, _, rfl, NdOwn.nil _ _⟩
    repeat (refine grown_set1 ?_ (by omega) _)
    exact HG1.out
  | true =>
    rw [e1] at HM1
    have hm := may_len e1
    cases e2 : (inK key && inV val) with
    | false =>
      have hr : putR lf ks vs key val = (1, nil) := by unfold putR; rw [if_neg (by simp [e1]), if_pos e2]
      rw [hr]
      cases e3 : inK key with
      | false =>
        have HE3 := Lib.hid e3
        clear h hg0 hb1 hb2 hr e1 hkl hvl hm e2 e3
        go_enter Try.func18, Try.ntmps18
        go_wp2_with fail
        refine HM1.out.mono ?_
        rintro e w1 ⟨rfl, hg⟩
        have HG1 := Lib.hid (HG0.out.trans hg); have HX := Lib.hid (HB2.out.grown hg (by simp))
        clear hg
        obtain ⟨x0, x1, x2⟩ := box3 HX.out
        have f0 := HX.out.frozen 0; have f1 := HX.out.frozen 1; have f2 := HX.out.frozen 2
        go_wp2_with fail
        refine (isKey_call key _).mono ?_
        rintro e w2 ⟨rfl, rfl⟩
        rw [HE3.out]
        go_wp2_with fail
        refine ret_row2 rfl (w.heap.size + 1) 24 _ _ rfl (Blk.set3 HX.out) Try.underlying24 rfl (by kernel_rfl) rfl ⟨?_, _, _, rfl, NdOwn.nil _ _⟩
        repeat (refine grown_set1 ?_ (by omega) _)
        exact HG1.out
      | true =>
        rw [e3, Bool.true_and] at e2
        have HE3 := Lib.hid e3; have HE2 := Lib.hid e2
        clear h hg0 hb1 hb2 hr e1 hkl hvl hm e2 e3
        go_enter Try.func18, Try.ntmps18
        go_wp2_with fail
        refine HM1.out.mono ?_
        rintro e w1 ⟨rfl, hg⟩
        have HG1 := Lib.hid (HG0.out.trans hg); have HX := Lib.hid (HB2.out.grown hg (by simp))
        clear hg
        obtain ⟨x0, x1, x2⟩ := box3 HX.out
        have f0 := HX.out.frozen 0; have f1 := HX.out.frozen 1; have f2 := HX.out.frozen 2
        go_wp2_with fail
        refine (isKey_call key _).mono ?_
        rintro e w2 ⟨rfl, rfl⟩
        rw [HE3.out]
        go_wp2_with fail
        refine (isVal_call val _).mono ?_
        rintro e w2 ⟨rfl, rfl⟩
        rw [HE2.out]
        go_wp2_with fail
        refine ret_row2 rfl (w.heap.size + 1) 24 _ _ rfl (Blk.set3 HX.out) Try.underlying24 rfl (by kernel_rfl) rfl ⟨?_, _, _, rfl, NdOwn.nil _ _⟩
        repeat (refine grown_set1 ?_ (by omega) _)
        exact HG1.out
    | true =>
      obtain ⟨e3, e4⟩ := Bool.and_eq_true_iff.1 e2
      obtain ⟨F, hF⟩ : ∃ F, find ks key = F := ⟨_, rfl⟩
      obtain ⟨I, hI⟩ : ∃ I, isAt ks key = I := ⟨_, rfl⟩
      obtain ⟨R, hR⟩ : ∃ R, rest ks key = R := ⟨_, rfl⟩
      have hRI : R = if I = true then F + 1 else F := by rw [← hR, ← hI, ← hF]; rfl
      have hFn : F ≤ n := by rw [← hF, ← hkl]; exact find_le ks key
      have hRn : R ≤ n := by rw [← hR, ← hkl]; exact rest_le
      have hnn : n' = n := by rw [← hkl, ← hvl]; exact hm.1.symm
      have hn8 : n ≤ 8 := by rw [← hkl]; exact hm.2.1
      subst hnn
      have hr : putR lf ks vs key val = if 8 < (ins ks F R key).length then (15, nil) else (0, lf, ins ks F R key, ins vs F R val) := by
        unfold putR
        rw [if_neg (by simp [e1]), if_neg (by simp [e2]), hF, hR]
      have hil : (ins ks F R key).length = F + (1 + (n' - R)) := by
        unfold ins
        simp [hkl]
        omega
      rw [hil] at hr
      have HR := Lib.hid hr
      generalize putR lf ks vs key val = r at *
      have HFD := Lib.hid (fun (W : World) (hw : NdAt W A A' n' n' c c' ks vs) => by have q := find_call lf key hw; rw [hF, hI] at q; exact q)
      have HE3 := Lib.hid e3; have HE4 := Lib.hid e4; have HRI := Lib.hid hRI
      have hFw : IntKind.i64.wrap ((F : Int) + 1) = ((F + 1 : Nat) : Int) := IntWalk.i64_in _ (by omega)
      clear h hg0 hb1 hb2 hr e1 hkl hvl hm e2 e3 e4 hF hI hR hRI hil
      go_enter Try.func18, Try.ntmps18
      go_wp2_with fail
      refine HM1.out.mono ?_
      rintro e w1 ⟨rfl, hg⟩
      have HG1 := Lib.hid (HG0.out.trans hg); have HX1 := Lib.hid (HB1.out.grown hg (by simp)); have HX2 := Lib.hid (HB2.out.grown hg (by simp))
      clear hg
      obtain ⟨x0, x1, x2⟩ := box3 HX1.out
      go_wp2_with fail
      refine (isKey_call key _).mono ?_
      rintro e w2 ⟨rfl, rfl⟩
      rw [HE3.out]
      go_wp2_with fail
      refine (isVal_call val _).mono ?_
      rintro e w2 ⟨rfl, rfl⟩
      rw [HE4.out]
      go_wp2_with fail
      refine (HFD.out _ (HH.out.keep HG1.out)).mono ?_
      rintro e w2 ⟨rfl, hg⟩
      have HG2 := Lib.hid (HG1.out.trans hg); have HY1 := Lib.hid (HX1.out.grown hg (by simp)); have HY2 := Lib.hid (HX2.out.grown hg (by simp))
      clear hg x0 x1 x2
      obtain ⟨x0, x1, x2⟩ := box3 HY1.out
      go_upto_if 33 with fail
      go_cut [10] (fun s10 wx => s10 = .int .i64 (R : Nat) ∧ wx = w2)
      case first =>
        cases I
        · obtain rfl : R = F := by simpa using HRI.out
          go_wp2_with fail
          go_meet
          exact ⟨rfl, rfl⟩
        · obtain rfl : R = F + 1 := by simpa using HRI.out
          go_wp2_with fail
          go_meet
          exact ⟨rfl, rfl⟩
      case rest =>
        obtain ⟨rfl, rfl⟩ := hcut
        have HN0 := Lib.hid (HH.out.keep HG2.out)
        have HR16 := Lib.hid (show n' - R ≤ 16 by omega); have HF16 := Lib.hid (show F ≤ 16 by omega); have H1 := Lib.hid (show 1 ≤ 16 by omega)
        have HF1 := Lib.hid hFn; have HR1 := Lib.hid hRn
        go_upto_region 10 with fail
        have h1 := one_node (w := wc) hkey hval
        have ha := h1.alloc (.cells #[.bool lf, .slice (some ⟨wc.heap.size, 0, none⟩) 1 1, .slice (some ⟨wc.heap.size + 1, 0, none⟩) 1 1] 24)
        have hb := Blk.new ((wc.alloc (.cells #[.int .i64 key] 3)).alloc (.cells #[.int .i64 val] 3)) 24 #[.bool lf, .slice (some ⟨wc.heap.size, 0, none⟩) 1 1, .slice (some ⟨wc.heap.size + 1, 0, none⟩) 1 1]
        rw [World.size_alloc, World.size_alloc] at hb
        have hgw : wc.grownBy (((wc.alloc (.cells #[.int .i64 key] 3)).alloc (.cells #[.int .i64 val] 3)).alloc (.cells #[.bool lf, .slice (some ⟨wc.heap.size, 0, none⟩) 1 1, .slice (some ⟨wc.heap.size + 1, 0, none⟩) 1 1] 24)) none := ((World.grownBy_alloc _ _ none).trans (World.grownBy_alloc _ _ none)).trans (World.grownBy_alloc _ _ none)
        have HONE := Lib.hid ha
        have HN := Lib.hid (HN0.out.keep hgw)
        have HGW := Lib.hid (HG2.out.trans hgw)
        have HZ1 := Lib.hid (HY1.out.grown hgw (by simp)); have HZ2 := Lib.hid (HY2.out.grown hgw (by simp))
        clear x0 x1 x2 h1 ha hgw hFn hRn
        have HBB := Lib.hid hb
        clear hb
        generalize ((wc.alloc (.cells #[.int .i64 key] 3)).alloc (.cells #[.int .i64 val] 3)).alloc (.cells #[.bool lf, .slice (some ⟨wc.heap.size, 0, none⟩) 1 1, .slice (some ⟨wc.heap.size + 1, 0, none⟩) 1 1] 24) = W0 at *
        generalize wc.heap.size = b0 at *
        have HS6 := Lib.hid (fun (W : World) (hW : W0.grownBy W none) => (show (W.cell? ⟨w.heap.size, 0, none⟩ = some (.bool lf) ∧ W.cell? ⟨w.heap.size, 1, none⟩ = some (.slice A n' c) ∧ W.cell? ⟨w.heap.size, 2, none⟩ = some (.slice A' n' c')) ∧
            W.cell? ⟨b0 + 1 + 1, 0, none⟩ = some (.bool lf) ∧ W.cell? ⟨b0 + 1 + 1, 1, none⟩ = some (.slice (some ⟨b0, 0, none⟩) 1 1) ∧ W.cell? ⟨b0 + 1 + 1, 2, none⟩ = some (.slice (some ⟨b0 + 1, 0, none⟩) 1 1) from
          ⟨box3 (HZ1.out.grown hW (by simp)), box3 (HBB.out.grown hW (by simp))⟩))
        go_cut [12] (fun s12 wx => Stored W0 wx s12 lf (ins ks F R key) (ins vs F R val))
        case first =>
          go_region_held3 (fun W => (W.cell? ⟨w.heap.size, 0, none⟩ = some (.bool lf) ∧ W.cell? ⟨w.heap.size, 1, none⟩ = some (.slice A n' c) ∧ W.cell? ⟨w.heap.size, 2, none⟩ = some (.slice A' n' c')) ∧
              W.cell? ⟨b0 + 1 + 1, 0, none⟩ = some (.bool lf) ∧ W.cell? ⟨b0 + 1 + 1, 1, none⟩ = some (.slice (some ⟨b0, 0, none⟩) 1 1) ∧ W.cell? ⟨b0 + 1 + 1, 2, none⟩ = some (.slice (some ⟨b0 + 1, 0, none⟩) 1 1))
            (first
              | with_reducible exact HS6.out _ (grown_drew _ none)
              | with_reducible exact HS6.out _ ((World.grownBy_alloc _ _ none).trans (grown_drew _ none))
              | with_reducible exact HS6.out _ HG3.out
              | with_reducible exact HS6.out _ (HG3.out.trans (World.grownBy_alloc _ _ none))
              | with_reducible exact HS6.out _ HG4.out
              | with_reducible exact HS6.out _ (HG4.out.trans (World.grownBy_alloc _ _ none))
              | with_reducible exact HS6.out _ ((HG4.out.trans (World.grownBy_alloc _ _ none)).trans (World.grownBy_alloc _ _ none))
              | with_reducible exact HS6.out _ HG5.out
              | with_reducible exact HS6.out _ (HG5.out.trans (World.grownBy_alloc _ _ none))
              | with_reducible exact HS6.out _ (grown_set1 (grown_set1 (grown_set1 HG5.out HQL.out _) HQL.out _) HQL.out _))
            (first
              | (go_at_call_of 34 (Value.int IntKind.i64 0)
                 with_reducible refine (piece_first lf F (HN.out.keep (grown_drew _ none)) HF1.out HF1.out).mono ?_
                 rintro e w3 ⟨hg, A1, A1', rfl, hat⟩
                 have HG3 := Lib.hid ((grown_drew W0 none).trans hg); have HA1 := Lib.hid hat
                 clear hg hat)
              | (go_at_call_of 34 (Value.int IntKind.i64 0)
                 with_reducible refine (piece_first lf F ((HN.out.alloc _).keep (grown_drew _ none)) HF1.out HF1.out).mono ?_
                 rintro e w3 ⟨hg, A1, A1', rfl, hat⟩
                 have HG3 := Lib.hid (((World.grownBy_alloc W0 _ none).trans (grown_drew _ none)).trans hg); have HA1 := Lib.hid hat
                 have HQ := Lib.hid ((Blk.new W0 24 #[.bool false, .slice none 0 0, .slice none 0 0]).drew.grown hg (by simp))
                 have HQL := Lib.hid (Nat.le_refl W0.heap.size)
                 clear hg hat)
              | (go_at_call_of 34 (Value.int IntKind.i64 R)
                 with_reducible refine (piece_rest lf R (HN.out.keep HG3.out) HR1.out).mono ?_
                 rintro e w4 ⟨hg, A2, A2', rfl, hat⟩
                 have HG4 := Lib.hid (HG3.out.trans hg); have HA1b := Lib.hid (HA1.out.keep hg); have HA2 := Lib.hid hat; have HON := Lib.hid (HONE.out.keep (HG3.out.trans hg))
                 try have HQ' := Lib.hid (HQ.out.grown hg (by simp))
                 clear hg hat)
              | (go_at_call_of 34 (Value.int IntKind.i64 R)
                 with_reducible refine (piece_rest lf R ((HN.out.keep HG3.out).alloc _) HR1.out).mono ?_
                 rintro e w4 ⟨hg, A2, A2', rfl, hat⟩
                 have HG4 := Lib.hid ((HG3.out.trans (World.grownBy_alloc _ _ none)).trans hg); have HA1b := Lib.hid ((HA1.out.alloc _).keep hg); have HA2 := Lib.hid hat; have HON := Lib.hid (HONE.out.keep ((HG3.out.trans (World.grownBy_alloc _ _ none)).trans hg))
                 have HQ' := Lib.hid ((Blk.new w3 24 #[.bool false, .slice none 0 0, .slice none 0 0]).grown hg (by simp))
                 have HQL := Lib.hid HG3.out.size
                 clear hg hat)
              | (go_at_call 33
                 with_reducible refine (laid3_at (Blk.new w4 _ _) (HA1b.out.alloc _) (HON.out.alloc _) (HA2.out.alloc _) HF16.out HF16.out H1.out H1.out HR16.out HR16.out _).mono ?_
                 rintro e w5 ⟨hg, E, E', L, L', e1, e1', rfl, ho⟩
                 have HG5 := Lib.hid ((HG4.out.trans (World.grownBy_alloc _ _ none)).trans hg); have HO := Lib.hid ho
                 try (have HQ2 := Lib.hid ((HQ'.out.alloc _).grown hg (by simp)); obtain ⟨q0, q1, q2⟩ := box3 HQ2.out; have f0 := HQ2.out.frozen 0; have f1 := HQ2.out.frozen 1; have f2 := HQ2.out.frozen 2)
                 clear hg ho)
              | (go_at_call 33
                 with_reducible refine (laid3_at (new2 w4 _ _ _) ((HA1b.out.alloc _).alloc _) ((HON.out.alloc _).alloc _) ((HA2.out.alloc _).alloc _) HF16.out HF16.out H1.out H1.out HR16.out HR16.out _).mono ?_
                 rintro e w5 ⟨hg, E, E', L, L', e1, e1', rfl, ho⟩
                 have HG5 := Lib.hid (((HG4.out.trans (World.grownBy_alloc _ _ none)).trans (World.grownBy_alloc _ _ none)).trans hg); have HO := Lib.hid ho
                 have HQ2 := Lib.hid (((Blk.new w4 24 #[.bool false, .slice none 0 0, .slice none 0 0]).alloc _).grown hg (by simp)); have HQL := Lib.hid HG4.out.size; obtain ⟨q0, q1, q2⟩ := box3 HQ2.out; have f0 := HQ2.out.frozen 0; have f1 := HQ2.out.frozen 1; have f2 := HQ2.out.frozen 2
                 clear hg ho)
              | (go_at_call 33
                 with_reducible refine (laid3_at ((Blk.new w4 _ _).alloc _) ((HA1b.out.alloc _).alloc _) ((HON.out.alloc _).alloc _) ((HA2.out.alloc _).alloc _) HF16.out HF16.out H1.out H1.out HR16.out HR16.out _).mono ?_
                 rintro e w5 ⟨hg, E, E', L, L', e1, e1', rfl, ho⟩
                 have HG5 := Lib.hid (((HG4.out.trans (World.grownBy_alloc _ _ none)).trans (World.grownBy_alloc _ _ none)).trans hg); have HO := Lib.hid ho
                 have HQ2 := Lib.hid ((new2 w4 _ 24 #[.bool false, .slice none 0 0, .slice none 0 0]).grown hg (by simp)); have HQL := Lib.hid (Nat.le_succ_of_le HG4.out.size); obtain ⟨q0, q1, q2⟩ := box3 HQ2.out; have f0 := HQ2.out.frozen 0; have f1 := HQ2.out.frozen 1; have f2 := HQ2.out.frozen 2
                 clear hg ho))
          all_goals
            go_wp2_with fail
            go_meet
            first
              | (refine stored_a HQ2.out HQL.out ?_ HO.out HG5.out
                 simp only [World.size_alloc]
                 first
                   | (have := HQ'.out.lt; omega)
                   | omega)
              | (refine stored_b HO.out ?_ HG5.out
                 simp only [World.size_alloc]
                 have := HG4.out.size
                 omega)
        case rest =>
          obtain ⟨q, v1, v2, rfl, hq0, hbq, ho, hgx⟩ := hcut
          obtain ⟨E, E', e1, e1', hv1, hv2, hat⟩ := ho.at_
          have hlen : (ins ks F R key).length = F + (1 + (n' - R)) := by
            unfold ins
            simp [HH.out.klen]
            have := HF1.out
            omega
          obtain ⟨L, hL⟩ : ∃ L, (ins ks F R key).length = L := ⟨_, rfl⟩
          obtain ⟨L', hL'⟩ : ∃ L', (ins vs F R val).length = L' := ⟨_, rfl⟩
          rw [hL] at hv1
          rw [hL'] at hv2
          subst hv1 hv2
          have HO := Lib.hid ho
          have HGX := Lib.hid (HGW.out.trans hgx)
          have HZZ := Lib.hid (HZ2.out.grown hgx (by simp))
          have HRL := Lib.hid (show r = if 8 < L then (15, nil) else (0, lf, ins ks F R key, ins vs F R val) by rw [HR.out, ← hlen, hL])
          have hqw : w.heap.size + 1 < q := by have := HZ2.out.lt; omega
          have HLW := Lib.hid (show w.heap.size ≤ W0.heap.size from HGW.out.size)
          have HRW := Lib.hid (show w.heap.size + 1 < W0.heap.size from HZ2.out.lt)
          obtain ⟨x0, x1, x2⟩ := box3 hbq
          obtain ⟨z0, z1, z2⟩ := box3 HZZ.out
          have f0 := HZZ.out.frozen 0; have f1 := HZZ.out.frozen 1; have f2 := HZZ.out.frozen 2
          clear ho hgx hat hlen hL hL' hbq
          by_cases hL8 : 8 < L
          · have hr : r = (15, nil) := by rw [HRL.out, if_pos hL8]
            subst hr
            go_wp2_with fail
            refine ret_row2 rfl (w.heap.size + 1) 24 _ _ rfl (Blk.set3 HZZ.out) Try.underlying24 rfl (by kernel_rfl) rfl ⟨?_, _, _, rfl, NdOwn.nil _ _⟩
            repeat (refine grown_set1 ?_ (by omega) _)
            exact HGX.out
          · have hr : r = (0, lf, ins ks F R key, ins vs F R val) := by rw [HRL.out, if_neg hL8]
            subst hr
            go_wp2_with fail
            refine ret_row2 rfl (w.heap.size + 1) 24 _ _ rfl (Blk.set3 HZZ.out) Try.underlying24 rfl (by kernel_rfl) rfl ⟨?_, _, _, rfl, ?_⟩
            · repeat (refine grown_set1 ?_ (by omega) _)
              exact HGX.out
            · exact own_far3 HO.out HRW.out HLW.out _ _ _
end Go.Proofs.Ytlbadapcaooieaa.Node
