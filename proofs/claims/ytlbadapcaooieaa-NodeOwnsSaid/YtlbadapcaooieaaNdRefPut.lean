/- Put of the document's node. -/
import Derived.Test.YtlbadapcaooieaaNdRefHalves
import Derived.Test.YtlbadapcaooieaaNdPut
namespace Go.Proofs.Ytlbadapcaooieaa.Node
open Go.RowKit CrcMath Mem Crc Codec NdSpec
set_option linter.unusedVariables false
set_option linter.unusedSimpArgs false

theorem Gat.fence {W0 W1 W3 : World} {base B : Nat} {lf : Bool} {v1 v2 : Value} {Ks Vs : List Int} (h : Gat W0 W1 (· < base) base B lf v1 v2 Ks Vs) (hg : W1.grownBy W3 none) (hb : base ≤ W1.heap.size) :
    Gat W3 W3 (fun g => g < base ∨ (W1.heap.size ≤ g ∧ g < W3.heap.size)) base B lf v1 v2 Ks Vs := by
  have h3 := h.quiet hg
  have hB := h.box.lt
  have hnB : ¬ B < base := h.nB
  have hs := hg.size
  refine ⟨Kept.refl _ _, ?_, ?_, h3.box, h3.own, ?_, ?_⟩
  · intro g hk
    rcases hk with hk | hk <;> omega
  · intro hk
    rcases hk with hk | hk <;> omega
  · intro g hg1
    have := h.own.k.base_ g hg1
    refine ⟨fun hk => ?_, (h.r1 g hg1).2⟩
    rcases hk with hk | hk <;> omega
  · intro g hg1
    have := h.own.v.base_ g hg1
    refine ⟨fun hk => ?_, (h.r2 g hg1).2⟩
    rcases hk with hk | hk <;> omega
theorem Kept.nd {K : Nat → Prop} {W0 W : World} {base : Nat} {v1 v2 : Value} {ks vs : List Int} (h : Kept K W0 W) (ho : NdOwn W0 base v1 v2 ks vs) (hk : ∀ g, base ≤ g → g < W0.heap.size → K g) : NdOwn W base v1 v2 ks vs :=
  ⟨h.own ho.k (fun j hj => hk j (ho.k.base_ j hj).1 (ho.k.base_ j hj).2), h.own ho.v (fun j hj => hk j (ho.v.base_ j hj).1 (ho.v.base_ j hj).2), ho.apart, ho.kin, ho.vin⟩
set_option maxRecDepth 100000 in
set_option maxHeartbeats 3200000 in
theorem rput_call {w : World} {A A' : Option Addr} {n n' c c' : Nat} {ks vs : List Int} (lf : Bool) (key val : Int) (h : NdAt w A A' n n' c c' ks vs)
    (hkey : -9223372036854775808 ≤ key ∧ key ≤ 9223372036854775807) (hval : -9223372036854775808 ≤ val ∧ val ≤ 9223372036854775807) :
    Calls Try.prog 19 #[.agg #[.bool lf, .slice A n c, .slice A' n' c'], .int .i64 key, .int .i64 val] w (Told1 w (putR lf ks vs key val)) := by
  obtain ⟨i0, hi0, hz0, hz1, hz2⟩ := info_int
  have hi := Lib.hid hi0; have z0 := Lib.hid hz0; have z1 := Lib.hid hz1; have z2 := Lib.hid hz2
  have hg0 := (World.grownBy_alloc w (.cells #[.bool lf, .slice A n c, .slice A' n' c'] 24) none).trans (World.grownBy_alloc _ (.cells #[.bool false, .slice none 0 0, .slice none 0 0] 24) none)
  obtain ⟨hb1, hb2⟩ := two2 w 24 #[.bool lf, .slice A n c, .slice A' n' c'] #[.bool false, .slice none 0 0, .slice none 0 0]
  have HG0 := Lib.hid hg0; have HB1 := Lib.hid hb1; have HB2 := Lib.hid hb2
  have HH := Lib.hid h
  have hkl := h.klen; have hvl := h.vlen
  have HM1 := Lib.hid (rmay_call lf (h.keep hg0))
  cases e1 : may lf ks vs with
  | false =>
    have hr : putR lf ks vs key val = (22, nil) := by unfold putR; rw [if_pos e1]
    rw [hr]
    rw [e1] at HM1
    clear h hg0 hb1 hb2 hr e1 hkl hvl hi0 hz0 hz1 hz2
    go_enter Try.func19, Try.ntmps19
    go_wp2_with fail
    refine HM1.out.mono ?_
    rintro e w1 ⟨rfl, hg⟩
    have HG1 := Lib.hid (HG0.out.trans hg); have HX := Lib.hid (HB2.out.grown hg (by simp))
    clear hg
    obtain ⟨x0, x1, x2⟩ := box3 HX.out
    have f0 := HX.out.frozen 0; have f1 := HX.out.frozen 1; have f2 := HX.out.frozen 2
    go_wp2_with fail
    refine ret_row2 rfl (w.heap.size + 1) 24 _ _ rfl (Blk.set3 HX.out) Try.underlying24 rfl (by kernel_rfl) rfl ⟨?_, _, _, rfl, NdOwn.nil _ _⟩
    repeat (refine grown_set1 ?_ (by omega) _)
    exact HG1.out
  | true =>
    rw [e1] at HM1
    have hm := may_len e1
    have HF := Lib.hid (fun (W : World) => fits_call key val W)
    cases e2 : (inK key && inV val) with
    | false =>
      have hr : putR lf ks vs key val = (1, nil) := by unfold putR; rw [if_neg (by simp [e1]), if_pos e2]
      rw [hr]
      rw [e2] at HF
      clear h hg0 hb1 hb2 hr e1 hkl hvl hm e2 hi0 hz0 hz1 hz2
      go_enter Try.func19, Try.ntmps19
      go_wp2_with fail
      refine HM1.out.mono ?_
      rintro e w1 ⟨rfl, hg⟩
      have HG1 := Lib.hid (HG0.out.trans hg); have HX := Lib.hid (HB2.out.grown hg (by simp))
      clear hg
      go_wp2_with fail
      refine (HF.out _).mono ?_
      rintro e w2 ⟨rfl, rfl⟩
      obtain ⟨x0, x1, x2⟩ := box3 HX.out
      have f0 := HX.out.frozen 0; have f1 := HX.out.frozen 1; have f2 := HX.out.frozen 2
      go_wp2_with fail
      refine ret_row2 rfl (w.heap.size + 1) 24 _ _ rfl (Blk.set3 HX.out) Try.underlying24 rfl (by kernel_rfl) rfl ⟨?_, _, _, rfl, NdOwn.nil _ _⟩
      repeat (refine grown_set1 ?_ (by omega) _)
      exact HG1.out
    | true =>
      rw [e2] at HF
      obtain ⟨F, hF⟩ : ∃ F, find ks key = F := ⟨_, rfl⟩
      obtain ⟨I, hI⟩ : ∃ I, isAt ks key = I := ⟨_, rfl⟩
      obtain ⟨R, hR⟩ : ∃ R, rest ks key = R := ⟨_, rfl⟩
      have hRI : R = if I = true then F + 1 else F := by rw [← hR, ← hI, ← hF]; rfl
      have hFn : F ≤ n := by rw [← hF, ← hkl]; exact find_le ks key
      have hRn : R ≤ n := by rw [← hR, ← hkl]; exact rest_le
      have hnn : n' = n := by rw [← hkl, ← hvl]; exact hm.1.symm
      have hn8 : n ≤ 8 := by rw [← hkl]; exact hm.2.1
      subst hnn
      have hr : putR lf ks vs key val = if 8 < (((ks.take F ++ [key]) ++ ks.drop R).length) then (15, nil) else (0, lf, (ks.take F ++ [key]) ++ ks.drop R, (vs.take F ++ [val]) ++ vs.drop R) := by
        unfold putR ins
        rw [if_neg (by simp [e1]), if_neg (by simp [e2]), hF, hR]
        simp
      have HR := Lib.hid hr
      generalize putR lf ks vs key val = r at *
      have HFD := Lib.hid (fun (W : World) (hw : NdAt W A A' n' n' c c' ks vs) => by have q := rfind_call lf key hw; rw [hF, hI] at q; exact q)
      have HRI := Lib.hid hRI
      have hFw : IntKind.i64.wrap ((F : Int) + 1) = ((F + 1 : Nat) : Int) := IntWalk.i64_in _ (by omega)
      have HFN := Lib.hid hFn; have HRN := Lib.hid hRn; have HF16 := Lib.hid (show F ≤ 16 by omega); have HN16 := Lib.hid (show n' ≤ 16 by omega)
      have HK1 := Lib.hid (show (ks.take F).length ≤ 8 ∧ (vs.take F).length ≤ 8 by rw [List.length_take, List.length_take]; omega)
      have HK2 := Lib.hid (show (ks.drop R).length ≤ 8 ∧ (vs.drop R).length ≤ 8 by rw [List.length_drop, List.length_drop]; omega)
      generalize hK1 : ks.take F = K1 at *
      generalize hV1 : vs.take F = V1 at *
      generalize hK2 : ks.drop R = K2 at *
      generalize hV2 : vs.drop R = V2 at *
      have HE := Lib.hid (And.intro (And.intro hK1 hV1) (And.intro hK2 hV2))
      clear h hg0 hb1 hb2 hr e1 hkl hvl hm e2 hF hI hR hRI hi0 hz0 hz1 hz2 hK1 hV1 hK2 hV2
      go_enter Try.func19, Try.ntmps19
      go_wp2_with fail
      refine HM1.out.mono ?_
      rintro e w1 ⟨rfl, hg⟩
      have HG1 := Lib.hid (HG0.out.trans hg); have HX1 := Lib.hid (HB1.out.grown hg (by simp)); have HX2 := Lib.hid (HB2.out.grown hg (by simp))
      clear hg
      go_wp2_with fail
      refine (HF.out _).mono ?_
      rintro e w1b ⟨rfl, rfl⟩
      obtain ⟨x0, x1, x2⟩ := box3 HX1.out
      go_wp2_with fail
      refine (HFD.out _ (HH.out.keep HG1.out)).mono ?_
      rintro e w2 ⟨rfl, hg⟩
      have HG2 := Lib.hid (HG1.out.trans hg); have HY1 := Lib.hid (HX1.out.grown hg (by simp)); have HY2 := Lib.hid (HX2.out.grown hg (by simp))
      clear hg x0 x1 x2
      obtain ⟨x0, x1, x2⟩ := box3 HY1.out
      go_wp2_with fail
      refine (rfrom_first lf F (HH.out.keep HG2.out) HFN.out HFN.out HF16.out).mono ?_
      rintro e w3 ⟨hg, E, E', L, L', e1, e1', rfl, ho⟩
      rw [HE.out.1.1, HE.out.1.2] at ho
      have hg' := hg.trans (World.grownBy_alloc w3 (.cells #[.bool lf, .slice E L e1, .slice E' L' e1'] 24) none)
      have HG3 := Lib.hid (HG2.out.trans hg')
      have HZ1 := Lib.hid (HY1.out.grown hg' (by simp)); have HZ2 := Lib.hid (HY2.out.grown hg' (by simp))
      have HSW := Lib.hid (show w.heap.size + 1 < w2.heap.size from HY2.out.lt)
      have HWW := Lib.hid (show w.heap.size ≤ w2.heap.size from HG2.out.size)
      have hga := (show Gat _ _ (· < w2.heap.size) w2.heap.size w3.heap.size lf (.slice E L e1) (.slice E' L' e1') K1 V1 from
        ⟨Kept.refl _ _, fun i hi => Nat.lt_of_lt_of_le hi hg'.size, by have := hg.size; omega, Blk.new w3 _ _, ho.keep (World.grownBy_alloc _ _ none),
          fun i hi => by have := ho.k.base_ i hi; omega, fun i hi => by have := ho.v.base_ i hi; omega⟩)
      have HW02 := Lib.hid hg'.size
      have HGA := Lib.hid hga
      clear hg hg' ho x0 x1 x2
      go_upto_region 9 with fail
      generalize hW0 : w3.alloc (.cells #[.bool lf, .slice E L e1, .slice E' L' e1'] 24) = W0 at *
      generalize w3.heap.size = BB at *
      clear hW0 hga
      obtain ⟨⟨x0, x1, x2⟩, y0, y1, y2⟩ := HGA.out.cells
      have HGB := Lib.hid (HGA.out.quiet (World.grownBy_alloc W0 (.cells #[.int .i64 key] 3) none))
      have HLN := Lib.hid (show [key].length = 1 from rfl)
      have HIN := Lib.hid (show ∀ t ∈ [key], -9223372036854775808 ≤ t ∧ t ≤ 9223372036854775807 from fun t ht => by simp at ht; subst ht; exact hkey)
      have hk1 := HK1.out.1; have hv1 := HK1.out.2
      go_upto_region 10 with (first
        | (at_builtin
           refine wpList_append_any _ rfl (.tmp 35) (.tmp 37) _ rfl w2.heap.size 3 i0 _ 1 8 Try.underlying22 hi.out z0.out z1.out z2.out rfl (by omega) (.slice E L e1) K1.length (i64s K1) rfl HGB.out.own.k
             _ _ 1 1 [.int .i64 key] rfl (reads_one_int _ _) (fun u hu => by simp at hu; subst hu; rfl) (by simp only [maxLen]; omega) (by omega) (Nat.le_trans HW02.out HGB.out.kept.size) ?_
           intro v' w' hown' hgr hwh
           have hgc := HGB.out.key (l := [key]) (m := 1) hgr hown' hwh HLN.out HIN.out
           have hbb := HGB.out.box.grown hgr (fun e => (HGB.out.r1 _ e.symm).2 rfl)
           obtain ⟨A6, c6, hv, _, _, _⟩ := (Own.of hown').shape
           subst hv
           have q1 := hbb.cell 1
           have q2 := hbb.frozen 1
           simp only [List.getElem?_toArray, List.getElem?_cons_zero, List.getElem?_cons_succ] at q1
           have HGC := Lib.hid hgc
           clear hgc hbb hown' hgr hwh))
      clear x0 x1 x2 y0 y1 y2 q1 q2 HGA HGB HLN HIN
      have HGA := HGC
      clear HGC
      have hga := HGA.out
      generalize w'.setCell ⟨BB, 1, none⟩ (.slice A6 (K1.length + 1) c6) = W1 at *
      obtain ⟨⟨x0, x1, x2⟩, y0, y1, y2⟩ := hga.cells
      have HGB := Lib.hid (hga.quiet (World.grownBy_alloc W1 (.cells #[.int .i64 val] 3) none))
      have HLN := Lib.hid (show [val].length = 1 from rfl)
      have HIN := Lib.hid (show ∀ t ∈ [val], -9223372036854775808 ≤ t ∧ t ≤ 9223372036854775807 from fun t ht => by simp at ht; subst ht; exact hval)
      clear hga
      go_upto_region 11 with (first
        | (at_builtin
           refine wpList_append_any _ rfl (.tmp 41) (.tmp 43) _ rfl w2.heap.size 3 i0 _ 1 8 Try.underlying22 hi.out z0.out z1.out z2.out rfl (by omega) (.slice E' L' e1') V1.length (i64s V1) rfl HGB.out.own.v
             _ _ 1 1 [.int .i64 val] rfl (reads_one_int _ _) (fun u hu => by simp at hu; subst hu; rfl) (by simp only [maxLen]; omega) (by omega) (Nat.le_trans HW02.out HGB.out.kept.size) ?_
           intro v' w' hown' hgr hwh
           have hgc := HGB.out.val (l := [val]) (m := 1) hgr hown' hwh HLN.out HIN.out
           have hbb := HGB.out.box.grown hgr (fun e => (HGB.out.r2 _ e.symm).2 rfl)
           obtain ⟨A6, c6, hv, _, _, _⟩ := (Own.of hown').shape
           subst hv
           have q1 := hbb.cell 2
           have q2 := hbb.frozen 2
           simp only [List.getElem?_toArray, List.getElem?_cons_zero, List.getElem?_cons_succ] at q1
           have HGC := Lib.hid hgc
           clear hgc hbb hown' hgr hwh))
      clear x0 x1 x2 y0 y1 y2 q1 q2 HGA HGB HLN HIN
      have HGA := HGC
      clear HGC
      generalize w'.setCell ⟨BB, 2, none⟩ (.slice A6 (V1.length + 1) c6) = W2 at *
      obtain ⟨B1, B2, gg1, gg2, hv1', hv2', _⟩ := HGA.out.shape
      have hl1 : (K1 ++ [key]).length = K1.length + 1 := by simp
      have hl2 : (V1 ++ [val]).length = V1.length + 1 := by simp
      go_upto_if 46 with fail
      go_cut [10] (fun s10 wx => s10 = .int .i64 (R : Nat) ∧ wx = W2)
      case first =>
        cases I
        · obtain rfl : R = F := by simpa using HRI.out
          go_wp2_with fail
          go_meet
          exact ⟨rfl, rfl⟩
        · obtain rfl : R = F + 1 := by simpa using HRI.out
          go_wp2_with fail
          go_meet
          exact ⟨rfl, rfl⟩
      case rest =>
        obtain ⟨rfl, rfl⟩ := hcut
        generalize hKA : K1 ++ [key] = KA at *
        generalize hVA : V1 ++ [val] = VA at *
        obtain ⟨a1, ha1⟩ : ∃ a1, KA.length = a1 := ⟨_, rfl⟩
        obtain ⟨a2, ha2⟩ : ∃ a2, VA.length = a2 := ⟨_, rfl⟩
        have hka : KA.length ≤ 9 ∧ VA.length ≤ 9 := by omega
        rw [ha1] at hv1'
        rw [ha2] at hv2'
        have HV := Lib.hid (And.intro hv1' hv2')
        have HKA := Lib.hid hka
        have HGX := Lib.hid HGA.out
        rw [hv1', hv2'] at HGX
        have hgw := HGX.out.kept.grown HG3.out (fun i hi => by have := HWW.out; omega)
        have HGW := Lib.hid hgw
        obtain ⟨p0, p1, p2⟩ := box3 (HGX.out.kept.blk HZ1.out (by have := HSW.out; omega))
        have HNW := Lib.hid (HH.out.keep hgw)
        clear hgw hl1 hl2 hk1 hv1 ha1 ha2 hka hv1' hv2' HGA
        go_wp2_with fail
        refine (rfrom_rest lf R HNW.out HRN.out HN16.out).mono ?_
        rintro e w5 ⟨hg, P, P', M, M', d1, d1', rfl, ho⟩
        rw [HE.out.2.1, HE.out.2.2] at ho
        have hal := World.grownBy_alloc w5 (.cells #[.bool lf, .slice P M d1, .slice P' M' d1'] 24) none
        have hg' := hg.trans hal
        have hfe := HGX.out.fence hg' (Nat.le_trans HW02.out HGX.out.kept.size)
        have HGA := Lib.hid hfe
        have HRO := Lib.hid (ho.keep hal)
        have HSR := Lib.hid hg.size
        have hb5 := Blk.new w5 24 #[.bool lf, .slice P M d1, .slice P' M' d1']
        have HB5 := Lib.hid hb5
        have HGW3 := Lib.hid (HGW.out.trans hg')
        have HZ2c := Lib.hid ((HGX.out.kept.blk HZ2.out (by have := HSW.out; omega)).grown hg' (by simp))
        have HSC := Lib.hid hg'.size
        have HWB := Lib.hid (Nat.le_trans HW02.out HGX.out.kept.size)
        clear hg hg' ho hal hfe hb5 p0 p1 p2 HGX
        go_upto_region 14 with fail
        generalize w5.alloc (.cells #[.bool lf, .slice P M d1, .slice P' M' d1'] 24) = W3 at *
        generalize w5.heap.size = b5 at *
        obtain ⟨x0, x1, x2⟩ := box3 HB5.out
        obtain ⟨⟨y0, y1, y2⟩, v0, v1, v2⟩ := HGA.out.cells
        obtain ⟨X1, X1', g1, g1', q3, q4, hat⟩ := HRO.out.at_
        simp only [Value.slice.injEq] at q3 q4
        obtain ⟨rfl, q3, rfl⟩ := q3
        obtain ⟨rfl, q4, rfl⟩ := q4
        have hM : M ≤ 8 ∧ M' ≤ 8 := by have := HK2.out; omega
        have HGB := HGA
        have HLN := Lib.hid (show K2.length = M from q3.symm)
        have HLV := Lib.hid (show V2.length = M' from q4.symm)
        have HIN := Lib.hid HRO.out.kin
        obtain ⟨bb, hin⟩ := hat.k
        rw [HLN.out] at hin
        have hk1 := HKA.out.1; have hv1 := HKA.out.2
        have HRD := Lib.hid (reads_of_ints hin)
        clear hat hin q3 q4
        go_upto_region 15 with (first
          | (at_builtin
             refine wpList_append_any _ rfl (.tmp 56) (.tmp 58) _ rfl w2.heap.size 3 i0 _ 1 8 Try.underlying22 hi.out z0.out z1.out z2.out rfl (by omega) (.slice B1 a1 gg1) KA.length (i64s KA) rfl HGB.out.own.k
               _ P M d1 (i64s K2) rfl HRD.out (i64s_one _) (by simp only [maxLen]; omega) (by omega) (Nat.le_trans HWB.out HSC.out) ?_
             intro v' w' hown' hgr hwh
             have hgc := HGB.out.key (l := K2) (m := M) hgr hown' hwh HLN.out HIN.out
             have hbb := HGB.out.box.grown hgr (fun e => (HGB.out.r1 _ e.symm).2 rfl)
             obtain ⟨A6, c6, hv, _, _, _⟩ := (Own.of hown').shape
             subst hv
             have q1 := hbb.cell 1
             have q2 := hbb.frozen 1
             simp only [List.getElem?_toArray, List.getElem?_cons_zero, List.getElem?_cons_succ] at q1
             have HGC := Lib.hid hgc
             clear hgc hbb hown' hgr hwh))
        clear x0 x1 x2 y0 y1 y2 v0 v1 v2 q1 q2 HGA HGB HLN HIN HRD
        have HGB := HGC
        clear HGC
        generalize w'.setCell ⟨BB, 1, none⟩ (.slice A6 (KA.length + M) c6) = W4 at *
        have hB5 := HGB.out.kept.blk HB5.out (.inr ⟨HSR.out, HB5.out.lt⟩)
        obtain ⟨x0, x1, x2⟩ := box3 hB5
        obtain ⟨⟨y0, y1, y2⟩, v0, v1, v2⟩ := HGB.out.cells
        have hro := HGB.out.kept.nd HRO.out (fun g h1 h2 => .inr ⟨h1, h2⟩)
        have HIN := Lib.hid HRO.out.vin
        obtain ⟨X1, X1', g1, g1', q3, q4, hat⟩ := hro.at_
        simp only [Value.slice.injEq] at q3 q4
        obtain ⟨rfl, q3, rfl⟩ := q3
        obtain ⟨rfl, q4, rfl⟩ := q4
        obtain ⟨bb, hin⟩ := hat.v
        rw [HLV.out] at hin
        have HLN := HLV
        have HRD := Lib.hid (reads_of_ints hin)
        clear hat hin q3 q4 hB5 hro
        go_upto_region 16 with (first
          | (at_builtin
             refine wpList_append_any _ rfl (.tmp 62) (.tmp 64) _ rfl w2.heap.size 3 i0 _ 1 8 Try.underlying22 hi.out z0.out z1.out z2.out rfl (by omega) (.slice B2 a2 gg2) VA.length (i64s VA) rfl HGB.out.own.v
               _ P' M' d1' (i64s V2) rfl HRD.out (i64s_one _) (by simp only [maxLen]; omega) (by omega) (Nat.le_trans (Nat.le_trans HWB.out HSC.out) HGB.out.kept.size) ?_
             intro v' w' hown' hgr hwh
             have hgc := HGB.out.val (l := V2) (m := M') hgr hown' hwh HLN.out HIN.out
             have hbb := HGB.out.box.grown hgr (fun e => (HGB.out.r2 _ e.symm).2 rfl)
             obtain ⟨A6, c6, hv, _, _, _⟩ := (Own.of hown').shape
             subst hv
             have q1 := hbb.cell 2
             have q2 := hbb.frozen 2
             simp only [List.getElem?_toArray, List.getElem?_cons_zero, List.getElem?_cons_succ] at q1
             have HGC := Lib.hid hgc
             clear hgc hbb hown' hgr hwh))
        clear x0 x1 x2 y0 y1 y2 v0 v1 v2 q1 q2 HGB HLN HIN HRD
        have hga := HGC.out
        clear HGC
        generalize w'.setCell ⟨BB, 2, none⟩ (.slice A6 (VA.length + M') c6) = W5 at *
        obtain ⟨A7, A8, c7, c8, r1, r2, _⟩ := hga.shape
        subst hKA hVA
        obtain ⟨L7, hL7⟩ : ∃ s, (K1 ++ [key] ++ K2).length = s := ⟨_, rfl⟩
        obtain ⟨L8, hL8⟩ : ∃ s, (V1 ++ [val] ++ V2).length = s := ⟨_, rfl⟩
        rw [hL7] at r1
        rw [hL8] at r2
        rw [r1, r2] at hga
        have HRL := Lib.hid (show r = if 8 < L7 then (15, nil) else (0, lf, K1 ++ [key] ++ K2, V1 ++ [val] ++ V2) by rw [HR.out, hL7])
        have HOW := Lib.hid hga.own
        have HGE := Lib.hid (hga.kept.grown HGW3.out (fun i hi => .inl (by have := HWW.out; omega)))
        have HZq := Lib.hid (hga.kept.blk HZ2c.out (.inl HSW.out))
        obtain ⟨⟨x0, x1, x2⟩, _, _, _⟩ := hga.cells
        obtain ⟨z4, z5, z6⟩ := box3 HZq.out
        have f0 := HZq.out.frozen 0; have f1 := HZq.out.frozen 1; have f2 := HZq.out.frozen 2
        clear hga hL7 hL8 hk1 hv1 hM
        by_cases hs8 : 8 < L7
        · have hr : r = (15, nil) := by rw [HRL.out, if_pos hs8]
          subst hr
          clear r1 r2
          go_wp2_with fail
          refine ret_row2 rfl (w.heap.size + 1) 24 _ _ rfl (Blk.set3 HZq.out) Try.underlying24 rfl (by kernel_rfl) rfl ⟨?_, _, _, rfl, NdOwn.nil _ _⟩
          repeat (refine grown_set1 ?_ (by omega) _)
          exact HGE.out
        · have hr : r = (0, lf, K1 ++ [key] ++ K2, V1 ++ [val] ++ V2) := by rw [HRL.out, if_neg hs8]
          subst hr
          clear r1 r2
          go_wp2_with fail
          refine ret_row2 rfl (w.heap.size + 1) 24 _ _ rfl (Blk.set3 HZq.out) Try.underlying24 rfl (by kernel_rfl) rfl ⟨?_, _, _, rfl, ?_⟩
          · repeat (refine grown_set1 ?_ (by omega) _)
            exact HGE.out
          · exact own_far3 HOW.out HSW.out HWW.out _ _ _
end Go.Proofs.Ytlbadapcaooieaa.Node
