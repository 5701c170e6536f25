/- The walk over the law NodeKeeps: what is put is found with its value, what is dropped is not any more. -/
import Derived.Test.YtlbadapcaooieaaNdLives
import Derived.Test.YtlbadapcaooieaaNdDrop
import Derived.Test.YtlbadapcaooieaaNdKeep
namespace Go.Proofs.Ytlbadapcaooieaa.NodeKeeps
open Go.ChangeShapes Go.WideShapes Go.ChangeAt Go.RowKit
open Crc CrcMath Mem Codec Go.Proofs.Ytlbadapcaooieaa.Node NdSpec
set_option linter.unusedVariables false
set_option linter.unusedSimpArgs false

theorem gcell1 {W w1 : World} (h : W.grownBy w1 none) (b o : Nat) (hb : b < W.heap.size) : w1.cell? ⟨b, o, none⟩ = W.cell? ⟨b, o, none⟩ := World.cell?_of_block (h.block b hb (by simp))
set_option maxRecDepth 100000 in
set_option maxHeartbeats 6400000 in
theorem walk {H : Type} {enc : TypeId × Value → H} (W : World) (base : Nat) (v0 v1 v2 : Value) (d0 d1 d2 : DataW H) (p0 p1 p2 : List MemPlace)
    (o0 : Value.okWide Try.prog W .any base 24 v0)
    (o1 : Value.okWide Try.prog W .any base 3 v1)
    (o2 : Value.okWide Try.prog W .any base 3 v2)
    (h0 : DataW.Trod enc Try.prog W 0 (fun _ => true) true 24 v0 d0 p0)
    (h1 : DataW.Trod enc Try.prog W 0 (fun _ => true) true 3 v1 d1 p1)
    (h2 : DataW.Trod enc Try.prog W 0 (fun _ => true) true 3 v2 d2 p2)
    (hsz : (DataW.weightsEach Try.prog [24, 3, 3] [d0, d1, d2]).all (· ≤ reachBytes) = true) :
    Calls Try.prog 7 #[v0, v1, v2] W fun e W' => e = .returned (.bool true) ∧ Below W.heap.size W W' := by
  obtain ⟨lf, An, An', Ln, Ln', cn, cn', ks, vs, rfl, hatn⟩ := open_nd o0 h0
  obtain ⟨key, rfl, hkey⟩ := open_int_at o1 h1
  obtain ⟨val, rfl, hval⟩ := open_int_at o2 h2
  clear o0 h0 o1 h1 o2 h2 hsz
  have HG := Lib.hid (World.grownBy.refl W none)
  have Nn := Lib.hid hatn
  clear hatn
  have hg := World.grownBy_alloc W (.cells #[.bool lf, .slice An Ln cn, .slice An' Ln' cn'] 24) none
  replace HG := Lib.hid (HG.out.trans hg)
  replace Nn := Lib.hid (Nn.out.keep hg)
  have Bn := Lib.hid (Blk.new (W) 24 #[.bool lf, .slice An Ln cn, .slice An' Ln' cn'])
  clear hg
  rcases keeps_put lf ks vs key val with ⟨ee, hr, hee⟩ | ⟨K, V, F, hr, hmay, hfi, hia, hFK, hVF, hall, ⟨hlf, hK1, hd⟩ | ⟨K2, V2, hd, hna, hK2, hmay2⟩⟩
  · have HP := Lib.hid (fun (X : World) (hX : NdAt X An An' Ln Ln' cn cn' ks vs) => by have q := put_call lf key val hX hkey hval; rw [hr] at q; exact q)
    have hd : ((ee : Int) != 0) = true := by simp; exact hee
    clear hr hee hkey hval
    go_enter Try.func7, Try.ntmps7
    go_wp2_with fail
    refine (HP.out _ Nn.out).mono ?_
    rintro e w1 hT
    obtain ⟨AN1, AN1', LN1, LN1', cN1, cN1', rfl, hg, hat⟩ := hT.open_
    replace HG := Lib.hid (HG.out.trans hg)
    replace Bn := Lib.hid (Bn.out.grown hg (by simp))
    replace Nn := Lib.hid (Nn.out.keep hg)
    have N1 := Lib.hid hat
    clear hg hat hT
    have hg := World.grownBy_alloc w1 (.cells #[.bool false, .slice AN1 LN1 cN1, .slice AN1' LN1' cN1'] 24) none
    replace HG := Lib.hid (HG.out.trans hg)
    replace Bn := Lib.hid (Bn.out.grown hg (by simp))
    replace Nn := Lib.hid (Nn.out.keep hg)
    replace N1 := Lib.hid (N1.out.keep hg)
    have B1 := Lib.hid (Blk.new w1 24 #[.bool false, .slice AN1 LN1 cN1, .slice AN1' LN1' cN1'])
    clear hg
    obtain rfl : LN1 = 0 := by have := N1.out.klen; simpa [NdSpec.nil] using this.symm
    obtain ⟨B10, B11, B12⟩ := box3 B1.out
    go_wp2_with fail
    refine (lives_call _).mono ?_
    rintro e w2 ⟨rfl, hg⟩
    clear B10 B11 B12
    replace HG := Lib.hid (HG.out.trans hg)
    replace Bn := Lib.hid (Bn.out.grown hg (by simp))
    replace B1 := Lib.hid (B1.out.grown hg (by simp))
    replace Nn := Lib.hid (Nn.out.keep hg)
    replace N1 := Lib.hid (N1.out.keep hg)
    clear hg
    go_wp2_with fail
    go_ret
    exact ⟨rfl, below_none HG.out⟩
  · as_aux_lemma =>
    subst hlf
    have HP := Lib.hid (fun (X : World) (hX : NdAt X An An' Ln Ln' cn cn' ks vs) => by have q := put_call false key val hX hkey hval; rw [hr] at q; exact q)
    have HF := Lib.hid (fun (X : World) (A A' : Option Addr) (n n' c c' : Nat) (hX : NdAt X A A' n n' c c' K V) => by have q := find_call false key hX; rw [hfi, hia] at q; exact q)
    have HC := Lib.hid (fun (X : World) (A A' : Option Addr) (n n' c c' : Nat) (hX : NdAt X A A' n n' c c' K V) => by have q := check_call false hX; rw [hmay] at q; exact q)
    have HD := Lib.hid (fun (X : World) (A A' : Option Addr) (n n' c c' : Nat) (hX : NdAt X A A' n n' c c' K V) => by have q := drop_call false (F : Nat) hX; rw [hd, show NdSpec.nil = ((false, [], []) : Nd) from rfl] at q; exact q)
    have HK1 := Lib.hid hK1
    have HFK := Lib.hid hFK; have HVF := Lib.hid hVF; have HALL := Lib.hid hall; have HVL := Lib.hid (may_len hmay).1; have HKL := Lib.hid Nn.out.klen
    have hvv : ((val : Int) != val) = false := by simp
    have HSM := Lib.hid Nn.out.small
    have hnn : Ln = ks.length := Nn.out.klen.symm
    have HVN := Lib.hid (show Ln' = Ln from by
      cases hm0 : may false ks vs
      · have e : putR false ks vs key val = (22, nil) := by unfold putR; rw [if_pos hm0]
        rw [hr] at e; cases e
      · rw [hnn, (may_len hm0).1]; exact Nn.out.vlen.symm)
    clear hr hmay hfi hia hFK hVF hall hd hkey hval hnn hK1
    have hsm1 := HSM.out.1
    go_enter Try.func7, Try.ntmps7
    go_wp2_with fail
    refine (HP.out _ Nn.out).mono ?_
    rintro e w1 hT
    obtain ⟨AN1, AN1', LN1, LN1', cN1, cN1', rfl, hg, hat⟩ := hT.open_
    replace HG := Lib.hid (HG.out.trans hg)
    replace Bn := Lib.hid (Bn.out.grown hg (by simp))
    replace Nn := Lib.hid (Nn.out.keep hg)
    have N1 := Lib.hid hat
    clear hg hat hT
    have hg := World.grownBy_alloc w1 (.cells #[.bool false, .slice AN1 LN1 cN1, .slice AN1' LN1' cN1'] 24) none
    replace HG := Lib.hid (HG.out.trans hg)
    replace Bn := Lib.hid (Bn.out.grown hg (by simp))
    replace Nn := Lib.hid (Nn.out.keep hg)
    replace N1 := Lib.hid (N1.out.keep hg)
    have B1 := Lib.hid (Blk.new w1 24 #[.bool false, .slice AN1 LN1 cN1, .slice AN1' LN1' cN1'])
    clear hg
    obtain ⟨B10, B11, B12⟩ := box3 B1.out
    go_wp2_with fail
    refine (HF.out _ _ _ _ _ _ _ N1.out).mono ?_
    rintro e w2 ⟨rfl, hg⟩
    clear B10 B11 B12
    replace HG := Lib.hid (HG.out.trans hg)
    replace Bn := Lib.hid (Bn.out.grown hg (by simp))
    replace B1 := Lib.hid (B1.out.grown hg (by simp))
    replace Nn := Lib.hid (Nn.out.keep hg)
    replace N1 := Lib.hid (N1.out.keep hg)
    clear hg
    obtain ⟨gv, ov, rfl, _, hcv⟩ := N1.out.vc (by have := N1.out.vlen; have := HVL.out; have := HFK.out; omega)
    have sF := hcv F (by have := N1.out.vlen; have := HVL.out; have := HFK.out; omega)
    rw [HVF.out] at sF
    clear hcv
    have hF0 : (0 : Int) ≤ F := by omega
    have hF1 : (F : Int) < LN1' := by have := N1.out.vlen; have := HVL.out; have := HFK.out; omega
    obtain ⟨B10, B11, B12⟩ := box3 B1.out
    go_wp2_with fail
    refine (HC.out _ _ _ _ _ _ _ N1.out).mono ?_
    rintro e w3 ⟨rfl, hg⟩
    clear B10 B11 B12
    replace HG := Lib.hid (HG.out.trans hg)
    replace Bn := Lib.hid (Bn.out.grown hg (by simp))
    replace B1 := Lib.hid (B1.out.grown hg (by simp))
    replace Nn := Lib.hid (Nn.out.keep hg)
    replace N1 := Lib.hid (N1.out.keep hg)
    clear hg
    clear sF
    obtain ⟨hX0, hX1, hX2⟩ := box3 Bn.out
    clear hX0
    go_wp2_with fail
    go_loopw [11] (fun i wr => ∃ j : Nat, j ≤ Ln ∧ i = .int .i64 j ∧ w3.grownBy wr none) (fun i _ => Ln - (intOf i).toNat)
    case atStart => exact ⟨0, by omega, rfl, World.grownBy.refl _ _⟩
    case round =>
      obtain ⟨j, hj, rfl, hgr⟩ := hrel
      clear hX1 hX2
      have HGr := Lib.hid hgr; have Br := Lib.hid (Bn.out.grown hgr (by simp)); have B1r := Lib.hid (B1.out.grown hgr (by simp)); have Nr := Lib.hid (Nn.out.keep hgr); have N1r := Lib.hid (N1.out.keep hgr)
      clear hgr
      by_cases hlt : j < Ln
      · obtain ⟨o1, o2, o3⟩ := HALL.out j (by rw [HKL.out]; exact hlt)
        obtain ⟨g, o, ee, hgl, hc⟩ := Nr.out.kc (by omega)
        obtain ⟨g', o', ee', hgl', hc'⟩ := Nr.out.vc (by have := HVN.out; omega)
        obtain ⟨g2, o2', ee2, hgl2, hc2⟩ := N1r.out.vc (by have := N1r.out.vlen; omega)
        cases ee2
        subst ee ee'
        have y1 := hc j hlt
        have y2 := hc' j (by have := HVN.out; omega)
        obtain ⟨P, hP⟩ : ∃ P, find K (ks.getD j 0) = P := ⟨_, rfl⟩
        rw [hP] at o2 o3
        have y3 := hc2 P (by have := N1r.out.vlen; omega)
        have HFX := Lib.hid (fun (X : World) (A A' : Option Addr) (n n' c c' : Nat) (hX : NdAt X A A' n n' c c' K V) => by have q := find_call false (ks.getD j 0) hX; rw [hP, o1] at q; exact q)
        have HP2 := Lib.hid (show P < LN1' by have := N1r.out.vlen; omega)
        clear hc hc' hc2 hP o1 o2
        generalize ks.getD j 0 = x at *
        generalize vs.getD j 0 = y at *
        generalize V.getD P 0 = z at *
        have j0 : (0 : Int) ≤ j := by omega
        have j1 : (j : Int) < Ln := by omega
        have j2 : (j : Int) < Ln' := by have := HVN.out; omega
        have P0 : (0 : Int) ≤ P := by omega
        have P1 : (P : Int) < LN1' := by have := HP2.out; omega
        obtain ⟨b0, b1, b2⟩ := box3 Br.out
        have HY := Lib.hid (And.intro y1 (And.intro y2 y3))
        have HGL := Lib.hid (And.intro hgl (And.intro hgl' hgl2))
        clear hgl hgl' hgl2 y2 y3 b0 b2
        go_wp2_with fail
        have HS := Lib.hid (fun (X : World) (hX : wr.grownBy X none) => (show (X.cell? ⟨w1.heap.size, 0, none⟩ = some (.bool false) ∧ X.cell? ⟨w1.heap.size, 1, none⟩ = some (.slice AN1 LN1 cN1) ∧ X.cell? ⟨w1.heap.size, 2, none⟩ = some (.slice (some ⟨gv, ov, none⟩) LN1' cN1')) ∧ X.cell? ⟨W.heap.size, 1, none⟩ = some (.slice (some ⟨g, o, none⟩) Ln cn) ∧ X.cell? ⟨g, o + j, none⟩ = some (.int .i64 x) from
          ⟨box3 (B1r.out.grown hX (by simp)), (box3 (Br.out.grown hX (by simp))).2.1, by rw [(gcell1 hX _ _ HGL.out.1)]; exact HY.out.1⟩))
        go_cut [11, 12, 13] (fun s11 s12 s13 wx => s11 = .int .i64 j ∧ s12 = .int .i64 P ∧ s13 = .bool true ∧ wr.grownBy wx none)
        case first =>
          clear y1 b1
          go_region_held3 (fun X => (X.cell? ⟨w1.heap.size, 0, none⟩ = some (.bool false) ∧ X.cell? ⟨w1.heap.size, 1, none⟩ = some (.slice AN1 LN1 cN1) ∧ X.cell? ⟨w1.heap.size, 2, none⟩ = some (.slice (some ⟨gv, ov, none⟩) LN1' cN1')) ∧ X.cell? ⟨W.heap.size, 1, none⟩ = some (.slice (some ⟨g, o, none⟩) Ln cn) ∧ X.cell? ⟨g, o + j, none⟩ = some (.int .i64 x))
            (first
              | with_reducible exact HS.out _ (grown_drew _ none)
              | with_reducible exact HS.out _ G5.out)
            (first
              | (go_at_call 14
                 with_reducible refine (HFX.out _ _ _ _ _ _ _ (N1r.out.keep (grown_drew _ none))).mono ?_
                 rintro e w5 ⟨rfl, hg⟩
                 have G5 := Lib.hid ((grown_drew _ none).trans hg)
                 clear hg))
          go_wp2_with fail
          go_meet
          exact ⟨rfl, rfl, rfl, G5.out⟩
        case rest =>
          obtain ⟨rfl, rfl, rfl, hgx⟩ := hcut
          have c1 := (box3 (Br.out.grown hgx (by simp))).2.1
          have c2 := (box3 (Br.out.grown hgx (by simp))).2.2
          have c3 := (box3 (B1r.out.grown hgx (by simp))).2.2
          have u1 := HY.out.1; have u2 := HY.out.2.1; have u3 := HY.out.2.2
          rw [← gcell1 hgx _ _ HGL.out.1] at u1
          rw [← gcell1 hgx _ _ HGL.out.2.1] at u2
          rw [← gcell1 hgx _ _ HGL.out.2.2] at u3
          have HGX := Lib.hid (HGr.out.trans hgx)
          clear hgx y1 b1 HY HS
          by_cases hxk : x = key
          · have dx : ((x : Int) != key) = false := by simp; exact hxk
            clear hxk o3
            go_wp2_with fail
            go_region
            go_wp2_with fail
            go_roundw
            case rel => exact ⟨j + 1, by omega, by go_num, HGX.out.trans (grown_drew _ none)⟩
            case measure => simp [intOf]; omega
          · have dx : ((x : Int) != key) = true := by simp; exact hxk
            have dz : ((z : Int) != y) = false := by simp; exact o3 hxk
            clear hxk o3
            go_wp2_with fail
            go_region
            go_wp2_with fail
            go_roundw
            case rel => exact ⟨j + 1, by omega, by go_num, HGX.out.trans (grown_drew _ none)⟩
            case measure => simp [intOf]; omega
      · have hjn : ¬ ((j : Int) < Ln) := by omega
        replace HG := Lib.hid (HG.out.trans HGr.out)
        obtain ⟨b0, b1, b2⟩ := box3 Br.out
        obtain ⟨a0, a1, a2⟩ := box3 B1r.out
        go_wp2_with fail
        refine (HD.out _ _ _ _ _ _ _ N1r.out).mono ?_
        rintro e w6 hT
        clear b0 b1 b2 a0 a1 a2
        obtain ⟨AN6, AN6', LN6, LN6', cN6, cN6', rfl, hg, hat⟩ := hT.open_
        replace HG := Lib.hid (HG.out.trans hg)
        replace Br := Lib.hid (Br.out.grown hg (by simp))
        replace B1r := Lib.hid (B1r.out.grown hg (by simp))
        replace Nr := Lib.hid (Nr.out.keep hg)
        replace N1r := Lib.hid (N1r.out.keep hg)
        have N6 := Lib.hid hat
        clear hg hat hT
        have hg := World.grownBy_alloc w6 (.cells #[.bool false, .slice AN6 LN6 cN6, .slice AN6' LN6' cN6'] 24) none
        replace HG := Lib.hid (HG.out.trans hg)
        replace Br := Lib.hid (Br.out.grown hg (by simp))
        replace B1r := Lib.hid (B1r.out.grown hg (by simp))
        replace Nr := Lib.hid (Nr.out.keep hg)
        replace N1r := Lib.hid (N1r.out.keep hg)
        replace N6 := Lib.hid (N6.out.keep hg)
        have B6 := Lib.hid (Blk.new w6 24 #[.bool false, .slice AN6 LN6 cN6, .slice AN6' LN6' cN6'])
        clear hg
        have hL1 : LN1 = 1 := by have := N1r.out.klen; have := HK1.out; omega
        subst hL1
        obtain ⟨Br0, Br1, Br2⟩ := box3 Br.out
        obtain ⟨B1r0, B1r1, B1r2⟩ := box3 B1r.out
        go_wp2_with fail
        refine (lives_call _).mono ?_
        rintro e w7 ⟨rfl, hg⟩
        clear Br0 Br1 Br2 B1r0 B1r1 B1r2
        replace HG := Lib.hid (HG.out.trans hg)
        replace Br := Lib.hid (Br.out.grown hg (by simp))
        replace B1r := Lib.hid (B1r.out.grown hg (by simp))
        replace B6 := Lib.hid (B6.out.grown hg (by simp))
        replace Nr := Lib.hid (Nr.out.keep hg)
        replace N1r := Lib.hid (N1r.out.keep hg)
        replace N6 := Lib.hid (N6.out.keep hg)
        clear hg
        go_wp2_with fail
        go_ret
        exact ⟨rfl, below_none HG.out⟩
  · as_aux_lemma =>
    have HP := Lib.hid (fun (X : World) (hX : NdAt X An An' Ln Ln' cn cn' ks vs) => by have q := put_call lf key val hX hkey hval; rw [hr] at q; exact q)
    have HF := Lib.hid (fun (X : World) (A A' : Option Addr) (n n' c c' : Nat) (hX : NdAt X A A' n n' c c' K V) => by have q := find_call lf key hX; rw [hfi, hia] at q; exact q)
    have HC := Lib.hid (fun (X : World) (A A' : Option Addr) (n n' c c' : Nat) (hX : NdAt X A A' n n' c c' K V) => by have q := check_call lf hX; rw [hmay] at q; exact q)
    have HD := Lib.hid (fun (X : World) (A A' : Option Addr) (n n' c c' : Nat) (hX : NdAt X A A' n n' c c' K V) => by have q := drop_call lf (F : Nat) hX; rw [hd] at q; exact q)
    obtain ⟨F2, hF2⟩ : ∃ f, find K2 key = f := ⟨_, rfl⟩
    have HF2 := Lib.hid (fun (X : World) (A A' : Option Addr) (n n' c c' : Nat) (hX : NdAt X A A' n n' c c' K2 V2) => by have q := find_call lf key hX; rw [hF2, hna] at q; exact q)
    have HC2 := Lib.hid (fun (X : World) (A A' : Option Addr) (n n' c c' : Nat) (hX : NdAt X A A' n n' c c' K2 V2) => by have q := check_call lf hX; rw [hmay2] at q; exact q)
    have HK2 := Lib.hid hK2
    have hm8 := (may_len hmay).2.1
    have HM8 := Lib.hid hm8
    have HFK := Lib.hid hFK; have HVF := Lib.hid hVF; have HALL := Lib.hid hall; have HVL := Lib.hid (may_len hmay).1; have HKL := Lib.hid Nn.out.klen
    have hvv : ((val : Int) != val) = false := by simp
    have HSM := Lib.hid Nn.out.small
    have hnn : Ln = ks.length := Nn.out.klen.symm
    have HVN := Lib.hid (show Ln' = Ln from by
      cases hm0 : may lf ks vs
      · have e : putR lf ks vs key val = (22, nil) := by unfold putR; rw [if_pos hm0]
        rw [hr] at e; cases e
      · rw [hnn, (may_len hm0).1]; exact Nn.out.vlen.symm)
    clear hr hmay hfi hia hFK hVF hall hd hkey hval hnn hna hK2 hmay2 hF2 hm8
    have hsm1 := HSM.out.1
    go_enter Try.func7, Try.ntmps7
    go_wp2_with fail
    refine (HP.out _ Nn.out).mono ?_
    rintro e w1 hT
    obtain ⟨AN1, AN1', LN1, LN1', cN1, cN1', rfl, hg, hat⟩ := hT.open_
    replace HG := Lib.hid (HG.out.trans hg)
    replace Bn := Lib.hid (Bn.out.grown hg (by simp))
    replace Nn := Lib.hid (Nn.out.keep hg)
    have N1 := Lib.hid hat
    clear hg hat hT
    have hg := World.grownBy_alloc w1 (.cells #[.bool lf, .slice AN1 LN1 cN1, .slice AN1' LN1' cN1'] 24) none
    replace HG := Lib.hid (HG.out.trans hg)
    replace Bn := Lib.hid (Bn.out.grown hg (by simp))
    replace Nn := Lib.hid (Nn.out.keep hg)
    replace N1 := Lib.hid (N1.out.keep hg)
    have B1 := Lib.hid (Blk.new w1 24 #[.bool lf, .slice AN1 LN1 cN1, .slice AN1' LN1' cN1'])
    clear hg
    obtain ⟨B10, B11, B12⟩ := box3 B1.out
    go_wp2_with fail
    refine (HF.out _ _ _ _ _ _ _ N1.out).mono ?_
    rintro e w2 ⟨rfl, hg⟩
    clear B10 B11 B12
    replace HG := Lib.hid (HG.out.trans hg)
    replace Bn := Lib.hid (Bn.out.grown hg (by simp))
    replace B1 := Lib.hid (B1.out.grown hg (by simp))
    replace Nn := Lib.hid (Nn.out.keep hg)
    replace N1 := Lib.hid (N1.out.keep hg)
    clear hg
    obtain ⟨gv, ov, rfl, _, hcv⟩ := N1.out.vc (by have := N1.out.vlen; have := HVL.out; have := HFK.out; omega)
    have sF := hcv F (by have := N1.out.vlen; have := HVL.out; have := HFK.out; omega)
    rw [HVF.out] at sF
    clear hcv
    have hF0 : (0 : Int) ≤ F := by omega
    have hF1 : (F : Int) < LN1' := by have := N1.out.vlen; have := HVL.out; have := HFK.out; omega
    obtain ⟨B10, B11, B12⟩ := box3 B1.out
    go_wp2_with fail
    refine (HC.out _ _ _ _ _ _ _ N1.out).mono ?_
    rintro e w3 ⟨rfl, hg⟩
    clear B10 B11 B12
    replace HG := Lib.hid (HG.out.trans hg)
    replace Bn := Lib.hid (Bn.out.grown hg (by simp))
    replace B1 := Lib.hid (B1.out.grown hg (by simp))
    replace Nn := Lib.hid (Nn.out.keep hg)
    replace N1 := Lib.hid (N1.out.keep hg)
    clear hg
    clear sF
    obtain ⟨hX0, hX1, hX2⟩ := box3 Bn.out
    clear hX0
    go_wp2_with fail
    go_loopw [11] (fun i wr => ∃ j : Nat, j ≤ Ln ∧ i = .int .i64 j ∧ w3.grownBy wr none) (fun i _ => Ln - (intOf i).toNat)
    case atStart => exact ⟨0, by omega, rfl, World.grownBy.refl _ _⟩
    case round =>
      obtain ⟨j, hj, rfl, hgr⟩ := hrel
      clear hX1 hX2
      have HGr := Lib.hid hgr; have Br := Lib.hid (Bn.out.grown hgr (by simp)); have B1r := Lib.hid (B1.out.grown hgr (by simp)); have Nr := Lib.hid (Nn.out.keep hgr); have N1r := Lib.hid (N1.out.keep hgr)
      clear hgr
      by_cases hlt : j < Ln
      · obtain ⟨o1, o2, o3⟩ := HALL.out j (by rw [HKL.out]; exact hlt)
        obtain ⟨g, o, ee, hgl, hc⟩ := Nr.out.kc (by omega)
        obtain ⟨g', o', ee', hgl', hc'⟩ := Nr.out.vc (by have := HVN.out; omega)
        obtain ⟨g2, o2', ee2, hgl2, hc2⟩ := N1r.out.vc (by have := N1r.out.vlen; omega)
        cases ee2
        subst ee ee'
        have y1 := hc j hlt
        have y2 := hc' j (by have := HVN.out; omega)
        obtain ⟨P, hP⟩ : ∃ P, find K (ks.getD j 0) = P := ⟨_, rfl⟩
        rw [hP] at o2 o3
        have y3 := hc2 P (by have := N1r.out.vlen; omega)
        have HFX := Lib.hid (fun (X : World) (A A' : Option Addr) (n n' c c' : Nat) (hX : NdAt X A A' n n' c c' K V) => by have q := find_call lf (ks.getD j 0) hX; rw [hP, o1] at q; exact q)
        have HP2 := Lib.hid (show P < LN1' by have := N1r.out.vlen; omega)
        clear hc hc' hc2 hP o1 o2
        generalize ks.getD j 0 = x at *
        generalize vs.getD j 0 = y at *
        generalize V.getD P 0 = z at *
        have j0 : (0 : Int) ≤ j := by omega
        have j1 : (j : Int) < Ln := by omega
        have j2 : (j : Int) < Ln' := by have := HVN.out; omega
        have P0 : (0 : Int) ≤ P := by omega
        have P1 : (P : Int) < LN1' := by have := HP2.out; omega
        obtain ⟨b0, b1, b2⟩ := box3 Br.out
        have HY := Lib.hid (And.intro y1 (And.intro y2 y3))
        have HGL := Lib.hid (And.intro hgl (And.intro hgl' hgl2))
        clear hgl hgl' hgl2 y2 y3 b0 b2
        go_wp2_with fail
        have HS := Lib.hid (fun (X : World) (hX : wr.grownBy X none) => (show (X.cell? ⟨w1.heap.size, 0, none⟩ = some (.bool lf) ∧ X.cell? ⟨w1.heap.size, 1, none⟩ = some (.slice AN1 LN1 cN1) ∧ X.cell? ⟨w1.heap.size, 2, none⟩ = some (.slice (some ⟨gv, ov, none⟩) LN1' cN1')) ∧ X.cell? ⟨W.heap.size, 1, none⟩ = some (.slice (some ⟨g, o, none⟩) Ln cn) ∧ X.cell? ⟨g, o + j, none⟩ = some (.int .i64 x) from
          ⟨box3 (B1r.out.grown hX (by simp)), (box3 (Br.out.grown hX (by simp))).2.1, by rw [(gcell1 hX _ _ HGL.out.1)]; exact HY.out.1⟩))
        go_cut [11, 12, 13] (fun s11 s12 s13 wx => s11 = .int .i64 j ∧ s12 = .int .i64 P ∧ s13 = .bool true ∧ wr.grownBy wx none)
        case first =>
          clear y1 b1
          go_region_held3 (fun X => (X.cell? ⟨w1.heap.size, 0, none⟩ = some (.bool lf) ∧ X.cell? ⟨w1.heap.size, 1, none⟩ = some (.slice AN1 LN1 cN1) ∧ X.cell? ⟨w1.heap.size, 2, none⟩ = some (.slice (some ⟨gv, ov, none⟩) LN1' cN1')) ∧ X.cell? ⟨W.heap.size, 1, none⟩ = some (.slice (some ⟨g, o, none⟩) Ln cn) ∧ X.cell? ⟨g, o + j, none⟩ = some (.int .i64 x))
            (first
              | with_reducible exact HS.out _ (grown_drew _ none)
              | with_reducible exact HS.out _ G5.out)
            (first
              | (go_at_call 14
                 with_reducible refine (HFX.out _ _ _ _ _ _ _ (N1r.out.keep (grown_drew _ none))).mono ?_
                 rintro e w5 ⟨rfl, hg⟩
                 have G5 := Lib.hid ((grown_drew _ none).trans hg)
                 clear hg))
          go_wp2_with fail
          go_meet
          exact ⟨rfl, rfl, rfl, G5.out⟩
        case rest =>
          obtain ⟨rfl, rfl, rfl, hgx⟩ := hcut
          have c1 := (box3 (Br.out.grown hgx (by simp))).2.1
          have c2 := (box3 (Br.out.grown hgx (by simp))).2.2
          have c3 := (box3 (B1r.out.grown hgx (by simp))).2.2
          have u1 := HY.out.1; have u2 := HY.out.2.1; have u3 := HY.out.2.2
          rw [← gcell1 hgx _ _ HGL.out.1] at u1
          rw [← gcell1 hgx _ _ HGL.out.2.1] at u2
          rw [← gcell1 hgx _ _ HGL.out.2.2] at u3
          have HGX := Lib.hid (HGr.out.trans hgx)
          clear hgx y1 b1 HY HS
          by_cases hxk : x = key
          · have dx : ((x : Int) != key) = false := by simp; exact hxk
            clear hxk o3
            go_wp2_with fail
            go_region
            go_wp2_with fail
            go_roundw
            case rel => exact ⟨j + 1, by omega, by go_num, HGX.out.trans (grown_drew _ none)⟩
            case measure => simp [intOf]; omega
          · have dx : ((x : Int) != key) = true := by simp; exact hxk
            have dz : ((z : Int) != y) = false := by simp; exact o3 hxk
            clear hxk o3
            go_wp2_with fail
            go_region
            go_wp2_with fail
            go_roundw
            case rel => exact ⟨j + 1, by omega, by go_num, HGX.out.trans (grown_drew _ none)⟩
            case measure => simp [intOf]; omega
      · have hjn : ¬ ((j : Int) < Ln) := by omega
        replace HG := Lib.hid (HG.out.trans HGr.out)
        obtain ⟨b0, b1, b2⟩ := box3 Br.out
        obtain ⟨a0, a1, a2⟩ := box3 B1r.out
        go_wp2_with fail
        refine (HD.out _ _ _ _ _ _ _ N1r.out).mono ?_
        rintro e w6 hT
        clear b0 b1 b2 a0 a1 a2
        obtain ⟨AN6, AN6', LN6, LN6', cN6, cN6', rfl, hg, hat⟩ := hT.open_
        replace HG := Lib.hid (HG.out.trans hg)
        replace Br := Lib.hid (Br.out.grown hg (by simp))
        replace B1r := Lib.hid (B1r.out.grown hg (by simp))
        replace Nr := Lib.hid (Nr.out.keep hg)
        replace N1r := Lib.hid (N1r.out.keep hg)
        have N6 := Lib.hid hat
        clear hg hat hT
        have hg := World.grownBy_alloc w6 (.cells #[.bool lf, .slice AN6 LN6 cN6, .slice AN6' LN6' cN6'] 24) none
        replace HG := Lib.hid (HG.out.trans hg)
        replace Br := Lib.hid (Br.out.grown hg (by simp))
        replace B1r := Lib.hid (B1r.out.grown hg (by simp))
        replace Nr := Lib.hid (Nr.out.keep hg)
        replace N1r := Lib.hid (N1r.out.keep hg)
        replace N6 := Lib.hid (N6.out.keep hg)
        have B6 := Lib.hid (Blk.new w6 24 #[.bool lf, .slice AN6 LN6 cN6, .slice AN6' LN6' cN6'])
        clear hg
        have hw : IntKind.i64.wrap ((LN1 : Int) - 1) = ((LN6 : Nat) : Int) := by
          have e1 := N1r.out.klen; have e2 := N6.out.klen; have e3 := HK2.out; have e4 := HM8.out
          rw [show (LN1 : Int) - 1 = ((LN6 : Nat) : Int) from by simp only at e2; omega]; exact IntWalk.i64_in _ (by simp only at e2; omega)
        have hLL : ((LN6 : Int) == (LN6 : Int)) = true := by simp
        obtain ⟨B60, B61, B62⟩ := box3 B6.out
        go_wp2_with fail
        refine (HF2.out _ _ _ _ _ _ _ N6.out).mono ?_
        rintro e w7 ⟨rfl, hg⟩
        clear B60 B61 B62
        replace HG := Lib.hid (HG.out.trans hg)
        replace Br := Lib.hid (Br.out.grown hg (by simp))
        replace B1r := Lib.hid (B1r.out.grown hg (by simp))
        replace B6 := Lib.hid (B6.out.grown hg (by simp))
        replace Nr := Lib.hid (Nr.out.keep hg)
        replace N1r := Lib.hid (N1r.out.keep hg)
        replace N6 := Lib.hid (N6.out.keep hg)
        clear hg
        obtain ⟨B60, B61, B62⟩ := box3 B6.out
        obtain ⟨B1r0, B1r1, B1r2⟩ := box3 B1r.out
        go_wp2_with fail
        refine (HC2.out _ _ _ _ _ _ _ N6.out).mono ?_
        rintro e w8 ⟨rfl, hg⟩
        clear B60 B61 B62 B1r0 B1r1 B1r2
        replace HG := Lib.hid (HG.out.trans hg)
        replace Br := Lib.hid (Br.out.grown hg (by simp))
        replace B1r := Lib.hid (B1r.out.grown hg (by simp))
        replace B6 := Lib.hid (B6.out.grown hg (by simp))
        replace Nr := Lib.hid (Nr.out.keep hg)
        replace N1r := Lib.hid (N1r.out.keep hg)
        replace N6 := Lib.hid (N6.out.keep hg)
        clear hg
        go_wp2_with fail
        refine (lives_call _).mono ?_
        rintro e w9 ⟨rfl, hg⟩
        replace HG := Lib.hid (HG.out.trans hg)
        replace Br := Lib.hid (Br.out.grown hg (by simp))
        replace B1r := Lib.hid (B1r.out.grown hg (by simp))
        replace B6 := Lib.hid (B6.out.grown hg (by simp))
        replace Nr := Lib.hid (Nr.out.keep hg)
        replace N1r := Lib.hid (N1r.out.keep hg)
        replace N6 := Lib.hid (N6.out.keep hg)
        clear hg
        go_wp2_with fail
        go_ret
        exact ⟨rfl, below_none HG.out⟩
end Go.Proofs.Ytlbadapcaooieaa.NodeKeeps
