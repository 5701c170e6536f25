/- The walk over the law NodeChild: each key is below just one child. -/
import Derived.Test.YtlbadapcaooieaaNdLives
import Derived.Test.YtlbadapcaooieaaNdBits
namespace Go.Proofs.Ytlbadapcaooieaa.NodeChild
open Go.ChangeShapes Go.WideShapes Go.ChangeAt Go.RowKit
open Crc CrcMath Mem Codec Go.Proofs.Ytlbadapcaooieaa.Node NdSpec
set_option linter.unusedVariables false
set_option linter.unusedSimpArgs false

set_option maxRecDepth 100000 in
set_option maxHeartbeats 6400000 in
theorem walk {H : Type} {enc : TypeId × Value → H} (W : World) (base : Nat) (v0 v1 : Value) (d0 d1 : DataW H) (p0 p1 : List MemPlace)
    (o0 : Value.okWide Try.prog W .any base 24 v0)
    (o1 : Value.okWide Try.prog W .any base 3 v1)
    (h0 : DataW.Trod enc Try.prog W 0 (fun _ => true) true 24 v0 d0 p0)
    (h1 : DataW.Trod enc Try.prog W 0 (fun _ => true) true 3 v1 d1 p1)
    (hsz : (DataW.weightsEach Try.prog [24, 3] [d0, d1]).all (· ≤ reachBytes) = true) :
    Calls Try.prog 10 #[v0, v1] W fun e W' => e = .returned (.bool true) ∧ Below W.heap.size W W' := by
  obtain ⟨lf, An, An', Ln, Ln', cn, cn', ks, vs, rfl, hatn⟩ := open_nd o0 h0
  obtain ⟨key, rfl, hkey⟩ := open_int_at o1 h1
  clear o0 h0 o1 h1 hsz
  have HG := Lib.hid (World.grownBy.refl W none)
  have Nn := Lib.hid hatn
  clear hatn
  have hg := World.grownBy_alloc W (.cells #[.bool lf, .slice An Ln cn, .slice An' Ln' cn'] 24) none
  replace HG := Lib.hid (HG.out.trans hg)
  replace Nn := Lib.hid (Nn.out.keep hg)
  have Bn := Lib.hid (Blk.new (W) 24 #[.bool lf, .slice An Ln cn, .slice An' Ln' cn'])
  clear hg
  obtain ⟨m, hm⟩ : ∃ m, may lf ks vs = m := ⟨_, rfl⟩
  obtain ⟨F, hF⟩ : ∃ F, find ks key = F := ⟨_, rfl⟩
  obtain ⟨I, hI⟩ : ∃ I, isAt ks key = I := ⟨_, rfl⟩
  obtain ⟨C, hC⟩ : ∃ C, upTo ks key - 1 = C := ⟨_, rfl⟩
  have HM := Lib.hid (fun (X : World) (hX : NdAt X An An' Ln Ln' cn cn' ks vs) => by have q := rmay_call lf hX; rw [hm] at q; exact q)
  have HF := Lib.hid (fun (X : World) (hX : NdAt X An An' Ln Ln' cn cn' ks vs) => by have q := find_call lf key hX; rw [hF, hI] at q; exact q)
  have HC := Lib.hid (fun (X : World) (hX : NdAt X An An' Ln Ln' cn cn' ks vs) => by have q := child_call lf key hX; rw [hC] at q; exact q)
  have hkl := Nn.out.klen
  by_cases hbad : m = false ∨ Ln = 0
  · have hb : m = false ∨ (m = true ∧ Ln = 0) := by cases m <;> simp_all
    clear hm hF hI hC hkey hkl hbad
    rcases hb with rfl | ⟨rfl, hn0⟩
    · go_enter Try.func10, Try.ntmps10
      go_wp2_with fail
      refine (HM.out _ Nn.out).mono ?_
      rintro e w1 ⟨rfl, hg⟩
      replace HG := Lib.hid (HG.out.trans hg)
      clear hg
      go_wp2_with fail
      refine (lives_call _).mono ?_
      rintro e w2 ⟨rfl, hg⟩
      replace HG := Lib.hid (HG.out.trans hg)
      clear hg
      go_wp2_with fail
      go_ret
      exact ⟨rfl, below_none HG.out⟩
    · have hd : ((Ln : Int) == 0) = true := by rw [hn0]; rfl
      clear hn0
      go_enter Try.func10, Try.ntmps10
      go_wp2_with fail
      refine (HM.out _ Nn.out).mono ?_
      rintro e w1 ⟨rfl, hg⟩
      replace HG := Lib.hid (HG.out.trans hg); replace Bn := Lib.hid (Bn.out.grown hg (by simp))
      clear hg
      obtain ⟨x0, x1, x2⟩ := box3 Bn.out
      go_wp2_with fail
      refine (lives_call _).mono ?_
      rintro e w2 ⟨rfl, hg⟩
      replace HG := Lib.hid (HG.out.trans hg)
      clear hg x0 x1 x2
      go_wp2_with fail
      go_ret
      exact ⟨rfl, below_none HG.out⟩
  · obtain rfl : m = true := by cases m <;> simp_all
    have hn0 : ¬ Ln = 0 := fun e => hbad (.inr e)
    have hn8 : Ln ≤ 8 := by have := (may_len hm).2.1; omega
    have hCn : C < Ln := by rw [← hC, ← hkl]; exact upTo_lt_of (by omega)
    have HOK := Lib.hid (fun i hi => child_ok hm key i hi)
    have HCF := Lib.hid (fun hi => child_find hm key hi)
    rw [hF, hC, hI] at HCF
    rw [hC] at HOK
    have HKL := Lib.hid hkl
    have hd : ((Ln : Int) == 0) = false := by simp; omega
    have hC0 : decide ((C : Int) < 0) = false := by simp
    have hCd : decide ((Ln : Int) ≤ C) = false := by simp; omega
    have hCd' : decide (Ln ≤ C) = false := by simp; omega
    have HCN := Lib.hid hCn
    clear hm hF hI hC hkey hkl hbad hn0 hCn
    go_enter Try.func10, Try.ntmps10
    go_wp2_with fail
    refine (HM.out _ Nn.out).mono ?_
    rintro e w1 ⟨rfl, hg⟩
    replace HG := Lib.hid (HG.out.trans hg); replace Bn := Lib.hid (Bn.out.grown hg (by simp)); replace Nn := Lib.hid (Nn.out.keep hg)
    clear hg
    obtain ⟨x0, x1, x2⟩ := box3 Bn.out
    go_wp2_with fail
    refine (HC.out _ Nn.out).mono ?_
    rintro e w2 ⟨rfl, hg⟩
    replace HG := Lib.hid (HG.out.trans hg); replace Bn := Lib.hid (Bn.out.grown hg (by simp)); replace Nn := Lib.hid (Nn.out.keep hg)
    clear hg x0 x1 x2
    obtain ⟨x0, x1, x2⟩ := box3 Bn.out
    go_wp2_with fail
    go_loopw [7] (fun i wr => ∃ j : Nat, j ≤ Ln ∧ i = .int .i64 j ∧ wr = w2) (fun i _ => Ln - (intOf i).toNat)
    case atStart => exact ⟨0, by omega, rfl, rfl⟩
    case round =>
      obtain ⟨j, hj, rfl, rfl⟩ := hrel
      by_cases hlt : j < Ln
      · obtain ⟨g, o, rfl, _, hc⟩ := Nn.out.kc (by omega)
        have y1 := hc j hlt
        obtain ⟨o1, o2⟩ := HOK.out j (by rw [HKL.out]; exact hlt)
        have j0 : (0 : Int) ≤ j := by omega
        have j1 : (j : Int) < Ln := by omega
        clear hc
        generalize ks.getD j 0 = x at *
        by_cases hjC : j ≤ C
        · by_cases hj0 : j = 0
          · have d1 : decide (j ≤ C) = true := by simp; omega
            have d2 : decide (0 < j) = false := by simp; omega
            have d3 : decide (C < j) = false := by simp; omega
            clear o1 o2 hjC hj0
            go_wp2_with fail
            go_roundw
            case rel => exact ⟨j + 1, by omega, by go_num, trivial⟩
            case measure => simp [intOf]; omega
          · have hxk := o1 hjC (by omega)
            have d1 : decide (j ≤ C) = true := by simp; omega
            have d2 : decide (0 < j) = true := by simp; omega
            have d3 : decide (C < j) = false := by simp; omega
            have d4 : decide (key < x) = false := by simp; omega
            clear o1 o2 hjC hj0 hxk
            go_wp2_with fail
            go_roundw
            case rel => exact ⟨j + 1, by omega, by go_num, trivial⟩
            case measure => simp [intOf]; omega
        · have hxk := o2 (by omega)
          have d1 : decide (j ≤ C) = false := by simp; omega
          have d3 : decide (C < j) = true := by simp; omega
          have d4 : decide (x ≤ key) = false := by simp; omega
          clear o1 o2 hjC hxk
          go_wp2_with fail
          go_roundw
          case rel => exact ⟨j + 1, by omega, by go_num, trivial⟩
          case measure => simp [intOf]; omega
      · have hjn : ¬ ((j : Int) < Ln) := by omega
        go_wp2_with fail
        refine (HF.out _ Nn.out).mono ?_
        rintro e w3 ⟨rfl, hg⟩
        replace HG := Lib.hid (HG.out.trans hg)
        clear hg x0 x1 x2
        cases I
        · go_wp2_with fail
          refine (lives_call _).mono ?_
          rintro e w4 ⟨rfl, hg⟩
          replace HG := Lib.hid (HG.out.trans hg)
          clear hg
          go_wp2_with fail
          go_ret
          exact ⟨rfl, below_none HG.out⟩
        · have hFC : ((F : Int) == (C : Int)) = true := by rw [HCF.out rfl]; simp
          go_wp2_with fail
          refine (lives_call _).mono ?_
          rintro e w4 ⟨rfl, hg⟩
          replace HG := Lib.hid (HG.out.trans hg)
          clear hg
          go_wp2_with fail
          go_ret
          exact ⟨rfl, below_none HG.out⟩
end Go.Proofs.Ytlbadapcaooieaa.NodeChild
