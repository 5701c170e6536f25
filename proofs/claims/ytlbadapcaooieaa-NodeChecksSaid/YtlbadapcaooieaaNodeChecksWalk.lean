/- The walk over the law NodeChecks: a node may be just where the document says. -/
import Derived.Test.YtlbadapcaooieaaNdLives
import Derived.Test.YtlbadapcaooieaaNdRefMay
namespace Go.Proofs.Ytlbadapcaooieaa.NodeChecks
open Go.ChangeShapes Go.WideShapes Go.ChangeAt Go.RowKit
open Crc CrcMath Mem Codec Go.Proofs.Ytlbadapcaooieaa.Node NdSpec
set_option linter.unusedVariables false
set_option linter.unusedSimpArgs false

set_option maxRecDepth 100000 in
set_option maxHeartbeats 6400000 in
theorem walk {H : Type} {enc : TypeId × Value → H} (W : World) (base : Nat) (v0 : Value) (d0 : DataW H) (p0 : List MemPlace)
    (o0 : Value.okWide Try.prog W .any base 24 v0)
    (h0 : DataW.Trod enc Try.prog W 0 (fun _ => true) true 24 v0 d0 p0)
    (hsz : (DataW.weightsEach Try.prog [24] [d0]).all (· ≤ reachBytes) = true) :
    Calls Try.prog 3 #[v0] W fun e W' => e = .returned (.bool true) ∧ Below W.heap.size W W' := by
  obtain ⟨lf, An, An', Ln, Ln', cn, cn', ks, vs, rfl, hatn⟩ := open_nd o0 h0
  clear o0 h0 hsz
  have HG := Lib.hid (World.grownBy.refl W none)
  have Nn := Lib.hid hatn
  clear hatn
  have hg := World.grownBy_alloc W (.cells #[.bool lf, .slice An Ln cn, .slice An' Ln' cn'] 24) none
  replace HG := Lib.hid (HG.out.trans hg)
  replace Nn := Lib.hid (Nn.out.keep hg)
  have Bn := Lib.hid (Blk.new (W) 24 #[.bool lf, .slice An Ln cn, .slice An' Ln' cn'])
  clear hg
  obtain ⟨m, hm⟩ : ∃ m, may lf ks vs = m := ⟨_, rfl⟩
  have HM := Lib.hid (fun (X : World) (hX : NdAt X An An' Ln Ln' cn cn' ks vs) => by have q := rmay_call lf hX; rw [hm] at q; exact q)
  have HC := Lib.hid (fun (X : World) (hX : NdAt X An An' Ln Ln' cn cn' ks vs) => by have q := check_call lf hX; rw [hm] at q; exact q)
  clear hm
  cases m
  all_goals
    go_enter Try.func3, Try.ntmps3
    go_wp2_with fail
    refine (HM.out _ Nn.out).mono ?_
    rintro e w1 ⟨rfl, hg⟩
    replace HG := Lib.hid (HG.out.trans hg)
    replace Bn := Lib.hid (Bn.out.grown hg (by simp))
    replace Nn := Lib.hid (Nn.out.keep hg)
    clear hg
    obtain ⟨Bn0, Bn1, Bn2⟩ := box3 Bn.out
    go_wp2_with fail
    refine (HC.out _ Nn.out).mono ?_
    rintro e w2 ⟨rfl, hg⟩
    clear Bn0 Bn1 Bn2
    replace HG := Lib.hid (HG.out.trans hg)
    replace Bn := Lib.hid (Bn.out.grown hg (by simp))
    replace Nn := Lib.hid (Nn.out.keep hg)
    clear hg
    first
      | (go_wp2_with fail
         refine (lives_call _).mono ?_
         rintro e w3 ⟨rfl, hg⟩
         replace HG := Lib.hid (HG.out.trans hg)
         clear hg
         go_wp2_with fail
         go_ret
         exact ⟨rfl, below_none HG.out⟩)
      | (obtain ⟨x0, x1, x2⟩ := box3 Bn.out
         go_wp2_with fail
         refine (HC.out _ Nn.out).mono ?_
         rintro e w3 ⟨rfl, hg⟩
         replace HG := Lib.hid (HG.out.trans hg)
         clear hg x0 x1 x2
         go_wp2_with fail
         refine (lives_call _).mono ?_
         rintro e w4 ⟨rfl, hg⟩
         replace HG := Lib.hid (HG.out.trans hg)
         clear hg
         go_wp2_with fail
         go_ret
         exact ⟨rfl, below_none HG.out⟩)
end Go.Proofs.Ytlbadapcaooieaa.NodeChecks
