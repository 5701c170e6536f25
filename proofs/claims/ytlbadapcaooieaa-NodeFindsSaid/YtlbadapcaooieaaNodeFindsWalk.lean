/- The walk over the law NodeFinds: keys and children are found as the document says, in any node. -/
import Derived.Test.YtlbadapcaooieaaNdLives
namespace Go.Proofs.Ytlbadapcaooieaa.NodeFinds
open Go.ChangeShapes Go.WideShapes Go.ChangeAt Go.RowKit
open Crc CrcMath Mem Codec Go.Proofs.Ytlbadapcaooieaa.Node NdSpec
set_option linter.unusedVariables false
set_option linter.unusedSimpArgs false

set_option maxRecDepth 100000 in
set_option maxHeartbeats 6400000 in
theorem walk {H : Type} {enc : TypeId × Value → H} (W : World) (base : Nat) (v0 v1 : Value) (d0 d1 : DataW H) (p0 p1 : List MemPlace)
    (o0 : Value.okWide Try.prog W .any base 24 v0)
    (o1 : Value.okWide Try.prog W .any base 3 v1)
    (h0 : DataW.Trod enc Try.prog W 0 (fun _ => true) true 24 v0 d0 p0)
    (h1 : DataW.Trod enc Try.prog W 0 (fun _ => true) true 3 v1 d1 p1)
    (hsz : (DataW.weightsEach Try.prog [24, 3] [d0, d1]).all (· ≤ reachBytes) = true) :
    Calls Try.prog 4 #[v0, v1] W fun e W' => e = .returned (.bool true) ∧ Below W.heap.size W W' := by
  obtain ⟨lf, An, An', Ln, Ln', cn, cn', ks, vs, rfl, hatn⟩ := open_nd o0 h0
  obtain ⟨key, rfl, hkey⟩ := open_int_at o1 h1
  clear o0 h0 o1 h1 hsz
  have HG := Lib.hid (World.grownBy.refl W none)
  have Nn := Lib.hid hatn
  clear hatn
  have hg := World.grownBy_alloc W (.cells #[.bool lf, .slice An Ln cn, .slice An' Ln' cn'] 24) none
  replace HG := Lib.hid (HG.out.trans hg)
  replace Nn := Lib.hid (Nn.out.keep hg)
  have Bn := Lib.hid (Blk.new (W) 24 #[.bool lf, .slice An Ln cn, .slice An' Ln' cn'])
  clear hg
  obtain ⟨F, hF⟩ : ∃ F, find ks key = F := ⟨_, rfl⟩
  obtain ⟨I, hI⟩ : ∃ I, isAt ks key = I := ⟨_, rfl⟩
  obtain ⟨C, hC⟩ : ∃ C, upTo ks key - 1 = C := ⟨_, rfl⟩
  have HF := Lib.hid (fun (X : World) (hX : NdAt X An An' Ln Ln' cn cn' ks vs) => by have q := find_call lf key hX; rw [hF, hI] at q; exact q)
  have HRF := Lib.hid (fun (X : World) (hX : NdAt X An An' Ln Ln' cn cn' ks vs) => by have q := rfind_call lf key hX; rw [hF, hI] at q; exact q)
  have HC := Lib.hid (fun (X : World) (hX : NdAt X An An' Ln Ln' cn cn' ks vs) => by have q := child_call lf key hX; rw [hC] at q; exact q)
  have HRC := Lib.hid (fun (X : World) (hX : NdAt X An An' Ln Ln' cn cn' ks vs) => by have q := rchild_call lf key hX; rw [hC] at q; exact q)
  have hFF : ((F : Int) == (F : Int)) = true := by simp
  have hII : (I == I) = true := by simp
  have hCC : ((C : Int) == (C : Int)) = true := by simp
  clear hF hI hC hkey
  go_enter Try.func4, Try.ntmps4
  go_wp2_with fail
  refine (HF.out _ Nn.out).mono ?_
  rintro e w1 ⟨rfl, hg⟩
  replace HG := Lib.hid (HG.out.trans hg)
  replace Bn := Lib.hid (Bn.out.grown hg (by simp))
  replace Nn := Lib.hid (Nn.out.keep hg)
  clear hg
  obtain ⟨Bn0, Bn1, Bn2⟩ := box3 Bn.out
  go_wp2_with fail
  refine (HRF.out _ Nn.out).mono ?_
  rintro e w2 ⟨rfl, hg⟩
  clear Bn0 Bn1 Bn2
  replace HG := Lib.hid (HG.out.trans hg)
  replace Bn := Lib.hid (Bn.out.grown hg (by simp))
  replace Nn := Lib.hid (Nn.out.keep hg)
  clear hg
  go_wp2_with fail
  go_region_held3 (fun X => X.cell? ⟨W.heap.size, 0, none⟩ = some (.bool lf) ∧ X.cell? ⟨W.heap.size, 1, none⟩ = some (.slice An Ln cn) ∧ X.cell? ⟨W.heap.size, 2, none⟩ = some (.slice An' Ln' cn'))
    (first
      | with_reducible exact box3 Bn.out.drew
      | with_reducible exact box3 B3.out
      | with_reducible exact box3 B4.out
      | with_reducible exact box3 B5.out)
    (first
      | (go_at_call 16
         with_reducible refine (HC.out _ (Nn.out.keep (grown_drew _ none))).mono ?_
         rintro e w3 ⟨rfl, hg⟩
         have G3 := Lib.hid ((grown_drew _ none).trans hg); have B3 := Lib.hid (Bn.out.grown G3.out (by simp)); have N3 := Lib.hid (Nn.out.keep G3.out)
         clear hg)
      | (go_at_call 17
         with_reducible refine (HRC.out _ N3.out).mono ?_
         rintro e w4 ⟨rfl, hg⟩
         have G4 := Lib.hid (G3.out.trans hg); have B4 := Lib.hid (B3.out.grown hg (by simp))
         clear hg)
      | (go_at_call 13
         with_reducible refine (lives_call _).mono ?_
         rintro e w5 ⟨rfl, hg⟩
         have G5 := Lib.hid (G4.out.trans hg); have B5 := Lib.hid (B4.out.grown hg (by simp))
         clear hg))
  go_wp2_with fail
  go_ret
  exact ⟨rfl, below_none (HG.out.trans G5.out)⟩
end Go.Proofs.Ytlbadapcaooieaa.NodeFinds
