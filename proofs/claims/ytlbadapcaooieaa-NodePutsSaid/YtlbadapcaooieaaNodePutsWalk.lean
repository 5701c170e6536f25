/- The walk over the law NodePuts: keys are put and dropped as the document says. -/
import Derived.Test.YtlbadapcaooieaaNdLives
import Derived.Test.YtlbadapcaooieaaNdDrop
import Derived.Test.YtlbadapcaooieaaNdRefPut
import Derived.Test.YtlbadapcaooieaaNdRefDrop
namespace Go.Proofs.Ytlbadapcaooieaa.NodePuts
open Go.ChangeShapes Go.WideShapes Go.ChangeAt Go.RowKit
open Crc CrcMath Mem Codec Go.Proofs.Ytlbadapcaooieaa.Node NdSpec
set_option linter.unusedVariables false
set_option linter.unusedSimpArgs false

set_option maxRecDepth 100000 in
set_option maxHeartbeats 6400000 in
theorem walk {H : Type} {enc : TypeId × Value → H} (W : World) (base : Nat) (v0 v1 v2 : Value) (d0 d1 d2 : DataW H) (p0 p1 p2 : List MemPlace)
    (o0 : Value.okWide Try.prog W .any base 24 v0)
    (o1 : Value.okWide Try.prog W .any base 3 v1)
    (o2 : Value.okWide Try.prog W .any base 3 v2)
    (h0 : DataW.Trod enc Try.prog W 0 (fun _ => true) true 24 v0 d0 p0)
    (h1 : DataW.Trod enc Try.prog W 0 (fun _ => true) true 3 v1 d1 p1)
    (h2 : DataW.Trod enc Try.prog W 0 (fun _ => true) true 3 v2 d2 p2)
    (hsz : (DataW.weightsEach Try.prog [24, 3, 3] [d0, d1, d2]).all (· ≤ reachBytes) = true) :
    Calls Try.prog 5 #[v0, v1, v2] W fun e W' => e = .returned (.bool true) ∧ Below W.heap.size W W' := by
  obtain ⟨lf, An, An', Ln, Ln', cn, cn', ks, vs, rfl, hatn⟩ := open_nd o0 h0
  obtain ⟨key, rfl, hkey⟩ := open_int_at o1 h1
  obtain ⟨val, rfl, hval⟩ := open_int_at o2 h2
  clear o0 h0 o1 h1 o2 h2 hsz
  have HG := Lib.hid (World.grownBy.refl W none)
  have Nn := Lib.hid hatn
  clear hatn
  have hg := World.grownBy_alloc W (.cells #[.bool lf, .slice An Ln cn, .slice An' Ln' cn'] 24) none
  replace HG := Lib.hid (HG.out.trans hg)
  replace Nn := Lib.hid (Nn.out.keep hg)
  have Bn := Lib.hid (Blk.new (W) 24 #[.bool lf, .slice An Ln cn, .slice An' Ln' cn'])
  clear hg
  obtain ⟨⟨re, rl, rk, rv⟩, hr⟩ : ∃ r, putR lf ks vs key val = r := ⟨_, rfl⟩
  obtain ⟨⟨se, sl, sk, sv⟩, hs⟩ : ∃ r, dropR lf ks vs key = r := ⟨_, rfl⟩
  have HP := Lib.hid (fun (X : World) (hX : NdAt X An An' Ln Ln' cn cn' ks vs) => by have q := put_call lf key val hX hkey hval; rw [hr] at q; exact q)
  have HRP := Lib.hid (fun (X : World) (hX : NdAt X An An' Ln Ln' cn cn' ks vs) => by have q := rput_call lf key val hX hkey hval; rw [hr] at q; exact q)
  have HD := Lib.hid (fun (X : World) (hX : NdAt X An An' Ln Ln' cn cn' ks vs) => by have q := drop_call lf key hX; rw [hs] at q; exact q)
  have HRD := Lib.hid (fun (X : World) (hX : NdAt X An An' Ln Ln' cn cn' ks vs) => by have q := rdrop_call lf key hX; rw [hs] at q; exact q)
  have hre : ((re : Int) == re) = true := by simp
  have hse : ((se : Int) == se) = true := by simp
  clear hr hs hkey hval
  go_enter Try.func5, Try.ntmps5
  go_wp2_with fail
  refine (HP.out _ Nn.out).mono ?_
  rintro e w1 hT
  obtain ⟨AN1, AN1', LN1, LN1', cN1, cN1', rfl, hg, hat⟩ := hT.open_
  replace HG := Lib.hid (HG.out.trans hg)
  replace Bn := Lib.hid (Bn.out.grown hg (by simp))
  replace Nn := Lib.hid (Nn.out.keep hg)
  have N1 := Lib.hid hat
  clear hg hat hT
  have hg := World.grownBy_alloc w1 (.cells #[.bool rl, .slice AN1 LN1 cN1, .slice AN1' LN1' cN1'] 24) none
  replace HG := Lib.hid (HG.out.trans hg)
  replace Bn := Lib.hid (Bn.out.grown hg (by simp))
  replace Nn := Lib.hid (Nn.out.keep hg)
  replace N1 := Lib.hid (N1.out.keep hg)
  have B1 := Lib.hid (Blk.new w1 24 #[.bool rl, .slice AN1 LN1 cN1, .slice AN1' LN1' cN1'])
  clear hg
  obtain ⟨Bn0, Bn1, Bn2⟩ := box3 Bn.out
  go_wp2_with fail
  refine (HRP.out _ Nn.out).mono ?_
  rintro e w2 hT
  clear Bn0 Bn1 Bn2
  obtain ⟨AN2, AN2', LN2, LN2', cN2, cN2', rfl, hg, hat⟩ := hT.open_
  replace HG := Lib.hid (HG.out.trans hg)
  replace Bn := Lib.hid (Bn.out.grown hg (by simp))
  replace B1 := Lib.hid (B1.out.grown hg (by simp))
  replace Nn := Lib.hid (Nn.out.keep hg)
  replace N1 := Lib.hid (N1.out.keep hg)
  have N2 := Lib.hid hat
  clear hg hat hT
  have hg := World.grownBy_alloc w2 (.cells #[.bool rl, .slice AN2 LN2 cN2, .slice AN2' LN2' cN2'] 24) none
  replace HG := Lib.hid (HG.out.trans hg)
  replace Bn := Lib.hid (Bn.out.grown hg (by simp))
  replace B1 := Lib.hid (B1.out.grown hg (by simp))
  replace Nn := Lib.hid (Nn.out.keep hg)
  replace N1 := Lib.hid (N1.out.keep hg)
  replace N2 := Lib.hid (N2.out.keep hg)
  have B2 := Lib.hid (Blk.new w2 24 #[.bool rl, .slice AN2 LN2 cN2, .slice AN2' LN2' cN2'])
  clear hg
  obtain ⟨B10, B11, B12⟩ := box3 B1.out
  obtain ⟨B20, B21, B22⟩ := box3 B2.out
  go_wp2_with fail
  refine (same_call rl N1.out N2.out).mono ?_
  rintro e w3 ⟨rfl, hg⟩
  clear B10 B11 B12 B20 B21 B22
  replace HG := Lib.hid (HG.out.trans hg)
  replace Bn := Lib.hid (Bn.out.grown hg (by simp))
  replace B1 := Lib.hid (B1.out.grown hg (by simp))
  replace B2 := Lib.hid (B2.out.grown hg (by simp))
  replace Nn := Lib.hid (Nn.out.keep hg)
  replace N1 := Lib.hid (N1.out.keep hg)
  replace N2 := Lib.hid (N2.out.keep hg)
  clear hg
  obtain ⟨Bn0, Bn1, Bn2⟩ := box3 Bn.out
  go_wp2_with fail
  refine (HD.out _ Nn.out).mono ?_
  rintro e w4 hT
  clear Bn0 Bn1 Bn2
  obtain ⟨AN4, AN4', LN4, LN4', cN4, cN4', rfl, hg, hat⟩ := hT.open_
  replace HG := Lib.hid (HG.out.trans hg)
  replace Bn := Lib.hid (Bn.out.grown hg (by simp))
  replace B1 := Lib.hid (B1.out.grown hg (by simp))
  replace B2 := Lib.hid (B2.out.grown hg (by simp))
  replace Nn := Lib.hid (Nn.out.keep hg)
  replace N1 := Lib.hid (N1.out.keep hg)
  replace N2 := Lib.hid (N2.out.keep hg)
  have N4 := Lib.hid hat
  clear hg hat hT
  have hg := World.grownBy_alloc w4 (.cells #[.bool sl, .slice AN4 LN4 cN4, .slice AN4' LN4' cN4'] 24) none
  replace HG := Lib.hid (HG.out.trans hg)
  replace Bn := Lib.hid (Bn.out.grown hg (by simp))
  replace B1 := Lib.hid (B1.out.grown hg (by simp))
  replace B2 := Lib.hid (B2.out.grown hg (by simp))
  replace Nn := Lib.hid (Nn.out.keep hg)
  replace N1 := Lib.hid (N1.out.keep hg)
  replace N2 := Lib.hid (N2.out.keep hg)
  replace N4 := Lib.hid (N4.out.keep hg)
  have B4 := Lib.hid (Blk.new w4 24 #[.bool sl, .slice AN4 LN4 cN4, .slice AN4' LN4' cN4'])
  clear hg
  obtain ⟨Bn0, Bn1, Bn2⟩ := box3 Bn.out
  go_wp2_with fail
  refine (HRD.out _ Nn.out).mono ?_
  rintro e w5 hT
  clear Bn0 Bn1 Bn2
  obtain ⟨AN5, AN5', LN5, LN5', cN5, cN5', rfl, hg, hat⟩ := hT.open_
  replace HG := Lib.hid (HG.out.trans hg)
  replace Bn := Lib.hid (Bn.out.grown hg (by simp))
  replace B1 := Lib.hid (B1.out.grown hg (by simp))
  replace B2 := Lib.hid (B2.out.grown hg (by simp))
  replace B4 := Lib.hid (B4.out.grown hg (by simp))
  replace Nn := Lib.hid (Nn.out.keep hg)
  replace N1 := Lib.hid (N1.out.keep hg)
  replace N2 := Lib.hid (N2.out.keep hg)
  replace N4 := Lib.hid (N4.out.keep hg)
  have N5 := Lib.hid hat
  clear hg hat hT
  have hg := World.grownBy_alloc w5 (.cells #[.bool sl, .slice AN5 LN5 cN5, .slice AN5' LN5' cN5'] 24) none
  replace HG := Lib.hid (HG.out.trans hg)
  replace Bn := Lib.hid (Bn.out.grown hg (by simp))
  replace B1 := Lib.hid (B1.out.grown hg (by simp))
  replace B2 := Lib.hid (B2.out.grown hg (by simp))
  replace B4 := Lib.hid (B4.out.grown hg (by simp))
  replace Nn := Lib.hid (Nn.out.keep hg)
  replace N1 := Lib.hid (N1.out.keep hg)
  replace N2 := Lib.hid (N2.out.keep hg)
  replace N4 := Lib.hid (N4.out.keep hg)
  replace N5 := Lib.hid (N5.out.keep hg)
  have B5 := Lib.hid (Blk.new w5 24 #[.bool sl, .slice AN5 LN5 cN5, .slice AN5' LN5' cN5'])
  clear hg
  obtain ⟨B40, B41, B42⟩ := box3 B4.out
  obtain ⟨B50, B51, B52⟩ := box3 B5.out
  go_wp2_with fail
  refine (same_call sl N4.out N5.out).mono ?_
  rintro e w6 ⟨rfl, hg⟩
  clear B40 B41 B42 B50 B51 B52
  replace HG := Lib.hid (HG.out.trans hg)
  replace Bn := Lib.hid (Bn.out.grown hg (by simp))
  replace B1 := Lib.hid (B1.out.grown hg (by simp))
  replace B2 := Lib.hid (B2.out.grown hg (by simp))
  replace B4 := Lib.hid (B4.out.grown hg (by simp))
  replace B5 := Lib.hid (B5.out.grown hg (by simp))
  replace Nn := Lib.hid (Nn.out.keep hg)
  replace N1 := Lib.hid (N1.out.keep hg)
  replace N2 := Lib.hid (N2.out.keep hg)
  replace N4 := Lib.hid (N4.out.keep hg)
  replace N5 := Lib.hid (N5.out.keep hg)
  clear hg
  go_wp2_with fail
  refine (lives_call _).mono ?_
  rintro e w7 ⟨rfl, hg⟩
  replace HG := Lib.hid (HG.out.trans hg)
  replace Bn := Lib.hid (Bn.out.grown hg (by simp))
  replace B1 := Lib.hid (B1.out.grown hg (by simp))
  replace B2 := Lib.hid (B2.out.grown hg (by simp))
  replace B4 := Lib.hid (B4.out.grown hg (by simp))
  replace B5 := Lib.hid (B5.out.grown hg (by simp))
  replace Nn := Lib.hid (Nn.out.keep hg)
  replace N1 := Lib.hid (N1.out.keep hg)
  replace N2 := Lib.hid (N2.out.keep hg)
  replace N4 := Lib.hid (N4.out.keep hg)
  replace N5 := Lib.hid (N5.out.keep hg)
  clear hg
  go_wp2_with fail
  go_ret
  exact ⟨rfl, below_none HG.out⟩
end Go.Proofs.Ytlbadapcaooieaa.NodePuts
