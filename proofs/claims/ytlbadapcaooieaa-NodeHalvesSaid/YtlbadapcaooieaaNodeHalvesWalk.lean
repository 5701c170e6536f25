/- The walk over the law NodeHalves: nodes are split, joined and shared out as the document says. -/
import Derived.Test.YtlbadapcaooieaaNdLives
import Derived.Test.YtlbadapcaooieaaNdRefJoin
namespace Go.Proofs.Ytlbadapcaooieaa.NodeHalves
open Go.ChangeShapes Go.WideShapes Go.ChangeAt Go.RowKit
open Crc CrcMath Mem Codec Go.Proofs.Ytlbadapcaooieaa.Node NdSpec
set_option linter.unusedVariables false
set_option linter.unusedSimpArgs false

set_option maxRecDepth 100000 in
set_option maxHeartbeats 6400000 in
theorem walk {H : Type} {enc : TypeId × Value → H} (W : World) (base : Nat) (v0 v1 : Value) (d0 d1 : DataW H) (p0 p1 : List MemPlace)
    (o0 : Value.okWide Try.prog W .any base 24 v0)
    (o1 : Value.okWide Try.prog W .any base 24 v1)
    (h0 : DataW.Trod enc Try.prog W 0 (fun _ => true) true 24 v0 d0 p0)
    (h1 : DataW.Trod enc Try.prog W 0 (fun _ => true) true 24 v1 d1 p1)
    (hsz : (DataW.weightsEach Try.prog [24, 24] [d0, d1]).all (· ≤ reachBytes) = true) :
    Calls Try.prog 6 #[v0, v1] W fun e W' => e = .returned (.bool true) ∧ Below W.heap.size W W' := by
  obtain ⟨la, Aa, Aa', La, La', ca, ca', ka, va, rfl, hata⟩ := open_nd o0 h0
  obtain ⟨lb, Ab, Ab', Lb, Lb', cb, cb', kb, vb, rfl, hatb⟩ := open_nd o1 h1
  clear o0 h0 o1 h1 hsz
  have HG := Lib.hid (World.grownBy.refl W none)
  have Na := Lib.hid hata
  have Nb := Lib.hid hatb
  have NaW := Na; have NbW := Nb
  clear hata hatb
  have hg := World.grownBy_alloc W (.cells #[.bool la, .slice Aa La ca, .slice Aa' La' ca'] 24) none
  replace HG := Lib.hid (HG.out.trans hg)
  replace Na := Lib.hid (Na.out.keep hg)
  replace Nb := Lib.hid (Nb.out.keep hg)
  have Ba := Lib.hid (Blk.new (W) 24 #[.bool la, .slice Aa La ca, .slice Aa' La' ca'])
  clear hg
  have hg := World.grownBy_alloc (W.alloc (.cells #[.bool la, .slice Aa La ca, .slice Aa' La' ca'] 24)) (.cells #[.bool lb, .slice Ab Lb cb, .slice Ab' Lb' cb'] 24) none
  replace HG := Lib.hid (HG.out.trans hg)
  replace Ba := Lib.hid (Ba.out.grown hg (by simp))
  replace Na := Lib.hid (Na.out.keep hg)
  replace Nb := Lib.hid (Nb.out.keep hg)
  have Bb := Lib.hid (Blk.new ((W.alloc (.cells #[.bool la, .slice Aa La ca, .slice Aa' La' ca'] 24))) 24 #[.bool lb, .slice Ab Lb cb, .slice Ab' Lb' cb'])
  clear hg
  rw [World.size_alloc] at Bb
  obtain ⟨⟨re, ⟨l1, k1, u1⟩, ⟨l2, k2, u2⟩⟩, hr⟩ : ∃ r, splitR la ka va = r := ⟨_, rfl⟩
  obtain ⟨⟨je, jl, jk, jv⟩, hj⟩ : ∃ r, joinR la ka va lb kb vb = r := ⟨_, rfl⟩
  obtain ⟨⟨se, ⟨l5, k5, u5⟩, ⟨l6, k6, u6⟩⟩, hs⟩ : ∃ r, shareR la ka va lb kb vb = r := ⟨_, rfl⟩
  have HS := Lib.hid (fun (X : World) (hX : NdAt X Aa Aa' La La' ca ca' ka va) => by have q := split_call la hX; rw [hr] at q; exact q)
  have HRS := Lib.hid (fun (X : World) (hX : NdAt X Aa Aa' La La' ca ca' ka va) => by have q := rsplit_call la hX; rw [hr] at q; exact q)
  have HJ := Lib.hid (fun (X : World) (hX : NdAt X Aa Aa' La La' ca ca' ka va) (hY : NdAt X Ab Ab' Lb Lb' cb cb' kb vb) => by have q := join_call la lb hX hY; rw [hj] at q; exact q)
  have HRJ := Lib.hid (fun (X : World) (hX : NdAt X Aa Aa' La La' ca ca' ka va) (hY : NdAt X Ab Ab' Lb Lb' cb cb' kb vb) => by have q := rjoin_call la lb hX hY; rw [hj] at q; exact q)
  have HSH := Lib.hid (fun (X : World) (hX : NdAt X Aa Aa' La La' ca ca' ka va) (hY : NdAt X Ab Ab' Lb Lb' cb cb' kb vb) => by have q := share_call la lb hX hY; rw [hs] at q; exact q)
  have HRSH := Lib.hid (fun (X : World) (hX : NdAt X Aa Aa' La La' ca ca' ka va) (hY : NdAt X Ab Ab' Lb Lb' cb cb' kb vb) => by have q := rshare_call la lb hX hY; rw [hs] at q; exact q)
  have hre : ((re : Int) != re) = false := by simp
  have hje : ((je : Int) != je) = false := by simp
  have hse : ((se : Int) == se) = true := by simp
  clear hr hj hs
  go_enter Try.func6, Try.ntmps6
  go_wp2_with fail
  refine (HS.out _ Na.out).mono ?_
  rintro e w1 hT
  obtain ⟨AN1, AN1', LN1, LN1', cN1, cN1', AN2, AN2', LN2, LN2', cN2, cN2', rfl, hg, hat, hat2⟩ := hT.open_
  replace HG := Lib.hid (HG.out.trans hg)
  replace Ba := Lib.hid (Ba.out.grown hg (by simp))
  replace Bb := Lib.hid (Bb.out.grown hg (by simp))
  replace Na := Lib.hid (Na.out.keep hg)
  replace Nb := Lib.hid (Nb.out.keep hg)
  have N1 := Lib.hid hat; have N2 := Lib.hid hat2
  clear hg hat hat2 hT
  have LT1 := Lib.hid Bb.out.lt
  have hg := (World.grownBy_alloc w1 (.cells #[.bool l1, .slice AN1 LN1 cN1, .slice AN1' LN1' cN1'] 24) none).trans (World.grownBy_alloc _ (.cells #[.bool l2, .slice AN2 LN2 cN2, .slice AN2' LN2' cN2'] 24) none)
  replace HG := Lib.hid (HG.out.trans hg)
  replace Ba := Lib.hid (Ba.out.grown hg (by simp))
  replace Bb := Lib.hid (Bb.out.grown hg (by simp))
  replace Na := Lib.hid (Na.out.keep hg)
  replace Nb := Lib.hid (Nb.out.keep hg)
  replace N1 := Lib.hid (N1.out.keep hg)
  replace N2 := Lib.hid (N2.out.keep hg)
  obtain ⟨hx, hy⟩ := two2 w1 24 #[.bool l1, .slice AN1 LN1 cN1, .slice AN1' LN1' cN1'] #[.bool l2, .slice AN2 LN2 cN2, .slice AN2' LN2' cN2']
  have B1 := Lib.hid hx; have B2 := Lib.hid hy
  clear hg hx hy
  have S1 := Lib.hid (show W.heap.size + 1 < w1.heap.size from LT1.out)
  obtain ⟨Ba0, Ba1, Ba2⟩ := box3 Ba.out
  go_wp2_with fail
  refine (HRS.out _ Na.out).mono ?_
  rintro e w2 hT
  clear Ba0 Ba1 Ba2
  obtain ⟨AN3, AN3', LN3, LN3', cN3, cN3', AN4, AN4', LN4, LN4', cN4, cN4', rfl, hg, hat, hat2⟩ := hT.open_
  replace HG := Lib.hid (HG.out.trans hg)
  replace Ba := Lib.hid (Ba.out.grown hg (by simp))
  replace Bb := Lib.hid (Bb.out.grown hg (by simp))
  replace B1 := Lib.hid (B1.out.grown hg (by simp))
  replace B2 := Lib.hid (B2.out.grown hg (by simp))
  replace Na := Lib.hid (Na.out.keep hg)
  replace Nb := Lib.hid (Nb.out.keep hg)
  replace N1 := Lib.hid (N1.out.keep hg)
  replace N2 := Lib.hid (N2.out.keep hg)
  have N3 := Lib.hid hat; have N4 := Lib.hid hat2
  clear hg hat hat2 hT
  have LT2 := Lib.hid B2.out.lt
  have hg := (World.grownBy_alloc w2 (.cells #[.bool l1, .slice AN3 LN3 cN3, .slice AN3' LN3' cN3'] 24) none).trans (World.grownBy_alloc _ (.cells #[.bool l2, .slice AN4 LN4 cN4, .slice AN4' LN4' cN4'] 24) none)
  replace HG := Lib.hid (HG.out.trans hg)
  replace Ba := Lib.hid (Ba.out.grown hg (by simp))
  replace Bb := Lib.hid (Bb.out.grown hg (by simp))
  replace B1 := Lib.hid (B1.out.grown hg (by simp))
  replace B2 := Lib.hid (B2.out.grown hg (by simp))
  replace Na := Lib.hid (Na.out.keep hg)
  replace Nb := Lib.hid (Nb.out.keep hg)
  replace N1 := Lib.hid (N1.out.keep hg)
  replace N2 := Lib.hid (N2.out.keep hg)
  replace N3 := Lib.hid (N3.out.keep hg)
  replace N4 := Lib.hid (N4.out.keep hg)
  obtain ⟨hx, hy⟩ := two2 w2 24 #[.bool l1, .slice AN3 LN3 cN3, .slice AN3' LN3' cN3'] #[.bool l2, .slice AN4 LN4 cN4, .slice AN4' LN4' cN4']
  have B3 := Lib.hid hx; have B4 := Lib.hid hy
  clear hg hx hy
  obtain ⟨B10, B11, B12⟩ := box3 B1.out
  obtain ⟨B30, B31, B32⟩ := box3 B3.out
  go_wp2_with fail
  refine (same_call l1 N1.out N3.out).mono ?_
  rintro e w3 ⟨rfl, hg⟩
  clear B10 B11 B12 B30 B31 B32
  replace HG := Lib.hid (HG.out.trans hg)
  replace Ba := Lib.hid (Ba.out.grown hg (by simp))
  replace Bb := Lib.hid (Bb.out.grown hg (by simp))
  replace B1 := Lib.hid (B1.out.grown hg (by simp))
  replace B2 := Lib.hid (B2.out.grown hg (by simp))
  replace B3 := Lib.hid (B3.out.grown hg (by simp))
  replace B4 := Lib.hid (B4.out.grown hg (by simp))
  replace Na := Lib.hid (Na.out.keep hg)
  replace Nb := Lib.hid (Nb.out.keep hg)
  replace N1 := Lib.hid (N1.out.keep hg)
  replace N2 := Lib.hid (N2.out.keep hg)
  replace N3 := Lib.hid (N3.out.keep hg)
  replace N4 := Lib.hid (N4.out.keep hg)
  clear hg
  obtain ⟨B20, B21, B22⟩ := box3 B2.out
  obtain ⟨B40, B41, B42⟩ := box3 B4.out
  go_wp2_with fail
  refine (same_call l2 N2.out N4.out).mono ?_
  rintro e w4 ⟨rfl, hg⟩
  clear B20 B21 B22 B40 B41 B42
  replace HG := Lib.hid (HG.out.trans hg)
  replace Ba := Lib.hid (Ba.out.grown hg (by simp))
  replace Bb := Lib.hid (Bb.out.grown hg (by simp))
  replace B1 := Lib.hid (B1.out.grown hg (by simp))
  replace B2 := Lib.hid (B2.out.grown hg (by simp))
  replace B3 := Lib.hid (B3.out.grown hg (by simp))
  replace B4 := Lib.hid (B4.out.grown hg (by simp))
  replace Na := Lib.hid (Na.out.keep hg)
  replace Nb := Lib.hid (Nb.out.keep hg)
  replace N1 := Lib.hid (N1.out.keep hg)
  replace N2 := Lib.hid (N2.out.keep hg)
  replace N3 := Lib.hid (N3.out.keep hg)
  replace N4 := Lib.hid (N4.out.keep hg)
  clear hg
  obtain ⟨Ba0, Ba1, Ba2⟩ := box3 Ba.out
  obtain ⟨Bb0, Bb1, Bb2⟩ := box3 Bb.out
  clear N1 N2 N3 N4
  go_wp2_with fail
  refine (HJ.out _ Na.out Nb.out).mono ?_
  rintro e w5 hT
  clear Ba0 Ba1 Ba2 Bb0 Bb1 Bb2
  obtain ⟨AN5, AN5', LN5, LN5', cN5, cN5', rfl, hg, hat⟩ := hT.open_
  replace HG := Lib.hid (HG.out.trans hg)
  replace Ba := Lib.hid (Ba.out.grown hg (by simp))
  replace Bb := Lib.hid (Bb.out.grown hg (by simp))
  replace B1 := Lib.hid (B1.out.grown hg (by simp))
  replace B2 := Lib.hid (B2.out.grown hg (by simp))
  replace B3 := Lib.hid (B3.out.grown hg (by simp))
  replace B4 := Lib.hid (B4.out.grown hg (by simp))
  replace Na := Lib.hid (Na.out.keep hg)
  replace Nb := Lib.hid (Nb.out.keep hg)
  have N5 := Lib.hid hat
  clear hg hat hT
  have hg := World.grownBy_alloc w5 (.cells #[.bool jl, .slice AN5 LN5 cN5, .slice AN5' LN5' cN5'] 24) none
  replace HG := Lib.hid (HG.out.trans hg)
  replace Ba := Lib.hid (Ba.out.grown hg (by simp))
  replace Bb := Lib.hid (Bb.out.grown hg (by simp))
  replace B1 := Lib.hid (B1.out.grown hg (by simp))
  replace B2 := Lib.hid (B2.out.grown hg (by simp))
  replace B3 := Lib.hid (B3.out.grown hg (by simp))
  replace B4 := Lib.hid (B4.out.grown hg (by simp))
  replace Na := Lib.hid (Na.out.keep hg)
  replace Nb := Lib.hid (Nb.out.keep hg)
  replace N5 := Lib.hid (N5.out.keep hg)
  have B5 := Lib.hid (Blk.new w5 24 #[.bool jl, .slice AN5 LN5 cN5, .slice AN5' LN5' cN5'])
  clear hg
  obtain ⟨Ba0, Ba1, Ba2⟩ := box3 Ba.out
  obtain ⟨Bb0, Bb1, Bb2⟩ := box3 Bb.out
  go_wp2_with fail
  refine (HRJ.out _ Na.out Nb.out).mono ?_
  rintro e w6 hT
  clear Ba0 Ba1 Ba2 Bb0 Bb1 Bb2
  obtain ⟨AN6, AN6', LN6, LN6', cN6, cN6', rfl, hg, hat⟩ := hT.open_
  replace HG := Lib.hid (HG.out.trans hg)
  replace Ba := Lib.hid (Ba.out.grown hg (by simp))
  replace Bb := Lib.hid (Bb.out.grown hg (by simp))
  replace B1 := Lib.hid (B1.out.grown hg (by simp))
  replace B2 := Lib.hid (B2.out.grown hg (by simp))
  replace B3 := Lib.hid (B3.out.grown hg (by simp))
  replace B4 := Lib.hid (B4.out.grown hg (by simp))
  replace B5 := Lib.hid (B5.out.grown hg (by simp))
  replace Na := Lib.hid (Na.out.keep hg)
  replace Nb := Lib.hid (Nb.out.keep hg)
  replace N5 := Lib.hid (N5.out.keep hg)
  have N6 := Lib.hid hat
  clear hg hat hT
  have hg := World.grownBy_alloc w6 (.cells #[.bool jl, .slice AN6 LN6 cN6, .slice AN6' LN6' cN6'] 24) none
  replace HG := Lib.hid (HG.out.trans hg)
  replace Ba := Lib.hid (Ba.out.grown hg (by simp))
  replace Bb := Lib.hid (Bb.out.grown hg (by simp))
  replace B1 := Lib.hid (B1.out.grown hg (by simp))
  replace B2 := Lib.hid (B2.out.grown hg (by simp))
  replace B3 := Lib.hid (B3.out.grown hg (by simp))
  replace B4 := Lib.hid (B4.out.grown hg (by simp))
  replace B5 := Lib.hid (B5.out.grown hg (by simp))
  replace Na := Lib.hid (Na.out.keep hg)
  replace Nb := Lib.hid (Nb.out.keep hg)
  replace N5 := Lib.hid (N5.out.keep hg)
  replace N6 := Lib.hid (N6.out.keep hg)
  have B6 := Lib.hid (Blk.new w6 24 #[.bool jl, .slice AN6 LN6 cN6, .slice AN6' LN6' cN6'])
  clear hg
  obtain ⟨B50, B51, B52⟩ := box3 B5.out
  obtain ⟨B60, B61, B62⟩ := box3 B6.out
  go_wp2_with fail
  refine (same_call jl N5.out N6.out).mono ?_
  rintro e w7 ⟨rfl, hg⟩
  clear B50 B51 B52 B60 B61 B62
  replace HG := Lib.hid (HG.out.trans hg)
  replace Ba := Lib.hid (Ba.out.grown hg (by simp))
  replace Bb := Lib.hid (Bb.out.grown hg (by simp))
  replace B1 := Lib.hid (B1.out.grown hg (by simp))
  replace B2 := Lib.hid (B2.out.grown hg (by simp))
  replace B3 := Lib.hid (B3.out.grown hg (by simp))
  replace B4 := Lib.hid (B4.out.grown hg (by simp))
  replace B5 := Lib.hid (B5.out.grown hg (by simp))
  replace B6 := Lib.hid (B6.out.grown hg (by simp))
  replace Na := Lib.hid (Na.out.keep hg)
  replace Nb := Lib.hid (Nb.out.keep hg)
  replace N5 := Lib.hid (N5.out.keep hg)
  replace N6 := Lib.hid (N6.out.keep hg)
  clear hg
  clear N5 N6 B5 B6
  obtain ⟨Ba0, Ba1, Ba2⟩ := box3 Ba.out
  obtain ⟨Bb0, Bb1, Bb2⟩ := box3 Bb.out
  go_wp2_with fail
  refine (HSH.out _ Na.out Nb.out).mono ?_
  rintro e w8 hT
  clear Ba0 Ba1 Ba2 Bb0 Bb1 Bb2
  have HB34 := Lib.hid (show w2.heap.size + 1 < w7.heap.size from B4.out.lt)
  obtain ⟨Ap, Ap', Lp, Lp', cp, cp', Aq, Aq', Lq, Lq', cq, cq', rfl, hg, ho1, ho2⟩ := hT.own_
  have HSZ8 := Lib.hid hg.size
  have HB1 := Lib.hid B1.out.lt; have HB2 := Lib.hid B2.out.lt
  replace HG := Lib.hid (HG.out.trans hg)
  replace Ba := Lib.hid (Ba.out.grown hg (by simp))
  replace Bb := Lib.hid (Bb.out.grown hg (by simp))
  replace B1 := Lib.hid (B1.out.grown hg (by simp))
  replace B2 := Lib.hid (B2.out.grown hg (by simp))
  replace B3 := Lib.hid (B3.out.grown hg (by simp))
  replace B4 := Lib.hid (B4.out.grown hg (by simp))
  replace Na := Lib.hid (Na.out.keep hg)
  replace Nb := Lib.hid (Nb.out.keep hg)
  have Op := Lib.hid ho1; have Oq := Lib.hid ho2
  clear hg ho1 ho2 hT Na Nb
  obtain ⟨B10, B11, B12⟩ := box3 B1.out
  obtain ⟨B20, B21, B22⟩ := box3 B2.out
  have B1f0 := B1.out.frozen 0; have B1f1 := B1.out.frozen 1; have B1f2 := B1.out.frozen 2
  have B2f0 := B2.out.frozen 0; have B2f1 := B2.out.frozen 1; have B2f2 := B2.out.frozen 2
  go_upto_region 13 with fail
  clear B10 B11 B12 B20 B21 B22 B1f0 B1f1 B1f2 B2f0 B2f1 B2f2
  have LW := Lib.hid (show W.heap.size ≤ w1.heap.size ∧ W.heap.size ≤ w1.heap.size + 1 by have := LT1.out; have := LT2.out; omega)
  have hG : W.grownBy ((((((w8.setCell ⟨w1.heap.size, 0, none⟩ (.bool l5)).setCell ⟨w1.heap.size, 1, none⟩ (.slice Ap Lp cp)).setCell ⟨w1.heap.size, 2, none⟩ (.slice Ap' Lp' cp')).setCell ⟨w1.heap.size + 1, 0, none⟩ (.bool l6)).setCell ⟨w1.heap.size + 1, 1, none⟩ (.slice Aq Lq cq)).setCell ⟨w1.heap.size + 1, 2, none⟩ (.slice Aq' Lq' cq')) none := grown_set1 (grown_set1 (grown_set1 (grown_set1 (grown_set1 (grown_set1 HG.out LW.out.1 _) LW.out.1 _) LW.out.1 _) LW.out.2 _) LW.out.2 _) LW.out.2 _
  have nb1 : Blk ((((((w8.setCell ⟨w1.heap.size, 0, none⟩ (.bool l5)).setCell ⟨w1.heap.size, 1, none⟩ (.slice Ap Lp cp)).setCell ⟨w1.heap.size, 2, none⟩ (.slice Ap' Lp' cp')).setCell ⟨w1.heap.size + 1, 0, none⟩ (.bool l6)).setCell ⟨w1.heap.size + 1, 1, none⟩ (.slice Aq Lq cq)).setCell ⟨w1.heap.size + 1, 2, none⟩ (.slice Aq' Lq' cq')) (w1.heap.size) 24 #[.bool l5, .slice Ap Lp cp, .slice Ap' Lp' cp'] := blk_far3 (Blk.set3 B1.out) (by omega) _ _ _
  have nb2 : Blk ((((((w8.setCell ⟨w1.heap.size, 0, none⟩ (.bool l5)).setCell ⟨w1.heap.size, 1, none⟩ (.slice Ap Lp cp)).setCell ⟨w1.heap.size, 2, none⟩ (.slice Ap' Lp' cp')).setCell ⟨w1.heap.size + 1, 0, none⟩ (.bool l6)).setCell ⟨w1.heap.size + 1, 1, none⟩ (.slice Aq Lq cq)).setCell ⟨w1.heap.size + 1, 2, none⟩ (.slice Aq' Lq' cq')) (w1.heap.size + 1) 24 #[.bool l6, .slice Aq Lq cq, .slice Aq' Lq' cq'] := Blk.set3 (blk_far3 B2.out (by omega) _ _ _)
  have nBa := blk_far3 (blk_far3 Ba.out (show W.heap.size ≠ w1.heap.size by have := LT1.out; have := LT2.out; omega) (.bool l5) (.slice Ap Lp cp) (.slice Ap' Lp' cp')) (show W.heap.size ≠ w1.heap.size + 1 by have := LT1.out; have := LT2.out; omega) (.bool l6) (.slice Aq Lq cq) (.slice Aq' Lq' cq')
  have nBb := blk_far3 (blk_far3 Bb.out (show (W.heap.size + 1) ≠ w1.heap.size by have := LT1.out; have := LT2.out; omega) (.bool l5) (.slice Ap Lp cp) (.slice Ap' Lp' cp')) (show (W.heap.size + 1) ≠ w1.heap.size + 1 by have := LT1.out; have := LT2.out; omega) (.bool l6) (.slice Aq Lq cq) (.slice Aq' Lq' cq')
  have nB3 := blk_far3 (blk_far3 B3.out (show w2.heap.size ≠ w1.heap.size by have := LT1.out; have := LT2.out; omega) (.bool l5) (.slice Ap Lp cp) (.slice Ap' Lp' cp')) (show w2.heap.size ≠ w1.heap.size + 1 by have := LT1.out; have := LT2.out; omega) (.bool l6) (.slice Aq Lq cq) (.slice Aq' Lq' cq')
  have nB4 := blk_far3 (blk_far3 B4.out (show (w2.heap.size + 1) ≠ w1.heap.size by have := LT1.out; have := LT2.out; omega) (.bool l5) (.slice Ap Lp cp) (.slice Ap' Lp' cp')) (show (w2.heap.size + 1) ≠ w1.heap.size + 1 by have := LT1.out; have := LT2.out; omega) (.bool l6) (.slice Aq Lq cq) (.slice Aq' Lq' cq')
  have nOp := own_far33 Op.out (show w1.heap.size < _ from Nat.lt_of_succ_lt HB2.out) (show w1.heap.size + 1 < _ from HB2.out) (Nat.le_refl _) (.bool l5) (.slice Ap Lp cp) (.slice Ap' Lp' cp') (.bool l6) (.slice Aq Lq cq) (.slice Aq' Lq' cq')
  have nOq := own_far33 Oq.out (show w1.heap.size < _ from Nat.lt_of_succ_lt HB2.out) (show w1.heap.size + 1 < _ from HB2.out) (Nat.le_refl _) (.bool l5) (.slice Ap Lp cp) (.slice Ap' Lp' cp') (.bool l6) (.slice Aq Lq cq) (.slice Aq' Lq' cq')
  clear HG B1 B2 Ba Bb B3 B4 Op Oq
  have HG := Lib.hid hG; have B1 := Lib.hid nb1; have B2 := Lib.hid nb2; have Ba := Lib.hid nBa; have Bb := Lib.hid nBb; have B3 := Lib.hid nB3; have B4 := Lib.hid nB4; have Op := Lib.hid nOp; have Oq := Lib.hid nOq
  clear hG nb1 nb2 nBa nBb nB3 nB4 nOp nOq
  have Na := Lib.hid (NaW.out.keep HG.out); have Nb := Lib.hid (NbW.out.keep HG.out)
  have HM2 := Lib.hid (show w7.heap.size ≤ ((((((w8.setCell ⟨w1.heap.size, 0, none⟩ (.bool l5)).setCell ⟨w1.heap.size, 1, none⟩ (.slice Ap Lp cp)).setCell ⟨w1.heap.size, 2, none⟩ (.slice Ap' Lp' cp')).setCell ⟨w1.heap.size + 1, 0, none⟩ (.bool l6)).setCell ⟨w1.heap.size + 1, 1, none⟩ (.slice Aq Lq cq)).setCell ⟨w1.heap.size + 1, 2, none⟩ (.slice Aq' Lq' cq')).heap.size by simpa using HSZ8.out)
  generalize ((((((w8.setCell ⟨w1.heap.size, 0, none⟩ (.bool l5)).setCell ⟨w1.heap.size, 1, none⟩ (.slice Ap Lp cp)).setCell ⟨w1.heap.size, 2, none⟩ (.slice Ap' Lp' cp')).setCell ⟨w1.heap.size + 1, 0, none⟩ (.bool l6)).setCell ⟨w1.heap.size + 1, 1, none⟩ (.slice Aq Lq cq)).setCell ⟨w1.heap.size + 1, 2, none⟩ (.slice Aq' Lq' cq')) = w9 at *
  have HB4 := Lib.hid B4.out.lt
  obtain ⟨Ba0, Ba1, Ba2⟩ := box3 Ba.out
  obtain ⟨Bb0, Bb1, Bb2⟩ := box3 Bb.out
  go_wp2_with fail
  refine (HRSH.out _ Na.out Nb.out).mono ?_
  rintro e w10 hT
  clear Ba0 Ba1 Ba2 Bb0 Bb1 Bb2
  obtain ⟨As, As', Ls, Ls', cs, cs', At, At', Lt, Lt', ct, ct', rfl, hg, ho1, ho2⟩ := hT.own_
  have HB1 := Lib.hid B3.out.lt; have HB2 := Lib.hid B4.out.lt
  replace HG := Lib.hid (HG.out.trans hg)
  replace Ba := Lib.hid (Ba.out.grown hg (by simp))
  replace Bb := Lib.hid (Bb.out.grown hg (by simp))
  replace B1 := Lib.hid (B1.out.grown hg (by simp))
  replace B2 := Lib.hid (B2.out.grown hg (by simp))
  replace B3 := Lib.hid (B3.out.grown hg (by simp))
  replace B4 := Lib.hid (B4.out.grown hg (by simp))
  replace Na := Lib.hid (Na.out.keep hg)
  replace Nb := Lib.hid (Nb.out.keep hg)
  replace Op := Lib.hid (Op.out.keep hg)
  replace Oq := Lib.hid (Oq.out.keep hg)
  have Os := Lib.hid ho1; have Ot := Lib.hid ho2
  clear hg ho1 ho2 hT Na Nb
  obtain ⟨B30, B31, B32⟩ := box3 B3.out
  obtain ⟨B40, B41, B42⟩ := box3 B4.out
  have B3f0 := B3.out.frozen 0; have B3f1 := B3.out.frozen 1; have B3f2 := B3.out.frozen 2
  have B4f0 := B4.out.frozen 0; have B4f1 := B4.out.frozen 1; have B4f2 := B4.out.frozen 2
  go_upto_region 14 with fail
  clear B30 B31 B32 B40 B41 B42 B3f0 B3f1 B3f2 B4f0 B4f1 B4f2
  have LW := Lib.hid (show W.heap.size ≤ w2.heap.size ∧ W.heap.size ≤ w2.heap.size + 1 by have := LT1.out; have := LT2.out; omega)
  have hG : W.grownBy ((((((w10.setCell ⟨w2.heap.size, 0, none⟩ (.bool l5)).setCell ⟨w2.heap.size, 1, none⟩ (.slice As Ls cs)).setCell ⟨w2.heap.size, 2, none⟩ (.slice As' Ls' cs')).setCell ⟨w2.heap.size + 1, 0, none⟩ (.bool l6)).setCell ⟨w2.heap.size + 1, 1, none⟩ (.slice At Lt ct)).setCell ⟨w2.heap.size + 1, 2, none⟩ (.slice At' Lt' ct')) none := grown_set1 (grown_set1 (grown_set1 (grown_set1 (grown_set1 (grown_set1 HG.out LW.out.1 _) LW.out.1 _) LW.out.1 _) LW.out.2 _) LW.out.2 _) LW.out.2 _
  have nb1 : Blk ((((((w10.setCell ⟨w2.heap.size, 0, none⟩ (.bool l5)).setCell ⟨w2.heap.size, 1, none⟩ (.slice As Ls cs)).setCell ⟨w2.heap.size, 2, none⟩ (.slice As' Ls' cs')).setCell ⟨w2.heap.size + 1, 0, none⟩ (.bool l6)).setCell ⟨w2.heap.size + 1, 1, none⟩ (.slice At Lt ct)).setCell ⟨w2.heap.size + 1, 2, none⟩ (.slice At' Lt' ct')) (w2.heap.size) 24 #[.bool l5, .slice As Ls cs, .slice As' Ls' cs'] := blk_far3 (Blk.set3 B3.out) (by omega) _ _ _
  have nb2 : Blk ((((((w10.setCell ⟨w2.heap.size, 0, none⟩ (.bool l5)).setCell ⟨w2.heap.size, 1, none⟩ (.slice As Ls cs)).setCell ⟨w2.heap.size, 2, none⟩ (.slice As' Ls' cs')).setCell ⟨w2.heap.size + 1, 0, none⟩ (.bool l6)).setCell ⟨w2.heap.size + 1, 1, none⟩ (.slice At Lt ct)).setCell ⟨w2.heap.size + 1, 2, none⟩ (.slice At' Lt' ct')) (w2.heap.size + 1) 24 #[.bool l6, .slice At Lt ct, .slice At' Lt' ct'] := Blk.set3 (blk_far3 B4.out (by omega) _ _ _)
  have nB1 := blk_far3 (blk_far3 B1.out (show w1.heap.size ≠ w2.heap.size by have := LT1.out; have := LT2.out; omega) (.bool l5) (.slice As Ls cs) (.slice As' Ls' cs')) (show w1.heap.size ≠ w2.heap.size + 1 by have := LT1.out; have := LT2.out; omega) (.bool l6) (.slice At Lt ct) (.slice At' Lt' ct')
  have nB2 := blk_far3 (blk_far3 B2.out (show (w1.heap.size + 1) ≠ w2.heap.size by have := LT1.out; have := LT2.out; omega) (.bool l5) (.slice As Ls cs) (.slice As' Ls' cs')) (show (w1.heap.size + 1) ≠ w2.heap.size + 1 by have := LT1.out; have := LT2.out; omega) (.bool l6) (.slice At Lt ct) (.slice At' Lt' ct')
  have nOp := own_far33 Op.out (show w2.heap.size < _ from Nat.lt_of_succ_lt HB34.out) (show w2.heap.size + 1 < _ from HB34.out) (Nat.le_refl _) (.bool l5) (.slice As Ls cs) (.slice As' Ls' cs') (.bool l6) (.slice At Lt ct) (.slice At' Lt' ct')
  have nOq := own_far33 Oq.out (show w2.heap.size < _ from Nat.lt_of_succ_lt HB34.out) (show w2.heap.size + 1 < _ from HB34.out) (Nat.le_refl _) (.bool l5) (.slice As Ls cs) (.slice As' Ls' cs') (.bool l6) (.slice At Lt ct) (.slice At' Lt' ct')
  have nOs := own_far33 Os.out (show w2.heap.size < _ from Nat.lt_of_succ_lt HB2.out) (show w2.heap.size + 1 < _ from HB2.out) (Nat.le_refl _) (.bool l5) (.slice As Ls cs) (.slice As' Ls' cs') (.bool l6) (.slice At Lt ct) (.slice At' Lt' ct')
  have nOt := own_far33 Ot.out (show w2.heap.size < _ from Nat.lt_of_succ_lt HB2.out) (show w2.heap.size + 1 < _ from HB2.out) (Nat.le_refl _) (.bool l5) (.slice As Ls cs) (.slice As' Ls' cs') (.bool l6) (.slice At Lt ct) (.slice At' Lt' ct')
  clear HG B3 B4 B1 B2 Op Oq Os Ot
  have HG := Lib.hid hG; have B3 := Lib.hid nb1; have B4 := Lib.hid nb2; have B1 := Lib.hid nB1; have B2 := Lib.hid nB2; have Op := Lib.hid nOp; have Oq := Lib.hid nOq; have Os := Lib.hid nOs; have Ot := Lib.hid nOt
  clear hG nb1 nb2 nB1 nB2 nOp nOq nOs nOt
  have Na := Lib.hid (NaW.out.keep HG.out); have Nb := Lib.hid (NbW.out.keep HG.out)
  generalize ((((((w10.setCell ⟨w2.heap.size, 0, none⟩ (.bool l5)).setCell ⟨w2.heap.size, 1, none⟩ (.slice As Ls cs)).setCell ⟨w2.heap.size, 2, none⟩ (.slice As' Ls' cs')).setCell ⟨w2.heap.size + 1, 0, none⟩ (.bool l6)).setCell ⟨w2.heap.size + 1, 1, none⟩ (.slice At Lt ct)).setCell ⟨w2.heap.size + 1, 2, none⟩ (.slice At' Lt' ct')) = w11 at *
  have Np := Lib.hid Op.out.nd; have Nq := Lib.hid Oq.out.nd; have Ns := Lib.hid Os.out.nd; have Nt := Lib.hid Ot.out.nd
  obtain ⟨B10, B11, B12⟩ := box3 B1.out
  obtain ⟨B30, B31, B32⟩ := box3 B3.out
  go_wp2_with fail
  refine (same_call l5 Np.out Ns.out).mono ?_
  rintro e w12 ⟨rfl, hg⟩
  clear B10 B11 B12 B30 B31 B32
  replace HG := Lib.hid (HG.out.trans hg)
  replace B1 := Lib.hid (B1.out.grown hg (by simp))
  replace B2 := Lib.hid (B2.out.grown hg (by simp))
  replace B3 := Lib.hid (B3.out.grown hg (by simp))
  replace B4 := Lib.hid (B4.out.grown hg (by simp))
  replace Np := Lib.hid (Np.out.keep hg)
  replace Nq := Lib.hid (Nq.out.keep hg)
  replace Ns := Lib.hid (Ns.out.keep hg)
  replace Nt := Lib.hid (Nt.out.keep hg)
  clear hg
  obtain ⟨B20, B21, B22⟩ := box3 B2.out
  obtain ⟨B40, B41, B42⟩ := box3 B4.out
  go_wp2_with fail
  refine (same_call l6 Nq.out Nt.out).mono ?_
  rintro e w13 ⟨rfl, hg⟩
  clear B20 B21 B22 B40 B41 B42
  replace HG := Lib.hid (HG.out.trans hg)
  replace B1 := Lib.hid (B1.out.grown hg (by simp))
  replace B2 := Lib.hid (B2.out.grown hg (by simp))
  replace B3 := Lib.hid (B3.out.grown hg (by simp))
  replace B4 := Lib.hid (B4.out.grown hg (by simp))
  replace Np := Lib.hid (Np.out.keep hg)
  replace Nq := Lib.hid (Nq.out.keep hg)
  replace Ns := Lib.hid (Ns.out.keep hg)
  replace Nt := Lib.hid (Nt.out.keep hg)
  clear hg
  go_wp2_with fail
  refine (lives_call _).mono ?_
  rintro e w14 ⟨rfl, hg⟩
  replace HG := Lib.hid (HG.out.trans hg)
  replace B1 := Lib.hid (B1.out.grown hg (by simp))
  replace B2 := Lib.hid (B2.out.grown hg (by simp))
  replace B3 := Lib.hid (B3.out.grown hg (by simp))
  replace B4 := Lib.hid (B4.out.grown hg (by simp))
  replace Np := Lib.hid (Np.out.keep hg)
  replace Nq := Lib.hid (Nq.out.keep hg)
  replace Ns := Lib.hid (Ns.out.keep hg)
  replace Nt := Lib.hid (Nt.out.keep hg)
  clear hg
  go_wp2_with fail
  go_ret
  exact ⟨rfl, below_none HG.out⟩
end Go.Proofs.Ytlbadapcaooieaa.NodeHalves
