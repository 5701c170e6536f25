/- The walk over the law NodeBack: two halves are the whole again. -/
import Derived.Test.YtlbadapcaooieaaNdLives
import Derived.Test.YtlbadapcaooieaaNdJoin
import Derived.Test.YtlbadapcaooieaaNdBits
namespace Go.Proofs.Ytlbadapcaooieaa.NodeBack
open Go.ChangeShapes Go.WideShapes Go.ChangeAt Go.RowKit
open Crc CrcMath Mem Codec Go.Proofs.Ytlbadapcaooieaa.Node NdSpec
set_option linter.unusedVariables false
set_option linter.unusedSimpArgs false

set_option maxRecDepth 100000 in
set_option maxHeartbeats 6400000 in
theorem walk {H : Type} {enc : TypeId × Value → H} (W : World) (base : Nat) (v0 : Value) (d0 : DataW H) (p0 : List MemPlace)
    (o0 : Value.okWide Try.prog W .any base 24 v0)
    (h0 : DataW.Trod enc Try.prog W 0 (fun _ => true) true 24 v0 d0 p0)
    (hsz : (DataW.weightsEach Try.prog [24] [d0]).all (· ≤ reachBytes) = true) :
    Calls Try.prog 8 #[v0] W fun e W' => e = .returned (.bool true) ∧ Below W.heap.size W W' := by
  obtain ⟨lf, An, An', Ln, Ln', cn, cn', ks, vs, rfl, hatn⟩ := open_nd o0 h0
  clear o0 h0 hsz
  have HG := Lib.hid (World.grownBy.refl W none)
  have Nn := Lib.hid hatn
  clear hatn
  have hg := World.grownBy_alloc W (.cells #[.bool lf, .slice An Ln cn, .slice An' Ln' cn'] 24) none
  replace HG := Lib.hid (HG.out.trans hg)
  replace Nn := Lib.hid (Nn.out.keep hg)
  have Bn := Lib.hid (Blk.new (W) 24 #[.bool lf, .slice An Ln cn, .slice An' Ln' cn'])
  clear hg
  rcases split_back lf ks vs with hr | ⟨k1, v1, k2, v2, hr, hj, hs, hl1, hl2, hl3⟩
  · have HS := Lib.hid (fun (X : World) (hX : NdAt X An An' Ln Ln' cn cn' ks vs) => by have q := split_call lf hX; rw [hr] at q; exact q)
    clear hr
    go_enter Try.func8, Try.ntmps8
    go_wp2_with fail
    refine (HS.out _ Nn.out).mono ?_
    rintro e w1 hT
    obtain ⟨AN1, AN1', LN1, LN1', cN1, cN1', AN2, AN2', LN2, LN2', cN2, cN2', rfl, hg, hat, hat2⟩ := hT.open_
    replace HG := Lib.hid (HG.out.trans hg)
    replace Bn := Lib.hid (Bn.out.grown hg (by simp))
    replace Nn := Lib.hid (Nn.out.keep hg)
    have N1 := Lib.hid hat; have N2 := Lib.hid hat2
    clear hg hat hat2 hT
    have hg := (World.grownBy_alloc w1 (.cells #[.bool false, .slice AN1 LN1 cN1, .slice AN1' LN1' cN1'] 24) none).trans (World.grownBy_alloc _ (.cells #[.bool false, .slice AN2 LN2 cN2, .slice AN2' LN2' cN2'] 24) none)
    replace HG := Lib.hid (HG.out.trans hg)
    replace Bn := Lib.hid (Bn.out.grown hg (by simp))
    replace Nn := Lib.hid (Nn.out.keep hg)
    replace N1 := Lib.hid (N1.out.keep hg)
    replace N2 := Lib.hid (N2.out.keep hg)
    obtain ⟨hx, hy⟩ := two2 w1 24 #[.bool false, .slice AN1 LN1 cN1, .slice AN1' LN1' cN1'] #[.bool false, .slice AN2 LN2 cN2, .slice AN2' LN2' cN2']
    have B1 := Lib.hid hx; have B2 := Lib.hid hy
    clear hg hx hy
    have e1 : LN1 = 0 := by have := N1.out.klen; simpa [NdSpec.nil] using this.symm
    have e2 : LN2 = 0 := by have := N2.out.klen; simpa [NdSpec.nil] using this.symm
    subst e1 e2
    obtain ⟨B10, B11, B12⟩ := box3 B1.out
    obtain ⟨B20, B21, B22⟩ := box3 B2.out
    go_wp2_with fail
    refine (lives_call _).mono ?_
    rintro e w3 ⟨rfl, hg⟩
    clear B10 B11 B12 B20 B21 B22
    replace HG := Lib.hid (HG.out.trans hg)
    replace Bn := Lib.hid (Bn.out.grown hg (by simp))
    replace B1 := Lib.hid (B1.out.grown hg (by simp))
    replace B2 := Lib.hid (B2.out.grown hg (by simp))
    replace Nn := Lib.hid (Nn.out.keep hg)
    replace N1 := Lib.hid (N1.out.keep hg)
    replace N2 := Lib.hid (N2.out.keep hg)
    clear hg
    go_wp2_with fail
    go_ret
    exact ⟨rfl, below_none HG.out⟩
  · have HS := Lib.hid (fun (X : World) (hX : NdAt X An An' Ln Ln' cn cn' ks vs) => by have q := split_call lf hX; rw [hr] at q; exact q)
    have HJ := Lib.hid (fun (X : World) (A A' B B' : Option Addr) (n n' m m' c c' d d' : Nat) (hX : NdAt X A A' n n' c c' k1 v1) (hY : NdAt X B B' m m' d d' k2 v2) => by have q := join_call lf lf hX hY; rw [hj] at q; exact q)
    have HSH := Lib.hid (fun (X : World) (A A' B B' : Option Addr) (n n' m m' c c' d d' : Nat) (hX : NdAt X A A' n n' c c' k1 v1) (hY : NdAt X B B' m m' d d' k2 v2) => by have q := share_call lf lf hX hY; rw [hs] at q; exact q)
    have HL := Lib.hid (And.intro hl1 (And.intro hl2 hl3))
    clear hr hj hs hl1 hl2 hl3
    go_enter Try.func8, Try.ntmps8
    go_wp2_with fail
    refine (HS.out _ Nn.out).mono ?_
    rintro e w1 hT
    obtain ⟨AN1, AN1', LN1, LN1', cN1, cN1', AN2, AN2', LN2, LN2', cN2, cN2', rfl, hg, hat, hat2⟩ := hT.open_
    replace HG := Lib.hid (HG.out.trans hg)
    replace Bn := Lib.hid (Bn.out.grown hg (by simp))
    replace Nn := Lib.hid (Nn.out.keep hg)
    have N1 := Lib.hid hat; have N2 := Lib.hid hat2
    clear hg hat hat2 hT
    have hg := (World.grownBy_alloc w1 (.cells #[.bool lf, .slice AN1 LN1 cN1, .slice AN1' LN1' cN1'] 24) none).trans (World.grownBy_alloc _ (.cells #[.bool lf, .slice AN2 LN2 cN2, .slice AN2' LN2' cN2'] 24) none)
    replace HG := Lib.hid (HG.out.trans hg)
    replace Bn := Lib.hid (Bn.out.grown hg (by simp))
    replace Nn := Lib.hid (Nn.out.keep hg)
    replace N1 := Lib.hid (N1.out.keep hg)
    replace N2 := Lib.hid (N2.out.keep hg)
    obtain ⟨hx, hy⟩ := two2 w1 24 #[.bool lf, .slice AN1 LN1 cN1, .slice AN1' LN1' cN1'] #[.bool lf, .slice AN2 LN2 cN2, .slice AN2' LN2' cN2']
    have B1 := Lib.hid hx; have B2 := Lib.hid hy
    clear hg hx hy
    obtain ⟨B10, B11, B12⟩ := box3 B1.out
    obtain ⟨B20, B21, B22⟩ := box3 B2.out
    go_wp2_with fail
    refine (HJ.out _ _ _ _ _ _ _ _ _ _ _ _ _ N1.out N2.out).mono ?_
    rintro e w2 hT
    clear B10 B11 B12 B20 B21 B22
    obtain ⟨AN3, AN3', LN3, LN3', cN3, cN3', rfl, hg, hat⟩ := hT.open_
    replace HG := Lib.hid (HG.out.trans hg)
    replace Bn := Lib.hid (Bn.out.grown hg (by simp))
    replace B1 := Lib.hid (B1.out.grown hg (by simp))
    replace B2 := Lib.hid (B2.out.grown hg (by simp))
    replace Nn := Lib.hid (Nn.out.keep hg)
    replace N1 := Lib.hid (N1.out.keep hg)
    replace N2 := Lib.hid (N2.out.keep hg)
    have N3 := Lib.hid hat
    clear hg hat hT
    have hg := World.grownBy_alloc w2 (.cells #[.bool lf, .slice AN3 LN3 cN3, .slice AN3' LN3' cN3'] 24) none
    replace HG := Lib.hid (HG.out.trans hg)
    replace Bn := Lib.hid (Bn.out.grown hg (by simp))
    replace B1 := Lib.hid (B1.out.grown hg (by simp))
    replace B2 := Lib.hid (B2.out.grown hg (by simp))
    replace Nn := Lib.hid (Nn.out.keep hg)
    replace N1 := Lib.hid (N1.out.keep hg)
    replace N2 := Lib.hid (N2.out.keep hg)
    replace N3 := Lib.hid (N3.out.keep hg)
    have B3 := Lib.hid (Blk.new w2 24 #[.bool lf, .slice AN3 LN3 cN3, .slice AN3' LN3' cN3'])
    clear hg
    obtain ⟨B30, B31, B32⟩ := box3 B3.out
    obtain ⟨Bn0, Bn1, Bn2⟩ := box3 Bn.out
    go_wp2_with fail
    refine (same_call lf N3.out Nn.out).mono ?_
    rintro e w3 ⟨rfl, hg⟩
    clear B30 B31 B32 Bn0 Bn1 Bn2
    replace HG := Lib.hid (HG.out.trans hg)
    replace Bn := Lib.hid (Bn.out.grown hg (by simp))
    replace B1 := Lib.hid (B1.out.grown hg (by simp))
    replace B2 := Lib.hid (B2.out.grown hg (by simp))
    replace B3 := Lib.hid (B3.out.grown hg (by simp))
    replace Nn := Lib.hid (Nn.out.keep hg)
    replace N1 := Lib.hid (N1.out.keep hg)
    replace N2 := Lib.hid (N2.out.keep hg)
    replace N3 := Lib.hid (N3.out.keep hg)
    clear hg
    obtain ⟨B10, B11, B12⟩ := box3 B1.out
    obtain ⟨B20, B21, B22⟩ := box3 B2.out
    go_wp2_with fail
    refine (HSH.out _ _ _ _ _ _ _ _ _ _ _ _ _ N1.out N2.out).mono ?_
    rintro e w4 hT
    clear B10 B11 B12 B20 B21 B22
    obtain ⟨AN4, AN4', LN4, LN4', cN4, cN4', AN5, AN5', LN5, LN5', cN5, cN5', rfl, hg, hat, hat2⟩ := hT.open_
    replace HG := Lib.hid (HG.out.trans hg)
    replace Bn := Lib.hid (Bn.out.grown hg (by simp))
    replace B1 := Lib.hid (B1.out.grown hg (by simp))
    replace B2 := Lib.hid (B2.out.grown hg (by simp))
    replace B3 := Lib.hid (B3.out.grown hg (by simp))
    replace Nn := Lib.hid (Nn.out.keep hg)
    replace N1 := Lib.hid (N1.out.keep hg)
    replace N2 := Lib.hid (N2.out.keep hg)
    replace N3 := Lib.hid (N3.out.keep hg)
    have N4 := Lib.hid hat; have N5 := Lib.hid hat2
    clear hg hat hat2 hT
    have hg := (World.grownBy_alloc w4 (.cells #[.bool lf, .slice AN4 LN4 cN4, .slice AN4' LN4' cN4'] 24) none).trans (World.grownBy_alloc _ (.cells #[.bool lf, .slice AN5 LN5 cN5, .slice AN5' LN5' cN5'] 24) none)
    replace HG := Lib.hid (HG.out.trans hg)
    replace Bn := Lib.hid (Bn.out.grown hg (by simp))
    replace B1 := Lib.hid (B1.out.grown hg (by simp))
    replace B2 := Lib.hid (B2.out.grown hg (by simp))
    replace B3 := Lib.hid (B3.out.grown hg (by simp))
    replace Nn := Lib.hid (Nn.out.keep hg)
    replace N1 := Lib.hid (N1.out.keep hg)
    replace N2 := Lib.hid (N2.out.keep hg)
    replace N3 := Lib.hid (N3.out.keep hg)
    replace N4 := Lib.hid (N4.out.keep hg)
    replace N5 := Lib.hid (N5.out.keep hg)
    obtain ⟨hx, hy⟩ := two2 w4 24 #[.bool lf, .slice AN4 LN4 cN4, .slice AN4' LN4' cN4'] #[.bool lf, .slice AN5 LN5 cN5, .slice AN5' LN5' cN5']
    have B4 := Lib.hid hx; have B5 := Lib.hid hy
    clear hg hx hy
    have e1 : k1.length = LN4 := N4.out.klen
    have e2 : k2.length = LN5 := N5.out.klen
    have h1 := HL.out
    rw [e1, e2] at h1
    have hd : ((LN4 : Int) - (LN5 : Int)) = ((LN4 - LN5 : Nat) : Int) := by omega
    obtain ⟨D, hD⟩ : ∃ D, LN4 - LN5 = D := ⟨_, rfl⟩
    rw [hD] at hd
    have hw : IntKind.i64.wrap ((LN4 : Int) - (LN5 : Int)) = (D : Int) := by rw [hd]; exact IntWalk.i64_in _ (by omega)
    have hD1 : D ≤ 1 := by omega
    have hge : ((0 : Int) ≤ (D : Int)) := by omega
    have hle : ((D : Int) ≤ 1) := by omega
    have hl4 : LN4 ≤ 8 := by omega
    have hl5 : LN5 ≤ LN4 := by omega
    clear e1 e2 h1 hd hD
    obtain ⟨B40, B41, B42⟩ := box3 B4.out
    obtain ⟨B50, B51, B52⟩ := box3 B5.out
    go_wp2_with fail
    refine (lives_call _).mono ?_
    rintro e w5 ⟨rfl, hg⟩
    clear B40 B41 B42 B50 B51 B52
    replace HG := Lib.hid (HG.out.trans hg)
    replace Bn := Lib.hid (Bn.out.grown hg (by simp))
    replace B1 := Lib.hid (B1.out.grown hg (by simp))
    replace B2 := Lib.hid (B2.out.grown hg (by simp))
    replace B3 := Lib.hid (B3.out.grown hg (by simp))
    replace B4 := Lib.hid (B4.out.grown hg (by simp))
    replace B5 := Lib.hid (B5.out.grown hg (by simp))
    replace Nn := Lib.hid (Nn.out.keep hg)
    replace N1 := Lib.hid (N1.out.keep hg)
    replace N2 := Lib.hid (N2.out.keep hg)
    replace N3 := Lib.hid (N3.out.keep hg)
    replace N4 := Lib.hid (N4.out.keep hg)
    replace N5 := Lib.hid (N5.out.keep hg)
    clear hg
    go_wp2_with fail
    go_ret
    exact ⟨rfl, below_none HG.out⟩
end Go.Proofs.Ytlbadapcaooieaa.NodeBack
