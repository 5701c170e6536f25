/- The walk over the law NodeOwns: what is handed in stays as it is; what is answered is the caller's, the room behind it too. -/
import Derived.Test.YtlbadapcaooieaaNdRows
import Derived.Test.YtlbadapcaooieaaNdDrop
import Derived.Test.YtlbadapcaooieaaNdJoin
import Derived.Test.YtlbadapcaooieaaNdRefPut
namespace Go.Proofs.Ytlbadapcaooieaa.NodeOwns
open Go.ChangeShapes Go.WideShapes Go.ChangeAt Go.RowKit
open Crc CrcMath Mem Codec Go.Proofs.Ytlbadapcaooieaa.Node NdSpec
set_option linter.unusedVariables false
set_option linter.unusedSimpArgs false

set_option maxRecDepth 100000 in
set_option maxHeartbeats 12800000 in
theorem walk {H : Type} {enc : TypeId × Value → H} (W : World) (base : Nat) (v0 v1 v2 : Value) (d0 d1 d2 : DataW H) (p0 p1 p2 : List MemPlace)
    (o0 : Value.okWide Try.prog W .any base 24 v0)
    (o1 : Value.okWide Try.prog W .any base 3 v1)
    (o2 : Value.okWide Try.prog W .any base 3 v2)
    (h0 : DataW.Trod enc Try.prog W 0 (fun _ => true) true 24 v0 d0 p0)
    (h1 : DataW.Trod enc Try.prog W 0 (fun _ => true) true 3 v1 d1 p1)
    (h2 : DataW.Trod enc Try.prog W 0 (fun _ => true) true 3 v2 d2 p2)
    (hsz : (DataW.weightsEach Try.prog [24, 3, 3] [d0, d1, d2]).all (· ≤ reachBytes) = true) :
    Calls Try.prog 9 #[v0, v1, v2] W fun e W' => e = .returned (.bool true) ∧ Below W.heap.size W W' := by
  have hs : ∀ n ∈ d0.weights Try.prog 24, n ≤ reachBytes := fun n hn => by
    have := List.all_eq_true.1 hsz n (DataW.weights_mem_each (ts := [24, 3, 3]) (ds := [d0, d1, d2]) (j := 0) rfl rfl n hn)
    simpa using this
  obtain ⟨lf, An, An', Ln, Ln', cn, cn', ks, vs, rfl, hat, hb1, hb2⟩ := open_nd_sized o0 h0 hs
  obtain ⟨key, rfl, hkey⟩ := open_int_at o1 h1
  obtain ⟨val, rfl, hval⟩ := open_int_at o2 h2
  clear o0 h0 o1 h1 o2 h2 hsz hs
  simp only [reachBytes] at hb1 hb2
  obtain ⟨i0, hi0, hz0, hz1, hz2⟩ := info_int
  have hi := Lib.hid hi0; have z0 := Lib.hid hz0; have z1 := Lib.hid hz1; have z2 := Lib.hid hz2
  obtain ⟨j0, hj0, hy0, hy1, hy2⟩ := node_info
  have hj := Lib.hid hj0; have y0 := Lib.hid hy0; have y1 := Lib.hid hy1; have y2 := Lib.hid hy2
  clear hi0 hz0 hz1 hz2 hj0 hy0 hy1 hy2
  have hlp := putR_len lf ks vs key val; have hld := dropR_len lf ks vs key; have hls := splitR_len lf ks vs
  obtain ⟨⟨pe, pl, pk, pv⟩, hp⟩ : ∃ r, putR lf ks vs key val = r := ⟨_, rfl⟩
  obtain ⟨⟨de, dl, dk, dv⟩, hd⟩ : ∃ r, dropR lf ks vs key = r := ⟨_, rfl⟩
  obtain ⟨⟨se, ⟨l3, k3, u3⟩, ⟨l4, k4, u4⟩⟩, hq⟩ : ∃ r, splitR lf ks vs = r := ⟨_, rfl⟩
  rw [hp] at hlp; rw [hd] at hld; rw [hq] at hls
  simp only at hlp hld hls
  have HP := Lib.hid (fun (X : World) (A A' : Option Addr) (c c' : Nat) (hX : NdAt X A A' Ln Ln' c c' ks vs) => by have q := put_call lf key val hX hkey hval; rw [hp] at q; exact q)
  have HRP := Lib.hid (fun (X : World) (A A' : Option Addr) (c c' : Nat) (hX : NdAt X A A' Ln Ln' c c' ks vs) => by have q := rput_call lf key val hX hkey hval; rw [hp] at q; exact q)
  have HD := Lib.hid (fun (X : World) (A A' : Option Addr) (c c' : Nat) (hX : NdAt X A A' Ln Ln' c c' ks vs) => by have q := drop_call lf key hX; rw [hd] at q; exact q)
  have HS := Lib.hid (fun (X : World) (A A' : Option Addr) (c c' : Nat) (hX : NdAt X A A' Ln Ln' c c' ks vs) => by have q := split_call lf hX; rw [hq] at q; exact q)
  have HLEN := Lib.hid (And.intro hlp (And.intro hld hls))
  have hpe : ((pe : Int) == pe) = true := by simp
  have HNW := Lib.hid hat
  have hsm := hat.small; have hcm := hat.cm; have hcm' := hat.cm'; have hnc := hat.nc; have hnc' := hat.nc'
  simp only [maxLen] at hcm hcm'
  have hg0 := (World.grownBy_alloc W (.cells #[.bool lf, .slice An Ln cn, .slice An' Ln' cn'] 24) none).trans (World.grownBy_alloc _ (.cells #[.bool lf, .slice none 0 0, .slice none 0 0] 24) none)
  obtain ⟨hx1, hx2⟩ := two2 W 24 #[.bool lf, .slice An Ln cn, .slice An' Ln' cn'] #[.bool lf, .slice none 0 0, .slice none 0 0]
  have hs2 : ((W.alloc (.cells #[.bool lf, .slice An Ln cn, .slice An' Ln' cn'] 24)).alloc (.cells #[.bool lf, .slice none 0 0, .slice none 0 0] 24)).heap.size = W.heap.size + 2 := by rw [World.size_alloc, World.size_alloc]
  have HG0 := Lib.hid hg0; have HB0 := Lib.hid hx1
  have HGA := Lib.hid (show Gat _ _ (· ≤ W.heap.size) W.heap.size (W.heap.size + 1) lf (.slice none 0 0) (.slice none 0 0) [] [] from
    ⟨Kept.refl _ _, fun i hi => by rw [hs2]; omega, by omega, hx2, NdOwn.nil _ _, fun i hi => by simp [Value.ownBlock] at hi, fun i hi => by simp [Value.ownBlock] at hi⟩)
  have HSZ0 := Lib.hid hg0.size
  clear hp hd hq hlp hld hls hkey hval hat hg0 hx1 hx2 hs2
  go_enter Try.func9, Try.ntmps9
  go_upto_region 2 with fail
  generalize hW0 : (W.alloc (.cells #[.bool lf, .slice An Ln cn, .slice An' Ln' cn'] 24)).alloc (.cells #[.bool lf, .slice none 0 0, .slice none 0 0] 24) = W0 at *
  clear hW0
  obtain ⟨a0, a1, a2⟩ := box3 HB0.out
  obtain ⟨⟨b0, b1, b2⟩, e0, e1, e2⟩ := HGA.out.cells
  have hn0 := HNW.out.keep HG0.out
  obtain ⟨bb, hin⟩ := hn0.k
  have HRD := Lib.hid (reads_of_ints hin)
  have HIN := Lib.hid hin
  have HOK := Lib.hid (show W0.ownsRow W.heap.size 3 1 (.slice none 0 0) 0 [] from World.ownsRow_nil _ _ _ _)
  clear hn0 hin
  go_upto_region 3 with (first
    | (at_builtin
       refine wpList_append_any _ rfl (.tmp 32) (.tmp 34) _ rfl W.heap.size 3 i0 _ 1 8 Try.underlying22 hi.out z0.out z1.out z2.out rfl (by omega) (.slice none 0 0) 0 [] rfl HOK.out
         _ An Ln cn (i64s ks) rfl HRD.out (i64s_one _) (by simp only [maxLen]; omega) (by omega) HSZ0.out ?_
       intro v' w' hown' hgr hwh
       have hgc := HGA.out.key (l := ks) (m := Ln) hgr (own_of_nil hown') hwh HIN.out.1 HIN.out.2.1
       have hbb := HGA.out.box.grown hgr (fun e => (HGA.out.r1 _ e.symm).2 rfl)
       rw [Nat.zero_add] at hown'
       obtain ⟨A6, c6, hv, _, _, _⟩ := (Own.of hown').shape
       subst hv
       have q1 := hbb.cell 1
       have q2 := hbb.frozen 1
       simp only [List.getElem?_toArray, List.getElem?_cons_zero, List.getElem?_cons_succ] at q1
       have HGC := Lib.hid hgc
       clear hgc hbb hown' hgr hwh))
  clear a0 a1 a2 b0 b1 b2 e0 e1 e2 q1 q2 HRD HIN HOK HGA
  have hga := HGC.out
  clear HGC
  generalize w'.setCell ⟨W.heap.size + 1, 1, none⟩ (.slice A6 Ln c6) = W1 at *
  rw [List.nil_append] at hga
  have HGA := Lib.hid hga
  obtain ⟨a0, a1, a2⟩ := box3 (hga.kept.blk HB0.out (Nat.le_refl _))
  obtain ⟨⟨b0, b1, b2⟩, e0, e1, e2⟩ := hga.cells
  have hn0 := HNW.out.keep (hga.kept.grown HG0.out (fun i hi => by omega))
  obtain ⟨bb, hin⟩ := hn0.v
  have HRD := Lib.hid (reads_of_ints hin)
  have HIN := Lib.hid hin
  have HOK := Lib.hid (show W1.ownsRow W.heap.size 3 1 (.slice none 0 0) 0 [] from World.ownsRow_nil _ _ _ _)
  have HSZ1 := Lib.hid (Nat.le_trans HSZ0.out hga.kept.size)
  clear hn0 hin hga
  go_upto_region 4 with (first
    | (at_builtin
       refine wpList_append_any _ rfl (.tmp 38) (.tmp 40) _ rfl W.heap.size 3 i0 _ 1 8 Try.underlying22 hi.out z0.out z1.out z2.out rfl (by omega) (.slice none 0 0) 0 [] rfl HOK.out
         _ An' Ln' cn' (i64s vs) rfl HRD.out (i64s_one _) (by simp only [maxLen]; omega) (by omega) HSZ1.out ?_
       intro v' w' hown' hgr hwh
       have hgc := HGA.out.val (l := vs) (m := Ln') hgr (own_of_nil hown') hwh HIN.out.1 HIN.out.2.1
       have hbb := HGA.out.box.grown hgr (fun e => (HGA.out.r2 _ e.symm).2 rfl)
       rw [Nat.zero_add] at hown'
       obtain ⟨A7, c7, hv, _, _, _⟩ := (Own.of hown').shape
       subst hv
       have q1 := hbb.cell 2
       have q2 := hbb.frozen 2
       simp only [List.getElem?_toArray, List.getElem?_cons_zero, List.getElem?_cons_succ] at q1
       have HGC := Lib.hid hgc
       clear hgc hbb hown' hgr hwh))
  clear a0 a1 a2 b0 b1 b2 e0 e1 e2 q1 q2 HRD HIN HOK HGA
  have hga := HGC.out
  clear HGC
  generalize w'.setCell ⟨W.heap.size + 1, 2, none⟩ (.slice A7 Ln' c7) = W2 at *
  rw [List.nil_append] at hga
  have HG := Lib.hid (hga.kept.grown HG0.out (fun i hi => by omega))
  have Nn := Lib.hid (HNW.out.keep HG.out)
  have Bn := Lib.hid (hga.kept.blk HB0.out (Nat.le_refl _))
  have Bo := Lib.hid hga.box
  have HOO := Lib.hid hga.own
  have HSZ := Lib.hid (show W.heap.size + 1 < W2.heap.size from hga.box.lt)
  have HG2 := HG; have Bn2 := Bn; have Bo2 := Bo
  clear hga HSZ0 HSZ1
  have HQ2 := Lib.hid (World.grownBy.refl W2 none)
  obtain ⟨Bn0, Bn1, Bn2⟩ := box3 Bn.out
  go_wp2_with fail
  refine (HP.out _ _ _ _ _ Nn.out).mono ?_
  rintro e w3 hT
  clear Bn0 Bn1 Bn2
  obtain ⟨AO1, AO1', LO1, LO1', cO1, cO1', rfl, hg, ho, hl, hl'⟩ := hT.own_
  have SBO1 := Lib.hid HQ2.out.size
  replace HG := Lib.hid (HG.out.trans hg)
  replace Bn := Lib.hid (Bn.out.grown hg (by simp))
  replace Bo := Lib.hid (Bo.out.grown hg (by simp))
  replace Nn := Lib.hid (Nn.out.keep hg)
  replace HQ2 := Lib.hid (HQ2.out.trans hg)
  have O1 := Lib.hid ho; have HO1l := Lib.hid (And.intro hl hl')
  clear hg ho hl hl' hT
  have hg := World.grownBy_alloc w3 (.cells #[.bool pl, .slice AO1 LO1 cO1, .slice AO1' LO1' cO1'] 24) none
  replace HG := Lib.hid (HG.out.trans hg)
  replace Bn := Lib.hid (Bn.out.grown hg (by simp))
  replace Bo := Lib.hid (Bo.out.grown hg (by simp))
  replace Nn := Lib.hid (Nn.out.keep hg)
  replace O1 := Lib.hid (O1.out.keep hg)
  replace HQ2 := Lib.hid (HQ2.out.trans hg)
  have B1 := Lib.hid (Blk.new w3 24 #[.bool pl, .slice AO1 LO1 cO1, .slice AO1' LO1' cO1'])
  clear hg
  obtain ⟨Bn0, Bn1, Bn2⟩ := box3 Bn.out
  go_wp2_with fail
  refine (HD.out _ _ _ _ _ Nn.out).mono ?_
  rintro e w4 hT
  clear Bn0 Bn1 Bn2
  obtain ⟨AO2, AO2', LO2, LO2', cO2, cO2', rfl, hg, ho, hl, hl'⟩ := hT.own_
  have apO1O2 := Lib.hid (Apart2.of O1.out ho (Nat.le_refl _))
  have SBO2 := Lib.hid HQ2.out.size
  replace HG := Lib.hid (HG.out.trans hg)
  replace Bn := Lib.hid (Bn.out.grown hg (by simp))
  replace Bo := Lib.hid (Bo.out.grown hg (by simp))
  replace B1 := Lib.hid (B1.out.grown hg (by simp))
  replace Nn := Lib.hid (Nn.out.keep hg)
  replace O1 := Lib.hid (O1.out.keep hg)
  replace HQ2 := Lib.hid (HQ2.out.trans hg)
  have O2 := Lib.hid ho; have HO2l := Lib.hid (And.intro hl hl')
  clear hg ho hl hl' hT
  have hg := World.grownBy_alloc w4 (.cells #[.bool dl, .slice AO2 LO2 cO2, .slice AO2' LO2' cO2'] 24) none
  replace HG := Lib.hid (HG.out.trans hg)
  replace Bn := Lib.hid (Bn.out.grown hg (by simp))
  replace Bo := Lib.hid (Bo.out.grown hg (by simp))
  replace B1 := Lib.hid (B1.out.grown hg (by simp))
  replace Nn := Lib.hid (Nn.out.keep hg)
  replace O1 := Lib.hid (O1.out.keep hg)
  replace O2 := Lib.hid (O2.out.keep hg)
  replace HQ2 := Lib.hid (HQ2.out.trans hg)
  have B2 := Lib.hid (Blk.new w4 24 #[.bool dl, .slice AO2 LO2 cO2, .slice AO2' LO2' cO2'])
  clear hg
  obtain ⟨Bn0, Bn1, Bn2⟩ := box3 Bn.out
  go_wp2_with fail
  refine (HS.out _ _ _ _ _ Nn.out).mono ?_
  rintro e w5 hT
  clear Bn0 Bn1 Bn2
  obtain ⟨AO3, AO3', LO3, LO3', cO3, cO3', AO4, AO4', LO4, LO4', cO4, cO4', rfl, hg, ho, ho2, hap, ⟨hl, hl'⟩, hl2, hl2'⟩ := hT.own2_
  have apO1O3 := Lib.hid (Apart2.of O1.out ho (Nat.le_refl _)); have apO1O4 := Lib.hid (Apart2.of O1.out ho2 (Nat.le_refl _))
  have apO2O3 := Lib.hid (Apart2.of O2.out ho (Nat.le_refl _)); have apO2O4 := Lib.hid (Apart2.of O2.out ho2 (Nat.le_refl _))
  have apO3O4 := Lib.hid hap
  have SBO3 := Lib.hid HQ2.out.size
  replace HG := Lib.hid (HG.out.trans hg)
  replace Bn := Lib.hid (Bn.out.grown hg (by simp))
  replace Bo := Lib.hid (Bo.out.grown hg (by simp))
  replace B1 := Lib.hid (B1.out.grown hg (by simp))
  replace B2 := Lib.hid (B2.out.grown hg (by simp))
  replace Nn := Lib.hid (Nn.out.keep hg)
  replace O1 := Lib.hid (O1.out.keep hg)
  replace O2 := Lib.hid (O2.out.keep hg)
  replace HQ2 := Lib.hid (HQ2.out.trans hg)
  have O3 := Lib.hid ho; have O4 := Lib.hid ho2; have HO3l := Lib.hid (And.intro hl hl'); have HO4l := Lib.hid (And.intro hl2 hl2')
  clear hg ho ho2 hap hl hl' hl2 hl2' hT
  have hg := (World.grownBy_alloc w5 (.cells #[.bool l3, .slice AO3 LO3 cO3, .slice AO3' LO3' cO3'] 24) none).trans (World.grownBy_alloc _ (.cells #[.bool l4, .slice AO4 LO4 cO4, .slice AO4' LO4' cO4'] 24) none)
  replace HG := Lib.hid (HG.out.trans hg)
  replace Bn := Lib.hid (Bn.out.grown hg (by simp))
  replace Bo := Lib.hid (Bo.out.grown hg (by simp))
  replace B1 := Lib.hid (B1.out.grown hg (by simp))
  replace B2 := Lib.hid (B2.out.grown hg (by simp))
  replace Nn := Lib.hid (Nn.out.keep hg)
  replace O1 := Lib.hid (O1.out.keep hg)
  replace O2 := Lib.hid (O2.out.keep hg)
  replace O3 := Lib.hid (O3.out.keep hg)
  replace O4 := Lib.hid (O4.out.keep hg)
  replace HQ2 := Lib.hid (HQ2.out.trans hg)
  obtain ⟨hx, hy⟩ := two2 w5 24 #[.bool l3, .slice AO3 LO3 cO3, .slice AO3' LO3' cO3'] #[.bool l4, .slice AO4 LO4 cO4, .slice AO4' LO4' cO4']
  have B3 := Lib.hid hx; have B4 := Lib.hid hy
  clear hg hx hy
  obtain ⟨B10, B11, B12⟩ := box3 B1.out
  obtain ⟨B20, B21, B22⟩ := box3 B2.out
  obtain ⟨B30, B31, B32⟩ := box3 B3.out
  obtain ⟨B40, B41, B42⟩ := box3 B4.out
  go_upto_region 8 with fail
  generalize hw6 : (w5.alloc (.cells #[.bool l3, .slice AO3 LO3 cO3, .slice AO3' LO3' cO3'] 24)).alloc (.cells #[.bool l4, .slice AO4 LO4 cO4, .slice AO4' LO4' cO4'] 24) = w6 at *
  clear hw6
  have HCC := Lib.hid (Blk.new w6 24 #[.bool pl, .slice AO1 LO1 cO1, .slice AO1' LO1' cO1', .bool dl, .slice AO2 LO2 cO2, .slice AO2' LO2' cO2', .bool l3, .slice AO3 LO3 cO3, .slice AO3' LO3' cO3', .bool l4, .slice AO4 LO4 cO4, .slice AO4' LO4' cO4'])
  have HRD := Lib.hid (reads_blk (k := 4) (size := 3) (xs := [.bool pl, .slice AO1 LO1 cO1, .slice AO1' LO1' cO1', .bool dl, .slice AO2 LO2 cO2, .slice AO2' LO2' cO2', .bool l3, .slice AO3 LO3 cO3, .slice AO3' LO3' cO3', .bool l4, .slice AO4 LO4 cO4, .slice AO4' LO4' cO4']) HCC.out rfl)
  have HOK := Lib.hid (show (w6.alloc (.cells #[.bool pl, .slice AO1 LO1 cO1, .slice AO1' LO1' cO1', .bool dl, .slice AO2 LO2 cO2, .slice AO2' LO2' cO2', .bool l3, .slice AO3 LO3 cO3, .slice AO3' LO3' cO3', .bool l4, .slice AO4 LO4 cO4, .slice AO4' LO4' cO4'] 24)).ownsRow w6.heap.size 24 3 (.slice none 0 0) 0 [] from World.ownsRow_nil _ _ _ _)
  have HL6 := Lib.hid (show w6.heap.size ≤ (w6.alloc (.cells #[.bool pl, .slice AO1 LO1 cO1, .slice AO1' LO1' cO1', .bool dl, .slice AO2 LO2 cO2, .slice AO2' LO2' cO2', .bool l3, .slice AO3 LO3 cO3, .slice AO3' LO3' cO3', .bool l4, .slice AO4 LO4 cO4, .slice AO4' LO4' cO4'] 24)).heap.size by rw [World.size_alloc]; omega)
  have H1C := Lib.hid (show ∀ u ∈ ([.bool pl, .slice AO1 LO1 cO1, .slice AO1' LO1' cO1', .bool dl, .slice AO2 LO2 cO2, .slice AO2' LO2' cO2', .bool l3, .slice AO3 LO3 cO3, .slice AO3' LO3' cO3', .bool l4, .slice AO4 LO4 cO4, .slice AO4' LO4' cO4'] : List Value), u.oneCell' = true by simp [Value.oneCell'])
  go_upto_region 9 with (first
    | (at_builtin
       refine wpList_append_any _ rfl (.tmp 62) (.tmp 67) _ rfl w6.heap.size 24 j0 _ 3 56 Try.underlying42 hj.out y0.out y1.out y2.out rfl (by omega) (.slice none 0 0) 0 [] rfl HOK.out
         _ (some ⟨w6.heap.size, 0, none⟩) 4 4 [.bool pl, .slice AO1 LO1 cO1, .slice AO1' LO1' cO1', .bool dl, .slice AO2 LO2 cO2, .slice AO2' LO2' cO2', .bool l3, .slice AO3 LO3 cO3, .slice AO3' LO3' cO3', .bool l4, .slice AO4 LO4 cO4, .slice AO4' LO4' cO4'] rfl HRD.out H1C.out (by simp only [maxLen]; omega) (by omega) HL6.out ?_
       intro v' w7 hown' hgr hwh
       obtain ⟨gl, cap, cur, hv, hgb, hbl, _, _, htk⟩ := owns_some' hown' (by omega)
       subst hv
       have hg := (World.grownBy_alloc w6 (.cells #[.bool pl, .slice AO1 LO1 cO1, .slice AO1' LO1' cO1', .bool dl, .slice AO2 LO2 cO2, .slice AO2' LO2' cO2', .bool l3, .slice AO3 LO3 cO3, .slice AO3' LO3' cO3', .bool l4, .slice AO4 LO4 cO4, .slice AO4' LO4' cO4'] 24) none).trans hgr
       have HBL := Lib.hid hbl; have HTK := Lib.hid htk; have HGB := Lib.hid hgb; have HG7 := Lib.hid hg
       clear hown' hgr hwh hgb hbl htk hg))
  clear B10 B11 B12 B20 B21 B22 B30 B31 B32 B40 B41 B42
  obtain ⟨P, hP⟩ : ∃ P : List Pc, P = [⟨pl, AO1, AO1', LO1, LO1', cO1, cO1', pk, pv⟩, ⟨dl, AO2, AO2', LO2, LO2', cO2, cO2', dk, dv⟩, ⟨l3, AO3, AO3', LO3, LO3', cO3, cO3', k3, u3⟩, ⟨l4, AO4, AO4', LO4, LO4', cO4, cO4', k4, u4⟩] := ⟨_, rfl⟩
  have HIR := Lib.hid (show ∀ (i : Nat) (p : Pc), P[i]? = some p → IRow w7 W2.heap.size gl (.slice p.A p.n p.c) p.n ∧ IRow w7 W2.heap.size gl (.slice p.A' p.n' p.c') p.n' from by
    intro i p h
    rw [hP] at h
    have one : ∀ {b : Nat} {A A' : Option Addr} {L L' c c' : Nat} {k v : List Int}, W2.heap.size ≤ b → NdOwn w6 b (.slice A L c) (.slice A' L' c') k v → k.length = L → v.length = L' → IRow w7 W2.heap.size gl (.slice A L c) L ∧ IRow w7 W2.heap.size gl (.slice A' L' c') L' := by
      intro b A A' L L' c c' k v hb ho h1 h2
      have e1 : ∀ q, (Value.slice A L c).ownBlock = some q → q ≠ gl := fun q hq => by have := (ho.k.base_ q hq).2; have := HGB.out; omega
      have e2 : ∀ q, (Value.slice A' L' c').ownBlock = some q → q ≠ gl := fun q hq => by have := (ho.v.base_ q hq).2; have := HGB.out; omega
      have ho' := ho.keep HG7.out
      exact ⟨IRow.of ho'.k h1 hb e1, IRow.of ho'.v h2 hb e2⟩
    rcases i with _ | _ | _ | _ | i
    · simp at h; subst h; exact one SBO1.out O1.out HO1l.out.1 HO1l.out.2
    · simp at h; subst h; exact one SBO2.out O2.out HO2l.out.1 HO2l.out.2
    · simp at h; subst h; exact one SBO3.out O3.out HO3l.out.1 HO3l.out.2
    · simp at h; subst h; exact one SBO3.out O4.out HO4l.out.1 HO4l.out.2
    · simp at h)
  have HPW := Lib.hid (show ∀ (i i' : Nat) (p p' : Pc), i < i' → P[i]? = some p → P[i']? = some p' → Apart2 (.slice p.A p.n p.c) (.slice p.A' p.n' p.c') (.slice p'.A p'.n p'.c) (.slice p'.A' p'.n' p'.c') from by
    intro i i' p p' hlt h h'
    rw [hP] at h h'
    rcases i with _ | _ | _ | _ | i <;> rcases i' with _ | _ | _ | _ | i' <;> simp at h h' <;> first | omega | (subst h h'; first | exact apO1O2.out | exact apO1O3.out | exact apO1O4.out | exact apO2O3.out | exact apO2O4.out | exact apO3O4.out))
  have HOA := Lib.hid (show ∀ (i : Nat) (p : Pc), P[i]? = some p → (∀ b, (Value.slice p.A p.n p.c).ownBlock = some b → (Value.slice p.A' p.n' p.c').ownBlock ≠ some b) ∧ p.n ≤ 8 ∧ p.n' ≤ 8 from by
    intro i p h
    rw [hP] at h
    have h1 := HLEN.out
    have e1 := HO1l.out; have e2 := HO2l.out; have e3 := HO3l.out; have e4 := HO4l.out
    rcases i with _ | _ | _ | _ | i
    · simp at h; subst h; exact ⟨O1.out.apart, by simp only; omega, by simp only; omega⟩
    · simp at h; subst h; exact ⟨O2.out.apart, by simp only; omega, by simp only; omega⟩
    · simp at h; subst h; exact ⟨O3.out.apart, by simp only; omega, by simp only; omega⟩
    · simp at h; subst h; exact ⟨O4.out.apart, by simp only; omega, by simp only; omega⟩
    · simp at h)
  have HFL := Lib.hid (show cur.toList.take (4 * 3) = flat P by rw [HTK.out, hP]; rfl)
  have HPL := Lib.hid (show P.length = 4 by rw [hP]; rfl)
  have HNG := Lib.hid (show W2.heap.size ≤ gl by have := HGB.out; have := HQ2.out.size; omega)
  have hg7 := HG7.out
  replace HG := Lib.hid (HG.out.trans hg7)
  replace HQ2 := Lib.hid (HQ2.out.trans hg7)
  clear hP hg7 B1 B2 B3 B4 HTK HCC HRD HOK HL6 H1C apO1O2 apO1O3 apO1O4 apO2O3 apO2O4 apO3O4 O1 O2 O3 O4
  go_wp2_with fail
  go_loopw [16] (fun i wr => ∃ j : Nat, j ≤ 4 ∧ i = .int .i64 j ∧ Kept (fun q => q < W2.heap.size ∨ q = gl) w7 wr ∧ ∀ (i : Nat) (p : Pc), j ≤ i → P[i]? = some p → IRow wr W2.heap.size gl (.slice p.A p.n p.c) p.n ∧ IRow wr W2.heap.size gl (.slice p.A' p.n' p.c') p.n') (fun i _ => 4 - (intOf i).toNat)
  case atStart => exact ⟨0, by omega, rfl, Kept.refl _ _, fun i p _ h => HIR.out i p h⟩
  case round =>
    obtain ⟨j, hj4, rfl, hke, hrows⟩ := hrel
    have HKE := Lib.hid hke; have HROWS := Lib.hid hrows
    clear hke hrows
    by_cases hlt : j < 4
    · obtain ⟨p, hpj⟩ : ∃ p, P[j]? = some p := ⟨_, List.getElem?_eq_getElem (by rw [HPL.out]; exact hlt)⟩
      obtain ⟨f0, f1, f2⟩ := flat_at P j p hpj
      have hbl := HKE.out.blk HBL.out (.inr rfl)
      have a1 : wr.cell? ⟨gl, j * 3 + 1, none⟩ = some (.slice p.A p.n p.c) := by
        rw [hbl.cell, ← f1, ← HFL.out, List.getElem?_take_of_lt (by omega), Array.getElem?_toList]
      have a2 : wr.cell? ⟨gl, j * 3 + 2, none⟩ = some (.slice p.A' p.n' p.c') := by
        rw [hbl.cell, ← f2, ← HFL.out, List.getElem?_take_of_lt (by omega), Array.getElem?_toList]
      obtain ⟨rk, rv⟩ := HROWS.out j p (Nat.le_refl _) hpj
      obtain ⟨hap, hn8, hn8'⟩ := HOA.out j p hpj
      have HPJ := Lib.hid (fun i' p' (h : j < i') h' => HPW.out j i' p p' h hpj h')
      obtain ⟨plf, A, A', n, n', c, c', kk, vv⟩ := p
      simp only at a1 a2 rk rv hap hn8 hn8' HPJ
      have RK := Lib.hid rk; have RV := Lib.hid rv; have HAP := Lib.hid hap
      have j0 : (0 : Int) ≤ j := by omega
      have j4 : (j : Int) < 4 := by omega
      have hgl := hbl.lt
      have HGLT := Lib.hid hgl
      clear f0 f1 f2 hbl rk rv hap hpj hgl
      go_wp2_with fail
      clear a1 a2
      generalize wr = wx at *
      have TOP := Lib.hid (show ∀ q, q < wx.heap.size ∧ (Value.slice A n c).ownBlock ≠ some q → q < wx.heap.size from fun q h => h.1)
      go_loopw [19] (fun i wr => ∃ t : Nat, t ≤ n ∧ i = .int .i64 t ∧ Kept (fun q => q < wx.heap.size ∧ (Value.slice A n c).ownBlock ≠ some q) wx wr ∧ IRow wr W2.heap.size gl (.slice A n c) n) (fun i _ => n - (intOf i).toNat)
      case atStart => exact ⟨0, by omega, rfl, Kept.refl _ _, RK.out⟩
      case round =>
        obtain ⟨t, ht, rfl, hk2, hr2⟩ := hrel
        by_cases htn : t < n
        · obtain ⟨b, x, rfl, hc, hf, hbl, hset⟩ := hr2.cell htn
          have HK2 := Lib.hid hk2; have HSET := Lib.hid (hset (-7))
          have t0 : (0 : Int) ≤ t := by omega
          have t1 : (t : Int) < n := by omega
          clear hk2 hr2 hset
          go_wp2_with fail
          go_roundw
          case rel => exact ⟨t + 1, by omega, by go_num, HK2.out.set (fun h => h.2 rfl) TOP.out _, HSET.out⟩
          case measure => simp [intOf]; omega
        · obtain rfl : t = n := by omega
          have HK2 := Lib.hid hk2
          have rv2 := RV.out.kept hk2 (fun q hq => ⟨(RV.out.lt q hq).2, fun e => HAP.out q e hq⟩)
          have RK2 := Lib.hid hr2; have RV2 := Lib.hid rv2
          clear hk2 hr2 rv2 TOP
          generalize wr = wa at *
          go_wp2_with fail
          have TOP := Lib.hid (show ∀ q, q < wx.heap.size ∧ (Value.slice A t c).ownBlock ≠ some q ∧ (Value.slice A' n' c').ownBlock ≠ some q → q < wx.heap.size from fun q h => h.1)
          go_loopw [20] (fun i wr => ∃ s : Nat, s ≤ n' ∧ i = .int .i64 s ∧ Kept (fun q => q < wx.heap.size ∧ (Value.slice A t c).ownBlock ≠ some q ∧ (Value.slice A' n' c').ownBlock ≠ some q) wx wr ∧ IRow wr W2.heap.size gl (.slice A t c) t ∧ IRow wr W2.heap.size gl (.slice A' n' c') n') (fun i _ => n' - (intOf i).toNat)
          case atStart => exact ⟨0, by omega, rfl, HK2.out.mono (fun q h => ⟨h.1, h.2.1⟩), RK2.out, RV2.out⟩
          case round =>
            obtain ⟨s, hs, rfl, hk3, hr3, hv3⟩ := hrel
            by_cases hsn : s < n'
            · obtain ⟨b, x, hA', hc, hf, hbl, hset⟩ := hv3.cell hsn
              have hkb : (Value.slice A t c).ownBlock ≠ some b := fun e => HAP.out b e (by rw [hA']; rfl)
              subst hA'
              have HK3 := Lib.hid hk3; have HSET := Lib.hid (hset (-7)); have HKF := Lib.hid (hr3.far (j := s) hkb (.int .i64 (-7)))
              have s0 : (0 : Int) ≤ s := by omega
              have s1 : (s : Int) < n' := by omega
              clear hk3 hr3 hv3 hset hkb
              go_wp2_with fail
              go_roundw
              case rel => exact ⟨s + 1, by omega, by go_num, HK3.out.set (fun h => h.2.2 rfl) TOP.out _, HKF.out, HSET.out⟩
              case measure => simp [intOf]; omega
            · obtain rfl : s = n' := by omega
              have HK3 := Lib.hid hk3; have RK3 := Lib.hid hr3; have RV3 := Lib.hid hv3
              clear hk3 hr3 hv3 HK2 RK2 RV2
              generalize wr = wb at *
              go_wp2_with fail
              go_loopw [17, 18, 21] (fun vk vv i wr => ∃ (u : Nat) (Ak Av : Option Addr) (ck cv : Nat), u ≤ 8 ∧ i = .int .i64 u ∧ vk = .slice Ak (t + u) ck ∧ vv = .slice Av (s + u) cv ∧ Kept (fun q => q < wx.heap.size ∧ (Value.slice A t c).ownBlock ≠ some q ∧ (Value.slice A' s c').ownBlock ≠ some q) wx wr ∧
                IRow wr W2.heap.size gl (.slice Ak (t + u) ck) (t + u) ∧ IRow wr W2.heap.size gl (.slice Av (s + u) cv) (s + u) ∧ (∀ b, (Value.slice Ak (t + u) ck).ownBlock = some b → (Value.slice Av (s + u) cv).ownBlock ≠ some b) ∧
                (∀ b, (Value.slice Ak (t + u) ck).ownBlock = some b → ¬ (b < wx.heap.size ∧ (Value.slice A t c).ownBlock ≠ some b ∧ (Value.slice A' s c').ownBlock ≠ some b)) ∧
                (∀ b, (Value.slice Av (s + u) cv).ownBlock = some b → ¬ (b < wx.heap.size ∧ (Value.slice A t c).ownBlock ≠ some b ∧ (Value.slice A' s c').ownBlock ≠ some b))) (fun _ _ i _ => 8 - (intOf i).toNat)
              case atStart => exact ⟨0, A, A', c, c', by omega, rfl, rfl, rfl, HK3.out, RK3.out, RV3.out, HAP.out, fun b hb h => h.2.1 hb, fun b hb h => h.2.2 hb⟩
              case round =>
                obtain ⟨u, Ak, Av, ck, cv, hu, rfl, rfl, rfl, hk4, hr4, hv4, hap4, hnk, hnv⟩ := hrel
                by_cases hu8 : u < 8
                · obtain ⟨⟨xs, hsx⟩, hne⟩ := hr4
                  have HK4 := Lib.hid hk4; have HV4 := Lib.hid hv4; have HAP4 := Lib.hid hap4; have HNK := Lib.hid hnk; have HNV := Lib.hid hnv; have HNE := Lib.hid hne
                  have HSX := Lib.hid (show (wr.alloc (.cells #[.int .i64 (-7)] 3)).ownsRow W2.heap.size 3 1 (.slice Ak (t + u) ck) (t + u) (i64s xs) from Sole.alloc hsx _)
                  have HLT := Lib.hid (show gl < (wr.alloc (.cells #[.int .i64 (-7)] 3)).heap.size ∧ W2.heap.size ≤ (wr.alloc (.cells #[.int .i64 (-7)] 3)).heap.size ∧ wx.heap.size ≤ (wr.alloc (.cells #[.int .i64 (-7)] 3)).heap.size by
                    have := HGLT.out; have := hk4.size; have := HNG.out
                    rw [World.size_alloc]; omega)
                  have u0 : (0 : Int) ≤ u := by omega
                  have u8 : (u : Int) < 8 := by omega
                  clear hk4 hv4 hap4 hnk hnv hne hsx
                  go_upto_region 26 with (first
                    | (at_builtin
                       refine wpList_append_any _ rfl (.tmp 107) (.tmp 108) _ rfl W2.heap.size 3 i0 _ 1 8 Try.underlying22 hi.out z0.out z1.out z2.out rfl (by omega) (.slice Ak (t + u) ck) (t + u) (i64s xs) rfl HSX.out
                         _ _ 1 1 [.int .i64 (-7)] rfl (reads_one_int _ _) (fun u hu => by simp at hu; subst hu; rfl) (by simp only [maxLen]; omega) (by omega) HLT.out.2.1 ?_
                       intro v' w' hown' hgr hwh
                       have hir := IRow.app (u := -7) HLT.out.1 HNE.out hown' hwh
                       have hvr := (HV4.out.quiet (World.grownBy_alloc wr (.cells #[.int .i64 (-7)] 3) none)).row hgr (fun b hb e => HAP4.out b e hb)
                       have hkr := (HK4.out.then_ (World.grownBy_alloc wr (.cells #[.int .i64 (-7)] 3) none) TOP.out (fun _ e => by cases e)).then_ hgr TOP.out HNK.out
                       have hnk' : ∀ b, v'.ownBlock = some b → ¬ (b < wx.heap.size ∧ (Value.slice A t c).ownBlock ≠ some b ∧ (Value.slice A' s c').ownBlock ≠ some b) := by
                         intro b hb h
                         rcases hwh with e | e
                         · exact HNK.out b (e ▸ hb) h
                         · rw [e] at hb; cases hb; have := HLT.out.2.2; omega
                       have hap' : ∀ b, v'.ownBlock = some b → (Value.slice Av (s + u) cv).ownBlock ≠ some b := by
                         intro b hb e2
                         rcases hwh with e | e
                         · exact HAP4.out b (e ▸ hb) e2
                         · rw [e] at hb; cases hb; have := (HV4.out.lt _ e2).2; rw [World.size_alloc] at this; omega
                       obtain ⟨A8, c8, hv, _, _, _⟩ := (Own.of hown').shape
                       subst hv
                       have IK := Lib.hid hir; have IV := Lib.hid hvr; have KK := Lib.hid hkr; have NK := Lib.hid hnk'; have AP := Lib.hid hap'
                       clear hir hvr hkr hnk' hap' hown' hgr hwh))
                  have ivv := IV.out
                  obtain ⟨⟨ys, hsy⟩, hney⟩ := ivv
                  have HNEY := Lib.hid hney
                  have HSY := Lib.hid (show (w'.alloc (.cells #[.int .i64 (-7)] 3)).ownsRow W2.heap.size 3 1 (.slice Av (s + u) cv) (s + u) (i64s ys) from Sole.alloc hsy _)
                  have HLT2 := Lib.hid (show gl < (w'.alloc (.cells #[.int .i64 (-7)] 3)).heap.size ∧ W2.heap.size ≤ (w'.alloc (.cells #[.int .i64 (-7)] 3)).heap.size ∧ wx.heap.size ≤ (w'.alloc (.cells #[.int .i64 (-7)] 3)).heap.size by
                    have := HGLT.out; have := KK.out.size; have := HNG.out
                    rw [World.size_alloc]; omega)
                  clear hsy hney HSX HLT HNE
                  go_wp2_with (first
                    | (at_builtin
                       refine wpList_append_any _ rfl (.tmp 110) (.tmp 111) _ rfl W2.heap.size 3 i0 _ 1 8 Try.underlying22 hi.out z0.out z1.out z2.out rfl (by omega) (.slice Av (s + u) cv) (s + u) (i64s ys) rfl HSY.out
                         _ _ 1 1 [.int .i64 (-7)] rfl (reads_one_int _ _) (fun u hu => by simp at hu; subst hu; rfl) (by simp only [maxLen]; omega) (by omega) HLT2.out.2.1 ?_
                       intro v' w9 hown' hgr hwh
                       have hir := IRow.app (u := -7) HLT2.out.1 HNEY.out hown' hwh
                       have hvr := (IK.out.quiet (World.grownBy_alloc w' (.cells #[.int .i64 (-7)] 3) none)).row hgr (fun b hb e => AP.out b hb e)
                       have hkr := (KK.out.then_ (World.grownBy_alloc w' (.cells #[.int .i64 (-7)] 3) none) TOP.out (fun _ e => by cases e)).then_ hgr TOP.out HNV.out
                       have hnv' : ∀ b, v'.ownBlock = some b → ¬ (b < wx.heap.size ∧ (Value.slice A t c).ownBlock ≠ some b ∧ (Value.slice A' s c').ownBlock ≠ some b) := by
                         intro b hb h
                         rcases hwh with e | e
                         · exact HNV.out b (e ▸ hb) h
                         · rw [e] at hb; cases hb; have := HLT2.out.2.2; omega
                       have hap' : ∀ b, (Value.slice A8 (t + u + 1) c8).ownBlock = some b → v'.ownBlock ≠ some b := by
                         intro b hb e2
                         rcases hwh with e | e
                         · exact AP.out b hb (e ▸ e2)
                         · rw [e] at e2; cases e2; have := (IK.out.lt _ hb).2; rw [World.size_alloc] at this; omega
                       obtain ⟨A9, c9, hv, _, _, _⟩ := (Own.of hown').shape
                       subst hv
                       have IK2 := Lib.hid hvr; have IV2 := Lib.hid hir; have KK2 := Lib.hid hkr; have NV2 := Lib.hid hnv'; have AP2 := Lib.hid hap'
                       clear hir hvr hkr hnv' hap' hown' hgr hwh))
                  go_roundw
                  case rel => exact ⟨u + 1, A8, A9, c8, c9, by omega, by go_num, rfl, rfl, KK2.out, IK2.out, IV2.out, AP2.out, NK.out, NV2.out⟩
                  case measure => simp [intOf]; omega
                · have hu8' : ¬ ((u : Int) < 8) := by omega
                  have HKN := Lib.hid (HKE.out.trans (hk4.mono (fun q (h : q < W2.heap.size ∨ q = gl) => ⟨by have := HGLT.out; have := HNG.out; omega, fun e => by have := RK.out.lt q e; have := RK.out.2 q e; rcases h with h | h <;> omega, fun e => by have := RV.out.lt q e; have := RV.out.2 q e; rcases h with h | h <;> omega⟩)))
                  have HROW2 := Lib.hid (show ∀ (i : Nat) (p : Pc), j + 1 ≤ i → P[i]? = some p → IRow wr W2.heap.size gl (.slice p.A p.n p.c) p.n ∧ IRow wr W2.heap.size gl (.slice p.A' p.n' p.c') p.n' from by
                    intro i p hij hpi
                    obtain ⟨q1, q2⟩ := HROWS.out i p (by omega) hpi
                    have ha := HPJ.out i p (by omega) hpi
                    exact ⟨q1.kept hk4 (fun b hb => ⟨(q1.lt b hb).2, fun e => (ha b (.inl e)).1 hb, fun e => (ha b (.inr e)).1 hb⟩), q2.kept hk4 (fun b hb => ⟨(q2.lt b hb).2, fun e => (ha b (.inl e)).2 hb, fun e => (ha b (.inr e)).2 hb⟩)⟩)
                  clear hk4 hr4 hv4 hap4 hnk hnv
                  go_wp2_with fail
                  go_roundw
                  case rel => exact ⟨j + 1, by omega, by go_num, HKN.out, HROW2.out⟩
                  case measure => simp [intOf]; omega
    · have hj4' : ¬ ((j : Int) < 4) := by omega
      have hkw := (Kept.mono (K' := fun q => q < W2.heap.size) HKE.out (fun q h => .inl h))
      have hk2 : Kept (fun q => q < W2.heap.size) W2 wr := Kept.trans ((Kept.refl _ W2).then_ HQ2.out (fun q h => h) (fun _ e => by cases e)) hkw
      replace HG := Lib.hid (hk2.grown HG2.out (fun q h => by have := HSZ.out; omega))
      have Nz := Lib.hid (HNW.out.keep HG.out)
      have Bz := Lib.hid (hk2.blk Bn2.out (by have := HSZ.out; omega)); have Bo3 := Lib.hid (hk2.blk Bo2.out HSZ.out)
      have No := Lib.hid (NdOwn.nd (hk2.nd HOO.out (fun q h1 h2 => h2)))
      clear hkw hk2 HKE HROWS
      clear Bn Bo Nn
      obtain ⟨Bz0, Bz1, Bz2⟩ := box3 Bz.out
      obtain ⟨Bo30, Bo31, Bo32⟩ := box3 Bo3.out
      go_wp2_with fail
      refine (same_call lf Nz.out No.out).mono ?_
      rintro e w10 ⟨rfl, hg⟩
      clear Bz0 Bz1 Bz2 Bo30 Bo31 Bo32
      replace HG := Lib.hid (HG.out.trans hg)
      replace Bz := Lib.hid (Bz.out.grown hg (by simp))
      replace Bo3 := Lib.hid (Bo3.out.grown hg (by simp))
      replace Nz := Lib.hid (Nz.out.keep hg)
      replace No := Lib.hid (No.out.keep hg)
      clear hg
      obtain ⟨Bz0, Bz1, Bz2⟩ := box3 Bz.out
      go_wp2_with fail
      refine (HP.out _ _ _ _ _ Nz.out).mono ?_
      rintro e w11 hT
      clear Bz0 Bz1 Bz2
      obtain ⟨AN5, AN5', LN5, LN5', cN5, cN5', rfl, hg, hat⟩ := hT.open_
      replace HG := Lib.hid (HG.out.trans hg)
      replace Bz := Lib.hid (Bz.out.grown hg (by simp))
      replace Bo3 := Lib.hid (Bo3.out.grown hg (by simp))
      replace Nz := Lib.hid (Nz.out.keep hg)
      replace No := Lib.hid (No.out.keep hg)
      have N5 := Lib.hid hat
      clear hg hat hT
      have hg := World.grownBy_alloc w11 (.cells #[.bool pl, .slice AN5 LN5 cN5, .slice AN5' LN5' cN5'] 24) none
      replace HG := Lib.hid (HG.out.trans hg)
      replace Bz := Lib.hid (Bz.out.grown hg (by simp))
      replace Bo3 := Lib.hid (Bo3.out.grown hg (by simp))
      replace Nz := Lib.hid (Nz.out.keep hg)
      replace No := Lib.hid (No.out.keep hg)
      replace N5 := Lib.hid (N5.out.keep hg)
      have B5 := Lib.hid (Blk.new w11 24 #[.bool pl, .slice AN5 LN5 cN5, .slice AN5' LN5' cN5'])
      clear hg
      obtain ⟨Bo30, Bo31, Bo32⟩ := box3 Bo3.out
      go_wp2_with fail
      refine (HRP.out _ _ _ _ _ No.out).mono ?_
      rintro e w12 hT
      clear Bo30 Bo31 Bo32
      obtain ⟨AN6, AN6', LN6, LN6', cN6, cN6', rfl, hg, hat⟩ := hT.open_
      replace HG := Lib.hid (HG.out.trans hg)
      replace Bz := Lib.hid (Bz.out.grown hg (by simp))
      replace Bo3 := Lib.hid (Bo3.out.grown hg (by simp))
      replace B5 := Lib.hid (B5.out.grown hg (by simp))
      replace Nz := Lib.hid (Nz.out.keep hg)
      replace No := Lib.hid (No.out.keep hg)
      replace N5 := Lib.hid (N5.out.keep hg)
      have N6 := Lib.hid hat
      clear hg hat hT
      have hg := World.grownBy_alloc w12 (.cells #[.bool pl, .slice AN6 LN6 cN6, .slice AN6' LN6' cN6'] 24) none
      replace HG := Lib.hid (HG.out.trans hg)
      replace Bz := Lib.hid (Bz.out.grown hg (by simp))
      replace Bo3 := Lib.hid (Bo3.out.grown hg (by simp))
      replace B5 := Lib.hid (B5.out.grown hg (by simp))
      replace Nz := Lib.hid (Nz.out.keep hg)
      replace No := Lib.hid (No.out.keep hg)
      replace N5 := Lib.hid (N5.out.keep hg)
      replace N6 := Lib.hid (N6.out.keep hg)
      have B6 := Lib.hid (Blk.new w12 24 #[.bool pl, .slice AN6 LN6 cN6, .slice AN6' LN6' cN6'])
      clear hg
      obtain ⟨B50, B51, B52⟩ := box3 B5.out
      obtain ⟨B60, B61, B62⟩ := box3 B6.out
      go_wp2_with fail
      refine (same_call pl N5.out N6.out).mono ?_
      rintro e w13 ⟨rfl, hg⟩
      clear B50 B51 B52 B60 B61 B62
      replace HG := Lib.hid (HG.out.trans hg)
      replace Bz := Lib.hid (Bz.out.grown hg (by simp))
      replace Bo3 := Lib.hid (Bo3.out.grown hg (by simp))
      replace B5 := Lib.hid (B5.out.grown hg (by simp))
      replace B6 := Lib.hid (B6.out.grown hg (by simp))
      replace Nz := Lib.hid (Nz.out.keep hg)
      replace No := Lib.hid (No.out.keep hg)
      replace N5 := Lib.hid (N5.out.keep hg)
      replace N6 := Lib.hid (N6.out.keep hg)
      clear hg
      go_wp2_with fail
      refine (lives_call _).mono ?_
      rintro e w14 ⟨rfl, hg⟩
      replace HG := Lib.hid (HG.out.trans hg)
      replace Bz := Lib.hid (Bz.out.grown hg (by simp))
      replace Bo3 := Lib.hid (Bo3.out.grown hg (by simp))
      replace B5 := Lib.hid (B5.out.grown hg (by simp))
      replace B6 := Lib.hid (B6.out.grown hg (by simp))
      replace Nz := Lib.hid (Nz.out.keep hg)
      replace No := Lib.hid (No.out.keep hg)
      replace N5 := Lib.hid (N5.out.keep hg)
      replace N6 := Lib.hid (N6.out.keep hg)
      clear hg
      go_wp2_with fail
      go_ret
      exact ⟨rfl, below_none HG.out⟩
end Go.Proofs.Ytlbadapcaooieaa.NodeOwns
