/- The walk over the law CodecReads, by the contracts of what it calls. -/
import Derived.Test.YtboccfficmaoaaaMReadsFlat
import Derived.Test.YtboccfficmaoaaaMRefCatGet
import Derived.Test.YtboccfficmaoaaaMCodecPageWalk
import Derived.Test.YtboccfficmaoaaaMCodecBits2
namespace Go.Proofs.Ytboccfficmaoaaa.CodecReads
open Go.RowKit CrcMath CodecMath Mem Crc Codec

theorem list_seven {s : List Int} (h : s.length = 7) : ∃ a0 a1 a2 a3 a4 a5 a6, s = [a0, a1, a2, a3, a4, a5, a6] := by
  match s, h with
  | [a0, a1, a2, a3, a4, a5, a6], _ => exact ⟨_, _, _, _, _, _, _, rfl⟩

set_option maxRecDepth 100000 in
set_option maxHeartbeats 6400000 in
theorem walk {H : Type} {enc : TypeId × Value → H} (W : World) (base : Nat) (v0 v1 : Value) (d0 d1 : DataW H) (p0 p1 : List MemPlace)
    (o0 : Value.okWide Try.prog W .any base 22 v0)
    (o1 : Value.okWide Try.prog W .any base 3 v1)
    (h0 : DataW.Trod enc Try.prog W 0 (fun _ => true) true 22 v0 d0 p0)
    (h1 : DataW.Trod enc Try.prog W 0 (fun _ => true) true 3 v1 d1 p1)
    (hsz : (DataW.weightsEach Try.prog [22, 3] [d0, d1]).all (· ≤ reachBytes) = true) :
    Calls Try.prog 3 #[v0, v1] W fun e W' => e = .returned (.bool true) ∧ Below W.heap.size W W' := by
  obtain ⟨A, n, c, l, rfl, hl, hnc, hcm, _⟩ := open_bytes o0 h0 hsz (j := 0) rfl rfl
  obtain ⟨number, rfl, rfl, rfl, _⟩ := Go.ChangeShapes.open_int Try.underlying3 o1 h1
  clear o0 h0 o1 h1 hsz
  have hT : Tab (W.alloc (.cells zeroCs 97)) W.heap.size := .inl ⟨_, Blk.new W 97 zeroCs, fresh_zero⟩
  have hg0 := World.grownBy_alloc W (.cells zeroCs 97) none
  have HL0 := Lib.hid (bytes_keepN hl hg0); have HT := Lib.hid hT; have HG0 := Lib.hid hg0
  have HN := Lib.hid (show n ≤ 9223372036854775807 by omega); have HNC := Lib.hid hnc
  have hs7 : ((superR l).getD zero7).length = 7 := by
    cases h : superR l with
    | none => rfl
    | some s => exact (superR_some h).2
  obtain ⟨u0, u1, u2, u3, u4, u5, u6, hsv⟩ := list_seven hs7
  have HSV := Lib.hid (show supV ((superR l).getD zero7) = .agg #[.int .i64 u0, .int .i64 u1, .int .i64 u2, .int .i64 u3, .int .i64 u4, .int .i64 u5, .int .i64 u6] from by rw [hsv]; rfl)
  obtain ⟨sB, hsB⟩ : ∃ q, (superR l).isSome = q := ⟨_, rfl⟩
  obtain ⟨hB, hhB⟩ : ∃ q, (headR l).isSome = q := ⟨_, rfl⟩
  obtain ⟨pB, hpB⟩ : ∃ q, (pageR l number).isSome = q := ⟨_, rfl⟩
  obtain ⟨iB, hiB⟩ : ∃ q, (imageR l).isSome = q := ⟨_, rfl⟩
  obtain ⟨nB, hnB⟩ : ∃ q, (nodeR l).isSome = q := ⟨_, rfl⟩
  obtain ⟨cB, hcB⟩ : ∃ q, (countsR l).isSome = q := ⟨_, rfl⟩
  obtain ⟨aB, haB⟩ : ∃ q, (catR l).isSome = q := ⟨_, rfl⟩
  obtain ⟨⟨ep, sq, ps, sm⟩, hhd⟩ : ∃ q, hd4 (headR l) = q := ⟨_, rfl⟩
  obtain ⟨⟨pk, pb⟩, hpd⟩ : ∃ q, pg2 (pageR l number) = q := ⟨_, rfl⟩
  obtain ⟨⟨ie, is_, in_, ik, ib⟩, hid⟩ : ∃ q, im5 (imageR l) = q := ⟨_, rfl⟩
  obtain ⟨⟨lf, ks, vs⟩, hnd⟩ : ∃ q, nd3 (nodeR l) = q := ⟨_, rfl⟩
  obtain ⟨cn, hcd⟩ : ∃ q, ct1 (countsR l) = q := ⟨_, rfl⟩
  obtain ⟨⟨nx, sk, vv⟩, had⟩ : ∃ q, ca3 (catR l) = q := ⟨_, rfl⟩
  have HSB := Lib.hid hsB; have HHB := Lib.hid hhB; have HPB := Lib.hid hpB; have HIB := Lib.hid hiB; have HNB := Lib.hid hnB; have HCB := Lib.hid hcB; have HAB := Lib.hid haB
  have HHD := Lib.hid hhd; have HPD := Lib.hid hpd; have HID := Lib.hid hid; have HND := Lib.hid hnd; have HCD := Lib.hid hcd; have HAD := Lib.hid had
  have qs : (sB != sB) = false := by simp
  have qh : (hB != hB) = false := by simp
  have qp : (pB != pB) = false := by simp
  have qi : (iB != iB) = false := by simp
  have hrs := fun w => run_same_sup w u0 u1 u2 u3 u4 u5 u6
  clear hs7 hsv hsB hhB hpB hiB hnB hcB haB hhd hpd hid hnd hcd had hl hnc hT hg0 hcm
  go_enter Try.func3, Try.ntmps3
  go_wp2_with fail
  refine (new_any _).mono ?_
  rintro e wa ⟨rfl, rfl⟩
  go_wp2_with fail
  refine (known_any W.heap.size _ HT.out (by simp)).mono ?_
  rintro e w1 ⟨rfl, hgb, hrb⟩
  have HR1 := Lib.hid hrb
  have HL1 := Lib.hid (HL0.out.keep hgb)
  have HG1 := Lib.hid (grownBy_new HG0.out hgb (fun j hj => by cases hj; omega))
  have HLT1 := Lib.hid (show W.heap.size < w1.heap.size from by obtain ⟨_, h, _⟩ := hrb; exact h.lt)
  clear hgb hrb HT HG0 HL0
  go_wp2_with fail
  refine (codec_get_super W.heap.size A n c l _ HR1.out HL1.out).mono ?_
  rintro e w2 hS
  rw [HSV.out, HSB.out] at hS
  obtain ⟨hg, rfl⟩ := hS
  have hh := hg
  have HR2 := Lib.hid (HR1.out.keep hh (by simp)); have HL2 := Lib.hid (bytes_keepN HL1.out hh); have HG2 := Lib.hid (HG1.out.trans hh)
  clear hh hg HR1 HL1 HG1
  go_wp2_with fail
  refine (ref_get_super W.heap.size A n c l _ (bytes_keepN HL2.out (World.grownBy_alloc _ _ none)) HN.out).mono ?_
  rintro e w3 hS
  rw [HSV.out, HSB.out] at hS
  obtain ⟨hg, rfl⟩ := hS
  have hh := (World.grownBy_alloc w2 (.cells #[.int .i64 u0, .int .i64 u1, .int .i64 u2, .int .i64 u3, .int .i64 u4, .int .i64 u5, .int .i64 u6] 27) none).trans hg
  have HBN := Lib.hid ((Blk.new w2 27 #[.int .i64 u0, .int .i64 u1, .int .i64 u2, .int .i64 u3, .int .i64 u4, .int .i64 u5, .int .i64 u6]).grown hg (by simp))
  have HR3 := Lib.hid (HR2.out.keep hh (by simp)); have HL3 := Lib.hid (bytes_keepN HL2.out hh); have HG3 := Lib.hid (HG2.out.trans hh)
  clear hh hg HR2 HL2 HG2
  have HB_3 := HBN
  clear HBN
  go_wp2_with fail
  refine (codec_get_head W.heap.size W.heap.size A n c l _ (HR3.out.keep (World.grownBy_alloc _ _ none) (by simp)) (bytes_keepN HL3.out (World.grownBy_alloc _ _ none))).mono ?_
  rintro e w4 hS
  have hf := head_flat hS
  rw [HHD.out, HHB.out] at hf
  obtain ⟨Ah0, nh0, ch0, rfl, hg, hi, hn0⟩ := hf
  have HIh0 := Lib.hid hi; have HNh0 := Lib.hid hn0
  clear hS hi hn0
  have hh := (World.grownBy_alloc w3 (.cells #[.int .i64 u0, .int .i64 u1, .int .i64 u2, .int .i64 u3, .int .i64 u4, .int .i64 u5, .int .i64 u6] 27) none).trans hg
  have HBN := Lib.hid ((Blk.new w3 27 #[.int .i64 u0, .int .i64 u1, .int .i64 u2, .int .i64 u3, .int .i64 u4, .int .i64 u5, .int .i64 u6]).grown hg (by simp))
  have HR4 := Lib.hid (HR3.out.keep hh (by simp)); have HL4 := Lib.hid (bytes_keepN HL3.out hh); have HG4 := Lib.hid (HG3.out.trans hh)
  have HB_3n := Lib.hid (HB_3.out.grown hh (by simp))
  clear hh hg HR3 HL3 HG3 HB_3
  have HB_4 := HBN
  clear HBN
  go_wp2_with fail
  refine (ref_get_head W.heap.size A n c l _ (bytes_keepN HL4.out (World.grownBy_alloc _ _ none)) HN.out).mono ?_
  rintro e w5 hS
  have hf := head_flat hS
  rw [HHD.out, HHB.out] at hf
  obtain ⟨Ah1, nh1, ch1, rfl, hg, hi, hn1⟩ := hf
  have HIh1 := Lib.hid hi; have HNh1 := Lib.hid hn1
  clear hS hi hn1
  have hh := (World.grownBy_alloc w4 (.cells #[.int .i64 ep, .int .i64 sq, .slice Ah0 nh0 ch0, .int .u32 (sm : Nat)] 34) none).trans hg
  have HBN := Lib.hid ((Blk.new w4 34 #[.int .i64 ep, .int .i64 sq, .slice Ah0 nh0 ch0, .int .u32 (sm : Nat)]).grown hg (by simp))
  have HR5 := Lib.hid (HR4.out.keep hh (by simp)); have HL5 := Lib.hid (bytes_keepN HL4.out hh); have HG5 := Lib.hid (HG4.out.trans hh)
  have HB_3nn := Lib.hid (HB_3n.out.grown hh (by simp))
  have HB_4n := Lib.hid (HB_4.out.grown hh (by simp))
  have HIh0n := Lib.hid (ints_keep HIh0.out hh (.inl rfl))
  clear hh hg HR4 HL4 HG4 HB_3n HB_4 HIh0
  have HB_5 := HBN
  clear HBN
  go_wp2_with fail
  refine (codec_get_page W.heap.size W.heap.size A n c l number _ (HR5.out.keep (World.grownBy_alloc _ _ none) (by simp)) (bytes_keepN HL5.out (World.grownBy_alloc _ _ none))).mono ?_
  rintro e w6 hS
  have hf := page_flat (b := W.heap.size) (show W.heap.size < _ from by have := HG5.out.size; have := HLT1.out; obtain ⟨_, hlt, _⟩ := HR5.out; have hlt := hlt.lt; first | omega | (simp; omega)) (pageR_le l number) hS
  rw [HPD.out, HPB.out] at hf
  obtain ⟨Ap0, np0, cp0, rfl, hg, hi, hn0⟩ := hf
  have HIp0 := Lib.hid hi; have HNp0 := Lib.hid hn0
  clear hS hi hn0
  have hh := (World.grownBy_alloc w5 (.cells #[.int .i64 ep, .int .i64 sq, .slice Ah1 nh1 ch1, .int .u32 (sm : Nat)] 34) none).trans hg
  have HBN := Lib.hid ((Blk.new w5 34 #[.int .i64 ep, .int .i64 sq, .slice Ah1 nh1 ch1, .int .u32 (sm : Nat)]).grown hg (by simp))
  have HR6 := Lib.hid (HR5.out.keep hh (by simp)); have HL6 := Lib.hid (bytes_keepN HL5.out hh); have HG6 := Lib.hid (HG5.out.trans hh)
  have HB_3nnn := Lib.hid (HB_3nn.out.grown hh (by simp))
  have HB_4nn := Lib.hid (HB_4n.out.grown hh (by simp))
  have HB_5n := Lib.hid (HB_5.out.grown hh (by simp))
  have HIh0nn := Lib.hid (ints_keep HIh0n.out hh (.inl rfl))
  have HIh1n := Lib.hid (ints_keep HIh1.out hh (.inl rfl))
  clear hh hg HR5 HL5 HG5 HB_3nn HB_4n HB_5 HIh0n HIh1
  have HB_6 := HBN
  clear HBN
  go_wp2_with fail
  refine (ref_get_page W.heap.size A n c l number _ (bytes_keepN HL6.out (World.grownBy_alloc _ _ none)) HN.out HNC.out).mono ?_
  rintro e w7 hS
  have hf := page_flat' (pageR_le l number) hS
  rw [HPD.out, HPB.out] at hf
  obtain ⟨Ap1, np1, cp1, rfl, hg, hi, hn1⟩ := hf
  have HIp1 := Lib.hid hi; have HNp1 := Lib.hid hn1
  clear hS hi hn1
  have hh := (World.grownBy_alloc w6 (.cells #[.int .i64 pk, .slice Ap0 np0 cp0] 39) none).trans hg
  have HBN := Lib.hid ((Blk.new w6 39 #[.int .i64 pk, .slice Ap0 np0 cp0]).grown hg (by simp))
  have HR7 := Lib.hid (HR6.out.keep hh (by simp)); have HL7 := Lib.hid (bytes_keepN HL6.out hh); have HG7 := Lib.hid (HG6.out.trans hh)
  have HB_3nnnn := Lib.hid (HB_3nnn.out.grown hh (by simp))
  have HB_4nnn := Lib.hid (HB_4nn.out.grown hh (by simp))
  have HB_5nn := Lib.hid (HB_5n.out.grown hh (by simp))
  have HB_6n := Lib.hid (HB_6.out.grown hh (by simp))
  have HIh0nnn := Lib.hid (ints_keep HIh0nn.out hh (.inl rfl))
  have HIh1nn := Lib.hid (ints_keep HIh1n.out hh (.inl rfl))
  have HIp0n := Lib.hid (bytes_keepN HIp0.out hh)
  clear hh hg HR6 HL6 HG6 HB_3nnn HB_4nn HB_5n HB_6 HIh0nn HIh1n HIp0
  have HB_7 := HBN
  clear HBN
  have hbq0 := HB_3nnnn.out.alloc (.cells #[.int .i64 pk, .slice Ap1 np1 cp1] 39)
  have hbq1 := HB_4nnn.out.alloc (.cells #[.int .i64 pk, .slice Ap1 np1 cp1] 39)
  have hbq2 := HB_5nn.out.alloc (.cells #[.int .i64 pk, .slice Ap1 np1 cp1] 39)
  have hbq3 := HB_6n.out.alloc (.cells #[.int .i64 pk, .slice Ap1 np1 cp1] 39)
  have hbq4 := HB_7.out.alloc (.cells #[.int .i64 pk, .slice Ap1 np1 cp1] 39)
  have hbq5 := Blk.new w7 39 #[.int .i64 pk, .slice Ap1 np1 cp1]
  have z0_0 := hbq0.cell 0
  have z0_1 := hbq0.cell 1
  have z0_2 := hbq0.cell 2
  have z0_3 := hbq0.cell 3
  have z0_4 := hbq0.cell 4
  have z0_5 := hbq0.cell 5
  have z0_6 := hbq0.cell 6
  have z1_0 := hbq1.cell 0
  have z1_1 := hbq1.cell 1
  have z1_2 := hbq1.cell 2
  have z1_3 := hbq1.cell 3
  have z1_4 := hbq1.cell 4
  have z1_5 := hbq1.cell 5
  have z1_6 := hbq1.cell 6
  have z2_0 := hbq2.cell 0
  have z2_1 := hbq2.cell 1
  have z2_2 := hbq2.cell 2
  have z2_3 := hbq2.cell 3
  have z3_0 := hbq3.cell 0
  have z3_1 := hbq3.cell 1
  have z3_2 := hbq3.cell 2
  have z3_3 := hbq3.cell 3
  have z4_0 := hbq4.cell 0
  have z4_1 := hbq4.cell 1
  have z5_0 := hbq5.cell 0
  have z5_1 := hbq5.cell 1
  simp only [List.getElem?_toArray, List.getElem?_cons_zero, List.getElem?_cons_succ] at z0_0 z0_1 z0_2 z0_3 z0_4 z0_5 z0_6 z1_0 z1_1 z1_2 z1_3 z1_4 z1_5 z1_6 z2_0 z2_1 z2_2 z2_3 z3_0 z3_1 z3_2 z3_3 z4_0 z4_1 z5_0 z5_1
  clear hbq0 hbq1 hbq2 hbq3 hbq4 hbq5
  go_wp2_with fail
  refine (heads_same _ _ ep ep sq sq Ah0 Ah1 nh0 nh1 ch0 ch1 ps ps sm sm _ (ints_keep HIh0nnn.out (World.grownBy_alloc _ _ none) (.inl rfl)) (ints_keep HIh1nn.out (World.grownBy_alloc _ _ none) (.inl rfl)) HNh0.out HNh1.out).mono ?_
  rintro e w8 ⟨rfl, hg⟩
  rw [show (decide (ep = ep) && decide (sq = sq) && decide (sm = sm) && decide (ps = ps)) = true from by simp]
  clear z0_0 z0_1 z0_2 z0_3 z0_4 z0_5 z0_6 z1_0 z1_1 z1_2 z1_3 z1_4 z1_5 z1_6 z2_0 z2_1 z2_2 z2_3 z3_0 z3_1 z3_2 z3_3 z4_0 z4_1 z5_0 z5_1
  have hh := (World.grownBy_alloc w7 (.cells #[.int .i64 pk, .slice Ap1 np1 cp1] 39) none).trans hg
  have HBN := Lib.hid ((Blk.new w7 39 #[.int .i64 pk, .slice Ap1 np1 cp1]).grown hg (by simp))
  have HR8 := Lib.hid (HR7.out.keep hh (by simp)); have HL8 := Lib.hid (bytes_keepN HL7.out hh); have HG8 := Lib.hid (HG7.out.trans hh)
  have HB_3nnnnn := Lib.hid (HB_3nnnn.out.grown hh (by simp))
  have HB_4nnnn := Lib.hid (HB_4nnn.out.grown hh (by simp))
  have HB_5nnn := Lib.hid (HB_5nn.out.grown hh (by simp))
  have HB_6nn := Lib.hid (HB_6n.out.grown hh (by simp))
  have HB_7n := Lib.hid (HB_7.out.grown hh (by simp))
  have HIh0nnnn := Lib.hid (ints_keep HIh0nnn.out hh (.inl rfl))
  have HIh1nnn := Lib.hid (ints_keep HIh1nn.out hh (.inl rfl))
  have HIp0nn := Lib.hid (bytes_keepN HIp0n.out hh)
  have HIp1n := Lib.hid (bytes_keepN HIp1.out hh)
  clear hh hg HR7 HL7 HG7 HB_3nnnn HB_4nnn HB_5nn HB_6n HB_7 HIh0nnn HIh1nn HIp0n HIp1
  have HB_8 := HBN
  clear HBN
  have hbq0 := HB_7n.out
  have hbq1 := HB_8.out
  have z0_0 := hbq0.cell 0
  have z0_1 := hbq0.cell 1
  have z1_0 := hbq1.cell 0
  have z1_1 := hbq1.cell 1
  simp only [List.getElem?_toArray, List.getElem?_cons_zero, List.getElem?_cons_succ] at z0_0 z0_1 z1_0 z1_1
  clear hbq0 hbq1
  go_wp2_with fail
  refine (pages_any _ _ pk pk Ap0 Ap1 np0 np1 cp0 cp1 pb pb _ HIp0nn.out HIp1n.out (by have := HNp0.out; omega) (by have := HNp1.out; omega)).mono ?_
  rintro e w9 ⟨rfl, hg⟩
  rw [show (decide (pk = pk) && decide (pb = pb)) = true from by simp]
  clear z0_0 z0_1 z1_0 z1_1
  have hh := hg
  have HR9 := Lib.hid (HR8.out.keep hh (by simp)); have HL9 := Lib.hid (bytes_keepN HL8.out hh); have HG9 := Lib.hid (HG8.out.trans hh)
  have HB_3nnnnnn := Lib.hid (HB_3nnnnn.out.grown hh (by simp))
  have HB_4nnnnn := Lib.hid (HB_4nnnn.out.grown hh (by simp))
  have HB_5nnnn := Lib.hid (HB_5nnn.out.grown hh (by simp))
  have HB_6nnn := Lib.hid (HB_6nn.out.grown hh (by simp))
  have HB_7nn := Lib.hid (HB_7n.out.grown hh (by simp))
  have HB_8n := Lib.hid (HB_8.out.grown hh (by simp))
  have HIh0nnnnn := Lib.hid (ints_keep HIh0nnnn.out hh (.inl rfl))
  have HIh1nnnn := Lib.hid (ints_keep HIh1nnn.out hh (.inl rfl))
  have HIp0nnn := Lib.hid (bytes_keepN HIp0nn.out hh)
  have HIp1nn := Lib.hid (bytes_keepN HIp1n.out hh)
  clear hh hg HR8 HL8 HG8 HB_3nnnnn HB_4nnnn HB_5nnn HB_6nn HB_7n HB_8 HIh0nnnn HIh1nnn HIp0nn HIp1n
  clear HB_3nnnnnn HB_4nnnnn HB_5nnnn HB_6nnn HB_7nn HB_8n HIh0nnnnn HIh1nnnn HIp0nnn HIp1nn
  go_wp2_with fail
  refine (codec_get_image W.heap.size W.heap.size A n c l _ HR9.out HL9.out).mono ?_
  rintro e w10 hS
  have hf := image_flat (b := W.heap.size) (show W.heap.size < _ from by have := HG9.out.size; have := HLT1.out; obtain ⟨_, hlt, _⟩ := HR9.out; have hlt := hlt.lt; first | omega | (simp; omega)) (imageR_le l) hS
  rw [HID.out, HIB.out] at hf
  obtain ⟨Ai0, ni0, ci0, rfl, hg, hi, hn0⟩ := hf
  have HIi0 := Lib.hid hi; have HNi0 := Lib.hid hn0
  clear hS hi hn0
  have hh := hg
  have HR10 := Lib.hid (HR9.out.keep hh (by simp)); have HL10 := Lib.hid (bytes_keepN HL9.out hh); have HG10 := Lib.hid (HG9.out.trans hh)
  clear hh hg HR9 HL9 HG9
  go_wp2_with fail
  refine (ref_get_image W.heap.size A n c l _ (bytes_keepN HL10.out (World.grownBy_alloc _ _ none)) HN.out HNC.out).mono ?_
  rintro e w11 hS
  have hf := image_flat' (imageR_le l) hS
  rw [HID.out, HIB.out] at hf
  obtain ⟨Ai1, ni1, ci1, rfl, hg, hi, hn1⟩ := hf
  have HIi1 := Lib.hid hi; have HNi1 := Lib.hid hn1
  clear hS hi hn1
  have hh := (World.grownBy_alloc w10 (.cells #[.int .i64 in_, .int .i64 ik, .slice Ai0 ni0 ci0] 46) none).trans hg
  have HBN := Lib.hid ((Blk.new w10 46 #[.int .i64 in_, .int .i64 ik, .slice Ai0 ni0 ci0]).grown hg (by simp))
  have HR11 := Lib.hid (HR10.out.keep hh (by simp)); have HL11 := Lib.hid (bytes_keepN HL10.out hh); have HG11 := Lib.hid (HG10.out.trans hh)
  have HIi0n := Lib.hid (bytes_keepN HIi0.out hh)
  clear hh hg HR10 HL10 HG10 HIi0
  have HB_11 := HBN
  clear HBN
  have hbq0 := HB_11.out.alloc (.cells #[.int .i64 in_, .int .i64 ik, .slice Ai1 ni1 ci1] 46)
  have hbq1 := Blk.new w11 46 #[.int .i64 in_, .int .i64 ik, .slice Ai1 ni1 ci1]
  have z0_0 := hbq0.cell 0
  have z0_1 := hbq0.cell 1
  have z0_2 := hbq0.cell 2
  have z1_0 := hbq1.cell 0
  have z1_1 := hbq1.cell 1
  have z1_2 := hbq1.cell 2
  simp only [List.getElem?_toArray, List.getElem?_cons_zero, List.getElem?_cons_succ] at z0_0 z0_1 z0_2 z1_0 z1_1 z1_2
  clear hbq0 hbq1
  go_wp2_with fail
  refine (pages_any _ _ ik ik Ai0 Ai1 ni0 ni1 ci0 ci1 ib ib _ (bytes_keepN HIi0n.out (World.grownBy_alloc _ _ none)) (bytes_keepN HIi1.out (World.grownBy_alloc _ _ none)) (by have := HNi0.out; omega) (by have := HNi1.out; omega)).mono ?_
  rintro e w12 ⟨rfl, hg⟩
  rw [show (decide (ik = ik) && decide (ib = ib)) = true from by simp]
  clear z0_0 z0_1 z0_2 z1_0 z1_1 z1_2
  have hh := (World.grownBy_alloc w11 (.cells #[.int .i64 in_, .int .i64 ik, .slice Ai1 ni1 ci1] 46) none).trans hg
  have HBN := Lib.hid ((Blk.new w11 46 #[.int .i64 in_, .int .i64 ik, .slice Ai1 ni1 ci1]).grown hg (by simp))
  have HR12 := Lib.hid (HR11.out.keep hh (by simp)); have HL12 := Lib.hid (bytes_keepN HL11.out hh); have HG12 := Lib.hid (HG11.out.trans hh)
  have HB_11n := Lib.hid (HB_11.out.grown hh (by simp))
  have HIi0nn := Lib.hid (bytes_keepN HIi0n.out hh)
  have HIi1n := Lib.hid (bytes_keepN HIi1.out hh)
  clear hh hg HR11 HL11 HG11 HB_11 HIi0n HIi1
  have HB_12 := HBN
  clear HBN
  clear HB_11n HB_12 HIi0nn HIi1n
  go_wp2_with fail
  refine (codec_get_node W.heap.size A n c l _ HL12.out).mono ?_
  rintro e w13 hS
  have hf := node_flat hS
  rw [HND.out, HNB.out] at hf
  obtain ⟨An0, nn0, cn0, Am0, nm0, cm0, rfl, hg, hi, hi2, hn, hn2⟩ := hf
  have HIn0 := Lib.hid hi; have HIm0 := Lib.hid hi2; have HNn0 := Lib.hid hn; have HNm0 := Lib.hid hn2
  clear hS hi hi2 hn hn2
  have hh := hg
  have HR13 := Lib.hid (HR12.out.keep hh (by simp)); have HL13 := Lib.hid (bytes_keepN HL12.out hh); have HG13 := Lib.hid (HG12.out.trans hh)
  clear hh hg HR12 HL12 HG12
  go_wp2_with fail
  refine (ref_get_node W.heap.size A n c l _ (bytes_keepN HL13.out (World.grownBy_alloc _ _ none)) HN.out).mono ?_
  rintro e w14 hS
  have hf := node_flat hS
  rw [HND.out, HNB.out] at hf
  obtain ⟨An1, nn1, cn1, Am1, nm1, cm1, rfl, hg, hi, hi2, hn, hn2⟩ := hf
  have HIn1 := Lib.hid hi; have HIm1 := Lib.hid hi2; have HNn1 := Lib.hid hn; have HNm1 := Lib.hid hn2
  clear hS hi hi2 hn hn2
  have hh := (World.grownBy_alloc w13 (.cells #[.bool lf, .slice An0 nn0 cn0, .slice Am0 nm0 cm0] 51) none).trans hg
  have HBN := Lib.hid ((Blk.new w13 51 #[.bool lf, .slice An0 nn0 cn0, .slice Am0 nm0 cm0]).grown hg (by simp))
  have HR14 := Lib.hid (HR13.out.keep hh (by simp)); have HL14 := Lib.hid (bytes_keepN HL13.out hh); have HG14 := Lib.hid (HG13.out.trans hh)
  have HIn0n := Lib.hid (ints_keep HIn0.out hh (.inl rfl))
  have HIm0n := Lib.hid (ints_keep HIm0.out hh (.inl rfl))
  clear hh hg HR13 HL13 HG13 HIn0 HIm0
  have HB_14 := HBN
  clear HBN
  go_wp2_with fail
  refine (codec_get_counts W.heap.size A n c l _ (bytes_keepN HL14.out (World.grownBy_alloc _ _ none))).mono ?_
  rintro e w15 hS
  have hf := counts_flat hS
  rw [HCD.out, HCB.out] at hf
  obtain ⟨Ac0, nc0, cc0, rfl, hg, hi, hn⟩ := hf
  have HIc0 := Lib.hid hi; have HNc0 := Lib.hid hn
  clear hS hi hn
  have hh := (World.grownBy_alloc w14 (.cells #[.bool lf, .slice An1 nn1 cn1, .slice Am1 nm1 cm1] 51) none).trans hg
  have HBN := Lib.hid ((Blk.new w14 51 #[.bool lf, .slice An1 nn1 cn1, .slice Am1 nm1 cm1]).grown hg (by simp))
  have HR15 := Lib.hid (HR14.out.keep hh (by simp)); have HL15 := Lib.hid (bytes_keepN HL14.out hh); have HG15 := Lib.hid (HG14.out.trans hh)
  have HB_14n := Lib.hid (HB_14.out.grown hh (by simp))
  have HIn0nn := Lib.hid (ints_keep HIn0n.out hh (.inl rfl))
  have HIm0nn := Lib.hid (ints_keep HIm0n.out hh (.inl rfl))
  have HIn1n := Lib.hid (ints_keep HIn1.out hh (.inl rfl))
  have HIm1n := Lib.hid (ints_keep HIm1.out hh (.inl rfl))
  clear hh hg HR14 HL14 HG14 HB_14 HIn0n HIm0n HIn1 HIm1
  have HB_15 := HBN
  clear HBN
  go_wp2_with fail
  refine (ref_get_counts W.heap.size A n c l _ HL15.out HN.out).mono ?_
  rintro e w16 hS
  have hf := counts_flat hS
  rw [HCD.out, HCB.out] at hf
  obtain ⟨Ac1, nc1, cc1, rfl, hg, hi, hn⟩ := hf
  have HIc1 := Lib.hid hi; have HNc1 := Lib.hid hn
  clear hS hi hn
  have hh := hg
  have HR16 := Lib.hid (HR15.out.keep hh (by simp)); have HL16 := Lib.hid (bytes_keepN HL15.out hh); have HG16 := Lib.hid (HG15.out.trans hh)
  have HB_14nn := Lib.hid (HB_14n.out.grown hh (by simp))
  have HB_15n := Lib.hid (HB_15.out.grown hh (by simp))
  have HIn0nnn := Lib.hid (ints_keep HIn0nn.out hh (.inl rfl))
  have HIm0nnn := Lib.hid (ints_keep HIm0nn.out hh (.inl rfl))
  have HIn1nn := Lib.hid (ints_keep HIn1n.out hh (.inl rfl))
  have HIm1nn := Lib.hid (ints_keep HIm1n.out hh (.inl rfl))
  have HIc0n := Lib.hid (ints_keep HIc0.out hh (.inl rfl))
  clear hh hg HR15 HL15 HG15 HB_14n HB_15 HIn0nn HIm0nn HIn1n HIm1n HIc0
  go_wp2_with fail
  refine (codec_get_catalogue W.heap.size A n c l _ HL16.out).mono ?_
  rintro e w17 hS
  have hf := cat_flat hS
  rw [HAD.out, HAB.out] at hf
  obtain ⟨Av0, nv0, cv0, As0, ns0, cs0, rfl, hg, hi, hi2, hn, hn2⟩ := hf
  have HIv0 := Lib.hid hi; have HIs0 := Lib.hid hi2; have HNv0 := Lib.hid hn; have HNs0 := Lib.hid hn2
  clear hS hi hi2 hn hn2
  have hh := hg
  have HR17 := Lib.hid (HR16.out.keep hh (by simp)); have HL17 := Lib.hid (bytes_keepN HL16.out hh); have HG17 := Lib.hid (HG16.out.trans hh)
  have HB_14nnn := Lib.hid (HB_14nn.out.grown hh (by simp))
  have HB_15nn := Lib.hid (HB_15n.out.grown hh (by simp))
  have HIn0nnnn := Lib.hid (ints_keep HIn0nnn.out hh (.inl rfl))
  have HIm0nnnn := Lib.hid (ints_keep HIm0nnn.out hh (.inl rfl))
  have HIn1nnn := Lib.hid (ints_keep HIn1nn.out hh (.inl rfl))
  have HIm1nnn := Lib.hid (ints_keep HIm1nn.out hh (.inl rfl))
  have HIc0nn := Lib.hid (ints_keep HIc0n.out hh (.inl rfl))
  have HIc1n := Lib.hid (ints_keep HIc1.out hh (.inl rfl))
  clear hh hg HR16 HL16 HG16 HB_14nn HB_15n HIn0nnn HIm0nnn HIn1nn HIm1nn HIc0n HIc1
  go_wp2_with fail
  refine (ref_get_catalogue W.heap.size A n c l _ (bytes_keepN HL17.out (World.grownBy_alloc _ _ none)) HN.out).mono ?_
  rintro e w18 hS
  have hf := cat_flat hS
  rw [HAD.out, HAB.out] at hf
  obtain ⟨Av1, nv1, cv1, As1, ns1, cs1, rfl, hg, hi, hi2, hn, hn2⟩ := hf
  have HIv1 := Lib.hid hi; have HIs1 := Lib.hid hi2; have HNv1 := Lib.hid hn; have HNs1 := Lib.hid hn2
  clear hS hi hi2 hn hn2
  have hh := (World.grownBy_alloc w17 (.cells #[.int .i64 nx, .slice Av0 nv0 cv0, .slice As0 ns0 cs0] 58) none).trans hg
  have HBN := Lib.hid ((Blk.new w17 58 #[.int .i64 nx, .slice Av0 nv0 cv0, .slice As0 ns0 cs0]).grown hg (by simp))
  have HR18 := Lib.hid (HR17.out.keep hh (by simp)); have HL18 := Lib.hid (bytes_keepN HL17.out hh); have HG18 := Lib.hid (HG17.out.trans hh)
  have HB_14nnnn := Lib.hid (HB_14nnn.out.grown hh (by simp))
  have HB_15nnn := Lib.hid (HB_15nn.out.grown hh (by simp))
  have HIn0nnnnn := Lib.hid (ints_keep HIn0nnnn.out hh (.inl rfl))
  have HIm0nnnnn := Lib.hid (ints_keep HIm0nnnn.out hh (.inl rfl))
  have HIn1nnnn := Lib.hid (ints_keep HIn1nnn.out hh (.inl rfl))
  have HIm1nnnn := Lib.hid (ints_keep HIm1nnn.out hh (.inl rfl))
  have HIc0nnn := Lib.hid (ints_keep HIc0nn.out hh (.inl rfl))
  have HIc1nn := Lib.hid (ints_keep HIc1n.out hh (.inl rfl))
  have HIv0n := Lib.hid (ints_keep HIv0.out hh (.inl rfl))
  have HIs0n := Lib.hid (ints_keep HIs0.out hh (.inl rfl))
  clear hh hg HR17 HL17 HG17 HB_14nnn HB_15nn HIn0nnnn HIm0nnnn HIn1nnn HIm1nnn HIc0nn HIc1n HIv0 HIs0
  have HB_18 := HBN
  clear HBN
  have hbq0 := HB_14nnnn.out.alloc (.cells #[.int .i64 nx, .slice Av1 nv1 cv1, .slice As1 ns1 cs1] 58)
  have hbq1 := HB_15nnn.out.alloc (.cells #[.int .i64 nx, .slice Av1 nv1 cv1, .slice As1 ns1 cs1] 58)
  have hbq2 := HB_18.out.alloc (.cells #[.int .i64 nx, .slice Av1 nv1 cv1, .slice As1 ns1 cs1] 58)
  have hbq3 := Blk.new w18 58 #[.int .i64 nx, .slice Av1 nv1 cv1, .slice As1 ns1 cs1]
  have z0_0 := hbq0.cell 0
  have z0_1 := hbq0.cell 1
  have z0_2 := hbq0.cell 2
  have z1_0 := hbq1.cell 0
  have z1_1 := hbq1.cell 1
  have z1_2 := hbq1.cell 2
  have z2_0 := hbq2.cell 0
  have z2_1 := hbq2.cell 1
  have z2_2 := hbq2.cell 2
  have z3_0 := hbq3.cell 0
  have z3_1 := hbq3.cell 1
  have z3_2 := hbq3.cell 2
  simp only [List.getElem?_toArray, List.getElem?_cons_zero, List.getElem?_cons_succ] at z0_0 z0_1 z0_2 z1_0 z1_1 z1_2 z2_0 z2_1 z2_2 z3_0 z3_1 z3_2
  clear hbq0 hbq1 hbq2 hbq3
  go_wp2_with fail
  refine (nodes_same _ _ _ _ lf An0 An1 Am0 Am1 nn0 nn1 nm0 nm1 cn0 cn1 cm0 cm1 ks vs _ (ints_keep HIn0nnnnn.out (World.grownBy_alloc _ _ none) (.inl rfl)) (ints_keep HIn1nnnn.out (World.grownBy_alloc _ _ none) (.inl rfl)) (ints_keep HIm0nnnnn.out (World.grownBy_alloc _ _ none) (.inl rfl)) (ints_keep HIm1nnnn.out (World.grownBy_alloc _ _ none) (.inl rfl)) HNn0.out HNn1.out HNm0.out HNm1.out).mono ?_
  rintro e w19 ⟨rfl, hg⟩
  clear z0_0 z0_1 z0_2 z1_0 z1_1 z1_2 z2_0 z2_1 z2_2 z3_0 z3_1 z3_2
  have hh := (World.grownBy_alloc w18 (.cells #[.int .i64 nx, .slice Av1 nv1 cv1, .slice As1 ns1 cs1] 58) none).trans hg
  have HBN := Lib.hid ((Blk.new w18 58 #[.int .i64 nx, .slice Av1 nv1 cv1, .slice As1 ns1 cs1]).grown hg (by simp))
  have HR19 := Lib.hid (HR18.out.keep hh (by simp)); have HL19 := Lib.hid (bytes_keepN HL18.out hh); have HG19 := Lib.hid (HG18.out.trans hh)
  have HB_14nnnnn := Lib.hid (HB_14nnnn.out.grown hh (by simp))
  have HB_15nnnn := Lib.hid (HB_15nnn.out.grown hh (by simp))
  have HB_18n := Lib.hid (HB_18.out.grown hh (by simp))
  have HIn0nnnnnn := Lib.hid (ints_keep HIn0nnnnn.out hh (.inl rfl))
  have HIm0nnnnnn := Lib.hid (ints_keep HIm0nnnnn.out hh (.inl rfl))
  have HIn1nnnnn := Lib.hid (ints_keep HIn1nnnn.out hh (.inl rfl))
  have HIm1nnnnn := Lib.hid (ints_keep HIm1nnnn.out hh (.inl rfl))
  have HIc0nnnn := Lib.hid (ints_keep HIc0nnn.out hh (.inl rfl))
  have HIc1nnn := Lib.hid (ints_keep HIc1nn.out hh (.inl rfl))
  have HIv0nn := Lib.hid (ints_keep HIv0n.out hh (.inl rfl))
  have HIs0nn := Lib.hid (ints_keep HIs0n.out hh (.inl rfl))
  have HIv1n := Lib.hid (ints_keep HIv1.out hh (.inl rfl))
  have HIs1n := Lib.hid (ints_keep HIs1.out hh (.inl rfl))
  clear hh hg HR18 HL18 HG18 HB_14nnnn HB_15nnn HB_18 HIn0nnnnn HIm0nnnnn HIn1nnnn HIm1nnnn HIc0nnn HIc1nn HIv0n HIs0n HIv1 HIs1
  have HB_19 := HBN
  clear HBN
  have hmc0 := HNc0.out; have hmc1 := HNc1.out; simp only [maxLen] at hmc0 hmc1
  go_wp2_with fail
  refine (ints_any _ _ Ac0 Ac1 nc0 nc1 cc0 cc1 cn cn _ HIc0nnnn.out HIc1nnn.out (by omega) (by omega)).mono ?_
  rintro e w20 ⟨rfl, hdr⟩
  rw [show decide (cn = cn) = true from by simp]
  have hg := drawn_grown hdr none
  clear hdr hmc0 hmc1
  have hh := hg
  have HR20 := Lib.hid (HR19.out.keep hh (by simp)); have HL20 := Lib.hid (bytes_keepN HL19.out hh); have HG20 := Lib.hid (HG19.out.trans hh)
  have HB_14nnnnnn := Lib.hid (HB_14nnnnn.out.grown hh (by simp))
  have HB_15nnnnn := Lib.hid (HB_15nnnn.out.grown hh (by simp))
  have HB_18nn := Lib.hid (HB_18n.out.grown hh (by simp))
  have HB_19n := Lib.hid (HB_19.out.grown hh (by simp))
  have HIn0nnnnnnn := Lib.hid (ints_keep HIn0nnnnnn.out hh (.inl rfl))
  have HIm0nnnnnnn := Lib.hid (ints_keep HIm0nnnnnn.out hh (.inl rfl))
  have HIn1nnnnnn := Lib.hid (ints_keep HIn1nnnnn.out hh (.inl rfl))
  have HIm1nnnnnn := Lib.hid (ints_keep HIm1nnnnn.out hh (.inl rfl))
  have HIc0nnnnn := Lib.hid (ints_keep HIc0nnnn.out hh (.inl rfl))
  have HIc1nnnn := Lib.hid (ints_keep HIc1nnn.out hh (.inl rfl))
  have HIv0nnn := Lib.hid (ints_keep HIv0nn.out hh (.inl rfl))
  have HIs0nnn := Lib.hid (ints_keep HIs0nn.out hh (.inl rfl))
  have HIv1nn := Lib.hid (ints_keep HIv1n.out hh (.inl rfl))
  have HIs1nn := Lib.hid (ints_keep HIs1n.out hh (.inl rfl))
  clear hh hg HR19 HL19 HG19 HB_14nnnnn HB_15nnnn HB_18n HB_19 HIn0nnnnnn HIm0nnnnnn HIn1nnnnn HIm1nnnnn HIc0nnnn HIc1nnn HIv0nn HIs0nn HIv1n HIs1n
  have hbq0 := HB_18nn.out
  have hbq1 := HB_19n.out
  have z0_0 := hbq0.cell 0
  have z0_1 := hbq0.cell 1
  have z0_2 := hbq0.cell 2
  have z1_0 := hbq1.cell 0
  have z1_1 := hbq1.cell 1
  have z1_2 := hbq1.cell 2
  simp only [List.getElem?_toArray, List.getElem?_cons_zero, List.getElem?_cons_succ] at z0_0 z0_1 z0_2 z1_0 z1_1 z1_2
  clear hbq0 hbq1
  go_wp2_with fail
  refine (catalogues_any _ _ nx nx Av0 As0 Av1 As1 nv0 cv0 ns0 cs0 nv1 cv1 ns1 cs1 sk vv sk vv _ HIs0nnn.out HIv0nnn.out HIs1nn.out HIv1nn.out HNs0.out HNs1.out HNv0.out HNv1.out).mono ?_
  rintro e w21 ⟨rfl, hg⟩
  rw [show (decide (nx = nx) && decide (sk = sk) && decide (vv = vv)) = true from by simp]
  clear z0_0 z0_1 z0_2 z1_0 z1_1 z1_2
  have hh := hg
  have HR21 := Lib.hid (HR20.out.keep hh (by simp)); have HL21 := Lib.hid (bytes_keepN HL20.out hh); have HG21 := Lib.hid (HG20.out.trans hh)
  have HB_14nnnnnnn := Lib.hid (HB_14nnnnnn.out.grown hh (by simp))
  have HB_15nnnnnn := Lib.hid (HB_15nnnnn.out.grown hh (by simp))
  have HB_18nnn := Lib.hid (HB_18nn.out.grown hh (by simp))
  have HB_19nn := Lib.hid (HB_19n.out.grown hh (by simp))
  have HIn0nnnnnnnn := Lib.hid (ints_keep HIn0nnnnnnn.out hh (.inl rfl))
  have HIm0nnnnnnnn := Lib.hid (ints_keep HIm0nnnnnnn.out hh (.inl rfl))
  have HIn1nnnnnnn := Lib.hid (ints_keep HIn1nnnnnn.out hh (.inl rfl))
  have HIm1nnnnnnn := Lib.hid (ints_keep HIm1nnnnnn.out hh (.inl rfl))
  have HIc0nnnnnn := Lib.hid (ints_keep HIc0nnnnn.out hh (.inl rfl))
  have HIc1nnnnn := Lib.hid (ints_keep HIc1nnnn.out hh (.inl rfl))
  have HIv0nnnn := Lib.hid (ints_keep HIv0nnn.out hh (.inl rfl))
  have HIs0nnnn := Lib.hid (ints_keep HIs0nnn.out hh (.inl rfl))
  have HIv1nnn := Lib.hid (ints_keep HIv1nn.out hh (.inl rfl))
  have HIs1nnn := Lib.hid (ints_keep HIs1nn.out hh (.inl rfl))
  clear hh hg HR20 HL20 HG20 HB_14nnnnnn HB_15nnnnn HB_18nn HB_19n HIn0nnnnnnn HIm0nnnnnnn HIn1nnnnnn HIm1nnnnnn HIc0nnnnn HIc1nnnn HIv0nnn HIs0nnn HIv1nn HIs1nn
  go_wp2_with fail
  go_ret
  exact ⟨rfl, below_of_grown HG21.out (Nat.le_refl _) (fun _ h => by cases h)⟩
end Go.Proofs.Ytboccfficmaoaaa.CodecReads
