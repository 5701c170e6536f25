/- The walk over the law DiskElse, by the contracts of what it calls. -/
import Derived.Test.YtkfijgdbaihhpaaElseBits
namespace Go.Proofs.Ytkfijgdbaihhpaa.DiskElseUpto
open Go.ChangeShapes Go.WideShapes Go.ChangeAt Go.RowKit
open Mem Crc DiskSpec Dsk

set_option maxRecDepth 100000 in
set_option maxHeartbeats 12800000 in
theorem walk {H : Type} {enc : TypeId × Value → H} (W : World) (base : Nat) (v0 v1 : Value) (d0 d1 : DataW H) (p0 p1 : List MemPlace)
    (o0 : Value.okWide Try.prog W .any base 22 v0)
    (o1 : Value.okWide Try.prog W .any base 34 v1)
    (h0 : DataW.Trod enc Try.prog W 0 (fun _ => true) true 22 v0 d0 p0)
    (h1 : DataW.Trod enc Try.prog W 0 (fun _ => true) true 34 v1 d1 p1)
    (_ : (DataW.weightsEach Try.prog [22, 34] [d0, d1]).all (· ≤ reachBytes) = true) (hk : Rows.uptoSmall H [d0, d1] = true) :
    Calls Try.prog 7 #[v0, v1] W fun e W' => e = .returned (.bool true) ∧ Below W.heap.size W W' := by
  obtain ⟨A, n, c, ops, rfl, hops, _, hcm, hd0⟩ := open_script o0 h0
  obtain ⟨x, rfl, hx⟩ := open_op o1 h1
  have hn := bulk_len hk (List.mem_cons_self ..) hd0
  have hgW := World.grownBy_alloc W (.cells #[.int .i64 x.kind, .int .i64 x.at_, .int .i64 x.count, .int .i64 x.bytes, .int .i64 x.fill, .bool x.fua, .slice x.A x.n x.c] 34) none
  have HBX := Lib.hid (Blk.new W 34 #[.int .i64 x.kind, .int .i64 x.at_, .int .i64 x.count, .int .i64 x.bytes, .int .i64 x.fill, .bool x.fua, .slice x.A x.n x.c])
  have HOPS := Lib.hid (hops.grown hgW)
  have HXA := Lib.hid hx.at_
  have HWW := Lib.hid (show ∀ w', Below (W.alloc (.cells #[.int .i64 x.kind, .int .i64 x.at_, .int .i64 x.count, .int .i64 x.bytes, .int .i64 x.fill, .bool x.fua, .slice x.A x.n x.c] 34)).heap.size (W.alloc (.cells #[.int .i64 x.kind, .int .i64 x.at_, .int .i64 x.count, .int .i64 x.bytes, .int .i64 x.fill, .bool x.fua, .slice x.A x.n x.c] 34)) w' → Below W.heap.size W w' from fun w' h => ((Below.refl _ W).grown hgW (Nat.le_refl _) (fun _ e => by cases e)).trans (h.mono hgW.size))
  clear o0 h0 o1 h1 hk hd0 hops hcm hgW hx
  have HN := Lib.hid (show Calls Try.prog 9 #[.int .i64 8] (W.alloc (.cells #[.int .i64 x.kind, .int .i64 x.at_, .int .i64 x.count, .int .i64 x.bytes, .int .i64 x.fill, .bool x.fua, .slice x.A x.n x.c] 34)) fun e w' => ∃ b bd bm f own, e = .returned (.tuple #[.pointer (some ⟨b, 0, none⟩), .int .i64 0]) ∧ Lay w' (W.alloc (.cells #[.int .i64 x.kind, .int .i64 x.at_, .int .i64 x.count, .int .i64 x.bytes, .int .i64 x.fill, .bool x.fua, .slice x.A x.n x.c] 34)).heap.size b bd bm f (St.new 8) own ∧ (W.alloc (.cells #[.int .i64 x.kind, .int .i64 x.at_, .int .i64 x.count, .int .i64 x.bytes, .int .i64 x.fill, .bool x.fua, .slice x.A x.n x.c] 34)).grownBy w' none from disk_new 8 (W.alloc (.cells #[.int .i64 x.kind, .int .i64 x.at_, .int .i64 x.count, .int .i64 x.bytes, .int .i64 x.fill, .bool x.fua, .slice x.A x.n x.c] 34)) (by omega) (by omega))
  go_enter Try.func7, Try.ntmps7
  go_wp2_with fail
  refine HN.out.mono ?_
  rintro e w1 ⟨b, bd, bm, f, own, rfl, hl1, hg1⟩
  have H1 := Lib.hid (show DAt w1 (W.alloc (.cells #[.int .i64 x.kind, .int .i64 x.at_, .int .i64 x.count, .int .i64 x.bytes, .int .i64 x.fill, .bool x.fua, .slice x.A x.n x.c] 34)).heap.size b (St.new 8) own from ⟨bd, bm, f, hl1⟩); have HG1 := Lib.hid hg1
  clear hl1 hg1 HN
  go_wp2_with fail
  refine (known_any w1).mono ?_
  rintro e w2 ⟨rfl, hg2⟩
  have HG2 := Lib.hid hg2
  have HRN := Lib.hid (show Calls Try.prog 10 #[.int .i64 8] w2 fun e w' => ∃ r bl c dv vv vs own, e = .returned (.tuple #[.pointer (some ⟨r, 0, none⟩), .int .i64 0]) ∧ RLay w' w2.heap.size r bl c dv vv vs (St.new 8) own ∧ w2.grownBy w' none from ref_new 8 w2 (by omega) (by omega))
  clear hg2
  go_wp2_with fail
  refine HRN.out.mono ?_
  rintro e w3 ⟨r, bl, cr, dv, vv, vs, ow2, rfl, hl3, hg3⟩
  have HP0 := Lib.hid (Played.start H1.out HG1.out HG2.out ⟨bl, cr, dv, vv, vs, hl3⟩ hg3)
  clear hl3 hg3 HRN H1 HG1 HG2
  go_wp2_with fail
  go_loopw [9] (fun i wr => ∃ (j : Nat) (S : St) (p1 p2 : Nat → Prop), j ≤ n ∧ i = .int .i64 j ∧ Played (W.alloc (.cells #[.int .i64 x.kind, .int .i64 x.at_, .int .i64 x.count, .int .i64 x.bytes, .int .i64 x.fill, .bool x.fua, .slice x.A x.n x.c] 34)) wr b r j S p1 p2) (fun i _ => n - (Go.RowKit.intOf i).toNat)
  case atStart => exact ⟨0, _, _, _, Nat.zero_le _, rfl, HP0.out⟩
  case round =>
    obtain ⟨j, S, p1, p2, hj, rfl, hp⟩ := hrel
    have HP := Lib.hid hp; clear hp
    by_cases hlt : j < n
    · obtain ⟨y, g, off, hy, rfl, e0, e1, e2, e3, e4, e5, e6⟩ := HOPS.out.at_ HP.out.below hlt
      have HDO := Lib.hid (HP.out.does (by omega) y hy)
      clear hy
      have hjn : (j : Int) < (n : Int) := by omega
      go_wp2_with fail
      refine HDO.out.mono ?_
      rintro e w4 ⟨rfl, S', q1, q2, hp'⟩
      have HP' := Lib.hid hp'; clear hp'
      go_wp2_with fail
      go_roundw
      case rel => exact ⟨j + 1, S', q1, q2, by omega, by go_num, HP'.out⟩
      case measure => simp [Go.RowKit.intOf]; omega
    · obtain rfl : j = n := by omega
      have hSn := HP.out.n
      have hf1 : failE S 1 1099511627776 = (0, { S with f1 := 1099511627776 }) := rfl
      have hr1 := read_eight (S := ({ S with f1 := 1099511627776 } : St)) hSn (by show (1099511627776 : Nat) ≠ 1; omega)
      have HFA := Lib.hid (disk_fail_all HP.out.two.d 1 1099511627776)
      have HVR := Lib.hid (show ∀ i, (S.ver i).length < 549755813888 from fun i => by have := HP.out.ver i; omega)
      rw [hf1] at HFA
      clear hf1
      go_wp2_with fail
      refine HFA.out.mono ?_
      rintro e w6 ⟨rfl, hd6, ht6⟩
      have HB6 := Lib.hid (HP.out.below.trans (ht6.below HP.out.two.d.least HP.out.two.low))
      have hRD := disk_read_all hd6 0 8 (by omega) (by omega)
      have hok6 := hd6.ok
      have hln := readL_lt hok6 0 8
      have hle : (readL ({ S with f1 := 1099511627776 } : St) 0 8).length = 2048 := by rw [hr1.2, reads_len hok6]
      rw [hr1.1] at hRD
      have hLL := hr1.2
      have HD6 := Lib.hid hd6; have HRD := Lib.hid hRD; have HLN := Lib.hid hln; have HLE := Lib.hid hle
      clear hd6 ht6 hRD hok6 hln hr1 hle
      generalize readL ({ S with f1 := 1099511627776 } : St) 0 8 = L0 at *
      generalize hT : ({ ({ S with f1 := 1099511627776 } : St) with f1 := 1099511627776 - 1 } : St) = T at *
      have hTn : T.n = 8 := by rw [← hT]; exact hSn
      have hTf : T.f1 = 1099511627775 := by rw [← hT]
      have HTR := Lib.hid (show L0 = T.reads 0 8 by rw [hLL, ← hT]; exact reads_same (fun _ => rfl) 0 8)
      have HTV := Lib.hid (show ∀ i, (T.ver i).length < 549755813888 by rw [← hT]; exact HVR.out)
      have HTN := Lib.hid hTn; have HTF := Lib.hid hTf
      clear hLL hT hTn hTf hSn
      go_wp2_with fail
      refine HRD.out.mono ?_
      rintro e w7 ⟨va, rfl, hga, hd7, ht7⟩
      have hB7 := HB6.out.trans (ht7.below HD6.out.least HB6.out.size)
      obtain ⟨AW, cw, rfl, hdw⟩ := data_of_gave (own := p1) hga HLN.out (fun g hg e => by have := HD6.out.lt g e; omega)
      have hb7 := HBX.out.below hB7 HBX.out.lt
      have q0 := hb7.cell 0; have q1 := hb7.cell 1; have q2 := hb7.cell 2; have q3 := hb7.cell 3; have q4 := hb7.cell 4; have q5 := hb7.cell 5; have q6 := hb7.cell 6
      simp only [List.getElem?_toArray, List.getElem?_cons_zero, List.getElem?_cons_succ] at q0 q1 q2 q3 q4 q5 q6
      have HB7 := Lib.hid hB7; have HD7 := Lib.hid hd7; have HDW := Lib.hid hdw
      clear hga hd7 ht7 hB7 hdw hb7
      go_wp2_with fail
      refine (data_sole x.kind x.at_ x.count x.bytes x.fill x.fua (.slice x.A x.n x.c) w7).mono ?_
      rintro e w8 ⟨vl, rfl, hvl, hg8⟩
      have hB8 := HB7.out.grown hg8 HB7.out.size (fun _ e => by cases e)
      have hd8 := HD7.out.far (Turn.none_ (own := fun _ => False) hg8) (fun _ _ e => e)
      have hdlt := dataL_lt x.count x.bytes x.fill
      have hnl := dataN_top x.count x.bytes
      obtain ⟨AL, cl, rfl, hcl, _, hdl⟩ := data_of_own (own := p1) hvl.own (fun i hi => HD7.out.lt i hi) hdlt
      have hb8 := HBX.out.below hB8 HBX.out.lt
      have r1 := hb8.cell 1; have r5 := hb8.cell 5
      simp only [List.getElem?_toArray, List.getElem?_cons_zero, List.getElem?_cons_succ] at r1 r5
      have hlL := dataL_length x.count x.bytes x.fill
      have HWR := Lib.hid (disk_write_all hd8 x.at_ AL (dataN x.count x.bytes).toNat cl (dataL x.count x.bytes x.fill) x.fua HXA.out hdl hcl hnl HTV.out hB8.size)
      have HDL := Lib.hid hdl; have HDW8 := Lib.hid (HDW.out.same hg8); have HB8 := Lib.hid hB8; have HD8 := Lib.hid hd8
      have hok8 := hd8.ok
      have HOK8 := Lib.hid hok8
      have HCL := Lib.hid hcl; have HNL := Lib.hid hnl; have HLL := Lib.hid hlL
      generalize dataL x.count x.bytes x.fill = L at *
      generalize (dataN x.count x.bytes).toNat = N at *
      clear hvl hg8 hB8 hd8 hdlt hnl hdl hb8 hcl hok8 hlL q0 q1 q2 q3 q4 q5 q6
      generalize hE : (writeE T x.fua x.at_ L).1 = E at *
      go_wp2_with fail
      refine HWR.out.mono ?_
      rintro e w9 ⟨rfl, o9, hd9, ht9⟩
      have HB9 := Lib.hid (HB8.out.trans (ht9.below HD8.out.least HB8.out.size))
      have HFL := Lib.hid (disk_flush_all hd9)
      have HDW9 := Lib.hid (HDW8.out.turn ht9); have HDL9 := Lib.hid (HDL.out.turn ht9); have HD9 := Lib.hid hd9
      clear hd9 ht9 r1 r5
      go_wp2_with fail
      refine HFL.out.mono ?_
      rintro e w10 ⟨rfl, hd10, ht10⟩
      have HB10 := Lib.hid (HB9.out.trans (ht10.below HD9.out.least HB9.out.size))
      have HDW10 := Lib.hid (HDW9.out.turn ht10); have HDL10 := Lib.hid (HDL9.out.turn ht10)
      have hRD2 := disk_read_all hd10 0 8 (by omega) (by omega)
      have hr2 := read_eight (S := (flushE (writeE T x.fua x.at_ L).2).2) (by rw [flush_n, write_n]; exact HTN.out) (by rw [flush_f1, write_f1, HTF.out]; omega)
      have hok10 := hd10.ok
      rw [hr2.1, hr2.2] at hRD2
      have HRD2 := Lib.hid hRD2; have HD10 := Lib.hid hd10; have HOK10 := Lib.hid hok10
      clear hd10 ht10 hRD2 hr2 hok10
      have hlen2 : ((flushE (writeE T x.fua x.at_ L).2).2.reads 0 8).length = 2048 := reads_len HOK10.out 0 8
      have hlt2 := reads_lt HOK10.out 0 8
      have HNO := Lib.hid (show E ≠ 0 → (flushE (writeE T x.fua x.at_ L).2).2.reads 0 8 = L0 from fun h => by rw [else_no (by rw [hE]; exact h), HTR.out])
      have HYES := Lib.hid (show E = 0 → ∃ p c : Nat, x.at_ = (p : Int) ∧ L.length = 256 * c ∧ 1 ≤ c ∧ p + c ≤ 8 ∧ ∀ i, i < 2048 → ((flushE (writeE T x.fua x.at_ L).2).2.reads 0 8).getD i 0 = if p ≤ i / 256 ∧ i / 256 < p + c then L.getD (i - 256 * p) 0 else L0.getD i 0 from fun h => by
        obtain ⟨p, c, h1, h2, h3, h4, h5⟩ := write_did HTN.out (hE.trans h)
        exact ⟨p, c, h1, h2, h3, h4, fun i hi => by rw [else_yes HOK8.out HOK10.out h5 hi, HTR.out]⟩)
      have HLEN2 := Lib.hid hlen2; have HLT2 := Lib.hid hlt2
      clear hlen2 hlt2 hE
      generalize (flushE (writeE T x.fua x.at_ L).2).2.reads 0 8 = L2 at *
      go_wp2_with fail
      refine HRD2.out.mono ?_
      rintro e w11 ⟨vb, rfl, hgb, hd11, ht11⟩
      have hB11 := HB10.out.trans (ht11.below HD10.out.least HB10.out.size)
      obtain ⟨AX, cx, rfl, hdx⟩ := data_of_gave (own := fun _ => False) hgb HLT2.out (fun _ _ e => e)
      have hdw11 := HDW10.out.turn ht11
      have hdl11 := HDL10.out.turn ht11
      have hb11 := HBX.out.below hB11 HBX.out.lt
      have r1 := hb11.cell 1
      simp only [List.getElem?_toArray, List.getElem?_cons_zero, List.getElem?_cons_succ] at r1
      obtain ⟨gw, ow, rfl, _, _, hcw⟩ := hdw11.2.2 (by rw [HLE.out]; omega)
      obtain ⟨gx, ox, rfl, _, _, hcx⟩ := hdx.2.2 (by rw [HLEN2.out]; omega)
      have hll1 := HLE.out; have hll2 := HLEN2.out
      have HCW := Lib.hid hcw; have HCX := Lib.hid hcx; have HDL11 := Lib.hid hdl11; have HB11 := Lib.hid hB11
      clear hgb hd11 ht11 hB11 hdx hdw11 hdl11 hb11 hcw hcx
      rw [hll1, hll2]
      clear hll1 hll2
      have HWB := Lib.hid (HWW.out w11 HB11.out)
      go_wp2_with fail
      go_loopw [16, 17] (fun i _ wr => ∃ (j : Nat), j ≤ 2048 ∧ i = .int .i64 j ∧ wr = w11) (fun i _ _ => 2048 - (Go.RowKit.intOf i).toNat)
      case atStart => exact ⟨0, Nat.zero_le _, rfl, rfl⟩
      case round =>
        obtain ⟨k, hk, rfl, rfl⟩ := hrel
        by_cases hlt2 : k < 2048
        · have hkn : (k : Int) < 2048 := by omega
          have hcw := HCW.out k (by rw [HLE.out]; exact hlt2)
          have hcx := HCX.out k (by rw [HLEN2.out]; exact hlt2)
          have htd : (k : Int).tdiv 256 = ((k / 256 : Nat) : Int) := by rw [Int.tdiv_eq_ediv_of_nonneg (by omega)]; omega
          have hq8 : k / 256 < 8 := by omega
          have HQ := Lib.hid (Nat.div_add_mod k 256); have HQ2 := Lib.hid (Nat.mod_lt k (show 0 < 256 by omega))
          by_cases hE0 : E = 0
          · subst hE0
            obtain ⟨p, cc, hpx, hLc, hc1, hpc, hval⟩ := HYES.out rfl
            have hv := hval k hlt2
            have HV := Lib.hid hv
            rw [hpx] at r1
            have hNl : N = 256 * cc := by have := HLL.out; omega
            have htN : (N : Int).tdiv 256 = (cc : Int) := by rw [Int.tdiv_eq_ediv_of_nonneg (by omega)]; omega
            have hwpc : IntKind.i64.wrap ((p : Int) + (cc : Int)) = (p : Int) + (cc : Int) := IntWalk.i64_in _ (by omega)
            have hwcc : IntKind.i64.wrap (cc : Int) = (cc : Int) := IntWalk.i64_in _ (by omega)
            generalize hq : k / 256 = q at *
            have hwq : IntKind.i64.wrap (q : Int) = (q : Int) := IntWalk.i64_in _ (by omega)
            clear hval hv hpx hLc
            by_cases h1 : p ≤ q
            · by_cases h2 : q < p + cc
              · have hVV := HV.out
                rw [if_pos ⟨h1, h2⟩] at hVV
                rw [hVV] at hcx
                have hki : k - 256 * p < N := by have := HQ.out; have := HQ2.out; omega
                obtain ⟨gl, ol, hAL, _, _, hcl⟩ := HDL11.out.2.2 (by omega)
                subst hAL
                have hcl' := hcl (k - 256 * p) hki
                have hw1 : IntKind.i64.wrap (256 * (p : Int)) = 256 * (p : Int) := IntWalk.i64_in _ (by omega)
                have hw2 : IntKind.i64.wrap ((k : Int) - 256 * (p : Int)) = ((k - 256 * p : Nat) : Int) := by
                  rw [show (k : Int) - 256 * (p : Int) = ((k - 256 * p : Nat) : Int) by have := HQ.out; omega]
                  exact IntWalk.i64_in _ (by omega)
                have hd1 : decide ((p : Int) ≤ (q : Int)) = true := decide_eq_true (by omega)
                have hd2 : decide ((q : Int) < (p : Int) + (cc : Int)) = true := decide_eq_true (by omega)
                have hti : ((k - 256 * p : Nat) : Int) < (N : Int) := by omega
                have ht0 : (0 : Int) ≤ ((k - 256 * p : Nat) : Int) := by omega
                clear hVV hcl hki
                generalize k - 256 * p = t at *
                generalize L.getD t 0 = z at *
                generalize L0.getD k 0 = z0 at *
                clear hNl hq
                go_wp2_with fail
                go_roundw
                case rel => exact ⟨k + 1, by omega, by go_num, trivial⟩
                case measure => simp [Go.RowKit.intOf]; omega
              · have hVV := HV.out
                rw [if_neg (fun h => h2 h.2)] at hVV
                rw [hVV] at hcx
                have hd1 : decide ((p : Int) ≤ (q : Int)) = true := decide_eq_true (by omega)
                have hd2 : decide ((q : Int) < (p : Int) + (cc : Int)) = false := decide_eq_false (by omega)
                clear hVV
                generalize L0.getD k 0 = z0 at *
                clear hNl hq
                go_wp2_with fail
                go_roundw
                case rel => exact ⟨k + 1, by omega, by go_num, trivial⟩
                case measure => simp [Go.RowKit.intOf]; omega
            · have hVV := HV.out
              rw [if_neg (fun h => h1 h.1)] at hVV
              rw [hVV] at hcx
              have hd1 : decide ((p : Int) ≤ (q : Int)) = false := decide_eq_false (by omega)
              clear hVV
              generalize L0.getD k 0 = z0 at *
              clear hNl hq
              go_wp2_with fail
              go_roundw
              case rel => exact ⟨k + 1, by omega, by go_num, trivial⟩
              case measure => simp [Go.RowKit.intOf]; omega
          · have hbe : (E == 0) = false := by simpa using hE0
            have hVV := HNO.out hE0
            rw [hVV] at hcx
            clear hVV
            generalize L0.getD k 0 = z0 at *
            go_wp2_with fail
            go_roundw
            case rel => exact ⟨k + 1, by omega, by go_num, trivial⟩
            case measure => simp [Go.RowKit.intOf]; omega
        · obtain rfl : k = 2048 := by omega
          go_wp2
          go_ret
          exact ⟨rfl, HWB.out⟩
end Go.Proofs.Ytkfijgdbaihhpaa.DiskElseUpto
