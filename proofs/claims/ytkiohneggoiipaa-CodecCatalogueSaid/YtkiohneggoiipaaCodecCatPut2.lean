/- The project's PutCatalogue. -/
import Derived.Test.YtkiohneggoiipaaCodecCatPut
namespace Go.Proofs.Ytkiohneggoiipaa.Codec
open Go.RowKit CrcMath CodecMath Mem Crc

/-- What of a catalogue stands when j numbers of its stack are written. -/
def catQ (m : Nat) (stack : List Int) (j : Nat) : List Nat := be 4 m ++ be 1 stack.length ++ ((stack.take j).flatMap fun n => be 2 n.toNat)
theorem catQ_len (m : Nat) (stack : List Int) (j : Nat) (h : j ≤ stack.length) : (catQ m stack j).length = 5 + 2 * j := by
  simp only [catQ, List.length_append, be_length]
  rw [flat_len, List.length_take, Nat.min_eq_left h]
theorem catQ_succ (m : Nat) (stack : List Int) (j : Nat) (h : j < stack.length) : catQ m stack (j + 1) = catQ m stack j ++ be 2 (stack.getD j 0).toNat := by
  rw [catQ, take_flat stack 2 j h, ← List.append_assoc]; rfl
theorem catQ_all (m : Nat) (stack : List Int) : catQ m stack stack.length = catP (m : Int) stack := by simp [catQ, catP]
/-- What stands when j volumes are written. -/
def catV (next : Int) (stack vs : List Int) (j : Nat) : List Nat := fill (catP next stack) 21 ++ volsB vs (6 * j)
theorem pos_six (j : Nat) : pos (6 * j) = 19 * j := by
  unfold pos
  rw [show 6 * j / 6 = j from by omega, show 6 * j % 6 = 0 from by omega]; rfl
theorem catV_len (next : Int) (stack vs : List Int) (j : Nat) (h : stack.length ≤ 8) : (catV next stack vs j).length = 21 + 19 * j := by
  rw [catV, List.length_append, fill_length _ _ (by rw [catP_len]; omega), volsB_len, pos_six]
theorem catV_zero (next : Int) (stack vs : List Int) (h : stack.length ≤ 8) : fill (catV next stack vs 0) 240 = fill (catP next stack) 240 := by
  have e : catV next stack vs 0 = fill (catP next stack) 21 := by simp [catV, volsB]
  rw [e, fill]
  have := fill_more (catP next stack) (21 - (catP next stack).length) 240 (by rw [catP_len]; omega)
  rw [← this]
  rfl
theorem catV_succ (next : Int) (stack vs : List Int) (j : Nat) :
    catV next stack vs (j + 1) = catV next stack vs j ++ volB (vs.getD (6 * j) 0).toNat (vs.getD (6 * j + 1) 0).toNat (vs.getD (6 * j + 2) 0).toNat (vs.getD (6 * j + 3) 0).toNat (vs.getD (6 * j + 4) 0).toNat (vs.getD (6 * j + 5) 0).toNat := by
  have e0 : 6 * j % 6 = 0 := by omega
  have e1 : (6 * j + 1) % 6 = 1 := by omega
  have e2 : (6 * j + 2) % 6 = 2 := by omega
  have e3 : (6 * j + 3) % 6 = 3 := by omega
  have e4 : (6 * j + 4) % 6 = 4 := by omega
  have e5 : (6 * j + 5) % 6 = 5 := by omega
  simp only [catV]
  rw [show 6 * (j + 1) = 6 * j + 1 + 1 + 1 + 1 + 1 + 1 from by omega, volsB_succ, volsB_succ, volsB_succ, volsB_succ, volsB_succ, volsB_succ]
  simp only [e0, e1, e2, e3, e4, e5, wid, volB, List.append_assoc]
theorem catV_all (next : Int) (stack vs : List Int) : catV next stack vs 8 = catB next stack vs := rfl
set_option maxRecDepth 100000 in
set_option maxHeartbeats 3200000 in
theorem codec_put_catalogue (b : Nat) (next : Int) (AV AS : Option Addr) (nv cv ns cs : Nat) (stack vs : List Int) (w : World) (hs : Ints w b AS ns stack) (hv : Ints w b AV (6 * nv) vs) (hns : ns ≤ 9223372036854775807) :
    Calls Try.prog 39 #[.agg #[.int .i64 next, .slice AV nv cv, .slice AS ns cs]] w (Gave w 126 (catW next stack vs)) := by
  have hga := World.grownBy_alloc w (.cells #[.int .i64 next, .slice AV nv cv, .slice AS ns cs] 75) none
  have HSL := Lib.hid hs.1; have HVL := Lib.hid hv.1
  have HS := Lib.hid hs; have HV := Lib.hid hv; have HS0 := Lib.hid (ints_keep hs hga (.inl rfl)); have HV0 := Lib.hid (ints_keep hv hga (.inl rfl)); have HG0 := Lib.hid hga; have HX0 := Lib.hid (Blk.new w 75 #[.int .i64 next, .slice AV nv cv, .slice AS ns cs])
  have hz := zero240
  clear hs hv hga
  cases hok : catOk next stack vs with
  | false =>
    have HNO := Lib.hid (show catW next stack vs = none by rw [catW, hok]; rfl)
    have HOK := Lib.hid hok; clear hok
    go_enter Try.func39, Try.ntmps39
    go_wp2_with fail
    refine (catmay_any b next AV AS nv cv ns cs stack vs _ HS0.out HV0.out hns).mono ?_
    rintro e w1 ⟨rfl, hg1⟩
    rw [HOK.out]
    have HG1 := Lib.hid (HG0.out.trans hg1); clear hg1
    go_wp2
    go_ret2
    exact ⟨HG1.out, .inr ⟨HNO.out, rfl⟩⟩
  | true =>
    have HYES := Lib.hid (show catW next stack vs = some (fill (catB next stack vs) 240) by rw [catW, hok]; rfl)
    obtain ⟨⟨hn0, hn1⟩, hs8, hv48, hsb, hvb⟩ := catOk_iff hok
    have HSB := Lib.hid (fun j hj => allB_yes hsb j hj : ∀ j, j < stack.length → 0 ≤ stack.getD j 0 ∧ stack.getD j 0 ≤ 1023)
    have HVB := Lib.hid (fun j hj => volsOk_yes hvb j hj : ∀ j, j < vs.length → 0 ≤ vs.getD j 0 ∧ vs.getD j 0 ≤ most (j % 6))
    have HOK := Lib.hid hok; clear hok hsb hvb
    obtain rfl : nv = 8 := by have := HVL.out; omega
    obtain ⟨m, rfl⟩ := Int.eq_ofNat_of_zero_le hn0
    have HS8 := Lib.hid hs8; have HV48 := Lib.hid hv48
    rw [HSL.out] at hs8
    clear hv48
    have HFZ := Lib.hid (fill_zero 240)
    generalize hzz : Array.replicate 240 (Value.int .u8 0) = zs at *
    clear hzz
    go_enter Try.func39, Try.ntmps39
    go_wp2_with fail
    refine (catmay_any b (m : Int) AV AS 8 cv ns cs stack vs _ HS0.out HV0.out hns).mono ?_
    rintro e w1 ⟨rfl, hg1⟩
    rw [HOK.out]
    have hsz1 := hg1.size
    rw [World.size_alloc] at hsz1
    have hst := start_row (HG0.out.trans hg1) 126 240 zs HFZ.out
    obtain ⟨hgs, hcs, hbs⟩ := hst
    have hx1 := ((HX0.out.grown hg1 (by simp)).alloc (.cells zs 126)).alloc (.cells #[.slice (some ⟨w1.heap.size, 0, none⟩) 240 240] 108)
    have HG1 := Lib.hid hgs; have HC1 := Lib.hid hcs; have HB1 := Lib.hid hbs; have HX1 := Lib.hid hx1
    have x0 := hx1.cell 0
    simp only [List.getElem?_toArray, List.getElem?_cons_zero] at x0
    clear hg1 hgs hcs hbs hx1
    go_wp2_with fail
    refine (write_any _ _ 0 240 4 m _ _ _ HC1.out HB1.out (by decide) (by omega) (by rw [fill_length _ _ (by simp)]; omega) (by rw [fill_length _ _ (by simp)]; omega) (by omega)).mono ?_
    clear x0
    rintro e w2 ⟨rfl, hlf, hc, hb⟩
    rw [show lay (fill [] 240) 0 (be 4 m) = fill ([] ++ be 4 m) 240 from lay_fill [] (be 4 m) 240] at hb
    have hx := hlf.blk HX1.out (by omega) (by omega)
    have HG2 := Lib.hid (hlf.new HG1.out (by omega) (by omega)); have HC2 := Lib.hid hc; have HB2 := Lib.hid hb; have HX2 := Lib.hid hx
    have x2 := hx.cell 2
    simp only [List.getElem?_toArray, List.getElem?_cons_zero, List.getElem?_cons_succ] at x2
    clear hlf hc hb hx HG1 HC1 HB1 HX1
    go_wp2_with fail
    refine (write_any _ _ 4 236 1 ns _ _ _ HC2.out HB2.out (by decide) (by omega) (by rw [fill_length _ _ (by simp [be_length])]; omega) (by rw [fill_length _ _ (by simp [be_length])]; omega) (by omega)).mono ?_
    clear x2
    rintro e w3 ⟨rfl, hlf, hc, hb⟩
    rw [show lay (fill ([] ++ be 4 m) 240) 4 (be 1 ns) = fill (catQ m stack 0) 240 by
      have h := lay_fill ([] ++ be 4 m) (be 1 ns) 240
      rw [← HSL.out] at h ⊢
      exact h.trans (by simp [catQ])] at hb
    have hx := hlf.blk HX2.out (by omega) (by omega)
    have HG3 := Lib.hid (hlf.new HG2.out (by omega) (by omega)); have HC3 := Lib.hid hc; have HB3 := Lib.hid hb; have HX3 := Lib.hid hx
    clear hlf hc hb hx HG2 HC2 HB2 HX2
    go_wp2_with fail
    refine (take_any _ _ 5 235 16 _ HC3.out (by omega) (by omega)).mono ?_
    rintro e w4 ⟨⟨k4, rfl, hk4⟩, hr, hc⟩
    obtain rfl := hk4 (by omega)
    have hga4 := World.grownBy_alloc w4 (.cells #[.slice (some ⟨w1.heap.size, 5, none⟩) 16 16] 108) none
    have hb4 := (HB3.out.grown hr (by simp)).alloc (.cells #[.slice (some ⟨w1.heap.size, 5, none⟩) 16 16] 108)
    have hx4 := (HX3.out.grown hr (by simp; omega)).alloc (.cells #[.slice (some ⟨w1.heap.size, 5, none⟩) 16 16] 108)
    have hg4 := (grownBy_new HG3.out hr (fun j hj => by cases hj; omega)).trans hga4
    have hp2 : w1.heap.size + 1 < w4.heap.size := by obtain ⟨_, h, _⟩ := hc; exact h.lt
    have hq4 : Cur (w4.alloc (.cells #[.slice (some ⟨w1.heap.size, 5, none⟩) 16 16] 108)) w4.heap.size w1.heap.size 5 16 := ⟨5, Blk.new w4 _ _, fun _ => rfl⟩
    have HG4 := Lib.hid hg4; have HC4 := Lib.hid (hc.grown hga4 (by simp)); have HB4 := Lib.hid hb4; have HX4 := Lib.hid hx4; have HQ4 := Lib.hid hq4
    have x2 := hx4.cell 2
    simp only [List.getElem?_toArray, List.getElem?_cons_zero, List.getElem?_cons_succ] at x2
    clear hr hc hga4 hb4 hx4 hg4 hq4 HG3 HC3 HB3 HX3
    go_wp2_with fail
    clear x2
    go_loopw [8, 26] (fun _ i wr => ∃ j : Nat, j ≤ ns ∧ i = .int .i64 j ∧ w.grownBy wr none ∧ Cur wr w4.heap.size w1.heap.size (5 + 2 * j) (16 - 2 * j) ∧ Cur wr (w1.heap.size + 1) w1.heap.size 21 219 ∧
      Blk wr w1.heap.size 126 (u8s (fill (catQ m stack j) 240)).toArray ∧ Blk wr w.heap.size 75 #[.int .i64 (m : Nat), .slice AV 8 cv, .slice AS ns cs]) (fun _ i _ => ns - (intOf i).toNat)
    case atStart => exact ⟨0, by omega, rfl, HG4.out, HQ4.out, HC4.out, HB4.out, HX4.out⟩
    case round =>
      obtain ⟨j, hj, rfl, hg, hq, hc, hb, hx⟩ := hrel
      have HG := Lib.hid hg; have HQ := Lib.hid hq; have HC := Lib.hid hc; have HB := Lib.hid hb; have HX := Lib.hid hx
      clear hg hq hc hb hx
      by_cases hlt : j < ns
      · obtain ⟨g, o, rfl, _, _, hcl⟩ := (ints_keep HS.out HG.out (.inl rfl)).2.2 (by omega)
        have hcj := hcl j hlt
        clear hcl
        obtain ⟨hy0, hy1⟩ := HSB.out j (by rw [HSL.out]; exact hlt)
        have hpl := catQ_len m stack j (by rw [HSL.out]; exact hj)
        have hly := lay_fill (catQ m stack j) (be 2 (stack.getD j 0).toNat) 240
        rw [hpl, ← catQ_succ _ _ _ (by rw [HSL.out]; exact hlt)] at hly
        have hfl := fill_length (catQ m stack j) 240 (by omega)
        have HLY := Lib.hid hly; have HFL := Lib.hid hfl; clear hly hpl hfl
        generalize stack.getD j 0 = x at *
        obtain ⟨y, rfl⟩ := Int.eq_ofNat_of_zero_le hy0
        rw [Int.toNat_natCast] at HLY
        go_wp2_with fail
        refine (write_any _ _ (5 + 2 * j) (16 - 2 * j) 2 y _ _ _ HQ.out HB.out (by decide) (by omega) (by rw [HFL.out]; omega) (by rw [HFL.out]; omega) (by omega)).mono ?_
        rintro e w5 ⟨rfl, hlf, hq5, hb5⟩
        rw [HLY.out] at hb5
        have hc5 : Cur w5 (w1.heap.size + 1) w1.heap.size 21 219 := by obtain ⟨k0, h, hk⟩ := HC.out; exact ⟨k0, hlf.blk h (by omega) (by omega), hk⟩
        have HG5 := Lib.hid (hlf.new HG.out (by omega) (by omega)); have HQ5 := Lib.hid hq5; have HB5 := Lib.hid hb5; have HC5 := Lib.hid hc5; have HX5 := Lib.hid (hlf.blk HX.out (by omega) (by omega))
        clear hlf hq5 hb5 hcj hc5
        go_wp2_with fail
        go_roundw
        case rel =>
          refine ⟨j + 1, by omega, by go_num, HG5.out, ?_, HC5.out, HB5.out, HX5.out⟩
          have h := HQ5.out
          rwa [show 5 + 2 * j + 2 = 5 + 2 * (j + 1) from by omega, show 16 - 2 * j - 2 = 16 - 2 * (j + 1) from by omega] at h
        case measure => simp [intOf]; omega
      · obtain rfl : j = ns := by omega
        have hb := HB.out
        rw [← HSL.out, catQ_all, ← catV_zero (m : Int) stack vs HS8.out] at hb
        have HB6 := Lib.hid hb
        have x1 := HX.out.cell 1
        simp only [List.getElem?_toArray, List.getElem?_cons_zero, List.getElem?_cons_succ] at x1
        clear hb
        go_wp2_with fail
        clear x1
        go_loopw [10, 36] (fun _ i wq => ∃ q : Nat, q ≤ 8 ∧ i = .int .i64 q ∧ w.grownBy wq none ∧ Cur wq (w1.heap.size + 1) w1.heap.size (21 + 19 * q) (219 - 19 * q) ∧
          Blk wq w1.heap.size 126 (u8s (fill (catV (m : Int) stack vs q) 240)).toArray) (fun _ i _ => 8 - (intOf i).toNat)
        case atStart => exact ⟨0, by omega, rfl, HG.out, HC.out, HB6.out⟩
        case round =>
          obtain ⟨q, hq, rfl, hg, hc, hb⟩ := hrel
          have HGq := Lib.hid hg; have HCq := Lib.hid hc; have HBq := Lib.hid hb
          clear hg hc hb
          by_cases hlt : q < 8
          · obtain ⟨g, o, rfl, hgl, _, hcl⟩ := (ints_keep HV.out HGq.out (.inl rfl)).2.2 (by omega)
            have c0 := hcl (6 * q) (by omega)
            rw [show o + 6 * q = o + q * 6 from by omega] at c0
            have c1 := hcl (6 * q + 1) (by omega)
            rw [show o + (6 * q + 1) = o + q * 6 + 1 from by omega] at c1
            have c2 := hcl (6 * q + 2) (by omega)
            rw [show o + (6 * q + 2) = o + q * 6 + 2 from by omega] at c2
            have c3 := hcl (6 * q + 3) (by omega)
            rw [show o + (6 * q + 3) = o + q * 6 + 3 from by omega] at c3
            have c4 := hcl (6 * q + 4) (by omega)
            rw [show o + (6 * q + 4) = o + q * 6 + 4 from by omega] at c4
            have c5 := hcl (6 * q + 5) (by omega)
            rw [show o + (6 * q + 5) = o + q * 6 + 5 from by omega] at c5
            clear hcl
            have g0 := (HVB.out (6 * q) (by rw [HV48.out]; omega)).1
            have g1 := (HVB.out (6 * q + 1) (by rw [HV48.out]; omega)).1
            have g2 := (HVB.out (6 * q + 2) (by rw [HV48.out]; omega)).1
            have g3 := (HVB.out (6 * q + 3) (by rw [HV48.out]; omega)).1
            have g4 := (HVB.out (6 * q + 4) (by rw [HV48.out]; omega)).1
            have g5 := (HVB.out (6 * q + 5) (by rw [HV48.out]; omega)).1
            have HVS := Lib.hid (catV_succ (m : Int) stack vs q)
            have HVN := Lib.hid (catV_len (m : Int) stack vs q HS8.out)
            generalize vs.getD (6 * q) 0 = a0 at *
            obtain ⟨m0, rfl⟩ := Int.eq_ofNat_of_zero_le g0
            generalize vs.getD (6 * q + 1) 0 = a1 at *
            obtain ⟨m1, rfl⟩ := Int.eq_ofNat_of_zero_le g1
            generalize vs.getD (6 * q + 2) 0 = a2 at *
            obtain ⟨m2, rfl⟩ := Int.eq_ofNat_of_zero_le g2
            generalize vs.getD (6 * q + 3) 0 = a3 at *
            obtain ⟨m3, rfl⟩ := Int.eq_ofNat_of_zero_le g3
            generalize vs.getD (6 * q + 4) 0 = a4 at *
            obtain ⟨m4, rfl⟩ := Int.eq_ofNat_of_zero_le g4
            generalize vs.getD (6 * q + 5) 0 = a5 at *
            obtain ⟨m5, rfl⟩ := Int.eq_ofNat_of_zero_le g5
            simp only [Int.toNat_natCast] at HVS
            have hlC : w1.heap.size + 1 < wr.heap.size := by obtain ⟨_, h, _⟩ := HCq.out; exact h.lt
            have hga := World.grownBy_alloc wr (.cells #[.int .i64 (m0 : Nat), .int .i64 (m1 : Nat), .int .i64 (m2 : Nat), .int .i64 (m3 : Nat), .int .i64 (m4 : Nat), .int .i64 (m5 : Nat)] 129) none
            have HGa := Lib.hid (HGq.out.trans hga); have HCa := Lib.hid (HCq.out.grown hga (by simp)); have HBa := Lib.hid (HBq.out.alloc (.cells #[.int .i64 (m0 : Nat), .int .i64 (m1 : Nat), .int .i64 (m2 : Nat), .int .i64 (m3 : Nat), .int .i64 (m4 : Nat), .int .i64 (m5 : Nat)] 129))
            clear hga
            go_wp2_with fail
            refine (putvolume_any (w1.heap.size + 1) w1.heap.size 126 (catV (m : Int) stack vs q) m0 m1 m2 m3 m4 m5 _ (by rw [HVN.out, show 240 - (21 + 19 * q) = 219 - 19 * q from by omega]; exact HCa.out) HBa.out (by decide) (by rw [HVN.out]; omega)).mono ?_
            rintro e w7 ⟨rfl, hlf, hc7, hb7⟩
            rw [← HVS.out] at hb7
            rw [HVN.out] at hc7
            have HG7 := Lib.hid (hlf.new HGa.out (by omega) (by omega)); have HC7 := Lib.hid hc7; have HB7 := Lib.hid hb7
            clear hlf hc7 hb7 c0 c1 c2 c3 c4 c5
            go_wp2_with fail
            go_roundw
            case rel =>
              refine ⟨q + 1, by omega, by go_num, HG7.out, ?_, HB7.out⟩
              have h := HC7.out
              rwa [show 21 + 19 * q + 19 = 21 + 19 * (q + 1) from by omega, show 240 - (21 + 19 * q) - 19 = 219 - 19 * (q + 1) from by omega] at h
            case measure => simp [intOf]; omega
          · obtain rfl : q = 8 := by omega
            have hb := HBq.out
            rw [catV_all] at hb
            have HB8 := Lib.hid hb; clear hb
            go_wp2
            go_ret2
            refine ⟨HGq.out, .inl ⟨_, w1.heap.size, HYES.out, ?_, by omega, HB8.out, fill_lt _ _ (catB_lt _ _ _)⟩⟩
            rw [fill_length _ _ (by rw [catB_len _ _ _ HS8.out]; omega)]
            rfl
end Go.Proofs.Ytkiohneggoiipaa.Codec
