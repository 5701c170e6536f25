/- The project's PutNode, with nodeMayBe. -/
import Derived.Test.YtkiohneggoiipaaCodecPagePut
import Derived.Test.YtkiohneggoiipaaRefNode
namespace Go.Proofs.Ytkiohneggoiipaa.Codec
open Go.RowKit CrcMath CodecMath Mem Crc

theorem nodeOk_eq {ks vs : List Int} {n n' : Nat} (hn : ks.length = n) (hn' : vs.length = n') : nodeOk ks vs = (decide (n = n') && decide (n ≤ 8) && allB ks 1048575 && allB vs 1023) := by subst hn hn'; rfl
set_option maxRecDepth 100000 in
set_option maxHeartbeats 800000 in
theorem nodemay_any (b : Nat) (leaf : Bool) (A A' : Option Addr) (n n' c c' : Nat) (ks vs : List Int) (w : World) (hk : Ints w b A n ks) (hv : Ints w b A' n' vs) :
    Calls Try.prog 69 #[.agg #[.bool leaf, .slice A n c, .slice A' n' c']] w fun e w' =>
      e = .returned (.bool (nodeOk ks vs)) ∧ w' = w.alloc (.cells #[.bool leaf, .slice A n c, .slice A' n' c'] 62) := by
  have HOK := Lib.hid (nodeOk_eq hk.1 hv.1)
  have HK := Lib.hid (ints_keep hk (World.grownBy_alloc w (.cells #[.bool leaf, .slice A n c, .slice A' n' c'] 62) none) (.inl rfl)); have HV := Lib.hid (ints_keep hv (World.grownBy_alloc w (.cells #[.bool leaf, .slice A n c, .slice A' n' c'] 62) none) (.inl rfl))
  clear hk hv
  generalize nodeOk ks vs = ok at *
  by_cases h1 : n = n'
  · subst h1
    by_cases h2 : n ≤ 8
    · have h2' : ((n : Nat) : Int) ≤ 8 := by omega
      cases hka : allB ks 1048575 with
      | false =>
        have HN := Lib.hid (show ok = false by rw [HOK.out, hka]; simp)
        have HKA := Lib.hid hka; clear hka
        go_enter Try.func69, Try.ntmps69
        go_wp2_with fail
        refine (allwithin_any b A n c ks 1048575 _ HK.out (by omega)).mono ?_
        rintro e w2 ⟨rfl, rfl⟩
        rw [HKA.out]
        go_wp2
        go_ret
        exact ⟨by rw [HN.out]; rfl, rfl⟩
      | true =>
        have HN := Lib.hid (show ok = allB vs 1023 by rw [HOK.out, hka]; simp [h2])
        have HKA := Lib.hid hka; clear hka
        go_enter Try.func69, Try.ntmps69
        go_wp2_with fail
        refine (allwithin_any b A n c ks 1048575 _ HK.out (by omega)).mono ?_
        rintro e w2 ⟨rfl, rfl⟩
        rw [HKA.out]
        go_wp2_with fail
        refine (allwithin_any b A' n c' vs 1023 _ HV.out (by omega)).mono ?_
        rintro e w2 ⟨rfl, rfl⟩
        go_wp2
        go_ret
        exact ⟨by rw [HN.out]; rfl, rfl⟩
    · have HN := Lib.hid (show ok = false by rw [HOK.out]; simp [h2])
      have hd : decide (((n : Nat) : Int) ≤ 8) = false := by simp; omega
      go_enter Try.func69, Try.ntmps69
      go_wp2
      go_ret
      exact ⟨by rw [HN.out]; rfl, rfl⟩
  · have HN := Lib.hid (show ok = false by rw [HOK.out]; simp [h1])
    have hne : (((n : Nat) : Int) == ((n' : Nat) : Int)) = false := by simp; omega
    go_enter Try.func69, Try.ntmps69
    go_wp2
    go_ret
    exact ⟨by rw [HN.out]; rfl, rfl⟩

/-- What of a node stands when j of its keys are written. -/
def nodeP (leaf : Bool) (ks vs : List Int) (j : Nat) : List Nat := be 1 (if leaf then 1 else 0) ++ be 1 ks.length ++ pairsB ks vs j
theorem nodeP_len (leaf : Bool) (ks vs : List Int) (j : Nat) : (nodeP leaf ks vs j).length = 2 + 6 * j := by simp only [nodeP, List.length_append, be_length, pairsB_len]
theorem nodeP_succ (leaf : Bool) (ks vs : List Int) (j : Nat) : nodeP leaf ks vs (j + 1) = nodeP leaf ks vs j ++ be 4 (ks.getD j 0).toNat ++ be 2 (vs.getD j 0).toNat := by simp [nodeP, pairsB_succ]
theorem nodeP_all (leaf : Bool) (ks vs : List Int) : nodeP leaf ks vs ks.length = nodeB leaf ks vs := by simp [nodeP, nodeB]
set_option maxRecDepth 100000 in
set_option maxHeartbeats 1600000 in
theorem codec_put_node_false (b : Nat) (A A' : Option Addr) (n n' c c' : Nat) (ks vs : List Int) (w : World) (hk : Ints w b A n ks) (hv : Ints w b A' n' vs) :
    Calls Try.prog 31 #[.agg #[.bool false, .slice A n c, .slice A' n' c']] w (Gave w 126 (nodeW false ks vs)) := by
  have HKL := Lib.hid hk.1; have HVL := Lib.hid hv.1
  have hg00 := World.grownBy_alloc w (.cells #[.bool false, .slice A n c, .slice A' n' c'] 62) none
  have HK := Lib.hid hk; have HV := Lib.hid hv
  have HK1 := Lib.hid (ints_keep hk hg00 (.inl rfl)); have HV1 := Lib.hid (ints_keep hv hg00 (.inl rfl))
  have HG0 := Lib.hid (hg00.trans (World.grownBy_alloc _ (.cells #[.bool false, .slice A n c, .slice A' n' c'] 62) none))
  have HBX := Lib.hid ((Blk.new w 62 #[.bool false, .slice A n c, .slice A' n' c']).alloc (.cells #[.bool false, .slice A n c, .slice A' n' c'] 62))
  have hz := zero240
  clear hk hv hg00
  cases hok : nodeOk ks vs with
  | false =>
    have HNO := Lib.hid (show nodeW false ks vs = none by rw [nodeW, hok]; rfl)
    have HOK := Lib.hid hok; clear hok
    go_enter Try.func31, Try.ntmps31
    go_wp2_with fail
    refine (nodemay_any b false A A' n n' c c' ks vs _ HK1.out HV1.out).mono ?_
    rintro e w1 ⟨rfl, rfl⟩
    rw [HOK.out]
    go_wp2
    go_ret2
    exact ⟨HG0.out, .inr ⟨HNO.out, rfl⟩⟩
  | true =>
    have HYES := Lib.hid (show nodeW false ks vs = some (fill (nodeB false ks vs) 240) by rw [nodeW, hok]; rfl)
    obtain ⟨hnn, hn8, hka, hva⟩ := nodeOk_iff hok
    have HKB := Lib.hid (fun j hj => allB_yes hka j hj : ∀ j, j < ks.length → 0 ≤ ks.getD j 0 ∧ ks.getD j 0 ≤ 1048575)
    have HVB := Lib.hid (fun j hj => allB_yes hva j hj : ∀ j, j < vs.length → 0 ≤ vs.getD j 0 ∧ vs.getD j 0 ≤ 1023)
    have HOK := Lib.hid hok; clear hok hka hva
    obtain rfl : n = n' := by rw [← HKL.out, ← HVL.out, hnn]
    have hn8' : n ≤ 8 := by rw [← HKL.out]; exact hn8
    clear hnn hn8
    have HFZ := Lib.hid (fill_zero 240)
    generalize hzz : Array.replicate 240 (Value.int .u8 0) = zs at *
    clear hzz
    have hst := start_row HG0.out 126 240 zs HFZ.out
    simp only [World.size_alloc] at hst
    obtain ⟨hg1, hc1, hb1⟩ := hst
    have hbx1 := (HBX.out.alloc (.cells zs 126)).alloc (.cells #[.slice (some ⟨w.heap.size + 1 + 1, 0, none⟩) 240 240] 108)
    have HG1 := Lib.hid hg1; have HC1 := Lib.hid hc1; have HB1 := Lib.hid hb1; have HX1 := Lib.hid hbx1
    have b0 := hbx1.cell 0
    simp only [List.getElem?_toArray, List.getElem?_cons_zero] at b0
    clear hg1 hc1 hb1 hbx1
    go_enter Try.func31, Try.ntmps31
    go_wp2_with fail
    refine (nodemay_any b false A A' n n c c' ks vs _ HK1.out HV1.out).mono ?_
    rintro e w1 ⟨rfl, rfl⟩
    rw [HOK.out]
    go_wp2_with fail
    clear b0
    refine (write_any _ _ 0 240 1 0 _ _ _ HC1.out HB1.out (by decide) (by omega) (by rw [fill_length _ _ (by simp)]; omega) (by rw [fill_length _ _ (by simp)]; omega) (by omega)).mono ?_
    rintro e w2 ⟨rfl, hlf, hc, hb⟩
    rw [show lay (fill [] 240) 0 (be 1 0) = fill ([] ++ be 1 0) 240 from lay_fill [] (be 1 0) 240] at hb
    have hbx := hlf.blk HX1.out (by omega) (by omega)
    have HG2 := Lib.hid (hlf.new HG1.out (by omega) (by omega)); have HC2 := Lib.hid hc; have HB2 := Lib.hid hb; have HX2 := Lib.hid hbx
    have b1 := hbx.cell 1
    simp only [List.getElem?_toArray, List.getElem?_cons_zero, List.getElem?_cons_succ] at b1
    clear hlf hc hb hbx HG1 HC1 HB1 HX1
    go_wp2_with fail
    refine (write_any _ _ 1 239 1 n _ _ _ HC2.out HB2.out (by decide) (by omega) (by rw [fill_length _ _ (by simp [be_length])]; omega) (by rw [fill_length _ _ (by simp [be_length])]; omega) (by omega)).mono ?_
    clear b1
    rintro e w3 ⟨rfl, hlf, hc, hb⟩
    rw [show lay (fill ([] ++ be 1 0) 240) 1 (be 1 n) = fill (nodeP false ks vs 0) 240 by
      have h := lay_fill ([] ++ be 1 0) (be 1 n) 240
      rw [← HKL.out] at h ⊢
      exact h.trans (by simp [nodeP, pairsB])] at hb
    have hbx := hlf.blk HX2.out (by omega) (by omega)
    have HG3 := Lib.hid (hlf.new HG2.out (by omega) (by omega)); have HC3 := Lib.hid hc; have HB3 := Lib.hid hb; have HX3 := Lib.hid hbx
    have b1 := hbx.cell 1
    simp only [List.getElem?_toArray, List.getElem?_cons_zero, List.getElem?_cons_succ] at b1
    clear hlf hc hb hbx
    go_wp2_with fail
    clear b1
    go_loopw [7, 8, 24] (fun _ _ i wr => ∃ j : Nat, j ≤ n ∧ i = .int .i64 j ∧ w.grownBy wr none ∧ Cur wr (w.heap.size + 1 + 1 + 1) (w.heap.size + 1 + 1) (2 + 6 * j) (238 - 6 * j) ∧
      Blk wr (w.heap.size + 1 + 1) 126 (u8s (fill (nodeP false ks vs j) 240)).toArray ∧ Blk wr w.heap.size 62 #[.bool false, .slice A n c, .slice A' n c']) (fun _ _ i _ => n - (intOf i).toNat)
    case atStart => exact ⟨0, by omega, rfl, HG3.out, HC3.out, HB3.out, HX3.out⟩
    case round =>
      obtain ⟨j, hj, rfl, hg, hc, hb, hx⟩ := hrel
      have HG := Lib.hid hg; have HC := Lib.hid hc; have HBK := Lib.hid hb; have HX := Lib.hid hx
      clear hg hc hb hx
      by_cases hlt : j < n
      · obtain ⟨g, o, rfl, _, _, hcl⟩ := (ints_keep HK.out HG.out (.inl rfl)).2.2 (by omega)
        have hcj := hcl j hlt
        clear hcl
        obtain ⟨hx0, hx1⟩ := HKB.out j (by rw [HKL.out]; exact hlt)
        obtain ⟨hy0, hy1⟩ := HVB.out j (by rw [HVL.out]; exact hlt)
        have hpl := nodeP_len false ks vs j
        have hly := lay_fill (nodeP false ks vs j) (be 4 (ks.getD j 0).toNat) 240
        have hpl2 : (nodeP false ks vs j ++ be 4 (ks.getD j 0).toNat).length = 6 + 6 * j := by rw [List.length_append, hpl, be_length]; omega
        have hly2 := lay_fill (nodeP false ks vs j ++ be 4 (ks.getD j 0).toNat) (be 2 (vs.getD j 0).toNat) 240
        rw [hpl] at hly
        rw [hpl2, ← nodeP_succ] at hly2
        have HFL := Lib.hid (fill_length (nodeP false ks vs j) 240 (by omega))
        have HFL2 := Lib.hid (fill_length (nodeP false ks vs j ++ be 4 (ks.getD j 0).toNat) 240 (by omega))
        have HLY := Lib.hid hly; have HLY2 := Lib.hid hly2; clear hly hly2 hpl hpl2
        have hcv : ∀ wz : World, w.grownBy wz none → ∃ g' o', A' = some ⟨g', o', none⟩ ∧ wz.cell? ⟨g', o' + j, none⟩ = some (.int .i64 (vs.getD j 0)) := fun wz hz => by
          obtain ⟨g', o', e', _, _, hcl⟩ := (ints_keep HV.out hz (.inl rfl)).2.2 (by omega)
          exact ⟨g', o', e', hcl j hlt⟩
        have HCV := Lib.hid hcv; clear hcv
        generalize vs.getD j 0 = y at *
        generalize ks.getD j 0 = x at *
        obtain ⟨m, rfl⟩ := Int.eq_ofNat_of_zero_le hx0
        obtain ⟨q, rfl⟩ := Int.eq_ofNat_of_zero_le hy0
        rw [Int.toNat_natCast] at HLY HLY2 HFL2
        rw [Int.toNat_natCast] at HLY2
        go_wp2_with fail
        refine (write_any _ _ (2 + 6 * j) (238 - 6 * j) 4 m _ _ _ HC.out HBK.out (by decide) (by omega) (by rw [HFL.out]; omega) (by rw [HFL.out]; omega) (by omega)).mono ?_
        rintro e w4 ⟨rfl, hlf, hc4, hb4⟩
        rw [HLY.out] at hb4
        have hbx := hlf.blk HX.out (by omega) (by omega)
        have HG4 := Lib.hid (hlf.new HG.out (by omega) (by omega)); have HC4 := Lib.hid hc4; have HB4 := Lib.hid hb4; have HX4 := Lib.hid hbx
        have b2 := hbx.cell 2
        simp only [List.getElem?_toArray, List.getElem?_cons_zero, List.getElem?_cons_succ] at b2
        clear hlf hc4 hb4 hbx hcj
        obtain ⟨g', o', rfl, hcv⟩ := HCV.out w4 HG4.out
        go_wp2_with fail
        refine (write_any _ _ (6 + 6 * j) (234 - 6 * j) 2 q _ _ _ (by have h := HC4.out; rwa [show 2 + 6 * j + 4 = 6 + 6 * j from by omega, show 238 - 6 * j - 4 = 234 - 6 * j from by omega] at h) HB4.out (by decide) (by omega) (by rw [HFL2.out]; omega) (by rw [HFL2.out]; omega) (by omega)).mono ?_
        rintro e w5 ⟨rfl, hlf, hc5, hb5⟩
        rw [HLY2.out] at hb5
        have hbx := hlf.blk HX4.out (by omega) (by omega)
        have HG5 := Lib.hid (hlf.new HG4.out (by omega) (by omega)); have HC5 := Lib.hid hc5; have HB5 := Lib.hid hb5; have HX5 := Lib.hid hbx
        clear hlf hc5 hb5 hbx hcv b2
        go_wp2_with fail
        go_roundw
        case rel =>
          refine ⟨j + 1, by omega, by go_num, HG5.out, ?_, HB5.out, HX5.out⟩
          have h := HC5.out
          rwa [show 6 + 6 * j + 2 = 2 + 6 * (j + 1) from by omega, show 234 - 6 * j - 2 = 238 - 6 * (j + 1) from by omega] at h
        case measure => simp [intOf]; omega
      · obtain rfl : j = n := by omega
        have hb := HBK.out
        rw [← HKL.out, nodeP_all] at hb
        have HB7 := Lib.hid hb; clear hb
        go_wp2
        go_ret2
        refine ⟨HG.out, .inl ⟨_, w.heap.size + 1 + 1, HYES.out, ?_, by omega, HB7.out, fill_lt _ _ (nodeB_lt false ks vs)⟩⟩
        rw [fill_length _ _ (by rw [nodeB_len, HKL.out]; omega)]
        rfl
set_option maxRecDepth 100000 in
set_option maxHeartbeats 1600000 in
theorem codec_put_node_true (b : Nat) (A A' : Option Addr) (n n' c c' : Nat) (ks vs : List Int) (w : World) (hk : Ints w b A n ks) (hv : Ints w b A' n' vs) :
    Calls Try.prog 31 #[.agg #[.bool true, .slice A n c, .slice A' n' c']] w (Gave w 126 (nodeW true ks vs)) := by
  have HKL := Lib.hid hk.1; have HVL := Lib.hid hv.1
  have hg00 := World.grownBy_alloc w (.cells #[.bool true, .slice A n c, .slice A' n' c'] 62) none
  have HK := Lib.hid hk; have HV := Lib.hid hv
  have HK1 := Lib.hid (ints_keep hk hg00 (.inl rfl)); have HV1 := Lib.hid (ints_keep hv hg00 (.inl rfl))
  have HG0 := Lib.hid (hg00.trans (World.grownBy_alloc _ (.cells #[.bool true, .slice A n c, .slice A' n' c'] 62) none))
  have HBX := Lib.hid ((Blk.new w 62 #[.bool true, .slice A n c, .slice A' n' c']).alloc (.cells #[.bool true, .slice A n c, .slice A' n' c'] 62))
  have hz := zero240
  clear hk hv hg00
  cases hok : nodeOk ks vs with
  | false =>
    have HNO := Lib.hid (show nodeW true ks vs = none by rw [nodeW, hok]; rfl)
    have HOK := Lib.hid hok; clear hok
    go_enter Try.func31, Try.ntmps31
    go_wp2_with fail
    refine (nodemay_any b true A A' n n' c c' ks vs _ HK1.out HV1.out).mono ?_
    rintro e w1 ⟨rfl, rfl⟩
    rw [HOK.out]
    go_wp2
    go_ret2
    exact ⟨HG0.out, .inr ⟨HNO.out, rfl⟩⟩
  | true =>
    have HYES := Lib.hid (show nodeW true ks vs = some (fill (nodeB true ks vs) 240) by rw [nodeW, hok]; rfl)
    obtain ⟨hnn, hn8, hka, hva⟩ := nodeOk_iff hok
    have HKB := Lib.hid (fun j hj => allB_yes hka j hj : ∀ j, j < ks.length → 0 ≤ ks.getD j 0 ∧ ks.getD j 0 ≤ 1048575)
    have HVB := Lib.hid (fun j hj => allB_yes hva j hj : ∀ j, j < vs.length → 0 ≤ vs.getD j 0 ∧ vs.getD j 0 ≤ 1023)
    have HOK := Lib.hid hok; clear hok hka hva
    obtain rfl : n = n' := by rw [← HKL.out, ← HVL.out, hnn]
    have hn8' : n ≤ 8 := by rw [← HKL.out]; exact hn8
    clear hnn hn8
    have HFZ := Lib.hid (fill_zero 240)
    generalize hzz : Array.replicate 240 (Value.int .u8 0) = zs at *
    clear hzz
    have hst := start_row HG0.out 126 240 zs HFZ.out
    simp only [World.size_alloc] at hst
    obtain ⟨hg1, hc1, hb1⟩ := hst
    have hbx1 := (HBX.out.alloc (.cells zs 126)).alloc (.cells #[.slice (some ⟨w.heap.size + 1 + 1, 0, none⟩) 240 240] 108)
    have HG1 := Lib.hid hg1; have HC1 := Lib.hid hc1; have HB1 := Lib.hid hb1; have HX1 := Lib.hid hbx1
    have b0 := hbx1.cell 0
    simp only [List.getElem?_toArray, List.getElem?_cons_zero] at b0
    clear hg1 hc1 hb1 hbx1
    go_enter Try.func31, Try.ntmps31
    go_wp2_with fail
    refine (nodemay_any b true A A' n n c c' ks vs _ HK1.out HV1.out).mono ?_
    rintro e w1 ⟨rfl, rfl⟩
    rw [HOK.out]
    go_wp2_with fail
    clear b0
    refine (write_any _ _ 0 240 1 1 _ _ _ HC1.out HB1.out (by decide) (by omega) (by rw [fill_length _ _ (by simp)]; omega) (by rw [fill_length _ _ (by simp)]; omega) (by omega)).mono ?_
    rintro e w2 ⟨rfl, hlf, hc, hb⟩
    rw [show lay (fill [] 240) 0 (be 1 1) = fill ([] ++ be 1 1) 240 from lay_fill [] (be 1 1) 240] at hb
    have hbx := hlf.blk HX1.out (by omega) (by omega)
    have HG2 := Lib.hid (hlf.new HG1.out (by omega) (by omega)); have HC2 := Lib.hid hc; have HB2 := Lib.hid hb; have HX2 := Lib.hid hbx
    have b1 := hbx.cell 1
    simp only [List.getElem?_toArray, List.getElem?_cons_zero, List.getElem?_cons_succ] at b1
    clear hlf hc hb hbx HG1 HC1 HB1 HX1
    go_wp2_with fail
    refine (write_any _ _ 1 239 1 n _ _ _ HC2.out HB2.out (by decide) (by omega) (by rw [fill_length _ _ (by simp [be_length])]; omega) (by rw [fill_length _ _ (by simp [be_length])]; omega) (by omega)).mono ?_
    clear b1
    rintro e w3 ⟨rfl, hlf, hc, hb⟩
    rw [show lay (fill ([] ++ be 1 1) 240) 1 (be 1 n) = fill (nodeP true ks vs 0) 240 by
      have h := lay_fill ([] ++ be 1 1) (be 1 n) 240
      rw [← HKL.out] at h ⊢
      exact h.trans (by simp [nodeP, pairsB])] at hb
    have hbx := hlf.blk HX2.out (by omega) (by omega)
    have HG3 := Lib.hid (hlf.new HG2.out (by omega) (by omega)); have HC3 := Lib.hid hc; have HB3 := Lib.hid hb; have HX3 := Lib.hid hbx
    have b1 := hbx.cell 1
    simp only [List.getElem?_toArray, List.getElem?_cons_zero, List.getElem?_cons_succ] at b1
    clear hlf hc hb hbx
    go_wp2_with fail
    clear b1
    go_loopw [7, 8, 24] (fun _ _ i wr => ∃ j : Nat, j ≤ n ∧ i = .int .i64 j ∧ w.grownBy wr none ∧ Cur wr (w.heap.size + 1 + 1 + 1) (w.heap.size + 1 + 1) (2 + 6 * j) (238 - 6 * j) ∧
      Blk wr (w.heap.size + 1 + 1) 126 (u8s (fill (nodeP true ks vs j) 240)).toArray ∧ Blk wr w.heap.size 62 #[.bool true, .slice A n c, .slice A' n c']) (fun _ _ i _ => n - (intOf i).toNat)
    case atStart => exact ⟨0, by omega, rfl, HG3.out, HC3.out, HB3.out, HX3.out⟩
    case round =>
      obtain ⟨j, hj, rfl, hg, hc, hb, hx⟩ := hrel
      have HG := Lib.hid hg; have HC := Lib.hid hc; have HBK := Lib.hid hb; have HX := Lib.hid hx
      clear hg hc hb hx
      by_cases hlt : j < n
      · obtain ⟨g, o, rfl, _, _, hcl⟩ := (ints_keep HK.out HG.out (.inl rfl)).2.2 (by omega)
        have hcj := hcl j hlt
        clear hcl
        obtain ⟨hx0, hx1⟩ := HKB.out j (by rw [HKL.out]; exact hlt)
        obtain ⟨hy0, hy1⟩ := HVB.out j (by rw [HVL.out]; exact hlt)
        have hpl := nodeP_len true ks vs j
        have hly := lay_fill (nodeP true ks vs j) (be 4 (ks.getD j 0).toNat) 240
        have hpl2 : (nodeP true ks vs j ++ be 4 (ks.getD j 0).toNat).length = 6 + 6 * j := by rw [List.length_append, hpl, be_length]; omega
        have hly2 := lay_fill (nodeP true ks vs j ++ be 4 (ks.getD j 0).toNat) (be 2 (vs.getD j 0).toNat) 240
        rw [hpl] at hly
        rw [hpl2, ← nodeP_succ] at hly2
        have HFL := Lib.hid (fill_length (nodeP true ks vs j) 240 (by omega))
        have HFL2 := Lib.hid (fill_length (nodeP true ks vs j ++ be 4 (ks.getD j 0).toNat) 240 (by omega))
        have HLY := Lib.hid hly; have HLY2 := Lib.hid hly2; clear hly hly2 hpl hpl2
        have hcv : ∀ wz : World, w.grownBy wz none → ∃ g' o', A' = some ⟨g', o', none⟩ ∧ wz.cell? ⟨g', o' + j, none⟩ = some (.int .i64 (vs.getD j 0)) := fun wz hz => by
          obtain ⟨g', o', e', _, _, hcl⟩ := (ints_keep HV.out hz (.inl rfl)).2.2 (by omega)
          exact ⟨g', o', e', hcl j hlt⟩
        have HCV := Lib.hid hcv; clear hcv
        generalize vs.getD j 0 = y at *
        generalize ks.getD j 0 = x at *
        obtain ⟨m, rfl⟩ := Int.eq_ofNat_of_zero_le hx0
        obtain ⟨q, rfl⟩ := Int.eq_ofNat_of_zero_le hy0
        rw [Int.toNat_natCast] at HLY HLY2 HFL2
        rw [Int.toNat_natCast] at HLY2
        go_wp2_with fail
        refine (write_any _ _ (2 + 6 * j) (238 - 6 * j) 4 m _ _ _ HC.out HBK.out (by decide) (by omega) (by rw [HFL.out]; omega) (by rw [HFL.out]; omega) (by omega)).mono ?_
        rintro e w4 ⟨rfl, hlf, hc4, hb4⟩
        rw [HLY.out] at hb4
        have hbx := hlf.blk HX.out (by omega) (by omega)
        have HG4 := Lib.hid (hlf.new HG.out (by omega) (by omega)); have HC4 := Lib.hid hc4; have HB4 := Lib.hid hb4; have HX4 := Lib.hid hbx
        have b2 := hbx.cell 2
        simp only [List.getElem?_toArray, List.getElem?_cons_zero, List.getElem?_cons_succ] at b2
        clear hlf hc4 hb4 hbx hcj
        obtain ⟨g', o', rfl, hcv⟩ := HCV.out w4 HG4.out
        go_wp2_with fail
        refine (write_any _ _ (6 + 6 * j) (234 - 6 * j) 2 q _ _ _ (by have h := HC4.out; rwa [show 2 + 6 * j + 4 = 6 + 6 * j from by omega, show 238 - 6 * j - 4 = 234 - 6 * j from by omega] at h) HB4.out (by decide) (by omega) (by rw [HFL2.out]; omega) (by rw [HFL2.out]; omega) (by omega)).mono ?_
        rintro e w5 ⟨rfl, hlf, hc5, hb5⟩
        rw [HLY2.out] at hb5
        have hbx := hlf.blk HX4.out (by omega) (by omega)
        have HG5 := Lib.hid (hlf.new HG4.out (by omega) (by omega)); have HC5 := Lib.hid hc5; have HB5 := Lib.hid hb5; have HX5 := Lib.hid hbx
        clear hlf hc5 hb5 hbx hcv b2
        go_wp2_with fail
        go_roundw
        case rel =>
          refine ⟨j + 1, by omega, by go_num, HG5.out, ?_, HB5.out, HX5.out⟩
          have h := HC5.out
          rwa [show 6 + 6 * j + 2 = 2 + 6 * (j + 1) from by omega, show 234 - 6 * j - 2 = 238 - 6 * (j + 1) from by omega] at h
        case measure => simp [intOf]; omega
      · obtain rfl : j = n := by omega
        have hb := HBK.out
        rw [← HKL.out, nodeP_all] at hb
        have HB7 := Lib.hid hb; clear hb
        go_wp2
        go_ret2
        refine ⟨HG.out, .inl ⟨_, w.heap.size + 1 + 1, HYES.out, ?_, by omega, HB7.out, fill_lt _ _ (nodeB_lt true ks vs)⟩⟩
        rw [fill_length _ _ (by rw [nodeB_len, HKL.out]; omega)]
        rfl
theorem codec_put_node (b : Nat) (leaf : Bool) (A A' : Option Addr) (n n' c c' : Nat) (ks vs : List Int) (w : World) (hk : Ints w b A n ks) (hv : Ints w b A' n' vs) :
    Calls Try.prog 31 #[.agg #[.bool leaf, .slice A n c, .slice A' n' c']] w (Gave w 126 (nodeW leaf ks vs)) := by
  cases leaf with
  | false => exact codec_put_node_false b A A' n n' c c' ks vs w hk hv
  | true => exact codec_put_node_true b A A' n n' c c' ks vs w hk hv
end Go.Proofs.Ytkiohneggoiipaa.Codec
