/- The walks over the document's own answer for nodes: PutNode, GetNode. -/
import Derived.Test.YtkiohneggoiipaaRefCounts
import Derived.Deep.RegionHeld3
import Derived.Deep.RegionLaw
import Derived.Deep.DeepCutAuto
namespace Go.Proofs.Ytkiohneggoiipaa.Codec
open Go.RowKit CrcMath CodecMath Mem Crc

theorem nodeW_no1 {leaf : Bool} {ks vs : List Int} (h : ks.length ≠ vs.length) : nodeW leaf ks vs = none := by
  rw [nodeW, if_neg (fun hh => h (nodeOk_iff hh).1)]
theorem nodeW_no2 {leaf : Bool} {ks vs : List Int} (h : 8 < ks.length) : nodeW leaf ks vs = none := by
  rw [nodeW, if_neg (fun hh => by have := (nodeOk_iff hh).2.1; omega)]
theorem nodeW_no3 {leaf : Bool} {ks vs : List Int} (j : Nat) (hj : j < ks.length) (h : inB (ks.getD j 0) 1048575 = false) : nodeW leaf ks vs = none := by
  rw [nodeW, if_neg (fun hh => by have := (nodeOk_iff hh).2.2.1; rw [allB_no j hj h] at this; cases this)]
theorem nodeW_no4 {leaf : Bool} {ks vs : List Int} (j : Nat) (hj : j < vs.length) (h : inB (vs.getD j 0) 1023 = false) : nodeW leaf ks vs = none := by
  rw [nodeW, if_neg (fun hh => by have := (nodeOk_iff hh).2.2.2; rw [allB_no j hj h] at this; cases this)]
theorem nodeW_yes {leaf : Bool} {ks vs : List Int} (n : Nat) (h1 : ks.length = n) (h2 : vs.length = n) (h8 : n ≤ 8) (hk : ∀ j, j < n → inB (ks.getD j 0) 1048575 = true) (hv : ∀ j, j < n → inB (vs.getD j 0) 1023 = true) :
    nodeW leaf ks vs = some (fill (nodeB leaf ks vs) 240) := by
  have : nodeOk ks vs = true := by
    simp only [nodeOk, Bool.and_eq_true, decide_eq_true_eq]
    exact ⟨⟨⟨by omega, by omega⟩, allB_mk n h1 hk⟩, allB_mk n h2 hv⟩
  rw [nodeW, if_pos this]

set_option maxRecDepth 100000 in
set_option maxHeartbeats 1600000 in
theorem ref_put_node_true (b : Nat) (A A' : Option Addr) (n n' c c' : Nat) (ks vs : List Int) (w : World) (hk : Ints w b A n ks) (hv : Ints w b A' n' vs) :
    Calls Try.prog 32 #[.agg #[.bool true, .slice A n c, .slice A' n' c']] w (Wrote w (nodeW true ks vs)) := by
  have HKL := Lib.hid hk.1; have HVL := Lib.hid hv.1
  have HG0 := Lib.hid (World.grownBy_alloc w (.cells #[.bool true, .slice A n c, .slice A' n' c'] 62) none)
  by_cases h1 : n = n'
  case neg =>
    have HNO := Lib.hid (nodeW_no1 (leaf := true) (ks := ks) (vs := vs) (by rw [HKL.out, HVL.out]; exact h1))
    have hne : (((n : Nat) : Int) != ((n' : Nat) : Int)) = true := by simp; omega
    clear hk hv
    go_enter Try.func32, Try.ntmps32
    go_wp2
    go_ret2
    exact ⟨HG0.out, .inr ⟨HNO.out, rfl⟩⟩
  subst h1
  by_cases h2 : 8 < n
  · have HNO := Lib.hid (nodeW_no2 (leaf := true) (ks := ks) (vs := vs) (by rw [HKL.out]; exact h2))
    clear hk hv
    go_enter Try.func32, Try.ntmps32
    go_wp2
    go_ret2
    exact ⟨HG0.out, .inr ⟨HNO.out, rfl⟩⟩
  have HK := Lib.hid hk; have HV := Lib.hid hv; clear hk hv
  have hc0 := (Blk.new w 62 #[.bool true, .slice A n c, .slice A' n c']).drew
  have HC0 := Lib.hid hc0; clear hc0
  have HG1 := Lib.hid (HG0.out.trans (grown_drew _ none))
  have h8 : n ≤ 8 := by omega
  clear h2
  go_enter Try.func32, Try.ntmps32
  go_upto_region 6 with fail
  go_cut [5] (fun s5 wx => Own wx w.heap.size 5 1 s5 2 (u8s (be 1 1 ++ be 1 n)) ∧ w.grownBy wx none ∧ wx.cell? ⟨w.heap.size, 1, none⟩ = some (.slice A n c) ∧ wx.cell? ⟨w.heap.size, 2, none⟩ = some (.slice A' n c') ∧ s5.ownBlock ≠ some w.heap.size)
  case first =>
    go_region_held3 (fun w' => w'.cell? ⟨w.heap.size, 1, none⟩ = some (.slice A n c))
      (first
        | go_keep
        | exact (HC0.out.cell 1)
        | exact ((HGa.out.trans HGb.out).1.cell (HC0.out.cell 1) (by simp [Value.ownBlock]))
        | exact (HGa.out.1.cell (HC0.out.cell 1) (by simp [Value.ownBlock])))
      (first
        | (go_at_call_of 57 (Value.slice none 0 0)
           refine (put_any w.heap.size (.slice none 0 0) 0 [] 1 1 _ (Own.nil _ _ _ _) HG1.out.size (by omega) (by omega)).mono ?_
           rintro e w1 ⟨v1, rfl, ho1, hg1⟩
           have HOa := Lib.hid ho1; have HGa := Lib.hid hg1
           clear ho1 hg1)
        | (go_at_call_of 57 v1
           refine (put_any w.heap.size v1 1 (be 1 1) n 1 _ HOa.out (Nat.le_trans HG1.out.size HGa.out.1.size) (by omega) (by omega)).mono ?_
           rintro e w2 ⟨v2, rfl, ho2, hg2⟩
           have HOb := Lib.hid ho2; have HGb := Lib.hid hg2
           clear ho2 hg2))
    go_wp2_with fail
    go_meet
    exact ⟨HOb.out, grownBy_new HG1.out (HGa.out.trans HGb.out).1 (fun j hj => by simp [Value.ownBlock] at hj), (HGa.out.trans HGb.out).1.cell (HC0.out.cell 1) (by simp [Value.ownBlock]), (HGa.out.trans HGb.out).1.cell (HC0.out.cell 2) (by simp [Value.ownBlock]), Grew.apart (HGa.out.trans HGb.out) HC0.out.lt (by simp [Value.ownBlock])⟩
  case rest =>
    obtain ⟨ho, hg, hc1, hc2, hne⟩ := hcut
    have HO := Lib.hid ho; have HG := Lib.hid hg; have HC1 := Lib.hid hc1; have HC2 := Lib.hid hc2; have HNE := Lib.hid hne; clear ho hg hc1 hc2 hne
    go_wp2_with fail
    go_loopw [5, 6] (fun u i wr => ∃ j : Nat, j ≤ n ∧ i = .int .i64 j ∧ Own wr w.heap.size 5 1 u (2 + 6 * j) (u8s (be 1 1 ++ (be 1 n ++ pairsB ks vs j))) ∧ w.grownBy wr none ∧ wr.cell? ⟨w.heap.size, 1, none⟩ = some (.slice A n c) ∧ wr.cell? ⟨w.heap.size, 2, none⟩ = some (.slice A' n c') ∧ u.ownBlock ≠ some w.heap.size ∧
      (∀ q, q < j → inB (ks.getD q 0) 1048575 = true) ∧ (∀ q, q < j → inB (vs.getD q 0) 1023 = true)) (fun _ i _ => n - (intOf i).toNat)
    case atStart => exact ⟨0, by omega, rfl, by simpa [pairsB] using HO.out, HG.out, HC1.out, HC2.out, HNE.out, fun q hq => by omega, fun q hq => by omega⟩
    case round =>
      obtain ⟨j, hj, rfl, ho, hg, hc1, hc2, hne, hin1, hin2⟩ := hrel
      have HOr := Lib.hid ho; have HGr := Lib.hid hg; have HNEr := Lib.hid hne; have HI1 := Lib.hid hin1; have HI2 := Lib.hid hin2; have HCr := Lib.hid (And.intro hc1 hc2)
      clear ho hg hne hin1 hin2
      by_cases hlt : j < n
      · obtain ⟨g, o, rfl, hgl, _, hck⟩ := (ints_keep HK.out HGr.out (.inl rfl)).2.2 (by omega)
        obtain ⟨g', o', rfl, hgl', _, hcv⟩ := (ints_keep HV.out HGr.out (.inl rfl)).2.2 (by omega)
        have hkj := hck j hlt
        have hvj := hcv j hlt
        clear hck hcv
        cases hib : inB (ks.getD j 0) 1048575 with
        | false =>
          have HNO := Lib.hid (nodeW_no3 (leaf := true) (vs := vs) j (by rw [HKL.out]; exact hlt) hib)
          generalize ks.getD j 0 = x at *
          have HIB := Lib.hid hib; clear hib
          go_wp2_with fail
          refine (in_any x _ _).mono ?_
          rintro e w2 ⟨rfl, rfl⟩
          rw [HIB.out]
          go_wp2
          go_ret2
          exact ⟨HGr.out, .inr ⟨HNO.out, rfl⟩⟩
        | true =>
          cases hib' : inB (vs.getD j 0) 1023 with
          | false =>
            have HNO := Lib.hid (nodeW_no4 (leaf := true) (ks := ks) j (by rw [HVL.out]; exact hlt) hib')
            generalize ks.getD j 0 = x at *
            generalize vs.getD j 0 = y at *
            have HIB := Lib.hid hib; have HIB' := Lib.hid hib'; clear hib hib'
            go_wp2_with fail
            refine (in_any x _ _).mono ?_
            rintro e w2 ⟨rfl, rfl⟩
            rw [HIB.out]
            go_wp2_with fail
            refine (in_any y _ _).mono ?_
            rintro e w2 ⟨rfl, rfl⟩
            rw [HIB'.out]
            go_wp2
            go_ret2
            exact ⟨HGr.out, .inr ⟨HNO.out, rfl⟩⟩
          | true =>
            have hps := pairsB_succ ks vs j
            have HPS := Lib.hid hps; clear hps
            have hin1 : ∀ q, q < j + 1 → inB (ks.getD q 0) 1048575 = true := by
              intro q hq
              by_cases e : q = j
              · subst e; exact hib
              · exact HI1.out q (by omega)
            have hin2 : ∀ q, q < j + 1 → inB (vs.getD q 0) 1023 = true := by
              intro q hq
              by_cases e : q = j
              · subst e; exact hib'
              · exact HI2.out q (by omega)
            have HI1' := Lib.hid hin1; have HI2' := Lib.hid hin2; clear hin1 hin2
            generalize ks.getD j 0 = x at *
            generalize vs.getD j 0 = y at *
            obtain ⟨hx0, hx1⟩ := inB_yes hib
            obtain ⟨hy0, hy1⟩ := inB_yes hib'
            have HIB := Lib.hid hib; have HIB' := Lib.hid hib'; clear hib hib'
            obtain ⟨m, rfl⟩ := Int.eq_ofNat_of_zero_le hx0
            obtain ⟨m', rfl⟩ := Int.eq_ofNat_of_zero_le hy0
            rw [Int.toNat_natCast, Int.toNat_natCast] at HPS
            have HCC := Lib.hid (And.intro hkj hvj)
            have hgne : u5.ownBlock ≠ some g := fun e => by obtain ⟨g2, o2, e2, hl2, _⟩ := HK.out.2.2 (by omega); cases e2; have := (HOr.out.base_ g e).1; omega
            have hgne' : u5.ownBlock ≠ some g' := fun e => by obtain ⟨g2, o2, e2, hl2, _⟩ := HV.out.2.2 (by omega); cases e2; have := (HOr.out.base_ g' e).1; omega
            have HNg := Lib.hid (And.intro hgne hgne'); clear hgne hgne'
            have j0 : (0 : Int) ≤ j := by omega
            have j1 : (j : Int) < n := by omega
            have hsz := HGr.out.size
            go_upto_region 12 with (first
              | (go_at_call_of 56 (Value.int IntKind.i64 1048575); refine (in_any (m : Int) _ _).mono ?_; rintro e w2 ⟨rfl, rfl⟩; rw [HIB.out])
              | (go_at_call_of 56 (Value.int IntKind.i64 1023); refine (in_any (m' : Int) _ _).mono ?_; rintro e w2 ⟨rfl, rfl⟩; rw [HIB'.out]))
            go_region_held3 (fun w' => w'.cell? ⟨w.heap.size, 1, none⟩ = some (.slice (some ⟨g, o, none⟩) n c) ∧ w'.cell? ⟨w.heap.size, 2, none⟩ = some (.slice (some ⟨g', o', none⟩) n c') ∧ w'.cell? ⟨g, o + j, none⟩ = some (.int .i64 m) ∧ w'.cell? ⟨g', o' + j, none⟩ = some (.int .i64 m'))
              (first
                | go_keep
                | exact ⟨HCr.out.1, HCr.out.2, HCC.out.1, HCC.out.2⟩
                | exact ⟨(HGa.out.trans HGb.out).1.cell HCr.out.1 (fun e => HNEr.out e.symm), (HGa.out.trans HGb.out).1.cell HCr.out.2 (fun e => HNEr.out e.symm), (HGa.out.trans HGb.out).1.cell HCC.out.1 (fun e => HNg.out.1 e.symm), (HGa.out.trans HGb.out).1.cell HCC.out.2 (fun e => HNg.out.2 e.symm)⟩
                | exact ⟨HGa.out.1.cell HCr.out.1 (fun e => HNEr.out e.symm), HGa.out.1.cell HCr.out.2 (fun e => HNEr.out e.symm), HGa.out.1.cell HCC.out.1 (fun e => HNg.out.1 e.symm), HGa.out.1.cell HCC.out.2 (fun e => HNg.out.2 e.symm)⟩)
              (first
                | (go_at_call_of 57 u5
                   refine (put_any w.heap.size u5 (2 + 6 * j) _ m 4 _ HOr.out.drew hsz (by omega) (by omega)).mono ?_
                   rintro e w1 ⟨v1, rfl, ho1, hg1⟩
                   have HOa := Lib.hid ho1; have HGa := Lib.hid (Grew.behind (grown_drew wr none) hg1)
                   clear ho1 hg1)
                | (go_at_call_of 57 v1
                   refine (put_any w.heap.size v1 (2 + 6 * j + 4) _ m' 2 _ HOa.out (Nat.le_trans hsz HGa.out.1.size) (by omega) (by omega)).mono ?_
                   rintro e w2 ⟨v2, rfl, ho2, hg2⟩
                   have HOb := Lib.hid ho2; have HGb := Lib.hid hg2
                   clear ho2 hg2))
            go_wp2_with fail
            go_roundw
            case rel =>
              have hlt0 := World.block_lt_of_cell? wr ⟨w.heap.size, 1, none⟩ HCr.out.1
              refine ⟨j + 1, by omega, by go_num, ?_, grownBy_new HGr.out (HGa.out.trans HGb.out).1 (fun i hi => (HOr.out.base_ i hi).1), (HGa.out.trans HGb.out).1.cell HCr.out.1 (fun e => HNEr.out e.symm), (HGa.out.trans HGb.out).1.cell HCr.out.2 (fun e => HNEr.out e.symm), Grew.apart (HGa.out.trans HGb.out) hlt0 HNEr.out, HI1'.out, HI2'.out⟩
              have h := HOb.out
              rw [show be 1 1 ++ (be 1 n ++ pairsB ks vs j) ++ be 4 m ++ be 2 m' = be 1 1 ++ (be 1 n ++ pairsB ks vs (j + 1)) from by rw [HPS.out]; simp] at h
              rw [show 2 + 6 * (j + 1) = 2 + 6 * j + 4 + 2 from by omega]
              exact h
            case measure => simp [intOf]; omega
      · obtain rfl : j = n := by omega
        have hyes := nodeW_yes (leaf := true) j HKL.out HVL.out h8 HI1.out HI2.out
        have HY := Lib.hid hyes; clear hyes
        have hnb : nodeB true ks vs = be 1 1 ++ (be 1 j ++ pairsB ks vs j) := by rw [nodeB, HKL.out]; rfl
        have HNB := Lib.hid hnb; clear hnb
        have hsz := HGr.out.size
        go_wp2_with fail
        refine (filled_any w.heap.size u5 (2 + 6 * j) _ 240 _ HOr.out hsz (by omega) (by omega)).mono ?_
        rintro e w2 ⟨v2, rfl, ho2, hg2⟩
        have HO2 := Lib.hid ho2; have HG2 := Lib.hid (grownBy_new HGr.out hg2.1 (fun i hi => (HOr.out.base_ i hi).1))
        clear ho2 hg2
        go_wp2
        go_ret2
        refine ⟨HG2.out, .inl ⟨_, v2, HY.out, rfl, ?_, fill_lt _ _ (nodeB_lt _ _ _)⟩⟩
        rw [fill_length _ _ (by rw [nodeB_len, HKL.out]; omega), HNB.out]
        exact HO2.out

set_option maxRecDepth 100000 in
set_option maxHeartbeats 1600000 in
theorem ref_put_node_false (b : Nat) (A A' : Option Addr) (n n' c c' : Nat) (ks vs : List Int) (w : World) (hk : Ints w b A n ks) (hv : Ints w b A' n' vs) :
    Calls Try.prog 32 #[.agg #[.bool false, .slice A n c, .slice A' n' c']] w (Wrote w (nodeW false ks vs)) := by
  have HKL := Lib.hid hk.1; have HVL := Lib.hid hv.1
  have HG0 := Lib.hid (World.grownBy_alloc w (.cells #[.bool false, .slice A n c, .slice A' n' c'] 62) none)
  by_cases h1 : n = n'
  case neg =>
    have HNO := Lib.hid (nodeW_no1 (leaf := false) (ks := ks) (vs := vs) (by rw [HKL.out, HVL.out]; exact h1))
    have hne : (((n : Nat) : Int) != ((n' : Nat) : Int)) = true := by simp; omega
    clear hk hv
    go_enter Try.func32, Try.ntmps32
    go_wp2
    go_ret2
    exact ⟨HG0.out, .inr ⟨HNO.out, rfl⟩⟩
  subst h1
  by_cases h2 : 8 < n
  · have HNO := Lib.hid (nodeW_no2 (leaf := false) (ks := ks) (vs := vs) (by rw [HKL.out]; exact h2))
    clear hk hv
    go_enter Try.func32, Try.ntmps32
    go_wp2
    go_ret2
    exact ⟨HG0.out, .inr ⟨HNO.out, rfl⟩⟩
  have HK := Lib.hid hk; have HV := Lib.hid hv; clear hk hv
  have hc0 := (Blk.new w 62 #[.bool false, .slice A n c, .slice A' n c']).drew
  have HC0 := Lib.hid hc0; clear hc0
  have HG1 := Lib.hid (HG0.out.trans (grown_drew _ none))
  have h8 : n ≤ 8 := by omega
  clear h2
  go_enter Try.func32, Try.ntmps32
  go_upto_region 6 with fail
  go_cut [5] (fun s5 wx => Own wx w.heap.size 5 1 s5 2 (u8s (be 1 0 ++ be 1 n)) ∧ w.grownBy wx none ∧ wx.cell? ⟨w.heap.size, 1, none⟩ = some (.slice A n c) ∧ wx.cell? ⟨w.heap.size, 2, none⟩ = some (.slice A' n c') ∧ s5.ownBlock ≠ some w.heap.size)
  case first =>
    go_region_held3 (fun w' => w'.cell? ⟨w.heap.size, 1, none⟩ = some (.slice A n c))
      (first
        | go_keep
        | exact (HC0.out.cell 1)
        | exact ((HGa.out.trans HGb.out).1.cell (HC0.out.cell 1) (by simp [Value.ownBlock]))
        | exact (HGa.out.1.cell (HC0.out.cell 1) (by simp [Value.ownBlock])))
      (first
        | (go_at_call_of 57 (Value.slice none 0 0)
           refine (put_any w.heap.size (.slice none 0 0) 0 [] 0 1 _ (Own.nil _ _ _ _) HG1.out.size (by omega) (by omega)).mono ?_
           rintro e w1 ⟨v1, rfl, ho1, hg1⟩
           have HOa := Lib.hid ho1; have HGa := Lib.hid hg1
           clear ho1 hg1)
        | (go_at_call_of 57 v1
           refine (put_any w.heap.size v1 1 (be 1 0) n 1 _ HOa.out (Nat.le_trans HG1.out.size HGa.out.1.size) (by omega) (by omega)).mono ?_
           rintro e w2 ⟨v2, rfl, ho2, hg2⟩
           have HOb := Lib.hid ho2; have HGb := Lib.hid hg2
           clear ho2 hg2))
    go_wp2_with fail
    go_meet
    exact ⟨HOb.out, grownBy_new HG1.out (HGa.out.trans HGb.out).1 (fun j hj => by simp [Value.ownBlock] at hj), (HGa.out.trans HGb.out).1.cell (HC0.out.cell 1) (by simp [Value.ownBlock]), (HGa.out.trans HGb.out).1.cell (HC0.out.cell 2) (by simp [Value.ownBlock]), Grew.apart (HGa.out.trans HGb.out) HC0.out.lt (by simp [Value.ownBlock])⟩
  case rest =>
    obtain ⟨ho, hg, hc1, hc2, hne⟩ := hcut
    have HO := Lib.hid ho; have HG := Lib.hid hg; have HC1 := Lib.hid hc1; have HC2 := Lib.hid hc2; have HNE := Lib.hid hne; clear ho hg hc1 hc2 hne
    go_wp2_with fail
    go_loopw [5, 6] (fun u i wr => ∃ j : Nat, j ≤ n ∧ i = .int .i64 j ∧ Own wr w.heap.size 5 1 u (2 + 6 * j) (u8s (be 1 0 ++ (be 1 n ++ pairsB ks vs j))) ∧ w.grownBy wr none ∧ wr.cell? ⟨w.heap.size, 1, none⟩ = some (.slice A n c) ∧ wr.cell? ⟨w.heap.size, 2, none⟩ = some (.slice A' n c') ∧ u.ownBlock ≠ some w.heap.size ∧
      (∀ q, q < j → inB (ks.getD q 0) 1048575 = true) ∧ (∀ q, q < j → inB (vs.getD q 0) 1023 = true)) (fun _ i _ => n - (intOf i).toNat)
    case atStart => exact ⟨0, by omega, rfl, by simpa [pairsB] using HO.out, HG.out, HC1.out, HC2.out, HNE.out, fun q hq => by omega, fun q hq => by omega⟩
    case round =>
      obtain ⟨j, hj, rfl, ho, hg, hc1, hc2, hne, hin1, hin2⟩ := hrel
      have HOr := Lib.hid ho; have HGr := Lib.hid hg; have HNEr := Lib.hid hne; have HI1 := Lib.hid hin1; have HI2 := Lib.hid hin2; have HCr := Lib.hid (And.intro hc1 hc2)
      clear ho hg hne hin1 hin2
      by_cases hlt : j < n
      · obtain ⟨g, o, rfl, hgl, _, hck⟩ := (ints_keep HK.out HGr.out (.inl rfl)).2.2 (by omega)
        obtain ⟨g', o', rfl, hgl', _, hcv⟩ := (ints_keep HV.out HGr.out (.inl rfl)).2.2 (by omega)
        have hkj := hck j hlt
        have hvj := hcv j hlt
        clear hck hcv
        cases hib : inB (ks.getD j 0) 1048575 with
        | false =>
          have HNO := Lib.hid (nodeW_no3 (leaf := false) (vs := vs) j (by rw [HKL.out]; exact hlt) hib)
          generalize ks.getD j 0 = x at *
          have HIB := Lib.hid hib; clear hib
          go_wp2_with fail
          refine (in_any x _ _).mono ?_
          rintro e w2 ⟨rfl, rfl⟩
          rw [HIB.out]
          go_wp2
          go_ret2
          exact ⟨HGr.out, .inr ⟨HNO.out, rfl⟩⟩
        | true =>
          cases hib' : inB (vs.getD j 0) 1023 with
          | false =>
            have HNO := Lib.hid (nodeW_no4 (leaf := false) (ks := ks) j (by rw [HVL.out]; exact hlt) hib')
            generalize ks.getD j 0 = x at *
            generalize vs.getD j 0 = y at *
            have HIB := Lib.hid hib; have HIB' := Lib.hid hib'; clear hib hib'
            go_wp2_with fail
            refine (in_any x _ _).mono ?_
            rintro e w2 ⟨rfl, rfl⟩
            rw [HIB.out]
            go_wp2_with fail
            refine (in_any y _ _).mono ?_
            rintro e w2 ⟨rfl, rfl⟩
            rw [HIB'.out]
            go_wp2
            go_ret2
            exact ⟨HGr.out, .inr ⟨HNO.out, rfl⟩⟩
          | true =>
            have hps := pairsB_succ ks vs j
            have HPS := Lib.hid hps; clear hps
            have hin1 : ∀ q, q < j + 1 → inB (ks.getD q 0) 1048575 = true := by
              intro q hq
              by_cases e : q = j
              · subst e; exact hib
              · exact HI1.out q (by omega)
            have hin2 : ∀ q, q < j + 1 → inB (vs.getD q 0) 1023 = true := by
              intro q hq
              by_cases e : q = j
              · subst e; exact hib'
              · exact HI2.out q (by omega)
            have HI1' := Lib.hid hin1; have HI2' := Lib.hid hin2; clear hin1 hin2
            generalize ks.getD j 0 = x at *
            generalize vs.getD j 0 = y at *
            obtain ⟨hx0, hx1⟩ := inB_yes hib
            obtain ⟨hy0, hy1⟩ := inB_yes hib'
            have HIB := Lib.hid hib; have HIB' := Lib.hid hib'; clear hib hib'
            obtain ⟨m, rfl⟩ := Int.eq_ofNat_of_zero_le hx0
            obtain ⟨m', rfl⟩ := Int.eq_ofNat_of_zero_le hy0
            rw [Int.toNat_natCast, Int.toNat_natCast] at HPS
            have HCC := Lib.hid (And.intro hkj hvj)
            have hgne : u5.ownBlock ≠ some g := fun e => by obtain ⟨g2, o2, e2, hl2, _⟩ := HK.out.2.2 (by omega); cases e2; have := (HOr.out.base_ g e).1; omega
            have hgne' : u5.ownBlock ≠ some g' := fun e => by obtain ⟨g2, o2, e2, hl2, _⟩ := HV.out.2.2 (by omega); cases e2; have := (HOr.out.base_ g' e).1; omega
            have HNg := Lib.hid (And.intro hgne hgne'); clear hgne hgne'
            have j0 : (0 : Int) ≤ j := by omega
            have j1 : (j : Int) < n := by omega
            have hsz := HGr.out.size
            go_upto_region 12 with (first
              | (go_at_call_of 56 (Value.int IntKind.i64 1048575); refine (in_any (m : Int) _ _).mono ?_; rintro e w2 ⟨rfl, rfl⟩; rw [HIB.out])
              | (go_at_call_of 56 (Value.int IntKind.i64 1023); refine (in_any (m' : Int) _ _).mono ?_; rintro e w2 ⟨rfl, rfl⟩; rw [HIB'.out]))
            go_region_held3 (fun w' => w'.cell? ⟨w.heap.size, 1, none⟩ = some (.slice (some ⟨g, o, none⟩) n c) ∧ w'.cell? ⟨w.heap.size, 2, none⟩ = some (.slice (some ⟨g', o', none⟩) n c') ∧ w'.cell? ⟨g, o + j, none⟩ = some (.int .i64 m) ∧ w'.cell? ⟨g', o' + j, none⟩ = some (.int .i64 m'))
              (first
                | go_keep
                | exact ⟨HCr.out.1, HCr.out.2, HCC.out.1, HCC.out.2⟩
                | exact ⟨(HGa.out.trans HGb.out).1.cell HCr.out.1 (fun e => HNEr.out e.symm), (HGa.out.trans HGb.out).1.cell HCr.out.2 (fun e => HNEr.out e.symm), (HGa.out.trans HGb.out).1.cell HCC.out.1 (fun e => HNg.out.1 e.symm), (HGa.out.trans HGb.out).1.cell HCC.out.2 (fun e => HNg.out.2 e.symm)⟩
                | exact ⟨HGa.out.1.cell HCr.out.1 (fun e => HNEr.out e.symm), HGa.out.1.cell HCr.out.2 (fun e => HNEr.out e.symm), HGa.out.1.cell HCC.out.1 (fun e => HNg.out.1 e.symm), HGa.out.1.cell HCC.out.2 (fun e => HNg.out.2 e.symm)⟩)
              (first
                | (go_at_call_of 57 u5
                   refine (put_any w.heap.size u5 (2 + 6 * j) _ m 4 _ HOr.out.drew hsz (by omega) (by omega)).mono ?_
                   rintro e w1 ⟨v1, rfl, ho1, hg1⟩
                   have HOa := Lib.hid ho1; have HGa := Lib.hid (Grew.behind (grown_drew wr none) hg1)
                   clear ho1 hg1)
                | (go_at_call_of 57 v1
                   refine (put_any w.heap.size v1 (2 + 6 * j + 4) _ m' 2 _ HOa.out (Nat.le_trans hsz HGa.out.1.size) (by omega) (by omega)).mono ?_
                   rintro e w2 ⟨v2, rfl, ho2, hg2⟩
                   have HOb := Lib.hid ho2; have HGb := Lib.hid hg2
                   clear ho2 hg2))
            go_wp2_with fail
            go_roundw
            case rel =>
              have hlt0 := World.block_lt_of_cell? wr ⟨w.heap.size, 1, none⟩ HCr.out.1
              refine ⟨j + 1, by omega, by go_num, ?_, grownBy_new HGr.out (HGa.out.trans HGb.out).1 (fun i hi => (HOr.out.base_ i hi).1), (HGa.out.trans HGb.out).1.cell HCr.out.1 (fun e => HNEr.out e.symm), (HGa.out.trans HGb.out).1.cell HCr.out.2 (fun e => HNEr.out e.symm), Grew.apart (HGa.out.trans HGb.out) hlt0 HNEr.out, HI1'.out, HI2'.out⟩
              have h := HOb.out
              rw [show be 1 0 ++ (be 1 n ++ pairsB ks vs j) ++ be 4 m ++ be 2 m' = be 1 0 ++ (be 1 n ++ pairsB ks vs (j + 1)) from by rw [HPS.out]; simp] at h
              rw [show 2 + 6 * (j + 1) = 2 + 6 * j + 4 + 2 from by omega]
              exact h
            case measure => simp [intOf]; omega
      · obtain rfl : j = n := by omega
        have hyes := nodeW_yes (leaf := false) j HKL.out HVL.out h8 HI1.out HI2.out
        have HY := Lib.hid hyes; clear hyes
        have hnb : nodeB false ks vs = be 1 0 ++ (be 1 j ++ pairsB ks vs j) := by rw [nodeB, HKL.out]; rfl
        have HNB := Lib.hid hnb; clear hnb
        have hsz := HGr.out.size
        go_wp2_with fail
        refine (filled_any w.heap.size u5 (2 + 6 * j) _ 240 _ HOr.out hsz (by omega) (by omega)).mono ?_
        rintro e w2 ⟨v2, rfl, ho2, hg2⟩
        have HO2 := Lib.hid ho2; have HG2 := Lib.hid (grownBy_new HGr.out hg2.1 (fun i hi => (HOr.out.base_ i hi).1))
        clear ho2 hg2
        go_wp2
        go_ret2
        refine ⟨HG2.out, .inl ⟨_, v2, HY.out, rfl, ?_, fill_lt _ _ (nodeB_lt _ _ _)⟩⟩
        rw [fill_length _ _ (by rw [nodeB_len, HKL.out]; omega), HNB.out]
        exact HO2.out
theorem ref_put_node (b : Nat) (leaf : Bool) (A A' : Option Addr) (n n' c c' : Nat) (ks vs : List Int) (w : World) (hk : Ints w b A n ks) (hv : Ints w b A' n' vs) :
    Calls Try.prog 32 #[.agg #[.bool leaf, .slice A n c, .slice A' n' c']] w (Wrote w (nodeW leaf ks vs)) := by
  cases leaf
  · exact ref_put_node_false b A A' n n' c c' ks vs w hk hv
  · exact ref_put_node_true b A A' n n' c c' ks vs w hk hv
end Go.Proofs.Ytkiohneggoiipaa.Codec
