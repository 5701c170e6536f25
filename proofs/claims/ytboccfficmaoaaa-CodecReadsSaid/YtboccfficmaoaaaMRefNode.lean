/- Texts of this seat's proofs: RefNode, RefNodeGet. -/
import Derived.Test.YtboccfficmaoaaaMRefCounts
import Derived.Deep.RegionHeld3
import Derived.Deep.RegionLaw
import Derived.Deep.DeepCutAuto
import Derived.IntWalk
/- The walks over the document's own answer for nodes: PutNode, GetNode. -/
namespace Go.Proofs.Ytboccfficmaoaaa.Codec
open Go.RowKit CrcMath CodecMath Mem Crc

theorem nodeW_no1 {leaf : Bool} {ks vs : List Int} (h : ks.length ≠ vs.length) : nodeW leaf ks vs = none := by
  rw [nodeW, if_neg (fun hh => h (nodeOk_iff hh).1)]
theorem nodeW_no2 {leaf : Bool} {ks vs : List Int} (h : 8 < ks.length) : nodeW leaf ks vs = none := by
  rw [nodeW, if_neg (fun hh => by have := (nodeOk_iff hh).2.1; omega)]
theorem nodeW_no3 {leaf : Bool} {ks vs : List Int} (j : Nat) (hj : j < ks.length) (h : inB (ks.getD j 0) 1048575 = false) : nodeW leaf ks vs = none := by
  rw [nodeW, if_neg (fun hh => by have := (nodeOk_iff hh).2.2.1; rw [allB_no j hj h] at this; cases this)]
theorem nodeW_no4 {leaf : Bool} {ks vs : List Int} (j : Nat) (hj : j < vs.length) (h : inB (vs.getD j 0) 1023 = false) : nodeW leaf ks vs = none := by
  rw [nodeW, if_neg (fun hh => by have := (nodeOk_iff hh).2.2.2; rw [allB_no j hj h] at this; cases this)]
theorem nodeW_yes {leaf : Bool} {ks vs : List Int} (n : Nat) (h1 : ks.length = n) (h2 : vs.length = n) (h8 : n ≤ 8) (hk : ∀ j, j < n → inB (ks.getD j 0) 1048575 = true) (hv : ∀ j, j < n → inB (vs.getD j 0) 1023 = true) :
    nodeW leaf ks vs = some (fill (nodeB leaf ks vs) 240) := by
  have : nodeOk ks vs = true := by
    simp only [nodeOk, Bool.and_eq_true, decide_eq_true_eq]
    exact ⟨⟨⟨by omega, by omega⟩, allB_mk n h1 hk⟩, allB_mk n h2 hv⟩
  rw [nodeW, if_pos this]

set_option maxRecDepth 100000 in
set_option maxHeartbeats 1600000 in
theorem ref_put_node_true (b : Nat) (A A' : Option Addr) (n n' c c' : Nat) (ks vs : List Int) (w : World) (hk : Ints w b A n ks) (hv : Ints w b A' n' vs) :
    Calls Try.prog 55 #[.agg #[.bool true, .slice A n c, .slice A' n' c']] w (Wrote w (nodeW true ks vs)) := by
  have HKL := Lib.hid hk.1; have HVL := Lib.hid hv.1
  have HG0 := Lib.hid (World.grownBy_alloc w (.cells #[.bool true, .slice A n c, .slice A' n' c'] 51) none)
  by_cases h1 : n = n'
  case neg =>
    have HNO := Lib.hid (nodeW_no1 (leaf := true) (ks := ks) (vs := vs) (by rw [HKL.out, HVL.out]; exact h1))
    have hne : (((n : Nat) : Int) != ((n' : Nat) : Int)) = true := by simp; omega
    clear hk hv
    go_enter Try.func55, Try.ntmps55
    go_wp2
    go_ret2
    exact ⟨HG0.out, .inr ⟨HNO.out, rfl⟩⟩
  subst h1
  by_cases h2 : 8 < n
  · have HNO := Lib.hid (nodeW_no2 (leaf := true) (ks := ks) (vs := vs) (by rw [HKL.out]; exact h2))
    clear hk hv
    go_enter Try.func55, Try.ntmps55
    go_wp2
    go_ret2
    exact ⟨HG0.out, .inr ⟨HNO.out, rfl⟩⟩
  have HK := Lib.hid hk; have HV := Lib.hid hv; clear hk hv
  have hc0 := (Blk.new w 51 #[.bool true, .slice A n c, .slice A' n c']).drew
  have HC0 := Lib.hid hc0; clear hc0
  have HG1 := Lib.hid (HG0.out.trans (grown_drew _ none))
  have h8 : n ≤ 8 := by omega
  clear h2
  go_enter Try.func55, Try.ntmps55
  go_upto_region 6 with fail
  go_cut [5] (fun s5 wx => Own wx w.heap.size 5 1 s5 2 (u8s (be 1 1 ++ be 1 n)) ∧ w.grownBy wx none ∧ wx.cell? ⟨w.heap.size, 1, none⟩ = some (.slice A n c) ∧ wx.cell? ⟨w.heap.size, 2, none⟩ = some (.slice A' n c') ∧ s5.ownBlock ≠ some w.heap.size)
  case first =>
    go_region_held3 (fun w' => w'.cell? ⟨w.heap.size, 1, none⟩ = some (.slice A n c))
      (first
        | go_keep
        | exact (HC0.out.cell 1)
        | exact ((HGa.out.trans HGb.out).1.cell (HC0.out.cell 1) (by simp [Value.ownBlock]))
        | exact (HGa.out.1.cell (HC0.out.cell 1) (by simp [Value.ownBlock])))
      (first
        | (go_at_call_of 78 (Value.slice none 0 0)
           refine (put_any w.heap.size (.slice none 0 0) 0 [] 1 1 _ (Own.nil _ _ _ _) HG1.out.size (by omega) (by omega)).mono ?_
           rintro e w1 ⟨v1, rfl, ho1, hg1⟩
           have HOa := Lib.hid ho1; have HGa := Lib.hid hg1
           clear ho1 hg1)
        | (go_at_call_of 78 v1
           refine (put_any w.heap.size v1 1 (be 1 1) n 1 _ HOa.out (Nat.le_trans HG1.out.size HGa.out.1.size) (by omega) (by omega)).mono ?_
           rintro e w2 ⟨v2, rfl, ho2, hg2⟩
           have HOb := Lib.hid ho2; have HGb := Lib.hid hg2
           clear ho2 hg2))
    go_wp2_with fail
    go_meet
    exact ⟨HOb.out, grownBy_new HG1.out (HGa.out.trans HGb.out).1 (fun j hj => by simp [Value.ownBlock] at hj), (HGa.out.trans HGb.out).1.cell (HC0.out.cell 1) (by simp [Value.ownBlock]), (HGa.out.trans HGb.out).1.cell (HC0.out.cell 2) (by simp [Value.ownBlock]), Grew.apart (HGa.out.trans HGb.out) HC0.out.lt (by simp [Value.ownBlock])⟩
  case rest =>
    obtain ⟨ho, hg, hc1, hc2, hne⟩ := hcut
    have HO := Lib.hid ho; have HG := Lib.hid hg; have HC1 := Lib.hid hc1; have HC2 := Lib.hid hc2; have HNE := Lib.hid hne; clear ho hg hc1 hc2 hne
    go_wp2_with fail
    go_loopw [5, 6] (fun u i wr => ∃ j : Nat, j ≤ n ∧ i = .int .i64 j ∧ Own wr w.heap.size 5 1 u (2 + 6 * j) (u8s (be 1 1 ++ (be 1 n ++ pairsB ks vs j))) ∧ w.grownBy wr none ∧ wr.cell? ⟨w.heap.size, 1, none⟩ = some (.slice A n c) ∧ wr.cell? ⟨w.heap.size, 2, none⟩ = some (.slice A' n c') ∧ u.ownBlock ≠ some w.heap.size ∧
      (∀ q, q < j → inB (ks.getD q 0) 1048575 = true) ∧ (∀ q, q < j → inB (vs.getD q 0) 1023 = true)) (fun _ i _ => n - (intOf i).toNat)
    case atStart => exact ⟨0, by omega, rfl, by simpa [pairsB] using HO.out, HG.out, HC1.out, HC2.out, HNE.out, fun q hq => by omega, fun q hq => by omega⟩
    case round =>
      obtain ⟨j, hj, rfl, ho, hg, hc1, hc2, hne, hin1, hin2⟩ := hrel
      have HOr := Lib.hid ho; have HGr := Lib.hid hg; have HNEr := Lib.hid hne; have HI1 := Lib.hid hin1; have HI2 := Lib.hid hin2; have HCr := Lib.hid (And.intro hc1 hc2)
      clear ho hg hne hin1 hin2
      by_cases hlt : j < n
      · obtain ⟨g, o, rfl, hgl, _, hck⟩ := (ints_keep HK.out HGr.out (.inl rfl)).2.2 (by omega)
        obtain ⟨g', o', rfl, hgl', _, hcv⟩ := (ints_keep HV.out HGr.out (.inl rfl)).2.2 (by omega)
        have hkj := hck j hlt
        have hvj := hcv j hlt
        clear hck hcv
        cases hib : inB (ks.getD j 0) 1048575 with
        | false =>
          have HNO := Lib.hid (nodeW_no3 (leaf := true) (vs := vs) j (by rw [HKL.out]; exact hlt) hib)
          generalize ks.getD j 0 = x at *
          have HIB := Lib.hid hib; clear hib
          go_wp2_with fail
          refine (in_any x _ _).mono ?_
          rintro e w2 ⟨rfl, rfl⟩
          rw [HIB.out]
          go_wp2
          go_ret2
          exact ⟨HGr.out, .inr ⟨HNO.out, rfl⟩⟩
        | true =>
          cases hib' : inB (vs.getD j 0) 1023 with
          | false =>
            have HNO := Lib.hid (nodeW_no4 (leaf := true) (ks := ks) j (by rw [HVL.out]; exact hlt) hib')
            generalize ks.getD j 0 = x at *
            generalize vs.getD j 0 = y at *
            have HIB := Lib.hid hib; have HIB' := Lib.hid hib'; clear hib hib'
            go_wp2_with fail
            refine (in_any x _ _).mono ?_
            rintro e w2 ⟨rfl, rfl⟩
            rw [HIB.out]
            go_wp2_with fail
            refine (in_any y _ _).mono ?_
            rintro e w2 ⟨rfl, rfl⟩
            rw [HIB'.out]
            go_wp2
            go_ret2
            exact ⟨HGr.out, .inr ⟨HNO.out, rfl⟩⟩
          | true =>
            have hps := pairsB_succ ks vs j
            have HPS := Lib.hid hps; clear hps
            have hin1 : ∀ q, q < j + 1 → inB (ks.getD q 0) 1048575 = true := by
              intro q hq
              by_cases e : q = j
              · subst e; exact hib
              · exact HI1.out q (by omega)
            have hin2 : ∀ q, q < j + 1 → inB (vs.getD q 0) 1023 = true := by
              intro q hq
              by_cases e : q = j
              · subst e; exact hib'
              · exact HI2.out q (by omega)
            have HI1' := Lib.hid hin1; have HI2' := Lib.hid hin2; clear hin1 hin2
            generalize ks.getD j 0 = x at *
            generalize vs.getD j 0 = y at *
            obtain ⟨hx0, hx1⟩ := inB_yes hib
            obtain ⟨hy0, hy1⟩ := inB_yes hib'
            have HIB := Lib.hid hib; have HIB' := Lib.hid hib'; clear hib hib'
            obtain ⟨m, rfl⟩ := Int.eq_ofNat_of_zero_le hx0
            obtain ⟨m', rfl⟩ := Int.eq_ofNat_of_zero_le hy0
            rw [Int.toNat_natCast, Int.toNat_natCast] at HPS
            have HCC := Lib.hid (And.intro hkj hvj)
            have hgne : u5.ownBlock ≠ some g := fun e => by obtain ⟨g2, o2, e2, hl2, _⟩ := HK.out.2.2 (by omega); cases e2; have := (HOr.out.base_ g e).1; omega
            have hgne' : u5.ownBlock ≠ some g' := fun e => by obtain ⟨g2, o2, e2, hl2, _⟩ := HV.out.2.2 (by omega); cases e2; have := (HOr.out.base_ g' e).1; omega
            have HNg := Lib.hid (And.intro hgne hgne'); clear hgne hgne'
            have j0 : (0 : Int) ≤ j := by omega
            have j1 : (j : Int) < n := by omega
            have hsz := HGr.out.size
            go_upto_region 12 with (first
              | (go_at_call_of 77 (Value.int IntKind.i64 1048575); refine (in_any (m : Int) _ _).mono ?_; rintro e w2 ⟨rfl, rfl⟩; rw [HIB.out])
              | (go_at_call_of 77 (Value.int IntKind.i64 1023); refine (in_any (m' : Int) _ _).mono ?_; rintro e w2 ⟨rfl, rfl⟩; rw [HIB'.out]))
            go_region_held3 (fun w' => w'.cell? ⟨w.heap.size, 1, none⟩ = some (.slice (some ⟨g, o, none⟩) n c) ∧ w'.cell? ⟨w.heap.size, 2, none⟩ = some (.slice (some ⟨g', o', none⟩) n c') ∧ w'.cell? ⟨g, o + j, none⟩ = some (.int .i64 m) ∧ w'.cell? ⟨g', o' + j, none⟩ = some (.int .i64 m'))
              (first
                | go_keep
                | exact ⟨HCr.out.1, HCr.out.2, HCC.out.1, HCC.out.2⟩
                | exact ⟨(HGa.out.trans HGb.out).1.cell HCr.out.1 (fun e => HNEr.out e.symm), (HGa.out.trans HGb.out).1.cell HCr.out.2 (fun e => HNEr.out e.symm), (HGa.out.trans HGb.out).1.cell HCC.out.1 (fun e => HNg.out.1 e.symm), (HGa.out.trans HGb.out).1.cell HCC.out.2 (fun e => HNg.out.2 e.symm)⟩
                | exact ⟨HGa.out.1.cell HCr.out.1 (fun e => HNEr.out e.symm), HGa.out.1.cell HCr.out.2 (fun e => HNEr.out e.symm), HGa.out.1.cell HCC.out.1 (fun e => HNg.out.1 e.symm), HGa.out.1.cell HCC.out.2 (fun e => HNg.out.2 e.symm)⟩)
              (first
                | (go_at_call_of 78 u5
                   refine (put_any w.heap.size u5 (2 + 6 * j) _ m 4 _ HOr.out.drew hsz (by omega) (by omega)).mono ?_
                   rintro e w1 ⟨v1, rfl, ho1, hg1⟩
                   have HOa := Lib.hid ho1; have HGa := Lib.hid (Grew.behind (grown_drew wr none) hg1)
                   clear ho1 hg1)
                | (go_at_call_of 78 v1
                   refine (put_any w.heap.size v1 (2 + 6 * j + 4) _ m' 2 _ HOa.out (Nat.le_trans hsz HGa.out.1.size) (by omega) (by omega)).mono ?_
                   rintro e w2 ⟨v2, rfl, ho2, hg2⟩
                   have HOb := Lib.hid ho2; have HGb := Lib.hid hg2
                   clear ho2 hg2))
            go_wp2_with fail
            go_roundw
            case rel =>
              have hlt0 := World.block_lt_of_cell? wr ⟨w.heap.size, 1, none⟩ HCr.out.1
              refine ⟨j + 1, by omega, by go_num, ?_, grownBy_new HGr.out (HGa.out.trans HGb.out).1 (fun i hi => (HOr.out.base_ i hi).1), (HGa.out.trans HGb.out).1.cell HCr.out.1 (fun e => HNEr.out e.symm), (HGa.out.trans HGb.out).1.cell HCr.out.2 (fun e => HNEr.out e.symm), Grew.apart (HGa.out.trans HGb.out) hlt0 HNEr.out, HI1'.out, HI2'.out⟩
              have h := HOb.out
              rw [show be 1 1 ++ (be 1 n ++ pairsB ks vs j) ++ be 4 m ++ be 2 m' = be 1 1 ++ (be 1 n ++ pairsB ks vs (j + 1)) from by rw [HPS.out]; simp] at h
              rw [show 2 + 6 * (j + 1) = 2 + 6 * j + 4 + 2 from by omega]
              exact h
            case measure => simp [intOf]; omega
      · obtain rfl : j = n := by omega
        have hyes := nodeW_yes (leaf := true) j HKL.out HVL.out h8 HI1.out HI2.out
        have HY := Lib.hid hyes; clear hyes
        have hnb : nodeB true ks vs = be 1 1 ++ (be 1 j ++ pairsB ks vs j) := by rw [nodeB, HKL.out]; rfl
        have HNB := Lib.hid hnb; clear hnb
        have hsz := HGr.out.size
        go_wp2_with fail
        refine (filled_any w.heap.size u5 (2 + 6 * j) _ 240 _ HOr.out hsz (by omega) (by omega)).mono ?_
        rintro e w2 ⟨v2, rfl, ho2, hg2⟩
        have HO2 := Lib.hid ho2; have HG2 := Lib.hid (grownBy_new HGr.out hg2.1 (fun i hi => (HOr.out.base_ i hi).1))
        clear ho2 hg2
        go_wp2
        go_ret2
        refine ⟨HG2.out, .inl ⟨_, v2, HY.out, rfl, ?_, fill_lt _ _ (nodeB_lt _ _ _)⟩⟩
        rw [fill_length _ _ (by rw [nodeB_len, HKL.out]; omega), HNB.out]
        exact HO2.out

set_option maxRecDepth 100000 in
set_option maxHeartbeats 1600000 in
theorem ref_put_node_false (b : Nat) (A A' : Option Addr) (n n' c c' : Nat) (ks vs : List Int) (w : World) (hk : Ints w b A n ks) (hv : Ints w b A' n' vs) :
    Calls Try.prog 55 #[.agg #[.bool false, .slice A n c, .slice A' n' c']] w (Wrote w (nodeW false ks vs)) := by
  have HKL := Lib.hid hk.1; have HVL := Lib.hid hv.1
  have HG0 := Lib.hid (World.grownBy_alloc w (.cells #[.bool false, .slice A n c, .slice A' n' c'] 51) none)
  by_cases h1 : n = n'
  case neg =>
    have HNO := Lib.hid (nodeW_no1 (leaf := false) (ks := ks) (vs := vs) (by rw [HKL.out, HVL.out]; exact h1))
    have hne : (((n : Nat) : Int) != ((n' : Nat) : Int)) = true := by simp; omega
    clear hk hv
    go_enter Try.func55, Try.ntmps55
    go_wp2
    go_ret2
    exact ⟨HG0.out, .inr ⟨HNO.out, rfl⟩⟩
  subst h1
  by_cases h2 : 8 < n
  · have HNO := Lib.hid (nodeW_no2 (leaf := false) (ks := ks) (vs := vs) (by rw [HKL.out]; exact h2))
    clear hk hv
    go_enter Try.func55, Try.ntmps55
    go_wp2
    go_ret2
    exact ⟨HG0.out, .inr ⟨HNO.out, rfl⟩⟩
  have HK := Lib.hid hk; have HV := Lib.hid hv; clear hk hv
  have hc0 := (Blk.new w 51 #[.bool false, .slice A n c, .slice A' n c']).drew
  have HC0 := Lib.hid hc0; clear hc0
  have HG1 := Lib.hid (HG0.out.trans (grown_drew _ none))
  have h8 : n ≤ 8 := by omega
  clear h2
  go_enter Try.func55, Try.ntmps55
  go_upto_region 6 with fail
  go_cut [5] (fun s5 wx => Own wx w.heap.size 5 1 s5 2 (u8s (be 1 0 ++ be 1 n)) ∧ w.grownBy wx none ∧ wx.cell? ⟨w.heap.size, 1, none⟩ = some (.slice A n c) ∧ wx.cell? ⟨w.heap.size, 2, none⟩ = some (.slice A' n c') ∧ s5.ownBlock ≠ some w.heap.size)
  case first =>
    go_region_held3 (fun w' => w'.cell? ⟨w.heap.size, 1, none⟩ = some (.slice A n c))
      (first
        | go_keep
        | exact (HC0.out.cell 1)
        | exact ((HGa.out.trans HGb.out).1.cell (HC0.out.cell 1) (by simp [Value.ownBlock]))
        | exact (HGa.out.1.cell (HC0.out.cell 1) (by simp [Value.ownBlock])))
      (first
        | (go_at_call_of 78 (Value.slice none 0 0)
           refine (put_any w.heap.size (.slice none 0 0) 0 [] 0 1 _ (Own.nil _ _ _ _) HG1.out.size (by omega) (by omega)).mono ?_
           rintro e w1 ⟨v1, rfl, ho1, hg1⟩
           have HOa := Lib.hid ho1; have HGa := Lib.hid hg1
           clear ho1 hg1)
        | (go_at_call_of 78 v1
           refine (put_any w.heap.size v1 1 (be 1 0) n 1 _ HOa.out (Nat.le_trans HG1.out.size HGa.out.1.size) (by omega) (by omega)).mono ?_
           rintro e w2 ⟨v2, rfl, ho2, hg2⟩
           have HOb := Lib.hid ho2; have HGb := Lib.hid hg2
           clear ho2 hg2))
    go_wp2_with fail
    go_meet
    exact ⟨HOb.out, grownBy_new HG1.out (HGa.out.trans HGb.out).1 (fun j hj => by simp [Value.ownBlock] at hj), (HGa.out.trans HGb.out).1.cell (HC0.out.cell 1) (by simp [Value.ownBlock]), (HGa.out.trans HGb.out).1.cell (HC0.out.cell 2) (by simp [Value.ownBlock]), Grew.apart (HGa.out.trans HGb.out) HC0.out.lt (by simp [Value.ownBlock])⟩
  case rest =>
    obtain ⟨ho, hg, hc1, hc2, hne⟩ := hcut
    have HO := Lib.hid ho; have HG := Lib.hid hg; have HC1 := Lib.hid hc1; have HC2 := Lib.hid hc2; have HNE := Lib.hid hne; clear ho hg hc1 hc2 hne
    go_wp2_with fail
    go_loopw [5, 6] (fun u i wr => ∃ j : Nat, j ≤ n ∧ i = .int .i64 j ∧ Own wr w.heap.size 5 1 u (2 + 6 * j) (u8s (be 1 0 ++ (be 1 n ++ pairsB ks vs j))) ∧ w.grownBy wr none ∧ wr.cell? ⟨w.heap.size, 1, none⟩ = some (.slice A n c) ∧ wr.cell? ⟨w.heap.size, 2, none⟩ = some (.slice A' n c') ∧ u.ownBlock ≠ some w.heap.size ∧
      (∀ q, q < j → inB (ks.getD q 0) 1048575 = true) ∧ (∀ q, q < j → inB (vs.getD q 0) 1023 = true)) (fun _ i _ => n - (intOf i).toNat)
    case atStart => exact ⟨0, by omega, rfl, by simpa [pairsB] using HO.out, HG.out, HC1.out, HC2.out, HNE.out, fun q hq => by omega, fun q hq => by omega⟩
    case round =>
      obtain ⟨j, hj, rfl, ho, hg, hc1, hc2, hne, hin1, hin2⟩ := hrel
      have HOr := Lib.hid ho; have HGr := Lib.hid hg; have HNEr := Lib.hid hne; have HI1 := Lib.hid hin1; have HI2 := Lib.hid hin2; have HCr := Lib.hid (And.intro hc1 hc2)
      clear ho hg hne hin1 hin2
      by_cases hlt : j < n
      · obtain ⟨g, o, rfl, hgl, _, hck⟩ := (ints_keep HK.out HGr.out (.inl rfl)).2.2 (by omega)
        obtain ⟨g', o', rfl, hgl', _, hcv⟩ := (ints_keep HV.out HGr.out (.inl rfl)).2.2 (by omega)
        have hkj := hck j hlt
        have hvj := hcv j hlt
        clear hck hcv
        cases hib : inB (ks.getD j 0) 1048575 with
        | false =>
          have HNO := Lib.hid (nodeW_no3 (leaf := false) (vs := vs) j (by rw [HKL.out]; exact hlt) hib)
          generalize ks.getD j 0 = x at *
          have HIB := Lib.hid hib; clear hib
          go_wp2_with fail
          refine (in_any x _ _).mono ?_
          rintro e w2 ⟨rfl, rfl⟩
          rw [HIB.out]
          go_wp2
          go_ret2
          exact ⟨HGr.out, .inr ⟨HNO.out, rfl⟩⟩
        | true =>
          cases hib' : inB (vs.getD j 0) 1023 with
          | false =>
            have HNO := Lib.hid (nodeW_no4 (leaf := false) (ks := ks) j (by rw [HVL.out]; exact hlt) hib')
            generalize ks.getD j 0 = x at *
            generalize vs.getD j 0 = y at *
            have HIB := Lib.hid hib; have HIB' := Lib.hid hib'; clear hib hib'
            go_wp2_with fail
            refine (in_any x _ _).mono ?_
            rintro e w2 ⟨rfl, rfl⟩
            rw [HIB.out]
            go_wp2_with fail
            refine (in_any y _ _).mono ?_
            rintro e w2 ⟨rfl, rfl⟩
            rw [HIB'.out]
            go_wp2
            go_ret2
            exact ⟨HGr.out, .inr ⟨HNO.out, rfl⟩⟩
          | true =>
            have hps := pairsB_succ ks vs j
            have HPS := Lib.hid hps; clear hps
            have hin1 : ∀ q, q < j + 1 → inB (ks.getD q 0) 1048575 = true := by
              intro q hq
              by_cases e : q = j
              · subst e; exact hib
              · exact HI1.out q (by omega)
            have hin2 : ∀ q, q < j + 1 → inB (vs.getD q 0) 1023 = true := by
              intro q hq
              by_cases e : q = j
              · subst e; exact hib'
              · exact HI2.out q (by omega)
            have HI1' := Lib.hid hin1; have HI2' := Lib.hid hin2; clear hin1 hin2
            generalize ks.getD j 0 = x at *
            generalize vs.getD j 0 = y at *
            obtain ⟨hx0, hx1⟩ := inB_yes hib
            obtain ⟨hy0, hy1⟩ := inB_yes hib'
            have HIB := Lib.hid hib; have HIB' := Lib.hid hib'; clear hib hib'
            obtain ⟨m, rfl⟩ := Int.eq_ofNat_of_zero_le hx0
            obtain ⟨m', rfl⟩ := Int.eq_ofNat_of_zero_le hy0
            rw [Int.toNat_natCast, Int.toNat_natCast] at HPS
            have HCC := Lib.hid (And.intro hkj hvj)
            have hgne : u5.ownBlock ≠ some g := fun e => by obtain ⟨g2, o2, e2, hl2, _⟩ := HK.out.2.2 (by omega); cases e2; have := (HOr.out.base_ g e).1; omega
            have hgne' : u5.ownBlock ≠ some g' := fun e => by obtain ⟨g2, o2, e2, hl2, _⟩ := HV.out.2.2 (by omega); cases e2; have := (HOr.out.base_ g' e).1; omega
            have HNg := Lib.hid (And.intro hgne hgne'); clear hgne hgne'
            have j0 : (0 : Int) ≤ j := by omega
            have j1 : (j : Int) < n := by omega
            have hsz := HGr.out.size
            go_upto_region 12 with (first
              | (go_at_call_of 77 (Value.int IntKind.i64 1048575); refine (in_any (m : Int) _ _).mono ?_; rintro e w2 ⟨rfl, rfl⟩; rw [HIB.out])
              | (go_at_call_of 77 (Value.int IntKind.i64 1023); refine (in_any (m' : Int) _ _).mono ?_; rintro e w2 ⟨rfl, rfl⟩; rw [HIB'.out]))
            go_region_held3 (fun w' => w'.cell? ⟨w.heap.size, 1, none⟩ = some (.slice (some ⟨g, o, none⟩) n c) ∧ w'.cell? ⟨w.heap.size, 2, none⟩ = some (.slice (some ⟨g', o', none⟩) n c') ∧ w'.cell? ⟨g, o + j, none⟩ = some (.int .i64 m) ∧ w'.cell? ⟨g', o' + j, none⟩ = some (.int .i64 m'))
              (first
                | go_keep
                | exact ⟨HCr.out.1, HCr.out.2, HCC.out.1, HCC.out.2⟩
                | exact ⟨(HGa.out.trans HGb.out).1.cell HCr.out.1 (fun e => HNEr.out e.symm), (HGa.out.trans HGb.out).1.cell HCr.out.2 (fun e => HNEr.out e.symm), (HGa.out.trans HGb.out).1.cell HCC.out.1 (fun e => HNg.out.1 e.symm), (HGa.out.trans HGb.out).1.cell HCC.out.2 (fun e => HNg.out.2 e.symm)⟩
                | exact ⟨HGa.out.1.cell HCr.out.1 (fun e => HNEr.out e.symm), HGa.out.1.cell HCr.out.2 (fun e => HNEr.out e.symm), HGa.out.1.cell HCC.out.1 (fun e => HNg.out.1 e.symm), HGa.out.1.cell HCC.out.2 (fun e => HNg.out.2 e.symm)⟩)
              (first
                | (go_at_call_of 78 u5
                   refine (put_any w.heap.size u5 (2 + 6 * j) _ m 4 _ HOr.out.drew hsz (by omega) (by omega)).mono ?_
                   rintro e w1 ⟨v1, rfl, ho1, hg1⟩
                   have HOa := Lib.hid ho1; have HGa := Lib.hid (Grew.behind (grown_drew wr none) hg1)
                   clear ho1 hg1)
                | (go_at_call_of 78 v1
                   refine (put_any w.heap.size v1 (2 + 6 * j + 4) _ m' 2 _ HOa.out (Nat.le_trans hsz HGa.out.1.size) (by omega) (by omega)).mono ?_
                   rintro e w2 ⟨v2, rfl, ho2, hg2⟩
                   have HOb := Lib.hid ho2; have HGb := Lib.hid hg2
                   clear ho2 hg2))
            go_wp2_with fail
            go_roundw
            case rel =>
              have hlt0 := World.block_lt_of_cell? wr ⟨w.heap.size, 1, none⟩ HCr.out.1
              refine ⟨j + 1, by omega, by go_num, ?_, grownBy_new HGr.out (HGa.out.trans HGb.out).1 (fun i hi => (HOr.out.base_ i hi).1), (HGa.out.trans HGb.out).1.cell HCr.out.1 (fun e => HNEr.out e.symm), (HGa.out.trans HGb.out).1.cell HCr.out.2 (fun e => HNEr.out e.symm), Grew.apart (HGa.out.trans HGb.out) hlt0 HNEr.out, HI1'.out, HI2'.out⟩
              have h := HOb.out
              rw [show be 1 0 ++ (be 1 n ++ pairsB ks vs j) ++ be 4 m ++ be 2 m' = be 1 0 ++ (be 1 n ++ pairsB ks vs (j + 1)) from by rw [HPS.out]; simp] at h
              rw [show 2 + 6 * (j + 1) = 2 + 6 * j + 4 + 2 from by omega]
              exact h
            case measure => simp [intOf]; omega
      · obtain rfl : j = n := by omega
        have hyes := nodeW_yes (leaf := false) j HKL.out HVL.out h8 HI1.out HI2.out
        have HY := Lib.hid hyes; clear hyes
        have hnb : nodeB false ks vs = be 1 0 ++ (be 1 j ++ pairsB ks vs j) := by rw [nodeB, HKL.out]; rfl
        have HNB := Lib.hid hnb; clear hnb
        have hsz := HGr.out.size
        go_wp2_with fail
        refine (filled_any w.heap.size u5 (2 + 6 * j) _ 240 _ HOr.out hsz (by omega) (by omega)).mono ?_
        rintro e w2 ⟨v2, rfl, ho2, hg2⟩
        have HO2 := Lib.hid ho2; have HG2 := Lib.hid (grownBy_new HGr.out hg2.1 (fun i hi => (HOr.out.base_ i hi).1))
        clear ho2 hg2
        go_wp2
        go_ret2
        refine ⟨HG2.out, .inl ⟨_, v2, HY.out, rfl, ?_, fill_lt _ _ (nodeB_lt _ _ _)⟩⟩
        rw [fill_length _ _ (by rw [nodeB_len, HKL.out]; omega), HNB.out]
        exact HO2.out
theorem ref_put_node (b : Nat) (leaf : Bool) (A A' : Option Addr) (n n' c c' : Nat) (ks vs : List Int) (w : World) (hk : Ints w b A n ks) (hv : Ints w b A' n' vs) :
    Calls Try.prog 55 #[.agg #[.bool leaf, .slice A n c, .slice A' n' c']] w (Wrote w (nodeW leaf ks vs)) := by
  cases leaf
  · exact ref_put_node_false b A A' n n' c c' ks vs w hk hv
  · exact ref_put_node_true b A A' n n' c c' ks vs w hk hv
end Go.Proofs.Ytboccfficmaoaaa.Codec
/- The walk over the document's own answer for nodes that are read: GetNode. -/
namespace Go.Proofs.Ytboccfficmaoaaa.Codec
open Go.RowKit CrcMath CodecMath Mem Crc

theorem Own.set_far {w : World} {base size n : Nat} {e : TypeId} {v : Value} {xs : List Value} (h : Own w base e size v n xs) {g i : Nat} (hg : g < base) (u : Value) : Own (w.setCell ⟨g, i, none⟩ u) base e size v n xs :=
  h.keep (only_set (World.grownBy.refl w (some g)) i u) (fun j hj e => by cases e; have := (h.base_ g hj).1; omega)
theorem bytes_drew {w : World} {b n : Nat} {A : Option Addr} {l : List Nat} (h : Bytes w b A n l) : Bytes w.drew b A n l := h
/-- What a call that reads a node leaves. -/
def ToldNode (w : World) (o : Option (Bool × List Int × List Int)) (e : Ending) (w' : World) : Prop :=
  w.grownBy w' none ∧ ((∃ leaf ks vs v v', o = some (leaf, ks, vs) ∧ e = .returned (.tuple #[.agg #[.bool leaf, v, v'], .bool true]) ∧ Own w' w.heap.size 3 1 v ks.length (i64s ks) ∧ Own w' w.heap.size 3 1 v' vs.length (i64s vs) ∧
      (∀ g, v.ownBlock = some g → v'.ownBlock ≠ some g) ∧ (∀ x ∈ ks, -9223372036854775808 ≤ x ∧ x ≤ 9223372036854775807) ∧ ∀ x ∈ vs, -9223372036854775808 ≤ x ∧ x ≤ 9223372036854775807) ∨
    (o = none ∧ e = .returned (.tuple #[.agg #[.bool false, .slice none 0 0, .slice none 0 0], .bool false])))

set_option maxRecDepth 100000 in
set_option maxHeartbeats 1600000 in
theorem ref_get_node (b : Nat) (A : Option Addr) (n c : Nat) (l : List Nat) (w : World) (hl : Bytes w b A n l) (hn : n ≤ 9223372036854775807) :
    Calls Try.prog 18 #[.slice A n c] w (ToldNode w (nodeR l)) := by
  obtain ⟨i0, hi0, hz0, hz1, hz2⟩ := info_parts int_info
  have hi := Lib.hid hi0; have z0 := Lib.hid hz0; have z1 := Lib.hid hz1; have z2 := Lib.hid hz2; clear hi0 hz0 hz1 hz2
  have hr : nodeR l = if nodeW (decide (num l 0 1 = 1)) (numsAt l 2 6 4 (min (num l 1 1) 8)) (numsAt l 6 6 2 (min (num l 1 1) 8)) = some l then some (decide (num l 0 1 = 1), numsAt l 2 6 4 (min (num l 1 1) 8), numsAt l 6 6 2 (min (num l 1 1) 8)) else none := rfl
  have HR := Lib.hid hr; clear hr
  have HLT := Lib.hid hl.2.1
  have hg0 := World.grownBy_alloc w (.cells #[.bool false, .slice none 0 0, .slice none 0 0] 51) none
  have HL0 := Lib.hid (bytes_keepN hl hg0)
  have HL := Lib.hid hl; clear hl hg0
  obtain ⟨hw0, _⟩ := num_small l 0 1 HLT.out (by omega)
  obtain ⟨hw1, hb1⟩ := num_small l 1 1 HLT.out (by omega)
  have HW0 := Lib.hid hw0; have HW1 := Lib.hid hw1; clear hw0 hw1
  have hlf : (((num l 0 1 : Nat) : Int) == 1) = decide (num l 0 1 = 1) := by
    rw [Bool.eq_iff_iff]; simp; omega
  have HLF := Lib.hid hlf; clear hlf
  have HZ := Lib.hid ((Blk.new w 51 #[.bool false, .slice none 0 0, .slice none 0 0]))
  generalize nodeR l = r at *
  go_enter Try.func18, Try.ntmps18
  go_wp2_with fail
  refine (number_any b A n c l 0 1 _ HL0.out (by omega)).mono ?_
  rintro e w1 ⟨rfl, rfl⟩
  rw [HW0.out]
  go_wp2_with fail
  generalize (((num l 0 1 : Nat) : Int) == 1) = lf at *
  have hinit : Blk ((w.alloc (.cells #[.bool false, .slice none 0 0, .slice none 0 0] 51)).alloc (.cells #[.bool lf, .slice none 0 0, .slice none 0 0] 51)) (w.heap.size + 1) 51 #[.bool lf, .slice none 0 0, .slice none 0 0] := by
    simpa using Blk.new (w.alloc (.cells #[.bool false, .slice none 0 0, .slice none 0 0] 51)) 51 #[.bool lf, .slice none 0 0, .slice none 0 0]
  have HINIT := Lib.hid hinit; clear hinit
  obtain ⟨N, hN⟩ : ∃ N, N = min (num l 1 1) 8 := ⟨_, rfl⟩
  have HN := Lib.hid hN
  have hN8 : N ≤ 8 := by omega
  have hNx : N ≤ num l 1 1 := by omega
  have hNe : N = 8 ∨ N = num l 1 1 := by omega
  have HNE := Lib.hid hNe
  clear hN hNe
  go_loopw [5] (fun i wr => ∃ (j : Nat) (vk vv : Value), j ≤ N ∧ i = .int .i64 j ∧ Blk wr (w.heap.size + 1) 51 #[.bool lf, vk, vv] ∧ Blk wr w.heap.size 51 #[.bool false, .slice none 0 0, .slice none 0 0] ∧
      Own wr (w.heap.size + 2) 3 1 vk j (i64s (numsAt l 2 6 4 j)) ∧ Own wr (w.heap.size + 2) 3 1 vv j (i64s (numsAt l 6 6 2 j)) ∧ (∀ g, vk.ownBlock = some g → vv.ownBlock ≠ some g) ∧ w.grownBy wr none) (fun i _ => N - (intOf i).toNat)
  case atStart => exact ⟨0, _, _, by omega, rfl, HINIT.out, HZ.out.alloc _, Own.nil _ _ _ _, Own.nil _ _ _ _, fun g hg => by simp [Value.ownBlock] at hg, (World.grownBy_alloc w _ none).trans (World.grownBy_alloc _ _ none)⟩
  case round =>
    obtain ⟨j, vk, vv, hj, rfl, hbk, hbz, hok, hov, hap, hg⟩ := hrel
    have HBK := Lib.hid hbk; have HBZ := Lib.hid hbz; have HOK := Lib.hid hok; have HOV := Lib.hid hov; have HAP := Lib.hid hap; have HG := Lib.hid hg
    have HLr := Lib.hid (bytes_keepN HL.out hg)
    clear hbk hbz hok hov hap hg
    by_cases hlt : j < N
    · have hx1 : (j : Int) < (num l 1 1 : Nat) := by omega
      have h8 : (j : Int) < 8 := by omega
      have hk1 := HBK.out.cell 1
      have hk2 := HBK.out.cell 2
      have hkl := HBK.out.lt
      have hkf := HBK.out.frozen 1
      have hkf2 := HBK.out.frozen 2
      have hw4 := (num_small l (2 + 6 * j) 4 HLT.out (by omega)).1
      have hw6 := (num_small l (6 + 6 * j) 2 HLT.out (by omega)).1
      have HW4 := Lib.hid hw4; have HW6 := Lib.hid hw6; clear hw4 hw6
      simp only [List.getElem?_toArray, List.getElem?_cons_zero, List.getElem?_cons_succ] at hk1 hk2
      go_upto_region 5 with (go_at_call 41; refine (number_any b A n c l 1 1 _ HLr.out (by omega)).mono ?_; rintro e w2 ⟨rfl, rfl⟩; rw [HW1.out])
      go_cut [5] (fun s5 wx => ∃ vk' : Value, s5 = .int .i64 j ∧ Blk wx (w.heap.size + 1) 51 #[.bool lf, vk', vv] ∧ Blk wx w.heap.size 51 #[.bool false, .slice none 0 0, .slice none 0 0] ∧
        Own wx (w.heap.size + 2) 3 1 vk' (j + 1) (i64s (numsAt l 2 6 4 (j + 1))) ∧ Own wx (w.heap.size + 2) 3 1 vv j (i64s (numsAt l 6 6 2 j)) ∧ (∀ g, vk'.ownBlock = some g → vv.ownBlock ≠ some g) ∧ w.grownBy wx none)
      case first =>
        have wa := IntWalk.i64_in (6 * (j : Int)) (by omega)
        have wb := IntWalk.i64_in (2 + 6 * (j : Int)) (by omega)
        go_region_law (first
          | (refine step_append_own_full _ rfl (.tmp 23) (.tmp 29) _ rfl (w.heap.size + 2) 3 i0 _ 1 8 Try.underlying31 hi.out z0.out z1.out z2.out rfl (by omega) vk j _ (by simp [Act.eval]) (HOK.out.drew.alloc _)
               _ _ 1 1 _ (by simp [Act.eval]) (reads_one_int _ _) (fun u hu => by simp at hu; subst hu; rfl) (by simp only [maxLen]; omega) (by omega) (by have := HBK.out.lt; simp; omega) ?_
             intro v' w' hown' hgr'
             obtain ⟨A2, c2, hv2, _, _, _⟩ := hown'.shape
             subst hv2
             have hb1 := (HBK.out.drew.alloc _).grown hgr'.1 (fun e => by have := (HOK.out.base_ _ e.symm).1; omega)
             have hc1' := hb1.cell 1
             have hf1' := hb1.frozen 1
             simp only [List.getElem?_toArray, List.getElem?_cons_zero, List.getElem?_cons_succ] at hc1'
             have HB1' := Lib.hid hb1
             have HO' := Lib.hid hown'; have HGR' := Lib.hid hgr'; clear hown' hgr' hb1)
          | (go_simp
             go_at_call 41
             rw [show (2 + 6 * (j : Int)) = ((2 + 6 * j : Nat) : Int) from by omega]
             refine (number_any b A n c l (2 + 6 * j) 4 _ (bytes_drew HLr.out) (by omega)).mono ?_
             rintro e w2 ⟨rfl, rfl⟩
             rw [HW4.out]))
        all_goals
          go_wp2_with fail
          go_meet
          have hne1 : ∀ q, q < w.heap.size + 2 → some q ≠ vk.ownBlock := fun q hq e => by have := (HOK.out.base_ _ e.symm).1; omega
          refine ⟨_, rfl, HB1'.out.set_ 1 _, ((HBZ.out.drew.alloc _).grown HGR'.out.1 (hne1 _ (by omega))).far (by simp) _, ?_, ?_, ?_, ?_⟩
          · have h := Own.set_far (g := w.heap.size + 1) (i := 1) HO'.out (by omega) (Value.slice A2 (j + 1) c2)
            rw [numsAt_succ, i64s_append]
            exact h
          · exact Own.set_far ((HOV.out.drew.alloc _).keep HGR'.out.1 (fun q hq e => HAP.out q e hq)) (by omega) _
          · intro q hq hv
            rcases HGR'.out.2 q hq with h | h
            · exact HAP.out q h hv
            · have := (HOV.out.base_ q hv).2; simp at h; omega
          · exact grown_set (grownBy_new ((HG.out.trans (grown_drew _ none)).trans (World.grownBy_alloc _ _ none)) HGR'.out.1 (fun q hq => by have := (HOK.out.base_ q hq).1; omega)) (by omega) _
      case rest =>
        obtain ⟨vk', rfl, hbk, hbz, hok, hov, hap, hg⟩ := hcut
        have HBK := Lib.hid hbk; have HBZ := Lib.hid hbz; have HOK := Lib.hid hok; have HOV := Lib.hid hov; have HAP := Lib.hid hap; have HG := Lib.hid hg
        have HLr := Lib.hid (bytes_keepN HL.out hg)
        clear hbk hbz hok hov hap hg hk1 hk2 hkl hkf hkf2
        have hk1 := HBK.out.cell 1
        have hk2 := HBK.out.cell 2
        have hkl := HBK.out.lt
        have hkf2 := HBK.out.frozen 2
        simp only [List.getElem?_toArray, List.getElem?_cons_zero, List.getElem?_cons_succ] at hk1 hk2
        have wa := IntWalk.i64_in (6 * (j : Int)) (by omega)
        have wb := IntWalk.i64_in (6 + 6 * (j : Int)) (by omega)
        go_wp2_with fail
        go_region_law (first
          | (refine step_append_own_full _ rfl (.tmp 33) (.tmp 39) _ rfl (w.heap.size + 2) 3 i0 _ 1 8 Try.underlying31 hi.out z0.out z1.out z2.out rfl (by omega) vv j _ (by simp [Act.eval]) (HOV.out.drew.alloc _)
               _ _ 1 1 _ (by simp [Act.eval]) (reads_one_int _ _) (fun u hu => by simp at hu; subst hu; rfl) (by simp only [maxLen]; omega) (by omega) (by have := HBK.out.lt; simp; omega) ?_
             intro v' w' hown' hgr'
             obtain ⟨A2, c2, hv2, _, _, _⟩ := hown'.shape
             subst hv2
             have hb1 := (HBK.out.drew.alloc _).grown hgr'.1 (fun e => by have := (HOV.out.base_ _ e.symm).1; omega)
             have hc1' := hb1.cell 2
             have hf1' := hb1.frozen 2
             simp only [List.getElem?_toArray, List.getElem?_cons_zero, List.getElem?_cons_succ] at hc1'
             have HB1' := Lib.hid hb1
             have HO' := Lib.hid hown'; have HGR' := Lib.hid hgr'; clear hown' hgr' hb1)
          | (go_simp
             go_at_call 41
             rw [show (6 + 6 * (j : Int)) = ((6 + 6 * j : Nat) : Int) from by omega]
             refine (number_any b A n c l (6 + 6 * j) 2 _ (bytes_drew HLr.out) (by omega)).mono ?_
             rintro e w2 ⟨rfl, rfl⟩
             rw [HW6.out]))
        all_goals
          clear wa wb
          go_wp2_with fail
          go_roundw
          case measure => simp [intOf]; omega
          case rel =>
            have hne1 : ∀ q, q < w.heap.size + 2 → some q ≠ vv.ownBlock := fun q hq e => by have := (HOV.out.base_ _ e.symm).1; omega
            refine ⟨j + 1, _, _, by omega, by go_num, HB1'.out.set_ 2 _, ((HBZ.out.drew.alloc _).grown HGR'.out.1 (hne1 _ (by omega))).far (by simp) _, ?_, ?_, ?_, ?_⟩
            · exact Own.set_far ((HOK.out.drew.alloc _).keep HGR'.out.1 (fun q hq e => HAP.out q hq e)) (by omega) _
            · have h := Own.set_far (g := w.heap.size + 1) (i := 2) HO'.out (by omega) (Value.slice A2 (j + 1) c2)
              rw [numsAt_succ, i64s_append]
              exact h
            · intro q hq hv
              rcases HGR'.out.2 q hv with h | h
              · exact HAP.out q hq h
              · have := (HOK.out.base_ q hq).2; simp at h; omega
            · exact grown_set (grownBy_new ((HG.out.trans (grown_drew _ none)).trans (World.grownBy_alloc _ _ none)) HGR'.out.1 (fun q hq => by have := (HOV.out.base_ q hq).1; omega)) (by omega) _
    · obtain rfl : j = N := by omega
      have hrk := nums_range l 2 6 4 j HLT.out (by omega)
      have hrv := nums_range l 6 6 2 j HLT.out (by omega)
      obtain ⟨A1, c1, rfl, hi1, _, _⟩ := own_ints HOK.out hrk
      obtain ⟨A2, c2, rfl, hi2, _, _⟩ := own_ints HOV.out hrv
      have HRK := Lib.hid hrk; have HRV := Lib.hid hrv; have HI1 := Lib.hid hi1; have HI2 := Lib.hid hi2
      clear hrk hrv hi1 hi2
      have hk0 := HBK.out.cell 0
      have hk1 := HBK.out.cell 1
      have hk2 := HBK.out.cell 2
      have hkl := HBK.out.lt
      simp only [List.getElem?_toArray, List.getElem?_cons_zero, List.getElem?_cons_succ] at hk0 hk1 hk2
      have hways : (¬ (j : Int) < (num l 1 1 : Nat)) ∨ ((j : Int) < (num l 1 1 : Nat) ∧ ¬ (j : Int) < 8) := by rcases HNE.out with h | h <;> omega
      rcases hways with hx | ⟨hx, h8⟩
      all_goals
        go_wp2_with fail
        refine (number_any b A n c l 1 1 _ HLr.out (by omega)).mono ?_
        rintro e w2 ⟨rfl, rfl⟩
        rw [HW1.out]
        go_wp2_with fail
        refine (ref_put_node _ lf A1 A2 j j c1 c2 _ _ _ HI1.out HI2.out).mono ?_
        rintro e w3 ⟨hg3, ⟨l', v3, ho3, rfl, hown3, hlt3⟩ | ⟨ho3, rfl⟩⟩
        · obtain ⟨A3, c3, rfl, hb3, _, hm3⟩ := own_bytes hown3 hlt3
          have hl3 : l'.length ≤ 9223372036854775807 := by simp only [maxLen] at hm3; omega
          have HB3 := Lib.hid hb3; have HO3 := Lib.hid ho3
          have HL3 := Lib.hid (bytes_keepN HLr.out hg3); have HG3 := Lib.hid (HG.out.trans hg3)
          have HBK3 := Lib.hid (HBK.out.grown hg3 (by simp)); have HBZ3 := Lib.hid (HBZ.out.grown hg3 (by simp))
          have HOK3 := Lib.hid (HOK.out.keep hg3 (by simp)); have HOV3 := Lib.hid (HOV.out.keep hg3 (by simp))
          clear hb3 ho3 hown3 hg3 hk0 hk1 hk2 hkl
          cases hd : decide (l' = l) with
          | true =>
            have HD := Lib.hid hd; clear hd
            go_wp2_with fail
            refine (same_any _ _ A3 A _ n c3 c l' l _ HB3.out HL3.out hl3 hn).mono ?_
            rintro e w4 ⟨rfl, hdr⟩
            have hg4 := drawn_grown hdr none
            have HG4 := Lib.hid (HG3.out.trans hg4)
            have HBZ4 := Lib.hid (HBZ3.out.grown hg4 (by simp))
            have HOK4 := Lib.hid (HOK3.out.keep hg4 (by simp)); have HOV4 := Lib.hid (HOV3.out.keep hg4 (by simp))
            have hbk4 := HBK3.out.grown hg4 (by simp)
            have hk0 := hbk4.cell 0
            have hk1 := hbk4.cell 1
            have hk2 := hbk4.cell 2
            have hkl := hbk4.lt
            have hzz0 := HBZ4.out.cell 0
            have hzz1 := HBZ4.out.cell 1
            have hzz2 := HBZ4.out.cell 2
            have hzf0 := HBZ4.out.frozen 0
            have hzf1 := HBZ4.out.frozen 1
            have hzf2 := HBZ4.out.frozen 2
            simp only [List.getElem?_toArray, List.getElem?_cons_zero, List.getElem?_cons_succ] at hk0 hk1 hk2 hzz0 hzz1 hzz2
            clear hdr hg4 hbk4
            rw [HD.out]
            go_wp2_with fail
            refine ret_row2 rfl w.heap.size 51 _ _ rfl (Blk.set3 HBZ4.out) Try.underlying51 rfl (by kernel_rfl) rfl ⟨?_, .inl ⟨lf, numsAt l 2 6 4 j, numsAt l 6 6 2 j, _, _, ?_, rfl, ?_, ?_, HAP.out, HRK.out, HRV.out⟩⟩
            · repeat (refine grown_set ?_ (Nat.le_refl _) _)
              exact HG4.out
            · have hl := of_decide_eq_true HD.out
              subst hl
              rw [HR.out, ← HLF.out, ← HN.out, if_pos HO3.out]
            · rw [numsAt_length]
              exact (Own.set_far (Own.set_far (Own.set_far HOK4.out (by omega) _) (by omega) _) (by omega) _).low (by omega)
            · rw [numsAt_length]
              exact (Own.set_far (Own.set_far (Own.set_far HOV4.out (by omega) _) (by omega) _) (by omega) _).low (by omega)
          | false =>
            have HD := Lib.hid hd; clear hd
            go_wp2_with fail
            refine (same_any _ _ A3 A _ n c3 c l' l _ HB3.out HL3.out hl3 hn).mono ?_
            rintro e w4 ⟨rfl, hdr⟩
            have hg4 := drawn_grown hdr none
            have HG4 := Lib.hid (HG3.out.trans hg4)
            have HBZ4 := Lib.hid (HBZ3.out.grown hg4 (by simp))
            have hzz0 := HBZ4.out.cell 0
            have hzz1 := HBZ4.out.cell 1
            have hzz2 := HBZ4.out.cell 2
            have hzf0 := HBZ4.out.frozen 0
            have hzf1 := HBZ4.out.frozen 1
            have hzf2 := HBZ4.out.frozen 2
            simp only [List.getElem?_toArray, List.getElem?_cons_zero, List.getElem?_cons_succ] at hzz0 hzz1 hzz2
            clear hdr hg4
            rw [HD.out]
            go_wp2_with fail
            refine ret_row2 rfl w.heap.size 51 _ _ rfl (Blk.set3 HBZ4.out) Try.underlying51 rfl (by kernel_rfl) rfl ⟨?_, .inr ⟨?_, rfl⟩⟩
            · repeat (refine grown_set ?_ (Nat.le_refl _) _)
              exact HG4.out
            · have hl := of_decide_eq_false HD.out
              rw [HR.out, ← HLF.out, ← HN.out, if_neg (by rw [HO3.out]; simpa using hl)]
        · have HG3 := Lib.hid (HG.out.trans hg3); have HO3 := Lib.hid ho3
          have HBZ4 := Lib.hid (HBZ.out.grown hg3 (by simp))
          have hzz0 := HBZ4.out.cell 0
          have hzz1 := HBZ4.out.cell 1
          have hzz2 := HBZ4.out.cell 2
          have hzf0 := HBZ4.out.frozen 0
          have hzf1 := HBZ4.out.frozen 1
          have hzf2 := HBZ4.out.frozen 2
          simp only [List.getElem?_toArray, List.getElem?_cons_zero, List.getElem?_cons_succ] at hzz0 hzz1 hzz2
          clear hg3 ho3 hk0 hk1 hk2 hkl
          go_wp2_with fail
          refine ret_row2 rfl w.heap.size 51 _ _ rfl (Blk.set3 HBZ4.out) Try.underlying51 rfl (by kernel_rfl) rfl ⟨?_, .inr ⟨?_, rfl⟩⟩
          · repeat (refine grown_set ?_ (Nat.le_refl _) _)
            exact HG3.out
          · rw [HR.out, ← HLF.out, ← HN.out, if_neg (by rw [HO3.out]; simp)]
end Go.Proofs.Ytboccfficmaoaaa.Codec
