/- The walk over the document's own answer for heads that are written: PutHead. -/
import Derived.Test.YtkiohneggoiipaaRefCounts
import Derived.Test.YtkiohneggoiipaaRefPage
namespace Go.Proofs.Ytkiohneggoiipaa.Codec
open Go.RowKit CrcMath CodecMath Mem Crc

theorem headW_no1 {epoch seq : Int} {pages : List Int} {sum : Nat} (h : inB epoch 1099511627776 = false) : headW epoch seq pages sum = none := by
  rw [headW, if_neg (fun hh => inB_no h (headOk_iff hh).1)]
theorem headW_no2 {epoch seq : Int} {pages : List Int} {sum : Nat} (h : inB seq 1099511627776 = false) : headW epoch seq pages sum = none := by
  rw [headW, if_neg (fun hh => inB_no h (headOk_iff hh).2.1)]
theorem headW_no3 {epoch seq : Int} {pages : List Int} {sum : Nat} (h : pages.length < 1 ∨ 40 < pages.length) : headW epoch seq pages sum = none := by
  rw [headW, if_neg (fun hh => by have := headOk_iff hh; omega)]
theorem headW_no4 {epoch seq : Int} {pages : List Int} {sum : Nat} (j : Nat) (hj : j < pages.length) (h : inB (pages.getD j 0) 1023 = false) : headW epoch seq pages sum = none := by
  rw [headW, if_neg (fun hh => by have := (headOk_iff hh).2.2.2.2; rw [allB_no j hj h] at this; cases this)]
theorem headW_yes {epoch seq : Int} {pages : List Int} {sum : Nat} (n : Nat) (he : inB epoch 1099511627776 = true) (hs : inB seq 1099511627776 = true) (hn : pages.length = n) (h1 : 1 ≤ n) (h40 : n ≤ 40) (h : ∀ j, j < n → inB (pages.getD j 0) 1023 = true) :
    headW epoch seq pages sum = some (frame (headB epoch seq pages sum)) := by
  have : headOk epoch seq pages = true := by
    simp only [headOk, Bool.and_eq_true, decide_eq_true_eq]
    exact ⟨⟨⟨he, hs⟩, by omega, by omega⟩, allB_mk n hn h⟩
  rw [headW, if_pos this]

set_option maxRecDepth 100000 in
set_option maxHeartbeats 1600000 in
theorem ref_put_head (b : Nat) (epoch seq : Int) (A : Option Addr) (n c : Nat) (pages : List Int) (sum : Nat) (w : World) (hp : Ints w b A n pages) (hsum : sum < 4294967296) :
    Calls Try.prog 21 #[.agg #[.int .i64 epoch, .int .i64 seq, .slice A n c, .int .u32 ((sum : Nat) : Int)]] w (Wrote w (headW epoch seq pages sum)) := by
  have HPL := Lib.hid hp.1
  have HG0 := Lib.hid (World.grownBy_alloc w (.cells #[.int .i64 epoch, .int .i64 seq, .slice A n c, .int .u32 ((sum : Nat) : Int)] 39) none)
  have HP := Lib.hid hp; clear hp
  cases hib : inB epoch 1099511627776 with
  | false =>
    have HNO := Lib.hid (headW_no1 (seq := seq) (pages := pages) (sum := sum) hib)
    have HIB := Lib.hid hib; clear hib
    go_enter Try.func21, Try.ntmps21
    go_wp2_with fail
    refine (in_any epoch _ _).mono ?_
    rintro e w2 ⟨rfl, rfl⟩
    rw [HIB.out]
    go_wp2
    go_ret2
    exact ⟨HG0.out, .inr ⟨HNO.out, rfl⟩⟩
  | true =>
  cases hib' : inB seq 1099511627776 with
  | false =>
    have HNO := Lib.hid (headW_no2 (epoch := epoch) (pages := pages) (sum := sum) hib')
    have HIB := Lib.hid hib; have HIB' := Lib.hid hib'; clear hib hib'
    go_enter Try.func21, Try.ntmps21
    go_wp2_with fail
    refine (in_any epoch _ _).mono ?_
    rintro e w2 ⟨rfl, rfl⟩
    rw [HIB.out]
    go_wp2_with fail
    refine (in_any seq _ _).mono ?_
    rintro e w2 ⟨rfl, rfl⟩
    rw [HIB'.out]
    go_wp2
    go_ret2
    exact ⟨HG0.out, .inr ⟨HNO.out, rfl⟩⟩
  | true =>
  by_cases hn : n < 1 ∨ 40 < n
  · have HNO := Lib.hid (headW_no3 (epoch := epoch) (seq := seq) (pages := pages) (sum := sum) (by rw [HPL.out]; exact hn))
    have HIB := Lib.hid hib; have HIB' := Lib.hid hib'; clear hib hib'
    rcases hn with hn | hn
    all_goals
      go_enter Try.func21, Try.ntmps21
      go_wp2_with fail
      refine (in_any epoch _ _).mono ?_
      rintro e w2 ⟨rfl, rfl⟩
      rw [HIB.out]
      go_wp2_with fail
      refine (in_any seq _ _).mono ?_
      rintro e w2 ⟨rfl, rfl⟩
      rw [HIB'.out]
      go_wp2
      go_ret2
      exact ⟨HG0.out, .inr ⟨HNO.out, rfl⟩⟩
  obtain ⟨e0, e1⟩ := inB_yes hib
  obtain ⟨s0, s1⟩ := inB_yes hib'
  have hn1 : 1 ≤ n := by omega
  have hn40 : n ≤ 40 := by omega
  clear hn
  obtain ⟨ep, rfl⟩ := Int.eq_ofNat_of_zero_le e0
  obtain ⟨sq, rfl⟩ := Int.eq_ofNat_of_zero_le s0
  have HIB := Lib.hid hib; have HIB' := Lib.hid hib'; clear hib hib'
  have kc := run_const1
  have kd := run_const1d
  have hoc : Own ((w.alloc (.cells #[.int .i64 (ep : Int), .int .i64 (sq : Int), .slice A n c, .int .u32 ((sum : Nat) : Int)] 39)).alloc (.cells #[.int .u8 80, .int .u8 76, .int .u8 79, .int .u8 71] 5 (4, 5))).drew w.heap.size 5 1 (.slice (some ⟨w.heap.size + 1, 0, none⟩) 4 4) 4 (u8s [80, 76, 79, 71]) := by
    have h := own_const (w.alloc (.cells #[.int .i64 (ep : Int), .int .i64 (sq : Int), .slice A n c, .int .u32 ((sum : Nat) : Int)] 39)) w.heap.size 4 #[.int .u8 80, .int .u8 76, .int .u8 79, .int .u8 71] [80, 76, 79, 71] rfl rfl (by simp [maxLen]) (by simp)
    simpa using h.drew
  have HOC := Lib.hid hoc; clear hoc
  have HC0a := Lib.hid (((Blk.new w 39 #[.int .i64 (ep : Int), .int .i64 (sq : Int), .slice A n c, .int .u32 ((sum : Nat) : Int)]).alloc (.cells #[.int .u8 80, .int .u8 76, .int .u8 79, .int .u8 71] 5)).drew)
  have HC0 := Lib.hid (((Blk.new w 39 #[.int .i64 (ep : Int), .int .i64 (sq : Int), .slice A n c, .int .u32 ((sum : Nat) : Int)]).alloc (.cells #[.int .u8 80, .int .u8 76, .int .u8 79, .int .u8 71] 5 (4, 5))).drew)
  have HG1 := Lib.hid ((HG0.out.trans (World.grownBy_alloc _ (.cells #[.int .u8 80, .int .u8 76, .int .u8 79, .int .u8 71] 5 (4, 5)) none)).trans (grown_drew _ none))
  have hu32 := IntWalk.i64_in ((sum : Nat) : Int) (by omega)
  have HU32 := Lib.hid hu32; clear hu32
  go_enter Try.func21, Try.ntmps21
  go_wp2_with fail
  refine (in_any (ep : Int) _ _).mono ?_
  rintro e w2 ⟨rfl, rfl⟩
  rw [HIB.out]
  go_wp2_with fail
  refine (in_any (sq : Int) _ _).mono ?_
  rintro e w2 ⟨rfl, rfl⟩
  rw [HIB'.out]
  go_upto_region 3 with fail
  go_cut [4] (fun s4 wx => Own wx w.heap.size 5 1 s4 20 (u8s ([80, 76, 79, 71] ++ be 8 ep ++ be 8 sq)) ∧ w.grownBy wx none ∧ wx.cell? ⟨w.heap.size, 2, none⟩ = some (.slice A n c) ∧ wx.cell? ⟨w.heap.size, 3, none⟩ = some (.int .u32 ((sum : Nat) : Int)) ∧ s4.ownBlock ≠ some w.heap.size)
  case first =>
    refine wp_region_held_drew (S := fun w' => w'.cell? ⟨w.heap.size, 0, none⟩ = some (.int .i64 ep) ∧ w'.cell? ⟨w.heap.size, 1, none⟩ = some (.int .i64 sq)) (by kernel_rfl) ?_ (fun hHeld => ?_)
    · have h := ((Blk.new w 39 #[.int .i64 (ep : Int), .int .i64 (sq : Int), .slice A n c, .int .u32 ((sum : Nat) : Int)]).drew)
      exact ⟨h.cell 0, h.cell 1⟩
    refine wpAnyH_take (i := 2) (v := .pointer (some ⟨w.heap.size, 0, none⟩)) rfl (by kernel_rfl) (by kernel_rfl) (by kernel_rfl) (fun _ _ _ h => h) (Or.inl ⟨by rfl, ?_⟩) (by assumption) ?_
    · intro w1 hSw; (try dsimp only at hSw); go_simp
    simp only [Act.put, List.getElem_toArray, List.getElem_cons_succ, List.getElem_cons_zero, List.setIfInBounds_toArray, List.set_cons_zero, List.set_cons_succ]
    refine wpAnyH_take (i := 3) (v := .int .i64 ep) rfl (by kernel_rfl) (by kernel_rfl) (by kernel_rfl) (fun _ _ _ h => h) (Or.inl ⟨by rfl, ?_⟩) (by assumption) ?_
    · intro w1 hSw; (try dsimp only at hSw); go_simp
    simp only [Act.put, List.getElem_toArray, List.getElem_cons_succ, List.getElem_cons_zero, List.setIfInBounds_toArray, List.set_cons_zero, List.set_cons_succ]
    refine wpAnyH_take (i := 5) (v := .pointer (some ⟨w.heap.size, 1, none⟩)) rfl (by kernel_rfl) (by kernel_rfl) (by kernel_rfl) (fun _ _ _ h => h) (Or.inl ⟨by rfl, ?_⟩) (by assumption) ?_
    · intro w1 hSw; (try dsimp only at hSw); go_simp
    simp only [Act.put, List.getElem_toArray, List.getElem_cons_succ, List.getElem_cons_zero, List.setIfInBounds_toArray, List.set_cons_zero, List.set_cons_succ]
    refine wpAnyH_take (i := 6) (v := .int .i64 sq) rfl (by kernel_rfl) (by kernel_rfl) (by kernel_rfl) (fun _ _ _ h => h) (Or.inl ⟨by rfl, ?_⟩) (by assumption) ?_
    · intro w1 hSw; (try dsimp only at hSw); go_simp
    simp only [Act.put, List.getElem_toArray, List.getElem_cons_succ, List.getElem_cons_zero, List.setIfInBounds_toArray, List.set_cons_zero, List.set_cons_succ]
    refine wpAnyH_ready (rs := [0]) (by kernel_rfl) (by simp) ?_
    refine AllReadyH.cons rfl (fun K hK => ?_) AllReadyH.nil
    go_simp
    refine hK.out _ _ ⟨HC0a.out.cell 0, HC0a.out.cell 1⟩ (fun hHeld => ?_)
    clear hK K
    refine wpAnyH_ready (rs := [1]) (by kernel_rfl) (by simp) ?_
    refine AllReadyH.cons rfl (fun K hK => ?_) AllReadyH.nil
    go_simp
    refine hK.out _ _ ⟨HC0.out.cell 0, HC0.out.cell 1⟩ (fun hHeld => ?_)
    clear hK K
    refine wpAnyH_ready (rs := [4]) (by kernel_rfl) (by simp) ?_
    refine AllReadyH.cons rfl (fun K hK => ?_) AllReadyH.nil
    go_simp
    refine (put_any w.heap.size (.slice (some ⟨w.heap.size + 1, 0, none⟩) 4 4) 4 [80, 76, 79, 71] ep 8 _ HOC.out HG1.out.size (by omega) (by omega)).mono ?_
    rintro e w1 ⟨v1, rfl, ho1, hg1⟩
    have HO1 := Lib.hid ho1
    have HG2 := Lib.hid hg1
    clear ho1 hg1
    go_wp2_with fail
    refine hK.out _ _ ⟨HG2.out.1.cell (HC0.out.cell 0) (by simp [Value.ownBlock]), HG2.out.1.cell (HC0.out.cell 1) (by simp [Value.ownBlock])⟩ (fun hHeld => ?_)
    clear hK K
    refine wpAnyH_ready (rs := [7]) (by kernel_rfl) (by simp) ?_
    refine AllReadyH.cons rfl (fun K hK => ?_) AllReadyH.nil
    go_simp
    refine (put_any w.heap.size v1 12 ([80, 76, 79, 71] ++ be 8 ep) sq 8 _ HO1.out (Nat.le_trans HG1.out.size HG2.out.1.size) (by omega) (by omega)).mono ?_
    rintro e w2 ⟨v2, rfl, ho2, hg2⟩
    have HO2 := Lib.hid ho2
    have HG3 := Lib.hid hg2
    clear ho2 hg2
    go_wp2_with fail
    refine hK.out _ _ ⟨(HG2.out.trans HG3.out).1.cell (HC0.out.cell 0) (by simp [Value.ownBlock]), (HG2.out.trans HG3.out).1.cell (HC0.out.cell 1) (by simp [Value.ownBlock])⟩ (fun hHeld => ?_)
    clear hK K
    refine wpAnyH_ready (rs := [8]) (by kernel_rfl) (by simp) ?_
    refine AllReadyH.cons rfl (fun K hK => ?_) AllReadyH.nil
    go_simp
    refine hK.out _ _ ⟨(HG2.out.trans HG3.out).1.cell (HC0.out.cell 0) (by simp [Value.ownBlock]), (HG2.out.trans HG3.out).1.cell (HC0.out.cell 1) (by simp [Value.ownBlock])⟩ (fun hHeld => ?_)
    clear hK K
    refine wpAnyH_done (by kernel_rfl) ?_ _
    go_wp2_with fail
    go_meet
    exact ⟨HO2.out, grownBy_new (grownBy_new HG1.out HG2.out.1 (fun j hj => by simp [Value.ownBlock] at hj; omega)) HG3.out.1 (fun j hj => (HO1.out.base_ j hj).1), (HG2.out.trans HG3.out).1.cell (HC0.out.cell 2) (by simp [Value.ownBlock]), (HG2.out.trans HG3.out).1.cell (HC0.out.cell 3) (by simp [Value.ownBlock]), Grew.apart (HG2.out.trans HG3.out) HC0.out.lt (by simp [Value.ownBlock])⟩
  case rest =>
    obtain ⟨ho, hg, hc2, hc3, hne⟩ := hcut
    have HO := Lib.hid ho; have HG := Lib.hid hg; have HCC := Lib.hid (And.intro hc2 hc3); have HNE := Lib.hid hne
    clear ho hg hc2 hc3 hne kc kd
    have hsz := HG.out.size
    have hub : ((sum : Nat) : Int) ≤ 4294967295 := by omega
    have hub0 : (0 : Int) ≤ ((sum : Nat) : Int) := by omega
    have hlt0 := World.block_lt_of_cell? wc ⟨w.heap.size, 2, none⟩ HCC.out.1
    have hwr : IntKind.i64.wrap ((sum : Nat) : Int) = ((sum : Nat) : Int) := by rw [IntKind.wrap_i64]; omega
    have HWR := Lib.hid hwr; clear hwr
    have hc2 := HCC.out.1
    have hc3 := HCC.out.2
    go_upto_region 4 with fail
    go_cut [4] (fun s4 wx => Own wx w.heap.size 5 1 s4 26 (u8s (headP ep sq pages sum)) ∧ w.grownBy wx none ∧ wx.cell? ⟨w.heap.size, 2, none⟩ = some (.slice A n c) ∧ s4.ownBlock ≠ some w.heap.size)
    case first =>
      have hn4 : (4 : Nat) ≤ 8 := by omega
      have hn2 : (2 : Nat) ≤ 8 := by omega
      have hm20 : (20 : Nat) ≤ 70368744177664 := by omega
      have hm24 : (24 : Nat) ≤ 70368744177664 := by omega
      go_region_law (first
        | (go_simp
           go_at_call_of 57 (Value.int IntKind.i64 4)
           rw [HWR.out]
           refine (put_any w.heap.size _ 20 ([80, 76, 79, 71] ++ be 8 ep ++ be 8 sq) sum 4 _ ?_ ?_ ?_ ?_).mono ?_
           exact HO.out.drew
           exact hsz
           exact hn4
           exact hm20
           rintro e w3 ⟨v3, rfl, ho3, hg3⟩
           have hga := Grew.behind (grown_drew wc none) hg3
           have hc23 := hga.1.cell HCC.out.1 (fun e => HNE.out e.symm)
           have HOa := Lib.hid ho3; have HGa := Lib.hid hga
           clear ho3 hg3 hga)
        | (go_simp
           go_at_call_of 57 (Value.int IntKind.i64 2)
           refine (put_any w.heap.size _ 24 ([80, 76, 79, 71] ++ be 8 ep ++ be 8 sq ++ be 4 sum) n 2 _ ?_ ?_ ?_ ?_).mono ?_
           exact HOa.out
           exact Nat.le_trans hsz HGa.out.1.size
           exact hn2
           exact hm24
           rintro e w4 ⟨v4, rfl, ho4, hg4⟩
           have HOb := Lib.hid ho4; have HGb := Lib.hid hg4
           clear ho4 hg4))
      all_goals
        go_wp2_with fail
        go_meet
        have hpre : [80, 76, 79, 71] ++ be 8 ep ++ be 8 sq ++ be 4 sum ++ be 2 n = headP ep sq pages sum := by simp [headP, HPL.out]
        have ho4 := HOb.out
        rw [hpre] at ho4
        exact ⟨ho4, grownBy_new HG.out (HGa.out.trans HGb.out).1 (fun i hi => (HO.out.base_ i hi).1), (HGa.out.trans HGb.out).1.cell HCC.out.1 (fun e => HNE.out e.symm), Grew.apart (HGa.out.trans HGb.out) hlt0 HNE.out⟩
    case rest =>
     obtain ⟨ho4, hgw, hc4, hne4⟩ := hcut
     have HO4 := Lib.hid ho4; have HGw := Lib.hid hgw; have HC4 := Lib.hid hc4; have HN4 := Lib.hid hne4
     clear ho4 hgw hne4 hc2 hc3
     go_wp2_with fail
     go_loopw [4, 5] (fun u i wr => ∃ j : Nat, j ≤ n ∧ i = .int .i64 j ∧ Own wr w.heap.size 5 1 u (26 + 4 * j) (u8s (headP ep sq pages sum ++ (pages.take j).flatMap fun n => be 4 n.toNat)) ∧ w.grownBy wr none ∧ wr.cell? ⟨w.heap.size, 2, none⟩ = some (.slice A n c) ∧ u.ownBlock ≠ some w.heap.size ∧ (∀ q, q < j → inB (pages.getD q 0) 1023 = true)) (fun _ i _ => n - (intOf i).toNat)
     case atStart => exact ⟨0, by omega, rfl, by simpa using HO4.out, HGw.out, HC4.out, HN4.out, fun q hq => by omega⟩
     case round =>
       obtain ⟨j, hj, rfl, ho, hg, hcx, hne, hin⟩ := hrel
       have HOr := Lib.hid ho; have HGr := Lib.hid hg; have HNEr := Lib.hid hne; have HIN := Lib.hid hin; have HCX := Lib.hid hcx
       clear ho hg hne hin
       by_cases hlt : j < n
       · obtain ⟨g, o, rfl, _, _, hck⟩ := (ints_keep HP.out HGr.out (.inl rfl)).2.2 (by omega)
         have hcj := hck j hlt
         clear hck
         have j0 : (0 : Int) ≤ j := by omega
         have j1 : (j : Int) < n := by omega
         cases hib : inB (pages.getD j 0) 1023 with
         | false =>
           have HNO := Lib.hid (headW_no4 (epoch := ep) (seq := sq) (sum := sum) j (by rw [HPL.out]; exact hlt) hib)
           generalize pages.getD j 0 = x at *
           have HIX := Lib.hid hib; clear hib
           go_wp2_with fail
           refine (in_any x _ _).mono ?_
           rintro e w5 ⟨rfl, rfl⟩
           rw [HIX.out]
           go_wp2
           go_ret2
           exact ⟨HGr.out, .inr ⟨HNO.out, rfl⟩⟩
         | true =>
           have htf := take_flat pages 4 j (by rw [HPL.out]; exact hlt)
           have HTF := Lib.hid htf; clear htf
           have hin' : ∀ q, q < j + 1 → inB (pages.getD q 0) 1023 = true := by
             intro q hq
             by_cases e : q = j
             · subst e; exact hib
             · exact HIN.out q (by omega)
           have HIN' := Lib.hid hin'; clear hin'
           generalize pages.getD j 0 = x at *
           obtain ⟨hx0, hx1⟩ := inB_yes hib
           have HIX := Lib.hid hib; clear hib
           obtain ⟨m, rfl⟩ := Int.eq_ofNat_of_zero_le hx0
           rw [Int.toNat_natCast] at HTF
           go_wp2_with fail
           refine (in_any (m : Int) _ _).mono ?_
           rintro e w5 ⟨rfl, rfl⟩
           rw [HIX.out]
           go_wp2_with fail
           have hszr := HGr.out.size
           refine (put_any w.heap.size _ _ _ m 4 _ HOr.out hszr (by omega) (by omega)).mono ?_
           rintro e w5 ⟨v', rfl, ho', hg'⟩
           have HO' := Lib.hid ho'; have HG' := Lib.hid hg'; clear ho' hg'
           go_wp2_with fail
           go_roundw
           case measure => simp [intOf]; omega
           case rel =>
             refine ⟨j + 1, by omega, by go_num, ?_, grownBy_new HGr.out HG'.out.1 (fun i hi => (HOr.out.base_ i hi).1), HG'.out.1.cell HCX.out (fun e => HNEr.out e.symm), Grew.apart HG'.out (World.block_lt_of_cell? _ ⟨w.heap.size, 2, none⟩ HCX.out) HNEr.out, HIN'.out⟩
             rw [HTF.out, ← List.append_assoc, show 26 + 4 * (j + 1) = 26 + 4 * j + 4 from by omega]
             exact HO'.out
       · obtain rfl : j = n := by omega
         have hyes := headW_yes (epoch := ep) (seq := sq) (sum := sum) j HIB.out HIB'.out HPL.out hn1 hn40 HIN.out
         have HY := Lib.hid hyes; clear hyes
         have ho := HOr.out
         rw [List.take_of_length_le (by rw [HPL.out]; omega)] at ho
         have HO7 := Lib.hid ho; clear ho
         have hszr := HGr.out.size
         go_wp2_with fail
         refine (framed_any w.heap.size _ _ (headB ep sq pages sum) _ HO7.out hszr (by omega) (headB_lt _ _ _ _)).mono ?_
         rintro e w5 ⟨v', rfl, ho', hg'⟩
         have HO' := Lib.hid ho'; have HG' := Lib.hid hg'; clear ho' hg'
         go_wp2
         go_ret2
         refine ⟨grownBy_new HGr.out HG'.out.1 (fun i hi => (HOr.out.base_ i hi).1), .inl ⟨_, v', HY.out, rfl, ?_, frame_lt _ (headB_lt _ _ _ _)⟩⟩
         rw [frame_length _ (by rw [headB_len, HPL.out]; omega)]
         exact HO'.out
end Go.Proofs.Ytkiohneggoiipaa.Codec
