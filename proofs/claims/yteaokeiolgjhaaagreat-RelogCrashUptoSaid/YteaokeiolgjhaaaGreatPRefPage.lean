/- Texts of this seat's proofs: RefPage, RefImage. -/
import Derived.Test.YteaokeiolgjhaaaGreatPRefSuper
import Derived.Test.YteaokeiolgjhaaaGreatPCodecSpec
import Derived.Test.YteaokeiolgjhaaaGreatPOpen
import Derived.Deep.RegionHeld3
import Derived.Deep.RegionLaw
import Derived.Deep.DeepCutAuto
/- The walks over the document's own answer for pages and for images of a log: PutPage, GetPage, PutImage, GetImage. -/
namespace Go.Proofs.YteaokeiolgjhaaaGreat.Codec
open Go.RowKit CrcMath CodecMath Mem Crc

theorem pageW_no1 {number kind : Int} {body : List Nat} (h : kind < 1) : pageW number kind body = none := by
  rw [pageW, if_neg (fun hh => by have := pageOk_iff hh; omega)]
theorem pageW_no2 {number kind : Int} {body : List Nat} (h : 5 < kind) : pageW number kind body = none := by
  rw [pageW, if_neg (fun hh => by have := pageOk_iff hh; omega)]
theorem pageW_no3 {number kind : Int} {body : List Nat} (h : inB number 1023 = false) : pageW number kind body = none := by
  rw [pageW, if_neg (fun hh => by have := pageOk_iff hh; exact inB_no h this.2.1)]
theorem pageW_no4 {number kind : Int} {body : List Nat} (h : body.length ≠ 240) : pageW number kind body = none := by
  rw [pageW, if_neg (fun hh => by have := pageOk_iff hh; exact h this.2.2.1)]
theorem fill_page (kind number : Nat) : fill ([80, 80, 65, 71] ++ be 1 kind ++ be 4 number) 12 = [80, 80, 65, 71] ++ (be 1 kind ++ (be 4 number ++ [0, 0, 0])) := by
  simp [fill, be_length]

set_option maxRecDepth 100000 in
set_option maxHeartbeats 1600000 in
theorem ref_put_page (b : Nat) (number kind : Int) (A : Option Addr) (n c : Nat) (l : List Nat) (w : World) (hl : Bytes w b A n l) :
    Calls Tryz.prog 126 #[.agg #[.int .i64 number, .int .i64 kind, .slice A n c]] w (Wrote w (pageW number kind l)) := by
  have hlen := hl.1
  have HLEN := Lib.hid hlen; clear hlen
  have HG0 := Lib.hid (World.grownBy_alloc w (.cells #[.int .i64 number, .int .i64 kind, .slice A n c] 109) none)
  by_cases h1 : kind < 1
  · have HNO := Lib.hid (pageW_no1 (number := number) (body := l) h1)
    clear hl
    go_enter Tryz.func126, Tryz.ntmps126
    go_wp2
    go_ret2
    exact ⟨HG0.out, .inr ⟨HNO.out, rfl⟩⟩
  by_cases h2 : 5 < kind
  · have HNO := Lib.hid (pageW_no2 (number := number) (body := l) h2)
    clear hl
    go_enter Tryz.func126, Tryz.ntmps126
    go_wp2
    go_ret2
    exact ⟨HG0.out, .inr ⟨HNO.out, rfl⟩⟩
  cases hib : inB number 1023 with
  | false =>
    have HNO := Lib.hid (pageW_no3 (kind := kind) (body := l) hib)
    have HIB := Lib.hid hib; clear hib hl
    go_enter Tryz.func126, Tryz.ntmps126
    go_wp2_with fail
    refine (in_any number _ _).mono ?_
    rintro e w2 ⟨rfl, rfl⟩
    rw [HIB.out]
    go_wp2
    go_ret2
    exact ⟨HG0.out, .inr ⟨HNO.out, rfl⟩⟩
  | true =>
    by_cases h4 : n = 240
    · subst h4
      have hok := pageOk_mk (number := number) (kind := kind) (body := l) ⟨⟨by omega, by omega⟩, inB_yes hib, HLEN.out, hl.2.1⟩
      have hyes : pageW number kind l = some (frame (pageB number kind l)) := by rw [pageW, if_pos hok]
      have HY := Lib.hid hyes; clear hyes hok
      have HLT := Lib.hid hl.2.1
      have HL := Lib.hid hl; clear hl
      obtain ⟨x0, x1⟩ := inB_yes hib
      have HIB := Lib.hid hib; clear hib
      obtain ⟨m, rfl⟩ := Int.eq_ofNat_of_zero_le x0
      obtain ⟨k, rfl⟩ := Int.eq_ofNat_of_zero_le (show (0 : Int) ≤ kind by omega)
      have kc := run_const1
      have kd := run_const1d
      obtain ⟨i0, hi0, hz0, hz1, hz2⟩ := info_parts byte_info
      have hi := Lib.hid hi0; have z0 := Lib.hid hz0; have z1 := Lib.hid hz1; have z2 := Lib.hid hz2; clear hi0 hz0 hz1 hz2
      have hoc : Own ((w.alloc (.cells #[.int .i64 m, .int .i64 k, .slice A 240 c] 109)).alloc (.cells #[.int .u8 80, .int .u8 80, .int .u8 65, .int .u8 71] 5 (4, 5))).drew w.heap.size 5 1 (.slice (some ⟨w.heap.size + 1, 0, none⟩) 4 4) 4 (u8s [80, 80, 65, 71]) := by
        have h := own_const (w.alloc (.cells #[.int .i64 m, .int .i64 k, .slice A 240 c] 109)) w.heap.size 4 #[.int .u8 80, .int .u8 80, .int .u8 65, .int .u8 71] [80, 80, 65, 71] rfl rfl (by simp [maxLen]) (by simp)
        simpa using h.drew
      have HOC := Lib.hid hoc; clear hoc
      have hc0a : ((w.alloc (.cells #[.int .i64 m, .int .i64 k, .slice A 240 c] 109)).alloc (.cells #[.int .u8 80, .int .u8 80, .int .u8 65, .int .u8 71] 5)).drew.cell? ⟨w.heap.size, 0, none⟩ = some (.int .i64 m) ∧ ((w.alloc (.cells #[.int .i64 m, .int .i64 k, .slice A 240 c] 109)).alloc (.cells #[.int .u8 80, .int .u8 80, .int .u8 65, .int .u8 71] 5)).drew.cell? ⟨w.heap.size, 1, none⟩ = some (.int .i64 k) := by
        have h := ((Blk.new w 109 #[.int .i64 m, .int .i64 k, .slice A 240 c]).alloc (.cells #[.int .u8 80, .int .u8 80, .int .u8 65, .int .u8 71] 5)).drew
        exact ⟨h.cell 0, h.cell 1⟩
      have HC0a := Lib.hid hc0a; clear hc0a
      have hc0 : ((w.alloc (.cells #[.int .i64 m, .int .i64 k, .slice A 240 c] 109)).alloc (.cells #[.int .u8 80, .int .u8 80, .int .u8 65, .int .u8 71] 5 (4, 5))).drew.cell? ⟨w.heap.size, 0, none⟩ = some (.int .i64 m) ∧ ((w.alloc (.cells #[.int .i64 m, .int .i64 k, .slice A 240 c] 109)).alloc (.cells #[.int .u8 80, .int .u8 80, .int .u8 65, .int .u8 71] 5 (4, 5))).drew.cell? ⟨w.heap.size, 1, none⟩ = some (.int .i64 k) ∧ ((w.alloc (.cells #[.int .i64 m, .int .i64 k, .slice A 240 c] 109)).alloc (.cells #[.int .u8 80, .int .u8 80, .int .u8 65, .int .u8 71] 5 (4, 5))).drew.cell? ⟨w.heap.size, 2, none⟩ = some (.slice A 240 c) := by
        have h := ((Blk.new w 109 #[.int .i64 m, .int .i64 k, .slice A 240 c]).alloc (.cells #[.int .u8 80, .int .u8 80, .int .u8 65, .int .u8 71] 5 (4, 5))).drew
        exact ⟨h.cell 0, h.cell 1, h.cell 2⟩
      have HC0 := Lib.hid hc0; clear hc0
      have HG1 := Lib.hid ((HG0.out.trans (World.grownBy_alloc _ (.cells #[.int .u8 80, .int .u8 80, .int .u8 65, .int .u8 71] 5 (4, 5)) none)).trans (grown_drew _ none))
      go_enter Tryz.func126, Tryz.ntmps126
      go_upto_region 3 with (go_at_call 157; refine (in_any (m : Int) _ _).mono ?_; rintro e w2 ⟨rfl, rfl⟩; rw [HIB.out])
      go_cut [4] (fun s4 wx => Own wx w.heap.size 5 1 s4 9 (u8s ([80, 80, 65, 71] ++ be 1 k ++ be 4 m)) ∧ w.grownBy wx none ∧ wx.cell? ⟨w.heap.size, 2, none⟩ = some (.slice A 240 c) ∧ s4.ownBlock ≠ some w.heap.size)
      case first =>
        refine wp_region_held_drew (S := fun w' => w'.cell? ⟨w.heap.size, 0, none⟩ = some (.int .i64 m) ∧ w'.cell? ⟨w.heap.size, 1, none⟩ = some (.int .i64 k)) (by kernel_rfl) ?_ (fun hHeld => ?_)
        · have h := ((Blk.new w 109 #[.int .i64 m, .int .i64 k, .slice A 240 c]).drew)
          exact ⟨h.cell 0, h.cell 1⟩
        refine wpAnyH_take (i := 2) (v := .pointer (some ⟨w.heap.size, 1, none⟩)) rfl (by kernel_rfl) (by kernel_rfl) (by kernel_rfl) (fun _ _ _ h => h) (Or.inl ⟨by rfl, ?_⟩) (by assumption) ?_
        · intro w1 hSw; (try dsimp only at hSw); go_simp
        simp only [Act.put, List.getElem_toArray, List.getElem_cons_succ, List.getElem_cons_zero, List.setIfInBounds_toArray, List.set_cons_zero, List.set_cons_succ]
        refine wpAnyH_take (i := 3) (v := .pointer (some ⟨w.heap.size, 1, none⟩)) rfl (by kernel_rfl) (by kernel_rfl) (by kernel_rfl) (fun _ _ _ h => h) (Or.inl ⟨by rfl, ?_⟩) (by assumption) ?_
        · intro w1 hSw; (try dsimp only at hSw); go_simp
        simp only [Act.put, List.getElem_toArray, List.getElem_cons_succ, List.getElem_cons_zero, List.setIfInBounds_toArray, List.set_cons_zero, List.set_cons_succ]
        refine wpAnyH_take (i := 4) (v := .int .i64 k) rfl (by kernel_rfl) (by kernel_rfl) (by kernel_rfl) (fun _ _ _ h => h) (Or.inl ⟨by rfl, ?_⟩) (by assumption) ?_
        · intro w1 hSw; (try dsimp only at hSw); go_simp
        simp only [Act.put, List.getElem_toArray, List.getElem_cons_succ, List.getElem_cons_zero, List.setIfInBounds_toArray, List.set_cons_zero, List.set_cons_succ]
        refine wpAnyH_take (i := 6) (v := .pointer (some ⟨w.heap.size, 0, none⟩)) rfl (by kernel_rfl) (by kernel_rfl) (by kernel_rfl) (fun _ _ _ h => h) (Or.inl ⟨by rfl, ?_⟩) (by assumption) ?_
        · intro w1 hSw; (try dsimp only at hSw); go_simp
        simp only [Act.put, List.getElem_toArray, List.getElem_cons_succ, List.getElem_cons_zero, List.setIfInBounds_toArray, List.set_cons_zero, List.set_cons_succ]
        refine wpAnyH_take (i := 7) (v := .int .i64 m) rfl (by kernel_rfl) (by kernel_rfl) (by kernel_rfl) (fun _ _ _ h => h) (Or.inl ⟨by rfl, ?_⟩) (by assumption) ?_
        · intro w1 hSw; (try dsimp only at hSw); go_simp
        simp only [Act.put, List.getElem_toArray, List.getElem_cons_succ, List.getElem_cons_zero, List.setIfInBounds_toArray, List.set_cons_zero, List.set_cons_succ]
        refine wpAnyH_ready (rs := [0]) (by kernel_rfl) (by simp) ?_
        refine AllReadyH.cons rfl (fun K hK => ?_) AllReadyH.nil
        go_simp
        refine hK.out _ _ ⟨HC0a.out.1, HC0a.out.2⟩ (fun hHeld => ?_)
        clear hK K
        refine wpAnyH_ready (rs := [1]) (by kernel_rfl) (by simp) ?_
        refine AllReadyH.cons rfl (fun K hK => ?_) AllReadyH.nil
        go_simp
        refine hK.out _ _ ⟨HC0.out.1, HC0.out.2.1⟩ (fun hHeld => ?_)
        clear hK K
        refine wpAnyH_ready (rs := [5]) (by kernel_rfl) (by simp) ?_
        refine AllReadyH.cons rfl (fun K hK => ?_) AllReadyH.nil
        go_simp
        refine (put_any w.heap.size (.slice (some ⟨w.heap.size + 1, 0, none⟩) 4 4) 4 [80, 80, 65, 71] k 1 _ HOC.out HG1.out.size (by omega) (by omega)).mono ?_
        rintro e w1 ⟨v1, rfl, ho1, hg1⟩
        have HO1 := Lib.hid ho1
        have HG2 := Lib.hid hg1
        clear ho1 hg1
        go_wp2_with fail
        refine hK.out _ _ ⟨HG2.out.1.cell HC0.out.1 (by simp [Value.ownBlock]), HG2.out.1.cell HC0.out.2.1 (by simp [Value.ownBlock])⟩ (fun hHeld => ?_)
        clear hK K
        refine wpAnyH_ready (rs := [8]) (by kernel_rfl) (by simp) ?_
        refine AllReadyH.cons rfl (fun K hK => ?_) AllReadyH.nil
        go_simp
        refine (put_any w.heap.size v1 5 ([80, 80, 65, 71] ++ be 1 k) m 4 _ HO1.out (Nat.le_trans HG1.out.size HG2.out.1.size) (by omega) (by omega)).mono ?_
        rintro e w2 ⟨v2, rfl, ho2, hg2⟩
        have HO2 := Lib.hid ho2
        have HG3 := Lib.hid hg2
        clear ho2 hg2
        go_wp2_with fail
        refine hK.out _ _ ⟨(HG2.out.trans HG3.out).1.cell HC0.out.1 (by simp [Value.ownBlock]), (HG2.out.trans HG3.out).1.cell HC0.out.2.1 (by simp [Value.ownBlock])⟩ (fun hHeld => ?_)
        clear hK K
        refine wpAnyH_ready (rs := [9]) (by kernel_rfl) (by simp) ?_
        refine AllReadyH.cons rfl (fun K hK => ?_) AllReadyH.nil
        go_simp
        refine hK.out _ _ ⟨(HG2.out.trans HG3.out).1.cell HC0.out.1 (by simp [Value.ownBlock]), (HG2.out.trans HG3.out).1.cell HC0.out.2.1 (by simp [Value.ownBlock])⟩ (fun hHeld => ?_)
        clear hK K
        refine wpAnyH_done (by kernel_rfl) ?_ _
        go_wp2_with fail
        go_meet
        exact ⟨HO2.out, grownBy_new (grownBy_new HG1.out HG2.out.1 (fun j hj => by simp [Value.ownBlock] at hj; omega)) HG3.out.1 (fun j hj => (HO1.out.base_ j hj).1), (HG2.out.trans HG3.out).1.cell HC0.out.2.2 (by simp [Value.ownBlock]), Grew.apart (HG2.out.trans HG3.out) (World.block_lt_of_cell? _ ⟨w.heap.size, 0, none⟩ HC0.out.1) (by simp [Value.ownBlock])⟩
      case rest =>
        obtain ⟨ho, hg, hc2, hne⟩ := hcut
        have HO := Lib.hid ho; have HG := Lib.hid hg; have HNE := Lib.hid hne; clear ho hg hne
        have hsz := HG.out.size
        go_wp2_with fail
        refine (filled_any w.heap.size _ 9 _ 12 _ HO.out hsz (by omega) (by omega)).mono ?_
        rintro e w2 ⟨v2, rfl, ho2, hg2⟩
        rw [fill_page] at ho2
        have HO2 := Lib.hid ho2
        have hlt := World.block_lt_of_cell? _ _ hc2
        have hc3 := hg2.1.cell hc2 (fun e => HNE.out e.symm)
        have HNE2 := Lib.hid (Grew.apart hg2 hlt HNE.out)
        have HG2 := Lib.hid (grownBy_new HG.out hg2.1 (fun j hj => (HO.out.base_ j hj).1))
        clear hc2 hg2 ho2
        have HL2 := Lib.hid (bytes_keepN HL.out HG2.out)
        have hsz2 := HG2.out.size
        go_wp2_with (at_builtin
                     refine wpList_append_own_full _ rfl (.tmp 39) (.tmp 42) _ rfl w.heap.size 5 i0 _ 1 1 Tryz.underlying38 hi.out z0.out z1.out z2.out rfl (by omega) v2 12 _ rfl HO2.out
                       _ A 240 c (u8s l) rfl HL2.out.reads (u8s_one l) (by simp only [maxLen]; omega) (by omega) hsz2 ?_
                     intro v3 w3 ho3 hg3
                     have HO3 := Lib.hid ho3
                     have HG3 := Lib.hid (grownBy_new HG2.out hg3.1 (fun j hj => (HO2.out.base_ j hj).1))
                     clear ho3 hg3)
        have ho4 := HO3.out
        rw [← u8s_append, show [80, 80, 65, 71] ++ (be 1 k ++ (be 4 m ++ [0, 0, 0])) ++ l = pageB m k l from by simp [pageB]] at ho4
        have HO4 := Lib.hid ho4; clear ho4
        have hsz3 := HG3.out.size
        refine (framed_any w.heap.size v3 252 (pageB m k l) _ HO4.out hsz3 (by omega) (pageB_lt _ _ _ HLT.out)).mono ?_
        rintro e w4 ⟨v4, rfl, ho5, hg5⟩
        have HO5 := Lib.hid ho5
        have HG5 := Lib.hid (grownBy_new HG3.out hg5.1 (fun j hj => (HO4.out.base_ j hj).1))
        clear ho5 hg5
        go_wp2
        go_ret2
        refine ⟨HG5.out, .inl ⟨_, v4, HY.out, rfl, ?_, frame_lt _ (pageB_lt _ _ _ HLT.out)⟩⟩
        rw [frame_length _ (by rw [pageB_len _ _ _ HLEN.out]; omega)]
        exact HO5.out
    · have HNO := Lib.hid (pageW_no4 (number := number) (kind := kind) (body := l) (by rw [HLEN.out]; exact h4))
      have HIB := Lib.hid hib; clear hib hl
      have hne : (((n : Nat) : Int) != 240) = true := by simp; omega
      go_enter Tryz.func126, Tryz.ntmps126
      go_wp2_with fail
      refine (in_any number _ _).mono ?_
      rintro e w2 ⟨rfl, rfl⟩
      rw [HIB.out]
      go_wp2
      go_ret2
      exact ⟨HG0.out, .inr ⟨HNO.out, rfl⟩⟩
end Go.Proofs.YteaokeiolgjhaaaGreat.Codec
/- The walk over the document's own answer for images of a log that are written: PutImage. -/
namespace Go.Proofs.YteaokeiolgjhaaaGreat.Codec
open Go.RowKit CrcMath CodecMath Mem Crc

theorem imageW_no1 {epoch seq number kind : Int} {body : List Nat} (h : pageW number kind body = none) : imageW epoch seq number kind body = none := by
  rw [imageW, if_neg (fun hh => ?_)]
  simp only [imageOk, Bool.and_eq_true] at hh
  rw [pageW, if_pos hh.1.1] at h
  cases h
theorem imageW_no2 {epoch seq number kind : Int} {body : List Nat} (h : inB epoch 4294967295 = false) : imageW epoch seq number kind body = none := by
  rw [imageW, if_neg (fun hh => by simp only [imageOk, Bool.and_eq_true] at hh; rw [h] at hh; cases hh.1.2)]
theorem imageW_no3 {epoch seq number kind : Int} {body : List Nat} (h : inB seq 1099511627775 = false) : imageW epoch seq number kind body = none := by
  rw [imageW, if_neg (fun hh => by simp only [imageOk, Bool.and_eq_true] at hh; rw [h] at hh; cases hh.2)]

set_option maxRecDepth 100000 in
set_option maxHeartbeats 1600000 in
theorem ref_put_image (b : Nat) (epoch seq number kind : Int) (A : Option Addr) (n c : Nat) (l : List Nat) (w : World) (hl : Bytes w b A n l) :
    Calls Tryz.prog 194 #[.int .i64 epoch, .int .i64 seq, .agg #[.int .i64 number, .int .i64 kind, .slice A n c]] w (Wrote w (imageW epoch seq number kind l)) := by
  have hg0 := World.grownBy_alloc w (.cells #[.int .i64 number, .int .i64 kind, .slice A n c] 109) none
  have HG0 := Lib.hid hg0; have HL0 := Lib.hid (bytes_keepN hl hg0)
  have HC0 := Lib.hid (Blk.new w 109 #[.int .i64 number, .int .i64 kind, .slice A n c])
  have HL := Lib.hid hl
  clear hg0 hl
  obtain ⟨i0, hi0, hz0, hz1, hz2⟩ := info_parts byte_info
  have hi := Lib.hid hi0; have z0 := Lib.hid hz0; have z1 := Lib.hid hz1; have z2 := Lib.hid hz2; clear hi0 hz0 hz1 hz2
  go_enter Tryz.func194, Tryz.ntmps194
  go_wp2_with fail
  refine (ref_put_page b number kind A n c l _ HL0.out).mono ?_
  rintro e w1 ⟨hg1, hW1⟩
  have HG1 := Lib.hid (HG0.out.trans hg1)
  have HC1 := Lib.hid (HC0.out.grown hg1 (by simp))
  have HL1 := Lib.hid (bytes_keepN HL0.out hg1)
  clear hg1 HG0 HC0 HL0
  rcases hW1 with ⟨m, v1, ho, rfl, _, _⟩ | ⟨ho, rfl⟩
  case inr =>
    have HNO := Lib.hid (imageW_no1 (epoch := epoch) (seq := seq) ho)
    clear ho
    go_wp2
    go_ret2
    exact ⟨HG1.out, .inr ⟨HNO.out, rfl⟩⟩
  obtain ⟨hpl, hok⟩ := pageW_some ho
  obtain ⟨⟨k1, k2⟩, ⟨n1, n2⟩, hb240, hlt⟩ := pageOk_iff hok
  have HOK := Lib.hid hok; have HB240 := Lib.hid hb240; have HLT := Lib.hid hlt
  have hn240 : n = 240 := by rw [← HL1.out.1]; exact hb240
  subst hn240
  clear ho hpl hok hb240 hlt
  cases hib : inB epoch 4294967295 with
  | false =>
    have HNO := Lib.hid (imageW_no2 (seq := seq) (number := number) (kind := kind) (body := l) hib)
    have HIB := Lib.hid hib; clear hib
    go_wp2_with fail
    refine (in_any epoch _ _).mono ?_
    rintro e w2 ⟨rfl, rfl⟩
    rw [HIB.out]
    go_wp2
    go_ret2
    exact ⟨HG1.out, .inr ⟨HNO.out, rfl⟩⟩
  | true =>
    cases hib' : inB seq 1099511627775 with
    | false =>
      have HNO := Lib.hid (imageW_no3 (epoch := epoch) (number := number) (kind := kind) (body := l) hib')
      have HIB := Lib.hid hib; have HIB' := Lib.hid hib'; clear hib hib'
      go_wp2_with fail
      refine (in_any epoch _ _).mono ?_
      rintro e w2 ⟨rfl, rfl⟩
      rw [HIB.out]
      go_wp2_with fail
      refine (in_any seq _ _).mono ?_
      rintro e w2 ⟨rfl, rfl⟩
      rw [HIB'.out]
      go_wp2
      go_ret2
      exact ⟨HG1.out, .inr ⟨HNO.out, rfl⟩⟩
    | true =>
      have hyes : imageW epoch seq number kind l = some (frame (imageB epoch seq number kind l)) := by
        rw [imageW, if_pos]
        simp only [imageOk, Bool.and_eq_true]
        exact ⟨⟨HOK.out, hib⟩, hib'⟩
      have HY := Lib.hid hyes; clear hyes
      obtain ⟨e0, e1⟩ := inB_yes hib
      obtain ⟨s0, s1⟩ := inB_yes hib'
      have HIB := Lib.hid hib; have HIB' := Lib.hid hib'; clear hib hib'
      obtain ⟨ep, rfl⟩ := Int.eq_ofNat_of_zero_le e0
      obtain ⟨sq, rfl⟩ := Int.eq_ofNat_of_zero_le s0
      obtain ⟨m', rfl⟩ := Int.eq_ofNat_of_zero_le n1
      obtain ⟨k, rfl⟩ := Int.eq_ofNat_of_zero_le (show (0 : Int) ≤ kind by omega)
      have HC1d := Lib.hid HC1.out.drew
      have HG1d := Lib.hid (HG1.out.trans (grown_drew _ none))
      go_upto_region 4 with (first
        | (go_at_call_of 157 (Value.int IntKind.i64 4294967295); refine (in_any (ep : Int) _ _).mono ?_; rintro e w2 ⟨rfl, rfl⟩; rw [HIB.out])
        | (go_at_call_of 157 (Value.int IntKind.i64 1099511627775); refine (in_any (sq : Int) _ _).mono ?_; rintro e w2 ⟨rfl, rfl⟩; rw [HIB'.out]))
      have hs0 : w1.drew.cell? ⟨w.heap.size, 0, none⟩ = some (.int .i64 m') := HC1d.out.cell 0
      have hs1 : w1.drew.cell? ⟨w.heap.size, 1, none⟩ = some (.int .i64 k) := HC1d.out.cell 1
      have HS01 := Lib.hid (And.intro hs0 hs1); clear hs0 hs1
      go_region_held3 (fun w' => w'.cell? ⟨w.heap.size, 0, none⟩ = some (.int .i64 m') ∧ w'.cell? ⟨w.heap.size, 1, none⟩ = some (.int .i64 k))
        (first
          | exact HS01.out
          | exact ⟨(HGa.out.trans HGb.out).1.cell (HC1d.out.cell 0) (by simp [Value.ownBlock]), (HGa.out.trans HGb.out).1.cell (HC1d.out.cell 1) (by simp [Value.ownBlock])⟩
          | exact ⟨HGa.out.1.cell (HC1d.out.cell 0) (by simp [Value.ownBlock]), HGa.out.1.cell (HC1d.out.cell 1) (by simp [Value.ownBlock])⟩
          | go_keep)
        (first
          | (go_at_call_of 158 (Value.slice none 0 0)
             refine (put_any w.heap.size (.slice none 0 0) 0 [] k 1 _ (Own.nil _ _ _ _) HG1d.out.size (by omega) (by omega)).mono ?_
             rintro e w2 ⟨v2, rfl, ho2, hg2⟩
             have HOa := Lib.hid ho2; have HGa := Lib.hid hg2
             clear ho2 hg2)
          | (go_at_call_of 158 v2
             refine (put_any w.heap.size v2 1 (be 1 k) m' 2 _ HOa.out (Nat.le_trans HG1d.out.size HGa.out.1.size) (by omega) (by omega)).mono ?_
             rintro e w3 ⟨v3, rfl, ho3, hg3⟩
             have HOb := Lib.hid ho3; have HGb := Lib.hid hg3
             clear ho3 hg3))
      have hg3 := (HGa.out.trans HGb.out)
      have HG3 := Lib.hid (grownBy_new HG1d.out hg3.1 (fun j hj => by simp [Value.ownBlock] at hj))
      have hc2 := hg3.1.cell (HC1d.out.cell 2) (by simp [Value.ownBlock])
      have HC2 := Lib.hid hc2
      have HNE3 := Lib.hid (Grew.apart hg3 HC1d.out.lt (by simp [Value.ownBlock]))
      clear hg3 hc2
      have hsz3 := HG3.out.size
      go_wp2_with fail
      refine (put_any w.heap.size v3 3 (be 1 k ++ be 2 m') ep 4 _ HOb.out hsz3 (by omega) (by omega)).mono ?_
      rintro e w4 ⟨v4, rfl, ho4, hg4⟩
      have HO4 := Lib.hid ho4; have HG4 := Lib.hid (grownBy_new HG3.out hg4.1 (fun j hj => (HOb.out.base_ j hj).1))
      have HGr4 := Lib.hid hg4
      clear ho4 hg4
      have hsz4 := HG4.out.size
      go_wp2_with fail
      refine (put_any w.heap.size v4 7 (be 1 k ++ be 2 m' ++ be 4 ep) sq 5 _ HO4.out hsz4 (by omega) (by omega)).mono ?_
      rintro e w5 ⟨v5, rfl, ho5, hg5⟩
      have HO5 := Lib.hid ho5; have HG5 := Lib.hid (grownBy_new HG4.out hg5.1 (fun j hj => (HO4.out.base_ j hj).1))
      have hgr5 := HGr4.out.trans hg5
      have hc5 := hgr5.1.cell HC2.out (fun e => HNE3.out e.symm)
      clear ho5 hg5 hgr5
      have HL5 := Lib.hid (bytes_keepN HL.out HG5.out)
      have hsz5 := HG5.out.size
      go_wp2_with (at_builtin
                   refine wpList_append_own_full _ rfl (.tmp 40) (.tmp 43) _ rfl w.heap.size 5 i0 _ 1 1 Tryz.underlying38 hi.out z0.out z1.out z2.out rfl (by omega) v5 12 _ rfl HO5.out
                     _ A 240 c (u8s l) rfl HL5.out.reads (u8s_one l) (by simp only [maxLen]; omega) (by omega) hsz5 ?_
                   intro v6 w6 ho6 hg6
                   have HO6 := Lib.hid ho6
                   have HG6 := Lib.hid (grownBy_new HG5.out hg6.1 (fun j hj => (HO5.out.base_ j hj).1))
                   clear ho6 hg6)
      have ho7 := HO6.out
      rw [← u8s_append, show be 1 k ++ be 2 m' ++ be 4 ep ++ be 5 sq ++ l = imageB ep sq m' k l from by simp [imageB]] at ho7
      have HO7 := Lib.hid ho7; clear ho7
      have hsz6 := HG6.out.size
      refine (framed_any w.heap.size v6 252 (imageB ep sq m' k l) _ HO7.out hsz6 (by omega) (imageB_lt _ _ _ _ _ HLT.out)).mono ?_
      rintro e w7 ⟨v7, rfl, ho8, hg8⟩
      have HO8 := Lib.hid ho8
      have HG8 := Lib.hid (grownBy_new HG6.out hg8.1 (fun j hj => (HO7.out.base_ j hj).1))
      clear ho8 hg8
      go_wp2
      go_ret2
      refine ⟨HG8.out, .inl ⟨_, v7, HY.out, rfl, ?_, frame_lt _ (imageB_lt _ _ _ _ _ HLT.out)⟩⟩
      rw [frame_length _ (by rw [imageB_len _ _ _ _ _ HB240.out]; omega)]
      exact HO8.out
end Go.Proofs.YteaokeiolgjhaaaGreat.Codec
