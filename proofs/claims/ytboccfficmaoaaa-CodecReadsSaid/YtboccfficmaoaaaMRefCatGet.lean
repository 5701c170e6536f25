/- The walk over the document's own answer for catalogues: GetCatalogue. -/
import Derived.Test.YtboccfficmaoaaaMCodecPageGet
namespace Go.Proofs.Ytboccfficmaoaaa.Codec
open Go.RowKit CrcMath CodecMath Mem Crc

set_option maxRecDepth 100000 in
set_option maxHeartbeats 3200000 in
theorem ref_get_catalogue (b : Nat) (A : Option Addr) (n c : Nat) (l : List Nat) (w : World) (hl : Bytes w b A n l) (hn : n ≤ 9223372036854775807) :
    Calls Try.prog 22 #[.slice A n c] w (SaidCat w (catR l)) := by
  obtain ⟨i0, hi0, hz0, hz1, hz2⟩ := info_parts int_info
  have hi := Lib.hid hi0; have z0 := Lib.hid hz0; have z1 := Lib.hid hz1; have z2 := Lib.hid hz2; clear hi0 hz0 hz1 hz2
  obtain ⟨i1, hi0, hz0, hz1, hz2⟩ := info_parts vol_info
  have vi := Lib.hid hi0; have y0 := Lib.hid hz0; have y1 := Lib.hid hz1; have y2 := Lib.hid hz2; clear hi0 hz0 hz1 hz2
  have hr : catR l = if catW (num l 0 4) (numsAt l 5 2 2 (min (num l 4 1) 8)) (volsN l) = some l then some ((num l 0 4 : Int), numsAt l 5 2 2 (min (num l 4 1) 8), volsN l) else none := rfl
  have HR := Lib.hid hr; clear hr
  have HLT := Lib.hid hl.2.1
  have hg0 := World.grownBy_alloc w (.cells #[.int .i64 0, .slice none 0 0, .slice none 0 0] 58) none
  have HL0 := Lib.hid (bytes_keepN hl hg0)
  have HL := Lib.hid hl; clear hl hg0
  have HW0 := Lib.hid (num_small l 0 4 HLT.out (by omega)).1
  have HW1 := Lib.hid (num_small l 4 1 HLT.out (by omega)).1
  have HZ := Lib.hid ((Blk.new w 58 #[.int .i64 0, .slice none 0 0, .slice none 0 0]))
  generalize catR l = r at *
  obtain ⟨nx, hnx⟩ : ∃ nx, num l 0 4 = nx := ⟨_, rfl⟩
  rw [hnx] at HR HW0
  have HNX := Lib.hid hnx; clear hnx
  obtain ⟨N, hN⟩ : ∃ N, N = min (num l 4 1) 8 := ⟨_, rfl⟩
  have HN := Lib.hid hN
  have hN8 : N ≤ 8 := by omega
  have hNx : N ≤ num l 4 1 := by omega
  have hNe : N = 8 ∨ N = num l 4 1 := by omega
  have HNE := Lib.hid hNe; have HNL := Lib.hid hNx
  clear hN hNe hNx
  obtain ⟨M, hM⟩ : ∃ M, num l 4 1 = M := ⟨_, rfl⟩
  rw [hM] at HNE HNL HW1 HN HR
  have HM := Lib.hid hM; clear hM
  go_enter Try.func22, Try.ntmps22
  go_wp2_with fail
  refine (number_any b A n c l 0 4 _ HL0.out (by omega)).mono ?_
  rintro e w1 ⟨rfl, rfl⟩
  rw [HNX.out, HW0.out]
  have hinit : Blk ((w.alloc (.cells #[.int .i64 0, .slice none 0 0, .slice none 0 0] 58)).alloc (.cells #[.int .i64 (nx : Nat), .slice none 0 0, .slice none 0 0] 58)) (w.heap.size + 1) 58 #[.int .i64 (nx : Nat), .slice none 0 0, .slice none 0 0] := by
    simpa using Blk.new (w.alloc (.cells #[.int .i64 0, .slice none 0 0, .slice none 0 0] 58)) 58 #[.int .i64 (nx : Nat), .slice none 0 0, .slice none 0 0]
  have HINIT := Lib.hid hinit; clear hinit
  go_wp2_with fail
  go_loopw [5] (fun i wr => ∃ (j : Nat) (sv : Value), j ≤ N ∧ i = .int .i64 j ∧ Blk wr (w.heap.size + 1) 58 #[.int .i64 (nx : Nat), .slice none 0 0, sv] ∧ Blk wr w.heap.size 58 #[.int .i64 0, .slice none 0 0, .slice none 0 0] ∧
      Own wr (w.heap.size + 2) 3 1 sv j (i64s (numsAt l 5 2 2 j)) ∧ w.grownBy wr none) (fun i _ => N - (intOf i).toNat)
  case atStart => exact ⟨0, _, by omega, rfl, HINIT.out, HZ.out.alloc _, Own.nil _ _ _ _, (World.grownBy_alloc w _ none).trans (World.grownBy_alloc _ _ none)⟩
  case round =>
    obtain ⟨j, sv, hj, rfl, hbk, hbz, hok, hg⟩ := hrel
    have HBK := Lib.hid hbk; have HBZ := Lib.hid hbz; have HOK := Lib.hid hok; have HG := Lib.hid hg
    have HLr := Lib.hid (bytes_keepN HL.out hg)
    clear hbk hbz hok hg
    by_cases hlt : j < N
    · have hx1 : (j : Int) < (M : Nat) := by have := HNL.out; omega
      have h8 : (j : Int) < 8 := by omega
      have hk2 := HBK.out.cell 2
      have hkl := HBK.out.lt
      have hkf := HBK.out.frozen 2
      have HW4 := Lib.hid (num_small l (5 + 2 * j) 2 HLT.out (by omega)).1
      simp only [List.getElem?_toArray, List.getElem?_cons_zero, List.getElem?_cons_succ] at hk2
      have wa := IntWalk.i64_in (2 * (j : Int)) (by omega)
      have wb := IntWalk.i64_in (5 + 2 * (j : Int)) (by omega)
      go_upto_region 5 with (go_at_call 41; refine (number_any b A n c l 4 1 _ HLr.out (by omega)).mono ?_; rintro e w2 ⟨rfl, rfl⟩; rw [HM.out, HW1.out])
      go_region_law (first
        | (refine step_append_own_full _ rfl (.tmp 24) (.tmp 30) _ rfl (w.heap.size + 2) 3 i0 _ 1 8 Try.underlying31 hi.out z0.out z1.out z2.out rfl (by omega) sv j _ (by simp [Act.eval]) (HOK.out.drew.alloc _)
             _ _ 1 1 _ (by simp [Act.eval]) (reads_one_int _ _) (fun u hu => by simp at hu; subst hu; rfl) (by simp only [maxLen]; omega) (by omega) (by have := HBK.out.lt; simp; omega) ?_
           intro v' w' hown' hgr'
           obtain ⟨A2, c2, hv2, _, _, _⟩ := hown'.shape
           subst hv2
           have hb1 := (HBK.out.drew.alloc _).grown hgr'.1 (fun e => by have := (HOK.out.base_ _ e.symm).1; omega)
           have hc1' := hb1.cell 2
           have hf1' := hb1.frozen 2
           simp only [List.getElem?_toArray, List.getElem?_cons_zero, List.getElem?_cons_succ] at hc1'
           have HB1' := Lib.hid hb1
           have HO' := Lib.hid hown'; have HGR' := Lib.hid hgr'; clear hown' hgr' hb1)
        | (go_simp
           go_at_call 41
           rw [show (5 + 2 * (j : Int)) = ((5 + 2 * j : Nat) : Int) from by omega]
           refine (number_any b A n c l (5 + 2 * j) 2 _ (bytes_drew HLr.out) (by omega)).mono ?_
           rintro e w2 ⟨rfl, rfl⟩
           rw [HW4.out]))
      all_goals
        clear wa wb
        go_wp2_with fail
        go_roundw
        case measure => simp [intOf]; omega
        case rel =>
          have hne1 : ∀ q, q < w.heap.size + 2 → some q ≠ sv.ownBlock := fun q hq e => by have := (HOK.out.base_ _ e.symm).1; omega
          refine ⟨j + 1, _, by omega, by go_num, HB1'.out.set_ 2 _, ((HBZ.out.drew.alloc _).grown HGR'.out.1 (hne1 _ (by omega))).far (by simp) _, ?_, ?_⟩
          · have h := Own.set_far (g := w.heap.size + 1) (i := 2) HO'.out (by omega) (Value.slice A2 (j + 1) c2)
            rw [numsAt_succ, i64s_append]
            exact h
          · exact grown_set (grownBy_new ((HG.out.trans (grown_drew _ none)).trans (World.grownBy_alloc _ _ none)) HGR'.out.1 (fun q hq => by have := (HOK.out.base_ q hq).1; omega)) (by omega) _
    · obtain rfl : N = j := by omega
      have hways : (¬ (N : Int) < (M : Nat)) ∨ ((N : Int) < (M : Nat) ∧ ¬ (N : Int) < 8) := by rcases HNE.out with h | h <;> omega
      have hkl := HBK.out.lt
      have HRK := Lib.hid (nums_range l 5 2 2 N HLT.out (by omega))
      obtain ⟨A5, c5, he5, _, _, _⟩ := own_ints HOK.out HRK.out
      subst he5
      rcases hways with hx | ⟨hx, h8⟩
      all_goals
        go_wp2_with fail
        refine (number_any b A n c l 4 1 _ HLr.out (by omega)).mono ?_
        rintro e w2 ⟨rfl, rfl⟩
        rw [HM.out, HW1.out]
        go_wp2_with fail
        clear hkl
        go_loopw [6, 7] (fun i _ wr => ∃ (j : Nat) (vv : Value), j ≤ 8 ∧ i = .int .i64 j ∧ Blk wr (w.heap.size + 1) 58 #[.int .i64 (nx : Nat), vv, .slice A5 N c5] ∧ Blk wr w.heap.size 58 #[.int .i64 0, .slice none 0 0, .slice none 0 0] ∧
          Own wr (w.heap.size + 2) 3 1 (.slice A5 N c5) N (i64s (numsAt l 5 2 2 N)) ∧ Own wr (w.heap.size + 2) 121 6 vv j (i64s (volsT l j)) ∧ (∀ g, vv.ownBlock = some g → (Value.slice A5 N c5).ownBlock ≠ some g) ∧ w.grownBy wr none) (fun i _ _ => 8 - (intOf i).toNat)
        case atStart => exact ⟨0, _, by omega, rfl, HBK.out, HBZ.out, HOK.out, Own.nil _ _ _ _, fun g hg => by simp [Value.ownBlock] at hg, HG.out⟩
        case round =>
          obtain ⟨j, vv, hj, rfl, hbk, hbz, hok, hov, hap, hg⟩ := hrel
          have VBK := Lib.hid hbk; have VBZ := Lib.hid hbz; have VOK := Lib.hid hok; have VOV := Lib.hid hov; have VAP := Lib.hid hap; have VG := Lib.hid hg
          have VL := Lib.hid (bytes_keepN HL.out hg)
          clear hbk hbz hok hov hap hg
          by_cases hlt : j < 8
          · have hk1 := VBK.out.cell 1
            have hkl := VBK.out.lt
            have hkf := VBK.out.frozen 1
            simp only [List.getElem?_toArray, List.getElem?_cons_zero, List.getElem?_cons_succ] at hk1
            have wa := IntWalk.i64_in (19 * (j : Int)) (by omega)
            have wb := IntWalk.i64_in (21 + 19 * (j : Int)) (by omega)
            have HVS := Lib.hid (show i64s (volsT l (j + 1)) = i64s (volsT l j) ++ [.int .i64 (num l (21 + 19 * j) 4 : Nat), .int .i64 (num l (21 + 19 * j + 4) 1 : Nat), .int .i64 (num l (21 + 19 * j + 5) 4 : Nat), .int .i64 (num l (21 + 19 * j + 9) 4 : Nat), .int .i64 (num l (21 + 19 * j + 13) 2 : Nat), .int .i64 (num l (21 + 19 * j + 15) 4 : Nat)] by rw [volsT_succ, i64s_append]; rfl)
            obtain ⟨at_, hat⟩ : ∃ q : Nat, 21 + 19 * j = q := ⟨_, rfl⟩
            have hat' : 21 + 19 * (j : Int) = ((at_ : Nat) : Int) := by omega
            have HAT := Lib.hid hat'
            rw [hat] at HVS
            have hat9 : at_ ≤ 200 := by omega
            have HQ0 := Lib.hid (num_small l at_ 4 HLT.out (by omega)).1
            have HQ1 := Lib.hid (num_small l (at_ + 4) 1 HLT.out (by omega)).1
            have HQ2 := Lib.hid (num_small l (at_ + 5) 4 HLT.out (by omega)).1
            have HQ3 := Lib.hid (num_small l (at_ + 9) 4 HLT.out (by omega)).1
            have HQ4 := Lib.hid (num_small l (at_ + 13) 2 HLT.out (by omega)).1
            have HQ5 := Lib.hid (num_small l (at_ + 15) 4 HLT.out (by omega)).1
            clear hat hat'
            go_upto_region 10 with fail
            rw [HAT.out]
            clear wa wb
            have we4 := IntWalk.i64_in (((at_ : Nat) : Int) + 4) (by omega)
            have we5 := IntWalk.i64_in (((at_ : Nat) : Int) + 5) (by omega)
            have we9 := IntWalk.i64_in (((at_ : Nat) : Int) + 9) (by omega)
            have we13 := IntWalk.i64_in (((at_ : Nat) : Int) + 13) (by omega)
            have we15 := IntWalk.i64_in (((at_ : Nat) : Int) + 15) (by omega)
            have HC0 := Lib.hid (show Calls Try.prog 41 #[.slice A n c, .int .i64 ((at_ : Nat) : Int), .int .i64 4] wr.drew (fun e w'' => e = .returned (.int .i64 (num l at_ 4 : Nat)) ∧ w'' = wr.drew) from by
              exact (number_any b A n c l at_ 4 _ (bytes_drew VL.out) (by omega)).mono (fun e w' h => ⟨by rw [h.1, HQ0.out], h.2.symm⟩))
            have HC1 := Lib.hid (show Calls Try.prog 41 #[.slice A n c, .int .i64 (((at_ : Nat) : Int) + 4), .int .i64 1] wr.drew (fun e w'' => e = .returned (.int .i64 (num l (at_ + 4) 1 : Nat)) ∧ w'' = wr.drew) from by
              rw [show ((at_ : Nat) : Int) + 4 = ((at_ + 4 : Nat) : Int) from by omega]
              exact (number_any b A n c l (at_ + 4) 1 _ (bytes_drew VL.out) (by omega)).mono (fun e w' h => ⟨by rw [h.1, HQ1.out], h.2.symm⟩))
            have HC2 := Lib.hid (show Calls Try.prog 41 #[.slice A n c, .int .i64 (((at_ : Nat) : Int) + 5), .int .i64 4] wr.drew (fun e w'' => e = .returned (.int .i64 (num l (at_ + 5) 4 : Nat)) ∧ w'' = wr.drew) from by
              rw [show ((at_ : Nat) : Int) + 5 = ((at_ + 5 : Nat) : Int) from by omega]
              exact (number_any b A n c l (at_ + 5) 4 _ (bytes_drew VL.out) (by omega)).mono (fun e w' h => ⟨by rw [h.1, HQ2.out], h.2.symm⟩))
            have HC3 := Lib.hid (show Calls Try.prog 41 #[.slice A n c, .int .i64 (((at_ : Nat) : Int) + 9), .int .i64 4] wr.drew (fun e w'' => e = .returned (.int .i64 (num l (at_ + 9) 4 : Nat)) ∧ w'' = wr.drew) from by
              rw [show ((at_ : Nat) : Int) + 9 = ((at_ + 9 : Nat) : Int) from by omega]
              exact (number_any b A n c l (at_ + 9) 4 _ (bytes_drew VL.out) (by omega)).mono (fun e w' h => ⟨by rw [h.1, HQ3.out], h.2.symm⟩))
            have HC4 := Lib.hid (show Calls Try.prog 41 #[.slice A n c, .int .i64 (((at_ : Nat) : Int) + 13), .int .i64 2] wr.drew (fun e w'' => e = .returned (.int .i64 (num l (at_ + 13) 2 : Nat)) ∧ w'' = wr.drew) from by
              rw [show ((at_ : Nat) : Int) + 13 = ((at_ + 13 : Nat) : Int) from by omega]
              exact (number_any b A n c l (at_ + 13) 2 _ (bytes_drew VL.out) (by omega)).mono (fun e w' h => ⟨by rw [h.1, HQ4.out], h.2.symm⟩))
            have HC5 := Lib.hid (show Calls Try.prog 41 #[.slice A n c, .int .i64 (((at_ : Nat) : Int) + 15), .int .i64 4] wr.drew (fun e w'' => e = .returned (.int .i64 (num l (at_ + 15) 4 : Nat)) ∧ w'' = wr.drew) from by
              rw [show ((at_ : Nat) : Int) + 15 = ((at_ + 15 : Nat) : Int) from by omega]
              exact (number_any b A n c l (at_ + 15) 4 _ (bytes_drew VL.out) (by omega)).mono (fun e w' h => ⟨by rw [h.1, HQ5.out], h.2.symm⟩))
            go_region_law (first
              | (refine step_append_own_full _ rfl (.tmp 41) (.tmp 66) _ rfl (w.heap.size + 2) 121 i1 _ 6 48 Try.underlying56 vi.out y0.out y1.out y2.out rfl (by omega) vv j _ (by simp [Act.eval]) (VOV.out.drew.alloc _)
                   _ _ 1 1 _ (by simp [Act.eval]) (reads_one_vol _ _ _ _ _ _ _) (fun u hu => by simp at hu; rcases hu with rfl | rfl | rfl | rfl | rfl | rfl <;> rfl) (by simp only [maxLen]; omega) (by omega) (by have := VBK.out.lt; simp; omega) ?_
                 intro v' w' hown' hgr'
                 obtain ⟨A2, c2, hv2, _, _, _⟩ := hown'.shape
                 subst hv2
                 have hb1 := (VBK.out.drew.alloc _).grown hgr'.1 (fun e => by have := (VOV.out.base_ _ e.symm).1; omega)
                 have hc1' := hb1.cell 1
                 have hf1' := hb1.frozen 1
                 simp only [List.getElem?_toArray, List.getElem?_cons_zero, List.getElem?_cons_succ] at hc1'
                 have HB1' := Lib.hid hb1
                 have HO' := Lib.hid hown'; have HGR' := Lib.hid hgr'; clear hown' hgr' hb1)
              | (go_simp
                 go_at_call 41
                 with_reducible refine HC0.out.mono ?_
                 rintro e w2 ⟨rfl, rfl⟩)
              | (go_simp
                 go_at_call 41
                 with_reducible refine HC1.out.mono ?_
                 rintro e w2 ⟨rfl, rfl⟩)
              | (go_simp
                 go_at_call 41
                 with_reducible refine HC2.out.mono ?_
                 rintro e w2 ⟨rfl, rfl⟩)
              | (go_simp
                 go_at_call 41
                 with_reducible refine HC3.out.mono ?_
                 rintro e w2 ⟨rfl, rfl⟩)
              | (go_simp
                 go_at_call 41
                 with_reducible refine HC4.out.mono ?_
                 rintro e w2 ⟨rfl, rfl⟩)
              | (go_simp
                 go_at_call 41
                 with_reducible refine HC5.out.mono ?_
                 rintro e w2 ⟨rfl, rfl⟩))
            all_goals
              clear we4 we5 we9 we13 we15 HC0 HC1 HC2 HC3 HC4 HC5
              go_wp2_with fail
              go_roundw
              case measure => simp [intOf]; omega
              case rel =>
                have hne1 : ∀ q, q < w.heap.size + 2 → some q ≠ vv.ownBlock := fun q hq e => by have := (VOV.out.base_ _ e.symm).1; omega
                refine ⟨j + 1, _, by omega, by go_num, HB1'.out.set_ 1 _, ((VBZ.out.drew.alloc _).grown HGR'.out.1 (hne1 _ (by omega))).far (by simp) _, ?_, ?_, ?_, ?_⟩
                · exact Own.set_far ((VOK.out.drew.alloc _).keep HGR'.out.1 (fun q hq e => VAP.out q e hq)) (by omega) _
                · have h := Own.set_far (g := w.heap.size + 1) (i := 1) HO'.out (by omega) (Value.slice A2 (j + 1) c2)
                  rw [HVS.out]
                  exact h
                · intro q hq hv
                  rcases HGR'.out.2 q hq with h | h
                  · exact VAP.out q h hv
                  · have := (VOK.out.base_ q hv).2; simp at h; omega
                · exact grown_set (grownBy_new ((VG.out.trans (grown_drew _ none)).trans (World.grownBy_alloc _ _ none)) HGR'.out.1 (fun q hq => by have := (VOV.out.base_ q hq).1; omega)) (by omega) _
          · obtain rfl : j = 8 := by omega
            have hov := VOV.out
            rw [volsT_all] at hov
            have HRV := Lib.hid (show ∀ x ∈ volsN l, -9223372036854775808 ≤ x ∧ x ≤ 9223372036854775807 from volsT_range l 8 HLT.out)
            obtain ⟨AV, cv, rfl, hiv, _, _⟩ := own_vols hov HRV.out
            obtain ⟨_, _, e5, his, _, _⟩ := own_ints VOK.out HRK.out
            injection e5 with e5a _ e5c
            subst e5a e5c
            have HIV := Lib.hid hiv; have HIS := Lib.hid his; have HOV := Lib.hid hov
            have hk0 := VBK.out.cell 0; have hk1 := VBK.out.cell 1; have hk2 := VBK.out.cell 2
            have hkl := VBK.out.lt
            simp only [List.getElem?_toArray, List.getElem?_cons_zero, List.getElem?_cons_succ] at hk0 hk1 hk2
            have h8n : ¬ ((8 : Nat) : Int) < 8 := by omega
            clear hiv his hov hlt hj
            go_wp2_with fail
            refine (ref_put_catalogue _ (nx : Nat) AV _ 8 cv N _ (numsAt l 5 2 2 N) (volsN l) _ HIS.out HIV.out (by omega)).mono ?_
            rintro e w3 ⟨hg3, ⟨l', v3, ho3, rfl, hown3, hlt3⟩ | ⟨ho3, rfl⟩⟩
            · obtain ⟨A3, c3, rfl, hb3, _, hm3⟩ := own_bytes hown3 hlt3
              have hl3 : l'.length ≤ 9223372036854775807 := by simp only [maxLen] at hm3; omega
              have HB3 := Lib.hid hb3; have HO3 := Lib.hid ho3
              have HL3 := Lib.hid (bytes_keepN VL.out hg3); have HG3 := Lib.hid (VG.out.trans hg3)
              have HBK3 := Lib.hid (VBK.out.grown hg3 (by simp)); have HBZ3 := Lib.hid (VBZ.out.grown hg3 (by simp))
              have HOK3 := Lib.hid (VOK.out.keep hg3 (by simp)); have HOV3 := Lib.hid (HOV.out.keep hg3 (by simp))
              clear hb3 ho3 hown3 hg3 hk0 hk1 hk2 hkl
              cases hd : decide (l' = l) with
              | true =>
                have HD := Lib.hid hd; clear hd
                go_wp2_with fail
                refine (same_any _ _ A3 A _ n c3 c l' l _ HB3.out HL3.out hl3 hn).mono ?_
                rintro e w4 ⟨rfl, hdr⟩
                have hg4 := drawn_grown hdr none
                have HG4 := Lib.hid (HG3.out.trans hg4)
                have HBZ4 := Lib.hid (HBZ3.out.grown hg4 (by simp))
                have HOK4 := Lib.hid (HOK3.out.keep hg4 (by simp)); have HOV4 := Lib.hid (HOV3.out.keep hg4 (by simp))
                have hbk4 := HBK3.out.grown hg4 (by simp)
                have hk0 := hbk4.cell 0; have hk1 := hbk4.cell 1; have hk2 := hbk4.cell 2
                have hkl := hbk4.lt
                have hzz0 := HBZ4.out.cell 0; have hzz1 := HBZ4.out.cell 1; have hzz2 := HBZ4.out.cell 2
                have hzf0 := HBZ4.out.frozen 0; have hzf1 := HBZ4.out.frozen 1; have hzf2 := HBZ4.out.frozen 2
                simp only [List.getElem?_toArray, List.getElem?_cons_zero, List.getElem?_cons_succ] at hk0 hk1 hk2 hzz0 hzz1 hzz2
                clear hdr hg4 hbk4
                rw [HD.out]
                go_wp2_with fail
                refine ret_row2 rfl w.heap.size 58 _ _ rfl (Blk.set3 HBZ4.out) Try.underlying58 rfl (by kernel_rfl) rfl ⟨?_, .inl ⟨(nx : Int), numsAt l 5 2 2 N, volsN l, _, _, ?_, rfl, ?_, ?_, HRV.out, HRK.out⟩⟩
                · repeat (refine grown_set ?_ (Nat.le_refl _) _)
                  exact HG4.out
                · have hl := of_decide_eq_true HD.out
                  subst hl
                  rw [HR.out, ← HN.out, if_pos HO3.out]
                · exact (Own.set_far (Own.set_far (Own.set_far HOV4.out (by omega) _) (by omega) _) (by omega) _).low (by omega)
                · rw [numsAt_length]
                  exact (Own.set_far (Own.set_far (Own.set_far HOK4.out (by omega) _) (by omega) _) (by omega) _).low (by omega)
              | false =>
                have HD := Lib.hid hd; clear hd
                go_wp2_with fail
                refine (same_any _ _ A3 A _ n c3 c l' l _ HB3.out HL3.out hl3 hn).mono ?_
                rintro e w4 ⟨rfl, hdr⟩
                have hg4 := drawn_grown hdr none
                have HG4 := Lib.hid (HG3.out.trans hg4)
                have HBZ4 := Lib.hid (HBZ3.out.grown hg4 (by simp))
                have hzz0 := HBZ4.out.cell 0; have hzz1 := HBZ4.out.cell 1; have hzz2 := HBZ4.out.cell 2
                have hzf0 := HBZ4.out.frozen 0; have hzf1 := HBZ4.out.frozen 1; have hzf2 := HBZ4.out.frozen 2
                simp only [List.getElem?_toArray, List.getElem?_cons_zero, List.getElem?_cons_succ] at hzz0 hzz1 hzz2
                clear hdr hg4
                rw [HD.out]
                go_wp2_with fail
                refine ret_row2 rfl w.heap.size 58 _ _ rfl (Blk.set3 HBZ4.out) Try.underlying58 rfl (by kernel_rfl) rfl ⟨?_, .inr ⟨?_, rfl⟩⟩
                · repeat (refine grown_set ?_ (Nat.le_refl _) _)
                  exact HG4.out
                · have hl := of_decide_eq_false HD.out
                  rw [HR.out, ← HN.out, if_neg (by rw [HO3.out]; simpa using hl)]
            · have HG3 := Lib.hid (VG.out.trans hg3); have HO3 := Lib.hid ho3
              have HBZ4 := Lib.hid (VBZ.out.grown hg3 (by simp))
              have hzz0 := HBZ4.out.cell 0; have hzz1 := HBZ4.out.cell 1; have hzz2 := HBZ4.out.cell 2
              have hzf0 := HBZ4.out.frozen 0; have hzf1 := HBZ4.out.frozen 1; have hzf2 := HBZ4.out.frozen 2
              simp only [List.getElem?_toArray, List.getElem?_cons_zero, List.getElem?_cons_succ] at hzz0 hzz1 hzz2
              clear hg3 ho3 hk0 hk1 hk2 hkl
              go_wp2_with fail
              refine ret_row2 rfl w.heap.size 58 _ _ rfl (Blk.set3 HBZ4.out) Try.underlying58 rfl (by kernel_rfl) rfl ⟨?_, .inr ⟨?_, rfl⟩⟩
              · repeat (refine grown_set ?_ (Nat.le_refl _) _)
                exact HG3.out
              · rw [HR.out, ← HN.out, if_neg (by rw [HO3.out]; simp)]
end Go.Proofs.Ytboccfficmaoaaa.Codec
