/- Shared texts of this seat's proofs: SupLoad2, SupPlain, SupKnown, OpenOps, SupOpen, SupRefChk. -/
import Derived.Test.YtagikgejhckfbaaB7
import Derived.Laws.StructEq
import Derived.Deep.Fields
import Derived.ChangeArms
import Derived.ChangeSlices
import Derived.WideShapes
import Derived.OpenShut
/- Load of package super: both sectors read. -/
namespace Go.Proofs.Ytagikgejhckfbaa.Sup
open Go.RowKit CrcMath CodecMath Mem Crc Codec DiskSpec Dsk

set_option maxRecDepth 100000 in
set_option maxHeartbeats 3200000 in
theorem load_good {w : World} {B b tb : Nat} {S : St} {own : Nat → Prop} (h : SAt w B b tb S own) (h2 : ¬ S.n < 2) (hbad : ¬ ((readE S 0 1).1 ≠ 0 ∨ (readE (readE S 0 1).2 1 1).1 ≠ 0)) :
    Calls Try.prog 13 #[.pointer (some ⟨b, 0, none⟩), .pointer (some ⟨tb, 0, none⟩)] w fun e w' =>
      e = .returned (.tuple #[supV (loadV S), .int .i64 (loadE S)]) ∧ SAt w' B b tb (loadT S) own ∧ Turn w w' (With own tb) (With own tb) := by
  have hg0 := World.grownBy_alloc w (.cells #[.int .i64 0, .int .i64 0, .int .i64 0, .int .i64 0, .int .i64 0, .int .i64 0, .int .i64 0] 23) none
  have hl : ∀ i, own i → i < w.heap.size := fun i hi => h.own_lt hi
  have hlt := tab_lt h.t
  have HL := Lib.hid hl; have HLT := Lib.hid hlt
  have hR := Blk.new w 23 #[.int .i64 0, .int .i64 0, .int .i64 0, .int .i64 0, .int .i64 0, .int .i64 0, .int .i64 0]
  have H0 := Lib.hid (h.quiet hg0)
  have HT0 := Lib.hid (Turn.none_ (own := With own tb) hg0)
  have HSZ := Lib.hid (h.quiet hg0).size
  have HR := Lib.hid hR
  clear hg0 hl hlt
  have hn2 : 2 ≤ S.n := by omega
  have hd2 : decide ((S.n : Int) < 2) = false := by simp; omega
  have HB := Lib.hid (readboth_any H0.out.d hn2)
  have hbe := bothE_two hn2
  have HEV := Lib.hid (show loadE S = if (readE S 0 1).1 ≠ 0 ∨ (readE (readE S 0 1).2 1 1).1 ≠ 0 then 10 else if (bestOf S.n (readL S 0 1) (readL (readE S 0 1).2 1 1)).isSome then 0 else 14 by unfold loadE; rw [if_neg h2])
  have HVV := Lib.hid (show loadV S = if (readE S 0 1).1 ≠ 0 ∨ (readE (readE S 0 1).2 1 1).1 ≠ 0 then zero7' else (bestOf S.n (readL S 0 1) (readL (readE S 0 1).2 1 1)).getD zero7' by unfold loadV; rw [if_neg h2])
  have HTT := Lib.hid (show loadT S = loadS S by unfold loadT; rw [if_neg h2])
  have hb0 := readL_lt' h.ok 0 1
  have hb1 := readL_lt' (readE_ok h.ok 0 1) 1 1
  have HN2 := Lib.hid (show (loadS S).n = S.n by unfold loadS; rw [readE_n, readE_n])
  have HL0 := Lib.hid hb0; have HL1 := Lib.hid hb1
  clear hb0 hb1 hn2 h2 h
  generalize bothE S = EE at *
  generalize loadE S = LE at *
  generalize loadV S = LV at *
  generalize loadT S = LT at *
  generalize loadS S = S2 at *
  generalize readL S 0 1 = l0 at *
  generalize readL (readE S 0 1).2 1 1 = l1 at *
  rw [if_neg hbad] at hbe HEV HVV
  clear hbad
  subst hbe
  generalize hnn : (S.n : Int) = n at *
  have HNN := Lib.hid (show (S2.n : Int) = n by rw [HN2.out]; exact hnn)
  clear hnn
  go_enter Try.func13, Try.ntmps13
  go_wp2_with fail
  refine HSZ.out.mono ?_
  rintro e w1 ⟨rfl, rfl⟩
  go_wp2_with fail
  refine HB.out.mono ?_
  rintro e w3 ⟨v0, v1, rfl, hv0, hv1, hd, ht⟩
  obtain ⟨A0, n0, c0, rfl⟩ := gave_shape hv0
  obtain ⟨A1, n1, c1, rfl⟩ := gave_shape hv1
  obtain HTT' := HTT.out
  subst HTT'
  have hR3 : Blk w3 w.heap.size 23 #[.int .i64 0, .int .i64 0, .int .i64 0, .int .i64 0, .int .i64 0, .int .i64 0, .int .i64 0] := blk_of_block HR.out (ht.block _ HR.out.lt (fun ho => by have := HL.out _ ho; omega))
  have hsz3 := ht.size
  rw [World.size_alloc] at hsz3 hv0 hv1
  have hown : ∀ v l, Gave8 w3 (w.heap.size + 1) v l → ∀ g, v.ownBlock = some g → g < w3.heap.size := by
    intro v l hg g hv
    rcases hg with ⟨rfl, _⟩ | ⟨g', cap, rfl, _, hbk⟩
    · cases hv
    · have := hbk.lt
      simp [Value.ownBlock] at hv
      omega
  have hld3 : LD w w3 own B b tb LT (.slice A0 n0 c0) (.slice A1 n1 c1) l0 l1 w3.heap.size :=
    ⟨H0.out.disk hd ht, HT0.out.trans (turn_with ht tb), hR3, hv0, hv1, hown _ _ hv0, hown _ _ hv1⟩
  have HLD := Lib.hid ((hld3.quiet (World.grownBy_alloc w3 (.cells #[.slice A0 n0 c0, .slice A1 n1 c1] 75) none)).quiet (World.grownBy_alloc _ (.cells #[.int .i64 0, .int .i64 0, .int .i64 0, .int .i64 0, .int .i64 0, .int .i64 0, .int .i64 0] 23) none))
  have HX := Lib.hid (show Blk ((w3.alloc (.cells #[.slice A0 n0 c0, .slice A1 n1 c1] 75)).alloc (.cells #[.int .i64 0, .int .i64 0, .int .i64 0, .int .i64 0, .int .i64 0, .int .i64 0, .int .i64 0] 23)) (w3.heap.size + 1) 23 (cells7 ((seen n l0 l1 0).getD zero7)) from (show Blk ((w3.alloc (.cells #[.slice A0 n0 c0, .slice A1 n1 c1] 75)).alloc (.cells #[.int .i64 0, .int .i64 0, .int .i64 0, .int .i64 0, .int .i64 0, .int .i64 0, .int .i64 0] 23)) (w3.heap.size + 1) 23 #[.int .i64 0, .int .i64 0, .int .i64 0, .int .i64 0, .int .i64 0, .int .i64 0, .int .i64 0] by simpa using Blk.new (w3.alloc (.cells #[.slice A0 n0 c0, .slice A1 n1 c1] 75)) 23 #[.int .i64 0, .int .i64 0, .int .i64 0, .int .i64 0, .int .i64 0, .int .i64 0, .int .i64 0]))
  have HSZ3 := Lib.hid hsz3
  have HBST := Lib.hid (seen_two n l0 l1)
  clear hR hd ht hR3 hv0 hv1 hown hld3 hsz3 HSZ HB
  go_wp2_with fail
  generalize hTT : w3.heap.size = T at *
  clear hTT
  go_loopw [9, 10, 11, 12, 13, 14, 37] (fun fo _ _ _ _ _ i wr => ∃ j : Nat, j ≤ 2 ∧ i = .int .i64 j ∧ fo = .bool (seen n l0 l1 j).isSome ∧ LD w wr own B b tb LT (.slice A0 n0 c0) (.slice A1 n1 c1) l0 l1 T ∧ Blk wr (T + 1) 23 (cells7 ((seen n l0 l1 j).getD zero7))) (fun _ _ _ _ _ _ i _ => 2 - (Go.RowKit.intOf i).toNat)
  case atStart => exact ⟨0, by omega, rfl, rfl, HLD.out, HX.out⟩
  case round =>
    clear HLD HX
    obtain ⟨j, hj, rfl, rfl, hld, hx⟩ := hrel
    by_cases hlt : j < 2
    · have hstep := seen_succ n l0 l1 j
      have hslen := seen_len n l0 l1 j
      have hpick : ∃ A m c l, (Instr.index 75 (.agg #[.slice A0 n0 c0, .slice A1 n1 c1]) (.int .i64 j)).run Try.prog wr = .ok (.slice A m c) wr ∧ Gave8 wr (w.heap.size + 1) (.slice A m c) l ∧ (∀ x ∈ l, x < 256) ∧ (if j = 0 then l0 else l1) = l := by
        have hi := index2 A0 A1 n0 c0 n1 c1 j hlt wr
        by_cases hj0 : j = 0
        · rw [if_pos hj0] at hi ⊢
          exact ⟨_, _, _, _, hi, hld.g0, HL0.out, rfl⟩
        · rw [if_neg hj0] at hi ⊢
          exact ⟨_, _, _, _, hi, hld.g1, HL1.out, rfl⟩
      obtain ⟨A, m, c, l, hix, hgv, hl256, hif⟩ := hpick
      rw [hif] at hstep
      have hby := bytes_gave (tb := tb) hgv hl256 (by have := HLT.out; omega)
      have HSTEP := Lib.hid hstep; have HBY := Lib.hid hby; have HLD := Lib.hid hld; have HX := Lib.hid hx; have HSL := Lib.hid hslen
      clear hstep hgv hl256 hif hby hld hx hslen
      generalize ho1 : seen n l0 l1 (j + 1) = o' at *
      have HO1 := Lib.hid ho1; clear ho1
      generalize seen n l0 l1 j = o at *
      go_wp2_with fail
      clear hix
      refine (codec_get_super_core tb (some tb) A m c l _ (.inr ⟨HLD.out.s.t, rfl⟩) HBY.out).mono ?_
      rintro e w5 ⟨hg5, ht5, rfl⟩
      have HLD5 := Lib.hid (HLD.out.table hg5 ht5 HLT.out)
      have HX5 := Lib.hid (HX.out.grown hg5 (by have := HLT.out; have := HSZ3.out; simp; omega))
      clear hg5 ht5 HBY HLD HX
      cases hsr : superR l with
      | none =>
        have HO := Lib.hid (show o' = o by rw [HSTEP.out, sound_no hsr, newer_none])
        rw [show supV ((none : Option (List Int)).getD zero7) = .agg #[.int .i64 0, .int .i64 0, .int .i64 0, .int .i64 0, .int .i64 0, .int .i64 0, .int .i64 0] from rfl, show (none : Option (List Int)).isSome = false from rfl]
        clear hsr HSTEP
        have hga := World.grownBy_alloc w5 (.cells #[.int .i64 0, .int .i64 0, .int .i64 0, .int .i64 0, .int .i64 0, .int .i64 0, .int .i64 0] 23) none
        have HLD6 := Lib.hid (HLD5.out.quiet hga); have HX6 := Lib.hid (HX5.out.grown hga (by simp))
        clear hga HLD5 HX5
        go_wp2_with fail
        go_quiet (fail)
        go_wp2
        go_roundw
        case rel => exact ⟨j + 1, by omega, by go_num, by rw [HO1.out, HO.out], HLD6.out.quiet (grown_drewN (World.grownBy.refl _ _) _), by rw [HO1.out, HO.out]; exact HX6.out.drewN _⟩
        case measure => simp [Go.RowKit.intOf]; omega
      | some uu =>
        obtain ⟨u0, u1, u2, u3, u4, u5, u6, rfl⟩ := list7 (superR_some hsr).2
        rw [show supV ((some [u0, u1, u2, u3, u4, u5, u6]).getD zero7) = .agg #[.int .i64 u0, .int .i64 u1, .int .i64 u2, .int .i64 u3, .int .i64 u4, .int .i64 u5, .int .i64 u6] from rfl, show (some ([u0, u1, u2, u3, u4, u5, u6] : List Int)).isSome = true from rfl]
        have hso := sound_yes (n := n) (i := (j : Int)) hsr
        have hba := World.grownBy_alloc w5 (.cells #[.int .i64 u0, .int .i64 u1, .int .i64 u2, .int .i64 u3, .int .i64 u4, .int .i64 u5, .int .i64 u6] 23) none
        have HLD6 := Lib.hid (HLD5.out.quiet hba); have HX6 := Lib.hid (HX5.out.grown hba (by simp))
        have hbu := Blk.new w5 23 #[.int .i64 u0, .int .i64 u1, .int .i64 u2, .int .i64 u3, .int .i64 u4, .int .i64 u5, .int .i64 u6]
        have hkeep : ∀ wx, (w5.alloc (.cells #[.int .i64 u0, .int .i64 u1, .int .i64 u2, .int .i64 u3, .int .i64 u4, .int .i64 u5, .int .i64 u6] 23)).grownBy wx none → wx.cell? ⟨w5.heap.size, 0, none⟩ = some (.int .i64 u0) ∧ wx.cell? ⟨w5.heap.size, 1, none⟩ = some (.int .i64 u1) ∧ wx.cell? ⟨w5.heap.size, 2, none⟩ = some (.int .i64 u2) ∧ wx.cell? ⟨w5.heap.size, 3, none⟩ = some (.int .i64 u3) ∧ wx.cell? ⟨w5.heap.size, 4, none⟩ = some (.int .i64 u4) ∧ wx.cell? ⟨w5.heap.size, 5, none⟩ = some (.int .i64 u5) ∧ wx.cell? ⟨w5.heap.size, 6, none⟩ = some (.int .i64 u6) := by
          intro wx hg
          have hb := hbu.grown hg (by simp)
          exact ⟨by rw [hb.cell]; rfl, by rw [hb.cell]; rfl, by rw [hb.cell]; rfl, by rw [hb.cell]; rfl, by rw [hb.cell]; rfl, by rw [hb.cell]; rfl, by rw [hb.cell]; rfl⟩
        have HKEEP := Lib.hid hkeep; have HBU := Lib.hid hbu
        have HSZ := Lib.hid (fun wx (hg : (w5.alloc (.cells #[.int .i64 u0, .int .i64 u1, .int .i64 u2, .int .i64 u3, .int .i64 u4, .int .i64 u5, .int .i64 u6] 23)).grownBy wx none) => (HLD6.out.s.quiet hg).size)
        have HD0 := Lib.hid (grown_drew (w5.alloc (.cells #[.int .i64 u0, .int .i64 u1, .int .i64 u2, .int .i64 u3, .int .i64 u4, .int .i64 u5, .int .i64 u6] 23)) none)
        have HCK := Lib.hid (fun wx => check_any u0 u1 u2 u3 u4 u5 u6 n wx)
        have HPL := Lib.hid (fun wx => place_any u0 u1 u2 u3 u4 u5 u6 wx)
        have hck : checkE [u0, u1, u2, u3, u4, u5, u6] n = if mayB [u0, u1, u2, u3, u4, u5, u6] n then 0 else 1 := rfl
        rw [HNN.out] at HSZ
        clear hkeep hbu hba hsr HLD5 HX5
        cases hm : mayB [u0, u1, u2, u3, u4, u5, u6] n with
        | false =>
          rw [hm, if_neg (by simp)] at hck
          rw [hck] at HCK
          have hss : soundS n (j : Int) [u0, u1, u2, u3, u4, u5, u6] = false := by simp [soundS, hm]
          rw [hss] at hso
          have HO := Lib.hid (show o' = o by rw [HSTEP.out, hso]; exact newer_none o)
          have hq1 : decide ((1 : Int) = 0) = false := by decide
          have hq2 : ((1 : Int) == 0) = false := by decide
          have hq3 : ¬ ((1 : Int) = 0) := by decide
          clear hck hm hss hso HSTEP HPL
          go_wp2_with fail
          refine wp_region_noPanic ?_
          refine wp_region_held_drew (S := fun wx => wx.cell? ⟨w5.heap.size, 0, none⟩ = some (.int .i64 u0) ∧ wx.cell? ⟨w5.heap.size, 1, none⟩ = some (.int .i64 u1) ∧ wx.cell? ⟨w5.heap.size, 2, none⟩ = some (.int .i64 u2) ∧ wx.cell? ⟨w5.heap.size, 3, none⟩ = some (.int .i64 u3) ∧ wx.cell? ⟨w5.heap.size, 4, none⟩ = some (.int .i64 u4) ∧ wx.cell? ⟨w5.heap.size, 5, none⟩ = some (.int .i64 u5) ∧ wx.cell? ⟨w5.heap.size, 6, none⟩ = some (.int .i64 u6)) (by kernel_rfl) (HKEEP.out _ HD0.out) (fun hHeld => ?_)
          refine wpAnyH_take (i := 0) (v := .bool true) rfl (by kernel_rfl) (by kernel_rfl) (by kernel_rfl) (fun _ _ _ h => h) (Or.inl ⟨by rfl, ?_⟩) (by assumption) ?_
          · intro w1 hSw; (try dsimp only at hSw); go_simp
          simp only [Act.put, List.getElem_toArray, List.getElem_cons_zero, List.setIfInBounds_toArray, List.set_cons_zero, List.set_cons_succ]
          refine wpAnyH_take (i := 1) (v := .bool true) rfl (by kernel_rfl) (by kernel_rfl) (by kernel_rfl) (fun _ _ _ h => h) (Or.inl ⟨by rfl, ?_⟩) (by assumption) ?_
          · intro w1 hSw; (try dsimp only at hSw); go_simp
          simp only [Act.put, List.getElem_toArray, List.getElem_cons_succ, List.getElem_cons_zero, List.setIfInBounds_toArray, List.set_cons_zero, List.set_cons_succ]
          refine wpAnyH_take (i := 2) (v := .agg #[.int .i64 u0, .int .i64 u1, .int .i64 u2, .int .i64 u3, .int .i64 u4, .int .i64 u5, .int .i64 u6]) rfl (by kernel_rfl) (by kernel_rfl) (by kernel_rfl) (fun _ _ _ h => h) (Or.inl ⟨by rfl, ?_⟩) (by assumption) ?_
          · intro w1 hSw; (try dsimp only at hSw); go_simp
          simp only [Act.put, List.getElem_toArray, List.getElem_cons_succ, List.getElem_cons_zero, List.setIfInBounds_toArray, List.set_cons_zero, List.set_cons_succ]
          refine wpAnyH_take (i := 3) (v := .pointer (some ⟨b, 0, none⟩)) rfl (by kernel_rfl) (by kernel_rfl) (by kernel_rfl) (fun _ _ _ h => h) (Or.inl ⟨by rfl, ?_⟩) (by assumption) ?_
          · intro w1 hSw; (try dsimp only at hSw); go_simp
          simp only [Act.put, List.getElem_toArray, List.getElem_cons_succ, List.getElem_cons_zero, List.setIfInBounds_toArray, List.set_cons_zero, List.set_cons_succ]
          refine wpAnyH_ready (rs := [4]) (by kernel_rfl) (by simp) ?_
          refine AllReadyH.cons rfl (fun K hK => ?_) AllReadyH.nil
          go_simp
          go_at_call 20
          refine (HSZ.out _ HD0.out).mono ?_
          rintro e w6 ⟨rfl, rfl⟩
          refine hK.out _ _ (HKEEP.out _ HD0.out) (fun hHeld => ?_)
          clear hK K
          refine wpAnyH_ready (rs := [5]) (by kernel_rfl) (by simp) ?_
          refine AllReadyH.cons rfl (fun K hK => ?_) AllReadyH.nil
          go_simp
          go_at_call 6
          refine (HCK.out _).mono ?_
          rintro e w7 ⟨rfl, hg⟩
          have HG1 := Lib.hid (HD0.out.trans hg)
          clear hg
          refine hK.out _ _ (HKEEP.out _ HG1.out) (fun hHeld => ?_)
          clear hK K
          refine wpAnyH_take (i := 6) (v := .bool false) rfl (by kernel_rfl) (by kernel_rfl) (by kernel_rfl) (fun _ _ _ h => h) (Or.inl ⟨by rfl, ?_⟩) (by assumption) ?_
          · intro w1 hSw; (try dsimp only at hSw); go_simp
          simp only [Act.put, List.getElem_toArray, List.getElem_cons_succ, List.getElem_cons_zero, List.setIfInBounds_toArray, List.set_cons_zero, List.set_cons_succ]
          refine wpAnyH_take (i := 7) (v := .bool false) rfl (by kernel_rfl) (by kernel_rfl) (by kernel_rfl) (fun _ _ _ h => h) (Or.inl ⟨by rfl, ?_⟩) (by assumption) ?_
          · intro w1 hSw; (try dsimp only at hSw); go_simp
          simp only [Act.put, List.getElem_toArray, List.getElem_cons_succ, List.getElem_cons_zero, List.setIfInBounds_toArray, List.set_cons_zero, List.set_cons_succ]
          refine wpAnyH_take (i := 8) (v := .bool false) rfl (by kernel_rfl) (by kernel_rfl) (by kernel_rfl) (fun _ _ _ h => h) (Or.inl ⟨by rfl, ?_⟩) (by assumption) ?_
          · intro w1 hSw; (try dsimp only at hSw); go_simp
          simp only [Act.put, List.getElem_toArray, List.getElem_cons_succ, List.getElem_cons_zero, List.setIfInBounds_toArray, List.set_cons_zero, List.set_cons_succ]
          refine wpAnyH_take (i := 9) (v := undef) rfl (by kernel_rfl) (by kernel_rfl) (by kernel_rfl) (fun _ _ _ h => h) (Or.inr ⟨by rfl, rfl⟩) (by assumption) ?_
          simp only [Act.put, List.getElem_toArray, List.getElem_cons_succ, List.getElem_cons_zero, List.setIfInBounds_toArray, List.set_cons_zero, List.set_cons_succ]
          refine wpAnyH_take (i := 10) (v := undef) rfl (by kernel_rfl) (by kernel_rfl) (by kernel_rfl) (fun _ _ _ h => h) (Or.inr ⟨by rfl, rfl⟩) (by assumption) ?_
          simp only [Act.put, List.getElem_toArray, List.getElem_cons_succ, List.getElem_cons_zero, List.setIfInBounds_toArray, List.set_cons_zero, List.set_cons_succ]
          refine wpAnyH_take (i := 11) (v := undef) rfl (by kernel_rfl) (by kernel_rfl) (by kernel_rfl) (fun _ _ _ h => h) (Or.inr ⟨by rfl, rfl⟩) (by assumption) ?_
          simp only [Act.put, List.getElem_toArray, List.getElem_cons_succ, List.getElem_cons_zero, List.setIfInBounds_toArray, List.set_cons_zero, List.set_cons_succ]
          refine wpAnyH_take (i := 12) (v := undef) rfl (by kernel_rfl) (by kernel_rfl) (by kernel_rfl) (fun _ _ _ h => h) (Or.inr ⟨by rfl, rfl⟩) (by assumption) ?_
          simp only [Act.put, List.getElem_toArray, List.getElem_cons_succ, List.getElem_cons_zero, List.setIfInBounds_toArray, List.set_cons_zero, List.set_cons_succ]
          refine wpAnyH_take (i := 13) (v := .bool false) rfl (by kernel_rfl) (by kernel_rfl) (by kernel_rfl) (fun _ _ _ h => h) (Or.inl ⟨by rfl, ?_⟩) (by assumption) ?_
          · intro w1 hSw; (try dsimp only at hSw); go_simp
          simp only [Act.put, List.getElem_toArray, List.getElem_cons_succ, List.getElem_cons_zero, List.setIfInBounds_toArray, List.set_cons_zero, List.set_cons_succ]
          refine wpAnyH_take (i := 14) (v := .bool false) rfl (by kernel_rfl) (by kernel_rfl) (by kernel_rfl) (fun _ _ _ h => h) (Or.inl ⟨by rfl, ?_⟩) (by assumption) ?_
          · intro w1 hSw; (try dsimp only at hSw); go_simp
          simp only [Act.put, List.getElem_toArray, List.getElem_cons_succ, List.getElem_cons_zero, List.setIfInBounds_toArray, List.set_cons_zero, List.set_cons_succ]
          refine wpAnyH_done (by kernel_rfl) ?_ _
          refine NoPanic.normal ?_
          go_wp2
          go_roundw
          case rel => exact ⟨j + 1, by omega, by go_num, by rw [HO1.out, HO.out], HLD6.out.quiet HG1.out, by rw [HO1.out, HO.out]; exact HX6.out.grown HG1.out (by simp)⟩
          case measure => simp [Go.RowKit.intOf]; omega
        | true =>
          rw [hm, if_pos rfl] at hck
          rw [hck] at HCK
          have hss : soundS n (j : Int) [u0, u1, u2, u3, u4, u5, u6] = decide (u0.tmod 2 = j) := by rw [soundS, hm]; rfl
          rw [hss] at hso
          have HSO := Lib.hid hso
          clear hck hm hss hso
          generalize hpq : u0.tmod 2 = pq at *
          go_wp2_with fail
          go_region_held3 (fun wx => wx.cell? ⟨w5.heap.size, 0, none⟩ = some (.int .i64 u0) ∧ wx.cell? ⟨w5.heap.size, 1, none⟩ = some (.int .i64 u1) ∧ wx.cell? ⟨w5.heap.size, 2, none⟩ = some (.int .i64 u2) ∧ wx.cell? ⟨w5.heap.size, 3, none⟩ = some (.int .i64 u3) ∧ wx.cell? ⟨w5.heap.size, 4, none⟩ = some (.int .i64 u4) ∧ wx.cell? ⟨w5.heap.size, 5, none⟩ = some (.int .i64 u5) ∧ wx.cell? ⟨w5.heap.size, 6, none⟩ = some (.int .i64 u6))
            (first
              | exact HKEEP.out _ HD0.out
              | exact HKEEP.out _ HG1.out
              | exact HKEEP.out _ HG2.out)
            (first
              | (go_at_call 20
                 refine (HSZ.out _ HD0.out).mono ?_
                 rintro e w6 ⟨rfl, rfl⟩)
              | (go_at_call 6
                 refine (HCK.out _).mono ?_
                 rintro e w7 ⟨rfl, hg⟩
                 have HG1 := Lib.hid (HD0.out.trans hg)
                 clear hg)
              | (go_at_call 22
                 refine (HPL.out _).mono ?_
                 rintro e w8 ⟨rfl, hg⟩
                 have HG2 := Lib.hid (HG1.out.trans hg)
                 clear hg))
          have HLD8 := Lib.hid (HLD6.out.quiet HG2.out); have hx8 := HX6.out.grown HG2.out (by simp)
          have HX8 := Lib.hid hx8
          obtain ⟨y0, y1, y2, y3, y4, y5, y6⟩ := HKEEP.out _ HG2.out
          clear HKEEP HCK HPL HSZ
          by_cases hpj : pq = (j : Int)
          · have HO := Lib.hid (show o' = newer o (some [u0, u1, u2, u3, u4, u5, u6]) by rw [HSTEP.out, HSO.out, hpj]; simp)
            subst hpj
            clear HSO HSTEP
            cases o with
            | none =>
              rw [newer_some] at HO
              have hx9 : Blk w8 (T + 1) 23 #[.int .i64 0, .int .i64 0, .int .i64 0, .int .i64 0, .int .i64 0, .int .i64 0, .int .i64 0] := hx8
              have x0 := hx9.cell 0; have x1 := hx9.cell 1; have x2 := hx9.cell 2; have x3 := hx9.cell 3; have x4 := hx9.cell 4; have x5 := hx9.cell 5; have x6 := hx9.cell 6
              have f0 := hx9.frozen 0; have f1 := hx9.frozen 1; have f2 := hx9.frozen 2; have f3 := hx9.frozen 3; have f4 := hx9.frozen 4; have f5 := hx9.frozen 5; have f6 := hx9.frozen 6
              simp only [List.getElem?_toArray, List.getElem?_cons_zero, List.getElem?_cons_succ] at x0 x1 x2 x3 x4 x5 x6
              have HX9 := Lib.hid hx9
              clear hx8 hx9
              go_wp2
              go_roundw
              case rel => exact ⟨j + 1, by omega, by go_num, by rw [HO1.out, HO.out]; rfl, HLD8.out.set7 HL.out HLT.out HSZ3.out, by rw [HO1.out, HO.out]; exact Blk.set7 HX9.out⟩
              case measure => simp [Go.RowKit.intOf]; omega
            | some pp =>
              obtain ⟨p0, p1, p2, p3, p4, p5, p6, rfl⟩ := list7 (HSL.out pp rfl)
              have hx9 : Blk w8 (T + 1) 23 #[.int .i64 p0, .int .i64 p1, .int .i64 p2, .int .i64 p3, .int .i64 p4, .int .i64 p5, .int .i64 p6] := hx8
              have x0 := hx9.cell 0; have x1 := hx9.cell 1; have x2 := hx9.cell 2; have x3 := hx9.cell 3; have x4 := hx9.cell 4; have x5 := hx9.cell 5; have x6 := hx9.cell 6
              have f0 := hx9.frozen 0; have f1 := hx9.frozen 1; have f2 := hx9.frozen 2; have f3 := hx9.frozen 3; have f4 := hx9.frozen 4; have f5 := hx9.frozen 5; have f6 := hx9.frozen 6
              simp only [List.getElem?_toArray, List.getElem?_cons_zero, List.getElem?_cons_succ] at x0 x1 x2 x3 x4 x5 x6
              have HX9 := Lib.hid hx9
              have hnew : newer (some [p0, p1, p2, p3, p4, p5, p6]) (some [u0, u1, u2, u3, u4, u5, u6]) = if p0 < u0 then some [u0, u1, u2, u3, u4, u5, u6] else some [p0, p1, p2, p3, p4, p5, p6] := rfl
              rw [hnew] at HO
              clear hx8 hx9 hnew
              by_cases hgt : p0 < u0
              · rw [if_pos hgt] at HO
                have hdg : decide (p0 < u0) = true := decide_eq_true hgt
                go_wp2
                go_roundw
                case rel => exact ⟨j + 1, by omega, by go_num, by rw [HO1.out, HO.out]; rfl, HLD8.out.set7 HL.out HLT.out HSZ3.out, by rw [HO1.out, HO.out]; exact Blk.set7 HX9.out⟩
                case measure => simp [Go.RowKit.intOf]; omega
              · rw [if_neg hgt] at HO
                have hdg : decide (p0 < u0) = false := decide_eq_false hgt
                go_wp2
                go_roundw
                case rel => exact ⟨j + 1, by omega, by go_num, by rw [HO1.out, HO.out]; rfl, HLD8.out, by rw [HO1.out, HO.out]; exact HX9.out⟩
                case measure => simp [Go.RowKit.intOf]; omega
          · have HO := Lib.hid (show o' = o by rw [HSTEP.out, HSO.out, decide_eq_false hpj]; exact newer_none o)
            have hdj : decide (pq = (j : Int)) = false := decide_eq_false hpj
            clear HSO HSTEP hx8
            go_wp2
            go_roundw
            case rel => exact ⟨j + 1, by omega, by go_num, by rw [HO1.out, HO.out], HLD8.out, by rw [HO1.out, HO.out]; exact HX8.out⟩
            case measure => simp [Go.RowKit.intOf]; omega
    · obtain rfl : j = 2 := by omega
      rw [HBST.out] at hx ⊢
      have hlenb := seen_len n l0 l1 2
      rw [HBST.out] at hlenb
      have HLD := Lib.hid hld
      have x0 := hld.r.cell 0; have x1 := hld.r.cell 1; have x2 := hld.r.cell 2; have x3 := hld.r.cell 3; have x4 := hld.r.cell 4; have x5 := hld.r.cell 5; have x6 := hld.r.cell 6
      have f0 := hld.r.frozen 0; have f1 := hld.r.frozen 1; have f2 := hld.r.frozen 2; have f3 := hld.r.frozen 3; have f4 := hld.r.frozen 4; have f5 := hld.r.frozen 5; have f6 := hld.r.frozen 6
      simp only [List.getElem?_toArray, List.getElem?_cons_zero, List.getElem?_cons_succ] at x0 x1 x2 x3 x4 x5 x6
      clear hld
      generalize bestOf n l0 l1 = best at *
      cases best with
      | none =>
        have HE := Lib.hid (show LE = 14 from HEV.out); have HV := Lib.hid (show LV = zero7' from HVV.out)
        clear HEV HVV hlenb hx
        go_wp2_with fail
        refine ret_row2 rfl w.heap.size 23 _ _ rfl (Blk.set7 HLD.out.r) Try.underlying23 rfl (by kernel_rfl) rfl ⟨?_, ?_⟩
        · rw [HE.out, HV.out]; first | done | rfl
        · first | exact fin_set7 HL.out HLT.out ⟨HLD.out.s, HLD.out.t⟩ | (rw [HTT.out]; exact fin_set7 HL.out HLT.out ⟨HLD.out.s, HLD.out.t⟩)
      | some pp =>
        obtain ⟨p0, p1, p2, p3, p4, p5, p6, rfl⟩ := list7 (hlenb pp rfl)
        have HE := Lib.hid (show LE = 0 from HEV.out); have HV := Lib.hid (show LV = [p0, p1, p2, p3, p4, p5, p6] from HVV.out)
        have hx' : Blk wr (T + 1) 23 #[.int .i64 p0, .int .i64 p1, .int .i64 p2, .int .i64 p3, .int .i64 p4, .int .i64 p5, .int .i64 p6] := hx
        have y0 := hx'.cell 0; have y1 := hx'.cell 1; have y2 := hx'.cell 2; have y3 := hx'.cell 3; have y4 := hx'.cell 4; have y5 := hx'.cell 5; have y6 := hx'.cell 6
        simp only [List.getElem?_toArray, List.getElem?_cons_zero, List.getElem?_cons_succ] at y0 y1 y2 y3 y4 y5 y6
        clear HEV HVV hlenb hx hx'
        go_wp2_with fail
        refine ret_row2 rfl w.heap.size 23 _ _ rfl (Blk.set7 HLD.out.r) Try.underlying23 rfl (by kernel_rfl) rfl ⟨?_, ?_⟩
        · rw [HE.out, HV.out]; first | done | rfl
        · first | exact fin_set7 HL.out HLT.out ⟨HLD.out.s, HLD.out.t⟩ | (rw [HTT.out]; exact fin_set7 HL.out HLT.out ⟨HLD.out.s, HLD.out.t⟩)

theorem load_any {w : World} {B b tb : Nat} {S : St} {own : Nat → Prop} (h : SAt w B b tb S own) :
    Calls Try.prog 13 #[.pointer (some ⟨b, 0, none⟩), .pointer (some ⟨tb, 0, none⟩)] w fun e w' =>
      e = .returned (.tuple #[supV (loadV S), .int .i64 (loadE S)]) ∧ SAt w' B b tb (loadT S) own ∧ Turn w w' (With own tb) (With own tb) := by
  by_cases h2 : S.n < 2
  · exact load_small h h2
  · by_cases hbad : (readE S 0 1).1 ≠ 0 ∨ (readE (readE S 0 1).2 1 1).1 ≠ 0
    · exact load_bad h h2 hbad
    · exact load_good h h2 hbad
end Go.Proofs.Ytagikgejhckfbaa.Sup
/- Superblocks on a disk that has nothing in its cache: Save and Load in plain words. No program is named. -/
namespace Go.Proofs.Ytagikgejhckfbaa.Sup
open Go.RowKit CrcMath CodecMath Codec DiskSpec Dsk

/-- A disk of n sectors whose durable bytes are all there is of it. -/
def plain (n : Nat) (dur : Nat → List Nat) : St := ⟨n, dur, fun _ => [], 0, 0, 0, -1⟩
theorem plain_new (n : Nat) : St.new n = plain n fun _ => zeros := rfl
theorem plain_now (n : Nat) (dur : Nat → List Nat) (i : Nat) : (plain n dur).now i = dur i := rfl
theorem plain_has {n : Nat} {dur : Nat → List Nat} (h2 : 2 ≤ n) (a : Nat) (ha : a < 2) : (plain n dur).has a 1 = true := by
  show (decide (0 ≤ (a : Int)) && (decide ((1 : Int) ≤ 1) && decide ((1 : Int) ≤ (n : Int) - a))) = true
  rw [Bool.and_eq_true, Bool.and_eq_true, decide_eq_true_eq, decide_eq_true_eq, decide_eq_true_eq]
  omega
theorem plain_readE {n : Nat} {dur : Nat → List Nat} (h2 : 2 ≤ n) (a : Nat) (ha : a < 2) : readE (plain n dur) a 1 = (0, plain n dur) := by
  unfold readE
  rw [if_neg (by rw [plain_has h2 a ha]; simp), if_neg (by simp [plain])]
  rfl
theorem plain_readL {n : Nat} {dur : Nat → List Nat} (h2 : 2 ≤ n) (a : Nat) (ha : a < 2) : readL (plain n dur) a 1 = dur a := by
  unfold readL
  rw [if_neg (by rw [plain_has h2 a ha]; simp), if_neg (by simp [plain])]
  show St.reads _ a 1 = _
  simp [St.reads, plain_now]
/-- What is loaded of it. -/
def bestP (n : Nat) (dur : Nat → List Nat) : Option (List Int) := bestOf n (dur 0) (dur 1)
theorem plain_loadT {n : Nat} {dur : Nat → List Nat} (h2 : 2 ≤ n) : loadT (plain n dur) = plain n dur := by
  unfold loadT loadS
  rw [if_neg (by show ¬ n < 2; omega)]
  rw [show ((readE (plain n dur) 0 1)) = (0, plain n dur) from plain_readE h2 0 (by omega)]
  rw [show ((readE (0, plain n dur).2 1 1)) = (0, plain n dur) from plain_readE h2 1 (by omega)]
theorem plain_load {n : Nat} {dur : Nat → List Nat} (h2 : 2 ≤ n) : loadE (plain n dur) = (if (bestP n dur).isSome then 0 else 14) ∧ loadV (plain n dur) = (bestP n dur).getD zero7' := by
  have e0 : readE (plain n dur) 0 1 = (0, plain n dur) := plain_readE h2 0 (by omega)
  have e1 : readE (plain n dur) 1 1 = (0, plain n dur) := plain_readE h2 1 (by omega)
  have l0 : readL (plain n dur) 0 1 = dur 0 := plain_readL h2 0 (by omega)
  have l1 : readL (plain n dur) 1 1 = dur 1 := plain_readL h2 1 (by omega)
  constructor
  · unfold loadE
    rw [if_neg (by show ¬ n < 2; omega), e0, if_neg (by show ¬ ((0 : Int) ≠ 0 ∨ _); rw [show readE (0, plain n dur).2 1 1 = (0, plain n dur) from e1]; simp), l0]
    rw [show readL (0, plain n dur).2 1 1 = dur 1 from l1]
    rfl
  · unfold loadV
    rw [if_neg (by show ¬ n < 2; omega), e0, if_neg (by show ¬ ((0 : Int) ≠ 0 ∨ _); rw [show readE (0, plain n dur).2 1 1 = (0, plain n dur) from e1]; simp), l0]
    rw [show readL (0, plain n dur).2 1 1 = dur 1 from l1]
    rfl
theorem may_gen {s : List Int} {n : Int} (hl : s.length = 7) (h : mayB s n = true) : 0 ≤ gen s ∧ gen s ≤ 1099511627776 := superOk_at (mayB_ok h) 0 (by omega)
theorem may_n {s : List Int} {n : Int} (_hl : s.length = 7) (h : mayB s n = true) : 2 ≤ n := by
  have hr : roomB s n = true := by
    unfold mayB at h
    rw [Bool.and_eq_true] at h
    exact h.2
  simp [roomB] at hr
  omega
/-- The place of a superblock. -/
def placeOf (s : List Int) : Nat := ((gen s).tmod 2).toNat
theorem place_is {s : List Int} (h : 0 ≤ gen s) : (gen s).tmod 2 = placeOf s ∧ placeOf s < 2 := by
  have e : (gen s).tmod 2 = gen s % 2 := Int.tmod_eq_emod_of_nonneg h
  unfold placeOf
  omega
/-- Bytes of a sector that are written with FUA where nothing is in the cache. -/
theorem plain_write {n : Nat} {dur : Nat → List Nat} (a : Nat) (ha : a < n) {l : List Nat} (hl : l.length = 256) : writeE (plain n dur) true a l = (0, plain n (upd dur a l)) := by
  unfold writeE
  rw [if_neg (by omega), hl]
  rw [if_neg (by simp [St.has, plain]; omega), if_neg (by simp [plain])]
  have hsec : sec l 0 = l := by
    show (l.drop (256 * 0)).take 256 = l
    rw [Nat.mul_zero, List.drop_zero, List.take_of_length_le (by omega)]
  show (0, _) = _
  congr 1
  show St.done (St.settle (St.add (plain n dur) (a + 0) (sec l 0)) (a + 0)) = _
  rw [hsec, Nat.add_zero]
  show ({ (plain n dur) with dur := upd dur a _, ver := _, left := _ } : St) = plain n (upd dur a l)
  have h1 : St.now (St.add (plain n dur) a l) a = l := by simp [St.now, St.add, upd, plain]
  have h2 : upd (upd (fun _ => ([] : List (List Nat))) a ([] ++ [l])) a [] = fun _ => [] := by
    funext i; unfold upd; split <;> rfl
  show (⟨n, upd dur a (St.now (St.add (plain n dur) a l) a), upd (upd (fun _ => []) a ([] ++ [l])) a [], 0 - 1, 0, 0, tick (-1)⟩ : St) = plain n (upd dur a l)
  rw [h1, h2]
  rfl
theorem plain_save {n : Nat} {dur : Nat → List Nat} {s : List Int} (hl : s.length = 7) (h : mayB s n = true) :
    saveE (plain n dur) s = (0, plain n (upd dur (placeOf s) (frame (superB s)))) := by
  have hg := may_gen hl h
  obtain ⟨hp, hp2⟩ := place_is hg.1
  have hn := may_n hl h
  unfold saveE
  rw [show (plain n dur).n = n from rfl, h, if_pos rfl, hp]
  exact plain_write _ (by omega) (superW_len hl (superW_may h))
theorem plain_save_no {n : Nat} {dur : Nat → List Nat} {s : List Int} (h : mayB s n = false) : saveE (plain n dur) s = (1, plain n dur) := by
  unfold saveE
  rw [show (plain n dur).n = n from rfl, h]
  rfl
theorem plain_crash (n : Nat) (dur : Nat → List Nat) (f1 f2 f3 : Nat) (left : Int) (picks : List Int) : (⟨n, dur, fun _ => [], f1, f2, f3, left⟩ : St).crash picks = plain n dur := by
  unfold St.crash plain
  congr 1
  funext i
  exact pickOf_nil _ _
theorem superR_head {l : List Nat} {s : List Int} (h : superR l = some s) : l.getD 0 0 = 80 := by
  obtain ⟨h1, _⟩ := superR_some h
  obtain ⟨rfl, _⟩ := superW_some h1
  obtain ⟨q, hq⟩ := frame_split (superB s)
  rw [hq]
  rfl
theorem superR_zeros : superR zeros = none := by
  cases h : superR zeros with
  | none => rfl
  | some s =>
    have := superR_head h
    exact absurd this (by decide)
theorem best_zeros (n : Nat) : bestP n (fun _ => zeros) = none := by
  unfold bestP bestOf
  rw [sound_no superR_zeros, sound_no superR_zeros]
  rfl
end Go.Proofs.Ytagikgejhckfbaa.Sup
/- Nil disks and tables; the laws' test of a known superblock. -/
namespace Go.Proofs.Ytagikgejhckfbaa.Sup
open Go.RowKit CrcMath CodecMath Mem Crc Codec DiskSpec Dsk

set_option maxRecDepth 100000 in
set_option maxHeartbeats 800000 in
theorem load_nil_d (tv : Value) (w : World) :
    Calls Try.prog 13 #[.pointer none, tv] w fun e w' => e = .returned (.tuple #[supV zero7', .int .i64 1]) ∧ w.grownBy w' none := by
  have hR := Blk.new w 23 #[.int .i64 0, .int .i64 0, .int .i64 0, .int .i64 0, .int .i64 0, .int .i64 0, .int .i64 0]
  have HR := Lib.hid hR
  have HG0 := Lib.hid (World.grownBy_alloc w (.cells #[.int .i64 0, .int .i64 0, .int .i64 0, .int .i64 0, .int .i64 0, .int .i64 0, .int .i64 0] 23) none)
  have x0 := hR.cell 0; have x1 := hR.cell 1; have x2 := hR.cell 2; have x3 := hR.cell 3; have x4 := hR.cell 4; have x5 := hR.cell 5; have x6 := hR.cell 6
  simp only [List.getElem?_toArray, List.getElem?_cons_zero, List.getElem?_cons_succ] at x0 x1 x2 x3 x4 x5 x6
  have f0 := hR.frozen 0; have f1 := hR.frozen 1; have f2 := hR.frozen 2; have f3 := hR.frozen 3; have f4 := hR.frozen 4; have f5 := hR.frozen 5; have f6 := hR.frozen 6
  clear hR
  go_enter Try.func13, Try.ntmps13
  go_wp2_with fail
  refine ret_row2 rfl w.heap.size 23 _ _ rfl HR.out Try.underlying23 rfl (by kernel_rfl) rfl ⟨rfl, HG0.out⟩
set_option maxRecDepth 100000 in
set_option maxHeartbeats 800000 in
theorem load_nil_t (b : Nat) (w : World) :
    Calls Try.prog 13 #[.pointer (some ⟨b, 0, none⟩), .pointer none] w fun e w' => e = .returned (.tuple #[supV zero7', .int .i64 1]) ∧ w.grownBy w' none := by
  have hR := Blk.new w 23 #[.int .i64 0, .int .i64 0, .int .i64 0, .int .i64 0, .int .i64 0, .int .i64 0, .int .i64 0]
  have HR := Lib.hid hR
  have HG0 := Lib.hid (World.grownBy_alloc w (.cells #[.int .i64 0, .int .i64 0, .int .i64 0, .int .i64 0, .int .i64 0, .int .i64 0, .int .i64 0] 23) none)
  have x0 := hR.cell 0; have x1 := hR.cell 1; have x2 := hR.cell 2; have x3 := hR.cell 3; have x4 := hR.cell 4; have x5 := hR.cell 5; have x6 := hR.cell 6
  simp only [List.getElem?_toArray, List.getElem?_cons_zero, List.getElem?_cons_succ] at x0 x1 x2 x3 x4 x5 x6
  have f0 := hR.frozen 0; have f1 := hR.frozen 1; have f2 := hR.frozen 2; have f3 := hR.frozen 3; have f4 := hR.frozen 4; have f5 := hR.frozen 5; have f6 := hR.frozen 6
  clear hR
  go_enter Try.func13, Try.ntmps13
  go_wp2_with fail
  refine ret_row2 rfl w.heap.size 23 _ _ rfl HR.out Try.underlying23 rfl (by kernel_rfl) rfl ⟨rfl, HG0.out⟩
set_option maxRecDepth 100000 in
set_option maxHeartbeats 800000 in
theorem save_nil_d (tv : Value) (a0 a1 a2 a3 a4 a5 a6 : Int) (w : World) :
    Calls Try.prog 11 #[.pointer none, tv, .agg #[.int .i64 a0, .int .i64 a1, .int .i64 a2, .int .i64 a3, .int .i64 a4, .int .i64 a5, .int .i64 a6]] w fun e w' => e = .returned (.int .i64 1) ∧ w.grownBy w' none := by
  have HG0 := Lib.hid (World.grownBy_alloc w (.cells #[.int .i64 a0, .int .i64 a1, .int .i64 a2, .int .i64 a3, .int .i64 a4, .int .i64 a5, .int .i64 a6] 23) none)
  go_enter Try.func11, Try.ntmps11
  go_wp2_with fail
  go_quiet (fail)
  go_wp2
  go_ret
  exact ⟨rfl, grown_drewN HG0.out _⟩
set_option maxRecDepth 100000 in
set_option maxHeartbeats 800000 in
theorem save_nil_t (b : Nat) (a0 a1 a2 a3 a4 a5 a6 : Int) (w : World) :
    Calls Try.prog 11 #[.pointer (some ⟨b, 0, none⟩), .pointer none, .agg #[.int .i64 a0, .int .i64 a1, .int .i64 a2, .int .i64 a3, .int .i64 a4, .int .i64 a5, .int .i64 a6]] w fun e w' => e = .returned (.int .i64 1) ∧ w.grownBy w' none := by
  have HG0 := Lib.hid (World.grownBy_alloc w (.cells #[.int .i64 a0, .int .i64 a1, .int .i64 a2, .int .i64 a3, .int .i64 a4, .int .i64 a5, .int .i64 a6] 23) none)
  go_enter Try.func11, Try.ntmps11
  go_wp2_with fail
  go_quiet (fail)
  go_wp2
  go_ret
  exact ⟨rfl, grown_drewN HG0.out _⟩

/-- A new disk, a table beside it. -/
theorem sat_new {w w2 : World} {b bd bm : Nat} {n : Nat} {f : Nat → Option Value} {own : Nat → Prop} {tb : Nat} (hT : Tab w tb) (hl : Lay w2 w.heap.size b bd bm f (St.new n) own) (hg : w.grownBy w2 none) :
    SAt w2 w.heap.size b tb (plain n fun _ => DiskSpec.zeros) own :=
  ⟨⟨bd, bm, f, hl⟩, tab_keep hT hg (by simp), fun ho => by have := hl.low _ ho; have := tab_lt hT; omega, hg.size⟩
theorem sup_below {w w1 w2 : World} (h : w.grownBy w1 none) (k : Below w.heap.size w1 w2) : w.grownBy w2 none :=
  ⟨k.os.trans h.os, k.tape.trans h.tape, k.output.trans h.output, Nat.le_trans h.size k.size, fun i hi hn => (k.block i hi).trans (h.block i hi hn)⟩
theorem load_plain {w : World} {B b tb n : Nat} {dur : Nat → List Nat} {own : Nat → Prop} (h : SAt w B b tb (plain n dur) own) (h2 : 2 ≤ n) :
    Calls Try.prog 13 #[.pointer (some ⟨b, 0, none⟩), .pointer (some ⟨tb, 0, none⟩)] w fun e w' =>
      e = .returned (.tuple #[supV ((bestP n dur).getD zero7'), .int .i64 (if (bestP n dur).isSome then 0 else 14)]) ∧ SAt w' B b tb (plain n dur) own ∧ Turn w w' (With own tb) (With own tb) := by
  have hc := load_any h
  rw [plain_loadT h2, (plain_load h2).1, (plain_load h2).2] at hc
  exact hc
theorem save_plain {w : World} {B b tb n : Nat} {dur : Nat → List Nat} {own : Nat → Prop} (h : SAt w B b tb (plain n dur) own) (a0 a1 a2 a3 a4 a5 a6 : Int) (hm : mayB [a0, a1, a2, a3, a4, a5, a6] n = true) :
    Calls Try.prog 11 #[.pointer (some ⟨b, 0, none⟩), .pointer (some ⟨tb, 0, none⟩), .agg #[.int .i64 a0, .int .i64 a1, .int .i64 a2, .int .i64 a3, .int .i64 a4, .int .i64 a5, .int .i64 a6]] w fun e w' =>
      e = .returned (.int .i64 0) ∧ ∃ own', SAt w' B b tb (plain n (upd dur (placeOf [a0, a1, a2, a3, a4, a5, a6]) (frame (superB [a0, a1, a2, a3, a4, a5, a6])))) own' ∧ Turn w w' (With own tb) (With own' tb) := by
  have hc := save_any h a0 a1 a2 a3 a4 a5 a6 (fun i => by show ([] : List (List Nat)).length < _; simp)
  rw [plain_save rfl hm] at hc
  exact hc
theorem save_plain_no {w : World} {B b tb n : Nat} {dur : Nat → List Nat} {own : Nat → Prop} (h : SAt w B b tb (plain n dur) own) (a0 a1 a2 a3 a4 a5 a6 : Int) (hm : mayB [a0, a1, a2, a3, a4, a5, a6] n = false) :
    Calls Try.prog 11 #[.pointer (some ⟨b, 0, none⟩), .pointer (some ⟨tb, 0, none⟩), .agg #[.int .i64 a0, .int .i64 a1, .int .i64 a2, .int .i64 a3, .int .i64 a4, .int .i64 a5, .int .i64 a6]] w fun e w' =>
      e = .returned (.int .i64 1) ∧ ∃ own', SAt w' B b tb (plain n dur) own' ∧ Turn w w' (With own tb) (With own' tb) := by
  have hc := save_any h a0 a1 a2 a3 a4 a5 a6 (fun i => by show ([] : List (List Nat)).length < _; simp)
  rw [plain_save_no hm] at hc
  exact hc

/-- Where a law stands: since w nothing that was there has turned; a disk and a table, both newer. -/
structure Kn (w wx : World) (B b tb : Nat) (S : St) (own : Nat → Prop) : Prop where
  s : SAt wx B b tb S own
  g : w.grownBy wx none
  t : w.heap.size ≤ tb
  b : w.heap.size ≤ B
section
variable {w wx w' : World} {B b tb g : Nat} {S S' : St} {own own' : Nat → Prop} {t : TypeId} {cs : Array Value}
theorem Kn.quiet (h : Kn w wx B b tb S own) (hg : wx.grownBy w' none) : Kn w w' B b tb S own := ⟨h.s.quiet hg, h.g.trans hg, h.t, h.b⟩
theorem Kn.turn (h : Kn w wx B b tb S own) (hs : SAt w' B b tb S' own') (ht : Turn wx w' (With own tb) (With own' tb)) : Kn w w' B b tb S' own' :=
  ⟨hs, sup_below h.g (ht.below (fun i hi => by
    rcases hi with hi | rfl
    · exact Nat.le_trans h.b (h.s.low hi)
    · exact h.t) h.g.size), h.t, h.b⟩
theorem Kn.out (h : Kn w wx B b tb S own) (hg : wx.heap.size ≤ g) : ¬ With own tb g := by
  rintro (h1 | rfl)
  · have := h.s.own_lt h1; omega
  · have := tab_lt h.s.t; omega
theorem blk_with (hb : Blk wx g t cs) (ho : ¬ With own tb g) (ht : Turn wx w' (With own tb) (With own' tb)) : Blk w' g t cs ∧ ¬ With own' tb g :=
  ⟨blk_of_block hb (ht.block g hb.lt ho), fun h => by
    rcases ht.fresh g h with h1 | h1
    · exact ho h1
    · have := hb.lt; omega⟩
end

set_option maxRecDepth 100000 in
set_option maxHeartbeats 3200000 in
theorem known_any (w : World) :
    Calls Try.prog 8 #[] w fun e w' => e = .returned (.bool true) ∧ w.grownBy w' none := by
  have hm : mayB [1, 1, 16, 18, 64, 0, 0] ((100 : Nat) : Int) = true := by decide
  have hpl : placeOf [1, 1, 16, 18, 64, 0, 0] = 1 := by decide
  have hbz := best_zeros 100
  have hb1 : bestP 100 (upd (fun _ => DiskSpec.zeros) 1 (frame (superB [1, 1, 16, 18, 64, 0, 0]))) = some [1, 1, 16, 18, 64, 0, 0] := by
    unfold bestP bestOf
    rw [upd_ne _ _ (by omega : (0 : Nat) ≠ 1), upd_same, sound_no superR_zeros, sound_of rfl hm (by decide)]
    rfl
  have HM := Lib.hid hm; have HPL := Lib.hid hpl; have HBZ := Lib.hid hbz; have HB1 := Lib.hid hb1
  clear hm hpl hbz hb1
  have hT : Tab (w.alloc (.cells zeroCs 62)) w.heap.size := .inl ⟨_, Blk.new w 62 zeroCs, fresh_zero⟩
  have HT := Lib.hid hT; have HG0 := Lib.hid (World.grownBy_alloc w (.cells zeroCs 62) none)
  clear hT
  go_enter Try.func8, Try.ntmps8
  go_wp2_with fail
  refine (new_any _).mono ?_
  rintro e w1 ⟨rfl, rfl⟩
  have HN := Lib.hid (show Calls Try.prog 10 #[.int .i64 100] (w.alloc (.cells zeroCs 62)) fun e w' => ∃ b bd bm f own, e = .returned (.tuple #[.pointer (some ⟨b, 0, none⟩), .int .i64 0]) ∧ Lay w' (w.alloc (.cells zeroCs 62)).heap.size b bd bm f (St.new 100) own ∧ (w.alloc (.cells zeroCs 62)).grownBy w' none from disk_new 100 _ (by omega) (by omega))
  go_wp2_with fail
  refine HN.out.mono ?_
  rintro e w2 ⟨b, bd, bm, f, own, rfl, hl, hg2⟩
  have HK2 := Lib.hid (show Kn w w2 (w.alloc (.cells zeroCs 62)).heap.size b w.heap.size (plain 100 fun _ => DiskSpec.zeros) own from ⟨sat_new HT.out hl hg2, HG0.out.trans hg2, Nat.le_refl _, by simp⟩)
  clear hl hg2 HN HT HG0
  generalize (w.alloc (.cells zeroCs 62)).heap.size = B at *
  generalize htb : w.heap.size = tb at *
  clear htb
  have HBX := Lib.hid (Blk.new w2 23 #[.int .i64 1, .int .i64 1, .int .i64 16, .int .i64 18, .int .i64 64, .int .i64 0, .int .i64 0])
  have HO := Lib.hid (HK2.out.out (Nat.le_refl _))
  have HK3 := Lib.hid (HK2.out.quiet (World.grownBy_alloc w2 (.cells #[.int .i64 1, .int .i64 1, .int .i64 16, .int .i64 18, .int .i64 64, .int .i64 0, .int .i64 0] 23) none))
  go_wp2_with fail
  refine (load_plain HK3.out.s (by omega)).mono ?_
  rintro e w4 ⟨rfl, hs, ht⟩
  rw [HBZ.out]
  rw [show supV ((none : Option (List Int)).getD zero7') = .agg #[.int .i64 0, .int .i64 0, .int .i64 0, .int .i64 0, .int .i64 0, .int .i64 0, .int .i64 0] from rfl, show (if (none : Option (List Int)).isSome then (0 : Int) else 14) = 14 from rfl]
  obtain ⟨hbx, ho⟩ := blk_with HBX.out HO.out ht
  have HK4 := Lib.hid ((HK3.out.turn hs ht).quiet (World.grownBy_alloc w4 (.cells #[.int .i64 0, .int .i64 0, .int .i64 0, .int .i64 0, .int .i64 0, .int .i64 0, .int .i64 0] 23) none))
  have HB4 := Lib.hid (hbx.alloc (.cells #[.int .i64 0, .int .i64 0, .int .i64 0, .int .i64 0, .int .i64 0, .int .i64 0, .int .i64 0] 23)); have HO4 := Lib.hid ho
  clear hs ht hbx ho HK2 HK3 HO HBX HBZ
  have x0 := HB4.out.cell 0; have x1 := HB4.out.cell 1; have x2 := HB4.out.cell 2; have x3 := HB4.out.cell 3; have x4 := HB4.out.cell 4; have x5 := HB4.out.cell 5; have x6 := HB4.out.cell 6
  simp only [List.getElem?_toArray, List.getElem?_cons_zero, List.getElem?_cons_succ] at x0 x1 x2 x3 x4 x5 x6
  go_wp2_with fail
  refine (save_plain HK4.out.s 1 1 16 18 64 0 0 HM.out).mono ?_
  rintro e w5 ⟨rfl, own5, hs, ht⟩
  obtain ⟨hbx, ho⟩ := blk_with HB4.out HO4.out ht
  rw [HPL.out] at hs
  have HK5 := Lib.hid (HK4.out.turn hs ht); have HB5 := Lib.hid hbx; have HO5 := Lib.hid ho
  clear hs ht hbx ho HK4 HB4 HO4 x0 x1 x2 x3 x4 x5 x6
  go_wp2_with fail
  refine (load_plain HK5.out.s (by omega)).mono ?_
  rintro e w6 ⟨rfl, hs, ht⟩
  rw [HB1.out]
  rw [show supV ((some [1, 1, 16, 18, 64, 0, 0]).getD zero7') = .agg #[.int .i64 1, .int .i64 1, .int .i64 16, .int .i64 18, .int .i64 64, .int .i64 0, .int .i64 0] from rfl, show (if (some ([1, 1, 16, 18, 64, 0, 0] : List Int)).isSome then (0 : Int) else 14) = 0 from rfl]
  obtain ⟨hbx, ho⟩ := blk_with HB5.out HO5.out ht
  have HK6 := Lib.hid ((HK5.out.turn hs ht).quiet (World.grownBy_alloc w6 (.cells #[.int .i64 1, .int .i64 1, .int .i64 16, .int .i64 18, .int .i64 64, .int .i64 0, .int .i64 0] 23) none))
  have HB6 := Lib.hid (hbx.alloc (.cells #[.int .i64 1, .int .i64 1, .int .i64 16, .int .i64 18, .int .i64 64, .int .i64 0, .int .i64 0] 23)); have HU6 := Lib.hid (Blk.new w6 23 #[.int .i64 1, .int .i64 1, .int .i64 16, .int .i64 18, .int .i64 64, .int .i64 0, .int .i64 0])
  clear hs ht hbx ho HK5 HB5 HO5 HM HPL HB1
  go_wp2_with fail
  refine (load_nil_d _ _).mono ?_
  rintro e w7 ⟨rfl, hg⟩
  rw [show supV zero7' = .agg #[.int .i64 0, .int .i64 0, .int .i64 0, .int .i64 0, .int .i64 0, .int .i64 0, .int .i64 0] from rfl]
  have hga := World.grownBy_alloc w7 (.cells #[.int .i64 0, .int .i64 0, .int .i64 0, .int .i64 0, .int .i64 0, .int .i64 0, .int .i64 0] 23) none
  have HK7 := Lib.hid (HK6.out.quiet (hg.trans hga)); have HB7 := Lib.hid (HB6.out.grown (hg.trans hga) (by simp)); have HU7 := Lib.hid (HU6.out.grown (hg.trans hga) (by simp))
  clear hg hga HK6 HB6 HU6
  go_wp2_with fail
  refine (load_nil_t b _).mono ?_
  rintro e w8 ⟨rfl, hg⟩
  rw [show supV zero7' = .agg #[.int .i64 0, .int .i64 0, .int .i64 0, .int .i64 0, .int .i64 0, .int .i64 0, .int .i64 0] from rfl]
  have hga := World.grownBy_alloc w8 (.cells #[.int .i64 0, .int .i64 0, .int .i64 0, .int .i64 0, .int .i64 0, .int .i64 0, .int .i64 0] 23) none
  have HK8 := Lib.hid (HK7.out.quiet (hg.trans hga)); have HB8 := Lib.hid (HB7.out.grown (hg.trans hga) (by simp)); have HU8 := Lib.hid (HU7.out.grown (hg.trans hga) (by simp))
  clear hg hga HK7 HB7 HU7
  have x0 := HB8.out.cell 0; have x1 := HB8.out.cell 1; have x2 := HB8.out.cell 2; have x3 := HB8.out.cell 3; have x4 := HB8.out.cell 4; have x5 := HB8.out.cell 5; have x6 := HB8.out.cell 6
  simp only [List.getElem?_toArray, List.getElem?_cons_zero, List.getElem?_cons_succ] at x0 x1 x2 x3 x4 x5 x6
  have y0 := HU8.out.cell 0; have y1 := HU8.out.cell 1; have y2 := HU8.out.cell 2; have y3 := HU8.out.cell 3; have y4 := HU8.out.cell 4; have y5 := HU8.out.cell 5; have y6 := HU8.out.cell 6
  simp only [List.getElem?_toArray, List.getElem?_cons_zero, List.getElem?_cons_succ] at y0 y1 y2 y3 y4 y5 y6
  go_wp2_with fail
  refine (save_nil_d _ 1 1 16 18 64 0 0 _).mono ?_
  rintro e w9 ⟨rfl, hg⟩
  have HK9 := Lib.hid (HK8.out.quiet hg); have HB9 := Lib.hid (HB8.out.grown hg (by simp))
  clear hg HK8 HB8 HU8 x0 x1 x2 x3 x4 x5 x6 y0 y1 y2 y3 y4 y5 y6
  have x0 := HB9.out.cell 0; have x1 := HB9.out.cell 1; have x2 := HB9.out.cell 2; have x3 := HB9.out.cell 3; have x4 := HB9.out.cell 4; have x5 := HB9.out.cell 5; have x6 := HB9.out.cell 6
  simp only [List.getElem?_toArray, List.getElem?_cons_zero, List.getElem?_cons_succ] at x0 x1 x2 x3 x4 x5 x6
  go_wp2_with fail
  refine (save_nil_t b 1 1 16 18 64 0 0 _).mono ?_
  rintro e w10 ⟨rfl, hg⟩
  have HK10 := Lib.hid (HK9.out.quiet hg)
  clear hg HK9 HB9 x0 x1 x2 x3 x4 x5 x6
  go_wp2
  go_ret
  exact ⟨rfl, HK10.out.g⟩
end Go.Proofs.Ytagikgejhckfbaa.Sup
/- Steps that came in, opened: a script, a list of picks. -/
namespace Go.Proofs.Ytagikgejhckfbaa.Dsk
open Go.ChangeShapes Go.WideShapes Go.RowKit Mem Crc DiskSpec

section
variable {H : Type} {enc : TypeId × Value → H} {P : Program} {w : World} {base : Nat} {spare : Nat → Bool} {held : Bool}
/-- A struct that stands in cells: each field's own reading. -/
theorem open_struct_in {t : TypeId} {fs : Array Field} {fuel : Nat} {cs : List Value} {x : DataW H × List MemPlace} (hs : P.underlying t = some (.struct fs)) (h : DataW.trod enc P w base spare held fuel t cs = some x) :
    ∃ n : Nat, cs.length = P.cellsOf t ∧ ∀ (i o : Nat) (ft : TypeId), (fs[i]?).map (fun f => (f.offset, f.type)) = some (o, ft) → ∃ y, DataW.trod enc P w base spare held n ft ((cs.drop o).take (P.cellsOf ft)) = some y := by
  obtain ⟨xs, n, _, _, hl, hlen, hg⟩ := DataW.trod_struct hs h
  refine ⟨n, hl, fun i o ft hi' => ?_⟩
  obtain ⟨f, hi, hf'⟩ := Option.map_eq_some_iff.1 hi'
  simp only [Prod.mk.injEq] at hf'
  obtain ⟨rfl, rfl⟩ := hf'
  have hlt : i < fs.size := (Array.getElem?_eq_some_iff.1 hi).1
  refine ⟨xs[i]'(by omega), ?_⟩
  have h1 := hg i f hi
  rw [List.getElem?_eq_getElem (by omega)] at h1
  exact h1
end
/-- Whole numbers that came in. -/
def PIn (w : World) (A : Option Addr) (n : Nat) (l : List Int) : Prop :=
  l.length = n ∧ (∀ x ∈ l, -9223372036854775808 ≤ x ∧ x ≤ 9223372036854775807) ∧ (0 < n → ∃ g o, A = some ⟨g, o, none⟩ ∧ g < w.heap.size ∧ ∀ j, j < n → w.cell? ⟨g, o + j, none⟩ = some (.int .i64 (l.getD j 0)))
theorem PIn.picks {w w' : World} {A : Option Addr} {n : Nat} {l : List Int} {own : Nat → Prop} (h : PIn w A n l) (hg : Below w.heap.size w w') (ho : ∀ i, own i → w.heap.size ≤ i) : Picks w' own A n l := by
  refine ⟨h.1, h.2.1, fun hn => ?_⟩
  obtain ⟨g, o, rfl, hlt, hc⟩ := h.2.2 hn
  exact ⟨g, o, rfl, Nat.lt_of_lt_of_le hlt hg.size, fun e => by have := ho g e; omega, fun j hj => by rw [World.cell?_of_block (a := ⟨g, o + j, none⟩) (hg.block g hlt)]; exact hc j hj⟩
section
variable {H : Type} {enc : TypeId × Value → H} {w : World} {fuel : Nat} {cs : List Value} {x : DataW H × List MemPlace}
theorem ints_came (h : DataW.trod enc Try.prog w 0 (fun _ => true) true fuel 29 cs = some x) :
    ∃ A n c l, cs = [.slice A n c] ∧ PIn w A n l ∧ n ≤ c ∧ c ≤ maxLen := by
  rcases open_ints Try.underlying29 Try.underlying3 (by kernel_rfl) h with ⟨hcs, _⟩ | ⟨x, l, c, zs, hcs, _, hl, hm, hz, hx, hcell, hwz⟩
  · exact ⟨_, _, _, [], hcs, ⟨rfl, by simp, by omega⟩, Nat.le_refl _, by simp [maxLen]⟩
  · have hz' : zs.length = c := by simpa using hz
    refine ⟨_, _, _, zs.take l, hcs, ⟨by simp; omega, fun y hy => bounds_i64 (hwz y (List.mem_of_mem_take hy)), fun hn => ?_⟩, hl, hm⟩
    obtain ⟨g, o, sp⟩ := x
    have h0 := hcell 0 (by omega)
    have hsp : sp = none := by simpa [Addr.add] using World.cell?_spot h0
    subst hsp
    have hlt : g < w.heap.size := by have := World.block_lt_of_cell? w _ h0; simpa [Addr.add] using this
    refine ⟨g, o, rfl, hlt, fun j hj => ?_⟩
    have h1 := hcell j (by omega)
    rw [Addr.add_mid] at h1
    rw [h1]
    congr 2
    simp [List.getD_eq_getElem?_getD, hj]
theorem int_came (h : DataW.trod enc Try.prog w 0 (fun _ => true) true fuel 3 cs = some x) : ∃ n, cs = [.int .i64 n] ∧ -9223372036854775808 ≤ n ∧ n ≤ 9223372036854775807 := by
  obtain ⟨n, h1, _, h2⟩ := DataW.trod_int Try.underlying3 h
  exact ⟨n, h1, bounds_i64 h2⟩
theorem bool_came (h : DataW.trod enc Try.prog w 0 (fun _ => true) true fuel 4 cs = some x) : ∃ n, cs = [.bool n] := by
  obtain ⟨n, h1, _⟩ := DataW.trod_bool Try.underlying4 h
  exact ⟨n, h1⟩
end
/-- A step. -/
structure OpR where
  kind : Int
  at_ : Int
  count : Int
  bytes : Int
  fill : Int
  fua : Bool
  A : Option Addr
  n : Nat
  c : Nat
  picks : List Int
def OpR.cells (x : OpR) : List Value := [.int .i64 x.kind, .int .i64 x.at_, .int .i64 x.count, .int .i64 x.bytes, .int .i64 x.fill, .bool x.fua, .slice x.A x.n x.c]
structure OpR.ok (w : World) (x : OpR) : Prop where
  at_ : -9223372036854775808 ≤ x.at_ ∧ x.at_ ≤ 9223372036854775807
  count : -9223372036854775808 ≤ x.count ∧ x.count ≤ 9223372036854775807
  picks : PIn w x.A x.n x.picks
  n : x.n ≤ maxLen
section
variable {H : Type} {enc : TypeId × Value → H} {w : World} {fuel : Nat} {cs : List Value} {x : DataW H × List MemPlace}
end
/-- A script that came in. -/
def Script (w : World) (A : Option Addr) (n : Nat) (ops : List OpR) : Prop :=
  ops.length = n ∧ (∀ x ∈ ops, x.ok w) ∧ (0 < n → ∃ g o, A = some ⟨g, o, none⟩ ∧ g < w.heap.size ∧ ∀ j x, ops[j]? = some x → ∀ q u, x.cells[q]? = some u → w.cell? ⟨g, o + j * 7 + q, none⟩ = some u)
theorem choose_list {α : Type} {p : Nat → α → Prop} : ∀ n, (∀ j, j < n → ∃ x, p j x) → ∃ l : List α, l.length = n ∧ ∀ j x, l[j]? = some x → p j x
  | 0, _ => ⟨[], rfl, fun j x h => by simp at h⟩
  | n + 1, h => by
    obtain ⟨l, h1, h2⟩ := choose_list n (fun j hj => h j (by omega))
    obtain ⟨x, hx⟩ := h n (by omega)
    refine ⟨l ++ [x], by simp [h1], fun j y hy => ?_⟩
    rcases Nat.lt_or_ge j n with hj | hj
    · rw [List.getElem?_append_left (by omega)] at hy; exact h2 j y hy
    · rw [List.getElem?_append_right (by omega)] at hy
      have : j = n := by
        have := (List.getElem?_eq_some_iff.1 hy).1
        simp at this; omega
      subst this
      rw [h1] at hy
      simp at hy
      subst hy; exact hx
section
variable {H : Type} {enc : TypeId × Value → H} {W : World} {base : Nat} {v : Value} {d : DataW H} {p : List MemPlace}
set_option maxRecDepth 100000 in
theorem open_picks (o : Value.okWide Try.prog W .any base 29 v) (h : DataW.Trod enc Try.prog W 0 (fun _ => true) true 29 v d p) :
    ∃ A n c l, v = .slice A n c ∧ PIn W A n l ∧ n ≤ c ∧ c ≤ maxLen := by
  obtain ⟨A, n, c, rfl⟩ := okWide_slice Try.underlying29 o
  obtain ⟨fuel, hf⟩ := h
  obtain ⟨A', n', c', l, e, h1, h2, h3⟩ := ints_came hf
  simp [Value.cells] at e
  obtain ⟨rfl, rfl, rfl⟩ := e
  exact ⟨_, _, _, l, rfl, h1, h2, h3⟩
end
/-- The bulk's bound on a script. -/
theorem bulk_len {H : Type} {d0 : DataW H} {ds : List (DataW H)} {n : Nat} (hk : Rows.uptoSmall H ds = true) (hd : d0 ∈ ds) (h0 : n = 0 ∨ ∃ el sp, d0 = .slice el sp ∧ el.length = n) : n ≤ 1048576 := by
  have one : ∀ d : DataW H, 1 ≤ Rows.uptoBulk d := by
    intro d
    cases d with
    | lit l => cases l <;> simp [Rows.uptoBulk]
    | _ => simp [Rows.uptoBulk]
  have len : ∀ l : List (DataW H), l.length ≤ Rows.uptoBulkAll l := by
    intro l
    induction l with
    | nil => simp [Rows.uptoBulkAll]
    | cons x r ih => have := one x; simp only [Rows.uptoBulkAll, List.length_cons]; omega
  have mem : ∀ l : List (DataW H), d0 ∈ l → Rows.uptoBulk d0 ≤ Rows.uptoBulkAll l := by
    intro l
    induction l with
    | nil => intro h; cases h
    | cons x r ih =>
      intro h
      simp only [Rows.uptoBulkAll]
      rcases List.mem_cons.1 h with rfl | h
      · omega
      · have := ih h; omega
  have h := of_decide_eq_true hk
  have h1 := mem ds hd
  rcases h0 with rfl | ⟨el, sp, rfl, rfl⟩
  · omega
  · have := len el; have := len sp
    simp only [Rows.uptoBulk] at h1
    omega
end Go.Proofs.Ytagikgejhckfbaa.Dsk
/- Superblocks that came in, opened. -/
namespace Go.Proofs.Ytagikgejhckfbaa.Sup
open Go.ChangeShapes Go.WideShapes Go.RowKit Mem Crc DiskSpec Dsk

set_option maxRecDepth 100000 in
theorem super_came {H : Type} {enc : TypeId × Value → H} {w : World} {fuel : Nat} {cs : List Value} {x : DataW H × List MemPlace} (h : DataW.trod enc Try.prog w 0 (fun _ => true) true fuel 23 cs = some x) :
    ∃ a0 a1 a2 a3 a4 a5 a6 : Int, cs = [.int .i64 a0, .int .i64 a1, .int .i64 a2, .int .i64 a3, .int .i64 a4, .int .i64 a5, .int .i64 a6] := by
  obtain ⟨n, hl, hf⟩ := open_struct_in Try.underlying23 h
  rw [show Try.prog.cellsOf 23 = 7 from by kernel_rfl] at hl
  match cs, hl with
  | [c0, c1, c2, c3, c4, c5, c6], _ =>
    have k1 : Try.prog.cellsOf 3 = 1 := by kernel_rfl
    obtain ⟨_, h0⟩ := hf 0 0 3 rfl
    obtain ⟨_, h1⟩ := hf 1 1 3 rfl
    obtain ⟨_, h2⟩ := hf 2 2 3 rfl
    obtain ⟨_, h3⟩ := hf 3 3 3 rfl
    obtain ⟨_, h4⟩ := hf 4 4 3 rfl
    obtain ⟨_, h5⟩ := hf 5 5 3 rfl
    obtain ⟨_, h6⟩ := hf 6 6 3 rfl
    rw [k1] at h0 h1 h2 h3 h4 h5 h6
    obtain ⟨a0, e0, _⟩ := int_came h0
    obtain ⟨a1, e1, _⟩ := int_came h1
    obtain ⟨a2, e2, _⟩ := int_came h2
    obtain ⟨a3, e3, _⟩ := int_came h3
    obtain ⟨a4, e4, _⟩ := int_came h4
    obtain ⟨a5, e5, _⟩ := int_came h5
    obtain ⟨a6, e6, _⟩ := int_came h6
    simp at e0 e1 e2 e3 e4 e5 e6
    subst e0 e1 e2 e3 e4 e5 e6
    exact ⟨a0, a1, a2, a3, a4, a5, a6, rfl⟩
/-- Superblocks that came in: a row of structs. -/
def Supers (w : World) (A : Option Addr) (n : Nat) : Prop :=
  0 < n → ∃ g off, A = some ⟨g, off, none⟩ ∧ g < w.heap.size ∧ ∀ j, j < n → ∃ a0 a1 a2 a3 a4 a5 a6 : Int, ∀ q u, [Value.int .i64 a0, .int .i64 a1, .int .i64 a2, .int .i64 a3, .int .i64 a4, .int .i64 a5, .int .i64 a6][q]? = some u → w.cell? ⟨g, off + j * 7 + q, none⟩ = some u
theorem Supers.at_ {w wr : World} {A : Option Addr} {n j : Nat} (h : Supers w A n) (hb : Below w.heap.size w wr) (hj : j < n) :
    ∃ g off, A = some ⟨g, off, none⟩ ∧ g < w.heap.size ∧ ∃ a0 a1 a2 a3 a4 a5 a6 : Int, wr.cell? ⟨g, off + j * 7, none⟩ = some (.int .i64 a0) ∧ wr.cell? ⟨g, off + j * 7 + 1, none⟩ = some (.int .i64 a1) ∧ wr.cell? ⟨g, off + j * 7 + 2, none⟩ = some (.int .i64 a2) ∧ wr.cell? ⟨g, off + j * 7 + 3, none⟩ = some (.int .i64 a3) ∧ wr.cell? ⟨g, off + j * 7 + 4, none⟩ = some (.int .i64 a4) ∧ wr.cell? ⟨g, off + j * 7 + 5, none⟩ = some (.int .i64 a5) ∧ wr.cell? ⟨g, off + j * 7 + 6, none⟩ = some (.int .i64 a6) := by
  obtain ⟨g, off, rfl, hlt, hall⟩ := h (by omega)
  obtain ⟨a0, a1, a2, a3, a4, a5, a6, hc⟩ := hall j hj
  have hk : ∀ q u, [Value.int .i64 a0, .int .i64 a1, .int .i64 a2, .int .i64 a3, .int .i64 a4, .int .i64 a5, .int .i64 a6][q]? = some u → wr.cell? ⟨g, off + j * 7 + q, none⟩ = some u := fun q u hq => by
    rw [World.cell?_of_block (a := ⟨g, off + j * 7 + q, none⟩) (hb.block g hlt)]; exact hc q u hq
  exact ⟨g, off, rfl, hlt, a0, a1, a2, a3, a4, a5, a6, hk 0 _ rfl, hk 1 _ rfl, hk 2 _ rfl, hk 3 _ rfl, hk 4 _ rfl, hk 5 _ rfl, hk 6 _ rfl⟩
set_option maxRecDepth 100000 in
theorem open_supers {H : Type} {enc : TypeId × Value → H} {W : World} {base : Nat} {v : Value} {d : DataW H} {p : List MemPlace} (o : Value.okWide Try.prog W .any base 28 v) (h : DataW.Trod enc Try.prog W 0 (fun _ => true) true 28 v d p) :
    ∃ A n c, v = .slice A n c ∧ Supers W A n ∧ n ≤ c ∧ c ≤ maxLen ∧ (n = 0 ∨ ∃ el sp, d = .slice el sp ∧ el.length = n) := by
  obtain ⟨A, n, c, rfl⟩ := okWide_slice Try.underlying28 o
  obtain ⟨fuel, hf⟩ := h
  rcases DataW.trod_slice Try.underlying28 hf with ⟨hcs, _⟩ | ⟨a, len, cap, elems, rest, m, _, hcs, hx, _, hl, hm, hlen, hel, _, _⟩
  · simp [Value.cells] at hcs
    obtain ⟨rfl, rfl, rfl⟩ := hcs
    exact ⟨_, _, _, rfl, fun h => by omega, Nat.le_refl _, by simp [maxLen], .inl rfl⟩
  · simp [Value.cells] at hcs
    obtain ⟨rfl, rfl, rfl⟩ := hcs
    rw [show Try.prog.cellsOf 23 = 7 from by kernel_rfl] at hel
    have each : ∀ j, j < n → ∃ a0 a1 a2 a3 a4 a5 a6 : Int, ∀ q u, [Value.int .i64 a0, .int .i64 a1, .int .i64 a2, .int .i64 a3, .int .i64 a4, .int .i64 a5, .int .i64 a6][q]? = some u → W.cell? (a.add (j * 7 + q)) = some u := by
      intro j hj
      have h1 := hel j hj
      rw [List.getElem?_eq_getElem (by omega), Option.bind_eq_some_iff] at h1
      obtain ⟨ds, hds, hy⟩ := h1
      obtain ⟨a0, a1, a2, a3, a4, a5, a6, rfl⟩ := super_came hy
      refine ⟨a0, a1, a2, a3, a4, a5, a6, fun q u hq => ?_⟩
      have hq7 : q < 7 := (List.getElem?_eq_some_iff.1 hq).1
      have h2 := (World.cells?_some hds).2.2 q hq7
      rw [hq] at h2
      have e : (a.add (j * 7)).add q = a.add (j * 7 + q) := by
        unfold Addr.add
        split <;> split <;> (try split) <;> simp_all <;> omega
      rw [← e]; exact h2
    refine ⟨_, _, _, rfl, fun hn => ?_, hl, hm, .inr ⟨_, _, congrArg Prod.fst hx, by simp [hlen]⟩⟩
    obtain ⟨g, off, sp⟩ := a
    obtain ⟨a0, _, _, _, _, _, _, hz⟩ := each 0 hn
    have h0 := hz 0 _ rfl
    have hsp : sp = none := by simpa [Addr.add] using World.cell?_spot h0
    subst hsp
    have hlt : g < W.heap.size := by have := World.block_lt_of_cell? W _ h0; simpa [Addr.add] using this
    refine ⟨g, off, rfl, hlt, fun j hj => ?_⟩
    obtain ⟨a0, a1, a2, a3, a4, a5, a6, hz⟩ := each j hj
    refine ⟨a0, a1, a2, a3, a4, a5, a6, fun q u hq => ?_⟩
    have h1 := hz q u hq
    rw [Addr.add_mid, ← Nat.add_assoc] at h1
    exact h1
end Go.Proofs.Ytagikgejhckfbaa.Sup
/- The document's Check. -/
namespace Go.Proofs.Ytagikgejhckfbaa.Sup
open Go.RowKit CrcMath CodecMath Mem Crc Codec

set_option maxRecDepth 100000 in
set_option maxHeartbeats 1600000 in
theorem refcheck_any (a0 a1 a2 a3 a4 a5 a6 n : Int) (w : World) :
    Calls Try.prog 7 #[.agg #[.int .i64 a0, .int .i64 a1, .int .i64 a2, .int .i64 a3, .int .i64 a4, .int .i64 a5, .int .i64 a6], .int .i64 n] w fun e w' => e = .returned (.int .i64 (checkE [a0, a1, a2, a3, a4, a5, a6] n)) ∧ w.grownBy w' none := by
  have hb := Blk.new w 23 #[.int .i64 a0, .int .i64 a1, .int .i64 a2, .int .i64 a3, .int .i64 a4, .int .i64 a5, .int .i64 a6]
  have HG0 := Lib.hid (World.grownBy_alloc w (.cells #[.int .i64 a0, .int .i64 a1, .int .i64 a2, .int .i64 a3, .int .i64 a4, .int .i64 a5, .int .i64 a6] 23) none)
  have HB := Lib.hid hb
  have x0 := hb.cell 0; have x1 := hb.cell 1; have x2 := hb.cell 2; have x3 := hb.cell 3; have x4 := hb.cell 4; have x5 := hb.cell 5; have x6 := hb.cell 6
  simp only [List.getElem?_toArray, List.getElem?_cons_zero, List.getElem?_cons_succ] at x0 x1 x2 x3 x4 x5 x6
  cases hok : superW [a0, a1, a2, a3, a4, a5, a6] with
  | none =>
    have HM := Lib.hid (show checkE [a0, a1, a2, a3, a4, a5, a6] n = 1 by simp [checkE, mayB, superOk_none hok])
    have HOK := Lib.hid hok; clear hok hb
    go_enter Try.func7, Try.ntmps7
    go_wp2_with fail
    refine (ref_put_super a0 a1 a2 a3 a4 a5 a6 _).mono ?_
    rintro e w1 ⟨hg1, hW⟩
    rw [HOK.out] at hW
    rcases hW with ⟨l, v, ho, _⟩ | ⟨_, rfl⟩
    · cases ho
    have HG1 := Lib.hid (HG0.out.trans hg1); clear hg1 x0 x1 x2 x3 x4 x5 x6
    go_wp2
    go_ret
    exact ⟨by rw [HM.out]; first | done | rfl, HG1.out⟩
  | some L =>
    have hyes : superOk [a0, a1, a2, a3, a4, a5, a6] = true := by
      cases hh : superOk [a0, a1, a2, a3, a4, a5, a6] with
      | true => rfl
      | false => simp [superW, hh] at hok
    have b2 : 0 ≤ a2 ∧ a2 ≤ 1099511627776 := superOk_at hyes 2 (by simp)
    have b3 : 0 ≤ a3 ∧ a3 ≤ 1099511627776 := superOk_at hyes 3 (by simp)
    have b4 : 0 ≤ a4 ∧ a4 ≤ 1099511627776 := superOk_at hyes 4 (by simp)
    have hw1 : IntKind.i64.wrap (2 + a2) = 2 + a2 := IntWalk.i64_in _ (by omega)
    have hw2 : IntKind.i64.wrap (a3 + a4) = a3 + a4 := IntWalk.i64_in _ (by omega)
    have hr : checkE [a0, a1, a2, a3, a4, a5, a6] n = if (decide (16 ≤ a2) && (decide (a2 ≤ 1024) && (decide (2 + a2 ≤ a3) && (decide (64 ≤ a4) && (decide (a3 + a4 ≤ n) && decide (a5 < a4)))))) = true then 0 else 1 := by
      show (if (superOk [a0, a1, a2, a3, a4, a5, a6] && roomB [a0, a1, a2, a3, a4, a5, a6] n) = true then 0 else 1) = _
      rw [hyes]
      rfl
    have HOK := Lib.hid hok
    have HPUT := Lib.hid (fun wx => ref_put_super a0 a1 a2 a3 a4 a5 a6 wx)
    clear hok hyes b2 b3 b4 hb
    generalize checkE [a0, a1, a2, a3, a4, a5, a6] n = r at *
    clear x0 x1 x2 x3 x4 x5 x6
    by_cases h1 : 16 ≤ a2
    · by_cases h2 : a2 ≤ 1024
      · by_cases h3 : 2 + a2 ≤ a3
        · by_cases h4 : 64 ≤ a4
          · by_cases h5 : a3 + a4 ≤ n
            · by_cases h6 : a5 < a4
              · have HR := Lib.hid (show r = 0 by rw [hr]; simp [h1, h2, h3, h4, h5, h6]); clear hr
                go_enter Try.func7, Try.ntmps7
                go_wp2_with fail
                refine (HPUT.out _).mono ?_
                rintro e w1 ⟨hg1, hW⟩
                rw [HOK.out] at hW
                rcases hW with ⟨l, v, ho, rfl, _⟩ | ⟨ho, _⟩
                case inr => cases ho
                have HG1 := Lib.hid (HG0.out.trans hg1)
                have hb1 := HB.out.grown hg1 (by simp)
                have y0 := hb1.cell 0; have y1 := hb1.cell 1; have y2 := hb1.cell 2; have y3 := hb1.cell 3; have y4 := hb1.cell 4; have y5 := hb1.cell 5; have y6 := hb1.cell 6
                simp only [List.getElem?_toArray, List.getElem?_cons_zero, List.getElem?_cons_succ] at y0 y1 y2 y3 y4 y5 y6
                clear hg1 hb1 ho
                go_wp2
                go_ret
                exact ⟨by rw [HR.out]; first | done | rfl, HG1.out⟩
              · have HR := Lib.hid (show r = 1 by rw [hr]; simp [h6]); clear hr
                go_enter Try.func7, Try.ntmps7
                go_wp2_with fail
                refine (HPUT.out _).mono ?_
                rintro e w1 ⟨hg1, hW⟩
                rw [HOK.out] at hW
                rcases hW with ⟨l, v, ho, rfl, _⟩ | ⟨ho, _⟩
                case inr => cases ho
                have HG1 := Lib.hid (HG0.out.trans hg1)
                have hb1 := HB.out.grown hg1 (by simp)
                have y0 := hb1.cell 0; have y1 := hb1.cell 1; have y2 := hb1.cell 2; have y3 := hb1.cell 3; have y4 := hb1.cell 4; have y5 := hb1.cell 5; have y6 := hb1.cell 6
                simp only [List.getElem?_toArray, List.getElem?_cons_zero, List.getElem?_cons_succ] at y0 y1 y2 y3 y4 y5 y6
                clear hg1 hb1 ho
                go_wp2
                go_ret
                exact ⟨by rw [HR.out]; first | done | rfl, HG1.out⟩
            · have HR := Lib.hid (show r = 1 by rw [hr]; simp [h5]); clear hr
              go_enter Try.func7, Try.ntmps7
              go_wp2_with fail
              refine (HPUT.out _).mono ?_
              rintro e w1 ⟨hg1, hW⟩
              rw [HOK.out] at hW
              rcases hW with ⟨l, v, ho, rfl, _⟩ | ⟨ho, _⟩
              case inr => cases ho
              have HG1 := Lib.hid (HG0.out.trans hg1)
              have hb1 := HB.out.grown hg1 (by simp)
              have y0 := hb1.cell 0; have y1 := hb1.cell 1; have y2 := hb1.cell 2; have y3 := hb1.cell 3; have y4 := hb1.cell 4; have y5 := hb1.cell 5; have y6 := hb1.cell 6
              simp only [List.getElem?_toArray, List.getElem?_cons_zero, List.getElem?_cons_succ] at y0 y1 y2 y3 y4 y5 y6
              clear hg1 hb1 ho
              go_wp2
              go_ret
              exact ⟨by rw [HR.out]; first | done | rfl, HG1.out⟩
          · have HR := Lib.hid (show r = 1 by rw [hr]; simp [h4]); clear hr
            go_enter Try.func7, Try.ntmps7
            go_wp2_with fail
            refine (HPUT.out _).mono ?_
            rintro e w1 ⟨hg1, hW⟩
            rw [HOK.out] at hW
            rcases hW with ⟨l, v, ho, rfl, _⟩ | ⟨ho, _⟩
            case inr => cases ho
            have HG1 := Lib.hid (HG0.out.trans hg1)
            have hb1 := HB.out.grown hg1 (by simp)
            have y0 := hb1.cell 0; have y1 := hb1.cell 1; have y2 := hb1.cell 2; have y3 := hb1.cell 3; have y4 := hb1.cell 4; have y5 := hb1.cell 5; have y6 := hb1.cell 6
            simp only [List.getElem?_toArray, List.getElem?_cons_zero, List.getElem?_cons_succ] at y0 y1 y2 y3 y4 y5 y6
            clear hg1 hb1 ho
            go_wp2
            go_ret
            exact ⟨by rw [HR.out]; first | done | rfl, HG1.out⟩
        · have HR := Lib.hid (show r = 1 by rw [hr]; simp [h3]); clear hr
          go_enter Try.func7, Try.ntmps7
          go_wp2_with fail
          refine (HPUT.out _).mono ?_
          rintro e w1 ⟨hg1, hW⟩
          rw [HOK.out] at hW
          rcases hW with ⟨l, v, ho, rfl, _⟩ | ⟨ho, _⟩
          case inr => cases ho
          have HG1 := Lib.hid (HG0.out.trans hg1)
          have hb1 := HB.out.grown hg1 (by simp)
          have y0 := hb1.cell 0; have y1 := hb1.cell 1; have y2 := hb1.cell 2; have y3 := hb1.cell 3; have y4 := hb1.cell 4; have y5 := hb1.cell 5; have y6 := hb1.cell 6
          simp only [List.getElem?_toArray, List.getElem?_cons_zero, List.getElem?_cons_succ] at y0 y1 y2 y3 y4 y5 y6
          clear hg1 hb1 ho
          go_wp2
          go_ret
          exact ⟨by rw [HR.out]; first | done | rfl, HG1.out⟩
      · have HR := Lib.hid (show r = 1 by rw [hr]; simp [h2]); clear hr
        go_enter Try.func7, Try.ntmps7
        go_wp2_with fail
        refine (HPUT.out _).mono ?_
        rintro e w1 ⟨hg1, hW⟩
        rw [HOK.out] at hW
        rcases hW with ⟨l, v, ho, rfl, _⟩ | ⟨ho, _⟩
        case inr => cases ho
        have HG1 := Lib.hid (HG0.out.trans hg1)
        have hb1 := HB.out.grown hg1 (by simp)
        have y0 := hb1.cell 0; have y1 := hb1.cell 1; have y2 := hb1.cell 2; have y3 := hb1.cell 3; have y4 := hb1.cell 4; have y5 := hb1.cell 5; have y6 := hb1.cell 6
        simp only [List.getElem?_toArray, List.getElem?_cons_zero, List.getElem?_cons_succ] at y0 y1 y2 y3 y4 y5 y6
        clear hg1 hb1 ho
        go_wp2
        go_ret
        exact ⟨by rw [HR.out]; first | done | rfl, HG1.out⟩
    · have HR := Lib.hid (show r = 1 by rw [hr]; simp [h1]); clear hr
      go_enter Try.func7, Try.ntmps7
      go_wp2_with fail
      refine (HPUT.out _).mono ?_
      rintro e w1 ⟨hg1, hW⟩
      rw [HOK.out] at hW
      rcases hW with ⟨l, v, ho, rfl, _⟩ | ⟨ho, _⟩
      case inr => cases ho
      have HG1 := Lib.hid (HG0.out.trans hg1)
      have hb1 := HB.out.grown hg1 (by simp)
      have y0 := hb1.cell 0; have y1 := hb1.cell 1; have y2 := hb1.cell 2; have y3 := hb1.cell 3; have y4 := hb1.cell 4; have y5 := hb1.cell 5; have y6 := hb1.cell 6
      simp only [List.getElem?_toArray, List.getElem?_cons_zero, List.getElem?_cons_succ] at y0 y1 y2 y3 y4 y5 y6
      clear hg1 hb1 ho
      go_wp2
      go_ret
      exact ⟨by rw [HR.out]; first | done | rfl, HG1.out⟩
end Go.Proofs.Ytagikgejhckfbaa.Sup
