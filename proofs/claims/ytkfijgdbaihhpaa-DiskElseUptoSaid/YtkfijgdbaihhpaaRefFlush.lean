/- The document's disk: Flush. -/
import Derived.Test.YtkfijgdbaihhpaaRefRead
namespace Go.Proofs.Ytkfijgdbaihhpaa.Dsk
open Go.RowKit Mem Crc DiskSpec

theorem settles_range {S : St} (h : S.ok) : S.settles (List.range S.n) = S.flush := by
  obtain ⟨r1, r2, r3, r4, r5⟩ := settles_rest S (List.range S.n)
  refine St.ext' r1 (funext fun i => ?_) (funext fun i => ?_) r2 r3 r4 r5
  · rw [(settles_at S (List.range S.n) i).1]
    split
    · rfl
    · rename_i hi
      exact (St.now_nil (h.out i (by simpa using hi))).symm
  · rw [(settles_at S (List.range S.n) i).2]
    split
    · rfl
    · rename_i hi
      exact h.out i (by simpa using hi)
theorem settles_now {S : St} (j : Nat) : (S.settles (List.range j)).now j = S.now j := by
  have h := settles_at S (List.range j) j
  have hn : ¬ j ∈ List.range j := by simp
  rw [if_neg hn, if_neg hn] at h
  rw [St.now, h.1, h.2]; rfl

set_option maxRecDepth 100000 in
set_option maxHeartbeats 1600000 in
theorem ref_flush_ok {w : World} {B r bl c : Nat} {dv vv : Nat → Value} {vs : Nat → List Value} {S : St} {own : Nat → Prop} (h : RLay w B r bl c dv vv vs S own) (hf3 : S.f3 ≠ 1) (hlf : S.left ≠ 0) :
    Calls Try.prog 29 #[.pointer (some ⟨r, 0, none⟩)] w fun e w' => e = .returned (.int .i64 0) ∧ (∃ dv' vv' vs', RLay w' B r bl c dv' vv' vs' ({ S with f3 := S.f3 - 1 } : St).flush.done own) ∧ Turn w w' own own := by
  have HD := Lib.hid (ref_fails3 h)
  rw [show decide (S.f3 = 1) = false by simp [hf3]] at HD
  have HOB := Lib.hid h.ownR
  have hcap := h.cap
  have htop := h.ok.top
  have hne0 := hlf
  clear h
  generalize hT : ({ S with f3 := S.f3 - 1 } : St) = T at *
  have htn : T.n = S.n := by rw [← hT]
  have htl : T.left = S.left := by rw [← hT]
  rw [← htn] at hcap htop
  rw [← htl] at hne0
  clear hT htn htl hlf hf3
  go_enter Try.func29, Try.ntmps29
  go_wp2_with fail
  refine HD.out.mono ?_
  rintro e w1 ⟨rfl, hg1, hl1⟩
  have hc5 := hl1.r5
  have hl0 : (T.left == 0) = false := by simp; exact hne0
  have HT1 := Lib.hid (Turn.of_grown (own := own) hg1 (fun q e => by cases e; exact HOB.out)); have H1 := Lib.hid hl1; clear hg1 hl1
  generalize hle : T.left = le at *
  have HLE := Lib.hid hle; clear hle
  go_wp2_with fail
  go_loopw [3] (fun i wr => ∃ (j : Nat) (dv' vv' : Nat → Value) (vs' : Nat → List Value), j ≤ T.n ∧ i = .int .i64 j ∧ RLay wr B r bl c dv' vv' vs' (T.settles (List.range j)) own ∧ Turn w1 wr own own) (fun i _ => T.n - (Go.RowKit.intOf i).toNat)
  case atStart => exact ⟨0, dv, vv, vs, by omega, rfl, H1.out, Turn.refl _ _⟩
  case round =>
    obtain ⟨j, dv', vv', vs', hj, rfl, hl, ht⟩ := hrel
    have hc0 := hl.rc
    have hn : (T.settles (List.range j)).n = T.n := (settles_rest T _).1
    rw [hn] at hc0
    have HL := Lib.hid hl; have HTU := Lib.hid ht; clear hl ht
    by_cases hlt : j < T.n
    · have hltj : j < (T.settles (List.range j)).n := by omega
      have hnow := settles_now (S := T) j
      have HLA := Lib.hid (fun wx (hg : wr.grownBy wx none) => (ref_last (HL.out.grown hg (fun _ e => by cases e)) j hltj))
      have HK0 := Lib.hid (show wr.drew.cell? ⟨r, 0, none⟩ = some (.slice (some ⟨bl, 0, none⟩) T.n c) by exact hc0)
      have HGD := Lib.hid (grown_drew wr none)
      have HSN := Lib.hid (show T.settles (List.range (j + 1)) = (T.settles (List.range j)).settle j by rw [List.range_succ, settles_snoc])
      go_wp2_with fail
      go_region_held3 (fun wx => wx.cell? ⟨r, 0, none⟩ = some (.slice (some ⟨bl, 0, none⟩) T.n c))
        (first
          | exact HK0.out
          | exact HK1.out
          | exact HK2.out)
        (first
          | (go_at_call 40
             refine (HLA.out _ HGD.out).mono ?_
             rintro e w2 ⟨v, rfl, hby, hg2⟩
             have hl2 := HL.out.grown (HGD.out.trans hg2) (fun _ e => by cases e)
             have HK1 := Lib.hid (show w2.cell? ⟨r, 0, none⟩ = some (.slice (some ⟨bl, 0, none⟩) T.n c) by rw [← hn]; exact hl2.rc)
             have hset := hl2.settle hltj hby
             obtain ⟨g2, c2, rfl, _⟩ := hby.reads
             have hset2 := hset
             rw [hnow] at hset2
             have HSET := Lib.hid (show RLay _ B r bl c (upd dv' j (.slice (some ⟨g2, 0, none⟩) 256 c2)) (upd vv' j (.slice none 0 0)) (upd vs' j []) (T.settles (List.range (j + 1))) own by rw [HSN.out, St.settle, hnow]; exact hset2)
             clear hset2
             have HK2 := Lib.hid (show ((w2.setCell ⟨bl, j * 2, none⟩ (.slice (some ⟨g2, 0, none⟩) 256 c2)).setCell ⟨bl, j * 2 + 1, none⟩ (.slice none 0 0)).cell? ⟨r, 0, none⟩ = some (.slice (some ⟨bl, 0, none⟩) T.n c) by rw [← hn]; exact hset.rc)
             have hcd := hl2.cd hltj; have hcv := hl2.cv hltj; have hf0 := hl2.lfz (j * 2); have hf1 := hl2.lfz (j * 2 + 1)
             have HTX := Lib.hid ((HTU.out.trans (Turn.none_ (HGD.out.trans hg2))).trans (Turn.of_grown (Lib.grownBy_setB (Lib.grownBy_setB (World.grownBy.refl w2 (some bl)) (j * 2) (.slice (some ⟨g2, 0, none⟩) 256 c2)) (j * 2 + 1) (.slice none 0 0)) (fun q e => by cases e; exact HL.out.ownL)))
             clear hl2 hset hby hg2))
      go_wp2_with fail
      go_roundw
      case rel => exact ⟨j + 1, _, _, _, by omega, by go_num, HSET.out, HTX.out⟩
      case measure => simp [Go.RowKit.intOf]; omega
    · obtain rfl : j = T.n := by omega
      have hall := settles_range H1.out.ok
      rw [hall] at HL
      have HDN := Lib.hid (ref_done HL.out)
      go_wp2_with fail
      refine HDN.out.mono ?_
      rintro e w9 ⟨rfl, hg9, hl9⟩
      have HL9 := Lib.hid hl9; have HT9 := Lib.hid ((HT1.out.trans HTU.out).trans (Turn.of_grown hg9 (fun q e => by cases e; exact HOB.out))); clear hl9 hg9
      go_wp2
      go_ret
      exact ⟨rfl, ⟨dv', vv', vs', HL9.out⟩, HT9.out⟩

set_option maxHeartbeats 800000 in
theorem ref_flush_stop {w : World} {B r bl c : Nat} {dv vv : Nat → Value} {vs : Nat → List Value} {S : St} {own : Nat → Prop} (h : RLay w B r bl c dv vv vs S own) (hs : S.f3 = 1 ∨ S.left = 0) :
    Calls Try.prog 29 #[.pointer (some ⟨r, 0, none⟩)] w fun e w' => e = .returned (.int .i64 12) ∧ RLay w' B r bl c dv vv vs { S with f3 := S.f3 - 1 } own ∧ Turn w w' own own := by
  have HD := Lib.hid (ref_fails3 h)
  have HOB := Lib.hid h.ownR
  clear h
  by_cases hf : S.f3 = 1
  · rw [show decide (S.f3 = 1) = true by simp [hf]] at HD
    clear hs hf
    generalize ({ S with f3 := S.f3 - 1 } : St) = T at *
    go_enter Try.func29, Try.ntmps29
    go_wp2_with fail
    refine HD.out.mono ?_
    rintro e w1 ⟨rfl, hg1, hl1⟩
    have HG1 := Lib.hid hg1; have H1 := Lib.hid hl1; clear hg1 hl1
    go_wp2
    go_ret
    exact ⟨rfl, H1.out, Turn.of_grown HG1.out (fun q e => by cases e; exact HOB.out)⟩
  · have hl0 : S.left = 0 := by rcases hs with h | h; exact absurd h hf; exact h
    rw [show decide (S.f3 = 1) = false by simp [hf]] at HD
    have hleft : ({ S with f3 := S.f3 - 1 } : St).left = 0 := hl0
    clear hs hf hl0
    generalize ({ S with f3 := S.f3 - 1 } : St) = T at *
    go_enter Try.func29, Try.ntmps29
    go_wp2_with fail
    refine HD.out.mono ?_
    rintro e w1 ⟨rfl, hg1, hl1⟩
    have hc5 := hl1.r5
    rw [hleft] at hc5
    have HG1 := Lib.hid hg1; have H1 := Lib.hid hl1; clear hg1 hl1 hleft
    go_wp2
    go_ret
    exact ⟨rfl, H1.out, Turn.of_grown HG1.out (fun q e => by cases e; exact HOB.out)⟩
end Go.Proofs.Ytkfijgdbaihhpaa.Dsk
