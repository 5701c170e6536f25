/- The document's disk: Crash. -/
import Derived.Test.YtagikgejhckfbaaGreatMRefFail
import Derived.Test.YtagikgejhckfbaaGreatMDiskFlush
namespace Go.Proofs.YtagikgejhckfbaaGreat.Dsk
open Go.RowKit Mem Crc DiskSpec

/-- Versions behind the first k dirty sectors. -/
def crashV (S : St) (k : Nat) : Nat → List (List Nat) := fun i => if S.dirty.idxOf i < k then [] else S.ver i
theorem crashVer_zero (S : St) : crashV S 0 = S.ver := by funext i; simp [crashV]
theorem crashVer_step (S : St) {k a : Nat} (hk : S.dirty[k]? = some a) : crashV S (k + 1) = upd (crashV S k) a [] := by
  have hkl : k < S.dirty.length := (List.getElem?_eq_some_iff.1 hk).1
  have hka : S.dirty[k] = a := (List.getElem?_eq_some_iff.1 hk).2
  have hid : S.dirty.idxOf a = k := by rw [← hka]; exact (dirty_nodup S).idxOf_getElem k hkl
  funext i
  by_cases hi : i = a
  · subst hi; simp [crashV, upd, hid]
  · have hne : S.dirty.idxOf i ≠ k := by
      intro e
      have hil : S.dirty.idxOf i < S.dirty.length := by omega
      have := List.getElem_idxOf hil
      apply hi
      rw [← this, ← hka]
      simp [e]
    simp only [crashV, upd, hi, if_false]
    by_cases h1 : S.dirty.idxOf i < k
    · rw [if_pos h1, if_pos (by omega)]
    · rw [if_neg h1, if_neg (by omega)]
theorem crashVer_end {S : St} (h : S.ok) : crashV S S.dirty.length = fun _ => [] := by
  funext i
  unfold crashV
  split
  · rfl
  · rename_i hlt
    have hn : ¬ i ∈ S.dirty := fun hm => hlt (List.idxOf_lt_length_of_mem hm)
    rcases Nat.lt_or_ge i S.n with h1 | h1
    · exact Classical.byContradiction fun hne => hn ((mem_dirty i).2 ⟨h1, hne⟩)
    · exact h.out i h1
theorem crash_at {S : St} (picks : List Int) {k a : Nat} (hk : S.dirty[k]? = some a) : S.crashDur picks k a = S.dur a ∧ crashV S k a = S.ver a := by
  have hkl : k < S.dirty.length := (List.getElem?_eq_some_iff.1 hk).1
  have hka : S.dirty[k] = a := (List.getElem?_eq_some_iff.1 hk).2
  have hid : S.dirty.idxOf a = k := by rw [← hka]; exact (dirty_nodup S).idxOf_getElem k hkl
  exact ⟨by simp [St.crashDur, hid], by simp [crashV, hid]⟩
theorem own_nats {w : World} {base n : Nat} {v : Value} {l : List Nat} (h : Own w base 3 1 v n (nats l)) : n = l.length ∧ ∃ A c, v = .slice A n c ∧ ∀ j, j < n → ∃ g, A = some ⟨g, 0, none⟩ ∧ base ≤ g ∧ g < w.heap.size ∧ w.cell? ⟨g, j, none⟩ = some (.int .i64 (l.getD j 0 : Nat)) := by
  have hn : n = l.length := by have := h.len; rw [nats_length] at this; omega
  obtain ⟨A, c, rfl, _, _, _⟩ := h.shape
  refine ⟨hn, A, c, rfl, fun j hj => ?_⟩
  obtain ⟨g, cap, e, hb, hlt, _, _, hc⟩ := h.reads (by omega)
  simp only [Value.slice.injEq] at e
  obtain ⟨rfl, _, _⟩ := e
  refine ⟨g, rfl, hb, hlt, ?_⟩
  rw [hc j _ (nats_at l j (by omega)), List.getD_eq_getElem?_getD, List.getElem?_eq_getElem (by omega)]; rfl

set_option maxRecDepth 100000 in
set_option maxHeartbeats 3200000 in
theorem ref_crash {w : World} {B r bl c : Nat} {dv vv : Nat → Value} {vs : Nat → List Value} {S : St} {own : Nat → Prop} (h : RLay w B r bl c dv vv vs S own) (A : Option Addr) (n cc : Nat) (picks : List Int) (hp : Picks w own A n picks) (hnm : n ≤ 9223372036854775807) (hroom : ∀ i, (S.ver i).length < 549755813888) :
    Calls Tryz.prog 16 #[.pointer (some ⟨r, 0, none⟩), .slice A n cc] w fun e w' => e = .returned (.tuple #[]) ∧ (∃ dv' vv' vs', RLay w' B r bl c dv' vv' vs' (S.crash picks) own) ∧ Turn w w' own own := by
  have HDY := Lib.hid (ref_dirty h)
  have htop := h.ok.top
  have hcap := h.cap
  have hdl := dirty_le S
  have HOK := Lib.hid h.ok
  have HOB := Lib.hid h.ownR
  have HOL := Lib.hid h.ownL
  have H1 := Lib.hid h
  have HP := Lib.hid hp
  have HROOM := Lib.hid hroom
  clear hp h hroom
  go_enter Tryz.func16, Tryz.ntmps16
  go_wp2_with fail
  refine HDY.out.mono ?_
  rintro e w2 ⟨v, rfl, hrow, hg2⟩
  obtain ⟨_, A', c', rfl, hcells⟩ := own_nats hrow
  have HCELL := Lib.hid hcells
  have HL2 := Lib.hid (H1.out.grown hg2 (fun _ e => by cases e))
  have HT2 := Lib.hid (Turn.none_ (own := own) hg2)
  have HNEW := Lib.hid (fun g (hg : w.heap.size ≤ g) (ho : own g) => by have := H1.out.lt g ho; omega : ∀ g, w.heap.size ≤ g → ¬ own g)
  clear hrow hg2 hcells
  go_wp2_with fail
  go_loopw [5, 6, 7, 8] (fun i _ _ _ wr => ∃ (j : Nat) (dv' vv' : Nat → Value) (vs' : Nat → List Value), j ≤ S.dirty.length ∧ i = .int .i64 j ∧ RLay wr B r bl c dv' vv' vs' { S with dur := S.crashDur picks j, ver := crashV S j } own ∧ Turn w2 wr own own) (fun i _ _ _ _ => S.dirty.length - (Go.RowKit.intOf i).toNat)
  case atStart => exact ⟨0, dv, vv, vs, by omega, rfl, by rw [crashDur_zero, crashVer_zero]; exact HL2.out, Turn.refl _ _⟩
  case round =>
    obtain ⟨j, dv', vv', vs', hj, rfl, hl, ht⟩ := hrel
    have HL := Lib.hid hl; have HTU := Lib.hid ht; clear hl ht
    by_cases hlt : j < S.dirty.length
    · obtain ⟨g, rfl, hgb, hgl, hc⟩ := HCELL.out j hlt
      have hcj : wr.cell? ⟨g, j, none⟩ = some (.int .i64 (S.dirty.getD j 0 : Nat)) := by
        rw [World.cell?_of_block (a := ⟨g, j, none⟩) (HTU.out.block g hgl (HNEW.out g hgb))]; exact hc
      have hatj : S.dirty[j]? = some (S.dirty.getD j 0) := by rw [List.getD_eq_getElem?_getD, List.getElem?_eq_getElem hlt]; rfl
      have hmem := (mem_dirty (S.dirty.getD j 0)).1 (List.mem_of_getElem? hatj)
      have hstepd := crashDur_step S picks hatj
      have hstepv := crashVer_step S hatj
      have hcat := crash_at picks hatj
      have hgno := HNEW.out g hgb
      have hglr : g < wr.heap.size := Nat.lt_of_lt_of_le hgl HTU.out.size
      clear hc
      generalize S.dirty.getD j 0 = at_ at *
      generalize hpk : picks.getD j 0 = pk at *
      obtain ⟨hatn, hver⟩ := hmem
      obtain ⟨A2, m, cap, hvv, hm, hmc, hcm, _, _⟩ := HL.out.now hatn
      have hml : m = (S.ver at_).length := by rw [hm]; exact congrArg List.length hcat.2
      have hm0 : 0 < m := by rw [hml]; exact List.length_pos_iff.2 hver
      have hmr := HROOM.out at_
      rw [← hml] at hmr
      have hpart : Part wr own (dv' at_) (vv' at_) (vs' at_) (S.crashDur picks j at_) (crashV S j at_) := HL.out.part at_ hatn
      rw [hcat.1, hcat.2] at hpart
      have hcd := HL.out.cd hatn; have hcv := HL.out.cv hatn; have hrc := HL.out.rc
      rw [hvv] at hcv hpart
      obtain ⟨gd, cd, hdi⟩ : ∃ gd cd, dv' at_ = .slice (some ⟨gd, 0, none⟩) 256 cd := by obtain ⟨g, c', _, _, e, _⟩ := hpart.dur; exact ⟨g, c', e⟩
      rw [hdi] at hcd hpart
      have hWX := (World.grownBy_alloc wr (.cells #[.slice (some ⟨gd, 0, none⟩) 256 cd, .slice A2 m cap] 73) none).trans (grown_drew _ none)
      have HWX := Lib.hid hWX
      have hlX := HL.out.grown hWX (fun _ e => by cases e)
      have hbX := (Blk.new wr 73 #[.slice (some ⟨gd, 0, none⟩) 256 cd, .slice A2 m cap]).drew
      have hX0 := hbX.cell 0; have hX1 := hbX.cell 1
      simp only [List.getElem?_toArray, List.getElem?_cons_zero, List.getElem?_cons_succ] at hX0 hX1
      have hcjX : (wr.alloc (.cells #[.slice (some ⟨gd, 0, none⟩) 256 cd, .slice A2 m cap] 73)).drew.cell? ⟨g, j, none⟩ = some (.int .i64 (at_ : Nat)) := (World.cell?_of_block (a := ⟨g, j, none⟩) (hWX.block g hglr (by simp))).trans hcj
      have HK0 := Lib.hid (show wr.drew.cell? ⟨r, 0, none⟩ = some (.slice (some ⟨bl, 0, none⟩) S.n c) ∧ wr.drew.cell? ⟨g, j, none⟩ = some (.int .i64 (at_ : Nat)) ∧ wr.drew.cell? ⟨bl, at_ * 2, none⟩ = some (.slice (some ⟨gd, 0, none⟩) 256 cd) ∧ wr.drew.cell? ⟨bl, at_ * 2 + 1, none⟩ = some (.slice A2 m cap) from ⟨hrc, hcj, hcd, hcv⟩)
      have hl1 := HL.out.alloc (.cells #[.slice none 0 0, .slice none 0 0] 73)
      have hc1 := hl1.cd hatn; have hc2 := hl1.cv hatn
      rw [hdi] at hc1
      rw [hvv] at hc2
      have HK1 := Lib.hid (show (wr.alloc (.cells #[.slice none 0 0, .slice none 0 0] 73)).drew.cell? ⟨r, 0, none⟩ = some (.slice (some ⟨bl, 0, none⟩) S.n c) ∧ (wr.alloc (.cells #[.slice none 0 0, .slice none 0 0] 73)).drew.cell? ⟨g, j, none⟩ = some (.int .i64 (at_ : Nat)) ∧ (wr.alloc (.cells #[.slice none 0 0, .slice none 0 0] 73)).drew.cell? ⟨bl, at_ * 2, none⟩ = some (.slice (some ⟨gd, 0, none⟩) 256 cd) ∧ (wr.alloc (.cells #[.slice none 0 0, .slice none 0 0] 73)).drew.cell? ⟨bl, at_ * 2 + 1, none⟩ = some (.slice A2 m cap) from
        ⟨hl1.rc, (World.cell?_of_block (a := ⟨g, j, none⟩) (Below.heap_alloc wr _ g hglr)).trans hcj, hc1, hc2⟩)
      have hcX1 := hlX.cd hatn; have hcX2 := hlX.cv hatn
      rw [hdi] at hcX1
      rw [hvv] at hcX2
      have HK2 := Lib.hid (show (wr.alloc (.cells #[.slice (some ⟨gd, 0, none⟩) 256 cd, .slice A2 m cap] 73)).drew.cell? ⟨r, 0, none⟩ = some (.slice (some ⟨bl, 0, none⟩) S.n c) ∧ (wr.alloc (.cells #[.slice (some ⟨gd, 0, none⟩) 256 cd, .slice A2 m cap] 73)).drew.cell? ⟨g, j, none⟩ = some (.int .i64 (at_ : Nat)) ∧ (wr.alloc (.cells #[.slice (some ⟨gd, 0, none⟩) 256 cd, .slice A2 m cap] 73)).drew.cell? ⟨bl, at_ * 2, none⟩ = some (.slice (some ⟨gd, 0, none⟩) 256 cd) ∧ (wr.alloc (.cells #[.slice (some ⟨gd, 0, none⟩) 256 cd, .slice A2 m cap] 73)).drew.cell? ⟨bl, at_ * 2 + 1, none⟩ = some (.slice A2 m cap) from
        ⟨hlX.rc, hcjX, hcX1, hcX2⟩)
      have HHX := Lib.hid hlX
      have HPART := Lib.hid (hpart.keep (fun _ h => h) (fun q _ _ ho _ => hWX.block q (HL.out.lt q ho) (by simp)) (fun q hq => hWX.block q (HL.out.lt q (hpart.mine q hq)) (by simp)) : Part (wr.alloc (.cells #[.slice (some ⟨gd, 0, none⟩) 256 cd, .slice A2 m cap] 73)).drew own _ _ _ _ _)
      have hrcX := hlX.rc
      have HML := Lib.hid hml
      have hpd : pickOf (S.dur at_) (S.ver at_) pk = if (pk % (m + 1 : Int)).toNat = 0 then S.dur at_ else (S.ver at_).getD ((pk % (m + 1 : Int)).toNat - 1) (S.dur at_) := by rw [hml]; rfl
      have HPD := Lib.hid hpd
      have HSD := Lib.hid hstepd; have HSV := Lib.hid hstepv; have HPK := Lib.hid hpk
      have HVV := Lib.hid hvv; have HDI := Lib.hid hdi
      have hgbl : g ≠ bl := fun e => hgno (by rw [e]; exact HOL.out)
      clear hl1 hc1 hc2 hWX hbX hlX hpart hcX1 hcX2 hcd hcv hrc hcj hvv hdi hml hm hpd hstepd hstepv hcat hmc hpk
      go_wp2_with fail
      go_region_held3 (fun wx => wx.cell? ⟨r, 0, none⟩ = some (.slice (some ⟨bl, 0, none⟩) S.n c) ∧ wx.cell? ⟨g, j, none⟩ = some (.int .i64 (at_ : Nat)) ∧ wx.cell? ⟨bl, at_ * 2, none⟩ = some (.slice (some ⟨gd, 0, none⟩) 256 cd) ∧ wx.cell? ⟨bl, at_ * 2 + 1, none⟩ = some (.slice A2 m cap))
        (first
          | exact HK0.out
          | exact HK1.out
          | exact HK2.out)
        (fail)
      generalize hwX : (wr.alloc (.cells #[.slice (some ⟨gd, 0, none⟩) 256 cd, .slice A2 m cap] 73)).drew = wX at *
      have HGWX := Lib.hid (show wr.grownBy wX none from HWX.out)
      clear HK0 HK1 HK2 hrcX
      by_cases hjb : j < n
      · obtain ⟨g3, o3, rfl, hg3, _, hcp⟩ := (HP.out.turn (HT2.out.trans HTU.out)).2.2 (by omega)
        have hcpj := hcp j hjb
        rw [HPK.out] at hcpj
        have hcpX := (World.cell?_of_block (a := ⟨g3, o3 + j, none⟩) (HWX.out.block g3 hg3 (by simp))).trans hcpj
        clear hcp hcpj
        have hp : (0 : Int) < (m : Int) + 1 := by omega
        have he := Int.emod_nonneg pk (show ((m : Int) + 1) ≠ 0 by omega)
        have hl := Int.emod_lt_of_pos pk hp
        have ht : pk.tmod ((m : Int) + 1) = if 0 ≤ pk ∨ pk % ((m : Int) + 1) = 0 then pk % ((m : Int) + 1) else pk % ((m : Int) + 1) - ((m : Int) + 1) := by
          rw [Int.tmod_eq_emod]
          split
          · rename_i h
            rw [if_pos (by rcases h with h | h; exact .inl h; exact .inr (Int.emod_eq_zero_of_dvd h))]
            omega
          · rename_i h
            rw [if_neg (fun e => h (by rcases e with e | e; exact .inl e; exact .inr (Int.dvd_of_emod_eq_zero e)))]
            omega
        have hpick := HPD.out
        generalize pk % ((m : Int) + 1) = rr at *
        generalize htm : pk.tmod ((m : Int) + 1) = t at *
        have hwm : IntKind.i64.wrap ((m : Int) + 1) = (m : Int) + 1 := IntWalk.i64_in _ (by omega)
        have hne : ((m : Int) + 1 == 0) = false := by simp; omega
        have hne2 : ¬ ((m : Int) + 1 = 0) := by omega
        have hw : IntKind.i64.wrap t = t := IntWalk.i64_in _ (by rw [ht]; split <;> omega)
        have HKP := Lib.hid (show wX.drew.cell? ⟨g3, o3 + j, none⟩ = some (.int .i64 pk) ∧ wX.drew.cell? ⟨wr.heap.size, 1, none⟩ = some (.slice A2 m cap) from ⟨hcpX, hX1⟩)
        have HT := Lib.hid ht; have HE := Lib.hid he; have HLT := Lib.hid hl; have HPI := Lib.hid hpick; have HPP := Lib.hid hp
        clear ht he hl hpick hp hcpX
        go_wp2_with fail
        go_region_held3 (fun wx => wx.cell? ⟨g3, o3 + j, none⟩ = some (.int .i64 pk) ∧ wx.cell? ⟨wr.heap.size, 1, none⟩ = some (.slice A2 m cap))
          (exact HKP.out)
          (fail)
        clear htm hne hne2 hwm
        have HLW := Lib.hid (show RLay wX.drew B r bl c dv' vv' vs' { S with dur := S.crashDur picks j, ver := crashV S j } own from HHX.out.drew)
        have HGW := Lib.hid (show wr.grownBy wX.drew none from (HGWX.out.trans (grown_drew wX none)))
        have HCG := Lib.hid (show wX.drew.cell? ⟨g, j, none⟩ = some (.int .i64 (at_ : Nat)) from hcjX)
        have hX0d : wX.drew.cell? ⟨wr.heap.size, 0, none⟩ = some (.slice (some ⟨gd, 0, none⟩) 256 cd) := hX0
        have hX1d : wX.drew.cell? ⟨wr.heap.size, 1, none⟩ = some (.slice A2 m cap) := hX1
        have hbyD : BytesAt wX.drew own (.slice (some ⟨gd, 0, none⟩) 256 cd) (S.dur at_) := HPART.out.dur
        have HBV := Lib.hid (show Part wX.drew own (.slice (some ⟨gd, 0, none⟩) 256 cd) (.slice A2 m cap) (vs' at_) (S.dur at_) (S.ver at_) from HPART.out.keep (fun _ h => h) (fun _ _ _ _ _ => rfl) (fun _ _ => rfl))
        clear hX0 hX1 hcjX HWX HGWX HHX HPART HKP
        generalize wX.drew = wz at *
        have hpick := HPI.out
        by_cases hr0 : rr = 0
        · have ht0 : t = 0 := by rw [HT.out, if_pos (.inr hr0)]; exact hr0
          rw [hr0, show (0 : Int).toNat = 0 from rfl, if_pos rfl] at hpick
          have HSTEP := Lib.hid (show S.crashDur picks (j + 1) = upd (S.crashDur picks j) at_ (S.dur at_) ∧ crashV S (j + 1) = upd (crashV S j) at_ [] from ⟨by rw [HSD.out, hpick], HSV.out⟩)
          have hby := hbyD
          clear hbyD hr0
          have hcdz := HLW.out.cd hatn; have hcvz := HLW.out.cv hatn; have hf0z := HLW.out.lfz (at_ * 2); have hf1z := HLW.out.lfz (at_ * 2 + 1)
          rw [HDI.out] at hcdz
          rw [HVV.out] at hcvz
          have HK3 := Lib.hid (show wz.drew.cell? ⟨r, 0, none⟩ = some (.slice (some ⟨bl, 0, none⟩) S.n c) ∧ wz.drew.cell? ⟨g, j, none⟩ = some (.int .i64 (at_ : Nat)) from ⟨HLW.out.rc, HCG.out⟩)
          have hset := HLW.out.settle hatn hby
          have hset2 : RLay ((wz.setCell ⟨bl, at_ * 2, none⟩ (.slice (some ⟨gd, 0, none⟩) 256 cd)).setCell ⟨bl, at_ * 2 + 1, none⟩ (.slice none 0 0)) B r bl c (upd dv' at_ (.slice (some ⟨gd, 0, none⟩) 256 cd)) (upd vv' at_ (.slice none 0 0)) (upd vs' at_ []) { S with dur := S.crashDur picks (j + 1), ver := crashV S (j + 1) } own := by
            rw [HSTEP.out.1, HSTEP.out.2]; exact hset
          have HSET := Lib.hid hset2.drew
          have HT1 := Lib.hid (((HTU.out.trans (Turn.none_ (HGW.out))).trans (Turn.of_grown (Lib.grownBy_setB (Lib.grownBy_setB (World.grownBy.refl wz (some bl)) (at_ * 2) (.slice (some ⟨gd, 0, none⟩) 256 cd)) (at_ * 2 + 1) (.slice none 0 0)) (fun q e => by cases e; exact HOL.out))).trans (Turn.none_ (grown_drew ((wz.setCell ⟨bl, at_ * 2, none⟩ (.slice (some ⟨gd, 0, none⟩) 256 cd)).setCell ⟨bl, at_ * 2 + 1, none⟩ (.slice none 0 0)) none)))
          have HK4 := Lib.hid (show ((wz.setCell ⟨bl, at_ * 2, none⟩ (.slice (some ⟨gd, 0, none⟩) 256 cd)).setCell ⟨bl, at_ * 2 + 1, none⟩ (.slice none 0 0)).drew.cell? ⟨r, 0, none⟩ = some (.slice (some ⟨bl, 0, none⟩) S.n c) ∧ ((wz.setCell ⟨bl, at_ * 2, none⟩ (.slice (some ⟨gd, 0, none⟩) 256 cd)).setCell ⟨bl, at_ * 2 + 1, none⟩ (.slice none 0 0)).drew.cell? ⟨g, j, none⟩ = some (.int .i64 (at_ : Nat)) from
            ⟨hset.rc, (World.cell?_of_block (a := ⟨g, j, none⟩) ((Lib.grownBy_setB (Lib.grownBy_setB (World.grownBy.refl wz (some bl)) (at_ * 2) (.slice (some ⟨gd, 0, none⟩) 256 cd)) (at_ * 2 + 1) (.slice none 0 0)).block g (by have := HGW.out.size; omega) (by simpa using hgbl))).trans HCG.out⟩)
          clear hset hset2 hby hpick
          subst ht0
          go_wp2_with fail
          go_region_held3 (fun wx => wx.cell? ⟨r, 0, none⟩ = some (.slice (some ⟨bl, 0, none⟩) S.n c) ∧ wx.cell? ⟨g, j, none⟩ = some (.int .i64 (at_ : Nat)))
            (first
              | exact HK3.out
              | exact HK4.out)
            (fail)
          go_wp2_with fail
          go_roundw
          case rel => exact ⟨j + 1, _, _, _, by omega, by go_num, HSET.out, HT1.out⟩
          case measure => simp [Go.RowKit.intOf]; omega
        · obtain ⟨q, rfl⟩ : ∃ q : Nat, rr = (q : Int) + 1 := ⟨(rr - 1).toNat, by have := HE.out; omega⟩
          have hqm : (q : Int) < (m : Int) := by have := HLT.out; omega
          have hq : q < (S.ver at_).length := by rw [← HML.out]; omega
          rw [show ((q : Int) + 1).toNat = q + 1 from by omega, if_neg (by omega), Nat.add_sub_cancel, List.getD_eq_getElem?_getD, List.getElem?_eq_getElem hq, Option.getD_some] at hpick
          obtain ⟨u, hu1, hu2⟩ := HBV.out.vers q _ (List.getElem?_eq_getElem hq)
          obtain ⟨ga, ca, hae, _, _, _, _, hac⟩ := HBV.out.row.reads (by omega)
          simp only [Value.slice.injEq] at hae
          obtain ⟨rfl, hae1, hae2⟩ := hae; clear hae1 hae2
          have hau := hac q u hu1
          obtain ⟨gu, cu, rfl⟩ : ∃ gu cu, u = .slice (some ⟨gu, 0, none⟩) 256 cu := by obtain ⟨g, c', _, _, e, _⟩ := hu2; exact ⟨g, c', e⟩
          have HSTEP := Lib.hid (show S.crashDur picks (j + 1) = upd (S.crashDur picks j) at_ ((S.ver at_)[q]) ∧ crashV S (j + 1) = upd (crashV S j) at_ [] from ⟨by rw [HSD.out, hpick], HSV.out⟩)
          have hby := hu2
          have hwq : IntKind.i64.wrap (q : Int) = (q : Int) := IntWalk.i64_in _ (by omega)
          have hwq2 : IntKind.i64.wrap ((q : Int) + 1 - 1) = (q : Int) := by rw [Int.add_sub_cancel]; exact hwq
          have hpos : decide ((0 : Int) < (q : Int) + 1) = true := decide_eq_true (by omega)
          have hq0 : (0 : Int) ≤ (q : Int) := by omega
          have ht := HT.out
          clear hbyD hac hu1 hu2
          have hcdz := HLW.out.cd hatn; have hcvz := HLW.out.cv hatn; have hf0z := HLW.out.lfz (at_ * 2); have hf1z := HLW.out.lfz (at_ * 2 + 1)
          rw [HDI.out] at hcdz
          rw [HVV.out] at hcvz
          have HK3 := Lib.hid (show wz.drew.cell? ⟨r, 0, none⟩ = some (.slice (some ⟨bl, 0, none⟩) S.n c) ∧ wz.drew.cell? ⟨g, j, none⟩ = some (.int .i64 (at_ : Nat)) from ⟨HLW.out.rc, HCG.out⟩)
          have hset := HLW.out.settle hatn hby
          have hset2 : RLay ((wz.setCell ⟨bl, at_ * 2, none⟩ (.slice (some ⟨gu, 0, none⟩) 256 cu)).setCell ⟨bl, at_ * 2 + 1, none⟩ (.slice none 0 0)) B r bl c (upd dv' at_ (.slice (some ⟨gu, 0, none⟩) 256 cu)) (upd vv' at_ (.slice none 0 0)) (upd vs' at_ []) { S with dur := S.crashDur picks (j + 1), ver := crashV S (j + 1) } own := by
            rw [HSTEP.out.1, HSTEP.out.2]; exact hset
          have HSET := Lib.hid hset2.drew
          have HT1 := Lib.hid (((HTU.out.trans (Turn.none_ (HGW.out))).trans (Turn.of_grown (Lib.grownBy_setB (Lib.grownBy_setB (World.grownBy.refl wz (some bl)) (at_ * 2) (.slice (some ⟨gu, 0, none⟩) 256 cu)) (at_ * 2 + 1) (.slice none 0 0)) (fun q e => by cases e; exact HOL.out))).trans (Turn.none_ (grown_drew ((wz.setCell ⟨bl, at_ * 2, none⟩ (.slice (some ⟨gu, 0, none⟩) 256 cu)).setCell ⟨bl, at_ * 2 + 1, none⟩ (.slice none 0 0)) none)))
          have HK4 := Lib.hid (show ((wz.setCell ⟨bl, at_ * 2, none⟩ (.slice (some ⟨gu, 0, none⟩) 256 cu)).setCell ⟨bl, at_ * 2 + 1, none⟩ (.slice none 0 0)).drew.cell? ⟨r, 0, none⟩ = some (.slice (some ⟨bl, 0, none⟩) S.n c) ∧ ((wz.setCell ⟨bl, at_ * 2, none⟩ (.slice (some ⟨gu, 0, none⟩) 256 cu)).setCell ⟨bl, at_ * 2 + 1, none⟩ (.slice none 0 0)).drew.cell? ⟨g, j, none⟩ = some (.int .i64 (at_ : Nat)) from
            ⟨hset.rc, (World.cell?_of_block (a := ⟨g, j, none⟩) ((Lib.grownBy_setB (Lib.grownBy_setB (World.grownBy.refl wz (some bl)) (at_ * 2) (.slice (some ⟨gu, 0, none⟩) 256 cu)) (at_ * 2 + 1) (.slice none 0 0)).block g (by have := HGW.out.size; omega) (by simpa using hgbl))).trans HCG.out⟩)
          clear hset hset2 hby hpick
          by_cases hc : 0 ≤ pk
          · have htq : t = (q : Int) + 1 := by rw [ht, if_pos (.inl hc)]
            have hd : decide ((q : Int) + 1 < 0) = false := by simp; omega
            clear ht hc hr0
            subst htq
            go_wp2_with fail
            go_region_held3 (fun wx => wx.cell? ⟨r, 0, none⟩ = some (.slice (some ⟨bl, 0, none⟩) S.n c) ∧ wx.cell? ⟨g, j, none⟩ = some (.int .i64 (at_ : Nat)))
              (first
                | exact HK3.out
                | exact HK4.out)
              (fail)
            go_wp2_with fail
            go_roundw
            case rel => exact ⟨j + 1, _, _, _, by omega, by go_num, HSET.out, HT1.out⟩
            case measure => simp [Go.RowKit.intOf]; omega
          · have ht' : t = (q : Int) + 1 - ((m : Int) + 1) := by rw [ht, if_neg (by rintro (h | h); exact hc h; omega)]
            have hd : t < 0 := by omega
            have hw2 : IntKind.i64.wrap (t + (m : Int)) = t + (m : Int) := IntWalk.i64_in _ (by omega)
            have hw3 : IntKind.i64.wrap (t + (m : Int) + 1) = (q : Int) + 1 := by rw [show t + (m : Int) + 1 = (q : Int) + 1 by omega]; exact IntWalk.i64_in _ (by omega)
            clear ht hc ht' hr0
            go_wp2_with fail
            go_region_held3 (fun wx => wx.cell? ⟨r, 0, none⟩ = some (.slice (some ⟨bl, 0, none⟩) S.n c) ∧ wx.cell? ⟨g, j, none⟩ = some (.int .i64 (at_ : Nat)))
              (first
                | exact HK3.out
                | exact HK4.out)
              (fail)
            go_wp2_with fail
            go_roundw
            case rel => exact ⟨j + 1, _, _, _, by omega, by go_num, HSET.out, HT1.out⟩
            case measure => simp [Go.RowKit.intOf]; omega
      · have hjb' : ¬ ((j : Int) < (n : Int)) := by omega
        have hpk0 : pk = 0 := by rw [← HPK.out, List.getD_eq_getElem?_getD, List.getElem?_eq_none (by rw [HP.out.1]; omega)]; rfl
        have HLW := HHX
        have HGW := HGWX
        have HCG := Lib.hid hcjX
        have hpick : pickOf (S.dur at_) (S.ver at_) pk = S.dur at_ := by rw [hpk0]; exact pickOf_zero _ _
        have HSTEP := Lib.hid (show S.crashDur picks (j + 1) = upd (S.crashDur picks j) at_ (S.dur at_) ∧ crashV S (j + 1) = upd (crashV S j) at_ [] from ⟨by rw [HSD.out, hpick], HSV.out⟩)
        have hby : BytesAt wX own (.slice (some ⟨gd, 0, none⟩) 256 cd) (S.dur at_) := HPART.out.dur
        clear hwX
        generalize wX = wz at *
        clear hpk0 hjb
        have hcdz := HLW.out.cd hatn; have hcvz := HLW.out.cv hatn; have hf0z := HLW.out.lfz (at_ * 2); have hf1z := HLW.out.lfz (at_ * 2 + 1)
        rw [HDI.out] at hcdz
        rw [HVV.out] at hcvz
        have HK3 := Lib.hid (show wz.drew.cell? ⟨r, 0, none⟩ = some (.slice (some ⟨bl, 0, none⟩) S.n c) ∧ wz.drew.cell? ⟨g, j, none⟩ = some (.int .i64 (at_ : Nat)) from ⟨HLW.out.rc, HCG.out⟩)
        have hset := HLW.out.settle hatn hby
        have hset2 : RLay ((wz.setCell ⟨bl, at_ * 2, none⟩ (.slice (some ⟨gd, 0, none⟩) 256 cd)).setCell ⟨bl, at_ * 2 + 1, none⟩ (.slice none 0 0)) B r bl c (upd dv' at_ (.slice (some ⟨gd, 0, none⟩) 256 cd)) (upd vv' at_ (.slice none 0 0)) (upd vs' at_ []) { S with dur := S.crashDur picks (j + 1), ver := crashV S (j + 1) } own := by
          rw [HSTEP.out.1, HSTEP.out.2]; exact hset
        have HSET := Lib.hid hset2.drew
        have HT1 := Lib.hid (((HTU.out.trans (Turn.none_ (HGW.out))).trans (Turn.of_grown (Lib.grownBy_setB (Lib.grownBy_setB (World.grownBy.refl wz (some bl)) (at_ * 2) (.slice (some ⟨gd, 0, none⟩) 256 cd)) (at_ * 2 + 1) (.slice none 0 0)) (fun q e => by cases e; exact HOL.out))).trans (Turn.none_ (grown_drew ((wz.setCell ⟨bl, at_ * 2, none⟩ (.slice (some ⟨gd, 0, none⟩) 256 cd)).setCell ⟨bl, at_ * 2 + 1, none⟩ (.slice none 0 0)) none)))
        have HK4 := Lib.hid (show ((wz.setCell ⟨bl, at_ * 2, none⟩ (.slice (some ⟨gd, 0, none⟩) 256 cd)).setCell ⟨bl, at_ * 2 + 1, none⟩ (.slice none 0 0)).drew.cell? ⟨r, 0, none⟩ = some (.slice (some ⟨bl, 0, none⟩) S.n c) ∧ ((wz.setCell ⟨bl, at_ * 2, none⟩ (.slice (some ⟨gd, 0, none⟩) 256 cd)).setCell ⟨bl, at_ * 2 + 1, none⟩ (.slice none 0 0)).drew.cell? ⟨g, j, none⟩ = some (.int .i64 (at_ : Nat)) from
          ⟨hset.rc, (World.cell?_of_block (a := ⟨g, j, none⟩) ((Lib.grownBy_setB (Lib.grownBy_setB (World.grownBy.refl wz (some bl)) (at_ * 2) (.slice (some ⟨gd, 0, none⟩) 256 cd)) (at_ * 2 + 1) (.slice none 0 0)).block g (by have := HGW.out.size; omega) (by simpa using hgbl))).trans HCG.out⟩)
        clear hset hset2 hby hpick
        go_wp2_with fail
        go_region_held3 (fun wx => wx.cell? ⟨r, 0, none⟩ = some (.slice (some ⟨bl, 0, none⟩) S.n c) ∧ wx.cell? ⟨g, j, none⟩ = some (.int .i64 (at_ : Nat)))
          (first
            | exact HK3.out
            | exact HK4.out)
          (fail)
        go_wp2_with fail
        go_roundw
        case rel => exact ⟨j + 1, _, _, _, by omega, by go_num, HSET.out, HT1.out⟩
        case measure => simp [Go.RowKit.intOf]; omega
    · obtain rfl : j = S.dirty.length := by omega
      have hL0 : RLay wr B r bl c dv' vv' vs' { S with dur := (S.crash picks).dur, ver := fun _ => [] } own := by
        have e1 := crashDur_end HOK.out picks (k := S.dirty.length) (.inl rfl)
        have e2 := crashVer_end HOK.out
        rw [← e1, ← e2]; exact HL.out
      have hbk := (((((hL0.blk.set_ 1 (.int .i64 0)).set_ 2 (.int .i64 0)).set_ 3 (.int .i64 0)).set_ 4 (.int .i64 0)).set_ 5 (.int .i64 (-1)))
      have hgg := Lib.grownBy_setB (Lib.grownBy_setB (Lib.grownBy_setB (Lib.grownBy_setB (Lib.grownBy_setB (World.grownBy.refl wr (some r)) 1 (.int .i64 0)) 2 (.int .i64 0)) 3 (.int .i64 0)) 4 (.int .i64 0)) 5 (.int .i64 (-1))
      have hlast := hL0.struct (T := S.crash picks) hgg (HOK.out.crash picks) rfl rfl rfl hbk
      have HLAST := Lib.hid hlast
      have HTL := Lib.hid ((HT2.out.trans HTU.out).trans (Turn.of_grown hgg (fun q e => by cases e; exact HOB.out)))
      have q1 := hL0.blk.cell 1; have q2 := hL0.blk.cell 2; have q3 := hL0.blk.cell 3; have q4 := hL0.blk.cell 4; have q5 := hL0.blk.cell 5
      have z1 := hL0.blk.frozen 1; have z2 := hL0.blk.frozen 2; have z3 := hL0.blk.frozen 3; have z4 := hL0.blk.frozen 4; have z5 := hL0.blk.frozen 5
      simp only [List.getElem?_toArray, List.getElem?_cons_zero, List.getElem?_cons_succ] at q1 q2 q3 q4 q5
      clear hL0 hbk hgg hlast hlt hj
      go_wp2
      go_end0
      exact ⟨rfl, ⟨_, _, _, HLAST.out⟩, HTL.out⟩
end Go.Proofs.YtagikgejhckfbaaGreat.Dsk
