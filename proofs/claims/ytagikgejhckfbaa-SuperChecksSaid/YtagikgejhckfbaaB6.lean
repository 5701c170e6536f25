/- Shared texts of this seat's proofs: DiskWrite2, DiskLaid, DiskDirty, DiskFail, DiskFlush, DiskCrash, DiskWrite3, DiskAny. -/
import Derived.Test.YtagikgejhckfbaaB5
import Derived.Test.YtagikgejhckfbaaProg
import Derived.Shelf.SlIterI.Sorted
import Derived.Shelf.SlIterI.Keys
import Derived.Shelf.SortM.Plain
import Derived.Shelf.SortM.SortNone
/- Sectors are written: the whole call. -/
namespace Go.Proofs.Ytagikgejhckfbaa.Dsk
open Go.RowKit Mem Crc DiskSpec

theorem grown_setRow {w W : World} {h : Nat} (hg : w.grownBy W none) (hh : w.heap.size ≤ h) (cs : Array Value) : w.grownBy (W.setRow h cs) none :=
  ⟨hg.os, hg.tape, hg.output, by simpa [World.setRow] using hg.size, fun k hk _ => (setRow_other W h k cs (by omega)).trans (hg.block k hk (by simp))⟩
theorem sec_cells {l : List Nat} {j q : Nat} (h : 256 * (j + 1) ≤ l.length) (hq : q < 256) : (u8s (sec l j))[q]? = some (.int .u8 (l.getD (j * 256 + q) 0 : Nat)) := by
  have hs : (sec l j).length = 256 := by simp [sec]; omega
  rw [u8s_at _ _ (by omega)]
  congr 3
  rw [List.getD_eq_getElem?_getD, List.getD_eq_getElem?_getD, sec, List.getElem?_take_of_lt hq, List.getElem?_drop, Nat.mul_comm]

set_option maxRecDepth 100000 in
set_option maxHeartbeats 3200000 in
theorem disk_write_ok {w : World} {B b bd bm : Nat} {S : St} {f : Nat → Option Value} {own : Nat → Prop} (h : Lay w B b bd bm f S own) (a count : Nat) (A : Option Addr) (c : Nat) (l : List Nat) (fua : Bool)
    (hd : Data w own A (count * 256) l) (hc : count * 256 ≤ c) (h1 : 1 ≤ count) (h2 : a + count ≤ S.n) (hf2 : S.f2 ≠ 1) (hlf : S.left ≠ 0) (hroom : ∀ i, (S.ver i).length < 549755813888) (hB : B ≤ w.heap.size) :
    Calls Try.prog 15 #[.pointer (some ⟨b, 0, none⟩), .int .i64 (a : Nat), .slice A (count * 256) c, .bool fua] w fun e w' => e = .returned (.int .i64 0) ∧
      ∃ f' own', Lay w' B b bd bm f' (({ S with f2 := S.f2 - 1 } : St).puts fua a l count).done own' ∧ Turn w w' own own' := by
  have htop := h.ok.top
  have HH := Lib.hid (disk_has h (a : Int) (count : Int) (by omega) (by omega))
  have hhas : S.has a count = true := by simp [St.has]; omega
  have HD := Lib.hid (disk_stops2 h)
  have HF := Lib.hid (show (decide (S.f2 = 1) || decide (S.left = 0)) = false by simp [hf2, hlf])
  have HOB := Lib.hid h.ownB
  clear h
  rw [hhas] at HH
  rw [HF.out] at HD
  generalize hT : ({ S with f2 := S.f2 - 1 } : St) = T at *
  have HTN := Lib.hid (show T.n = S.n by rw [← hT])
  have HTR := Lib.hid (show ∀ i, (T.ver i).length < 549755813888 by rw [← hT]; exact hroom)
  clear hT hhas hroom
  obtain ⟨g, o, rfl, _⟩ := hd.2.2 (by omega)
  have HDT := Lib.hid hd; clear hd
  have hm1 : ((count * 256 : Nat) : Int) % 256 = 0 := by omega
  have hm2 : ((count * 256 : Nat) : Int) / 256 = (count : Int) := by omega
  have hm3 : (((count * 256 : Nat) : Int) == 0) = false := by simp; omega
  generalize hn : count * 256 = n at *
  have HN := Lib.hid hn; clear hn
  have hm4 : (n : Int).tmod 256 = 0 := by rw [Int.tmod_eq_emod_of_nonneg (by omega)]; exact hm1
  have hm5 : (n : Int).tdiv 256 = (count : Int) := by rw [Int.tdiv_eq_ediv_of_nonneg (by omega)]; exact hm2
  have hw5 : IntKind.i64.wrap (count : Int) = (count : Int) := IntWalk.i64_in _ (by omega)
  go_enter Try.func15, Try.ntmps15
  go_wp2_with fail
  refine HH.out.mono ?_
  rintro e w' ⟨rfl, rfl⟩
  go_wp2_with fail
  refine HD.out.mono ?_
  rintro e w1 ⟨rfl, hg1, hl1⟩
  have HT1 := Lib.hid (Turn.of_grown (own := own) hg1 (fun q e => by cases e; exact HOB.out)); have H1 := Lib.hid hl1; clear hg1 hl1
  go_wp2_with fail
  go_loopw [10, 11, 32] (fun _ _ i wr => ∃ (j : Nat) (f' : Nat → Option Value) (own' : Nat → Prop), j ≤ count ∧ i = .int .i64 j ∧ Lay wr B b bd bm f' (T.puts fua a l j) own' ∧ Turn w wr own own') (fun _ _ i _ => count - (Go.RowKit.intOf i).toNat)
  case atStart => exact ⟨0, f, own, by omega, rfl, H1.out, HT1.out⟩
  case round =>
    obtain ⟨j, f', own', hj, rfl, hl, ht⟩ := hrel
    have HL := Lib.hid hl; have HTU := Lib.hid ht; clear hl ht
    by_cases hlt : j < count
    · obtain ⟨g', o', e0, hglt, hgno, hcell⟩ := (HDT.out.turn HTU.out).2.2 (by omega)
      simp only [Option.some.injEq, Addr.mk.injEq, and_true] at e0
      obtain ⟨rfl, rfl⟩ := e0
      have hll := HDT.out.1
      have hsec : Sec (sec l j) := sec_sec (by omega) HDT.out.2.1
      have hij : a + j < (T.puts fua a l j).n := by rw [puts_n, HTN.out]; omega
      have hwj : IntKind.i64.wrap ((a : Int) + (j : Int)) = (a : Int) + (j : Int) := IntWalk.i64_in _ (by omega)
      have hwj2 : IntKind.i64.wrap ((j : Int) * 256) = (j : Int) * 256 := IntWalk.i64_in _ (by omega)
      have EA := Lib.hid (show (a : Int) + (j : Int) = ((a + j : Nat) : Int) by omega)
      have hz := zeroS
      have hsz : (Array.replicate 256 (Value.int .u8 0)).size = 256 := by simp
      generalize hzz : Array.replicate 256 (Value.int .u8 0) = zs at *
      clear hzz
      -- the version's own array, and what is copied into it
      have hbV := (Blk.new wr 74 zs).drew
      have hW : wr.grownBy (wr.alloc (.cells zs 74)).drew none := (World.grownBy_alloc wr _ none).trans (grown_drew _ none)
      have hsx : (u8s (sec l j)).length = 256 := by rw [u8s_length, hsec.1]
      have hcp := run_copy_row (P := Try.prog) (wr.alloc (.cells zs 74)).drew 39 39 3 5 wr.heap.size 0 256 256 ⟨g, o + j * 256, none⟩ (n - j * 256) (c - j * 256)
        zs 74 (u8s (sec l j)) Try.underlying39 (by kernel_rfl) hbV (by rw [hsx]; have := HN.out; exact (Nat.min_eq_right (by omega)).symm)
        (fun q v hv => by
          have e1 : (⟨g, o + j * 256, none⟩ : Addr).add q = ⟨g, o + (j * 256 + q), none⟩ := by unfold Addr.add; split <;> simp_all [Nat.add_assoc]
          have hq : q < 256 := by have := (List.getElem?_eq_some_iff.1 hv).1; omega
          have := HN.out
          rw [e1, hW.cell_far ⟨g, o + (j * 256 + q), none⟩ hglt (by simp), hcell (j * 256 + q) (by omega)]
          rw [sec_cells (by omega) hq] at hv
          exact hv) (by rw [hsx, hsz]; omega) (u8s_one _)
      have hcs : (zs.toList.take 0 ++ u8s (sec l j) ++ zs.toList.drop (0 + (u8s (sec l j)).length)).toArray = (u8s (sec l j)).toArray := by
        rw [hsx, List.drop_eq_nil_of_le (by simp [hsz]), List.append_nil, List.take_zero, List.nil_append]
      rw [hcs, hsx] at hcp
      have HBV := Lib.hid (blk_setRow hbV (u8s (sec l j)).toArray)
      have HGV := Lib.hid (grown_setRow hW (Nat.le_refl _) (u8s (sec l j)).toArray)
      have hne : ¬ (c = j * 256) := by have := HN.out; omega
      have hle : (j : Int) * 256 ≤ (n : Int) := by have := HN.out; omega
      have hnn : (0 : Int) ≤ (j : Int) * 256 := by omega
      have htn : ((j : Int) * 256).toNat = j * 256 := by omega
      clear hbV hW hcs hcell hglt hgno hll
      go_wp2_with fail
      go_region
      generalize (wr.alloc (.cells zs 74)).drew.setRow wr.heap.size (u8s (sec l j)).toArray = W at *
      have hVn : ¬ own' wr.heap.size := fun e => by have := HL.out.lt _ e; omega
      have hVlt := HBV.out.lt
      have hlD := (HL.out.grown HGV.out (fun _ e => by cases e)).drew
      obtain ⟨v', wa, wb, hr1, hr2, ⟨f2, own2, hl2, ht2⟩, hk⟩ := hlD.append hij hsec (by rw [puts_ver fua a l j (a + j) (Nat.le_refl _)]; exact HTR.out _) (by have := HGV.out.size; have := HTU.out.size; rw [heap_drew]; omega) 63
      have hlk1 := hlD.map.look (t := 64) (E := 63) Try.underlying3 Try.underlying64 (zeroM _) (a + j) (by omega)
      have hlk2 := (hlD.alloc (.cells (u8s (sec l j)).toArray 74)).map.look (t := 64) (E := 63) Try.underlying3 Try.underlying64 (zeroM _) (a + j) (by omega)
      have hrV : W.drew.rangeAt wr.heap.size 0 (u8s (sec l j)) := fun q v hv => by
        rw [Nat.zero_add, (HBV.out.drew).cell]; simpa using hv
      have hka := hk b (hlD.lt b hlD.ownB) (.inr rfl)
      have hkV := hk wr.heap.size (by rw [heap_drew]; exact hVlt) (.inl hVn)
      have HK0 := Lib.hid (show W.drew.cell? ⟨b, 1, none⟩ = some (.map (some bm)) ∧ W.drew.rangeAt wr.heap.size 0 (u8s (sec l j)) from ⟨hlD.c1, hrV⟩)
      have HK1 := Lib.hid (show (W.drew.alloc (.cells (u8s (sec l j)).toArray 74)).cell? ⟨b, 1, none⟩ = some (.map (some bm)) ∧ (W.drew.alloc (.cells (u8s (sec l j)).toArray 74)).rangeAt wr.heap.size 0 (u8s (sec l j)) from ⟨(hlD.alloc _).c1, World.rangeAt_alloc hrV _⟩)
      have HK2 := Lib.hid (show wa.cell? ⟨b, 1, none⟩ = some (.map (some bm)) ∧ wa.rangeAt wr.heap.size 0 (u8s (sec l j)) from ⟨by rw [World.cell?_of_block (a := ⟨b, 1, none⟩) hka]; exact hlD.c1, rangeAt_of_block hrV hkV⟩)
      have HK3 := Lib.hid (show wb.cell? ⟨b, 1, none⟩ = some (.map (some bm)) ∧ wb.rangeAt wr.heap.size 0 (u8s (sec l j)) from ⟨hl2.c1, rangeAt_of_block hrV (ht2.block _ (by rw [heap_drew]; exact hVlt) hVn)⟩)
      have HL2 := Lib.hid hl2
      have HT2 := Lib.hid (HTU.out.trans ((Turn.none_ (HGV.out.trans (grown_drew _ none))).trans ht2))
      have hbs := build_one hsec
      have hI : (Try.prog.info? 74).map (·.size) = some (u8s (sec l j)).length := by rw [hsx]; exact infoS
      have hU : Try.prog.underlying 74 = some (.array 256 5) := Try.underlying74
      rw [← EA.out] at hlk1 hlk2 hr2
      have HPUT := Lib.hid (show T.puts fua a l (j + 1) = (T.puts fua a l j).put fua (a + j) (sec l j) from rfl)
      have hc1 := hlD.c1
      clear hcp hka hkV hk hl2 ht2 hrV hlD HBV HGV hVn hVlt
      generalize (f' (a + j)).getD (.slice none 0 0) = v0 at *
      generalize hx : u8s (sec l j) = x at *
      clear hx
      go_wp2_with fail
      refine wp_region_noPanic ?_
      refine wp_region_held_drew (S := fun wx => wx.cell? ⟨b, 1, none⟩ = some (.map (some bm)) ∧ wx.rangeAt wr.heap.size 0 x) (by kernel_rfl) HK0.out (fun hHeld => ?_)
      refine wpAnyH_take (i := 0) (v := .pointer (some ⟨b, 0, none⟩)) rfl (by kernel_rfl) (by kernel_rfl) (by kernel_rfl) (fun _ _ _ h => h) (Or.inl ⟨by rfl, ?_⟩) (by assumption) ?_
      · intro w1 hSw; (try dsimp only at hSw); go_simp
      simp only [Act.put, List.getElem_toArray, List.getElem_cons_zero, List.setIfInBounds_toArray, List.set_cons_zero, List.set_cons_succ]
      refine wpAnyH_take (i := 1) (v := .pointer (some ⟨b, 0, none⟩)) rfl (by kernel_rfl) (by kernel_rfl) (by kernel_rfl) (fun _ _ _ h => h) (Or.inl ⟨by rfl, ?_⟩) (by assumption) ?_
      · intro w1 hSw; (try dsimp only at hSw); go_simp
      simp only [Act.put, List.getElem_toArray, List.getElem_cons_succ, List.getElem_cons_zero, List.setIfInBounds_toArray, List.set_cons_zero, List.set_cons_succ]
      refine wpAnyH_take (i := 2) (v := .pointer (some ⟨b, 1, none⟩)) rfl (by kernel_rfl) (by kernel_rfl) (by kernel_rfl) (fun _ _ _ h => h) (Or.inl ⟨by rfl, ?_⟩) (by assumption) ?_
      · intro w1 hSw; (try dsimp only at hSw); go_simp
      simp only [Act.put, List.getElem_toArray, List.getElem_cons_succ, List.getElem_cons_zero, List.setIfInBounds_toArray, List.set_cons_zero, List.set_cons_succ]
      refine wpAnyH_take (i := 3) (v := .map (some bm)) rfl (by kernel_rfl) (by kernel_rfl) (by kernel_rfl) (fun _ _ _ h => h) (Or.inl ⟨by rfl, ?_⟩) (by assumption) ?_
      · intro w1 hSw; (try dsimp only at hSw); go_simp
      simp only [Act.put, List.getElem_toArray, List.getElem_cons_succ, List.getElem_cons_zero, List.setIfInBounds_toArray, List.set_cons_zero, List.set_cons_succ]
      refine wpAnyH_take (i := 4) (v := .int .i64 (a : Nat)) rfl (by kernel_rfl) (by kernel_rfl) (by kernel_rfl) (fun _ _ _ h => h) (Or.inl ⟨by rfl, ?_⟩) (by assumption) ?_
      · intro w1 hSw; (try dsimp only at hSw); go_simp
      simp only [Act.put, List.getElem_toArray, List.getElem_cons_succ, List.getElem_cons_zero, List.setIfInBounds_toArray, List.set_cons_zero, List.set_cons_succ]
      refine wpAnyH_take (i := 5) (v := .int .i64 (j : Nat)) rfl (by kernel_rfl) (by kernel_rfl) (by kernel_rfl) (fun _ _ _ h => h) (Or.inl ⟨by rfl, ?_⟩) (by assumption) ?_
      · intro w1 hSw; (try dsimp only at hSw); go_simp
      simp only [Act.put, List.getElem_toArray, List.getElem_cons_succ, List.getElem_cons_zero, List.setIfInBounds_toArray, List.set_cons_zero, List.set_cons_succ]
      refine wpAnyH_take (i := 6) (v := .int .i64 ((a : Int) + (j : Int))) rfl (by kernel_rfl) (by kernel_rfl) (by kernel_rfl) (fun _ _ _ h => h) (Or.inl ⟨by rfl, ?_⟩) (by assumption) ?_
      · intro w1 hSw; (try dsimp only at hSw); go_simp
      simp only [Act.put, List.getElem_toArray, List.getElem_cons_succ, List.getElem_cons_zero, List.setIfInBounds_toArray, List.set_cons_zero, List.set_cons_succ]
      refine wpAnyH_take (i := 7) (v := .pointer (some ⟨b, 0, none⟩)) rfl (by kernel_rfl) (by kernel_rfl) (by kernel_rfl) (fun _ _ _ h => h) (Or.inl ⟨by rfl, ?_⟩) (by assumption) ?_
      · intro w1 hSw; (try dsimp only at hSw); go_simp
      simp only [Act.put, List.getElem_toArray, List.getElem_cons_succ, List.getElem_cons_zero, List.setIfInBounds_toArray, List.set_cons_zero, List.set_cons_succ]
      refine wpAnyH_take (i := 8) (v := .pointer (some ⟨b, 0, none⟩)) rfl (by kernel_rfl) (by kernel_rfl) (by kernel_rfl) (fun _ _ _ h => h) (Or.inl ⟨by rfl, ?_⟩) (by assumption) ?_
      · intro w1 hSw; (try dsimp only at hSw); go_simp
      simp only [Act.put, List.getElem_toArray, List.getElem_cons_succ, List.getElem_cons_zero, List.setIfInBounds_toArray, List.set_cons_zero, List.set_cons_succ]
      refine wpAnyH_take (i := 9) (v := .pointer (some ⟨b, 1, none⟩)) rfl (by kernel_rfl) (by kernel_rfl) (by kernel_rfl) (fun _ _ _ h => h) (Or.inl ⟨by rfl, ?_⟩) (by assumption) ?_
      · intro w1 hSw; (try dsimp only at hSw); go_simp
      simp only [Act.put, List.getElem_toArray, List.getElem_cons_succ, List.getElem_cons_zero, List.setIfInBounds_toArray, List.set_cons_zero, List.set_cons_succ]
      refine wpAnyH_take (i := 10) (v := .map (some bm)) rfl (by kernel_rfl) (by kernel_rfl) (by kernel_rfl) (fun _ _ _ h => h) (Or.inl ⟨by rfl, ?_⟩) (by assumption) ?_
      · intro w1 hSw; (try dsimp only at hSw); go_simp
      simp only [Act.put, List.getElem_toArray, List.getElem_cons_succ, List.getElem_cons_zero, List.setIfInBounds_toArray, List.set_cons_zero, List.set_cons_succ]
      refine wpAnyH_take (i := 11) (v := .int .i64 (a : Nat)) rfl (by kernel_rfl) (by kernel_rfl) (by kernel_rfl) (fun _ _ _ h => h) (Or.inl ⟨by rfl, ?_⟩) (by assumption) ?_
      · intro w1 hSw; (try dsimp only at hSw); go_simp
      simp only [Act.put, List.getElem_toArray, List.getElem_cons_succ, List.getElem_cons_zero, List.setIfInBounds_toArray, List.set_cons_zero, List.set_cons_succ]
      refine wpAnyH_take (i := 12) (v := .int .i64 (j : Nat)) rfl (by kernel_rfl) (by kernel_rfl) (by kernel_rfl) (fun _ _ _ h => h) (Or.inl ⟨by rfl, ?_⟩) (by assumption) ?_
      · intro w1 hSw; (try dsimp only at hSw); go_simp
      simp only [Act.put, List.getElem_toArray, List.getElem_cons_succ, List.getElem_cons_zero, List.setIfInBounds_toArray, List.set_cons_zero, List.set_cons_succ]
      refine wpAnyH_take (i := 13) (v := .int .i64 ((a : Int) + (j : Int))) rfl (by kernel_rfl) (by kernel_rfl) (by kernel_rfl) (fun _ _ _ h => h) (Or.inl ⟨by rfl, ?_⟩) (by assumption) ?_
      · intro w1 hSw; (try dsimp only at hSw); go_simp
      simp only [Act.put, List.getElem_toArray, List.getElem_cons_succ, List.getElem_cons_zero, List.setIfInBounds_toArray, List.set_cons_zero, List.set_cons_succ]
      refine wpAnyH_take (i := 15) (v := .agg x.toArray) rfl (by kernel_rfl) (by kernel_rfl) (by kernel_rfl) (fun _ _ _ h => h) (yieldsIf_load_mid (by rfl) 74 (Operand.tmp 11) rfl wr.heap.size 0 rfl x _ (fun w h => h.2) hU rfl hI) (by assumption) ?_
      simp only [Act.put, List.getElem_toArray, List.getElem_cons_succ, List.getElem_cons_zero, List.setIfInBounds_toArray, List.set_cons_zero, List.set_cons_succ]
      refine wpAnyH_ready (rs := [14, 16]) (by kernel_rfl) (by simp) ?_
      refine AllReadyH.cons rfl (fun K hK => ?_) (AllReadyH.cons rfl (fun K hK => ?_) AllReadyH.nil)
      · refine step_look rfl (Operand.tmp 51) (Operand.tmp 54) 64 rfl (.map (some bm)) (.int .i64 ((a : Int) + (j : Int))) v0 rfl rfl hlk1 ?_
        refine hK.out _ _ HK0.out (fun hHeld => ?_)
        clear hK K
        refine wpAnyH_ready (rs := [16]) (by kernel_rfl) (by simp) ?_
        refine AllReadyH.cons rfl (fun K hK => ?_) AllReadyH.nil
        refine step_build rfl 63 (Operand.tmp 56) rfl (.agg x.toArray) _ rfl (hbs _) ?_
        refine hK.out _ _ HK1.out (fun hHeld => ?_)
        clear hK K
        refine wpAnyH_ready (rs := [17]) (by kernel_rfl) (by simp) ?_
        refine AllReadyH.cons rfl (fun K hK => ?_) AllReadyH.nil
        refine step_append rfl (Operand.tmp 55) (Operand.tmp 57) 63 rfl v0 _ v' rfl rfl hr1 ?_
        refine hK.out _ _ HK2.out (fun hHeld => ?_)
        clear hK K
        refine wpAnyH_ready (rs := [18]) (by kernel_rfl) (by simp) ?_
        refine AllReadyH.cons rfl (fun K hK => ?_) AllReadyH.nil
        refine step_update rfl (Operand.tmp 44) (Operand.tmp 47) (Operand.tmp 58) 64 rfl (.map (some bm)) (.int .i64 ((a : Int) + (j : Int))) v' rfl rfl rfl hr2 ?_
        refine hK.out _ _ HK3.out (fun hHeld => ?_)
        clear hK K
        refine wpAnyH_done (by kernel_rfl) ?_ _
        refine NoPanic.normal ?_
        simp only [Act.put, List.getElem_toArray, List.getElem_cons_succ, List.getElem_cons_zero, List.setIfInBounds_toArray, List.set_cons_zero, List.set_cons_succ]
        cases fua with
        | false =>
          rw [show (T.puts false a l j).put false (a + j) (sec l j) = (T.puts false a l j).add (a + j) (sec l j) from rfl] at HPUT
          rw [← HPUT.out] at HL2
          go_wp2_with fail
          go_roundw
          case rel => exact ⟨j + 1, _, own2, by omega, by go_num, HL2.out, HT2.out⟩
          case measure => simp [Go.RowKit.intOf]; omega
        | true =>
          have HST := Lib.hid (disk_settle HL2.out (a + j) hij)
          rw [show (T.puts true a l j).put true (a + j) (sec l j) = ((T.puts true a l j).add (a + j) (sec l j)).settle (a + j) from rfl] at HPUT
          rw [← HPUT.out] at HST
          go_wp2_with fail
          rw [EA.out]
          refine HST.out.mono ?_
          rintro e w9 ⟨rfl, ⟨f9, hl9⟩, ht9⟩
          have HL9 := Lib.hid hl9; have HT9 := Lib.hid (HT2.out.trans ht9); clear hl9 ht9
          go_wp2_with fail
          go_roundw
          case rel => exact ⟨j + 1, f9, own2, by omega, by go_num, HL9.out, HT9.out⟩
          case measure => simp [Go.RowKit.intOf]; omega
      · refine step_build rfl 63 (Operand.tmp 56) rfl (.agg x.toArray) _ rfl (hbs _) ?_
        refine hK.out _ _ HK1.out (fun hHeld => ?_)
        clear hK K
        refine wpAnyH_ready (rs := [14]) (by kernel_rfl) (by simp) ?_
        refine AllReadyH.cons rfl (fun K hK => ?_) AllReadyH.nil
        refine step_look rfl (Operand.tmp 51) (Operand.tmp 54) 64 rfl (.map (some bm)) (.int .i64 ((a : Int) + (j : Int))) v0 rfl rfl hlk2 ?_
        refine hK.out _ _ HK1.out (fun hHeld => ?_)
        clear hK K
        refine wpAnyH_ready (rs := [17]) (by kernel_rfl) (by simp) ?_
        refine AllReadyH.cons rfl (fun K hK => ?_) AllReadyH.nil
        refine step_append rfl (Operand.tmp 55) (Operand.tmp 57) 63 rfl v0 _ v' rfl rfl hr1 ?_
        refine hK.out _ _ HK2.out (fun hHeld => ?_)
        clear hK K
        refine wpAnyH_ready (rs := [18]) (by kernel_rfl) (by simp) ?_
        refine AllReadyH.cons rfl (fun K hK => ?_) AllReadyH.nil
        refine step_update rfl (Operand.tmp 44) (Operand.tmp 47) (Operand.tmp 58) 64 rfl (.map (some bm)) (.int .i64 ((a : Int) + (j : Int))) v' rfl rfl rfl hr2 ?_
        refine hK.out _ _ HK3.out (fun hHeld => ?_)
        clear hK K
        refine wpAnyH_done (by kernel_rfl) ?_ _
        refine NoPanic.normal ?_
        simp only [Act.put, List.getElem_toArray, List.getElem_cons_succ, List.getElem_cons_zero, List.setIfInBounds_toArray, List.set_cons_zero, List.set_cons_succ]
        cases fua with
        | false =>
          rw [show (T.puts false a l j).put false (a + j) (sec l j) = (T.puts false a l j).add (a + j) (sec l j) from rfl] at HPUT
          rw [← HPUT.out] at HL2
          go_wp2_with fail
          go_roundw
          case rel => exact ⟨j + 1, _, own2, by omega, by go_num, HL2.out, HT2.out⟩
          case measure => simp [Go.RowKit.intOf]; omega
        | true =>
          have HST := Lib.hid (disk_settle HL2.out (a + j) hij)
          rw [show (T.puts true a l j).put true (a + j) (sec l j) = ((T.puts true a l j).add (a + j) (sec l j)).settle (a + j) from rfl] at HPUT
          rw [← HPUT.out] at HST
          go_wp2_with fail
          rw [EA.out]
          refine HST.out.mono ?_
          rintro e w9 ⟨rfl, ⟨f9, hl9⟩, ht9⟩
          have HL9 := Lib.hid hl9; have HT9 := Lib.hid (HT2.out.trans ht9); clear hl9 ht9
          go_wp2_with fail
          go_roundw
          case rel => exact ⟨j + 1, f9, own2, by omega, by go_num, HL9.out, HT9.out⟩
          case measure => simp [Go.RowKit.intOf]; omega
    · obtain rfl : j = count := by omega
      have HDN := Lib.hid (disk_done HL.out)
      have HOB' := Lib.hid HL.out.ownB
      go_wp2_with fail
      refine HDN.out.mono ?_
      rintro e w9 ⟨rfl, hg9, hl9⟩
      have HL9 := Lib.hid hl9; have HT9 := Lib.hid (HTU.out.trans (Turn.of_grown hg9 (fun q e => by cases e; exact HOB'.out))); clear hl9 hg9
      go_wp2
      go_ret
      exact ⟨rfl, f', own', HL9.out, HT9.out⟩
end Go.Proofs.Ytagikgejhckfbaa.Dsk
/- The library's sorted keys of a map: what the shelf's contracts ask of this program, spelled out. -/
namespace Go.Proofs.Ytagikgejhckfbaa.Dsk
open Go.RowKit Go.Maps Go.Sort Go.Shelf

def DirtyKeys_ren : Shelf.Ren where
  f := fun | 7 => 42 | 10 => 53 | n => n
  t := fun | 23 => 64 | 26 => 3 | 3 => 63 | 28 => 96 | 0 => 0 | 27 => 95 | 33 => 81 | 4 => 4 | n => n
  g := fun n => n
def DirtySorted_ren : Shelf.Ren where
  f := fun | 6 => 41 | 8 => 51 | 9 => 52 | 11 => 57 | 13 => 59 | 12 => 58 | 23 => 72 | 24 => 73 | 14 => 63 | 15 => 64 | 16 => 65 | 17 => 66 | 18 => 67 | 19 => 68 | 20 => 69 | 21 => 70 | 22 => 71 | 25 => 77 | 26 => 78 | 27 => 79 | 28 => 80 | 29 => 81 | 30 => 82 | 31 => 87 | n => n
  t := fun | 26 => 3 | 28 => 96 | 24 => 29 | 0 => 0 | 3 => 3 | 37 => 107 | 48 => 51 | 50 => 124 | 4 => 4 | 40 => 116 | 39 => 115 | 45 => 120 | 5 => 5 | 9 => 9 | 51 => 127 | 55 => 131 | 57 => 137 | 58 => 138 | 33 => 81 | n => n
  g := fun n => n
def DirtySort_ren : Shelf.Ren where
  f := fun | 5 => 52 | 8 => 59 | 7 => 58 | 19 => 72 | 20 => 73 | 10 => 63 | 11 => 64 | 12 => 65 | 13 => 66 | 14 => 67 | 15 => 68 | 16 => 69 | 17 => 70 | 18 => 71 | 30 => 77 | 31 => 78 | 32 => 79 | 33 => 80 | 34 => 81 | 35 => 82 | 40 => 87 | n => n
  t := fun | 23 => 29 | 25 => 3 | 3 => 3 | 32 => 107 | 22 => 29 | 0 => 0 | 44 => 51 | 46 => 124 | 4 => 4 | 36 => 116 | 35 => 115 | 41 => 120 | 5 => 5 | 9 => 9 | 53 => 127 | 57 => 131 | 63 => 137 | 64 => 138 | n => n
  g := fun n => n
theorem DirtyKeys : SlLaysZI.n7 Try.prog DirtyKeys_ren where
  mixed := rfl
  f7 := ⟨_, of_decide_eq_true (by kernel_rfl), Try.func42.trans (congrArg some rfl)⟩
  f10 := ⟨_, of_decide_eq_true (by kernel_rfl), Try.func53.trans (congrArg some rfl)⟩
  t0 := Try.underlying0
  a0 := Try.isAgg0
  z0 := Try.sizeOf0
  v0 := Try.zeroValue0
  t4 := Try.underlying4
  a4 := Try.isAgg4
  z4 := Try.sizeOf4
  v4 := Try.zeroValue4
  t23 := Try.underlying64
  a23 := Try.isAgg64
  z23 := Try.sizeOf64
  v23 := Try.zeroValue64
  t26 := Try.underlying3
  a26 := Try.isAgg3
  z26 := Try.sizeOf3
  v26 := Try.zeroValue3
  t27 := Try.underlying95
  a27 := Try.isAgg95
  z27 := Try.sizeOf95
  v27 := Try.zeroValue95
  t28 := Try.underlying96
  a28 := Try.isAgg96
  z28 := Try.sizeOf96
  v28 := Try.zeroValue96
  t33 := Try.underlying81
  a33 := Try.isAgg81
  z33 := Try.sizeOf81
  v33 := Try.zeroValue81
theorem DirtySorted : SlLaysZI.n6 Try.prog DirtySorted_ren where
  mixed := rfl
  f6 := ⟨_, of_decide_eq_true (by kernel_rfl), Try.func41.trans (congrArg some rfl)⟩
  f8 := ⟨_, of_decide_eq_true (by kernel_rfl), Try.func51.trans (congrArg some rfl)⟩
  f11 := ⟨_, of_decide_eq_true (by kernel_rfl), Try.func57.trans (congrArg some rfl)⟩
  t0 := Try.underlying0
  a0 := Try.isAgg0
  z0 := Try.sizeOf0
  v0 := Try.zeroValue0
  t24 := Try.underlying29
  a24 := Try.isAgg29
  z24 := Try.sizeOf29
  v24 := Try.zeroValue29
  t26 := Try.underlying3
  a26 := Try.isAgg3
  z26 := Try.sizeOf3
  v26 := Try.zeroValue3
  t28 := Try.underlying96
  a28 := Try.isAgg96
  z28 := Try.sizeOf96
  v28 := Try.zeroValue96
  i26 := by kernel_rfl
theorem DirtySort : SlLaysM.n5 Try.prog DirtySort_ren where
  mixed := rfl
  f5 := ⟨_, of_decide_eq_true (by kernel_rfl), Try.func52.trans (congrArg some rfl)⟩
  f7 := ⟨_, of_decide_eq_true (by kernel_rfl), Try.func58.trans (congrArg some rfl)⟩
  f8 := Try.func59.trans (congrArg some rfl)
  f10 := ⟨_, of_decide_eq_true (by kernel_rfl), Try.func63.trans (congrArg some rfl)⟩
  f11 := ⟨_, of_decide_eq_true (by kernel_rfl), Try.func64.trans (congrArg some rfl)⟩
  f12 := ⟨_, of_decide_eq_true (by kernel_rfl), Try.func65.trans (congrArg some rfl)⟩
  f13 := ⟨_, of_decide_eq_true (by kernel_rfl), Try.func66.trans (congrArg some rfl)⟩
  f14 := ⟨_, of_decide_eq_true (by kernel_rfl), Try.func67.trans (congrArg some rfl)⟩
  f15 := ⟨_, of_decide_eq_true (by kernel_rfl), Try.func68.trans (congrArg some rfl)⟩
  f16 := ⟨_, of_decide_eq_true (by kernel_rfl), Try.func69.trans (congrArg some rfl)⟩
  f17 := ⟨_, of_decide_eq_true (by kernel_rfl), Try.func70.trans (congrArg some rfl)⟩
  f18 := ⟨_, of_decide_eq_true (by kernel_rfl), Try.func71.trans (congrArg some rfl)⟩
  f19 := Try.func72.trans (congrArg some rfl)
  f20 := Try.func73.trans (congrArg some rfl)
  f30 := ⟨_, of_decide_eq_true (by kernel_rfl), Try.func77.trans (congrArg some rfl)⟩
  f31 := Try.func78.trans (congrArg some rfl)
  f32 := Try.func79.trans (congrArg some rfl)
  f33 := ⟨_, of_decide_eq_true (by kernel_rfl), Try.func80.trans (congrArg some rfl)⟩
  f34 := ⟨_, of_decide_eq_true (by kernel_rfl), Try.func81.trans (congrArg some rfl)⟩
  f35 := ⟨_, of_decide_eq_true (by kernel_rfl), Try.func82.trans (congrArg some rfl)⟩
  f40 := ⟨_, of_decide_eq_true (by kernel_rfl), Try.func87.trans (congrArg some rfl)⟩
  t0 := Try.underlying0
  a0 := Try.isAgg0
  z0 := Try.sizeOf0
  v0 := Try.zeroValue0
  t3 := Try.underlying3
  a3 := Try.isAgg3
  z3 := Try.sizeOf3
  v3 := Try.zeroValue3
  t4 := Try.underlying4
  a4 := Try.isAgg4
  z4 := Try.sizeOf4
  v4 := Try.zeroValue4
  t5 := Try.underlying5
  a5 := Try.isAgg5
  z5 := Try.sizeOf5
  v5 := Try.zeroValue5
  t9 := Try.underlying9
  a9 := Try.isAgg9
  z9 := Try.sizeOf9
  v9 := Try.zeroValue9
  t22 := Try.underlying29
  a22 := Try.isAgg29
  z22 := Try.sizeOf29
  v22 := Try.zeroValue29
  t23 := Try.underlying29
  a23 := Try.isAgg29
  z23 := Try.sizeOf29
  v23 := Try.zeroValue29
  t25 := Try.underlying3
  a25 := Try.isAgg3
  z25 := Try.sizeOf3
  v25 := Try.zeroValue3
  t32 := Try.underlying107
  a32 := Try.isAgg107
  z32 := Try.sizeOf107
  v32 := Try.zeroValue107
  t35 := Try.underlying115
  a35 := Try.isAgg115
  z35 := Try.sizeOf115
  v35 := Try.zeroValue115
  t36 := Try.underlying116
  a36 := Try.isAgg116
  z36 := Try.sizeOf116
  v36 := Try.zeroValue116
  t41 := Try.underlying120
  a41 := Try.isAgg120
  z41 := Try.sizeOf120
  v41 := Try.zeroValue120
  t44 := Try.underlying51
  a44 := Try.isAgg51
  z44 := Try.sizeOf51
  v44 := Try.zeroValue51
  t46 := Try.underlying124
  a46 := Try.isAgg124
  z46 := Try.sizeOf124
  v46 := Try.zeroValue124
  t53 := Try.underlying127
  a53 := Try.isAgg127
  z53 := Try.sizeOf127
  v53 := Try.zeroValue127
  t57 := Try.underlying131
  a57 := Try.isAgg131
  z57 := Try.sizeOf131
  v57 := Try.zeroValue131
  t63 := Try.underlying137
  a63 := Try.isAgg137
  z63 := Try.sizeOf137
  v63 := Try.zeroValue137
  t64 := Try.underlying138
  a64 := Try.isAgg138
  z64 := Try.sizeOf138
  v64 := Try.zeroValue138

theorem dirty_sorts (m : Nat) : AnyZI.SortsIn Try.prog DirtySorted_ren Fence.wide m :=
  ⟨fun blk off cap ss W hH hblk hsz => callsIn_wide.2 (AnyM.slices_Sort_int DirtySort blk off cap ss W hH hblk hsz),
   fun p cap W => callsIn_wide.2 (AnyM.slices_Sort_int_none DirtySort p cap W)⟩
end Go.Proofs.Ytagikgejhckfbaa.Dsk
/- The dirty sectors, rising. -/
namespace Go.Proofs.Ytagikgejhckfbaa.Dsk
open Go.RowKit Go.Maps Go.Sort Go.Shelf Mem Crc DiskSpec

/-- Whole numbers as cells. -/
def nats (l : List Nat) : List Value := l.map fun x => .int .i64 (x : Nat)
theorem nats_length (l : List Nat) : (nats l).length = l.length := by simp [nats]
theorem nats_at (l : List Nat) (j : Nat) (h : j < l.length) : (nats l)[j]? = some (.int .i64 (l[j] : Nat)) := by simp [nats, h]
theorem grown_of_below {w w' : World} (h : Below w.heap.size w w') : w.grownBy w' none := ⟨h.os, h.tape, h.output, h.size, fun k hk _ => h.block k hk⟩
theorem dirty_sorted (S : St) : (S.dirty.map fun k => ((k : Nat) : Int)).mergeSort (fun x y => decide (x ≤ y)) = S.dirty.map fun k => ((k : Nat) : Int) := by
  refine List.mergeSort_of_pairwise ?_
  rw [List.pairwise_map]
  have : S.dirty.Pairwise (· < ·) := List.Pairwise.filter _ List.pairwise_lt_range
  exact this.imp (fun h => by simp; omega)
theorem sort_perm {l l' : List Int} (h : l.Perm l') : l.mergeSort (fun x y => decide (x ≤ y)) = l'.mergeSort (fun x y => decide (x ≤ y)) := by
  have h1 : (l.mergeSort fun x y => decide (x ≤ y)).Perm (l'.mergeSort fun x y => decide (x ≤ y)) := ((List.mergeSort_perm l _).trans h).trans (List.mergeSort_perm l' _).symm
  refine List.Perm.eq_of_pairwise (le := fun x y => decide (x ≤ y) = true) (fun a b _ _ h1 h2 => ?_) ?_ ?_ h1
  · simp at h1 h2; omega
  · exact List.pairwise_mergeSort (fun a b c h1 h2 => by simp at *; omega) (fun a b => by simp; omega) l
  · exact List.pairwise_mergeSort (fun a b c h1 h2 => by simp at *; omega) (fun a b => by simp; omega) l'

set_option maxRecDepth 100000 in
set_option maxHeartbeats 1000000 in
theorem disk_dirty {w : World} {B b bd bm : Nat} {S : St} {f : Nat → Option Value} {own : Nat → Prop} (h : Lay w B b bd bm f S own) :
    Calls Try.prog 23 #[.pointer (some ⟨b, 0, none⟩)] w fun e w' => ∃ v, e = .returned v ∧ w'.ownsRow w.heap.size 3 1 v S.dirty.length (nats S.dirty) ∧ w.grownBy w' none := by
  have htop := h.ok.top
  have hc1 := h.c1
  obtain ⟨D, hown, ha, he⟩ := h.map
  have htd := hown.tidy (int_keyed Try.underlying3)
  have hsz := MapIs.size_le htd ha he
  have hperm := MapIs.keys_perm htd ha he
  have hfe : ((List.range S.n).filter fun k => (f k).isSome) = S.dirty := by
    refine List.filter_congr (fun k _ => ?_)
    cases hv : S.ver k with
    | nil => rw [h.rows.none_ k hv]; rfl
    | cons a l =>
      obtain ⟨v, g, h1, _⟩ := h.rows.some_ k (by rw [hv]; simp)
      rw [h1]; rfl
  rw [hfe] at hperm
  have HPERM := Lib.hid hperm
  have HDS := Lib.hid (dirty_sorted S)
  clear ha he hfe hperm h
  refine (callsIn_wide (n := 6)).1 ?_
  have hbl := hown.lt
  have hseq : SeqGives Fence.wide 2 Try.prog 53 #[.pointer (some ⟨w.heap.size, 0, none⟩)] encZ (fun ss => ss.Perm (intKeys D)) (Maps.size D) (w.alloc (.cells #[.map (some bm)] 64)) :=
    AnyZI.keys_gives (ρ := DirtyKeys_ren) { DirtyKeys with } Fence.wide _ trivial rfl (by omega) w.heap.size bm (Maps.size D) D _ (by simp) (by simp) (by
      obtain ⟨es, clock, hb, Ft, hs, hD⟩ := hown
      exact ⟨es, clock, (Below.heap_alloc _ _ bm hbl).trans hb, Ft, hs, hD⟩)
  have cK : ∀ mb W, CallsIn Fence.wide 5 Try.prog 42 #[.map mb] W fun e w' => e = .returned (.func (.func 53) #[] #[.pointer (some ⟨W.heap.size, 0, none⟩)]) ∧ w' = W.alloc (.cells #[.map mb] 64) :=
    fun mb W => AnyZI.keys_in DirtyKeys Fence.wide 5 trivial rfl mb W
  have cS := AnyZI.sorted_in DirtySorted Fence.wide 5 trivial trivial trivial trivial rfl (by omega) (dirty_sorts _) (enters_of Try.func52 (by kernel_rfl) rfl) 53 #[.pointer (some ⟨w.heap.size, 0, none⟩)] trivial
    (enters_of Try.func53 (by kernel_rfl) rfl) _ _ (by unfold maxLen; omega) (by omega) _ hseq
  change CallsIn _ _ Try.prog 41 _ _ _ at cS
  have hfK : Fence.wide.fn 42 := trivial
  have hfS : Fence.wide.fn 41 := trivial
  have HCS := Lib.hid cS
  clear hseq hown htd hsz cS
  refine callsIn_of_wp Try.func23 rfl trivial ?_ rfl
  simp only [Try.ntmps23, List.size_toArray, List.length_cons, List.length_nil, Nat.reduceAdd, Nat.reduceSub, Array.replicate_succ, Array.replicate_zero, List.push_toArray, List.append_toArray, List.nil_append, List.cons_append]
  gi_wp2_with (first
    | (gi_at_call 42; refine (cK _ _).mono ?_; rintro e w' ⟨rfl, rfl⟩)
    | (gi_at_call 41; refine HCS.out.mono ?_; rintro e w' ⟨v, ss, rfl, hS, hrow, hnil, hb⟩))
  go_ret
  have e1 : (ss.mergeSort fun x y => decide (x ≤ y)).map encZ = nats S.dirty := by
    rw [sort_perm (hS.trans HPERM.out), HDS.out, List.map_map]; rfl
  have e2 : ss.length = S.dirty.length := by rw [(hS.trans HPERM.out).length_eq, List.length_map]
  rw [e1, e2] at hrow
  exact ⟨v, rfl, ownsRow_base_a hrow (by simp), grown_of_below (((Below.refl _ w).alloc (Nat.le_refl _) _).trans (hb.mono (by simp)))⟩
end Go.Proofs.Ytagikgejhckfbaa.Dsk
/- What is to fail, a cut, a remainder. -/
namespace Go.Proofs.Ytagikgejhckfbaa.Dsk
open Go.RowKit Mem Crc DiskSpec

def failBad (kind n : Int) : Prop := kind < 1 ∨ 3 < kind ∨ n < 1 ∨ 1099511627776 < n
set_option maxHeartbeats 800000 in
theorem disk_fail_no (p : Value) (kind n : Int) (w : World) (hb : failBad kind n) :
    Calls Try.prog 16 #[p, .int .i64 kind, .int .i64 n] w fun e w' => e = .returned (.int .i64 1) ∧ w = w' := by
  by_cases h1 : kind < 1
  · go_enter Try.func16, Try.ntmps16
    go_wp2
    go_ret
    exact ⟨rfl, rfl⟩
  by_cases h2 : 3 < kind
  · go_enter Try.func16, Try.ntmps16
    go_wp2
    go_ret
    exact ⟨rfl, rfl⟩
  by_cases h3 : n < 1
  · go_enter Try.func16, Try.ntmps16
    go_wp2
    go_ret
    exact ⟨rfl, rfl⟩
  · have h4 : 1099511627776 < n := by rcases hb with h | h | h | h <;> omega
    clear hb
    go_enter Try.func16, Try.ntmps16
    go_wp2
    go_ret
    exact ⟨rfl, rfl⟩

set_option maxHeartbeats 800000 in
theorem disk_fail1 {w : World} {B b bd bm : Nat} {S : St} {f : Nat → Option Value} {own : Nat → Prop} (h : Lay w B b bd bm f S own) (n : Nat) (h1 : 1 ≤ n) (h2 : n ≤ 1099511627776) :
    Calls Try.prog 16 #[.pointer (some ⟨b, 0, none⟩), .int .i64 1, .int .i64 (n : Nat)] w fun e w' => e = .returned (.int .i64 0) ∧ w.grownBy w' (some b) ∧ Lay w' B b bd bm f { S with f1 := n } own := by
  have hc := h.c3
  have hf := h.fz 3
  have H := Lib.hid (h.field 3 (.int .i64 (n : Nat)) (T := { S with f1 := n }) { h.ok with f1 := h2 } rfl rfl rfl rfl)
  clear h
  have hd1 : decide ((n : Int) < 1) = false := by simp; omega
  have hd2 : decide (1099511627776 < (n : Int)) = false := by simp; omega
  go_enter Try.func16, Try.ntmps16
  go_wp2
  go_ret
  exact ⟨rfl, Lib.grownBy_setB (World.grownBy.refl _ _) _ _, H.out⟩

set_option maxHeartbeats 800000 in
theorem disk_fail2 {w : World} {B b bd bm : Nat} {S : St} {f : Nat → Option Value} {own : Nat → Prop} (h : Lay w B b bd bm f S own) (n : Nat) (h1 : 1 ≤ n) (h2 : n ≤ 1099511627776) :
    Calls Try.prog 16 #[.pointer (some ⟨b, 0, none⟩), .int .i64 2, .int .i64 (n : Nat)] w fun e w' => e = .returned (.int .i64 0) ∧ w.grownBy w' (some b) ∧ Lay w' B b bd bm f { S with f2 := n } own := by
  have hc := h.c4
  have hf := h.fz 4
  have H := Lib.hid (h.field 4 (.int .i64 (n : Nat)) (T := { S with f2 := n }) { h.ok with f2 := h2 } rfl rfl rfl rfl)
  clear h
  have hd1 : decide ((n : Int) < 1) = false := by simp; omega
  have hd2 : decide (1099511627776 < (n : Int)) = false := by simp; omega
  go_enter Try.func16, Try.ntmps16
  go_wp2
  go_ret
  exact ⟨rfl, Lib.grownBy_setB (World.grownBy.refl _ _) _ _, H.out⟩

set_option maxHeartbeats 800000 in
theorem disk_fail3 {w : World} {B b bd bm : Nat} {S : St} {f : Nat → Option Value} {own : Nat → Prop} (h : Lay w B b bd bm f S own) (n : Nat) (h1 : 1 ≤ n) (h2 : n ≤ 1099511627776) :
    Calls Try.prog 16 #[.pointer (some ⟨b, 0, none⟩), .int .i64 3, .int .i64 (n : Nat)] w fun e w' => e = .returned (.int .i64 0) ∧ w.grownBy w' (some b) ∧ Lay w' B b bd bm f { S with f3 := n } own := by
  have hc := h.c5
  have hf := h.fz 5
  have H := Lib.hid (h.field 5 (.int .i64 (n : Nat)) (T := { S with f3 := n }) { h.ok with f3 := h2 } rfl rfl rfl rfl)
  clear h
  have hd1 : decide ((n : Int) < 1) = false := by simp; omega
  have hd2 : decide (1099511627776 < (n : Int)) = false := by simp; omega
  go_enter Try.func16, Try.ntmps16
  go_wp2
  go_ret
  exact ⟨rfl, Lib.grownBy_setB (World.grownBy.refl _ _) _ _, H.out⟩

theorem tmod_pos {n : Int} {v : Nat} (h : 0 ≤ n) : n.tmod ((v : Int) + 1) = n % ((v : Int) + 1) := Int.tmod_eq_emod_of_nonneg h
set_option maxHeartbeats 800000 in
theorem remainder_any (n : Int) (v : Nat) (w : World) (hv : v < 9223372036854775807) :
    Calls Try.prog 24 #[.int .i64 n, .int .i64 ((v : Int) + 1)] w fun e w' => e = .returned (.int .i64 (n % ((v : Int) + 1))) ∧ w = w' := by
  have hp : (0 : Int) < (v : Int) + 1 := by omega
  have he := Int.emod_nonneg n (show ((v : Int) + 1) ≠ 0 by omega)
  have hl := Int.emod_lt_of_pos n hp
  have ht : n.tmod ((v : Int) + 1) = if 0 ≤ n ∨ n % ((v : Int) + 1) = 0 then n % ((v : Int) + 1) else n % ((v : Int) + 1) - ((v : Int) + 1) := by
    rw [Int.tmod_eq_emod]
    split
    · rename_i h
      rw [if_pos (by rcases h with h | h; exact .inl h; exact .inr (Int.emod_eq_zero_of_dvd h))]
      omega
    · rename_i h
      rw [if_neg (fun e => h (by rcases e with e | e; exact .inl e; exact .inr (Int.dvd_of_emod_eq_zero e)))]
      omega
  generalize n % ((v : Int) + 1) = r at *
  generalize hm : n.tmod ((v : Int) + 1) = m at *
  have hw : IntKind.i64.wrap m = m := IntWalk.i64_in _ (by rw [ht]; split <;> omega)
  have hne : ((v : Int) + 1 == 0) = false := by simp; omega
  by_cases hc : 0 ≤ n ∨ r = 0
  · rw [if_pos hc] at ht
    subst ht
    have hd : decide (m < 0) = false := by simp; omega
    clear hc
    go_enter Try.func24, Try.ntmps24
    go_wp2
    go_ret
    exact ⟨rfl, rfl⟩
  · rw [if_neg hc] at ht
    have hd : m < 0 := by omega
    have hw2 : IntKind.i64.wrap (m + ((v : Int) + 1)) = m + ((v : Int) + 1) := IntWalk.i64_in _ (by omega)
    have HR := Lib.hid (show m + ((v : Int) + 1) = r by omega)
    clear hc ht
    go_enter Try.func24, Try.ntmps24
    go_wp2
    go_ret
    exact ⟨congrArg (fun x => Ending.returned (.int .i64 x)) HR.out, rfl⟩
end Go.Proofs.Ytagikgejhckfbaa.Dsk
/- All is made durable; the power goes. -/
namespace Go.Proofs.Ytagikgejhckfbaa.Dsk
open Go.RowKit Mem Crc DiskSpec

theorem nats_cell {w : World} {base n : Nat} {v : Value} {l : List Nat} (h : w.ownsRow base 3 1 v n (nats l)) :
    n = l.length ∧ ∃ A c, v = .slice A n c ∧ ∀ j, j < n → ∃ g, A = some ⟨g, 0, none⟩ ∧ base ≤ g ∧ g < w.heap.size ∧ w.cell? ⟨g, j, none⟩ = some (.int .i64 (l.getD j 0 : Nat)) := by
  have hn : n = l.length := by have := h.1; rw [nats_length] at this; omega
  refine ⟨hn, ?_⟩
  rcases h.2 with ⟨rfl, h0⟩ | ⟨g, cap, cur, rfl, hbg, hh, _⟩
  · subst h0; exact ⟨none, 0, rfl, fun j hj => by omega⟩
  · refine ⟨_, cap, rfl, fun j hj => ⟨g, rfl, hbg, (Array.getElem?_eq_some_iff.1 hh).1, ?_⟩⟩
    have h1 := World.ownsRow.cells h (g := g) rfl j _ (nats_at l j (by omega))
    have e1 : (⟨g, 0, none⟩ : Addr).add j = ⟨g, j, none⟩ := by unfold Addr.add; split <;> simp_all
    rw [e1] at h1
    rw [h1, List.getD_eq_getElem?_getD, List.getElem?_eq_getElem (by omega)]; rfl
theorem dirty_bound {S : St} {j : Nat} (hj : j < S.dirty.length) : S.dirty.getD j 0 < S.n := by
  rw [List.getD_eq_getElem?_getD, List.getElem?_eq_getElem hj]
  exact ((mem_dirty _).1 (List.getElem_mem hj)).1
theorem dirty_le (S : St) : S.dirty.length ≤ S.n := by
  have := List.length_filter_le (fun k => !(S.ver k).isEmpty) (List.range S.n)
  simpa [St.dirty] using this

end Go.Proofs.Ytagikgejhckfbaa.Dsk
/- The power goes. -/
namespace Go.Proofs.Ytagikgejhckfbaa.Dsk
open Go.RowKit Mem Crc DiskSpec

/-- Picks that are handed in: whole numbers outside the disk's own blocks. -/
def Picks (w : World) (own : Nat → Prop) (A : Option Addr) (n : Nat) (l : List Int) : Prop :=
  l.length = n ∧ (∀ x ∈ l, -9223372036854775808 ≤ x ∧ x ≤ 9223372036854775807) ∧ (0 < n → ∃ g o, A = some ⟨g, o, none⟩ ∧ g < w.heap.size ∧ ¬ own g ∧ ∀ j, j < n → w.cell? ⟨g, o + j, none⟩ = some (.int .i64 (l.getD j 0)))
theorem Picks.nil (w : World) (own : Nat → Prop) : Picks w own none 0 [] := ⟨rfl, by simp, by omega⟩
theorem Picks.turn {w w' : World} {own own' : Nat → Prop} {A : Option Addr} {n : Nat} {l : List Int} (h : Picks w own A n l) (ht : Turn w w' own own') : Picks w' own' A n l := by
  refine ⟨h.1, h.2.1, fun hn => ?_⟩
  obtain ⟨g, o, e, hlt, hno, hc⟩ := h.2.2 hn
  refine ⟨g, o, e, Nat.lt_of_lt_of_le hlt ht.size, fun ho => by rcases ht.fresh g ho with h1 | h1; exact hno h1; omega, fun j hj => ?_⟩
  rw [World.cell?_of_block (a := ⟨g, o + j, none⟩) (ht.block g hlt hno)]
  exact hc j hj

section
variable {w w' : World} {B b bd bm : Nat} {S T : St} {f : Nat → Option Value} {own : Nat → Prop}
/-- The disk's own block is written: the disk is what it then says. -/
theorem Lay.struct (h : Lay w B b bd bm f S own) (hg : w.grownBy w' (some b)) (hT : T.ok) (hn : T.n = S.n) (hd : T.dur = S.dur) (hv : T.ver = S.ver)
    (hb : Blk w' b 67 #[.slice (some ⟨bd, 0, none⟩) T.n T.n, .map (some bm), .int .i64 0, .int .i64 (T.f1 : Nat), .int .i64 (T.f2 : Nat), .int .i64 (T.f3 : Nat), .int .i64 T.left]) : Lay w' B b bd bm f T own where
  ok := hT
  blk := hb
  dur i hi := by rw [hd]; exact rangeAt_of_block (h.dur i (by omega)) (hg.block bd (h.lt bd h.ownD) (by simpa using fun e => h.bd_ e.symm))
  room := by rw [hn]; exact there_of_block h.room (hg.block bd (h.lt bd h.ownD) (by simpa using fun e => h.bd_ e.symm))
  map := by rw [hn]; exact h.map.of_block (hg.block bm (h.lt bm h.ownM) (by simpa using fun e => h.bm_ e.symm))
  rows := (h.rows.keep (fun i hi hb _ _ => hg.block i (h.lt i hi) (by simpa using hb))).same hv
  ownB := h.ownB
  ownD := h.ownD
  ownM := h.ownM
  bd_ := h.bd_
  bm_ := h.bm_
  dm_ := h.dm_
  low := h.low
  lt i hi := Nat.lt_of_lt_of_le (h.lt i hi) hg.size
theorem Lay.clearAt (h : Lay w B b bd bm f S own) (ty : TypeId) :
    ∃ w', (Builtin.clear_ #[64] ty #[.map (some bm)]).run Try.prog w = .ok (.tuple #[]) w' ∧ Lay w' B b bd bm (fun _ => none) { S with ver := fun _ => [] } own ∧ w.grownBy w' (some bm) := by
  obtain ⟨w', hrun, hm, hg⟩ := h.map.clear (t := 64) (E := 63) Try.underlying64 ty
  exact ⟨w', hrun, h.clear hg hm, hg⟩
/-- Nothing is to fail any more. -/
theorem Lay.unfail (h : Lay w B b bd bm f S own) (ty : TypeId) :
    (Builtin.clear_ #[29] ty #[.slice (some ⟨b, 2, none⟩) 4 4]).run Try.prog w = .ok (.tuple #[]) (w.setCells b 2 [.int .i64 0, .int .i64 0, .int .i64 0, .int .i64 0]) ∧
      Lay (w.setCells b 2 [.int .i64 0, .int .i64 0, .int .i64 0, .int .i64 0]) B b bd bm f { S with f1 := 0, f2 := 0, f3 := 0 } own ∧ w.grownBy (w.setCells b 2 [.int .i64 0, .int .i64 0, .int .i64 0, .int .i64 0]) (some b) := by
  have hst := run_storeCells_cells (P := Try.prog) b 2 [.int .i64 0, .int .i64 0, .int .i64 0, .int .i64 0] 0 w
    (fun j hj => by
      have hj' : j < 4 := hj
      rw [h.blk.cell]
      match j, hj' with
      | 0, _ => rfl
      | 1, _ => rfl
      | 2, _ => rfl
      | 3, _ => rfl)
    (fun j _ => h.blk.frozen _) (fun v hv => by simp at hv; subst hv; rfl)
  refine ⟨?_, h.struct (T := { S with f1 := 0, f2 := 0, f3 := 0 }) (grown_setCells b _ _ w) { h.ok with f1 := Nat.zero_le _, f2 := Nat.zero_le _, f3 := Nat.zero_le _ } rfl rfl rfl ?_, grown_setCells b _ _ w⟩
  · have hzc : Builtin.zeroCells (Value.int .i64 0).cells 4 = #[Value.int .i64 0, Value.int .i64 0, Value.int .i64 0, Value.int .i64 0] := by kernel_rfl
    simp [Builtin.clear_, run_underlying Try.underlying29, hzc]
    have := hst
    simp at this
    rw [this]
    rfl
  · exact (((h.blk.set_ 2 (.int .i64 0)).set_ 3 (.int .i64 0)).set_ 4 (.int .i64 0)).set_ 5 (.int .i64 0)
end

set_option maxRecDepth 100000 in
set_option maxHeartbeats 3200000 in
theorem disk_crash {w : World} {B b bd bm : Nat} {S : St} {f : Nat → Option Value} {own : Nat → Prop} (h : Lay w B b bd bm f S own) (A : Option Addr) (n c : Nat) (picks : List Int) (hp : Picks w own A n picks) (hnm : n ≤ 9223372036854775807) (hroom : ∀ i, (S.ver i).length < 549755813888) :
    Calls Try.prog 12 #[.pointer (some ⟨b, 0, none⟩), .slice A n c] w fun e w' => e = .returned (.tuple #[]) ∧ (∃ f', Lay w' B b bd bm f' (S.crash picks) own) ∧ Turn w w' own own := by
  have HDY := Lib.hid (disk_dirty h)
  have htop := h.ok.top
  have hdl := dirty_le S
  have HOK := Lib.hid h.ok
  have HOB := Lib.hid h.ownB
  have H1 := Lib.hid h
  have HP := Lib.hid hp
  have HROOM := Lib.hid hroom
  clear hp h hroom
  go_enter Try.func12, Try.ntmps12
  go_wp2_with fail
  refine HDY.out.mono ?_
  rintro e w2 ⟨v, rfl, hrow, hg2⟩
  obtain ⟨_, A', c', rfl, hcells⟩ := nats_cell hrow
  have HCELL := Lib.hid hcells
  have HL2 := Lib.hid (H1.out.grown hg2 (fun _ e => by cases e))
  have HT2 := Lib.hid (Turn.none_ (own := own) hg2)
  have HNEW := Lib.hid (fun g (hg : w.heap.size ≤ g) (ho : own g) => by have := H1.out.lt g ho; omega : ∀ g, w.heap.size ≤ g → ¬ own g)
  clear hrow hg2 hcells
  go_wp2_with fail
  go_loopw [4, 5, 6, 7, 11] (fun _ _ _ _ i wr => ∃ j : Nat, j ≤ S.dirty.length ∧ j ≤ n ∧ i = .int .i64 j ∧ Lay wr B b bd bm f { S with dur := S.crashDur picks j } own ∧ Turn w2 wr own own) (fun _ _ _ _ i _ => S.dirty.length - (Go.RowKit.intOf i).toNat)
  case atStart => exact ⟨0, by omega, by omega, rfl, by rw [crashDur_zero]; exact HL2.out, Turn.refl _ _⟩
  case round =>
    obtain ⟨j, hj, hjn, rfl, hl, ht⟩ := hrel
    have HL := Lib.hid hl; have HTU := Lib.hid ht; clear hl ht
    by_cases hlt : j < S.dirty.length
    · obtain ⟨g, rfl, hgb, hgl, hc⟩ := HCELL.out j hlt
      have hcj : wr.cell? ⟨g, j, none⟩ = some (.int .i64 (S.dirty.getD j 0 : Nat)) := by
        rw [World.cell?_of_block (a := ⟨g, j, none⟩) (HTU.out.block g hgl (HNEW.out g hgb))]; exact hc
      clear hc
      by_cases hjb : j = n
      · have HEND := (show j = S.dirty.length ∨ j = picks.length from .inr (by rw [HP.out.1]; exact hjb))
        subst hjb
        generalize S.dirty.getD j 0 = at_ at *
        have hL0 : Lay wr B b bd bm f { S with dur := (S.crash picks).dur } own := by rw [← crashDur_end HOK.out picks (k := j) HEND]; exact HL.out
        obtain ⟨wc, hrun, hlc, hgc⟩ := hL0.clearAt 0
        obtain ⟨hrun2, hlc2, hgc2⟩ := hlc.unfail 0
        have hf6 := hlc2.fz 6
        have HC6 := hlc2.c6
        have hc1 := hL0.c1
        have hlast := hlc2.struct (T := S.crash picks) (w' := (wc.setCells b 2 [.int .i64 0, .int .i64 0, .int .i64 0, .int .i64 0]).setCell ⟨b, 6, none⟩ (.int .i64 (-1))) (Lib.grownBy_setB (World.grownBy.refl _ _) _ _) (HOK.out.crash picks) rfl rfl rfl (hlc2.blk.set_ 6 (.int .i64 (-1)))
        have HLAST := Lib.hid hlast
        have HTL := Lib.hid ((((HT2.out.trans HTU.out).trans (Turn.of_grown hgc (fun q e => by cases e; exact hL0.ownM))).trans (Turn.of_grown hgc2 (fun q e => by cases e; exact HOB.out))).trans (Turn.of_grown (Lib.grownBy_setB (World.grownBy.refl (wc.setCells b 2 [.int .i64 0, .int .i64 0, .int .i64 0, .int .i64 0]) (some b)) 6 (.int .i64 (-1))) (fun q e => by cases e; exact HOB.out)))
        clear hL0 hlc hlc2 hgc hgc2 hlast
        generalize wc.setCells b 2 [.int .i64 0, .int .i64 0, .int .i64 0, .int .i64 0] = wd at *
        go_wp2
        go_end0
        exact ⟨rfl, ⟨_, HLAST.out⟩, HTL.out⟩
      · have hjb' : ((j : Int) == (n : Int)) = false := by simp; omega
        have hjn' : j < n := by omega
        obtain ⟨g3, o3, rfl, hg3, _, hcp⟩ := (HP.out.turn (HT2.out.trans HTU.out)).2.2 (by omega)
        have hcpj := hcp j hjn'
        have hatj : S.dirty[j]? = some (S.dirty.getD j 0) := by rw [List.getD_eq_getElem?_getD, List.getElem?_eq_getElem hlt]; rfl
        have hstep := crashDur_step S picks hatj
        have hskip := crashDur_skip S picks hatj
        have hmem := (mem_dirty (S.dirty.getD j 0)).1 (List.mem_of_getElem? hatj)
        generalize S.dirty.getD j 0 = at_ at *
        generalize picks.getD j 0 = pk at *
        obtain ⟨hatn, hver⟩ := hmem
        obtain ⟨g2, cap, hfi, hcap, hmax, _, hg2n, hat⟩ := HL.out.versions at_ hver
        have hlk := HL.out.map.look (t := 64) (E := 63) Try.underlying3 Try.underlying64 (zeroM wr) at_ (by omega)
        rw [hfi] at hlk
        simp only [Option.getD_some] at hlk
        have hat' : ∀ q x, (S.ver at_)[q]? = some x → wr.rangeAt g2 (q * 256) (u8s x) := hat
        have hcap' : (S.ver at_).length ≤ cap := hcap
        have hlk' : (Instr.lookup 64 (.map (some bm)) (.int .i64 (at_ : Nat)) false).run Try.prog wr = .ok (.slice (some ⟨g2, 0, none⟩) (S.ver at_).length cap) wr := hlk
        clear hat hcap hlk hfi hcp
        have hpick : pickOf (S.dur at_) (S.ver at_) pk = if (pk % ((S.ver at_).length + 1 : Int)).toNat = 0 then S.dur at_ else (S.ver at_).getD ((pk % ((S.ver at_).length + 1 : Int)).toNat - 1) (S.dur at_) := rfl
        have hsv := HOK.out.ver at_
        have hm0 : 0 < (S.ver at_).length := List.length_pos_iff.2 hver
        have hmr := HROOM.out at_
        generalize hml : (S.ver at_).length = m at *
        have hmm : m < 9223372036854775807 := by omega
        have HREM := Lib.hid (remainder_any pk m wr hmm)
        have he := Int.emod_nonneg pk (show ((m : Int) + 1) ≠ 0 by omega)
        have hle := Int.emod_lt_of_pos pk (show (0 : Int) < (m : Int) + 1 by omega)
        generalize pk % ((m : Int) + 1) = r at *
        have hwm : IntKind.i64.wrap ((m : Int) + 1) = (m : Int) + 1 := IntWalk.i64_in _ (by omega)
        have hc1 := HL.out.c1
        by_cases hr0 : r = 0
        · subst hr0
          rw [show (0 : Int).toNat = 0 from rfl, if_pos rfl] at hpick
          have HSK := Lib.hid (hskip hpick)
          clear hskip hstep hpick hsv hatj he hle hat' hml
          go_wp2_with fail
          refine HREM.out.mono ?_
          rintro e w9 ⟨rfl, rfl⟩
          go_wp2_with fail
          go_roundw
          case rel => exact ⟨j + 1, by omega, by omega, by go_num, by rw [HSK.out]; exact HL.out, HTU.out⟩
          case measure => simp [Go.RowKit.intOf]; omega
        · obtain ⟨q, rfl⟩ : ∃ q : Nat, r = (q : Int) + 1 := ⟨(r - 1).toNat, by omega⟩
          have hq : q < (S.ver at_).length := by omega
          rw [show ((q : Int) + 1).toNat = q + 1 from by omega, if_neg (by omega), Nat.add_sub_cancel, List.getD_eq_getElem?_getD, List.getElem?_eq_getElem hq, Option.getD_some] at hpick
          have hx := hsv _ (List.getElem_mem hq)
          have hrq := hat' q _ (List.getElem?_eq_getElem hq)
          rw [hpick] at hstep
          generalize (S.ver at_)[q] = x at *
          have hsd := HL.out.drew.setDur hatn hx
          rw [Nat.mul_comm] at hsd
          have hth := HL.out.drew.thereAt hatn
          have HK0 := Lib.hid (show wr.drew.cell? ⟨b, 0, none⟩ = some (.slice (some ⟨bd, 0, none⟩) S.n S.n) ∧ wr.drew.rangeAt g2 (q * 256) (u8s x) ∧ wr.drew.there bd (at_ * 256) 256 from ⟨HL.out.drew.c0, hrq, hth⟩)
          have HK1 := Lib.hid (show (wr.drew.setCells bd (at_ * 256) (u8s x)).cell? ⟨b, 0, none⟩ = some (.slice (some ⟨bd, 0, none⟩) S.n S.n) ∧ (wr.drew.setCells bd (at_ * 256) (u8s x)).rangeAt g2 (q * 256) (u8s x) ∧ (wr.drew.setCells bd (at_ * 256) (u8s x)).there bd (at_ * 256) 256 from
            ⟨hsd.c0, rangeAt_of_block hrq (heap_setCells bd _ _ wr.drew g2 hg2n), World.there_setCells hth bd _ _⟩)
          have HSD := Lib.hid (show Lay (wr.drew.setCells bd (at_ * 256) (u8s x)) B b bd bm f { S with dur := S.crashDur picks (j + 1) } own by rw [hstep]; exact hsd)
          have HTS := Lib.hid (HTU.out.trans ((Turn.none_ (grown_drew wr none)).trans (Turn.of_grown (grown_setCells bd (u8s x) (at_ * 256) wr.drew) (fun k e => by cases e; exact HL.out.ownD))))
          have hI : (Try.prog.info? 74).map (·.size) = some (u8s x).length := by rw [u8s_length, hx.1]; exact infoS
          have hU : Try.prog.underlying 74 = some (.array 256 5) := Try.underlying74
          have hLn : (u8s x).length = 256 := by rw [u8s_length, hx.1]
          have hOn := u8s_one x
          have hc0 := HL.out.c0
          have hwq : IntKind.i64.wrap (q : Int) = (q : Int) := IntWalk.i64_in _ (by omega)
          have hqm : (q : Int) < (m : Int) := by omega
          have hq0 : (0 : Int) ≤ (q : Int) := by omega
          have hat0 : (at_ : Int) < (S.n : Int) := by omega
          have hpos : decide ((0 : Int) < (q : Int) + 1) = true := decide_eq_true (by omega)
          clear hskip hstep hpick hsv hatj he hle hat' hsd hth hrq hx hml
          generalize u8s x = xc at *
          go_wp2_with fail
          refine HREM.out.mono ?_
          rintro e w9 ⟨rfl, rfl⟩
          go_wp2_with fail
          go_region_held3 (fun wx => wx.cell? ⟨b, 0, none⟩ = some (.slice (some ⟨bd, 0, none⟩) S.n S.n) ∧ wx.rangeAt g2 (q * 256) xc ∧ wx.there bd (at_ * 256) 256)
            (first
              | exact HK0.out
              | exact HK1.out)
            (fail)
          go_wp2_with fail
          go_roundw
          case rel => exact ⟨j + 1, by omega, by omega, by go_num, HSD.out, HTS.out⟩
          case measure => simp [Go.RowKit.intOf]; omega
    · obtain rfl : j = S.dirty.length := by omega
      have HEND := (show S.dirty.length = S.dirty.length ∨ S.dirty.length = picks.length from .inl rfl)
      have hL0 : Lay wr B b bd bm f { S with dur := (S.crash picks).dur } own := by rw [← crashDur_end HOK.out picks (k := S.dirty.length) HEND]; exact HL.out
      obtain ⟨wc, hrun, hlc, hgc⟩ := hL0.clearAt 0
      obtain ⟨hrun2, hlc2, hgc2⟩ := hlc.unfail 0
      have hf6 := hlc2.fz 6
      have HC6 := hlc2.c6
      have hc1 := hL0.c1
      have hlast := hlc2.struct (T := S.crash picks) (w' := (wc.setCells b 2 [.int .i64 0, .int .i64 0, .int .i64 0, .int .i64 0]).setCell ⟨b, 6, none⟩ (.int .i64 (-1))) (Lib.grownBy_setB (World.grownBy.refl _ _) _ _) (HOK.out.crash picks) rfl rfl rfl (hlc2.blk.set_ 6 (.int .i64 (-1)))
      have HLAST := Lib.hid hlast
      have HTL := Lib.hid ((((HT2.out.trans HTU.out).trans (Turn.of_grown hgc (fun q e => by cases e; exact hL0.ownM))).trans (Turn.of_grown hgc2 (fun q e => by cases e; exact HOB.out))).trans (Turn.of_grown (Lib.grownBy_setB (World.grownBy.refl (wc.setCells b 2 [.int .i64 0, .int .i64 0, .int .i64 0, .int .i64 0]) (some b)) 6 (.int .i64 (-1))) (fun q e => by cases e; exact HOB.out)))
      clear hL0 hlc hlc2 hgc hgc2 hlast
      generalize wc.setCells b 2 [.int .i64 0, .int .i64 0, .int .i64 0, .int .i64 0] = wd at *
      go_wp2
      go_end0
      exact ⟨rfl, ⟨_, HLAST.out⟩, HTL.out⟩
end Go.Proofs.Ytagikgejhckfbaa.Dsk
/- Sectors are not written. -/
namespace Go.Proofs.Ytagikgejhckfbaa.Dsk
open Go.RowKit Mem Crc DiskSpec

set_option maxHeartbeats 800000 in
theorem disk_write_arg (p : Value) (a : Int) (A : Option Addr) (n c : Nat) (fua : Bool) (w : World) (hn : n ≤ 9223372036854775807) (hb : n = 0 ∨ n % 256 ≠ 0) :
    Calls Try.prog 15 #[p, .int .i64 a, .slice A n c, .bool fua] w fun e w' => e = .returned (.int .i64 1) ∧ w = w' := by
  by_cases h0 : n = 0
  · subst h0
    clear hb
    go_enter Try.func15, Try.ntmps15
    go_wp2
    go_ret
    exact ⟨rfl, rfl⟩
  · have h1 : n % 256 ≠ 0 := by rcases hb with h | h; exact absurd h h0; exact h
    have hm3 : ((n : Int) == 0) = false := by simp; omega
    have hm4 : ((n : Int).tmod 256 != 0) = true := by rw [Int.tmod_eq_emod_of_nonneg (by omega)]; simp; omega
    have hw4 : IntKind.i64.wrap ((n : Int).tmod 256) = (n : Int).tmod 256 := IntWalk.i64_in _ (by rw [Int.tmod_eq_emod_of_nonneg (by omega)]; omega)
    generalize (n : Int).tmod 256 = m at *
    clear hb
    go_enter Try.func15, Try.ntmps15
    go_wp2
    go_ret
    exact ⟨rfl, rfl⟩

set_option maxHeartbeats 800000 in
theorem disk_write_range {w : World} {B b bd bm : Nat} {S : St} {f : Nat → Option Value} {own : Nat → Prop} (h : Lay w B b bd bm f S own) (a : Int) (A : Option Addr) (count c : Nat) (fua : Bool)
    (ha : -9223372036854775808 ≤ a ∧ a ≤ 9223372036854775807) (h1 : 1 ≤ count) (h2 : count ≤ 36028797018963967) (hn : S.has a count = false) :
    Calls Try.prog 15 #[.pointer (some ⟨b, 0, none⟩), .int .i64 a, .slice A (count * 256) c, .bool fua] w fun e w' => e = .returned (.int .i64 2) ∧ w = w' := by
  have HH := Lib.hid (disk_has h a (count : Int) ha (by omega))
  rw [hn] at HH
  clear h hn
  have hm1 : ((count * 256 : Nat) : Int) % 256 = 0 := by omega
  have hm2 : ((count * 256 : Nat) : Int) / 256 = (count : Int) := by omega
  have hm3 : (((count * 256 : Nat) : Int) == 0) = false := by simp; omega
  have hbig : count * 256 ≤ 9223372036854775807 := by omega
  generalize count * 256 = n at *
  have hm4 : (n : Int).tmod 256 = 0 := by rw [Int.tmod_eq_emod_of_nonneg (by omega)]; exact hm1
  have hm5 : (n : Int).tdiv 256 = (count : Int) := by rw [Int.tdiv_eq_ediv_of_nonneg (by omega)]; exact hm2
  have hw5 : IntKind.i64.wrap (count : Int) = (count : Int) := IntWalk.i64_in _ (by omega)
  go_enter Try.func15, Try.ntmps15
  go_wp2_with fail
  refine HH.out.mono ?_
  rintro e w' ⟨rfl, rfl⟩
  go_wp2
  go_ret
  exact ⟨rfl, rfl⟩

set_option maxHeartbeats 800000 in
theorem disk_write_stop {w : World} {B b bd bm : Nat} {S : St} {f : Nat → Option Value} {own : Nat → Prop} (h : Lay w B b bd bm f S own) (a : Int) (A : Option Addr) (count c : Nat) (fua : Bool)
    (ha : -9223372036854775808 ≤ a ∧ a ≤ 9223372036854775807) (h1 : 1 ≤ count) (h2 : count ≤ 36028797018963967) (hn : S.has a count = true) (hs : S.f2 = 1 ∨ S.left = 0) :
    Calls Try.prog 15 #[.pointer (some ⟨b, 0, none⟩), .int .i64 a, .slice A (count * 256) c, .bool fua] w fun e w' => e = .returned (.int .i64 11) ∧ Lay w' B b bd bm f { S with f2 := S.f2 - 1 } own ∧ Turn w w' own own := by
  have HH := Lib.hid (disk_has h a (count : Int) ha (by omega))
  rw [hn] at HH
  have HD := Lib.hid (disk_stops2 h)
  rw [show (decide (S.f2 = 1) || decide (S.left = 0)) = true by simp; exact hs] at HD
  have HOB := Lib.hid h.ownB
  clear h hn hs
  generalize ({ S with f2 := S.f2 - 1 } : St) = T at *
  have hm1 : ((count * 256 : Nat) : Int) % 256 = 0 := by omega
  have hm2 : ((count * 256 : Nat) : Int) / 256 = (count : Int) := by omega
  have hm3 : (((count * 256 : Nat) : Int) == 0) = false := by simp; omega
  have hbig : count * 256 ≤ 9223372036854775807 := by omega
  generalize count * 256 = n at *
  have hm4 : (n : Int).tmod 256 = 0 := by rw [Int.tmod_eq_emod_of_nonneg (by omega)]; exact hm1
  have hm5 : (n : Int).tdiv 256 = (count : Int) := by rw [Int.tdiv_eq_ediv_of_nonneg (by omega)]; exact hm2
  have hw5 : IntKind.i64.wrap (count : Int) = (count : Int) := IntWalk.i64_in _ (by omega)
  go_enter Try.func15, Try.ntmps15
  go_wp2_with fail
  refine HH.out.mono ?_
  rintro e w' ⟨rfl, rfl⟩
  go_wp2_with fail
  refine HD.out.mono ?_
  rintro e w1 ⟨rfl, hg1, hl1⟩
  have HG1 := Lib.hid hg1; have H1 := Lib.hid hl1; clear hg1 hl1
  go_wp2
  go_ret
  exact ⟨rfl, H1.out, Turn.of_grown HG1.out (fun q e => by cases e; exact HOB.out)⟩
end Go.Proofs.Ytagikgejhckfbaa.Dsk
/- Each call on either disk, whatever it is asked: one contract a call. -/
namespace Go.Proofs.Ytagikgejhckfbaa.Dsk
open Go.RowKit Mem Crc DiskSpec

/-- A disk at block b; the document's disk at block r. -/
def DAt (w : World) (B b : Nat) (S : St) (own : Nat → Prop) : Prop := ∃ bd bm f, Lay w B b bd bm f S own
theorem Data.none_ (w : World) (own : Nat → Prop) : Data w own none 0 [] := ⟨rfl, by simp, by omega⟩

theorem disk_write_all {w : World} {B b : Nat} {S : St} {own : Nat → Prop} (h : DAt w B b S own) (a : Int) (A : Option Addr) (n cc : Nat) (l : List Nat) (fua : Bool) (ha : -9223372036854775808 ≤ a ∧ a ≤ 9223372036854775807)
    (hd : Data w own A n l) (hc : n ≤ cc) (hnm : n ≤ 65536) (hroom : ∀ i, (S.ver i).length < 549755813888) (hB : B ≤ w.heap.size) :
    Calls Try.prog 15 #[.pointer (some ⟨b, 0, none⟩), .int .i64 a, .slice A n cc, .bool fua] w fun e w' => e = .returned (.int .i64 (writeE S fua a l).1) ∧ ∃ own', DAt w' B b (writeE S fua a l).2 own' ∧ Turn w w' own own' := by
  obtain ⟨bd, bm, f, h⟩ := h
  have hl := hd.1
  unfold writeE
  rw [hl]
  by_cases h1 : n = 0 ∨ n % 256 ≠ 0
  · rw [if_pos h1]
    refine (disk_write_arg _ a A n cc fua w (by omega) h1).mono ?_
    rintro e w' ⟨rfl, rfl⟩
    exact ⟨rfl, own, ⟨bd, bm, f, h⟩, Turn.refl _ _⟩
  · rw [if_neg h1]
    obtain ⟨k, rfl⟩ : ∃ k, n = k * 256 := ⟨n / 256, by omega⟩
    rw [Nat.mul_div_cancel _ (by omega : 0 < 256)]
    have hk : 1 ≤ k := by omega
    by_cases h2 : S.has a k = false
    · rw [if_pos h2]
      refine (disk_write_range h a A k cc fua ha hk (by omega) h2).mono ?_
      rintro e w' ⟨rfl, rfl⟩
      exact ⟨rfl, own, ⟨bd, bm, f, h⟩, Turn.refl _ _⟩
    · rw [if_neg h2]
      have h2' : S.has a k = true := by simpa using h2
      by_cases h3 : S.f2 = 1 ∨ S.left = 0
      · rw [if_pos h3]
        refine (disk_write_stop h a A k cc fua ha hk (by omega) h2' h3).mono ?_
        rintro e w' ⟨rfl, h4, h5⟩
        exact ⟨rfl, own, ⟨_, _, _, h4⟩, h5⟩
      · rw [if_neg h3]
        obtain ⟨a', c', rfl, hc', _, h5⟩ := has_split h2' h.ok.top
        obtain rfl : k = c' := by omega
        refine (disk_write_ok h a' k A cc l fua hd hc hk h5 (fun e => h3 (.inl e)) (fun e => h3 (.inr e)) hroom hB).mono ?_
        rintro e w' ⟨rfl, f', own', h6, h7⟩
        exact ⟨rfl, own', ⟨_, _, _, h6⟩, h7⟩
theorem disk_fail_all {w : World} {B b : Nat} {S : St} {own : Nat → Prop} (h : DAt w B b S own) (kind n : Int) :
    Calls Try.prog 16 #[.pointer (some ⟨b, 0, none⟩), .int .i64 kind, .int .i64 n] w fun e w' => e = .returned (.int .i64 (failE S kind n).1) ∧ DAt w' B b (failE S kind n).2 own ∧ Turn w w' own own := by
  obtain ⟨bd, bm, f, h⟩ := h
  have ho := h.ownB
  unfold failE
  by_cases h1 : n < 1 ∨ 1099511627776 < n
  · rw [if_pos h1]
    refine (disk_fail_no _ kind n w (by unfold failBad; omega)).mono ?_
    rintro e w' ⟨rfl, rfl⟩
    exact ⟨rfl, ⟨bd, bm, f, h⟩, Turn.refl _ _⟩
  · rw [if_neg h1]
    obtain ⟨m, rfl⟩ : ∃ m : Nat, n = m := ⟨n.toNat, by omega⟩
    rw [Int.toNat_natCast]
    split
    · rename_i hk; subst hk
      refine (disk_fail1 h m (by omega) (by omega)).mono ?_
      rintro e w' ⟨rfl, h4, h5⟩
      exact ⟨rfl, ⟨_, _, _, h5⟩, Turn.of_grown h4 (fun q e => by cases e; exact ho)⟩
    · split
      · rename_i hk; subst hk
        refine (disk_fail2 h m (by omega) (by omega)).mono ?_
        rintro e w' ⟨rfl, h4, h5⟩
        exact ⟨rfl, ⟨_, _, _, h5⟩, Turn.of_grown h4 (fun q e => by cases e; exact ho)⟩
      · split
        · rename_i hk; subst hk
          refine (disk_fail3 h m (by omega) (by omega)).mono ?_
          rintro e w' ⟨rfl, h4, h5⟩
          exact ⟨rfl, ⟨_, _, _, h5⟩, Turn.of_grown h4 (fun q e => by cases e; exact ho)⟩
        · refine (disk_fail_no _ kind m w (by unfold failBad; omega)).mono ?_
          rintro e w' ⟨rfl, rfl⟩
          exact ⟨rfl, ⟨bd, bm, f, h⟩, Turn.refl _ _⟩
theorem disk_crash_all {w : World} {B b : Nat} {S : St} {own : Nat → Prop} (h : DAt w B b S own) (A : Option Addr) (n cc : Nat) (picks : List Int) (hp : Picks w own A n picks) (hnm : n ≤ 9223372036854775807) (hroom : ∀ i, (S.ver i).length < 549755813888) :
    Calls Try.prog 12 #[.pointer (some ⟨b, 0, none⟩), .slice A n cc] w fun e w' => e = .returned (.tuple #[]) ∧ DAt w' B b (S.crash picks) own ∧ Turn w w' own own := by
  obtain ⟨bd, bm, f, h⟩ := h
  refine (disk_crash h A n cc picks hp hnm hroom).mono ?_
  rintro e w' ⟨rfl, ⟨f', h6⟩, h7⟩
  exact ⟨rfl, ⟨_, _, _, h6⟩, h7⟩

/-- Bytes that the disk has given: a row of the reader's own. -/
def Gave8 (w : World) (base : Nat) (v : Value) (l : List Nat) : Prop := (v = .slice none 0 0 ∧ l = []) ∨ ∃ g cap, v = .slice (some ⟨g, 0, none⟩) l.length cap ∧ base ≤ g ∧ Blk w g 5 (u8s l).toArray
theorem reads_len {S : St} (hok : S.ok) (a c : Nat) : (S.reads a c).length = 256 * c := reads_length hok a c
theorem disk_read_all {w : World} {B b : Nat} {S : St} {own : Nat → Prop} (h : DAt w B b S own) (a count : Int) (ha : -9223372036854775808 ≤ a ∧ a ≤ 9223372036854775807) (hc : -9223372036854775808 ≤ count ∧ count ≤ 9223372036854775807) :
    Calls Try.prog 14 #[.pointer (some ⟨b, 0, none⟩), .int .i64 a, .int .i64 count] w fun e w' => ∃ v, e = .returned (.tuple #[v, .int .i64 (readE S a count).1]) ∧ Gave8 w' w.heap.size v (readL S a count) ∧ DAt w' B b (readE S a count).2 own ∧ Turn w w' own own := by
  obtain ⟨bd, bm, f, h⟩ := h
  unfold readE readL
  by_cases h2 : S.has a count = false
  · rw [if_pos h2, if_pos h2]
    refine (disk_read_no h a count ha hc h2).mono ?_
    rintro e w' ⟨rfl, rfl⟩
    exact ⟨_, rfl, .inl ⟨rfl, rfl⟩, ⟨bd, bm, f, h⟩, Turn.refl _ _⟩
  · have h2' : S.has a count = true := by simpa using h2
    rw [if_neg h2, if_neg h2]
    by_cases h3 : S.f1 = 1
    · rw [if_pos h3, if_pos h3]
      refine (disk_read_fail h a count ha hc h2' h3).mono ?_
      rintro e w' ⟨rfl, h4, h5⟩
      exact ⟨_, rfl, .inl ⟨rfl, rfl⟩, ⟨_, _, _, h4⟩, h5⟩
    · rw [if_neg h3, if_neg h3]
      obtain ⟨a', c', rfl, rfl, h4, h5⟩ := has_split h2' h.ok.top
      have hlen := reads_len h.ok a' c'
      refine (disk_read_ok h a' c' h4 h5 h3).mono ?_
      rintro e w' ⟨g, cap, rfl, h6, h7, h8, h9⟩
      exact ⟨_, rfl, .inr ⟨g, cap, by rw [Int.toNat_natCast, Int.toNat_natCast, hlen], h6, h7⟩, ⟨_, _, _, h8⟩, h9⟩
end Go.Proofs.Ytagikgejhckfbaa.Dsk
