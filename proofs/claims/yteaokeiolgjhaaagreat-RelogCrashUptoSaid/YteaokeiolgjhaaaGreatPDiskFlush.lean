/- Texts of this seat's proofs: DiskFlush, DiskCrash. -/
import Derived.Test.YteaokeiolgjhaaaGreatPDiskDirty
import Derived.Test.YteaokeiolgjhaaaGreatPDiskSettle
import Derived.Test.YteaokeiolgjhaaaGreatPDiskLay
/- All is made durable; the power goes. -/
namespace Go.Proofs.YteaokeiolgjhaaaGreat.Dsk
open Go.RowKit Mem Crc DiskSpec

theorem nats_cell {w : World} {base n : Nat} {v : Value} {l : List Nat} (h : w.ownsRow base 3 1 v n (nats l)) :
    n = l.length ∧ ∃ A c, v = .slice A n c ∧ ∀ j, j < n → ∃ g, A = some ⟨g, 0, none⟩ ∧ base ≤ g ∧ g < w.heap.size ∧ w.cell? ⟨g, j, none⟩ = some (.int .i64 (l.getD j 0 : Nat)) := by
  have hn : n = l.length := by have := h.1; rw [nats_length] at this; omega
  refine ⟨hn, ?_⟩
  rcases h.2 with ⟨rfl, h0⟩ | ⟨g, cap, cur, rfl, hbg, hh, _⟩
  · subst h0; exact ⟨none, 0, rfl, fun j hj => by omega⟩
  · refine ⟨_, cap, rfl, fun j hj => ⟨g, rfl, hbg, (Array.getElem?_eq_some_iff.1 hh).1, ?_⟩⟩
    have h1 := World.ownsRow.cells h (g := g) rfl j _ (nats_at l j (by omega))
    have e1 : (⟨g, 0, none⟩ : Addr).add j = ⟨g, j, none⟩ := by unfold Addr.add; split <;> simp_all
    rw [e1] at h1
    rw [h1, List.getD_eq_getElem?_getD, List.getElem?_eq_getElem (by omega)]; rfl
theorem dirty_bound {S : St} {j : Nat} (hj : j < S.dirty.length) : S.dirty.getD j 0 < S.n := by
  rw [List.getD_eq_getElem?_getD, List.getElem?_eq_getElem hj]
  exact ((mem_dirty _).1 (List.getElem_mem hj)).1
theorem dirty_le (S : St) : S.dirty.length ≤ S.n := by
  have := List.length_filter_le (fun k => !(S.ver k).isEmpty) (List.range S.n)
  simpa [St.dirty] using this

set_option maxRecDepth 100000 in
set_option maxHeartbeats 1600000 in
theorem disk_flush_ok {w : World} {B b bd bm : Nat} {S : St} {f : Nat → Option Value} {own : Nat → Prop} (h : Lay w B b bd bm f S own) (hf3 : S.f3 ≠ 1) (hlf : S.left ≠ 0) :
    Calls Tryz.prog 45 #[.pointer (some ⟨b, 0, none⟩)] w fun e w' => e = .returned (.int .i64 0) ∧ (∃ f', Lay w' B b bd bm f' ({ S with f3 := S.f3 - 1 } : St).flush.done own) ∧ Turn w w' own own := by
  have HD := Lib.hid (disk_stops3 h)
  rw [show (decide (S.f3 = 1) || decide (S.left = 0)) = false by simp [hf3, hlf]] at HD
  have HOB := Lib.hid h.ownB
  clear h
  generalize ({ S with f3 := S.f3 - 1 } : St) = T at *
  go_enter Tryz.func45, Tryz.ntmps45
  go_wp2_with fail
  refine HD.out.mono ?_
  rintro e w1 ⟨rfl, hg1, hl1⟩
  have HDY := Lib.hid (disk_dirty hl1)
  have HT1 := Lib.hid (Turn.of_grown (own := own) hg1 (fun q e => by cases e; exact HOB.out)); have H1 := Lib.hid hl1; clear hg1 hl1
  go_wp2_with fail
  refine HDY.out.mono ?_
  rintro e w2 ⟨v, rfl, hrow, hg2⟩
  obtain ⟨_, A, c, rfl, hcells⟩ := nats_cell hrow
  have hdl := dirty_le T
  have htop := H1.out.ok.top
  have HCELL := Lib.hid hcells
  have HL2 := Lib.hid (H1.out.grown hg2 (fun _ e => by cases e))
  have HT2 := Lib.hid (HT1.out.trans (Turn.none_ hg2))
  have HNEW := Lib.hid (fun g (hg : w1.heap.size ≤ g) (ho : own g) => by have := H1.out.lt g ho; omega : ∀ g, w1.heap.size ≤ g → ¬ own g)
  clear hrow hg2 hcells
  go_wp2_with fail
  go_loopw [4, 10] (fun _ i wr => ∃ (j : Nat) (f' : Nat → Option Value), j ≤ T.dirty.length ∧ i = .int .i64 j ∧ Lay wr B b bd bm f' (T.settles (T.dirty.take j)) own ∧ Turn w2 wr own own) (fun _ i _ => T.dirty.length - (Go.RowKit.intOf i).toNat)
  case atStart => exact ⟨0, f, by omega, rfl, HL2.out, Turn.refl _ _⟩
  case round =>
    obtain ⟨j, f', hj, rfl, hl, ht⟩ := hrel
    have HL := Lib.hid hl; have HTU := Lib.hid ht; clear hl ht
    by_cases hlt : j < T.dirty.length
    · obtain ⟨g, rfl, hgb, hgl, hc⟩ := HCELL.out j hlt
      have hcj : wr.cell? ⟨g, j, none⟩ = some (.int .i64 (T.dirty.getD j 0 : Nat)) := by
        rw [World.cell?_of_block (a := ⟨g, j, none⟩) (HTU.out.block g hgl (HNEW.out g hgb))]; exact hc
      have hb := dirty_bound hlt
      have hn : (T.settles (T.dirty.take j)).n = T.n := (settles_rest T _).1
      have HST := Lib.hid (disk_settle HL.out (T.dirty.getD j 0) (by rw [hn]; exact hb))
      have htk : T.dirty.take (j + 1) = T.dirty.take j ++ [T.dirty.getD j 0] := by
        rw [List.take_succ_eq_append_getElem hlt, List.getD_eq_getElem?_getD, List.getElem?_eq_getElem hlt]; rfl
      rw [← settles_snoc, ← htk] at HST
      clear htk hn hc
      generalize T.dirty.getD j 0 = at_ at *
      generalize hdn : T.dirty.length = dn at *
      have HDN := Lib.hid hdn; clear hdn
      go_wp2_with fail
      refine HST.out.mono ?_
      rintro e w9 ⟨rfl, ⟨f9, hl9⟩, ht9⟩
      have HL9 := Lib.hid hl9; have HT9 := Lib.hid (HTU.out.trans ht9); clear hl9 ht9
      go_wp2_with fail
      go_roundw
      case rel => exact ⟨j + 1, f9, by omega, by go_num, HL9.out, HT9.out⟩
      case measure => simp [Go.RowKit.intOf]; omega
    · obtain rfl : j = T.dirty.length := by omega
      have hall : T.settles (T.dirty.take T.dirty.length) = T.flush := by rw [List.take_length, settles_all H1.out.ok]
      rw [hall] at HL
      have HDN := Lib.hid (disk_done HL.out)
      clear hall
      generalize hdn : T.dirty.length = dn at *
      go_wp2_with fail
      refine HDN.out.mono ?_
      rintro e w9 ⟨rfl, hg9, hl9⟩
      have HL9 := Lib.hid hl9; have HT9 := Lib.hid ((HT2.out.trans HTU.out).trans (Turn.of_grown hg9 (fun q e => by cases e; exact HOB.out))); clear hl9 hg9
      go_wp2
      go_ret
      exact ⟨rfl, ⟨f', HL9.out⟩, HT9.out⟩

set_option maxHeartbeats 800000 in
theorem disk_flush_stop {w : World} {B b bd bm : Nat} {S : St} {f : Nat → Option Value} {own : Nat → Prop} (h : Lay w B b bd bm f S own) (hs : S.f3 = 1 ∨ S.left = 0) :
    Calls Tryz.prog 45 #[.pointer (some ⟨b, 0, none⟩)] w fun e w' => e = .returned (.int .i64 12) ∧ Lay w' B b bd bm f { S with f3 := S.f3 - 1 } own ∧ Turn w w' own own := by
  have HD := Lib.hid (disk_stops3 h)
  rw [show (decide (S.f3 = 1) || decide (S.left = 0)) = true by simp; exact hs] at HD
  have HOB := Lib.hid h.ownB
  clear h hs
  generalize ({ S with f3 := S.f3 - 1 } : St) = T at *
  go_enter Tryz.func45, Tryz.ntmps45
  go_wp2_with fail
  refine HD.out.mono ?_
  rintro e w1 ⟨rfl, hg1, hl1⟩
  have HG1 := Lib.hid hg1; have H1 := Lib.hid hl1; clear hg1 hl1
  go_wp2
  go_ret
  exact ⟨rfl, H1.out, Turn.of_grown HG1.out (fun q e => by cases e; exact HOB.out)⟩
end Go.Proofs.YteaokeiolgjhaaaGreat.Dsk
/- The power goes. -/
namespace Go.Proofs.YteaokeiolgjhaaaGreat.Dsk
open Go.RowKit Mem Crc DiskSpec

/-- Picks that are handed in: whole numbers outside the disk's own blocks. -/
def Picks (w : World) (own : Nat → Prop) (A : Option Addr) (n : Nat) (l : List Int) : Prop :=
  l.length = n ∧ (∀ x ∈ l, -9223372036854775808 ≤ x ∧ x ≤ 9223372036854775807) ∧ (0 < n → ∃ g o, A = some ⟨g, o, none⟩ ∧ g < w.heap.size ∧ ¬ own g ∧ ∀ j, j < n → w.cell? ⟨g, o + j, none⟩ = some (.int .i64 (l.getD j 0)))
theorem Picks.nil (w : World) (own : Nat → Prop) : Picks w own none 0 [] := ⟨rfl, by simp, by omega⟩
theorem Picks.turn {w w' : World} {own own' : Nat → Prop} {A : Option Addr} {n : Nat} {l : List Int} (h : Picks w own A n l) (ht : Turn w w' own own') : Picks w' own' A n l := by
  refine ⟨h.1, h.2.1, fun hn => ?_⟩
  obtain ⟨g, o, e, hlt, hno, hc⟩ := h.2.2 hn
  refine ⟨g, o, e, Nat.lt_of_lt_of_le hlt ht.size, fun ho => by rcases ht.fresh g ho with h1 | h1; exact hno h1; omega, fun j hj => ?_⟩
  rw [World.cell?_of_block (a := ⟨g, o + j, none⟩) (ht.block g hlt hno)]
  exact hc j hj

section
variable {w w' : World} {B b bd bm : Nat} {S T : St} {f : Nat → Option Value} {own : Nat → Prop}
/-- The disk's own block is written: the disk is what it then says. -/
theorem Lay.struct (h : Lay w B b bd bm f S own) (hg : w.grownBy w' (some b)) (hT : T.ok) (hn : T.n = S.n) (hd : T.dur = S.dur) (hv : T.ver = S.ver)
    (hb : Blk w' b 92 #[.slice (some ⟨bd, 0, none⟩) T.n T.n, .map (some bm), .int .i64 0, .int .i64 (T.f1 : Nat), .int .i64 (T.f2 : Nat), .int .i64 (T.f3 : Nat), .int .i64 T.left]) : Lay w' B b bd bm f T own where
  ok := hT
  blk := hb
  dur i hi := by rw [hd]; exact rangeAt_of_block (h.dur i (by omega)) (hg.block bd (h.lt bd h.ownD) (by simpa using fun e => h.bd_ e.symm))
  room := by rw [hn]; exact there_of_block h.room (hg.block bd (h.lt bd h.ownD) (by simpa using fun e => h.bd_ e.symm))
  map := by rw [hn]; exact h.map.of_block (hg.block bm (h.lt bm h.ownM) (by simpa using fun e => h.bm_ e.symm))
  rows := (h.rows.keep (fun i hi hb _ _ => hg.block i (h.lt i hi) (by simpa using hb))).same hv
  ownB := h.ownB
  ownD := h.ownD
  ownM := h.ownM
  bd_ := h.bd_
  bm_ := h.bm_
  dm_ := h.dm_
  low := h.low
  lt i hi := Nat.lt_of_lt_of_le (h.lt i hi) hg.size
theorem Lay.clearAt (h : Lay w B b bd bm f S own) (ty : TypeId) :
    ∃ w', (Builtin.clear_ #[89] ty #[.map (some bm)]).run Tryz.prog w = .ok (.tuple #[]) w' ∧ Lay w' B b bd bm (fun _ => none) { S with ver := fun _ => [] } own ∧ w.grownBy w' (some bm) := by
  obtain ⟨w', hrun, hm, hg⟩ := h.map.clear (t := 89) (E := 88) Tryz.underlying89 ty
  exact ⟨w', hrun, h.clear hg hm, hg⟩
/-- Nothing is to fail any more. -/
theorem Lay.unfail (h : Lay w B b bd bm f S own) (ty : TypeId) :
    (Builtin.clear_ #[32] ty #[.slice (some ⟨b, 2, none⟩) 4 4]).run Tryz.prog w = .ok (.tuple #[]) (w.setCells b 2 [.int .i64 0, .int .i64 0, .int .i64 0, .int .i64 0]) ∧
      Lay (w.setCells b 2 [.int .i64 0, .int .i64 0, .int .i64 0, .int .i64 0]) B b bd bm f { S with f1 := 0, f2 := 0, f3 := 0 } own ∧ w.grownBy (w.setCells b 2 [.int .i64 0, .int .i64 0, .int .i64 0, .int .i64 0]) (some b) := by
  have hst := run_storeCells_cells (P := Tryz.prog) b 2 [.int .i64 0, .int .i64 0, .int .i64 0, .int .i64 0] 0 w
    (fun j hj => by
      have hj' : j < 4 := hj
      rw [h.blk.cell]
      match j, hj' with
      | 0, _ => rfl
      | 1, _ => rfl
      | 2, _ => rfl
      | 3, _ => rfl)
    (fun j _ => h.blk.frozen _) (fun v hv => by simp at hv; subst hv; rfl)
  refine ⟨?_, h.struct (T := { S with f1 := 0, f2 := 0, f3 := 0 }) (grown_setCells b _ _ w) { h.ok with f1 := Nat.zero_le _, f2 := Nat.zero_le _, f3 := Nat.zero_le _ } rfl rfl rfl ?_, grown_setCells b _ _ w⟩
  · have hzc : Builtin.zeroCells (Value.int .i64 0).cells 4 = #[Value.int .i64 0, Value.int .i64 0, Value.int .i64 0, Value.int .i64 0] := by kernel_rfl
    simp [Builtin.clear_, run_underlying Tryz.underlying32, hzc]
    have := hst
    simp at this
    rw [this]
    rfl
  · exact (((h.blk.set_ 2 (.int .i64 0)).set_ 3 (.int .i64 0)).set_ 4 (.int .i64 0)).set_ 5 (.int .i64 0)
end

set_option maxRecDepth 100000 in
set_option maxHeartbeats 3200000 in
theorem disk_crash {w : World} {B b bd bm : Nat} {S : St} {f : Nat → Option Value} {own : Nat → Prop} (h : Lay w B b bd bm f S own) (A : Option Addr) (n c : Nat) (picks : List Int) (hp : Picks w own A n picks) (hnm : n ≤ 9223372036854775807) (hroom : ∀ i, (S.ver i).length < 549755813888) :
    Calls Tryz.prog 23 #[.pointer (some ⟨b, 0, none⟩), .slice A n c] w fun e w' => e = .returned (.tuple #[]) ∧ (∃ f', Lay w' B b bd bm f' (S.crash picks) own) ∧ Turn w w' own own := by
  have HDY := Lib.hid (disk_dirty h)
  have htop := h.ok.top
  have hdl := dirty_le S
  have HOK := Lib.hid h.ok
  have HOB := Lib.hid h.ownB
  have H1 := Lib.hid h
  have HP := Lib.hid hp
  have HROOM := Lib.hid hroom
  clear hp h hroom
  go_enter Tryz.func23, Tryz.ntmps23
  go_wp2_with fail
  refine HDY.out.mono ?_
  rintro e w2 ⟨v, rfl, hrow, hg2⟩
  obtain ⟨_, A', c', rfl, hcells⟩ := nats_cell hrow
  have HCELL := Lib.hid hcells
  have HL2 := Lib.hid (H1.out.grown hg2 (fun _ e => by cases e))
  have HT2 := Lib.hid (Turn.none_ (own := own) hg2)
  have HNEW := Lib.hid (fun g (hg : w.heap.size ≤ g) (ho : own g) => by have := H1.out.lt g ho; omega : ∀ g, w.heap.size ≤ g → ¬ own g)
  clear hrow hg2 hcells
  go_wp2_with fail
  go_loopw [4, 5, 6, 7, 11] (fun _ _ _ _ i wr => ∃ j : Nat, j ≤ S.dirty.length ∧ j ≤ n ∧ i = .int .i64 j ∧ Lay wr B b bd bm f { S with dur := S.crashDur picks j } own ∧ Turn w2 wr own own) (fun _ _ _ _ i _ => S.dirty.length - (Go.RowKit.intOf i).toNat)
  case atStart => exact ⟨0, by omega, by omega, rfl, by rw [crashDur_zero]; exact HL2.out, Turn.refl _ _⟩
  case round =>
    obtain ⟨j, hj, hjn, rfl, hl, ht⟩ := hrel
    have HL := Lib.hid hl; have HTU := Lib.hid ht; clear hl ht
    by_cases hlt : j < S.dirty.length
    · obtain ⟨g, rfl, hgb, hgl, hc⟩ := HCELL.out j hlt
      have hcj : wr.cell? ⟨g, j, none⟩ = some (.int .i64 (S.dirty.getD j 0 : Nat)) := by
        rw [World.cell?_of_block (a := ⟨g, j, none⟩) (HTU.out.block g hgl (HNEW.out g hgb))]; exact hc
      clear hc
      by_cases hjb : j = n
      · have HEND := (show j = S.dirty.length ∨ j = picks.length from .inr (by rw [HP.out.1]; exact hjb))
        subst hjb
        generalize S.dirty.getD j 0 = at_ at *
        have hL0 : Lay wr B b bd bm f { S with dur := (S.crash picks).dur } own := by rw [← crashDur_end HOK.out picks (k := j) HEND]; exact HL.out
        obtain ⟨wc, hrun, hlc, hgc⟩ := hL0.clearAt 0
        obtain ⟨hrun2, hlc2, hgc2⟩ := hlc.unfail 0
        have hf6 := hlc2.fz 6
        have HC6 := hlc2.c6
        have hc1 := hL0.c1
        have hlast := hlc2.struct (T := S.crash picks) (w' := (wc.setCells b 2 [.int .i64 0, .int .i64 0, .int .i64 0, .int .i64 0]).setCell ⟨b, 6, none⟩ (.int .i64 (-1))) (Lib.grownBy_setB (World.grownBy.refl _ _) _ _) (HOK.out.crash picks) rfl rfl rfl (hlc2.blk.set_ 6 (.int .i64 (-1)))
        have HLAST := Lib.hid hlast
        have HTL := Lib.hid ((((HT2.out.trans HTU.out).trans (Turn.of_grown hgc (fun q e => by cases e; exact hL0.ownM))).trans (Turn.of_grown hgc2 (fun q e => by cases e; exact HOB.out))).trans (Turn.of_grown (Lib.grownBy_setB (World.grownBy.refl (wc.setCells b 2 [.int .i64 0, .int .i64 0, .int .i64 0, .int .i64 0]) (some b)) 6 (.int .i64 (-1))) (fun q e => by cases e; exact HOB.out)))
        clear hL0 hlc hlc2 hgc hgc2 hlast
        generalize wc.setCells b 2 [.int .i64 0, .int .i64 0, .int .i64 0, .int .i64 0] = wd at *
        go_wp2
        go_end0
        exact ⟨rfl, ⟨_, HLAST.out⟩, HTL.out⟩
      · have hjb' : ((j : Int) == (n : Int)) = false := by simp; omega
        have hjn' : j < n := by omega
        obtain ⟨g3, o3, rfl, hg3, _, hcp⟩ := (HP.out.turn (HT2.out.trans HTU.out)).2.2 (by omega)
        have hcpj := hcp j hjn'
        have hatj : S.dirty[j]? = some (S.dirty.getD j 0) := by rw [List.getD_eq_getElem?_getD, List.getElem?_eq_getElem hlt]; rfl
        have hstep := crashDur_step S picks hatj
        have hskip := crashDur_skip S picks hatj
        have hmem := (mem_dirty (S.dirty.getD j 0)).1 (List.mem_of_getElem? hatj)
        generalize S.dirty.getD j 0 = at_ at *
        generalize picks.getD j 0 = pk at *
        obtain ⟨hatn, hver⟩ := hmem
        obtain ⟨g2, cap, hfi, hcap, hmax, _, hg2n, hat⟩ := HL.out.versions at_ hver
        have hlk := HL.out.map.look (t := 89) (E := 88) Tryz.underlying3 Tryz.underlying89 (zeroM wr) at_ (by omega)
        rw [hfi] at hlk
        simp only [Option.getD_some] at hlk
        have hat' : ∀ q x, (S.ver at_)[q]? = some x → wr.rangeAt g2 (q * 256) (u8s x) := hat
        have hcap' : (S.ver at_).length ≤ cap := hcap
        have hlk' : (Instr.lookup 89 (.map (some bm)) (.int .i64 (at_ : Nat)) false).run Tryz.prog wr = .ok (.slice (some ⟨g2, 0, none⟩) (S.ver at_).length cap) wr := hlk
        clear hat hcap hlk hfi hcp
        have hpick : pickOf (S.dur at_) (S.ver at_) pk = if (pk % ((S.ver at_).length + 1 : Int)).toNat = 0 then S.dur at_ else (S.ver at_).getD ((pk % ((S.ver at_).length + 1 : Int)).toNat - 1) (S.dur at_) := rfl
        have hsv := HOK.out.ver at_
        have hm0 : 0 < (S.ver at_).length := List.length_pos_iff.2 hver
        have hmr := HROOM.out at_
        generalize hml : (S.ver at_).length = m at *
        have hmm : m < 9223372036854775807 := by omega
        have HREM := Lib.hid (remainder_any pk m wr hmm)
        have he := Int.emod_nonneg pk (show ((m : Int) + 1) ≠ 0 by omega)
        have hle := Int.emod_lt_of_pos pk (show (0 : Int) < (m : Int) + 1 by omega)
        generalize pk % ((m : Int) + 1) = r at *
        have hwm : IntKind.i64.wrap ((m : Int) + 1) = (m : Int) + 1 := IntWalk.i64_in _ (by omega)
        have hc1 := HL.out.c1
        by_cases hr0 : r = 0
        · subst hr0
          rw [show (0 : Int).toNat = 0 from rfl, if_pos rfl] at hpick
          have HSK := Lib.hid (hskip hpick)
          clear hskip hstep hpick hsv hatj he hle hat' hml
          go_wp2_with fail
          refine HREM.out.mono ?_
          rintro e w9 ⟨rfl, rfl⟩
          go_wp2_with fail
          go_roundw
          case rel => exact ⟨j + 1, by omega, by omega, by go_num, by rw [HSK.out]; exact HL.out, HTU.out⟩
          case measure => simp [Go.RowKit.intOf]; omega
        · obtain ⟨q, rfl⟩ : ∃ q : Nat, r = (q : Int) + 1 := ⟨(r - 1).toNat, by omega⟩
          have hq : q < (S.ver at_).length := by omega
          rw [show ((q : Int) + 1).toNat = q + 1 from by omega, if_neg (by omega), Nat.add_sub_cancel, List.getD_eq_getElem?_getD, List.getElem?_eq_getElem hq, Option.getD_some] at hpick
          have hx := hsv _ (List.getElem_mem hq)
          have hrq := hat' q _ (List.getElem?_eq_getElem hq)
          rw [hpick] at hstep
          generalize (S.ver at_)[q] = x at *
          have hsd := HL.out.drew.setDur hatn hx
          rw [Nat.mul_comm] at hsd
          have hth := HL.out.drew.thereAt hatn
          have HK0 := Lib.hid (show wr.drew.cell? ⟨b, 0, none⟩ = some (.slice (some ⟨bd, 0, none⟩) S.n S.n) ∧ wr.drew.rangeAt g2 (q * 256) (u8s x) ∧ wr.drew.there bd (at_ * 256) 256 from ⟨HL.out.drew.c0, hrq, hth⟩)
          have HK1 := Lib.hid (show (wr.drew.setCells bd (at_ * 256) (u8s x)).cell? ⟨b, 0, none⟩ = some (.slice (some ⟨bd, 0, none⟩) S.n S.n) ∧ (wr.drew.setCells bd (at_ * 256) (u8s x)).rangeAt g2 (q * 256) (u8s x) ∧ (wr.drew.setCells bd (at_ * 256) (u8s x)).there bd (at_ * 256) 256 from
            ⟨hsd.c0, rangeAt_of_block hrq (heap_setCells bd _ _ wr.drew g2 hg2n), World.there_setCells hth bd _ _⟩)
          have HSD := Lib.hid (show Lay (wr.drew.setCells bd (at_ * 256) (u8s x)) B b bd bm f { S with dur := S.crashDur picks (j + 1) } own by rw [hstep]; exact hsd)
          have HTS := Lib.hid (HTU.out.trans ((Turn.none_ (grown_drew wr none)).trans (Turn.of_grown (grown_setCells bd (u8s x) (at_ * 256) wr.drew) (fun k e => by cases e; exact HL.out.ownD))))
          have hI : (Tryz.prog.info? 119).map (·.size) = some (u8s x).length := by rw [u8s_length, hx.1]; exact infoS
          have hU : Tryz.prog.underlying 119 = some (.array 256 5) := Tryz.underlying119
          have hLn : (u8s x).length = 256 := by rw [u8s_length, hx.1]
          have hOn := u8s_one x
          have hc0 := HL.out.c0
          have hwq : IntKind.i64.wrap (q : Int) = (q : Int) := IntWalk.i64_in _ (by omega)
          have hqm : (q : Int) < (m : Int) := by omega
          have hq0 : (0 : Int) ≤ (q : Int) := by omega
          have hat0 : (at_ : Int) < (S.n : Int) := by omega
          have hpos : decide ((0 : Int) < (q : Int) + 1) = true := decide_eq_true (by omega)
          clear hskip hstep hpick hsv hatj he hle hat' hsd hth hrq hx hml
          generalize u8s x = xc at *
          go_wp2_with fail
          refine HREM.out.mono ?_
          rintro e w9 ⟨rfl, rfl⟩
          go_wp2_with fail
          go_region_held3 (fun wx => wx.cell? ⟨b, 0, none⟩ = some (.slice (some ⟨bd, 0, none⟩) S.n S.n) ∧ wx.rangeAt g2 (q * 256) xc ∧ wx.there bd (at_ * 256) 256)
            (first
              | exact HK0.out
              | exact HK1.out)
            (fail)
          go_wp2_with fail
          go_roundw
          case rel => exact ⟨j + 1, by omega, by omega, by go_num, HSD.out, HTS.out⟩
          case measure => simp [Go.RowKit.intOf]; omega
    · obtain rfl : j = S.dirty.length := by omega
      have HEND := (show S.dirty.length = S.dirty.length ∨ S.dirty.length = picks.length from .inl rfl)
      have hL0 : Lay wr B b bd bm f { S with dur := (S.crash picks).dur } own := by rw [← crashDur_end HOK.out picks (k := S.dirty.length) HEND]; exact HL.out
      obtain ⟨wc, hrun, hlc, hgc⟩ := hL0.clearAt 0
      obtain ⟨hrun2, hlc2, hgc2⟩ := hlc.unfail 0
      have hf6 := hlc2.fz 6
      have HC6 := hlc2.c6
      have hc1 := hL0.c1
      have hlast := hlc2.struct (T := S.crash picks) (w' := (wc.setCells b 2 [.int .i64 0, .int .i64 0, .int .i64 0, .int .i64 0]).setCell ⟨b, 6, none⟩ (.int .i64 (-1))) (Lib.grownBy_setB (World.grownBy.refl _ _) _ _) (HOK.out.crash picks) rfl rfl rfl (hlc2.blk.set_ 6 (.int .i64 (-1)))
      have HLAST := Lib.hid hlast
      have HTL := Lib.hid ((((HT2.out.trans HTU.out).trans (Turn.of_grown hgc (fun q e => by cases e; exact hL0.ownM))).trans (Turn.of_grown hgc2 (fun q e => by cases e; exact HOB.out))).trans (Turn.of_grown (Lib.grownBy_setB (World.grownBy.refl (wc.setCells b 2 [.int .i64 0, .int .i64 0, .int .i64 0, .int .i64 0]) (some b)) 6 (.int .i64 (-1))) (fun q e => by cases e; exact HOB.out)))
      clear hL0 hlc hlc2 hgc hgc2 hlast
      generalize wc.setCells b 2 [.int .i64 0, .int .i64 0, .int .i64 0, .int .i64 0] = wd at *
      go_wp2
      go_end0
      exact ⟨rfl, ⟨_, HLAST.out⟩, HTL.out⟩
end Go.Proofs.YteaokeiolgjhaaaGreat.Dsk
