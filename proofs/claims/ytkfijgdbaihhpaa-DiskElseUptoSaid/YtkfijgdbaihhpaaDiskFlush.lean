/- All is made durable; the power goes. -/
import Derived.Test.YtkfijgdbaihhpaaDiskDirty
import Derived.Test.YtkfijgdbaihhpaaDiskSettle
import Derived.Test.YtkfijgdbaihhpaaDiskFail
namespace Go.Proofs.Ytkfijgdbaihhpaa.Dsk
open Go.RowKit Mem Crc DiskSpec

theorem nats_cell {w : World} {base n : Nat} {v : Value} {l : List Nat} (h : w.ownsRow base 3 1 v n (nats l)) :
    n = l.length ∧ ∃ A c, v = .slice A n c ∧ ∀ j, j < n → ∃ g, A = some ⟨g, 0, none⟩ ∧ base ≤ g ∧ g < w.heap.size ∧ w.cell? ⟨g, j, none⟩ = some (.int .i64 (l.getD j 0 : Nat)) := by
  have hn : n = l.length := by have := h.1; rw [nats_length] at this; omega
  refine ⟨hn, ?_⟩
  rcases h.2 with ⟨rfl, h0⟩ | ⟨g, cap, cur, rfl, hbg, hh, _⟩
  · subst h0; exact ⟨none, 0, rfl, fun j hj => by omega⟩
  · refine ⟨_, cap, rfl, fun j hj => ⟨g, rfl, hbg, (Array.getElem?_eq_some_iff.1 hh).1, ?_⟩⟩
    have h1 := World.ownsRow.cells h (g := g) rfl j _ (nats_at l j (by omega))
    have e1 : (⟨g, 0, none⟩ : Addr).add j = ⟨g, j, none⟩ := by unfold Addr.add; split <;> simp_all
    rw [e1] at h1
    rw [h1, List.getD_eq_getElem?_getD, List.getElem?_eq_getElem (by omega)]; rfl
theorem dirty_bound {S : St} {j : Nat} (hj : j < S.dirty.length) : S.dirty.getD j 0 < S.n := by
  rw [List.getD_eq_getElem?_getD, List.getElem?_eq_getElem hj]
  exact ((mem_dirty _).1 (List.getElem_mem hj)).1
theorem dirty_le (S : St) : S.dirty.length ≤ S.n := by
  have := List.length_filter_le (fun k => !(S.ver k).isEmpty) (List.range S.n)
  simpa [St.dirty] using this

set_option maxRecDepth 100000 in
set_option maxHeartbeats 1600000 in
theorem disk_flush_ok {w : World} {B b bd bm : Nat} {S : St} {f : Nat → Option Value} {own : Nat → Prop} (h : Lay w B b bd bm f S own) (hf3 : S.f3 ≠ 1) (hlf : S.left ≠ 0) :
    Calls Try.prog 25 #[.pointer (some ⟨b, 0, none⟩)] w fun e w' => e = .returned (.int .i64 0) ∧ (∃ f', Lay w' B b bd bm f' ({ S with f3 := S.f3 - 1 } : St).flush.done own) ∧ Turn w w' own own := by
  have HD := Lib.hid (disk_stops3 h)
  rw [show (decide (S.f3 = 1) || decide (S.left = 0)) = false by simp [hf3, hlf]] at HD
  have HOB := Lib.hid h.ownB
  clear h
  generalize ({ S with f3 := S.f3 - 1 } : St) = T at *
  go_enter Try.func25, Try.ntmps25
  go_wp2_with fail
  refine HD.out.mono ?_
  rintro e w1 ⟨rfl, hg1, hl1⟩
  have HDY := Lib.hid (disk_dirty hl1)
  have HT1 := Lib.hid (Turn.of_grown (own := own) hg1 (fun q e => by cases e; exact HOB.out)); have H1 := Lib.hid hl1; clear hg1 hl1
  go_wp2_with fail
  refine HDY.out.mono ?_
  rintro e w2 ⟨v, rfl, hrow, hg2⟩
  obtain ⟨_, A, c, rfl, hcells⟩ := nats_cell hrow
  have hdl := dirty_le T
  have htop := H1.out.ok.top
  have HCELL := Lib.hid hcells
  have HL2 := Lib.hid (H1.out.grown hg2 (fun _ e => by cases e))
  have HT2 := Lib.hid (HT1.out.trans (Turn.none_ hg2))
  have HNEW := Lib.hid (fun g (hg : w1.heap.size ≤ g) (ho : own g) => by have := H1.out.lt g ho; omega : ∀ g, w1.heap.size ≤ g → ¬ own g)
  clear hrow hg2 hcells
  go_wp2_with fail
  go_loopw [4, 10] (fun _ i wr => ∃ (j : Nat) (f' : Nat → Option Value), j ≤ T.dirty.length ∧ i = .int .i64 j ∧ Lay wr B b bd bm f' (T.settles (T.dirty.take j)) own ∧ Turn w2 wr own own) (fun _ i _ => T.dirty.length - (Go.RowKit.intOf i).toNat)
  case atStart => exact ⟨0, f, by omega, rfl, HL2.out, Turn.refl _ _⟩
  case round =>
    obtain ⟨j, f', hj, rfl, hl, ht⟩ := hrel
    have HL := Lib.hid hl; have HTU := Lib.hid ht; clear hl ht
    by_cases hlt : j < T.dirty.length
    · obtain ⟨g, rfl, hgb, hgl, hc⟩ := HCELL.out j hlt
      have hcj : wr.cell? ⟨g, j, none⟩ = some (.int .i64 (T.dirty.getD j 0 : Nat)) := by
        rw [World.cell?_of_block (a := ⟨g, j, none⟩) (HTU.out.block g hgl (HNEW.out g hgb))]; exact hc
      have hb := dirty_bound hlt
      have hn : (T.settles (T.dirty.take j)).n = T.n := (settles_rest T _).1
      have HST := Lib.hid (disk_settle HL.out (T.dirty.getD j 0) (by rw [hn]; exact hb))
      have htk : T.dirty.take (j + 1) = T.dirty.take j ++ [T.dirty.getD j 0] := by
        rw [List.take_succ_eq_append_getElem hlt, List.getD_eq_getElem?_getD, List.getElem?_eq_getElem hlt]; rfl
      rw [← settles_snoc, ← htk] at HST
      clear htk hn hc
      generalize T.dirty.getD j 0 = at_ at *
      generalize hdn : T.dirty.length = dn at *
      have HDN := Lib.hid hdn; clear hdn
      go_wp2_with fail
      refine HST.out.mono ?_
      rintro e w9 ⟨rfl, ⟨f9, hl9⟩, ht9⟩
      have HL9 := Lib.hid hl9; have HT9 := Lib.hid (HTU.out.trans ht9); clear hl9 ht9
      go_wp2_with fail
      go_roundw
      case rel => exact ⟨j + 1, f9, by omega, by go_num, HL9.out, HT9.out⟩
      case measure => simp [Go.RowKit.intOf]; omega
    · obtain rfl : j = T.dirty.length := by omega
      have hall : T.settles (T.dirty.take T.dirty.length) = T.flush := by rw [List.take_length, settles_all H1.out.ok]
      rw [hall] at HL
      have HDN := Lib.hid (disk_done HL.out)
      clear hall
      generalize hdn : T.dirty.length = dn at *
      go_wp2_with fail
      refine HDN.out.mono ?_
      rintro e w9 ⟨rfl, hg9, hl9⟩
      have HL9 := Lib.hid hl9; have HT9 := Lib.hid ((HT2.out.trans HTU.out).trans (Turn.of_grown hg9 (fun q e => by cases e; exact HOB.out))); clear hl9 hg9
      go_wp2
      go_ret
      exact ⟨rfl, ⟨f', HL9.out⟩, HT9.out⟩

set_option maxHeartbeats 800000 in
theorem disk_flush_stop {w : World} {B b bd bm : Nat} {S : St} {f : Nat → Option Value} {own : Nat → Prop} (h : Lay w B b bd bm f S own) (hs : S.f3 = 1 ∨ S.left = 0) :
    Calls Try.prog 25 #[.pointer (some ⟨b, 0, none⟩)] w fun e w' => e = .returned (.int .i64 12) ∧ Lay w' B b bd bm f { S with f3 := S.f3 - 1 } own ∧ Turn w w' own own := by
  have HD := Lib.hid (disk_stops3 h)
  rw [show (decide (S.f3 = 1) || decide (S.left = 0)) = true by simp; exact hs] at HD
  have HOB := Lib.hid h.ownB
  clear h hs
  generalize ({ S with f3 := S.f3 - 1 } : St) = T at *
  go_enter Try.func25, Try.ntmps25
  go_wp2_with fail
  refine HD.out.mono ?_
  rintro e w1 ⟨rfl, hg1, hl1⟩
  have HG1 := Lib.hid hg1; have H1 := Lib.hid hl1; clear hg1 hl1
  go_wp2
  go_ret
  exact ⟨rfl, H1.out, Turn.of_grown HG1.out (fun q e => by cases e; exact HOB.out)⟩
end Go.Proofs.Ytkfijgdbaihhpaa.Dsk
