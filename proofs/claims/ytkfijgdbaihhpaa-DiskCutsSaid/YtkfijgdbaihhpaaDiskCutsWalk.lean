/- The walk over DiskCuts. -/
import Derived.Test.YtkfijgdbaihhpaaDiskKnown
import Derived.Test.YtkfijgdbaihhpaaDiskWrite3
namespace Go.Proofs.Ytkfijgdbaihhpaa.Dsk
open Go.RowKit Mem Crc DiskSpec

/-- Where a disk stands that was told of a cut, when i writes and flushes were asked. -/
structure CutSt (S : St) (cut i : Int) : Prop where
  n : S.n = 4
  f1 : S.f1 = 0
  f2 : S.f2 = 0
  f3 : S.f3 = 0
  left : S.left = if i < cut then cut - i else 0
  ver : ∀ k, S.ver k = []

theorem cut_tick {left cut i : Int} (h : left = if i < cut then cut - i else 0) (hc : i < cut) : tick left = if i + 1 < cut then cut - (i + 1) else 0 := by
  rw [if_pos hc] at h
  subst h
  unfold tick
  rw [if_pos (by omega)]
  split <;> omega
theorem cut_stay {left cut i : Int} (h : left = if i < cut then cut - i else 0) (hc : ¬ i < cut) : left = if i + 1 < cut then cut - (i + 1) else 0 := by
  rw [if_neg hc] at h
  rw [if_neg (by omega), h]
theorem put_true_ver {S : St} (h : ∀ k, S.ver k = []) (i : Nat) (v : List Nat) : ∀ k, (S.put true i v).ver k = [] := by
  intro k
  show upd (upd S.ver i (S.ver i ++ [v])) i [] k = []
  unfold upd
  split
  · rfl
  · exact h k

section
variable {w : World} {B b bd bm : Nat} {S : St} {f : Nat → Option Value} {own : Nat → Prop} {cut i : Int}
theorem cut_write (h : Lay w B b bd bm f S own) (hs : CutSt S cut i) (A : Option Addr) (c : Nat) (fill : Int) (hd : Data w own A 256 (dataL 1 0 fill)) (hc : 256 ≤ c) (hB : B ≤ w.heap.size) :
    Calls Try.prog 24 #[.pointer (some ⟨b, 0, none⟩), .int .i64 2, .slice A 256 c, .bool true] w fun e w' => e = .returned (.int .i64 (if i < cut then 0 else 11)) ∧
      ∃ S' f' own', Lay w' B b bd bm f' S' own' ∧ CutSt S' cut (i + 1) ∧ Turn w w' own own' := by
  have hl := hs.left
  by_cases hi : i < cut
  · rw [if_pos hi]
    refine (write_one h 2 A c fill true hd hc (by rw [hs.n]; omega) (by rw [hs.f2]; omega) (by rw [hl, if_pos hi]; omega) (fun k => by rw [hs.ver]; simp) hB).mono ?_
    rintro e w' ⟨rfl, f', own', hl', ht'⟩
    exact ⟨rfl, _, f', own', hl', ⟨hs.n, hs.f1, by show S.f2 - 1 = 0; rw [hs.f2], hs.f3, cut_tick hl hi, put_true_ver hs.ver 2 _⟩, ht'⟩
  · rw [if_neg hi]
    have hl0 : S.left = 0 := by rw [hl, if_neg hi]
    refine (disk_write_stop h 2 A 1 c true (by omega) (by omega) (by omega) (by simp [St.has, hs.n]) (.inr hl0)).mono ?_
    rintro e w' ⟨rfl, hl', ht'⟩
    exact ⟨rfl, _, f, own, hl', ⟨hs.n, hs.f1, by show S.f2 - 1 = 0; rw [hs.f2], hs.f3, cut_stay hl hi, hs.ver⟩, ht'⟩
theorem cut_flush (h : Lay w B b bd bm f S own) (hs : CutSt S cut i) :
    Calls Try.prog 25 #[.pointer (some ⟨b, 0, none⟩)] w fun e w' => e = .returned (.int .i64 (if i < cut then 0 else 12)) ∧
      ∃ S' f', Lay w' B b bd bm f' S' own ∧ CutSt S' cut (i + 1) ∧ Turn w w' own own := by
  have hl := hs.left
  by_cases hi : i < cut
  · rw [if_pos hi]
    refine (disk_flush_ok h (by rw [hs.f3]; omega) (by rw [hl, if_pos hi]; omega)).mono ?_
    rintro e w' ⟨rfl, ⟨f', hl'⟩, ht'⟩
    exact ⟨rfl, _, f', hl', ⟨hs.n, hs.f1, hs.f2, by show S.f3 - 1 = 0; rw [hs.f3], cut_tick hl hi, fun _ => rfl⟩, ht'⟩
  · rw [if_neg hi]
    refine (disk_flush_stop h (.inr (by rw [hl, if_neg hi]))).mono ?_
    rintro e w' ⟨rfl, hl', ht'⟩
    exact ⟨rfl, _, f, hl', ⟨hs.n, hs.f1, hs.f2, by show S.f3 - 1 = 0; rw [hs.f3], cut_stay hl hi, hs.ver⟩, ht'⟩
theorem cut_read (h : Lay w B b bd bm f S own) (hs : CutSt S cut i) :
    Calls Try.prog 19 #[.pointer (some ⟨b, 0, none⟩), .int .i64 2, .int .i64 1] w fun e w' => ∃ v S', e = .returned (.tuple #[v, .int .i64 0]) ∧
      Lay w' B b bd bm f S' own ∧ CutSt S' cut i ∧ Turn w w' own own := by
  refine (read_one h 2 (by rw [hs.n]; omega) (by rw [hs.f1]; omega)).mono ?_
  rintro e w' ⟨g, cap, rfl, _, _, hl', ht'⟩
  exact ⟨_, _, rfl, hl', ⟨hs.n, by show S.f1 - 1 = 0; rw [hs.f1], hs.f2, hs.f3, hs.left, hs.ver⟩, ht'⟩
end
/-- Where the law stands in its rounds. -/
structure CutAt (W wr : World) (b bd bm X : Nat) (cut i : Int) (S : St) (f : Nat → Option Value) (own : Nat → Prop) : Prop where
  lay : Lay wr W.heap.size b bd bm f S own
  st : CutSt S cut i
  box : Blk wr X 34 #[.int .i64 0, .int .i64 0, .int .i64 1, .int .i64 0, .int .i64 0, .bool false, .slice none 0 0]
  out : ¬ own X
  grown : W.grownBy wr none
theorem CutAt.turn {W wr w' : World} {b bd bm X : Nat} {cut i i' : Int} {S S' : St} {f f' : Nat → Option Value} {own own' : Nat → Prop} (h : CutAt W wr b bd bm X cut i S f own) (hl : Lay w' W.heap.size b bd bm f' S' own') (hs : CutSt S' cut i') (ht : Turn wr w' own own') : CutAt W w' b bd bm X cut i' S' f' own' where
  lay := hl
  st := hs
  box := blk_turn h.box ht h.out
  out := fun ho => by rcases ht.fresh X ho with h1 | h1; exact h.out h1; have := h.box.lt; omega
  grown := below_grown h.grown (ht.below h.lay.low h.grown.size)
theorem CutAt.more {W wr w' : World} {b bd bm X : Nat} {cut i : Int} {S : St} {f : Nat → Option Value} {own : Nat → Prop} (h : CutAt W wr b bd bm X cut i S f own) (hg : wr.grownBy w' none) : CutAt W w' b bd bm X cut i S f own :=
  ⟨h.lay.grown hg (fun _ e => by cases e), h.st, h.box.grown hg (by simp), h.out, h.grown.trans hg⟩
end Go.Proofs.Ytkfijgdbaihhpaa.Dsk
namespace Go.Proofs.Ytkfijgdbaihhpaa.DiskCuts
open Go.ChangeShapes Go.WideShapes Go.ChangeAt Go.RowKit
open Mem Crc DiskSpec Dsk

set_option maxRecDepth 100000 in
set_option maxHeartbeats 6400000 in
theorem walk {H : Type} {enc : TypeId × Value → H} (W : World) (base : Nat) (v0 : Value) (d0 : DataW H) (p0 : List MemPlace)
    (o0 : Value.okWide Try.prog W .any base 3 v0)
    (h0 : DataW.Trod enc Try.prog W 0 (fun _ => true) true 3 v0 d0 p0)
    (_ : (DataW.weightsEach Try.prog [3] [d0]).all (· ≤ reachBytes) = true) :
    Calls Try.prog 6 #[v0] W fun e W' => e = .returned (.bool true) ∧ Below W.heap.size W W' := by
  obtain ⟨cut, rfl, rfl, rfl, _⟩ := open_int Try.underlying3 o0 h0
  clear o0 h0
  have HN := Lib.hid (show Calls Try.prog 9 #[.int .i64 4] W fun e w' => ∃ b bd bm f own, e = .returned (.tuple #[.pointer (some ⟨b, 0, none⟩), .int .i64 0]) ∧ Lay w' W.heap.size b bd bm f (St.new 4) own ∧ W.grownBy w' none from disk_new 4 W (by omega) (by omega))
  go_enter Try.func6, Try.ntmps6
  go_wp2_with fail
  refine HN.out.mono ?_
  rintro e w1 ⟨b, bd, bm, f, own, rfl, hl1, hg1⟩
  have H1 := Lib.hid hl1; have HG1 := Lib.hid hg1
  clear hl1 hg1 HN
  go_wp2_with fail
  refine (known_any w1).mono ?_
  rintro e w2 ⟨rfl, hg2⟩
  have H2 := Lib.hid (H1.out.grown hg2 (fun _ e => by cases e)); have HG2 := Lib.hid (HG1.out.trans hg2)
  clear hg2 H1 HG1
  by_cases hbad : cut < 0 ∨ 1099511627776 < cut
  · have HC := Lib.hid (disk_cut_no (.pointer (some ⟨b, 0, none⟩)) cut w2 hbad)
    go_wp2_with fail
    refine HC.out.mono ?_
    rintro e w' ⟨rfl, rfl⟩
    by_cases hneg : cut < 0
    · clear hbad HC
      go_wp2
      go_ret
      exact ⟨rfl, Turn.below (Turn.none_ (own := own) HG2.out) H2.out.low (Nat.le_refl _)⟩
    · have hbig : 1099511627776 < cut := by rcases hbad with h | h <;> omega
      clear hbad HC
      go_wp2
      go_ret
      exact ⟨rfl, Turn.below (Turn.none_ (own := own) HG2.out) H2.out.low (Nat.le_refl _)⟩
  · have HC := Lib.hid (disk_cut H2.out cut (by omega) (by omega))
    have HOB := Lib.hid H2.out.ownB
    have HLOW := Lib.hid H2.out.low
    have HLT := Lib.hid H2.out.lt
    have hc0 : 0 ≤ cut := by omega
    have hc1 : cut ≤ 1099511627776 := by omega
    clear hbad
    go_wp2_with fail
    refine HC.out.mono ?_
    rintro e w3 ⟨rfl, hg3, hl3⟩
    have hbelow := below_grown HG2.out (Turn.below (Turn.of_grown (own := own) hg3 (fun q e => by cases e; exact HOB.out)) HLOW.out HG2.out.size)
    have hsz3 := hg3.size
    have HAT := Lib.hid (show CutAt W (w3.alloc (.cells #[.int .i64 0, .int .i64 0, .int .i64 1, .int .i64 0, .int .i64 0, .bool false, .slice none 0 0] 34)) b bd bm w3.heap.size cut 0 { St.new 4 with left := cut } f own from
      ⟨hl3.alloc _, ⟨rfl, rfl, rfl, rfl, by show cut = _; split <;> omega, fun _ => rfl⟩, Blk.new _ _ _, fun ho => by have := HLT.out _ ho; omega, hbelow.trans (World.grownBy_alloc w3 _ none)⟩)
    clear hg3 hl3 HC hbelow H2 HG2
    go_wp2_with fail
    go_loopw [7, 8, 9, 10, 11] (fun i _ _ _ _ wr => ∃ (j : Nat) (S : St) (f' : Nat → Option Value) (own' : Nat → Prop), j ≤ 40 ∧ i = .int .i64 j ∧ CutAt W wr b bd bm w3.heap.size cut (j : Int) S f' own') (fun i _ _ _ _ _ => 40 - (Go.RowKit.intOf i).toNat)
    case atStart => exact ⟨0, _, f, own, by omega, rfl, HAT.out⟩
    case round =>
      obtain ⟨j, S, f', own', hj, rfl, hat⟩ := hrel
      have HR := Lib.hid hat; clear hat
      by_cases hlt : j < 40
      · have hcells := HR.out.box
        by_cases hpar : j % 2 = 0
        · have hm : (j : Int).tmod 2 = 0 := by rw [Int.tmod_eq_emod_of_nonneg (by omega)]; omega
          have h0 := hcells.cell 0; have h1 := hcells.cell 1; have h2 := hcells.cell 2; have h3 := hcells.cell 3; have h4 := hcells.cell 4; have h5 := hcells.cell 5; have h6 := hcells.cell 6
          clear hcells hpar
          go_wp2_with fail
          refine (data_one 0 0 0 false (.slice none 0 0) _).mono ?_
          rintro e w2 ⟨v, rfl, ho2, hg2⟩
          have hr2 := HR.out.more hg2
          obtain ⟨A, c, rfl, hc, _, hdat⟩ := data_of_own ho2 (own := own') HR.out.lay.lt (dataL_lt _ _ _)
          have HW := Lib.hid (cut_write hr2.lay hr2.st A c 0 hdat hc hr2.grown.size)
          have HR2 := Lib.hid hr2
          clear ho2 hg2 hr2 hdat h0 h1 h2 h3 h4 h5 h6
          go_wp2_with fail
          by_cases hi : (j : Int) < cut
          · skip
            rw [if_pos hi] at HW
            refine HW.out.mono ?_
            rintro e w4 ⟨rfl, S4, f4, own4, hl4, hs4, ht4⟩
            have hr4 := HR2.out.turn hl4 hs4 ht4
            have HRD := Lib.hid (cut_read hl4 hs4)
            have HR4 := Lib.hid hr4
            clear hl4 hs4 ht4 hr4 HW
            go_wp2_with fail
            refine HRD.out.mono ?_
            rintro e w5 ⟨v5, S5, rfl, hl5, hs5, ht5⟩
            have hr5 := HR4.out.turn hl5 hs5 ht5
            clear hl5 hs5 ht5
            have HT5 := Lib.hid hr5; clear hr5
            go_wp2_with fail
            go_roundw
            case rel => exact ⟨j + 1, S5, _, _, by omega, by go_num, by rw [show ((j + 1 : Nat) : Int) = (j : Int) + 1 from by omega]; exact HT5.out⟩
            case measure => simp [Go.RowKit.intOf]; omega
          · skip
            rw [if_neg hi] at HW
            refine HW.out.mono ?_
            rintro e w4 ⟨rfl, S4, f4, own4, hl4, hs4, ht4⟩
            have hr4 := HR2.out.turn hl4 hs4 ht4
            have HRD := Lib.hid (cut_read hl4 hs4)
            have HR4 := Lib.hid hr4
            clear hl4 hs4 ht4 hr4 HW
            go_wp2_with fail
            refine HRD.out.mono ?_
            rintro e w5 ⟨v5, S5, rfl, hl5, hs5, ht5⟩
            have hr5 := HR4.out.turn hl5 hs5 ht5
            clear hl5 hs5 ht5
            have HT5 := Lib.hid hr5; clear hr5
            go_wp2_with fail
            go_roundw
            case rel => exact ⟨j + 1, S5, _, _, by omega, by go_num, by rw [show ((j + 1 : Nat) : Int) = (j : Int) + 1 from by omega]; exact HT5.out⟩
            case measure => simp [Go.RowKit.intOf]; omega
        · have hm : (j : Int).tmod 2 = 1 := by rw [Int.tmod_eq_emod_of_nonneg (by omega)]; omega
          clear hcells hpar
          by_cases hi : (j : Int) < cut
          · skip
            have HW := Lib.hid (cut_flush HR.out.lay HR.out.st)
            rw [if_pos hi] at HW
            go_wp2_with fail
            refine HW.out.mono ?_
            rintro e w4 ⟨rfl, S4, f4, hl4, hs4, ht4⟩
            have hr4 := HR.out.turn hl4 hs4 ht4
            have HRD := Lib.hid (cut_read hl4 hs4)
            have HR4 := Lib.hid hr4
            clear hl4 hs4 ht4 hr4 HW
            go_wp2_with fail
            refine HRD.out.mono ?_
            rintro e w5 ⟨v5, S5, rfl, hl5, hs5, ht5⟩
            have hr5 := HR4.out.turn hl5 hs5 ht5
            clear hl5 hs5 ht5
            have HT5 := Lib.hid hr5; clear hr5
            go_wp2_with fail
            go_roundw
            case rel => exact ⟨j + 1, S5, _, _, by omega, by go_num, by rw [show ((j + 1 : Nat) : Int) = (j : Int) + 1 from by omega]; exact HT5.out⟩
            case measure => simp [Go.RowKit.intOf]; omega
          · skip
            have HW := Lib.hid (cut_flush HR.out.lay HR.out.st)
            rw [if_neg hi] at HW
            go_wp2_with fail
            refine HW.out.mono ?_
            rintro e w4 ⟨rfl, S4, f4, hl4, hs4, ht4⟩
            have hr4 := HR.out.turn hl4 hs4 ht4
            have HRD := Lib.hid (cut_read hl4 hs4)
            have HR4 := Lib.hid hr4
            clear hl4 hs4 ht4 hr4 HW
            go_wp2_with fail
            refine HRD.out.mono ?_
            rintro e w5 ⟨v5, S5, rfl, hl5, hs5, ht5⟩
            have hr5 := HR4.out.turn hl5 hs5 ht5
            clear hl5 hs5 ht5
            have HT5 := Lib.hid hr5; clear hr5
            go_wp2_with fail
            go_roundw
            case rel => exact ⟨j + 1, S5, _, _, by omega, by go_num, by rw [show ((j + 1 : Nat) : Int) = (j : Int) + 1 from by omega]; exact HT5.out⟩
            case measure => simp [Go.RowKit.intOf]; omega
      · obtain rfl : j = 40 := by omega
        have HCR := Lib.hid (crash_nil HR.out.lay (fun k => by rw [HR.out.st.ver k]; simp))
        go_wp2_with fail
        refine HCR.out.mono ?_
        rintro e w4 ⟨rfl, ⟨f4, hl4⟩, ht4⟩
        have HFL := Lib.hid (disk_flush_ok hl4 (by simp [St.crash]) (by simp [St.crash]))
        have HT4 := Lib.hid (below_grown HR.out.grown (ht4.below HR.out.lay.low HR.out.grown.size))
        have HLOW4 := Lib.hid hl4.low
        clear hl4 ht4 HCR
        go_wp2_with fail
        refine HFL.out.mono ?_
        rintro e w5 ⟨rfl, _, ht5⟩
        have HT5 := Lib.hid (below_grown HT4.out (ht5.below HLOW4.out HT4.out.size))
        clear ht5
        go_wp2
        go_ret
        exact ⟨rfl, ⟨HT5.out.os, HT5.out.tape, HT5.out.output, HT5.out.size, fun k hk => HT5.out.block k hk (by simp)⟩⟩
end Go.Proofs.Ytkfijgdbaihhpaa.DiskCuts
