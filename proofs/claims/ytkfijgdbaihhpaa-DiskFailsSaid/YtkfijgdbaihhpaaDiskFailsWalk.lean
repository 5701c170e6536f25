/- The walk over DiskFails. -/
import Derived.Test.YtkfijgdbaihhpaaDiskCutsWalk
namespace Go.Proofs.Ytkfijgdbaihhpaa.Dsk
open Go.RowKit Mem Crc DiskSpec

/-- Where a disk stands on which the n-th of a kind is to fail, when so many reads, writes and flushes are to come next (from 1). -/
structure FailSt (S : St) (kind n i1 i2 i3 : Nat) : Prop where
  size : S.n = 4
  f1 : S.f1 = if kind = 1 then n + 1 - i1 else 0
  f2 : S.f2 = if kind = 2 then n + 1 - i2 else 0
  f3 : S.f3 = if kind = 3 then n + 1 - i3 else 0
  left : S.left = -1
  ver : ∀ k, (S.ver k).length < i2

section
variable {w : World} {B b bd bm : Nat} {S : St} {f : Nat → Option Value} {own : Nat → Prop} {kind n i : Nat}
theorem fail_read_ok (h : Lay w B b bd bm f S own) (hs : FailSt S kind n i i i) (hk : ¬ (kind = 1 ∧ i = n)) :
    Calls Try.prog 19 #[.pointer (some ⟨b, 0, none⟩), .int .i64 1, .int .i64 1] w fun e w' => ∃ g cap S', e = .returned (.tuple #[.slice (some ⟨g, 0, none⟩) 256 cap, .int .i64 0]) ∧
      w.heap.size ≤ g ∧ w'.cell? ⟨g, 0, none⟩ = some (.int .u8 ((S.now 1).getD 0 0 : Nat)) ∧ ¬ own g ∧ Lay w' B b bd bm f S' own ∧ FailSt S' kind n (i + 1) i i ∧ S'.now = S.now ∧ Turn w w' own own := by
  have h1 : S.f1 ≠ 1 := by rw [hs.f1]; split <;> omega
  refine (read_one h 1 (by rw [hs.size]; omega) h1).mono ?_
  rintro e w' ⟨g, cap, rfl, hg, hb, hl', ht'⟩
  refine ⟨g, cap, _, rfl, hg, sec_cell hb (S.now_sec h.ok 1), fun ho => by have := h.lt g ho; omega, hl', ⟨hs.size, ?_, hs.f2, hs.f3, hs.left, hs.ver⟩, rfl, ht'⟩
  show S.f1 - 1 = _
  rw [hs.f1]; split <;> omega
theorem fail_read_no (h : Lay w B b bd bm f S own) (hs : FailSt S 1 n n n n) :
    Calls Try.prog 19 #[.pointer (some ⟨b, 0, none⟩), .int .i64 1, .int .i64 1] w fun e w' => ∃ S', e = .returned (.tuple #[.slice none 0 0, .int .i64 10]) ∧
      Lay w' B b bd bm f S' own ∧ FailSt S' 1 n (n + 1) n n ∧ S'.now = S.now ∧ Turn w w' own own := by
  have h1 : S.f1 = 1 := by rw [hs.f1, if_pos rfl]; omega
  refine (disk_read_fail h 1 1 (by omega) (by omega) (by simp [St.has, hs.size]) h1).mono ?_
  rintro e w' ⟨rfl, hl', ht'⟩
  refine ⟨_, rfl, hl', ⟨hs.size, ?_, hs.f2, hs.f3, hs.left, hs.ver⟩, rfl, ht'⟩
  show S.f1 - 1 = _
  rw [h1, if_pos rfl]; omega
theorem fail_write_ok (h : Lay w B b bd bm f S own) (hs : FailSt S kind n (i + 1) i i) (hi : 1 ≤ i) (hi2 : i ≤ 100) (hk : ¬ (kind = 2 ∧ i = n)) (A : Option Addr) (c : Nat) (fill : Int) (hd : Data w own A 256 (dataL 1 0 fill)) (hc : 256 ≤ c) (hB : B ≤ w.heap.size) :
    Calls Try.prog 24 #[.pointer (some ⟨b, 0, none⟩), .int .i64 1, .slice A 256 c, .bool false] w fun e w' => ∃ S' f' own', e = .returned (.int .i64 0) ∧
      Lay w' B b bd bm f' S' own' ∧ FailSt S' kind n (i + 1) (i + 1) i ∧ S'.now 1 = dataL 1 0 fill ∧ Turn w w' own own' := by
  have h1 : S.f2 ≠ 1 := by rw [hs.f2]; split <;> omega
  refine (write_one h 1 A c fill false hd hc (by rw [hs.size]; omega) h1 (by rw [hs.left]; omega) (fun k => by have := hs.ver k; omega) hB).mono ?_
  rintro e w' ⟨rfl, f', own', hl', ht'⟩
  refine ⟨_, f', own', rfl, hl', ⟨hs.size, hs.f1, ?_, hs.f3, ?_, fun k => ?_⟩, ?_, ht'⟩
  · show S.f2 - 1 = _
    rw [hs.f2]; split <;> omega
  · show tick S.left = -1
    rw [hs.left]; rfl
  · have := room_put ({ S with f2 := S.f2 - 1 } : St) false 1 (dataL 1 0 fill) k
    have h2 := hs.ver k
    show ((({ S with f2 := S.f2 - 1 } : St).put false 1 (dataL 1 0 fill)).ver k).length < _
    have e : (({ S with f2 := S.f2 - 1 } : St).ver k).length = (S.ver k).length := rfl
    omega
  · show (upd S.ver 1 (S.ver 1 ++ [dataL 1 0 fill]) 1).getLastD _ = _
    rw [upd_same]
    simp
theorem fail_write_no (h : Lay w B b bd bm f S own) (hs : FailSt S 2 n (n + 1) n n) (A : Option Addr) (c : Nat) :
    Calls Try.prog 24 #[.pointer (some ⟨b, 0, none⟩), .int .i64 1, .slice A 256 c, .bool false] w fun e w' => ∃ S', e = .returned (.int .i64 11) ∧
      Lay w' B b bd bm f S' own ∧ FailSt S' 2 n (n + 1) (n + 1) n ∧ S'.now = S.now ∧ Turn w w' own own := by
  have h1 : S.f2 = 1 := by rw [hs.f2, if_pos rfl]; omega
  refine (disk_write_stop h 1 A 1 c false (by omega) (by omega) (by omega) (by simp [St.has, hs.size]) (.inl h1)).mono ?_
  rintro e w' ⟨rfl, hl', ht'⟩
  refine ⟨_, rfl, hl', ⟨hs.size, hs.f1, ?_, hs.f3, hs.left, fun k => by have := hs.ver k; show (S.ver k).length < _; omega⟩, rfl, ht'⟩
  show S.f2 - 1 = _
  rw [h1, if_pos rfl]; omega
theorem fail_flush_ok (h : Lay w B b bd bm f S own) (hs : FailSt S kind n (i + 1) (i + 1) i) (hk : ¬ (kind = 3 ∧ i = n)) :
    Calls Try.prog 25 #[.pointer (some ⟨b, 0, none⟩)] w fun e w' => ∃ S' f', e = .returned (.int .i64 0) ∧
      Lay w' B b bd bm f' S' own ∧ FailSt S' kind n (i + 1) (i + 1) (i + 1) ∧ S'.now = S.now ∧ Turn w w' own own := by
  have h1 : S.f3 ≠ 1 := by rw [hs.f3]; split <;> omega
  refine (disk_flush_ok h h1 (by rw [hs.left]; omega)).mono ?_
  rintro e w' ⟨rfl, ⟨f', hl'⟩, ht'⟩
  refine ⟨_, f', rfl, hl', ⟨hs.size, hs.f1, hs.f2, ?_, ?_, fun k => Nat.succ_pos _⟩, rfl, ht'⟩
  · show S.f3 - 1 = _
    rw [hs.f3]; split <;> omega
  · show tick S.left = -1
    rw [hs.left]; rfl
theorem fail_flush_no (h : Lay w B b bd bm f S own) (hs : FailSt S 3 n (n + 1) (n + 1) n) :
    Calls Try.prog 25 #[.pointer (some ⟨b, 0, none⟩)] w fun e w' => ∃ S', e = .returned (.int .i64 12) ∧
      Lay w' B b bd bm f S' own ∧ FailSt S' 3 n (n + 1) (n + 1) (n + 1) ∧ S'.now = S.now ∧ Turn w w' own own := by
  have h1 : S.f3 = 1 := by rw [hs.f3, if_pos rfl]; omega
  refine (disk_flush_stop h (.inl h1)).mono ?_
  rintro e w' ⟨rfl, hl', ht'⟩
  refine ⟨_, rfl, hl', ⟨hs.size, hs.f1, hs.f2, ?_, hs.left, hs.ver⟩, rfl, ht'⟩
  show S.f3 - 1 = _
  rw [h1, if_pos rfl]; omega
end
/-- Where the law stands in its rounds. -/
structure FailAt (W wr : World) (b bd bm X : Nat) (kind n i1 i2 i3 : Nat) (fill : Int) (S : St) (f : Nat → Option Value) (own : Nat → Prop) : Prop where
  lay : Lay wr W.heap.size b bd bm f S own
  st : FailSt S kind n i1 i2 i3
  box : Blk wr X 34 #[.int .i64 0, .int .i64 0, .int .i64 1, .int .i64 0, .int .i64 fill, .bool false, .slice none 0 0]
  out : ¬ own X
  above : W.heap.size ≤ X
  grown : W.grownBy wr none
section
variable {W wr w' : World} {b bd bm X : Nat} {kind n i1 i2 i3 j1 j2 j3 : Nat} {fill : Int} {S S' : St} {f f' : Nat → Option Value} {own own' : Nat → Prop}
theorem FailAt.turn (h : FailAt W wr b bd bm X kind n i1 i2 i3 fill S f own) (hl : Lay w' W.heap.size b bd bm f' S' own') (hs : FailSt S' kind n j1 j2 j3) (ht : Turn wr w' own own') : FailAt W w' b bd bm X kind n j1 j2 j3 fill S' f' own' where
  lay := hl
  st := hs
  box := blk_turn h.box ht h.out
  out := fun ho => by rcases ht.fresh X ho with h1 | h1; exact h.out h1; have := h.box.lt; omega
  above := h.above
  grown := below_grown h.grown (ht.below h.lay.low h.grown.size)
theorem FailAt.more (h : FailAt W wr b bd bm X kind n i1 i2 i3 fill S f own) (hg : wr.grownBy w' none) : FailAt W w' b bd bm X kind n i1 i2 i3 fill S f own :=
  ⟨h.lay.grown hg (fun _ e => by cases e), h.st, h.box.grown hg (by simp), h.out, h.above, h.grown.trans hg⟩
theorem FailAt.refill (h : FailAt W wr b bd bm X kind n i1 i2 i3 fill S f own) (q : Int) : FailAt W (wr.setCell ⟨X, 4, none⟩ (.int .i64 q)) b bd bm X kind n i1 i2 i3 q S f own :=
  ⟨h.lay.far h.out _, h.st, h.box.set_ 4 (.int .i64 q), h.out, h.above, below_grown h.grown ⟨rfl, rfl, rfl, by simp, fun k hk => Below.heap_setCell wr _ _ k (by have := h.above; show k ≠ X; omega)⟩⟩
end
theorem last_byte {S : St} {j : Nat} (h : S.now 1 = dataL 1 0 (j : Int)) (hj : j < 256) : (((S.now 1).getD 0 0 : Nat) : Int) = (j : Int) := by
  rw [h, data_one_at _ 0 (by omega)]
  omega
end Go.Proofs.Ytkfijgdbaihhpaa.Dsk
namespace Go.Proofs.Ytkfijgdbaihhpaa.DiskFails
open Go.ChangeShapes Go.WideShapes Go.ChangeAt Go.RowKit
open Mem Crc DiskSpec Dsk

set_option maxRecDepth 100000 in
set_option maxHeartbeats 6400000 in
theorem walk {H : Type} {enc : TypeId × Value → H} (W : World) (base : Nat) (v0 v1 : Value) (d0 d1 : DataW H) (p0 p1 : List MemPlace)
    (o0 : Value.okWide Try.prog W .any base 3 v0)
    (o1 : Value.okWide Try.prog W .any base 3 v1)
    (h0 : DataW.Trod enc Try.prog W 0 (fun _ => true) true 3 v0 d0 p0)
    (h1 : DataW.Trod enc Try.prog W 0 (fun _ => true) true 3 v1 d1 p1)
    (_ : (DataW.weightsEach Try.prog [3, 3] [d0, d1]).all (· ≤ reachBytes) = true) :
    Calls Try.prog 5 #[v0, v1] W fun e W' => e = .returned (.bool true) ∧ Below W.heap.size W W' := by
  obtain ⟨kind, rfl, rfl, rfl, _⟩ := open_int Try.underlying3 o0 h0
  obtain ⟨n, rfl, rfl, rfl, _⟩ := open_int Try.underlying3 o1 h1
  clear o0 h0 o1 h1
  have HN := Lib.hid (show Calls Try.prog 9 #[.int .i64 4] W fun e w' => ∃ b bd bm f own, e = .returned (.tuple #[.pointer (some ⟨b, 0, none⟩), .int .i64 0]) ∧ Lay w' W.heap.size b bd bm f (St.new 4) own ∧ W.grownBy w' none from disk_new 4 W (by omega) (by omega))
  go_enter Try.func5, Try.ntmps5
  go_wp2_with fail
  refine HN.out.mono ?_
  rintro e w1 ⟨b, bd, bm, f, own, rfl, hl1, hg1⟩
  have H1 := Lib.hid hl1; have HG1 := Lib.hid hg1
  clear hl1 hg1 HN
  go_wp2_with fail
  refine (known_any w1).mono ?_
  rintro e w2 ⟨rfl, hg2⟩
  have H2 := Lib.hid (H1.out.grown hg2 (fun _ e => by cases e)); have HG2 := Lib.hid (HG1.out.trans hg2)
  clear hg2 H1 HG1
  have HOB := Lib.hid H2.out.ownB
  have HLOW := Lib.hid H2.out.low
  have HLT := Lib.hid H2.out.lt
  go_wp2_with fail
  by_cases hbad : failBad kind n
  · have HC := Lib.hid (disk_fail_no (.pointer (some ⟨b, 0, none⟩)) kind n (w2.alloc (.cells #[.int .i64 0, .int .i64 0, .int .i64 1, .int .i64 0, .int .i64 0, .bool false, .slice none 0 0] 34)) hbad)
    have HEND := Lib.hid (show Below W.heap.size W (w2.alloc (.cells #[.int .i64 0, .int .i64 0, .int .i64 1, .int .i64 0, .int .i64 0, .bool false, .slice none 0 0] 34)) from
      have h := HG2.out.trans (World.grownBy_alloc w2 (.cells #[.int .i64 0, .int .i64 0, .int .i64 1, .int .i64 0, .int .i64 0, .bool false, .slice none 0 0] 34) none)
      ⟨h.os, h.tape, h.output, h.size, fun k hk => h.block k hk (by simp)⟩)
    refine HC.out.mono ?_
    rintro e w' ⟨rfl, rfl⟩
    by_cases h1 : kind < 1
    · clear hbad HC
      go_wp2
      go_ret
      exact ⟨rfl, HEND.out⟩
    by_cases h2 : 3 < kind
    · clear hbad HC
      go_wp2
      go_ret
      exact ⟨rfl, HEND.out⟩
    by_cases h3 : n < 1
    · clear hbad HC
      go_wp2
      go_ret
      exact ⟨rfl, HEND.out⟩
    · have h4 : 1099511627776 < n := by rcases hbad with h | h | h | h <;> omega
      clear hbad HC
      go_wp2
      go_ret
      exact ⟨rfl, HEND.out⟩
  have hn1 : 1 ≤ n := by unfold failBad at hbad; omega
  have hn2 : n ≤ 1099511627776 := by unfold failBad at hbad; omega
  obtain ⟨m, rfl⟩ : ∃ m : Nat, n = (m : Int) := ⟨n.toNat, by omega⟩
  have hk : kind = 1 ∨ kind = 2 ∨ kind = 3 := by unfold failBad at hbad; omega
  clear hbad
  rcases hk with rfl | rfl | rfl
  · have HC := Lib.hid (disk_fail1 (H2.out.alloc (.cells #[.int .i64 0, .int .i64 0, .int .i64 1, .int .i64 0, .int .i64 0, .bool false, .slice none 0 0] 34)) m (by omega) (by omega))
    refine HC.out.mono ?_
    rintro e w3 ⟨rfl, hg3, hl3⟩
    have hbx := (Blk.new w2 34 #[.int .i64 0, .int .i64 0, .int .i64 1, .int .i64 0, .int .i64 0, .bool false, .slice none 0 0]).grown hg3 (fun e => by cases e; have := HLT.out _ HOB.out; omega)
    have hbelow := below_grown (HG2.out.trans (World.grownBy_alloc w2 (.cells #[.int .i64 0, .int .i64 0, .int .i64 1, .int .i64 0, .int .i64 0, .bool false, .slice none 0 0] 34) none)) (Turn.below (Turn.of_grown (own := own) hg3 (fun q e => by cases e; exact HOB.out)) HLOW.out (by have := HG2.out.size; simp; omega))
    have HAT := Lib.hid (show FailAt W w3 b bd bm w2.heap.size 1 m 1 1 1 0 { St.new 4 with f1 := m } f own from ⟨hl3, ⟨rfl, (by show m = m + 1 - 1; omega), rfl, rfl, rfl, fun _ => Nat.succ_pos _⟩, hbx, fun ho => by have := HLT.out _ ho; omega, HG2.out.size, hbelow⟩)
    clear hg3 hl3 hbx HC hbelow H2 HG2
    go_wp2_with fail
    go_loopw [9, 10, 11, 12, 13] (fun i _ _ _ _ wr => ∃ (j : Nat) (q : Int) (S : St) (f' : Nat → Option Value) (own' : Nat → Prop), 1 ≤ j ∧ j ≤ 31 ∧ i = .int .i64 j ∧ FailAt W wr b bd bm w2.heap.size 1 m j j j q S f' own' ∧ (2 ≤ j → j - 1 ≠ m → S.now 1 = dataL 1 0 ((j - 1 : Nat) : Int))) (fun i _ _ _ _ _ => 31 - (Go.RowKit.intOf i).toNat)
    case atStart => exact ⟨1, _, _, f, own, by omega, by omega, rfl, HAT.out, fun h => by omega⟩
    case round =>
      obtain ⟨j, q0, S, f', own', hj1', hj, rfl, hat, hlast⟩ := hrel
      have HR := Lib.hid hat; have HLAST := Lib.hid hlast; clear hat hlast
      by_cases hlt : j ≤ 30
      · have hfz := HR.out.box.frozen 4
        have hold := HR.out.box.cell 4
        have hjle : decide ((j : Int) ≤ 30) = true := decide_eq_true (by omega)
        by_cases hj1 : j = 1
        · by_cases hjm : j = m
          · skip
            have hj2 : decide ((1 : Int) < (j : Int)) = false := by simp; omega
            clear hj1
            subst hjm
            have HRF := Lib.hid (HR.out.refill (j : Nat))
            have HRD := Lib.hid (fail_read_no HRF.out.lay HRF.out.st)
            go_wp2_with fail
            refine HRD.out.mono ?_
            rintro e w4 ⟨S4, rfl, hl4, hs4, hn4, ht4⟩
            have HR4 := Lib.hid (HRF.out.turn hl4 hs4 ht4)
            have hb := HR4.out.box
            have h0 := hb.cell 0; have h1 := hb.cell 1; have h2 := hb.cell 2; have h3 := hb.cell 3; have h4 := hb.cell 4; have h5 := hb.cell 5; have h6 := hb.cell 6
            have HN4 := Lib.hid hn4
            clear hb hl4 hs4 hn4 ht4 HRD
            go_wp2_with fail
            refine (data_one 0 0 (j : Nat) false (.slice none 0 0) _).mono ?_
            rintro e w5 ⟨v, rfl, ho5, hg5⟩
            obtain ⟨A, c, rfl, hc, _, hdat⟩ := data_of_own ho5 (own := own') HR4.out.lay.lt (dataL_lt _ _ _)
            have HR5 := Lib.hid (HR4.out.more hg5)
            have HW := Lib.hid (fail_write_ok HR5.out.lay HR5.out.st (by omega) (by omega) (by omega) A c (j : Nat) hdat hc HR5.out.grown.size)
            clear ho5 hdat h0 h1 h2 h3 h4 h5 h6
            go_wp2_with fail
            refine HW.out.mono ?_
            rintro e w6 ⟨S6, f6, own6, rfl, hl6, hs6, hn6, ht6⟩
            have HR6 := Lib.hid (HR5.out.turn hl6 hs6 ht6)
            have HN6 := Lib.hid hn6
            have HF := Lib.hid (fail_flush_ok HR6.out.lay HR6.out.st (by omega))
            clear hl6 hs6 hn6 ht6 HW
            go_wp2_with fail
            refine HF.out.mono ?_
            rintro e w7 ⟨S7, f7, rfl, hl7, hs7, hn7, ht7⟩
            have HR7 := Lib.hid (HR6.out.turn hl7 hs7 ht7)
            have HN7 := Lib.hid hn7
            clear hg5 hl7 hs7 hn7 ht7 HF
            go_wp2_with fail
            go_roundw
            case rel => exact ⟨j + 1, _, S7, _, _, by omega, by omega, by go_num, HR7.out, fun _ _ => by rw [HN7.out, HN6.out]; congr 1 <;> omega⟩
            case measure => simp [Go.RowKit.intOf] <;> omega
          · skip
            have hj2 : decide ((1 : Int) < (j : Int)) = false := by simp; omega
            clear hj1
            have hne : ((j : Int) == (m : Int)) = false := by simp; omega
            have HRF := Lib.hid (HR.out.refill (j : Nat))
            have HRD := Lib.hid (fail_read_ok HRF.out.lay HRF.out.st (by omega))
            go_wp2_with fail
            refine HRD.out.mono ?_
            rintro e w4 ⟨g, cap, S4, rfl, hgs, hcg, hgo, hl4, hs4, hn4, ht4⟩
            have hgl := (block_lt_of_cell hcg : g < w4.heap.size)
            have HR4 := Lib.hid (HRF.out.turn hl4 hs4 ht4)
            have hb := HR4.out.box
            have h0 := hb.cell 0; have h1 := hb.cell 1; have h2 := hb.cell 2; have h3 := hb.cell 3; have h4 := hb.cell 4; have h5 := hb.cell 5; have h6 := hb.cell 6
            have HN4 := Lib.hid hn4
            clear hb hl4 hs4 hn4 ht4 HRD
            go_wp2_with fail
            refine (data_one 0 0 (j : Nat) false (.slice none 0 0) _).mono ?_
            rintro e w5 ⟨v, rfl, ho5, hg5⟩
            obtain ⟨A, c, rfl, hc, _, hdat⟩ := data_of_own ho5 (own := own') HR4.out.lay.lt (dataL_lt _ _ _)
            have HR5 := Lib.hid (HR4.out.more hg5)
            have hc5 := hg5.cell hcg (by simp)
            have HW := Lib.hid (fail_write_ok HR5.out.lay HR5.out.st (by omega) (by omega) (by omega) A c (j : Nat) hdat hc HR5.out.grown.size)
            clear ho5 hdat h0 h1 h2 h3 h4 h5 h6
            go_wp2_with fail
            refine HW.out.mono ?_
            rintro e w6 ⟨S6, f6, own6, rfl, hl6, hs6, hn6, ht6⟩
            have HR6 := Lib.hid (HR5.out.turn hl6 hs6 ht6)
            have HN6 := Lib.hid hn6
            have hg5s := hg5.size
            have hc6 : w6.cell? ⟨g, 0, none⟩ = _ := (World.cell?_of_block (a := ⟨g, 0, none⟩) (ht6.block g (by omega) hgo)).trans hc5
            have hgo6 : ¬ own6 g := fun ho => by rcases ht6.fresh g ho with h | h; exact hgo h; omega
            have HF := Lib.hid (fail_flush_ok HR6.out.lay HR6.out.st (by omega))
            have hs6 := ht6.size
            clear hl6 hn6 ht6 HW
            go_wp2_with fail
            refine HF.out.mono ?_
            rintro e w7 ⟨S7, f7, rfl, hl7, hs7, hn7, ht7⟩
            have HR7 := Lib.hid (HR6.out.turn hl7 hs7 ht7)
            have HN7 := Lib.hid hn7
            have hc7 : w7.cell? ⟨g, 0, none⟩ = _ := (World.cell?_of_block (a := ⟨g, 0, none⟩) (ht7.block g (by omega) hgo6)).trans hc6
            clear hc6 hc5 hcg hgo hgo6 hgs hgl hg5s hs6
            clear hg5 hl7 hs7 hn7 ht7 HF
            go_wp2_with fail
            go_roundw
            case rel => exact ⟨j + 1, _, S7, _, _, by omega, by omega, by go_num, HR7.out, fun _ _ => by rw [HN7.out, HN6.out]; congr 1 <;> omega⟩
            case measure => simp [Go.RowKit.intOf] <;> omega
        · by_cases hjm : j = m
          · skip
            subst hjm
            have HRF := Lib.hid (HR.out.refill (j : Nat))
            have HRD := Lib.hid (fail_read_no HRF.out.lay HRF.out.st)
            go_wp2_with fail
            refine HRD.out.mono ?_
            rintro e w4 ⟨S4, rfl, hl4, hs4, hn4, ht4⟩
            have HR4 := Lib.hid (HRF.out.turn hl4 hs4 ht4)
            have hb := HR4.out.box
            have h0 := hb.cell 0; have h1 := hb.cell 1; have h2 := hb.cell 2; have h3 := hb.cell 3; have h4 := hb.cell 4; have h5 := hb.cell 5; have h6 := hb.cell 6
            have HN4 := Lib.hid hn4
            clear hb hl4 hs4 hn4 ht4 HRD
            go_wp2_with fail
            refine (data_one 0 0 (j : Nat) false (.slice none 0 0) _).mono ?_
            rintro e w5 ⟨v, rfl, ho5, hg5⟩
            obtain ⟨A, c, rfl, hc, _, hdat⟩ := data_of_own ho5 (own := own') HR4.out.lay.lt (dataL_lt _ _ _)
            have HR5 := Lib.hid (HR4.out.more hg5)
            have HW := Lib.hid (fail_write_ok HR5.out.lay HR5.out.st (by omega) (by omega) (by omega) A c (j : Nat) hdat hc HR5.out.grown.size)
            clear ho5 hdat h0 h1 h2 h3 h4 h5 h6
            go_wp2_with fail
            refine HW.out.mono ?_
            rintro e w6 ⟨S6, f6, own6, rfl, hl6, hs6, hn6, ht6⟩
            have HR6 := Lib.hid (HR5.out.turn hl6 hs6 ht6)
            have HN6 := Lib.hid hn6
            have HF := Lib.hid (fail_flush_ok HR6.out.lay HR6.out.st (by omega))
            clear hl6 hs6 hn6 ht6 HW
            go_wp2_with fail
            refine HF.out.mono ?_
            rintro e w7 ⟨S7, f7, rfl, hl7, hs7, hn7, ht7⟩
            have HR7 := Lib.hid (HR6.out.turn hl7 hs7 ht7)
            have HN7 := Lib.hid hn7
            clear hg5 hl7 hs7 hn7 ht7 HF
            have hnm : ((j : Int) != (j : Int) - 1) = true := by simp; omega
            have hj2 : decide ((1 : Int) < (j : Int)) = true := decide_eq_true (by omega)
            have hwj : IntKind.i64.wrap ((j : Int) - 1) = (j : Int) - 1 := IntWalk.i64_in _ (by omega)
            have hmod : ((j : Int) - 1) % 256 = (j : Int) - 1 := by omega
            go_wp2_with fail
            go_roundw
            case rel => exact ⟨j + 1, _, S7, _, _, by omega, by omega, by go_num, HR7.out, fun _ _ => by rw [HN7.out, HN6.out]; congr 1 <;> omega⟩
            case measure => simp [Go.RowKit.intOf] <;> omega
          · by_cases hjp : j - 1 = m
            · skip
              have hne : ((j : Int) == (m : Int)) = false := by simp; omega
              have HRF := Lib.hid (HR.out.refill (j : Nat))
              have HRD := Lib.hid (fail_read_ok HRF.out.lay HRF.out.st (by omega))
              go_wp2_with fail
              refine HRD.out.mono ?_
              rintro e w4 ⟨g, cap, S4, rfl, hgs, hcg, hgo, hl4, hs4, hn4, ht4⟩
              have hgl := (block_lt_of_cell hcg : g < w4.heap.size)
              have HR4 := Lib.hid (HRF.out.turn hl4 hs4 ht4)
              have hb := HR4.out.box
              have h0 := hb.cell 0; have h1 := hb.cell 1; have h2 := hb.cell 2; have h3 := hb.cell 3; have h4 := hb.cell 4; have h5 := hb.cell 5; have h6 := hb.cell 6
              have HN4 := Lib.hid hn4
              clear hb hl4 hs4 hn4 ht4 HRD
              go_wp2_with fail
              refine (data_one 0 0 (j : Nat) false (.slice none 0 0) _).mono ?_
              rintro e w5 ⟨v, rfl, ho5, hg5⟩
              obtain ⟨A, c, rfl, hc, _, hdat⟩ := data_of_own ho5 (own := own') HR4.out.lay.lt (dataL_lt _ _ _)
              have HR5 := Lib.hid (HR4.out.more hg5)
              have hc5 := hg5.cell hcg (by simp)
              have HW := Lib.hid (fail_write_ok HR5.out.lay HR5.out.st (by omega) (by omega) (by omega) A c (j : Nat) hdat hc HR5.out.grown.size)
              clear ho5 hdat h0 h1 h2 h3 h4 h5 h6
              go_wp2_with fail
              refine HW.out.mono ?_
              rintro e w6 ⟨S6, f6, own6, rfl, hl6, hs6, hn6, ht6⟩
              have HR6 := Lib.hid (HR5.out.turn hl6 hs6 ht6)
              have HN6 := Lib.hid hn6
              have hg5s := hg5.size
              have hc6 : w6.cell? ⟨g, 0, none⟩ = _ := (World.cell?_of_block (a := ⟨g, 0, none⟩) (ht6.block g (by omega) hgo)).trans hc5
              have hgo6 : ¬ own6 g := fun ho => by rcases ht6.fresh g ho with h | h; exact hgo h; omega
              have HF := Lib.hid (fail_flush_ok HR6.out.lay HR6.out.st (by omega))
              have hs6 := ht6.size
              clear hl6 hn6 ht6 HW
              go_wp2_with fail
              refine HF.out.mono ?_
              rintro e w7 ⟨S7, f7, rfl, hl7, hs7, hn7, ht7⟩
              have HR7 := Lib.hid (HR6.out.turn hl7 hs7 ht7)
              have HN7 := Lib.hid hn7
              have hc7 : w7.cell? ⟨g, 0, none⟩ = _ := (World.cell?_of_block (a := ⟨g, 0, none⟩) (ht7.block g (by omega) hgo6)).trans hc6
              clear hc6 hc5 hcg hgo hgo6 hgs hgl hg5s hs6
              clear hg5 hl7 hs7 hn7 ht7 HF
              have hnm : ((m : Int) != (j : Int) - 1) = false := by simp; omega
              have hj2 : decide ((1 : Int) < (j : Int)) = true := decide_eq_true (by omega)
              have hwj : IntKind.i64.wrap ((j : Int) - 1) = (j : Int) - 1 := IntWalk.i64_in _ (by omega)
              have hmod : ((j : Int) - 1) % 256 = (j : Int) - 1 := by omega
              go_wp2_with fail
              go_roundw
              case rel => exact ⟨j + 1, _, S7, _, _, by omega, by omega, by go_num, HR7.out, fun _ _ => by rw [HN7.out, HN6.out]; congr 1 <;> omega⟩
              case measure => simp [Go.RowKit.intOf] <;> omega
            · skip
              have hne : ((j : Int) == (m : Int)) = false := by simp; omega
              have HRF := Lib.hid (HR.out.refill (j : Nat))
              have HRD := Lib.hid (fail_read_ok HRF.out.lay HRF.out.st (by omega))
              go_wp2_with fail
              refine HRD.out.mono ?_
              rintro e w4 ⟨g, cap, S4, rfl, hgs, hcg, hgo, hl4, hs4, hn4, ht4⟩
              have hbyte := last_byte (HLAST.out (by omega) (by omega)) (by omega)
              rw [hbyte] at hcg
              have hgl := (block_lt_of_cell hcg : g < w4.heap.size)
              have HR4 := Lib.hid (HRF.out.turn hl4 hs4 ht4)
              have hb := HR4.out.box
              have h0 := hb.cell 0; have h1 := hb.cell 1; have h2 := hb.cell 2; have h3 := hb.cell 3; have h4 := hb.cell 4; have h5 := hb.cell 5; have h6 := hb.cell 6
              have HN4 := Lib.hid hn4
              clear hb hl4 hs4 hn4 ht4 HRD
              go_wp2_with fail
              refine (data_one 0 0 (j : Nat) false (.slice none 0 0) _).mono ?_
              rintro e w5 ⟨v, rfl, ho5, hg5⟩
              obtain ⟨A, c, rfl, hc, _, hdat⟩ := data_of_own ho5 (own := own') HR4.out.lay.lt (dataL_lt _ _ _)
              have HR5 := Lib.hid (HR4.out.more hg5)
              have hc5 := hg5.cell hcg (by simp)
              have HW := Lib.hid (fail_write_ok HR5.out.lay HR5.out.st (by omega) (by omega) (by omega) A c (j : Nat) hdat hc HR5.out.grown.size)
              clear ho5 hdat h0 h1 h2 h3 h4 h5 h6
              go_wp2_with fail
              refine HW.out.mono ?_
              rintro e w6 ⟨S6, f6, own6, rfl, hl6, hs6, hn6, ht6⟩
              have HR6 := Lib.hid (HR5.out.turn hl6 hs6 ht6)
              have HN6 := Lib.hid hn6
              have hg5s := hg5.size
              have hc6 : w6.cell? ⟨g, 0, none⟩ = _ := (World.cell?_of_block (a := ⟨g, 0, none⟩) (ht6.block g (by omega) hgo)).trans hc5
              have hgo6 : ¬ own6 g := fun ho => by rcases ht6.fresh g ho with h | h; exact hgo h; omega
              have HF := Lib.hid (fail_flush_ok HR6.out.lay HR6.out.st (by omega))
              have hs6 := ht6.size
              clear hl6 hn6 ht6 HW
              go_wp2_with fail
              refine HF.out.mono ?_
              rintro e w7 ⟨S7, f7, rfl, hl7, hs7, hn7, ht7⟩
              have HR7 := Lib.hid (HR6.out.turn hl7 hs7 ht7)
              have HN7 := Lib.hid hn7
              have hc7 : w7.cell? ⟨g, 0, none⟩ = _ := (World.cell?_of_block (a := ⟨g, 0, none⟩) (ht7.block g (by omega) hgo6)).trans hc6
              clear hc6 hc5 hcg hgo hgo6 hgs hgl hg5s hs6
              clear hg5 hl7 hs7 hn7 ht7 HF
              have hnm : ((m : Int) != (j : Int) - 1) = true := by simp; omega
              have hj2 : decide ((1 : Int) < (j : Int)) = true := decide_eq_true (by omega)
              have hwj : IntKind.i64.wrap ((j : Int) - 1) = (j : Int) - 1 := IntWalk.i64_in _ (by omega)
              have hmod : ((j : Int) - 1) % 256 = (j : Int) - 1 := by omega
              go_wp2_with fail
              go_roundw
              case rel => exact ⟨j + 1, _, S7, _, _, by omega, by omega, by go_num, HR7.out, fun _ _ => by rw [HN7.out, HN6.out]; congr 1 <;> omega⟩
              case measure => simp [Go.RowKit.intOf] <;> omega
      · obtain rfl : j = 31 := by omega
        go_wp2
        go_ret
        exact ⟨rfl, ⟨HR.out.grown.os, HR.out.grown.tape, HR.out.grown.output, HR.out.grown.size, fun k hk => HR.out.grown.block k hk (by simp)⟩⟩
  · have HC := Lib.hid (disk_fail2 (H2.out.alloc (.cells #[.int .i64 0, .int .i64 0, .int .i64 1, .int .i64 0, .int .i64 0, .bool false, .slice none 0 0] 34)) m (by omega) (by omega))
    refine HC.out.mono ?_
    rintro e w3 ⟨rfl, hg3, hl3⟩
    have hbx := (Blk.new w2 34 #[.int .i64 0, .int .i64 0, .int .i64 1, .int .i64 0, .int .i64 0, .bool false, .slice none 0 0]).grown hg3 (fun e => by cases e; have := HLT.out _ HOB.out; omega)
    have hbelow := below_grown (HG2.out.trans (World.grownBy_alloc w2 (.cells #[.int .i64 0, .int .i64 0, .int .i64 1, .int .i64 0, .int .i64 0, .bool false, .slice none 0 0] 34) none)) (Turn.below (Turn.of_grown (own := own) hg3 (fun q e => by cases e; exact HOB.out)) HLOW.out (by have := HG2.out.size; simp; omega))
    have HAT := Lib.hid (show FailAt W w3 b bd bm w2.heap.size 2 m 1 1 1 0 { St.new 4 with f2 := m } f own from ⟨hl3, ⟨rfl, rfl, (by show m = m + 1 - 1; omega), rfl, rfl, fun _ => Nat.succ_pos _⟩, hbx, fun ho => by have := HLT.out _ ho; omega, HG2.out.size, hbelow⟩)
    clear hg3 hl3 hbx HC hbelow H2 HG2
    go_wp2_with fail
    go_loopw [9, 10, 11, 12, 13] (fun i _ _ _ _ wr => ∃ (j : Nat) (q : Int) (S : St) (f' : Nat → Option Value) (own' : Nat → Prop), 1 ≤ j ∧ j ≤ 31 ∧ i = .int .i64 j ∧ FailAt W wr b bd bm w2.heap.size 2 m j j j q S f' own' ∧ (2 ≤ j → j - 1 ≠ m → S.now 1 = dataL 1 0 ((j - 1 : Nat) : Int))) (fun i _ _ _ _ _ => 31 - (Go.RowKit.intOf i).toNat)
    case atStart => exact ⟨1, _, _, f, own, by omega, by omega, rfl, HAT.out, fun h => by omega⟩
    case round =>
      obtain ⟨j, q0, S, f', own', hj1', hj, rfl, hat, hlast⟩ := hrel
      have HR := Lib.hid hat; have HLAST := Lib.hid hlast; clear hat hlast
      by_cases hlt : j ≤ 30
      · have hfz := HR.out.box.frozen 4
        have hold := HR.out.box.cell 4
        have hjle : decide ((j : Int) ≤ 30) = true := decide_eq_true (by omega)
        by_cases hj1 : j = 1
        · by_cases hjm : j = m
          · skip
            have hj2 : decide ((1 : Int) < (j : Int)) = false := by simp; omega
            clear hj1
            subst hjm
            have HRF := Lib.hid (HR.out.refill (j : Nat))
            have HRD := Lib.hid (fail_read_ok HRF.out.lay HRF.out.st (by omega))
            go_wp2_with fail
            refine HRD.out.mono ?_
            rintro e w4 ⟨g, cap, S4, rfl, hgs, hcg, hgo, hl4, hs4, hn4, ht4⟩
            have hgl := (block_lt_of_cell hcg : g < w4.heap.size)
            have HR4 := Lib.hid (HRF.out.turn hl4 hs4 ht4)
            have hb := HR4.out.box
            have h0 := hb.cell 0; have h1 := hb.cell 1; have h2 := hb.cell 2; have h3 := hb.cell 3; have h4 := hb.cell 4; have h5 := hb.cell 5; have h6 := hb.cell 6
            have HN4 := Lib.hid hn4
            clear hb hl4 hs4 hn4 ht4 HRD
            go_wp2_with fail
            refine (data_one 0 0 (j : Nat) false (.slice none 0 0) _).mono ?_
            rintro e w5 ⟨v, rfl, ho5, hg5⟩
            obtain ⟨A, c, rfl, hc, _, hdat⟩ := data_of_own ho5 (own := own') HR4.out.lay.lt (dataL_lt _ _ _)
            have HR5 := Lib.hid (HR4.out.more hg5)
            have hc5 := hg5.cell hcg (by simp)
            have HW := Lib.hid (fail_write_no HR5.out.lay HR5.out.st A c)
            clear ho5 hdat h0 h1 h2 h3 h4 h5 h6
            go_wp2_with fail
            refine HW.out.mono ?_
            rintro e w6 ⟨S6, rfl, hl6, hs6, hn6, ht6⟩
            have HR6 := Lib.hid (HR5.out.turn hl6 hs6 ht6)
            have HN6 := Lib.hid hn6
            have hg5s := hg5.size
            have hc6 : w6.cell? ⟨g, 0, none⟩ = _ := (World.cell?_of_block (a := ⟨g, 0, none⟩) (ht6.block g (by omega) hgo)).trans hc5
            have hgo6 := hgo
            have HF := Lib.hid (fail_flush_ok HR6.out.lay HR6.out.st (by omega))
            have hs6 := ht6.size
            clear hl6 hn6 ht6 HW
            go_wp2_with fail
            refine HF.out.mono ?_
            rintro e w7 ⟨S7, f7, rfl, hl7, hs7, hn7, ht7⟩
            have HR7 := Lib.hid (HR6.out.turn hl7 hs7 ht7)
            have HN7 := Lib.hid hn7
            have hc7 : w7.cell? ⟨g, 0, none⟩ = _ := (World.cell?_of_block (a := ⟨g, 0, none⟩) (ht7.block g (by omega) hgo6)).trans hc6
            clear hc6 hc5 hcg hgo hgo6 hgs hgl hg5s hs6
            clear hg5 hl7 hs7 hn7 ht7 HF
            go_wp2_with fail
            go_roundw
            case rel => exact ⟨j + 1, _, S7, _, _, by omega, by omega, by go_num, HR7.out, fun _ hq => absurd (by omega) hq⟩
            case measure => simp [Go.RowKit.intOf] <;> omega
          · skip
            have hj2 : decide ((1 : Int) < (j : Int)) = false := by simp; omega
            clear hj1
            have hne : ((j : Int) == (m : Int)) = false := by simp; omega
            have HRF := Lib.hid (HR.out.refill (j : Nat))
            have HRD := Lib.hid (fail_read_ok HRF.out.lay HRF.out.st (by omega))
            go_wp2_with fail
            refine HRD.out.mono ?_
            rintro e w4 ⟨g, cap, S4, rfl, hgs, hcg, hgo, hl4, hs4, hn4, ht4⟩
            have hgl := (block_lt_of_cell hcg : g < w4.heap.size)
            have HR4 := Lib.hid (HRF.out.turn hl4 hs4 ht4)
            have hb := HR4.out.box
            have h0 := hb.cell 0; have h1 := hb.cell 1; have h2 := hb.cell 2; have h3 := hb.cell 3; have h4 := hb.cell 4; have h5 := hb.cell 5; have h6 := hb.cell 6
            have HN4 := Lib.hid hn4
            clear hb hl4 hs4 hn4 ht4 HRD
            go_wp2_with fail
            refine (data_one 0 0 (j : Nat) false (.slice none 0 0) _).mono ?_
            rintro e w5 ⟨v, rfl, ho5, hg5⟩
            obtain ⟨A, c, rfl, hc, _, hdat⟩ := data_of_own ho5 (own := own') HR4.out.lay.lt (dataL_lt _ _ _)
            have HR5 := Lib.hid (HR4.out.more hg5)
            have hc5 := hg5.cell hcg (by simp)
            have HW := Lib.hid (fail_write_ok HR5.out.lay HR5.out.st (by omega) (by omega) (by omega) A c (j : Nat) hdat hc HR5.out.grown.size)
            clear ho5 hdat h0 h1 h2 h3 h4 h5 h6
            go_wp2_with fail
            refine HW.out.mono ?_
            rintro e w6 ⟨S6, f6, own6, rfl, hl6, hs6, hn6, ht6⟩
            have HR6 := Lib.hid (HR5.out.turn hl6 hs6 ht6)
            have HN6 := Lib.hid hn6
            have hg5s := hg5.size
            have hc6 : w6.cell? ⟨g, 0, none⟩ = _ := (World.cell?_of_block (a := ⟨g, 0, none⟩) (ht6.block g (by omega) hgo)).trans hc5
            have hgo6 : ¬ own6 g := fun ho => by rcases ht6.fresh g ho with h | h; exact hgo h; omega
            have HF := Lib.hid (fail_flush_ok HR6.out.lay HR6.out.st (by omega))
            have hs6 := ht6.size
            clear hl6 hn6 ht6 HW
            go_wp2_with fail
            refine HF.out.mono ?_
            rintro e w7 ⟨S7, f7, rfl, hl7, hs7, hn7, ht7⟩
            have HR7 := Lib.hid (HR6.out.turn hl7 hs7 ht7)
            have HN7 := Lib.hid hn7
            have hc7 : w7.cell? ⟨g, 0, none⟩ = _ := (World.cell?_of_block (a := ⟨g, 0, none⟩) (ht7.block g (by omega) hgo6)).trans hc6
            clear hc6 hc5 hcg hgo hgo6 hgs hgl hg5s hs6
            clear hg5 hl7 hs7 hn7 ht7 HF
            go_wp2_with fail
            go_roundw
            case rel => exact ⟨j + 1, _, S7, _, _, by omega, by omega, by go_num, HR7.out, fun _ _ => by rw [HN7.out, HN6.out]; congr 1 <;> omega⟩
            case measure => simp [Go.RowKit.intOf] <;> omega
        · by_cases hjm : j = m
          · skip
            subst hjm
            have HRF := Lib.hid (HR.out.refill (j : Nat))
            have HRD := Lib.hid (fail_read_ok HRF.out.lay HRF.out.st (by omega))
            go_wp2_with fail
            refine HRD.out.mono ?_
            rintro e w4 ⟨g, cap, S4, rfl, hgs, hcg, hgo, hl4, hs4, hn4, ht4⟩
            have hbyte := last_byte (HLAST.out (by omega) (by omega)) (by omega)
            rw [hbyte] at hcg
            have hgl := (block_lt_of_cell hcg : g < w4.heap.size)
            have HR4 := Lib.hid (HRF.out.turn hl4 hs4 ht4)
            have hb := HR4.out.box
            have h0 := hb.cell 0; have h1 := hb.cell 1; have h2 := hb.cell 2; have h3 := hb.cell 3; have h4 := hb.cell 4; have h5 := hb.cell 5; have h6 := hb.cell 6
            have HN4 := Lib.hid hn4
            clear hb hl4 hs4 hn4 ht4 HRD
            go_wp2_with fail
            refine (data_one 0 0 (j : Nat) false (.slice none 0 0) _).mono ?_
            rintro e w5 ⟨v, rfl, ho5, hg5⟩
            obtain ⟨A, c, rfl, hc, _, hdat⟩ := data_of_own ho5 (own := own') HR4.out.lay.lt (dataL_lt _ _ _)
            have HR5 := Lib.hid (HR4.out.more hg5)
            have hc5 := hg5.cell hcg (by simp)
            have HW := Lib.hid (fail_write_no HR5.out.lay HR5.out.st A c)
            clear ho5 hdat h0 h1 h2 h3 h4 h5 h6
            go_wp2_with fail
            refine HW.out.mono ?_
            rintro e w6 ⟨S6, rfl, hl6, hs6, hn6, ht6⟩
            have HR6 := Lib.hid (HR5.out.turn hl6 hs6 ht6)
            have HN6 := Lib.hid hn6
            have hg5s := hg5.size
            have hc6 : w6.cell? ⟨g, 0, none⟩ = _ := (World.cell?_of_block (a := ⟨g, 0, none⟩) (ht6.block g (by omega) hgo)).trans hc5
            have hgo6 := hgo
            have HF := Lib.hid (fail_flush_ok HR6.out.lay HR6.out.st (by omega))
            have hs6 := ht6.size
            clear hl6 hn6 ht6 HW
            go_wp2_with fail
            refine HF.out.mono ?_
            rintro e w7 ⟨S7, f7, rfl, hl7, hs7, hn7, ht7⟩
            have HR7 := Lib.hid (HR6.out.turn hl7 hs7 ht7)
            have HN7 := Lib.hid hn7
            have hc7 : w7.cell? ⟨g, 0, none⟩ = _ := (World.cell?_of_block (a := ⟨g, 0, none⟩) (ht7.block g (by omega) hgo6)).trans hc6
            clear hc6 hc5 hcg hgo hgo6 hgs hgl hg5s hs6
            clear hg5 hl7 hs7 hn7 ht7 HF
            have hnm : ((j : Int) != (j : Int) - 1) = true := by simp; omega
            have hj2 : decide ((1 : Int) < (j : Int)) = true := decide_eq_true (by omega)
            have hwj : IntKind.i64.wrap ((j : Int) - 1) = (j : Int) - 1 := IntWalk.i64_in _ (by omega)
            have hmod : ((j : Int) - 1) % 256 = (j : Int) - 1 := by omega
            go_wp2_with fail
            go_roundw
            case rel => exact ⟨j + 1, _, S7, _, _, by omega, by omega, by go_num, HR7.out, fun _ hq => absurd (by omega) hq⟩
            case measure => simp [Go.RowKit.intOf] <;> omega
          · by_cases hjp : j - 1 = m
            · skip
              have hne : ((j : Int) == (m : Int)) = false := by simp; omega
              have HRF := Lib.hid (HR.out.refill (j : Nat))
              have HRD := Lib.hid (fail_read_ok HRF.out.lay HRF.out.st (by omega))
              go_wp2_with fail
              refine HRD.out.mono ?_
              rintro e w4 ⟨g, cap, S4, rfl, hgs, hcg, hgo, hl4, hs4, hn4, ht4⟩
              have hgl := (block_lt_of_cell hcg : g < w4.heap.size)
              have HR4 := Lib.hid (HRF.out.turn hl4 hs4 ht4)
              have hb := HR4.out.box
              have h0 := hb.cell 0; have h1 := hb.cell 1; have h2 := hb.cell 2; have h3 := hb.cell 3; have h4 := hb.cell 4; have h5 := hb.cell 5; have h6 := hb.cell 6
              have HN4 := Lib.hid hn4
              clear hb hl4 hs4 hn4 ht4 HRD
              go_wp2_with fail
              refine (data_one 0 0 (j : Nat) false (.slice none 0 0) _).mono ?_
              rintro e w5 ⟨v, rfl, ho5, hg5⟩
              obtain ⟨A, c, rfl, hc, _, hdat⟩ := data_of_own ho5 (own := own') HR4.out.lay.lt (dataL_lt _ _ _)
              have HR5 := Lib.hid (HR4.out.more hg5)
              have hc5 := hg5.cell hcg (by simp)
              have HW := Lib.hid (fail_write_ok HR5.out.lay HR5.out.st (by omega) (by omega) (by omega) A c (j : Nat) hdat hc HR5.out.grown.size)
              clear ho5 hdat h0 h1 h2 h3 h4 h5 h6
              go_wp2_with fail
              refine HW.out.mono ?_
              rintro e w6 ⟨S6, f6, own6, rfl, hl6, hs6, hn6, ht6⟩
              have HR6 := Lib.hid (HR5.out.turn hl6 hs6 ht6)
              have HN6 := Lib.hid hn6
              have hg5s := hg5.size
              have hc6 : w6.cell? ⟨g, 0, none⟩ = _ := (World.cell?_of_block (a := ⟨g, 0, none⟩) (ht6.block g (by omega) hgo)).trans hc5
              have hgo6 : ¬ own6 g := fun ho => by rcases ht6.fresh g ho with h | h; exact hgo h; omega
              have HF := Lib.hid (fail_flush_ok HR6.out.lay HR6.out.st (by omega))
              have hs6 := ht6.size
              clear hl6 hn6 ht6 HW
              go_wp2_with fail
              refine HF.out.mono ?_
              rintro e w7 ⟨S7, f7, rfl, hl7, hs7, hn7, ht7⟩
              have HR7 := Lib.hid (HR6.out.turn hl7 hs7 ht7)
              have HN7 := Lib.hid hn7
              have hc7 : w7.cell? ⟨g, 0, none⟩ = _ := (World.cell?_of_block (a := ⟨g, 0, none⟩) (ht7.block g (by omega) hgo6)).trans hc6
              clear hc6 hc5 hcg hgo hgo6 hgs hgl hg5s hs6
              clear hg5 hl7 hs7 hn7 ht7 HF
              have hnm : ((m : Int) != (j : Int) - 1) = false := by simp; omega
              have hj2 : decide ((1 : Int) < (j : Int)) = true := decide_eq_true (by omega)
              have hwj : IntKind.i64.wrap ((j : Int) - 1) = (j : Int) - 1 := IntWalk.i64_in _ (by omega)
              have hmod : ((j : Int) - 1) % 256 = (j : Int) - 1 := by omega
              go_wp2_with fail
              go_roundw
              case rel => exact ⟨j + 1, _, S7, _, _, by omega, by omega, by go_num, HR7.out, fun _ _ => by rw [HN7.out, HN6.out]; congr 1 <;> omega⟩
              case measure => simp [Go.RowKit.intOf] <;> omega
            · skip
              have hne : ((j : Int) == (m : Int)) = false := by simp; omega
              have HRF := Lib.hid (HR.out.refill (j : Nat))
              have HRD := Lib.hid (fail_read_ok HRF.out.lay HRF.out.st (by omega))
              go_wp2_with fail
              refine HRD.out.mono ?_
              rintro e w4 ⟨g, cap, S4, rfl, hgs, hcg, hgo, hl4, hs4, hn4, ht4⟩
              have hbyte := last_byte (HLAST.out (by omega) (by omega)) (by omega)
              rw [hbyte] at hcg
              have hgl := (block_lt_of_cell hcg : g < w4.heap.size)
              have HR4 := Lib.hid (HRF.out.turn hl4 hs4 ht4)
              have hb := HR4.out.box
              have h0 := hb.cell 0; have h1 := hb.cell 1; have h2 := hb.cell 2; have h3 := hb.cell 3; have h4 := hb.cell 4; have h5 := hb.cell 5; have h6 := hb.cell 6
              have HN4 := Lib.hid hn4
              clear hb hl4 hs4 hn4 ht4 HRD
              go_wp2_with fail
              refine (data_one 0 0 (j : Nat) false (.slice none 0 0) _).mono ?_
              rintro e w5 ⟨v, rfl, ho5, hg5⟩
              obtain ⟨A, c, rfl, hc, _, hdat⟩ := data_of_own ho5 (own := own') HR4.out.lay.lt (dataL_lt _ _ _)
              have HR5 := Lib.hid (HR4.out.more hg5)
              have hc5 := hg5.cell hcg (by simp)
              have HW := Lib.hid (fail_write_ok HR5.out.lay HR5.out.st (by omega) (by omega) (by omega) A c (j : Nat) hdat hc HR5.out.grown.size)
              clear ho5 hdat h0 h1 h2 h3 h4 h5 h6
              go_wp2_with fail
              refine HW.out.mono ?_
              rintro e w6 ⟨S6, f6, own6, rfl, hl6, hs6, hn6, ht6⟩
              have HR6 := Lib.hid (HR5.out.turn hl6 hs6 ht6)
              have HN6 := Lib.hid hn6
              have hg5s := hg5.size
              have hc6 : w6.cell? ⟨g, 0, none⟩ = _ := (World.cell?_of_block (a := ⟨g, 0, none⟩) (ht6.block g (by omega) hgo)).trans hc5
              have hgo6 : ¬ own6 g := fun ho => by rcases ht6.fresh g ho with h | h; exact hgo h; omega
              have HF := Lib.hid (fail_flush_ok HR6.out.lay HR6.out.st (by omega))
              have hs6 := ht6.size
              clear hl6 hn6 ht6 HW
              go_wp2_with fail
              refine HF.out.mono ?_
              rintro e w7 ⟨S7, f7, rfl, hl7, hs7, hn7, ht7⟩
              have HR7 := Lib.hid (HR6.out.turn hl7 hs7 ht7)
              have HN7 := Lib.hid hn7
              have hc7 : w7.cell? ⟨g, 0, none⟩ = _ := (World.cell?_of_block (a := ⟨g, 0, none⟩) (ht7.block g (by omega) hgo6)).trans hc6
              clear hc6 hc5 hcg hgo hgo6 hgs hgl hg5s hs6
              clear hg5 hl7 hs7 hn7 ht7 HF
              have hnm : ((m : Int) != (j : Int) - 1) = true := by simp; omega
              have hj2 : decide ((1 : Int) < (j : Int)) = true := decide_eq_true (by omega)
              have hwj : IntKind.i64.wrap ((j : Int) - 1) = (j : Int) - 1 := IntWalk.i64_in _ (by omega)
              have hmod : ((j : Int) - 1) % 256 = (j : Int) - 1 := by omega
              go_wp2_with fail
              go_roundw
              case rel => exact ⟨j + 1, _, S7, _, _, by omega, by omega, by go_num, HR7.out, fun _ _ => by rw [HN7.out, HN6.out]; congr 1 <;> omega⟩
              case measure => simp [Go.RowKit.intOf] <;> omega
      · obtain rfl : j = 31 := by omega
        go_wp2
        go_ret
        exact ⟨rfl, ⟨HR.out.grown.os, HR.out.grown.tape, HR.out.grown.output, HR.out.grown.size, fun k hk => HR.out.grown.block k hk (by simp)⟩⟩
  · have HC := Lib.hid (disk_fail3 (H2.out.alloc (.cells #[.int .i64 0, .int .i64 0, .int .i64 1, .int .i64 0, .int .i64 0, .bool false, .slice none 0 0] 34)) m (by omega) (by omega))
    refine HC.out.mono ?_
    rintro e w3 ⟨rfl, hg3, hl3⟩
    have hbx := (Blk.new w2 34 #[.int .i64 0, .int .i64 0, .int .i64 1, .int .i64 0, .int .i64 0, .bool false, .slice none 0 0]).grown hg3 (fun e => by cases e; have := HLT.out _ HOB.out; omega)
    have hbelow := below_grown (HG2.out.trans (World.grownBy_alloc w2 (.cells #[.int .i64 0, .int .i64 0, .int .i64 1, .int .i64 0, .int .i64 0, .bool false, .slice none 0 0] 34) none)) (Turn.below (Turn.of_grown (own := own) hg3 (fun q e => by cases e; exact HOB.out)) HLOW.out (by have := HG2.out.size; simp; omega))
    have HAT := Lib.hid (show FailAt W w3 b bd bm w2.heap.size 3 m 1 1 1 0 { St.new 4 with f3 := m } f own from ⟨hl3, ⟨rfl, rfl, rfl, (by show m = m + 1 - 1; omega), rfl, fun _ => Nat.succ_pos _⟩, hbx, fun ho => by have := HLT.out _ ho; omega, HG2.out.size, hbelow⟩)
    clear hg3 hl3 hbx HC hbelow H2 HG2
    go_wp2_with fail
    go_loopw [9, 10, 11, 12, 13] (fun i _ _ _ _ wr => ∃ (j : Nat) (q : Int) (S : St) (f' : Nat → Option Value) (own' : Nat → Prop), 1 ≤ j ∧ j ≤ 31 ∧ i = .int .i64 j ∧ FailAt W wr b bd bm w2.heap.size 3 m j j j q S f' own' ∧ (2 ≤ j → j - 1 ≠ m → S.now 1 = dataL 1 0 ((j - 1 : Nat) : Int))) (fun i _ _ _ _ _ => 31 - (Go.RowKit.intOf i).toNat)
    case atStart => exact ⟨1, _, _, f, own, by omega, by omega, rfl, HAT.out, fun h => by omega⟩
    case round =>
      obtain ⟨j, q0, S, f', own', hj1', hj, rfl, hat, hlast⟩ := hrel
      have HR := Lib.hid hat; have HLAST := Lib.hid hlast; clear hat hlast
      by_cases hlt : j ≤ 30
      · have hfz := HR.out.box.frozen 4
        have hold := HR.out.box.cell 4
        have hjle : decide ((j : Int) ≤ 30) = true := decide_eq_true (by omega)
        by_cases hj1 : j = 1
        · by_cases hjm : j = m
          · skip
            have hj2 : decide ((1 : Int) < (j : Int)) = false := by simp; omega
            clear hj1
            subst hjm
            have HRF := Lib.hid (HR.out.refill (j : Nat))
            have HRD := Lib.hid (fail_read_ok HRF.out.lay HRF.out.st (by omega))
            go_wp2_with fail
            refine HRD.out.mono ?_
            rintro e w4 ⟨g, cap, S4, rfl, hgs, hcg, hgo, hl4, hs4, hn4, ht4⟩
            have hgl := (block_lt_of_cell hcg : g < w4.heap.size)
            have HR4 := Lib.hid (HRF.out.turn hl4 hs4 ht4)
            have hb := HR4.out.box
            have h0 := hb.cell 0; have h1 := hb.cell 1; have h2 := hb.cell 2; have h3 := hb.cell 3; have h4 := hb.cell 4; have h5 := hb.cell 5; have h6 := hb.cell 6
            have HN4 := Lib.hid hn4
            clear hb hl4 hs4 hn4 ht4 HRD
            go_wp2_with fail
            refine (data_one 0 0 (j : Nat) false (.slice none 0 0) _).mono ?_
            rintro e w5 ⟨v, rfl, ho5, hg5⟩
            obtain ⟨A, c, rfl, hc, _, hdat⟩ := data_of_own ho5 (own := own') HR4.out.lay.lt (dataL_lt _ _ _)
            have HR5 := Lib.hid (HR4.out.more hg5)
            have hc5 := hg5.cell hcg (by simp)
            have HW := Lib.hid (fail_write_ok HR5.out.lay HR5.out.st (by omega) (by omega) (by omega) A c (j : Nat) hdat hc HR5.out.grown.size)
            clear ho5 hdat h0 h1 h2 h3 h4 h5 h6
            go_wp2_with fail
            refine HW.out.mono ?_
            rintro e w6 ⟨S6, f6, own6, rfl, hl6, hs6, hn6, ht6⟩
            have HR6 := Lib.hid (HR5.out.turn hl6 hs6 ht6)
            have HN6 := Lib.hid hn6
            have hg5s := hg5.size
            have hc6 : w6.cell? ⟨g, 0, none⟩ = _ := (World.cell?_of_block (a := ⟨g, 0, none⟩) (ht6.block g (by omega) hgo)).trans hc5
            have hgo6 : ¬ own6 g := fun ho => by rcases ht6.fresh g ho with h | h; exact hgo h; omega
            have HF := Lib.hid (fail_flush_no HR6.out.lay HR6.out.st)
            have hs6 := ht6.size
            clear hl6 hn6 ht6 HW
            go_wp2_with fail
            refine HF.out.mono ?_
            rintro e w7 ⟨S7, rfl, hl7, hs7, hn7, ht7⟩
            have HR7 := Lib.hid (HR6.out.turn hl7 hs7 ht7)
            have HN7 := Lib.hid hn7
            have hc7 : w7.cell? ⟨g, 0, none⟩ = _ := (World.cell?_of_block (a := ⟨g, 0, none⟩) (ht7.block g (by omega) hgo6)).trans hc6
            clear hc6 hc5 hcg hgo hgo6 hgs hgl hg5s hs6
            clear hg5 hl7 hs7 hn7 ht7 HF
            go_wp2_with fail
            go_roundw
            case rel => exact ⟨j + 1, _, S7, _, _, by omega, by omega, by go_num, HR7.out, fun _ _ => by rw [HN7.out, HN6.out]; congr 1 <;> omega⟩
            case measure => simp [Go.RowKit.intOf] <;> omega
          · skip
            have hj2 : decide ((1 : Int) < (j : Int)) = false := by simp; omega
            clear hj1
            have hne : ((j : Int) == (m : Int)) = false := by simp; omega
            have HRF := Lib.hid (HR.out.refill (j : Nat))
            have HRD := Lib.hid (fail_read_ok HRF.out.lay HRF.out.st (by omega))
            go_wp2_with fail
            refine HRD.out.mono ?_
            rintro e w4 ⟨g, cap, S4, rfl, hgs, hcg, hgo, hl4, hs4, hn4, ht4⟩
            have hgl := (block_lt_of_cell hcg : g < w4.heap.size)
            have HR4 := Lib.hid (HRF.out.turn hl4 hs4 ht4)
            have hb := HR4.out.box
            have h0 := hb.cell 0; have h1 := hb.cell 1; have h2 := hb.cell 2; have h3 := hb.cell 3; have h4 := hb.cell 4; have h5 := hb.cell 5; have h6 := hb.cell 6
            have HN4 := Lib.hid hn4
            clear hb hl4 hs4 hn4 ht4 HRD
            go_wp2_with fail
            refine (data_one 0 0 (j : Nat) false (.slice none 0 0) _).mono ?_
            rintro e w5 ⟨v, rfl, ho5, hg5⟩
            obtain ⟨A, c, rfl, hc, _, hdat⟩ := data_of_own ho5 (own := own') HR4.out.lay.lt (dataL_lt _ _ _)
            have HR5 := Lib.hid (HR4.out.more hg5)
            have hc5 := hg5.cell hcg (by simp)
            have HW := Lib.hid (fail_write_ok HR5.out.lay HR5.out.st (by omega) (by omega) (by omega) A c (j : Nat) hdat hc HR5.out.grown.size)
            clear ho5 hdat h0 h1 h2 h3 h4 h5 h6
            go_wp2_with fail
            refine HW.out.mono ?_
            rintro e w6 ⟨S6, f6, own6, rfl, hl6, hs6, hn6, ht6⟩
            have HR6 := Lib.hid (HR5.out.turn hl6 hs6 ht6)
            have HN6 := Lib.hid hn6
            have hg5s := hg5.size
            have hc6 : w6.cell? ⟨g, 0, none⟩ = _ := (World.cell?_of_block (a := ⟨g, 0, none⟩) (ht6.block g (by omega) hgo)).trans hc5
            have hgo6 : ¬ own6 g := fun ho => by rcases ht6.fresh g ho with h | h; exact hgo h; omega
            have HF := Lib.hid (fail_flush_ok HR6.out.lay HR6.out.st (by omega))
            have hs6 := ht6.size
            clear hl6 hn6 ht6 HW
            go_wp2_with fail
            refine HF.out.mono ?_
            rintro e w7 ⟨S7, f7, rfl, hl7, hs7, hn7, ht7⟩
            have HR7 := Lib.hid (HR6.out.turn hl7 hs7 ht7)
            have HN7 := Lib.hid hn7
            have hc7 : w7.cell? ⟨g, 0, none⟩ = _ := (World.cell?_of_block (a := ⟨g, 0, none⟩) (ht7.block g (by omega) hgo6)).trans hc6
            clear hc6 hc5 hcg hgo hgo6 hgs hgl hg5s hs6
            clear hg5 hl7 hs7 hn7 ht7 HF
            go_wp2_with fail
            go_roundw
            case rel => exact ⟨j + 1, _, S7, _, _, by omega, by omega, by go_num, HR7.out, fun _ _ => by rw [HN7.out, HN6.out]; congr 1 <;> omega⟩
            case measure => simp [Go.RowKit.intOf] <;> omega
        · by_cases hjm : j = m
          · skip
            subst hjm
            have HRF := Lib.hid (HR.out.refill (j : Nat))
            have HRD := Lib.hid (fail_read_ok HRF.out.lay HRF.out.st (by omega))
            go_wp2_with fail
            refine HRD.out.mono ?_
            rintro e w4 ⟨g, cap, S4, rfl, hgs, hcg, hgo, hl4, hs4, hn4, ht4⟩
            have hbyte := last_byte (HLAST.out (by omega) (by omega)) (by omega)
            rw [hbyte] at hcg
            have hgl := (block_lt_of_cell hcg : g < w4.heap.size)
            have HR4 := Lib.hid (HRF.out.turn hl4 hs4 ht4)
            have hb := HR4.out.box
            have h0 := hb.cell 0; have h1 := hb.cell 1; have h2 := hb.cell 2; have h3 := hb.cell 3; have h4 := hb.cell 4; have h5 := hb.cell 5; have h6 := hb.cell 6
            have HN4 := Lib.hid hn4
            clear hb hl4 hs4 hn4 ht4 HRD
            go_wp2_with fail
            refine (data_one 0 0 (j : Nat) false (.slice none 0 0) _).mono ?_
            rintro e w5 ⟨v, rfl, ho5, hg5⟩
            obtain ⟨A, c, rfl, hc, _, hdat⟩ := data_of_own ho5 (own := own') HR4.out.lay.lt (dataL_lt _ _ _)
            have HR5 := Lib.hid (HR4.out.more hg5)
            have hc5 := hg5.cell hcg (by simp)
            have HW := Lib.hid (fail_write_ok HR5.out.lay HR5.out.st (by omega) (by omega) (by omega) A c (j : Nat) hdat hc HR5.out.grown.size)
            clear ho5 hdat h0 h1 h2 h3 h4 h5 h6
            go_wp2_with fail
            refine HW.out.mono ?_
            rintro e w6 ⟨S6, f6, own6, rfl, hl6, hs6, hn6, ht6⟩
            have HR6 := Lib.hid (HR5.out.turn hl6 hs6 ht6)
            have HN6 := Lib.hid hn6
            have hg5s := hg5.size
            have hc6 : w6.cell? ⟨g, 0, none⟩ = _ := (World.cell?_of_block (a := ⟨g, 0, none⟩) (ht6.block g (by omega) hgo)).trans hc5
            have hgo6 : ¬ own6 g := fun ho => by rcases ht6.fresh g ho with h | h; exact hgo h; omega
            have HF := Lib.hid (fail_flush_no HR6.out.lay HR6.out.st)
            have hs6 := ht6.size
            clear hl6 hn6 ht6 HW
            go_wp2_with fail
            refine HF.out.mono ?_
            rintro e w7 ⟨S7, rfl, hl7, hs7, hn7, ht7⟩
            have HR7 := Lib.hid (HR6.out.turn hl7 hs7 ht7)
            have HN7 := Lib.hid hn7
            have hc7 : w7.cell? ⟨g, 0, none⟩ = _ := (World.cell?_of_block (a := ⟨g, 0, none⟩) (ht7.block g (by omega) hgo6)).trans hc6
            clear hc6 hc5 hcg hgo hgo6 hgs hgl hg5s hs6
            clear hg5 hl7 hs7 hn7 ht7 HF
            have hnm : ((j : Int) != (j : Int) - 1) = true := by simp; omega
            have hj2 : decide ((1 : Int) < (j : Int)) = true := decide_eq_true (by omega)
            have hwj : IntKind.i64.wrap ((j : Int) - 1) = (j : Int) - 1 := IntWalk.i64_in _ (by omega)
            have hmod : ((j : Int) - 1) % 256 = (j : Int) - 1 := by omega
            go_wp2_with fail
            go_roundw
            case rel => exact ⟨j + 1, _, S7, _, _, by omega, by omega, by go_num, HR7.out, fun _ _ => by rw [HN7.out, HN6.out]; congr 1 <;> omega⟩
            case measure => simp [Go.RowKit.intOf] <;> omega
          · by_cases hjp : j - 1 = m
            · skip
              have hne : ((j : Int) == (m : Int)) = false := by simp; omega
              have HRF := Lib.hid (HR.out.refill (j : Nat))
              have HRD := Lib.hid (fail_read_ok HRF.out.lay HRF.out.st (by omega))
              go_wp2_with fail
              refine HRD.out.mono ?_
              rintro e w4 ⟨g, cap, S4, rfl, hgs, hcg, hgo, hl4, hs4, hn4, ht4⟩
              have hgl := (block_lt_of_cell hcg : g < w4.heap.size)
              have HR4 := Lib.hid (HRF.out.turn hl4 hs4 ht4)
              have hb := HR4.out.box
              have h0 := hb.cell 0; have h1 := hb.cell 1; have h2 := hb.cell 2; have h3 := hb.cell 3; have h4 := hb.cell 4; have h5 := hb.cell 5; have h6 := hb.cell 6
              have HN4 := Lib.hid hn4
              clear hb hl4 hs4 hn4 ht4 HRD
              go_wp2_with fail
              refine (data_one 0 0 (j : Nat) false (.slice none 0 0) _).mono ?_
              rintro e w5 ⟨v, rfl, ho5, hg5⟩
              obtain ⟨A, c, rfl, hc, _, hdat⟩ := data_of_own ho5 (own := own') HR4.out.lay.lt (dataL_lt _ _ _)
              have HR5 := Lib.hid (HR4.out.more hg5)
              have hc5 := hg5.cell hcg (by simp)
              have HW := Lib.hid (fail_write_ok HR5.out.lay HR5.out.st (by omega) (by omega) (by omega) A c (j : Nat) hdat hc HR5.out.grown.size)
              clear ho5 hdat h0 h1 h2 h3 h4 h5 h6
              go_wp2_with fail
              refine HW.out.mono ?_
              rintro e w6 ⟨S6, f6, own6, rfl, hl6, hs6, hn6, ht6⟩
              have HR6 := Lib.hid (HR5.out.turn hl6 hs6 ht6)
              have HN6 := Lib.hid hn6
              have hg5s := hg5.size
              have hc6 : w6.cell? ⟨g, 0, none⟩ = _ := (World.cell?_of_block (a := ⟨g, 0, none⟩) (ht6.block g (by omega) hgo)).trans hc5
              have hgo6 : ¬ own6 g := fun ho => by rcases ht6.fresh g ho with h | h; exact hgo h; omega
              have HF := Lib.hid (fail_flush_ok HR6.out.lay HR6.out.st (by omega))
              have hs6 := ht6.size
              clear hl6 hn6 ht6 HW
              go_wp2_with fail
              refine HF.out.mono ?_
              rintro e w7 ⟨S7, f7, rfl, hl7, hs7, hn7, ht7⟩
              have HR7 := Lib.hid (HR6.out.turn hl7 hs7 ht7)
              have HN7 := Lib.hid hn7
              have hc7 : w7.cell? ⟨g, 0, none⟩ = _ := (World.cell?_of_block (a := ⟨g, 0, none⟩) (ht7.block g (by omega) hgo6)).trans hc6
              clear hc6 hc5 hcg hgo hgo6 hgs hgl hg5s hs6
              clear hg5 hl7 hs7 hn7 ht7 HF
              have hnm : ((m : Int) != (j : Int) - 1) = false := by simp; omega
              have hj2 : decide ((1 : Int) < (j : Int)) = true := decide_eq_true (by omega)
              have hwj : IntKind.i64.wrap ((j : Int) - 1) = (j : Int) - 1 := IntWalk.i64_in _ (by omega)
              have hmod : ((j : Int) - 1) % 256 = (j : Int) - 1 := by omega
              go_wp2_with fail
              go_roundw
              case rel => exact ⟨j + 1, _, S7, _, _, by omega, by omega, by go_num, HR7.out, fun _ _ => by rw [HN7.out, HN6.out]; congr 1 <;> omega⟩
              case measure => simp [Go.RowKit.intOf] <;> omega
            · skip
              have hne : ((j : Int) == (m : Int)) = false := by simp; omega
              have HRF := Lib.hid (HR.out.refill (j : Nat))
              have HRD := Lib.hid (fail_read_ok HRF.out.lay HRF.out.st (by omega))
              go_wp2_with fail
              refine HRD.out.mono ?_
              rintro e w4 ⟨g, cap, S4, rfl, hgs, hcg, hgo, hl4, hs4, hn4, ht4⟩
              have hbyte := last_byte (HLAST.out (by omega) (by omega)) (by omega)
              rw [hbyte] at hcg
              have hgl := (block_lt_of_cell hcg : g < w4.heap.size)
              have HR4 := Lib.hid (HRF.out.turn hl4 hs4 ht4)
              have hb := HR4.out.box
              have h0 := hb.cell 0; have h1 := hb.cell 1; have h2 := hb.cell 2; have h3 := hb.cell 3; have h4 := hb.cell 4; have h5 := hb.cell 5; have h6 := hb.cell 6
              have HN4 := Lib.hid hn4
              clear hb hl4 hs4 hn4 ht4 HRD
              go_wp2_with fail
              refine (data_one 0 0 (j : Nat) false (.slice none 0 0) _).mono ?_
              rintro e w5 ⟨v, rfl, ho5, hg5⟩
              obtain ⟨A, c, rfl, hc, _, hdat⟩ := data_of_own ho5 (own := own') HR4.out.lay.lt (dataL_lt _ _ _)
              have HR5 := Lib.hid (HR4.out.more hg5)
              have hc5 := hg5.cell hcg (by simp)
              have HW := Lib.hid (fail_write_ok HR5.out.lay HR5.out.st (by omega) (by omega) (by omega) A c (j : Nat) hdat hc HR5.out.grown.size)
              clear ho5 hdat h0 h1 h2 h3 h4 h5 h6
              go_wp2_with fail
              refine HW.out.mono ?_
              rintro e w6 ⟨S6, f6, own6, rfl, hl6, hs6, hn6, ht6⟩
              have HR6 := Lib.hid (HR5.out.turn hl6 hs6 ht6)
              have HN6 := Lib.hid hn6
              have hg5s := hg5.size
              have hc6 : w6.cell? ⟨g, 0, none⟩ = _ := (World.cell?_of_block (a := ⟨g, 0, none⟩) (ht6.block g (by omega) hgo)).trans hc5
              have hgo6 : ¬ own6 g := fun ho => by rcases ht6.fresh g ho with h | h; exact hgo h; omega
              have HF := Lib.hid (fail_flush_ok HR6.out.lay HR6.out.st (by omega))
              have hs6 := ht6.size
              clear hl6 hn6 ht6 HW
              go_wp2_with fail
              refine HF.out.mono ?_
              rintro e w7 ⟨S7, f7, rfl, hl7, hs7, hn7, ht7⟩
              have HR7 := Lib.hid (HR6.out.turn hl7 hs7 ht7)
              have HN7 := Lib.hid hn7
              have hc7 : w7.cell? ⟨g, 0, none⟩ = _ := (World.cell?_of_block (a := ⟨g, 0, none⟩) (ht7.block g (by omega) hgo6)).trans hc6
              clear hc6 hc5 hcg hgo hgo6 hgs hgl hg5s hs6
              clear hg5 hl7 hs7 hn7 ht7 HF
              have hnm : ((m : Int) != (j : Int) - 1) = true := by simp; omega
              have hj2 : decide ((1 : Int) < (j : Int)) = true := decide_eq_true (by omega)
              have hwj : IntKind.i64.wrap ((j : Int) - 1) = (j : Int) - 1 := IntWalk.i64_in _ (by omega)
              have hmod : ((j : Int) - 1) % 256 = (j : Int) - 1 := by omega
              go_wp2_with fail
              go_roundw
              case rel => exact ⟨j + 1, _, S7, _, _, by omega, by omega, by go_num, HR7.out, fun _ _ => by rw [HN7.out, HN6.out]; congr 1 <;> omega⟩
              case measure => simp [Go.RowKit.intOf] <;> omega
      · obtain rfl : j = 31 := by omega
        go_wp2
        go_ret
        exact ⟨rfl, ⟨HR.out.grown.os, HR.out.grown.tape, HR.out.grown.output, HR.out.grown.size, fun k hk => HR.out.grown.block k hk (by simp)⟩⟩
end Go.Proofs.Ytkfijgdbaihhpaa.DiskFails
