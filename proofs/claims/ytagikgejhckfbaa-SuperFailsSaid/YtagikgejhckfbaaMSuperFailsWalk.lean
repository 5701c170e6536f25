/- The walk over the law SuperFails. -/
import Derived.Test.YtagikgejhckfbaaMSupKnown
import Derived.Test.YtagikgejhckfbaaMOpenOps
import Derived.Test.YtagikgejhckfbaaMOpen
namespace Go.Proofs.Ytagikgejhckfbaa.Sup
open Go.RowKit CrcMath CodecMath Mem Crc Codec DiskSpec Dsk
theorem fail_s {w : World} {B b tb : Nat} {S : St} {own : Nat → Prop} (h : SAt w B b tb S own) (kind n : Int) :
    Calls Try.prog 16 #[.pointer (some ⟨b, 0, none⟩), .int .i64 kind, .int .i64 n] w fun e w' => e = .returned (.int .i64 (failE S kind n).1) ∧ SAt w' B b tb (failE S kind n).2 own ∧ Turn w w' (With own tb) (With own tb) :=
  (disk_fail_all h.d kind n).mono fun _ _ ⟨h1, h2, h3⟩ => ⟨h1, h.disk h2 h3, turn_with h3 tb⟩
theorem crash_s {w : World} {B b tb : Nat} {S : St} {own : Nat → Prop} (h : SAt w B b tb S own) (A : Option Addr) (n cc : Nat) (picks : List Int) (hp : Picks w own A n picks) (hnm : n ≤ 9223372036854775807) (hroom : ∀ i, (S.ver i).length < 549755813888) :
    Calls Try.prog 12 #[.pointer (some ⟨b, 0, none⟩), .slice A n cc] w fun e w' => e = .returned (.tuple #[]) ∧ SAt w' B b tb (S.crash picks) own ∧ Turn w w' (With own tb) (With own tb) :=
  (disk_crash_all h.d A n cc picks hp hnm hroom).mono fun _ _ ⟨h1, h2, h3⟩ => ⟨h1, h.disk h2 h3, turn_with h3 tb⟩
theorem Kn.low {w wx : World} {B b tb : Nat} {S : St} {own : Nat → Prop} (h : Kn w wx B b tb S own) : ∀ i, own i → w.heap.size ≤ i := fun _ hi => Nat.le_trans h.b (h.s.low hi)
theorem Kn.below {w wx : World} {B b tb : Nat} {S : St} {own : Nat → Prop} (h : Kn w wx B b tb S own) : Below w.heap.size w wx := below_of_grown h.g (Nat.le_refl _) (fun _ e => by cases e)
/-- A superblock is saved, or refused: a plain disk stays plain. -/
theorem save_any_plain {w : World} {B b tb n : Nat} {dur : Nat → List Nat} {own : Nat → Prop} (h : SAt w B b tb (plain n dur) own) (a0 a1 a2 a3 a4 a5 a6 : Int) :
    Calls Try.prog 11 #[.pointer (some ⟨b, 0, none⟩), .pointer (some ⟨tb, 0, none⟩), .agg #[.int .i64 a0, .int .i64 a1, .int .i64 a2, .int .i64 a3, .int .i64 a4, .int .i64 a5, .int .i64 a6]] w fun e w' =>
      ∃ ee dur' own', e = .returned (.int .i64 ee) ∧ SAt w' B b tb (plain n dur') own' ∧ Turn w w' (With own tb) (With own' tb) := by
  cases hm : mayB [a0, a1, a2, a3, a4, a5, a6] n with
  | true => exact (save_plain h a0 a1 a2 a3 a4 a5 a6 hm).mono fun _ _ ⟨h1, own', h2, h3⟩ => ⟨_, _, own', h1, h2, h3⟩
  | false => exact (save_plain_no h a0 a1 a2 a3 a4 a5 a6 hm).mono fun _ _ ⟨h1, own', h2, h3⟩ => ⟨_, _, own', h1, h2, h3⟩
/-- A save that is to fail. -/
theorem save_failing {n : Nat} {dur : Nat → List Nat} (s : List Int) (hl : s.length = 7) : ∃ f2, saveE { plain n dur with f2 := 1 } s = ((saveE { plain n dur with f2 := 1 } s).1, { plain n dur with f2 := f2 }) ∧ (saveE { plain n dur with f2 := 1 } s).1 ≠ 0 := by
  unfold saveE
  cases hm : mayB s (({ plain n dur with f2 := 1 } : St).n : Int) with
  | false => exact ⟨1, rfl, by simp⟩
  | true =>
    have hg := may_gen hl hm
    obtain ⟨hp, hp2⟩ := place_is hg.1
    have hn : (2 : Int) ≤ (n : Nat) := may_n hl hm
    have hlen := superW_len hl (superW_may hm)
    rw [if_pos rfl, hp]
    have hw : writeE { plain n dur with f2 := 1 } true (placeOf s) (frame (superB s)) = (11, { plain n dur with f2 := 0 }) := by
      unfold writeE
      rw [if_neg (by omega), hlen, if_neg (by simp [St.has, plain]; omega), if_pos (.inl rfl)]
      rfl
    rw [hw]
    exact ⟨0, rfl, by simp⟩
theorem best_list (n : Nat) (dur : Nat → List Nat) : ∃ p0 p1 p2 p3 p4 p5 p6, (bestP n dur).getD zero7' = [p0, p1, p2, p3, p4, p5, p6] := by
  unfold bestP
  rw [← seen_two]
  cases hs : seen n (dur 0) (dur 1) 2 with
  | none => exact ⟨0, 0, 0, 0, 0, 0, 0, rfl⟩
  | some s =>
    obtain ⟨p0, p1, p2, p3, p4, p5, p6, rfl⟩ := list7 (seen_len _ _ _ 2 s hs)
    exact ⟨p0, p1, p2, p3, p4, p5, p6, rfl⟩
end Go.Proofs.Ytagikgejhckfbaa.Sup
namespace Go.Proofs.Ytagikgejhckfbaa.SuperFails
open Go.ChangeShapes Go.WideShapes Go.ChangeAt Go.RowKit
open Crc CrcMath Mem CodecMath Codec DiskSpec Dsk Sup
set_option maxRecDepth 100000 in
set_option maxHeartbeats 3200000 in
theorem walk {H : Type} {enc : TypeId × Value → H} (W : World) (base : Nat) (v0 v1 v2 : Value) (d0 d1 d2 : DataW H) (p0 p1 p2 : List MemPlace)
    (o0 : Value.okWide Try.prog W .any base 28 v0)
    (o1 : Value.okWide Try.prog W .any base 23 v1)
    (o2 : Value.okWide Try.prog W .any base 29 v2)
    (h0 : DataW.Trod enc Try.prog W 0 (fun _ => true) true 28 v0 d0 p0)
    (h1 : DataW.Trod enc Try.prog W 0 (fun _ => true) true 23 v1 d1 p1)
    (h2 : DataW.Trod enc Try.prog W 0 (fun _ => true) true 29 v2 d2 p2)
    (_hsz : (DataW.weightsEach Try.prog [28, 23, 29] [d0, d1, d2]).all (· ≤ reachBytes) = true) :
    Calls Try.prog 5 #[v0, v1, v2] W fun e W' => e = .returned (.bool true) ∧ Below W.heap.size W W' := by
  obtain ⟨A, n, c, rfl, hsu, hnc, hcm, _⟩ := open_supers o0 h0
  obtain ⟨a0, a1, a2, a3, a4, a5, a6, rfl⟩ := open_super o1 h1
  obtain ⟨A2, n2, c2, picks, rfl, hpi, hnc2, hcm2⟩ := open_picks o2 h2
  have HSU := Lib.hid hsu; have HPI := Lib.hid hpi
  have hn2 : n2 ≤ 9223372036854775807 := by unfold maxLen at hcm2; omega
  have hnm : n ≤ 9223372036854775807 := by unfold maxLen at hcm; omega
  clear o0 h0 o1 h1 o2 h2 hsu hpi hnc2 hcm2 hnc hcm
  have hT : Tab ((W.alloc (.cells #[.int .i64 a0, .int .i64 a1, .int .i64 a2, .int .i64 a3, .int .i64 a4, .int .i64 a5, .int .i64 a6] 23)).alloc (.cells zeroCs 62)) (W.heap.size + 1) := .inl ⟨_, by simpa using Blk.new (W.alloc (.cells #[.int .i64 a0, .int .i64 a1, .int .i64 a2, .int .i64 a3, .int .i64 a4, .int .i64 a5, .int .i64 a6] 23)) 62 zeroCs, fresh_zero⟩
  have HT := Lib.hid hT
  have HG0 := Lib.hid ((World.grownBy_alloc W (.cells #[.int .i64 a0, .int .i64 a1, .int .i64 a2, .int .i64 a3, .int .i64 a4, .int .i64 a5, .int .i64 a6] 23) none).trans (World.grownBy_alloc _ (.cells zeroCs 62) none))
  have HBX := Lib.hid ((Blk.new W 23 #[.int .i64 a0, .int .i64 a1, .int .i64 a2, .int .i64 a3, .int .i64 a4, .int .i64 a5, .int .i64 a6]).alloc (.cells zeroCs 62))
  clear hT
  go_enter Try.func5, Try.ntmps5
  go_wp2_with fail
  refine (new_any _).mono ?_
  rintro e w1 ⟨rfl, rfl⟩
  rw [World.size_alloc]
  have HN := Lib.hid (show Calls Try.prog 10 #[.int .i64 150] ((W.alloc (.cells #[.int .i64 a0, .int .i64 a1, .int .i64 a2, .int .i64 a3, .int .i64 a4, .int .i64 a5, .int .i64 a6] 23)).alloc (.cells zeroCs 62)) fun e w' => ∃ b bd bm f own, e = .returned (.tuple #[.pointer (some ⟨b, 0, none⟩), .int .i64 0]) ∧ Lay w' ((W.alloc (.cells #[.int .i64 a0, .int .i64 a1, .int .i64 a2, .int .i64 a3, .int .i64 a4, .int .i64 a5, .int .i64 a6] 23)).alloc (.cells zeroCs 62)).heap.size b bd bm f (St.new 150) own ∧ ((W.alloc (.cells #[.int .i64 a0, .int .i64 a1, .int .i64 a2, .int .i64 a3, .int .i64 a4, .int .i64 a5, .int .i64 a6] 23)).alloc (.cells zeroCs 62)).grownBy w' none from disk_new 150 _ (by omega) (by omega))
  go_wp2_with fail
  refine HN.out.mono ?_
  rintro e w2 ⟨b, bd, bm, f, own, rfl, hl, hg2⟩
  have HK2 := Lib.hid (show Kn W w2 ((W.alloc (.cells #[.int .i64 a0, .int .i64 a1, .int .i64 a2, .int .i64 a3, .int .i64 a4, .int .i64 a5, .int .i64 a6] 23)).alloc (.cells zeroCs 62)).heap.size b (W.heap.size + 1) (plain 150 fun _ => DiskSpec.zeros) own from ⟨sat_new HT.out hl hg2, HG0.out.trans hg2, by omega, by simp; omega⟩)
  have HB2 := Lib.hid (HBX.out.grown hg2 (by simp))
  have HO2 := Lib.hid (show ¬ With own (W.heap.size + 1) W.heap.size from fun h => by
    rcases h with h | h
    · have := hl.low _ h; simp at this; omega
    · omega)
  clear hl hg2 HN HT HG0 HBX
  generalize ((W.alloc (.cells #[.int .i64 a0, .int .i64 a1, .int .i64 a2, .int .i64 a3, .int .i64 a4, .int .i64 a5, .int .i64 a6] 23)).alloc (.cells zeroCs 62)).heap.size = B at *
  generalize htb : W.heap.size + 1 = tb at *
  clear htb
  go_wp2_with fail
  refine (known_any _).mono ?_
  rintro e w3 ⟨rfl, hg⟩
  have HK3 := Lib.hid (HK2.out.quiet hg); have HB3 := Lib.hid (HB2.out.grown hg (by simp))
  clear hg HK2 HB2
  go_wp2_with fail
  go_loopw [10] (fun i wr => ∃ (j : Nat) (dur : Nat → List Nat) (own' : Nat → Prop), j ≤ n ∧ i = .int .i64 j ∧ Kn W wr B b tb (plain 150 dur) own' ∧ Blk wr W.heap.size 23 #[.int .i64 a0, .int .i64 a1, .int .i64 a2, .int .i64 a3, .int .i64 a4, .int .i64 a5, .int .i64 a6] ∧ ¬ With own' tb W.heap.size) (fun i _ => n - (Go.RowKit.intOf i).toNat)
  case atStart => exact ⟨0, _, _, Nat.zero_le _, rfl, HK3.out, HB3.out, HO2.out⟩
  case round =>
    clear HK3 HB3 HO2
    obtain ⟨j, dur, own1, hj, rfl, hk, hb, ho⟩ := hrel
    have HK := Lib.hid hk; have HB := Lib.hid hb; have HO := Lib.hid ho
    clear hk ho
    by_cases hlt : j < n
    · obtain ⟨g, off, rfl, _, u0, u1, u2, u3, u4, u5, u6, e0, e1, e2, e3, e4, e5, e6⟩ := HSU.out.at_ HK.out.below hlt
      have hjn : (j : Int) < (n : Int) := by omega
      clear hb
      go_wp2_with fail
      refine (save_any_plain HK.out.s u0 u1 u2 u3 u4 u5 u6).mono ?_
      rintro e w4 ⟨ee, dur', own2, rfl, hs, ht⟩
      obtain ⟨hb4, ho4⟩ := blk_with HB.out HO.out ht
      have HK4 := Lib.hid (HK.out.turn hs ht); have HB4 := Lib.hid hb4; have HO4 := Lib.hid ho4
      clear hs ht hb4 ho4 e0 e1 e2 e3 e4 e5 e6
      go_wp2_with fail
      go_roundw
      case rel => exact ⟨j + 1, dur', own2, by omega, by go_num, HK4.out, HB4.out, HO4.out⟩
      case measure => simp [Go.RowKit.intOf]; omega
    · obtain rfl : j = n := by omega
      clear hb
      have HLD := Lib.hid (fun wx (ow : Nat → Prop) (h : SAt wx B b tb (plain 150 dur) ow) => load_plain h (by omega))
      obtain ⟨p0, p1, p2, p3, p4, p5, p6, hbest⟩ := best_list 150 dur
      rw [hbest] at HLD
      clear hbest
      generalize (if (bestP 150 dur).isSome = true then (0 : Int) else 14) = ee at *
      go_wp2_with fail
      refine (HLD.out _ _ HK.out.s).mono ?_
      rintro e w4 ⟨rfl, hs, ht⟩
      rw [show supV [p0, p1, p2, p3, p4, p5, p6] = .agg #[.int .i64 p0, .int .i64 p1, .int .i64 p2, .int .i64 p3, .int .i64 p4, .int .i64 p5, .int .i64 p6] from rfl]
      obtain ⟨hb4, ho4⟩ := blk_with HB.out HO.out ht
      have hga := World.grownBy_alloc w4 (.cells #[.int .i64 p0, .int .i64 p1, .int .i64 p2, .int .i64 p3, .int .i64 p4, .int .i64 p5, .int .i64 p6] 23) none
      have HP := Lib.hid (Blk.new w4 23 #[.int .i64 p0, .int .i64 p1, .int .i64 p2, .int .i64 p3, .int .i64 p4, .int .i64 p5, .int .i64 p6])
      have hk4 := HK.out.turn hs ht
      have HOP := Lib.hid (hk4.out (Nat.le_refl _))
      have HK4 := Lib.hid (hk4.quiet hga); have HB4 := Lib.hid (hb4.grown hga (by simp)); have HO4 := Lib.hid ho4
      clear hs ht hb4 ho4 hga hk4 HK HB HO
      have HF := Lib.hid (fail_s HK4.out.s 2 1)
      rw [show failE (plain 150 dur) 2 1 = (0, { plain 150 dur with f2 := 1 }) from rfl] at HF
      go_wp2_with fail
      refine HF.out.mono ?_
      rintro e w5 ⟨rfl, hs, ht⟩
      obtain ⟨hb5, ho5⟩ := blk_with HB4.out HO4.out ht
      obtain ⟨hp5, hop5⟩ := blk_with HP.out HOP.out ht
      have HK5 := Lib.hid (HK4.out.turn hs ht); have HB5 := Lib.hid hb5; have HO5 := Lib.hid ho5; have HP5 := Lib.hid hp5; have HOP5 := Lib.hid hop5
      clear hs ht hb5 ho5 hp5 hop5 HK4 HB4 HO4 HP HOP HF
      have x0 := HB5.out.cell 0; have x1 := HB5.out.cell 1; have x2 := HB5.out.cell 2; have x3 := HB5.out.cell 3; have x4 := HB5.out.cell 4; have x5 := HB5.out.cell 5; have x6 := HB5.out.cell 6
      simp only [List.getElem?_toArray, List.getElem?_cons_zero, List.getElem?_cons_succ] at x0 x1 x2 x3 x4 x5 x6
      have hsv := save_any HK5.out.s a0 a1 a2 a3 a4 a5 a6 (fun i => by show ([] : List (List Nat)).length < _; simp)
      obtain ⟨f2, hsf, hne⟩ := save_failing (n := 150) (dur := dur) [a0, a1, a2, a3, a4, a5, a6] rfl
      rw [hsf] at hsv
      have HSV := Lib.hid hsv
      have hne' : ¬ (saveE { plain 150 dur with f2 := 1 } [a0, a1, a2, a3, a4, a5, a6]).1 = 0 := hne
      clear hsv hsf hne
      generalize (saveE { plain 150 dur with f2 := 1 } [a0, a1, a2, a3, a4, a5, a6]).1 = sv at *
      go_wp2_with fail
      refine HSV.out.mono ?_
      rintro e w6 ⟨rfl, own6, hs, ht⟩
      obtain ⟨hb6, ho6⟩ := blk_with HB5.out HO5.out ht
      obtain ⟨hp6, hop6⟩ := blk_with HP5.out HOP5.out ht
      have HK6 := Lib.hid (HK5.out.turn hs ht); have HP6 := Lib.hid hp6; have HOP6 := Lib.hid hop6
      clear hs ht hb6 ho6 hp6 hop6 HK5 HB5 HO5 HP5 HOP5 HSV x0 x1 x2 x3 x4 x5 x6
      have hcr := crash_s HK6.out.s A2 n2 c2 picks (HPI.out.picks HK6.out.below HK6.out.low) hn2 (fun i => by show ([] : List (List Nat)).length < _; simp)
      rw [show ({ plain 150 dur with f2 := f2 } : St).crash picks = plain 150 dur from plain_crash 150 dur 0 f2 0 (-1) picks] at hcr
      have HCR := Lib.hid hcr
      clear hcr
      go_wp2_with fail
      refine HCR.out.mono ?_
      rintro e w7 ⟨rfl, hs, ht⟩
      obtain ⟨hp7, hop7⟩ := blk_with HP6.out HOP6.out ht
      have HK7 := Lib.hid (HK6.out.turn hs ht); have HP7 := Lib.hid hp7; have HOP7 := Lib.hid hop7
      clear hs ht hp7 hop7 HK6 HP6 HOP6 HCR hne'
      go_wp2_with fail
      refine (HLD.out _ _ HK7.out.s).mono ?_
      rintro e w8 ⟨rfl, hs, ht⟩
      rw [show supV [p0, p1, p2, p3, p4, p5, p6] = .agg #[.int .i64 p0, .int .i64 p1, .int .i64 p2, .int .i64 p3, .int .i64 p4, .int .i64 p5, .int .i64 p6] from rfl]
      obtain ⟨hp8, _⟩ := blk_with HP7.out HOP7.out ht
      have hga := World.grownBy_alloc w8 (.cells #[.int .i64 p0, .int .i64 p1, .int .i64 p2, .int .i64 p3, .int .i64 p4, .int .i64 p5, .int .i64 p6] 23) none
      have HK8 := Lib.hid ((HK7.out.turn hs ht).quiet hga)
      have hp9 := hp8.grown hga (by simp)
      have hq9 := Blk.new w8 23 #[.int .i64 p0, .int .i64 p1, .int .i64 p2, .int .i64 p3, .int .i64 p4, .int .i64 p5, .int .i64 p6]
      have x0 := hp9.cell 0; have x1 := hp9.cell 1; have x2 := hp9.cell 2; have x3 := hp9.cell 3; have x4 := hp9.cell 4; have x5 := hp9.cell 5; have x6 := hp9.cell 6
      simp only [List.getElem?_toArray, List.getElem?_cons_zero, List.getElem?_cons_succ] at x0 x1 x2 x3 x4 x5 x6
      have y0 := hq9.cell 0; have y1 := hq9.cell 1; have y2 := hq9.cell 2; have y3 := hq9.cell 3; have y4 := hq9.cell 4; have y5 := hq9.cell 5; have y6 := hq9.cell 6
      simp only [List.getElem?_toArray, List.getElem?_cons_zero, List.getElem?_cons_succ] at y0 y1 y2 y3 y4 y5 y6
      clear hs ht hp8 hga hp9 hq9 HK7 HP7 HOP7
      go_wp2
      go_ret
      exact ⟨rfl, HK8.out.below⟩
end Go.Proofs.Ytagikgejhckfbaa.SuperFails
