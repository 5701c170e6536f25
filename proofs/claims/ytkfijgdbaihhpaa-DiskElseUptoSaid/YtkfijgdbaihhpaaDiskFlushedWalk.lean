/- The walk over the law DiskFlushed, by the contracts of what it calls. -/
import Derived.Test.YtkfijgdbaihhpaaDoes3
import Derived.Test.YtkfijgdbaihhpaaOpenOps
namespace Go.Proofs.Ytkfijgdbaihhpaa.Dsk
open Go.RowKit Mem Crc DiskSpec

theorem step_n (S : St) (kind at_ count bytes fill : Int) (fua : Bool) (picks : List Int) : (stepE S kind at_ count bytes fill fua picks).n = S.n := by
  unfold stepE
  split
  · unfold readE; split
    · rfl
    · split <;> rfl
  split
  · unfold writeE; split
    · rfl
    · split
      · rfl
      · split
        · rfl
        · exact puts_n ({ S with f2 := S.f2 - 1 } : St) fua at_.toNat (dataL count bytes fill) _
  split
  · unfold flushE; split <;> rfl
  split
  · unfold failE; split
    · rfl
    · split
      · rfl
      · split
        · rfl
        · split <;> rfl
  split
  · unfold cutE; split <;> rfl
  split
  · rfl
  · rfl
theorem reads_same {S T : St} (h : ∀ i, S.now i = T.now i) (a : Nat) : ∀ c, S.reads a c = T.reads a c
  | 0 => rfl
  | c + 1 => by
    show S.reads a c ++ S.now (a + c) = T.reads a c ++ T.now (a + c)
    rw [reads_same h a c, h]
theorem has_eight {S : St} (hn : S.n = 8) : S.has 0 8 = true := by simp [St.has, hn]
theorem read_eight {S : St} (hn : S.n = 8) (hf : S.f1 ≠ 1) : readE S 0 8 = (0, { S with f1 := S.f1 - 1 }) ∧ readL S 0 8 = S.reads 0 8 := by
  unfold readE readL
  rw [has_eight hn]
  simp [hf]
theorem no_dirty {S : St} (h : ∀ k, S.ver k = []) : S.dirty = [] := by
  unfold St.dirty
  rw [List.filter_eq_nil_iff]
  intro k _
  simp [h k]
theorem crash_now {S : St} (h : ∀ k, S.ver k = []) (picks : List Int) (i : Nat) : (S.crash picks).now i = S.now i := by
  have e1 : (S.crash picks).now i = (S.crash picks).dur i := rfl
  rw [e1, St.now_nil (h i)]
  show pickOf (S.dur i) (S.ver i) _ = _
  rw [h i, pickOf_nil]
theorem RAt.weak {w : World} {B B' r : Nat} {S : St} {own : Nat → Prop} (h : RAt w B r S own) (hB : B' ≤ B) : RAt w B' r S own := by
  obtain ⟨bl, c, dv, vv, vs, h⟩ := h
  exact ⟨bl, c, dv, vv, vs, { h with low := fun i hi => Nat.le_trans hB (h.low i hi) }⟩
/-- Where the law stands in its script. -/
structure Played (W wr : World) (b r j : Nat) (S : St) (o1 o2 : Nat → Prop) : Prop where
  two : Two wr W.heap.size b r S o1 o2
  ver : ∀ k, (S.ver k).length ≤ j
  n : S.n = 8
  below : Below W.heap.size W wr
theorem Played.start {W w1 w2 w3 : World} {b r : Nat} {o1 o2 : Nat → Prop} (hd : DAt w1 W.heap.size b (St.new 8) o1) (h1 : W.grownBy w1 none) (h2 : w1.grownBy w2 none) (hr : RAt w3 w2.heap.size r (St.new 8) o2) (h3 : w2.grownBy w3 none) : Played W w3 b r 0 (St.new 8) o1 o2 where
  two := ⟨hd.far (Turn.none_ (own := fun _ => False) (h2.trans h3)) (fun _ _ e => e), hr.weak (Nat.le_trans h1.size h2.size), fun i hi ho => by have := hd.lt i hi; have := hr.least i ho; have := h2.size; omega, Nat.le_trans h1.size (Nat.le_trans h2.size h3.size)⟩
  ver := fun _ => Nat.le_refl _
  n := rfl
  below := (Below.refl _ W).grown ((h1.trans h2).trans h3) (Nat.le_refl _) (fun _ e => by cases e)
theorem Played.step {W wr w' : World} {b r j : Nat} {S : St} {o1 o2 o1' o2' : Nat → Prop} (h : Played W wr b r j S o1 o2) (kind at_ count bytes fill : Int) (fua : Bool) (picks : List Int)
    (h2 : Two w' W.heap.size b r (stepE S kind at_ count bytes fill fua picks) o1' o2') (ht : Turn wr w' (both o1 o2) (both o1' o2')) : Played W w' b r (j + 1) (stepE S kind at_ count bytes fill fua picks) o1' o2' where
  two := h2
  ver := fun k => step_len S kind at_ count bytes fill fua picks k j (h.ver k)
  n := by rw [step_n]; exact h.n
  below := h.below.trans (ht.below (fun i hi => by rcases hi with hi | hi; exact h.two.d.least i hi; exact h.two.r.least i hi) h.two.low)
theorem Played.does {W wr : World} {b r j : Nat} {S : St} {o1 o2 : Nat → Prop} (h : Played W wr b r j S o1 o2) (hj : j ≤ 1048576) (x : OpR) (hx : x.ok W) :
    Calls Try.prog 12 #[.pointer (some ⟨b, 0, none⟩), .pointer (some ⟨r, 0, none⟩), .agg #[.int .i64 x.kind, .int .i64 x.at_, .int .i64 x.count, .int .i64 x.bytes, .int .i64 x.fill, .bool x.fua, .slice x.A x.n x.c]] wr fun e w' => e = .returned (.bool true) ∧ ∃ S' o1' o2', Played W w' b r (j + 1) S' o1' o2' := by
  refine (does_any h.two x.kind x.at_ x.count x.bytes x.fill x.fua x.A x.n x.c x.picks hx.at_ hx.count (hx.picks.picks h.below h.two.d.least) (hx.picks.picks h.below h.two.r.least) (by have := hx.n; unfold maxLen at this; omega) (fun i => by have := h.ver i; omega)).mono ?_
  rintro e w' ⟨rfl, o1', o2', h1, h2⟩
  exact ⟨rfl, _, o1', o2', h.step _ _ _ _ _ _ _ h1 h2⟩
theorem Script.at_ {W wr : World} {A : Option Addr} {n : Nat} {ops : List OpR} (h : Script W A n ops) (hb : Below W.heap.size W wr) {j : Nat} (hj : j < n) : ∃ (x : OpR) (g off : Nat), x.ok W ∧ A = some ⟨g, off, none⟩ ∧
    wr.cell? ⟨g, off + j * 7, none⟩ = some (.int .i64 x.kind) ∧ wr.cell? ⟨g, off + j * 7 + 1, none⟩ = some (.int .i64 x.at_) ∧ wr.cell? ⟨g, off + j * 7 + 2, none⟩ = some (.int .i64 x.count) ∧ wr.cell? ⟨g, off + j * 7 + 3, none⟩ = some (.int .i64 x.bytes) ∧
    wr.cell? ⟨g, off + j * 7 + 4, none⟩ = some (.int .i64 x.fill) ∧ wr.cell? ⟨g, off + j * 7 + 5, none⟩ = some (.bool x.fua) ∧ wr.cell? ⟨g, off + j * 7 + 6, none⟩ = some (.slice x.A x.n x.c) := by
  obtain ⟨g, off, rfl, hlt, hc⟩ := h.2.2 (by omega)
  have hjl : j < ops.length := by rw [h.1]; exact hj
  have hx := List.getElem?_eq_getElem hjl
  have hk : ∀ q u, (ops[j]).cells[q]? = some u → wr.cell? ⟨g, off + j * 7 + q, none⟩ = some u := fun q u hq => by
    rw [World.cell?_of_block (a := ⟨g, off + j * 7 + q, none⟩) (hb.block g hlt)]; exact hc j _ hx q u hq
  exact ⟨ops[j], g, off, h.2.1 _ (List.getElem_mem hjl), rfl, hk 0 _ rfl, hk 1 _ rfl, hk 2 _ rfl, hk 3 _ rfl, hk 4 _ rfl, hk 5 _ rfl, hk 6 _ rfl⟩
end Go.Proofs.Ytkfijgdbaihhpaa.Dsk
namespace Go.Proofs.Ytkfijgdbaihhpaa.DiskFlushedUpto
open Go.ChangeShapes Go.WideShapes Go.ChangeAt Go.RowKit
open Mem Crc DiskSpec Dsk

set_option maxRecDepth 100000 in
set_option maxHeartbeats 6400000 in
theorem walk {H : Type} {enc : TypeId × Value → H} (W : World) (base : Nat) (v0 v1 : Value) (d0 d1 : DataW H) (p0 p1 : List MemPlace)
    (o0 : Value.okWide Try.prog W .any base 22 v0)
    (o1 : Value.okWide Try.prog W .any base 32 v1)
    (h0 : DataW.Trod enc Try.prog W 0 (fun _ => true) true 22 v0 d0 p0)
    (h1 : DataW.Trod enc Try.prog W 0 (fun _ => true) true 32 v1 d1 p1)
    (_ : (DataW.weightsEach Try.prog [22, 32] [d0, d1]).all (· ≤ reachBytes) = true) (hk : Rows.uptoSmall H [d0, d1] = true) :
    Calls Try.prog 8 #[v0, v1] W fun e W' => e = .returned (.bool true) ∧ Below W.heap.size W W' := by
  obtain ⟨A, n, c, ops, rfl, hops, _, hcm, hd0⟩ := open_script o0 h0
  obtain ⟨A2, n2, c2, picks, rfl, hpi, hnc2, hcm2⟩ := open_picks o1 h1
  have hn := bulk_len hk (List.mem_cons_self ..) hd0
  have hn2 : n2 ≤ 9223372036854775807 := by unfold maxLen at hcm2; omega
  have HOPS := Lib.hid hops; have HPI := Lib.hid hpi
  clear o0 h0 o1 h1 hk hd0 hops hpi hcm hnc2 hcm2
  have HN := Lib.hid (show Calls Try.prog 9 #[.int .i64 8] W fun e w' => ∃ b bd bm f own, e = .returned (.tuple #[.pointer (some ⟨b, 0, none⟩), .int .i64 0]) ∧ Lay w' W.heap.size b bd bm f (St.new 8) own ∧ W.grownBy w' none from disk_new 8 W (by omega) (by omega))
  go_enter Try.func8, Try.ntmps8
  go_wp2_with fail
  refine HN.out.mono ?_
  rintro e w1 ⟨b, bd, bm, f, own, rfl, hl1, hg1⟩
  have H1 := Lib.hid (show DAt w1 W.heap.size b (St.new 8) own from ⟨bd, bm, f, hl1⟩); have HG1 := Lib.hid hg1
  clear hl1 hg1 HN
  go_wp2_with fail
  refine (known_any w1).mono ?_
  rintro e w2 ⟨rfl, hg2⟩
  have HG2 := Lib.hid hg2
  have HRN := Lib.hid (show Calls Try.prog 10 #[.int .i64 8] w2 fun e w' => ∃ r bl c dv vv vs own, e = .returned (.tuple #[.pointer (some ⟨r, 0, none⟩), .int .i64 0]) ∧ RLay w' w2.heap.size r bl c dv vv vs (St.new 8) own ∧ w2.grownBy w' none from ref_new 8 w2 (by omega) (by omega))
  clear hg2
  go_wp2_with fail
  refine HRN.out.mono ?_
  rintro e w3 ⟨r, bl, cr, dv, vv, vs, ow2, rfl, hl3, hg3⟩
  have HP0 := Lib.hid (Played.start H1.out HG1.out HG2.out ⟨bl, cr, dv, vv, vs, hl3⟩ hg3)
  clear hl3 hg3 HRN H1 HG1 HG2
  go_wp2_with fail
  go_loopw [9] (fun i wr => ∃ (j : Nat) (S : St) (p1 p2 : Nat → Prop), j ≤ n ∧ i = .int .i64 j ∧ Played W wr b r j S p1 p2) (fun i _ => n - (Go.RowKit.intOf i).toNat)
  case atStart => exact ⟨0, _, _, _, Nat.zero_le _, rfl, HP0.out⟩
  case round =>
    obtain ⟨j, S, p1, p2, hj, rfl, hp⟩ := hrel
    have HP := Lib.hid hp; clear hp
    by_cases hlt : j < n
    · obtain ⟨x, g, off, hx, rfl, e0, e1, e2, e3, e4, e5, e6⟩ := HOPS.out.at_ HP.out.below hlt
      have HDO := Lib.hid (HP.out.does (by omega) x hx)
      clear hx
      have hjn : (j : Int) < (n : Int) := by omega
      go_wp2_with fail
      refine HDO.out.mono ?_
      rintro e w4 ⟨rfl, S', q1, q2, hp'⟩
      have HP' := Lib.hid hp'; clear hp'
      go_wp2_with fail
      go_roundw
      case rel => exact ⟨j + 1, S', q1, q2, by omega, by go_num, HP'.out⟩
      case measure => simp [Go.RowKit.intOf]; omega
    · obtain rfl : j = n := by omega
      have HFL := Lib.hid (disk_flush_all HP.out.two.d)
      have hSn := HP.out.n
      by_cases hs : S.f3 = 1 ∨ S.left = 0
      · have he : flushE S = (12, { S with f3 := S.f3 - 1 }) := by unfold flushE; rw [if_pos hs]
        rw [he] at HFL
        clear he hs hSn
        go_wp2_with fail
        refine HFL.out.mono ?_
        rintro e w5 ⟨rfl, hd5, ht5⟩
        have HB := Lib.hid (HP.out.below.trans (ht5.below HP.out.two.d.least HP.out.two.low))
        clear hd5 ht5
        go_wp2
        go_ret
        exact ⟨rfl, HB.out⟩
      · have he : flushE S = (0, ({ S with f3 := S.f3 - 1 } : St).flush.done) := by unfold flushE; rw [if_neg hs]
        rw [he] at HFL
        have hn1 : (({ S with f3 := S.f3 - 1 } : St).flush.done).n = 8 := hSn
        have hv1 : ∀ k, (({ S with f3 := S.f3 - 1 } : St).flush.done).ver k = [] := fun _ => rfl
        generalize ({ S with f3 := S.f3 - 1 } : St).flush.done = T at *
        have hf1 : failE T 1 1099511627776 = (0, { T with f1 := 1099511627776 }) := rfl
        have hr1 := read_eight (S := ({ T with f1 := 1099511627776 } : St)) hn1 (by show (1099511627776 : Nat) ≠ 1; omega)
        have hr2 := read_eight (S := ({ ({ T with f1 := 1099511627776 } : St) with f1 := 1099511627776 - 1 } : St).crash picks) hn1 (by show (0 : Nat) ≠ 1; omega)
        have hrl : readL (({ ({ T with f1 := 1099511627776 } : St) with f1 := 1099511627776 - 1 } : St).crash picks) 0 8 = readL ({ T with f1 := 1099511627776 } : St) 0 8 := by
          rw [hr1.2, hr2.2]
          exact reads_same (fun i => crash_now (S := ({ ({ T with f1 := 1099511627776 } : St) with f1 := 1099511627776 - 1 } : St)) hv1 picks i) 0 8
        have HPB := Lib.hid HP.out.below; have HTW := Lib.hid HP.out.two
        clear he hs hSn
        go_wp2_with fail
        refine HFL.out.mono ?_
        rintro e w5 ⟨rfl, hd5, ht5⟩
        have hB5 := HPB.out.trans (ht5.below HTW.out.d.least HTW.out.low)
        have HB5 := Lib.hid hB5
        have HFA := Lib.hid (disk_fail_all hd5 1 1099511627776)
        have HD5 := Lib.hid hd5
        rw [hf1] at HFA
        clear hd5 ht5 hB5 hf1
        go_wp2_with fail
        refine HFA.out.mono ?_
        rintro e w6 ⟨rfl, hd6, ht6⟩
        have HB6 := Lib.hid (HB5.out.trans (ht6.below HD5.out.least HB5.out.size))
        have hRD := disk_read_all hd6 0 8 (by omega) (by omega)
        have hok6 := hd6.ok
        have hln := readL_lt hok6 0 8
        have hle : (readL ({ T with f1 := 1099511627776 } : St) 0 8).length = 2048 := by rw [hr1.2, reads_len hok6]
        rw [hr1.1] at hRD
        have HD6 := Lib.hid hd6
        have HRD := Lib.hid hRD; have HLN := Lib.hid hln
        have HRL := Lib.hid hrl; have HR2 := Lib.hid hr2.1
        clear hd6 ht6 hRD hok6 hln hrl hr1 hr2
        generalize hLL : readL ({ T with f1 := 1099511627776 } : St) 0 8 = L at *
        have HLE := Lib.hid hle
        clear hLL hle
        go_wp2_with fail
        refine HRD.out.mono ?_
        rintro e w7 ⟨va, rfl, hga, hd7, ht7⟩
        have HB7 := Lib.hid (HB6.out.trans (ht7.below HD6.out.least HB6.out.size))
        have HGA := Lib.hid hga
        have hdn : (({ ({ T with f1 := 1099511627776 } : St) with f1 := 1099511627776 - 1 } : St)).dirty = [] := no_dirty hv1
        generalize hT2 : ({ ({ T with f1 := 1099511627776 } : St) with f1 := 1099511627776 - 1 } : St) = T2 at *
        have HT2v := Lib.hid (show ∀ i, (T2.ver i).length < 549755813888 by intro i; rw [← hT2]; show (T.ver i).length < _; rw [hv1 i]; simp)
        have hDY : Calls Try.prog 14 #[.pointer (some ⟨b, 0, none⟩)] w7 fun e w' => ∃ A0 c0, e = .returned (.slice A0 0 c0) ∧ w7.grownBy w' none := by
          obtain ⟨bd', bm', f', hl7⟩ := hd7
          refine (disk_dirty hl7).mono ?_
          rintro e w' ⟨v, rfl, hrow, hg⟩
          rw [hdn] at hrow
          rcases hrow.2 with ⟨rfl, _⟩ | ⟨g, cap, cur, rfl, _⟩
          · exact ⟨none, 0, rfl, hg⟩
          · exact ⟨_, _, rfl, hg⟩
        have HDY := Lib.hid hDY; have HD7 := Lib.hid hd7
        have HHI := Lib.hid (fun g (hg : w6.heap.size ≤ g) => (show ¬ p1 g from fun e => by have := HD6.out.lt g e; omega))
        clear hga hd7 ht7 hDY hdn hT2 hv1 hn1
        go_wp2_with fail
        refine HDY.out.mono ?_
        rintro e w8 ⟨A0, c0, rfl, hg8⟩
        have HB8 := Lib.hid (HB7.out.grown hg8 HB7.out.size (fun _ e => by cases e))
        have hd8 := HD7.out.far (Turn.none_ (own := fun _ => False) hg8) (fun _ _ e => e)
        have HGA8 := Lib.hid (HGA.out.turn (Turn.none_ (own := fun _ => False) hg8) (fun _ _ e => e))
        have HCR := Lib.hid (disk_crash_all hd8 A2 n2 c2 picks (HPI.out.picks HB8.out hd8.least) hn2 HT2v.out)
        have HD8 := Lib.hid hd8
        clear hg8 hd8
        go_wp2_with fail
        refine HCR.out.mono ?_
        rintro e w9 ⟨rfl, hd9, ht9⟩
        have HB9 := Lib.hid (HB8.out.trans (ht9.below HD8.out.least HB8.out.size))
        have HGA9 := Lib.hid (HGA8.out.turn ht9 HHI.out)
        have hRD2 := disk_read_all hd9 0 8 (by omega) (by omega)
        rw [HR2.out, HRL.out] at hRD2
        have HRD2 := Lib.hid hRD2; have HD9 := Lib.hid hd9
        have HHI9 := Lib.hid (fun g (hg : w6.heap.size ≤ g) => HHI.out g hg)
        clear hd9 ht9 hRD2
        go_wp2_with fail
        refine HRD2.out.mono ?_
        rintro e wa ⟨vb, rfl, hgb, hda, hta⟩
        have HBA := Lib.hid (HB9.out.trans (hta.below HD9.out.least HB9.out.size))
        have hgaA := HGA9.out.turn hta HHI9.out
        obtain ⟨AA, ca, rfl, hba⟩ := bytes_of_gave hgaA HLN.out
        obtain ⟨AB, cb, rfl, hbb⟩ := bytes_of_gave hgb HLN.out
        have hsm := same_any _ _ AA AB L.length L.length ca cb L L wa hba hbb (by rw [HLE.out]; omega) (by rw [HLE.out]; omega)
        rw [decide_eq_true (rfl : L = L), HLE.out] at hsm
        have HSM := Lib.hid hsm
        clear hgb hda hta hgaA hba hbb hsm
        have hll := HLE.out
        rw [hll]
        clear hll
        go_wp2_with fail
        refine HSM.out.mono ?_
        rintro e wb ⟨rfl, hdr⟩
        have HBB := Lib.hid (HBA.out.grown (drawn_grown hdr none) HBA.out.size (fun _ e => by cases e))
        clear hdr
        go_wp2
        go_ret
        exact ⟨rfl, HBB.out⟩
end Go.Proofs.Ytkfijgdbaihhpaa.DiskFlushedUpto
