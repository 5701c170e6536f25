/- The walk over the law LogRoom. -/
import Derived.Test.YtmekhlkhafdmbaaMLogIn
import Derived.Deep.CutBlock
import Derived.Deep.DeepCutAuto
namespace Go.Proofs.Ytmekhlkhafdmbaa.LogRoomUpto
open Go.ChangeShapes Go.WideShapes Go.ChangeAt Go.RowKit
open Crc CrcMath Mem CodecMath Codec DiskSpec Dsk Sup Log

/-- What a step must answer. -/
def wantE (n room : Nat) : Int := if 40 < n then 16 else if n = 0 then 1 else if room < n + 1 then 15 else 0
def rangeL (n : Nat) : List Int := (List.range n).map fun i : Nat => (i : Int)
theorem rangeL_len (n : Nat) : (rangeL n).length = n := by simp [rangeL]
theorem rangeL_succ (n : Nat) : rangeL (n + 1) = rangeL n ++ [(n : Int)] := by simp [rangeL, List.range_succ]
theorem range_may {n : Nat} (h : n ≤ 40) (fill : Int) : mayW [] (imagesOf (rangeL n) 5 fill) = true := by
  refine images_may (by omega) (fun p hp => ?_) ?_
  · obtain ⟨i, hi, rfl⟩ := List.mem_map.1 hp
    have := List.mem_range.1 hi
    omega
  · unfold rangeL
    exact List.Pairwise.map _ (fun a b h e => h (by have e' : (a : Int) = (b : Int) := e; omega)) List.nodup_range
/-- Where the law stands in its rounds. -/
structure RoomAt (S : St) (L : Lg) (j : Nat) : Prop where
  calm : Log.Calm S
  n : S.n = 100
  ver : ∀ p, (S.ver p).length ≤ j
  seq : L.seq ≤ j
  ln : L.ln = 64
  ep : L.ep = 1
  whole : L.broken = false
theorem room_step {S : St} {L : Lg} {j n : Nat} (h : RoomAt S L j) (hk : L.ok S.n) (hj : j ≤ 1048576) (fill : Int) :
    ∃ T M, appendE S L (imagesOf (rangeL n) 5 fill) = (wantE n L.room, T, M) ∧ RoomAt T M (j + 1) ∧ (wantE n L.room = 0 → M = L.pass (1 + n)) ∧ (wantE n L.room ≠ 0 → M = L) := by
  have hl : (imagesOf (rangeL n) 5 fill).length = n := by rw [imagesOf_len, rangeL_len]
  have hstay : RoomAt S L (j + 1) := ⟨h.calm, h.n, fun p => Nat.le_succ_of_le (h.ver p), Nat.le_succ_of_le h.seq, h.ln, h.ep, h.whole⟩
  unfold wantE
  by_cases h40 : 40 < n
  · rw [if_pos h40]
    exact ⟨S, L, append_big (by rw [hl]; omega), hstay, fun e => by omega, fun _ => rfl⟩
  · rw [if_neg h40]
    by_cases h0 : n = 0
    · rw [if_pos h0]
      exact ⟨S, L, append_arg (by rw [hl]; omega) (.inl (by rw [hl]; omega)), hstay, fun e => by omega, fun _ => rfl⟩
    · rw [if_neg h0]
      have hseq := h.seq; have hep := h.ep
      by_cases hf : L.room < n + 1
      · rw [if_pos hf]
        exact ⟨S, L, append_full (by rw [hl]; omega) (by rw [hl]; omega) (range_may (by omega) fill) (.inl (by rw [hl]; omega)), hstay, fun e => by omega, fun _ => rfl⟩
      · rw [if_neg hf]
        obtain ⟨T, e, hp, hc⟩ := append_calm h.calm hk (by rw [hl]; omega) (by rw [hl]; omega) (range_may (by omega) fill) (by rw [hl]; omega)
        refine ⟨T, L.pass (1 + n), by rw [e, hl], ⟨hc, hp.n.trans h.n, fun p => ?_, ?_, h.ln, h.ep, h.whole⟩, fun _ => rfl, fun hh => absurd rfl hh⟩
        · have := hp.lens p; have := h.ver p; omega
        · show L.seq + 1 ≤ _; omega
theorem want_zero {q r : Nat} (h : wantE q r = 0) : ¬ (r < q + 1) := by
  unfold wantE at h
  by_cases h1 : 40 < q
  · rw [if_pos h1] at h; omega
  · rw [if_neg h1] at h
    by_cases h2 : q = 0
    · rw [if_pos h2] at h; omega
    · rw [if_neg h2] at h
      by_cases h3 : r < q + 1
      · rw [if_pos h3] at h; omega
      · exact h3
theorem ints_any {w : World} {b m : Nat} {A : Option Addr} {l : List Int} (h : Ints w b A m l) : Ints w w.heap.size A m l := by
  refine ⟨h.1, h.2.1, fun hn => ?_⟩
  obtain ⟨g, o, e, hlt, _, hc⟩ := h.2.2 hn
  exact ⟨g, o, e, hlt, by omega, hc⟩
theorem drop_room {S : St} {L : Lg} {j : Nat} (h : RoomAt S L j) : RoomAt S L.drop j ∧ L.drop.room = 64 := by
  refine ⟨⟨h.calm, h.n, h.ver, h.seq, h.ln, h.ep, rfl⟩, ?_⟩
  show (if false then 0 else L.ln - 0) = 64
  rw [h.ln]
  rfl
set_option maxRecDepth 100000 in
set_option maxHeartbeats 6400000 in
theorem walk {H : Type} {enc : TypeId × Value → H} (W : World) (base : Nat) (v0 v1 : Value) (d0 d1 : DataW H) (p0 p1 : List MemPlace)
    (o0 : Value.okWide Try.prog W .any base 22 v0)
    (o1 : Value.okWide Try.prog W .any base 3 v1)
    (h0 : DataW.Trod enc Try.prog W 0 (fun _ => true) true 22 v0 d0 p0)
    (h1 : DataW.Trod enc Try.prog W 0 (fun _ => true) true 3 v1 d1 p1)
    (_hsz : (DataW.weightsEach Try.prog [22, 3] [d0, d1]).all (· ≤ reachBytes) = true) (hk : Rows.uptoSmall H [d0, d1] = true) :
    Calls Try.prog 3 #[v0, v1] W fun e W' => e = .returned (.bool true) ∧ Below W.heap.size W W' := by
  obtain ⟨A, n, c, cs, rfl, hpi, hd0⟩ := open_counts o0 h0
  have hn := bulk_len hk (List.mem_cons_self ..) hd0
  obtain ⟨hd, rfl, _, _, _⟩ := open_int Try.underlying3 o1 h1
  have HPI := Lib.hid hpi
  obtain ⟨i0, hi0, hz0, hz1, hz2⟩ := info_parts int_info
  have hi := Lib.hid hi0; have z0 := Lib.hid hz0; have z1 := Lib.hid hz1; have z2 := Lib.hid hz2
  clear o0 h0 o1 h1 hk hpi hd0 hi0 hz0 hz1 hz2
  have hT : Tab (W.alloc (.cells zeroCs 65)) W.heap.size := .inl ⟨_, Blk.new W 65 zeroCs, fresh_zero⟩
  have HT := Lib.hid hT; have HG0 := Lib.hid (World.grownBy_alloc W (.cells zeroCs 65) none)
  clear hT
  go_enter Try.func3, Try.ntmps3
  go_wp2_with fail
  refine (new_any _).mono ?_
  rintro e w1 ⟨rfl, rfl⟩
  have HN := Lib.hid (show Calls Try.prog 6 #[.int .i64 100] (W.alloc (.cells zeroCs 65)) fun e w' => ∃ b bd bm f own, e = .returned (.tuple #[.pointer (some ⟨b, 0, none⟩), .int .i64 0]) ∧ Lay w' (W.alloc (.cells zeroCs 65)).heap.size b bd bm f (St.new 100) own ∧ (W.alloc (.cells zeroCs 65)).grownBy w' none from disk_new 100 _ (by omega) (by omega))
  go_wp2_with fail
  refine HN.out.mono ?_
  rintro e w2 ⟨b, bd, bm, f, own, rfl, hl, hg2⟩
  have HS2 := Lib.hid (new_sat HT.out hl hg2)
  have HG2 := Lib.hid (HG0.out.trans hg2)
  have HBL := Lib.hid (show W.heap.size ≤ (W.alloc (.cells zeroCs 65)).heap.size from HG0.out.size)
  clear hl hg2 HN HT HG0
  generalize (W.alloc (.cells zeroCs 65)).heap.size = B at *
  have HTB := Lib.hid (show W.heap.size ≤ W.heap.size from Nat.le_refl _)
  generalize htb : W.heap.size = tb at HS2 HTB ⊢
  have HTE := Lib.hid htb
  clear htb
  go_wp2_with fail
  refine (known5 HS2.out.t).mono ?_
  rintro e w3 ⟨rfl, hr3, hg3⟩
  have HS3 := Lib.hid (HS2.out.table hg3 (.inr hr3)); have HR3 := Lib.hid hr3
  have HG3 := Lib.hid (show W.grownBy w3 none from grown_none_of_size (row := some tb) ((grown_any_row HG2.out (some tb)).trans hg3) (fun j e => by cases e; exact Nat.le_of_eq HTE.out))
  clear hr3 hg3 HS2 HG2
  go_upto_if 39 with fail
  go_cut [8] (fun s8 wx => ∃ h : Nat, h < 64 ∧ s8 = .int .i64 h ∧ wx = w3)
  case first =>
    have ht1 := Int.tmod_lt_of_pos hd (show (0 : Int) < 64 by omega)
    have ht2 := Int.lt_tmod_of_pos hd (show (0 : Int) < 64 by omega)
    generalize hd.tmod 64 = t at *
    by_cases ht : t < 0
    · have hw : IntKind.i64.wrap (t + 64) = t + 64 := IntWalk.i64_in _ (by omega)
      go_wp2_with fail
      go_meet
      exact ⟨(t + 64).toNat, by omega, by rw [Int.toNat_of_nonneg (by omega)], rfl⟩
    · go_wp2_with fail
      go_meet
      exact ⟨t.toNat, by omega, by rw [Int.toNat_of_nonneg (by omega)], rfl⟩
  case rest =>
    obtain ⟨h, hh, rfl, rfl⟩ := hcut
    have hmay : mayB [0, ((1 : Nat) : Int), 16, ((18 : Nat) : Int), ((64 : Nat) : Int), ((h : Nat) : Int), ((0 : Nat) : Int)] ((100 : Nat) : Int) = true := by
      have h1 : superOk [0, ((1 : Nat) : Int), 16, ((18 : Nat) : Int), ((64 : Nat) : Int), ((h : Nat) : Int), ((0 : Nat) : Int)] = true := by
        simp [superOk, inB]; omega
      unfold mayB
      rw [h1]
      simp [roomB]; omega
    have hnw := log_new HS3.out 0 16 1 18 64 h 0 hmay
    unfold supA at hnw
    have HNW := Lib.hid hnw
    clear hmay hnw
    go_wp2_with fail
    refine HNW.out.mono ?_
    rintro e w4 ⟨g, rfl, hge, hla, hg4⟩
    have HK4 := Lib.hid (show LK W w4 B b tb g (St.new 100) own (Lg.new 0 1 16 18 64 h 0) from ⟨hla, HR3.out.keep hg4 (by simp), HG3.out.trans hg4, by have := HTE.out; have := HBL.out; have := HG3.out.size; omega⟩)
    have HRA := Lib.hid (show RoomAt (St.new 100) (Lg.new 0 1 16 18 64 h 0) 0 from ⟨Calm.new 100, rfl, fun p => Nat.le_refl _, Nat.le_refl _, rfl, rfl, rfl⟩)
    clear hge hla hg4 HNW HS3 HR3 HG3
    go_wp2_with fail
    go_loopw [8, 10, 11, 12] (fun at_ rm sq i wr => ∃ (j : Nat) (S : St) (ow : Nat → Prop) (L : Lg), j ≤ n ∧ i = .int .i64 j ∧ at_ = .int .i64 (L.tail : Nat) ∧ rm = .int .i64 (L.room : Nat) ∧ sq = .int .i64 (L.seq : Nat) ∧ LK W wr B b tb g S ow L ∧ RoomAt S L j) (fun _ _ _ i _ => n - (Go.RowKit.intOf i).toNat)
    case atStart => exact ⟨0, _, _, _, Nat.zero_le _, rfl, rfl, rfl, rfl, HK4.out, HRA.out⟩
    case round =>
      clear HK4 HRA
      obtain ⟨j, S, ow, L, hj, rfl, rfl, rfl, rfl, hlk, hra⟩ := hrel
      have HK := Lib.hid hlk; have HRA := Lib.hid hra
      clear hlk hra
      generalize wr = w1 at *
      by_cases hlt : j < n
      · have hjn : (j : Int) < (n : Int) := by omega
        obtain ⟨gc, oc, rfl, hc, hb1, hb2⟩ := Log.PIn.at_ HPI.out HK.out.below hlt
        generalize cs.getD j 0 = x at *
        go_upto_if 61 with fail
        go_cut [13] (fun s13 wx => ∃ m : Nat, m ≤ 49 ∧ s13 = .int .i64 m ∧ wx = w1)
        case first =>
          have ht1 := Int.tmod_lt_of_pos x (show (0 : Int) < 50 by omega)
          have ht2 := Int.lt_tmod_of_pos x (show (0 : Int) < 50 by omega)
          generalize x.tmod 50 = t at *
          by_cases ht : t < 0
          · have hw : IntKind.i64.wrap (-t) = -t := IntWalk.i64_in _ (by omega)
            go_wp2_with fail
            go_meet
            exact ⟨(-t).toNat, by omega, by rw [Int.toNat_of_nonneg (by omega)], rfl⟩
          · go_wp2_with fail
            go_meet
            exact ⟨t.toNat, by omega, by rw [Int.toNat_of_nonneg (by omega)], rfl⟩
        case rest =>
          obtain ⟨m, hm, rfl, rfl⟩ := hcut
          clear hc hb1 hb2
          generalize wc = w1 at *
          go_wp2_with fail
          go_loopw [14, 15] (fun v k wx => ∃ q : Nat, q ≤ m ∧ k = .int .i64 q ∧ w1.grownBy wx none ∧ Own wx w1.heap.size 3 1 v q (i64s (rangeL q))) (fun _ k _ => m - (Go.RowKit.intOf k).toNat)
          case atStart => exact ⟨0, Nat.zero_le _, rfl, World.grownBy.refl _ none, Own.nil _ _ _ _⟩
          case round =>
            obtain ⟨q, hq, rfl, hgq, hoq⟩ := hrel
            have HGQ := Lib.hid hgq; have HOQ := Lib.hid hoq
            clear hgq hoq
            by_cases hqm : q < m
            · have hqI : (q : Int) < (m : Int) := by omega
              have hsz := HGQ.out.size
              go_wp2_with (at_builtin
                           refine wpList_append_own_full _ rfl (.tmp 69) (.tmp 71) _ rfl w1.heap.size 3 i0 _ 1 8 Try.underlying22 hi.out z0.out z1.out z2.out rfl (by omega) _ q _ rfl (HOQ.out.alloc _)
                             _ _ 1 1 _ rfl (reads_one_int _ _) (fun u hu => by simp at hu; subst hu; rfl) (by simp only [maxLen]; omega) (by omega) (by simp; omega) ?_
                           intro v' w' hown' hgr'
                           have HO' := Lib.hid hown'; have HG' := Lib.hid hgr'; clear hown' hgr')
              go_roundw
              case rel =>
                refine ⟨q + 1, by omega, by go_num, grownBy_new (HGQ.out.trans (World.grownBy_alloc wr _ none)) HG'.out.1 (fun p hp => (HOQ.out.base_ p hp).1), ?_⟩
                rw [rangeL_succ, i64s_append]
                exact HO'.out
              case measure => simp [Go.RowKit.intOf]; omega
            · obtain rfl : q = m := by omega
              obtain ⟨Ap, cp, rfl, hin, _, _⟩ := own_ints HOQ.out (fun y hy => by
                obtain ⟨i, hi, rfl⟩ := List.mem_map.1 hy
                have := List.mem_range.1 hi
                omega)
              have hga := World.grownBy_alloc wr (.cells #[.int .i64 0, .slice Ap q cp, .int .i64 5, .int .i64 j, .int .i64 0, .int .i64 0, .slice none 0 0] 35) none
              have HIN := Lib.hid (ints_any (ints_keep hin hga (.inl rfl)))
              have HK5 := Lib.hid ((HK.out.quiet HGQ.out).quiet hga)
              have HB5 := Lib.hid (Blk.new wr 35 #[.int .i64 0, .slice Ap q cp, .int .i64 5, .int .i64 j, .int .i64 0, .int .i64 0, .slice none 0 0])
              clear hin hga HOQ HK
              go_upto_block 4 with fail
              go_cut [17] (fun s17 wx => s17 = .int .i64 (wantE q L.room) ∧ wx = wr.alloc (.cells #[.int .i64 0, .slice Ap q cp, .int .i64 5, .int .i64 j, .int .i64 0, .int .i64 0, .slice none 0 0] 35))
              case first =>
                have HWE := Lib.hid (show wantE q L.room = if 40 < q then 16 else if q = 0 then 1 else if L.room < q + 1 then 15 else 0 from rfl)
                by_cases h40 : 40 < q
                · have h40I : (40 : Int) < (q : Int) := by omega
                  rw [if_pos h40] at HWE
                  go_wp2_with fail
                  go_meet
                  exact ⟨by rw [HWE.out], rfl⟩
                · have h40I : ¬ ((40 : Int) < (q : Int)) := by omega
                  rw [if_neg h40] at HWE
                  by_cases h0 : q = 0
                  · rw [if_pos h0] at HWE
                    subst h0
                    go_wp2_with fail
                    go_meet
                    exact ⟨by rw [HWE.out], rfl⟩
                  · rw [if_neg h0] at HWE
                    have h0I : ¬ ((q : Int) = 0) := by omega
                    have h0B : ((q : Int) == 0) = false := by simp; omega
                    by_cases hr : L.room < q + 1
                    · rw [if_pos hr] at HWE
                      have hrI : (L.room : Int) < (q : Int) + 1 := by omega
                      go_wp2_with fail
                      go_meet
                      exact ⟨by rw [HWE.out], rfl⟩
                    · rw [if_neg hr] at HWE
                      have hrI : ¬ ((L.room : Int) < (q : Int) + 1) := by omega
                      go_wp2_with fail
                      go_meet
                      exact ⟨by rw [HWE.out], rfl⟩
              case rest =>
                obtain ⟨rfl, rfl⟩ := hcut
                generalize wr.alloc (.cells #[.int .i64 0, .slice Ap q cp, .int .i64 5, .int .i64 j, .int .i64 0, .int .i64 0, .slice none 0 0] 35) = w5 at *
                have y0 := HB5.out.cell 0; have y1 := HB5.out.cell 1; have y2 := HB5.out.cell 2; have y3 := HB5.out.cell 3; have y4 := HB5.out.cell 4; have y5 := HB5.out.cell 5; have y6 := HB5.out.cell 6
                simp only [List.getElem?_toArray, List.getElem?_cons_zero, List.getElem?_cons_succ] at y0 y1 y2 y3 y4 y5 y6
                have HOP := Lib.hid (op_images 0 Ap q cp (rangeL q) 5 j 0 0 (.slice none 0 0) w5 HIN.out (by omega))
                obtain ⟨T, M, hap, hra2, hm0, hm1⟩ := room_step (n := q) HRA.out HK5.out.l.k (by omega) (j : Int)
                have HAP := Lib.hid hap; have HRA2 := Lib.hid hra2; have HM0 := Lib.hid hm0; have HM1 := Lib.hid hm1
                have HVER := Lib.hid (show ∀ i, (S.ver i).length < 549755813000 from fun i => by have := HRA.out.ver i; omega)
                clear hap hra2 hm0 hm1
                go_wp2_with fail
                refine HOP.out.mono ?_
                rintro e w6 ⟨Ao, co, rfl, _, _, him, hg6⟩
                have HK6 := Lib.hid (HK5.out.quiet hg6)
                have HAPP := Lib.hid (log_append HK6.out.l Ao q co (imagesOf (rangeL q) 5 j) (him.weak (fun i _ e => by subst e; exact tab_lt HK5.out.l.s.t)) (by omega) HVER.out)
                clear him hg6 HOP y0 y1 y2 y3 y4 y5 y6
                go_wp2_with fail
                refine HAPP.out.mono ?_
                rintro e w7 ⟨rfl, ⟨own7, hla7, ht7⟩, hr7⟩
                rw [HAP.out] at hla7 hr7 ⊢
                dsimp only at hla7 hr7 ⊢
                have HK7 := Lib.hid (HK6.out.turn hla7 ht7 (hr7 (.inl HK6.out.r)))
                have hrl := room_ln L; have hln := HRA.out.ln; have htl := HK6.out.l.k.tail; have hsq := HRA.out.seq
                have HMR := Lib.hid (show wantE q L.room = 0 → M.room = L.room - (1 + q) ∧ 1 + q ≤ L.room from fun h0 => by
                  have hM := HM0.out h0
                  have h1 := want_zero h0
                  refine ⟨?_, by omega⟩
                  rw [hM]
                  have hb := HRA.out.whole
                  unfold Lg.room
                  rw [show (L.pass (1 + q)).broken = L.broken from rfl, hb]
                  show L.ln - (L.taken + (1 + q)) = L.ln - L.taken - (1 + q)
                  omega)
                have HTL := Lib.hid (show wantE q L.room = 0 → ((M.tail : Nat) : Int) = ((L.tail : Int) + (q : Int) + 1) % 64 ∧ ((M.seq : Nat) : Int) = (L.seq : Int) + 1 from fun h0 => by
                  rw [HM0.out h0]
                  refine ⟨?_, by show ((L.seq + 1 : Nat) : Int) = _; omega⟩
                  show (((L.tail + (1 + q)) % L.ln : Nat) : Int) = _
                  rw [hln]
                  omega)
                clear hla7 ht7 hr7 HAPP HK6 HM0 HAP
                rw [hln] at hrl htl
                generalize hwv : wantE q L.room = wv at *
                have HW := Lib.hid hwv; clear hwv
                go_upto_if 94 with fail
                go_cut [8, 10, 11] (fun a r s wx => a = .int .i64 (M.tail : Nat) ∧ r = .int .i64 (M.room : Nat) ∧ s = .int .i64 (M.seq : Nat) ∧ wx = w7)
                case first =>
                  by_cases h0 : wv = 0
                  · subst h0
                    obtain ⟨q1, q2⟩ := HMR.out rfl
                    obtain ⟨q3, q4⟩ := HTL.out rfl
                    have HQ1 := Lib.hid q1; have HQ3 := Lib.hid q3; have HQ4 := Lib.hid q4
                    clear q1 q3 q4
                    have hwa : IntKind.i64.wrap ((L.room : Int) - (q : Int)) = (L.room : Int) - (q : Int) := IntWalk.i64_in _ (by omega)
                    have hwb : IntKind.i64.wrap ((L.room : Int) - (q : Int) - 1) = (L.room : Int) - (q : Int) - 1 := IntWalk.i64_in _ (by omega)
                    go_wp2_with fail
                    go_meet
                    exact ⟨by rw [HQ3.out], by rw [HQ1.out]; congr 1; omega, by rw [HQ4.out], rfl⟩
                  · have hM := HM1.out h0
                    have HME := Lib.hid hM; clear hM
                    go_wp2_with fail
                    go_meet
                    exact ⟨by rw [HME.out], by rw [HME.out], by rw [HME.out], rfl⟩
                case rest =>
                  obtain ⟨rfl, rfl, rfl, rfl⟩ := hcut
                  go_upto_if 107 with fail
                  go_cut [10] (fun r wx => ∃ M2 : Lg, r = .int .i64 (M2.room : Nat) ∧ M2.tail = M.tail ∧ M2.seq = M.seq ∧ LK W wx B b tb g T own7 M2 ∧ RoomAt T M2 (j + 1))
                  case first =>
                    by_cases h15 : wv = 15
                    · subst h15
                      have HDR := Lib.hid (log_drop HK7.out.l.l)
                      obtain ⟨d1, d2⟩ := drop_room HRA2.out
                      have HD1 := Lib.hid d1; have HD2 := Lib.hid d2
                      clear d1 d2
                      go_wp2_with fail
                      refine HDR.out.mono ?_
                      rintro e w8 ⟨rfl, hl8, hg8⟩
                      have HK8 := Lib.hid (HK7.out.log hg8 hl8 HK7.out.l.k.drop)
                      clear hl8 hg8
                      go_wp2_with fail
                      go_meet
                      exact ⟨M.drop, by rw [HD2.out]; rfl, rfl, rfl, HK8.out, HD1.out⟩
                    · go_wp2_with fail
                      go_meet
                      exact ⟨M, rfl, rfl, rfl, HK7.out, HRA2.out⟩
                  case rest =>
                    obtain ⟨M2, rfl, hmt, hms, hk8, hra8⟩ := hcut
                    have HK8 := Lib.hid hk8; have HR8 := Lib.hid hra8
                    have HTA := Lib.hid (log_tail hk8.l.l)
                    rw [hmt, hms] at HTA
                    have HMT := Lib.hid hmt; have HMS := Lib.hid hms
                    have htk8 := hk8.l.k.taken; have hln8 := hra8.ln
                    clear hk8 hra8 hmt hms
                    go_wp2_with fail
                    refine HTA.out.mono ?_
                    rintro e w9 ⟨rfl, m9, rfl⟩
                    have HK9 := Lib.hid (HK8.out.quiet (grown_drewN (World.grownBy.refl _ none) m9))
                    have HRO := Lib.hid (room_grown HK9.out.l.l htk8 (by omega))
                    go_wp2_with fail
                    refine HRO.out.mono ?_
                    rintro e w10 ⟨rfl, hg10⟩
                    have HK10 := Lib.hid (HK9.out.quiet hg10)
                    clear hg10
                    go_wp2_with fail
                    go_roundw
                    case rel => exact ⟨j + 1, T, own7, M2, by omega, by go_num, by rw [HMT.out], rfl, by rw [HMS.out], HK10.out, HR8.out⟩
                    case measure => simp [Go.RowKit.intOf]; omega
      · obtain rfl : j = n := by omega
        go_wp2_with fail
        go_ret
        exact ⟨rfl, HK.out.below⟩
end Go.Proofs.Ytmekhlkhafdmbaa.LogRoomUpto
