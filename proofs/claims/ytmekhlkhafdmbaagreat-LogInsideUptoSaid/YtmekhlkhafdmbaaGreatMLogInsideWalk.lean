/- The walk over the law LogInside. -/
import Derived.Test.YtmekhlkhafdmbaaGreatMLogIn
import Derived.Test.YtmekhlkhafdmbaaGreatMDiskDirty
import Derived.Deep.DeepCutAuto
import Derived.Deep.CutBlock
namespace Go.Proofs.YtmekhlkhafdmbaaGreat.LogInsideUpto
open Go.ChangeShapes Go.WideShapes Go.ChangeAt Go.RowKit
open Crc CrcMath Mem CodecMath Codec DiskSpec Dsk Sup Log

/-- Nothing is in the cache but of the ring's sectors. -/
structure Inside (S : St) (L : Lg) (j : Nat) : Prop where
  out : ∀ p, p < 20 ∨ 84 ≤ p → S.ver p = []
  ver : ∀ p, (S.ver p).length ≤ j
  st : L.st = 20
  ln : L.ln = 64
theorem inside_sec {L : Lg} (hs : L.st = 20) (hl : L.ln = 64) (i : Nat) : 20 ≤ L.sec i ∧ L.sec i < 84 := by
  unfold Lg.sec
  rw [hs, hl]
  have := Nat.mod_lt (L.tail + i) (show 0 < 64 by omega)
  omega
theorem inside_put {S T : St} {L : Lg} {l : List Nat} {j k : Nat} (h : Inside S L j) (h1 : ∀ i, i < k → T.ver (L.sec i) = S.ver (L.sec i) ++ [sec l i]) (h2 : ∀ p, (∀ i, i < k → p ≠ L.sec i) → T.ver p = S.ver p) : (∀ p, p < 20 ∨ 84 ≤ p → T.ver p = []) ∧ ∀ p, (T.ver p).length ≤ j + 1 := by
  refine ⟨fun p hp => ?_, fun p => ?_⟩
  · rw [h2 p (fun i _ e => by have := inside_sec h.st h.ln i; omega)]
    exact h.out p hp
  · by_cases hx : ∃ i, i < k ∧ p = L.sec i
    · obtain ⟨i, hi, rfl⟩ := hx
      rw [h1 i hi]
      have := h.ver (L.sec i)
      simp
      exact this
    · rw [h2 p (fun i hi e => hx ⟨i, hi, e⟩)]
      exact Nat.le_succ_of_le (h.ver p)
theorem inside_append {S : St} {L : Lg} {j : Nat} (h : Inside S L j) (hk : L.ok S.n) (l : List Img) : Inside (appendE S L l).2.1 (appendE S L l).2.2 (j + 1) ∧ (appendE S L l).2.1.n = S.n := by
  have hstay : Inside S L (j + 1) := ⟨h.out, fun p => Nat.le_succ_of_le (h.ver p), h.st, h.ln⟩
  by_cases h40 : l.length ≤ 40
  · by_cases hb : l.length = 0 ∨ mayW [] l = false
    · rw [append_arg h40 hb]; exact ⟨hstay, rfl⟩
    · have hl1 : 1 ≤ l.length := by omega
      have hm : mayW [] l = true := by
        cases hh : mayW [] l with
        | true => rfl
        | false => exact absurd (.inr hh) hb
      by_cases hr : L.room < 1 + l.length ∨ 4294967295 < L.ep ∨ 1099511627775 < L.seq
      · rw [append_full h40 hl1 hm hr]; exact ⟨hstay, rfl⟩
      · have hlr := recB_len (ep := L.ep) (sq := L.seq) (mayW_ok hm) h40
        have hrl := room_ln L
        rw [append_goes h40 hl1 hm hr]
        rcases putE_cases hk hlr (by omega) (by omega) with ⟨e0, hp⟩ | ⟨e0, e1, e2, e3, e4⟩
        · rw [if_pos e0]
          obtain ⟨q1, q2⟩ := inside_put h hp.at_ hp.far
          exact ⟨⟨q1, q2, h.st, h.ln⟩, hp.n⟩
        · rw [if_neg (by rw [e0]; omega)]
          refine ⟨?_, e2⟩
          rcases e4 with e4 | ⟨_, e5, e6⟩
          · exact ⟨fun p hp => by show (putE S L _).2.ver p = []; rw [e4]; exact h.out p hp, fun p => by show ((putE S L _).2.ver p).length ≤ _; rw [e4]; exact Nat.le_succ_of_le (h.ver p), h.st, h.ln⟩
          · obtain ⟨q1, q2⟩ := inside_put h e5 e6
            exact ⟨q1, q2, h.st, h.ln⟩
  · rw [append_big (by omega)]; exact ⟨hstay, rfl⟩
theorem inside_fail {S : St} {L : Lg} {j : Nat} (h : Inside S L j) (c : Int) : Inside (failE S 2 c).2 L (j + 1) ∧ (failE S 2 c).2.n = S.n := by
  unfold failE
  split
  · exact ⟨⟨h.out, fun p => Nat.le_succ_of_le (h.ver p), h.st, h.ln⟩, rfl⟩
  · exact ⟨⟨h.out, fun p => Nat.le_succ_of_le (h.ver p), h.st, h.ln⟩, rfl⟩
theorem dirty_in {S : St} {L : Lg} {j : Nat} (h : Inside S L j) {p : Nat} (hp : p ∈ S.dirty) : 20 ≤ p ∧ p < 84 := by
  obtain ⟨_, h2⟩ := (mem_dirty p).1 hp
  by_cases hh : p < 20 ∨ 84 ≤ p
  · exact absurd (h.out p hh) h2
  · omega
theorem dirty_few (S : St) : S.dirty.length ≤ S.n := by
  unfold St.dirty; exact Nat.le_trans (List.length_filter_le ..) (by simp)
set_option maxRecDepth 100000 in
set_option maxHeartbeats 6400000 in
theorem walk {H : Type} {enc : TypeId × Value → H} (W : World) (base : Nat) (v0 v1 : Value) (d0 d1 : DataW H) (p0 p1 : List MemPlace)
    (o0 : Value.okWide Tryz.prog W .any base 3 v0)
    (o1 : Value.okWide Tryz.prog W .any base 22 v1)
    (h0 : DataW.Trod enc Tryz.prog W 0 (fun _ => true) true 3 v0 d0 p0)
    (h1 : DataW.Trod enc Tryz.prog W 0 (fun _ => true) true 22 v1 d1 p1)
    (_hsz : (DataW.weightsEach Tryz.prog [3, 22] [d0, d1]).all (· ≤ reachBytes) = true) (hk : Rows.uptoSmall H [d0, d1] = true) :
    Calls Tryz.prog 4 #[v0, v1] W fun e W' => e = .returned (.bool true) ∧ Below W.heap.size W W' := by
  obtain ⟨hd, rfl, _, _, _⟩ := open_int Tryz.underlying3 o0 h0
  obtain ⟨A, n, c, ops, rfl, hsc, hn⟩ := open_script5 o1 h1 hk (List.mem_cons_of_mem _ (List.mem_cons_self ..))
  have HSC := Lib.hid hsc
  clear o0 h0 o1 h1 hk hsc
  have hT : Tab (W.alloc (.cells zeroCs 69)) W.heap.size := .inl ⟨_, Blk.new W 69 zeroCs, fresh_zero⟩
  have HT := Lib.hid hT; have HG0 := Lib.hid (World.grownBy_alloc W (.cells zeroCs 69) none)
  clear hT
  go_enter Tryz.func4, Tryz.ntmps4
  go_wp2_with fail
  refine (new_any _).mono ?_
  rintro e w1 ⟨rfl, rfl⟩
  have HN := Lib.hid (show Calls Tryz.prog 6 #[.int .i64 100] (W.alloc (.cells zeroCs 69)) fun e w' => ∃ b bd bm f own, e = .returned (.tuple #[.pointer (some ⟨b, 0, none⟩), .int .i64 0]) ∧ Lay w' (W.alloc (.cells zeroCs 69)).heap.size b bd bm f (St.new 100) own ∧ (W.alloc (.cells zeroCs 69)).grownBy w' none from disk_new 100 _ (by omega) (by omega))
  go_wp2_with fail
  refine HN.out.mono ?_
  rintro e w2 ⟨b, bd, bm, f, own, rfl, hl, hg2⟩
  have HS2 := Lib.hid (new_sat HT.out hl hg2)
  have HG2 := Lib.hid (HG0.out.trans hg2)
  have HBL := Lib.hid (show W.heap.size ≤ (W.alloc (.cells zeroCs 69)).heap.size from HG0.out.size)
  clear hl hg2 HN HT HG0
  generalize (W.alloc (.cells zeroCs 69)).heap.size = B at *
  generalize htb : W.heap.size = tb at HS2 ⊢
  have HTE := Lib.hid htb
  clear htb
  go_wp2_with fail
  refine (known5 HS2.out.t).mono ?_
  rintro e w3 ⟨rfl, hr3, hg3⟩
  have HS3 := Lib.hid (HS2.out.table hg3 (.inr hr3)); have HR3 := Lib.hid hr3
  have HG3 := Lib.hid (show W.grownBy w3 none from grown_none_of_size (row := some tb) ((grown_any_row HG2.out (some tb)).trans hg3) (fun j e => by cases e; exact Nat.le_of_eq HTE.out))
  clear hr3 hg3 HS2 HG2
  go_upto_if 32 with fail
  go_cut [8] (fun s8 wx => ∃ h : Nat, h < 64 ∧ s8 = .int .i64 h ∧ wx = w3)
  case first =>
    have ht1 := Int.tmod_lt_of_pos hd (show (0 : Int) < 64 by omega)
    have ht2 := Int.lt_tmod_of_pos hd (show (0 : Int) < 64 by omega)
    generalize hd.tmod 64 = t at *
    by_cases ht : t < 0
    · have hw : IntKind.i64.wrap (t + 64) = t + 64 := IntWalk.i64_in _ (by omega)
      go_wp2_with fail
      go_meet
      exact ⟨(t + 64).toNat, by omega, by rw [Int.toNat_of_nonneg (by omega)], rfl⟩
    · go_wp2_with fail
      go_meet
      exact ⟨t.toNat, by omega, by rw [Int.toNat_of_nonneg (by omega)], rfl⟩
  case rest =>
    obtain ⟨h, hh, rfl, rfl⟩ := hcut
    generalize wc = w3 at *
    have hmay : mayB [1, ((1 : Nat) : Int), 16, ((20 : Nat) : Int), ((64 : Nat) : Int), ((h : Nat) : Int), ((0 : Nat) : Int)] ((100 : Nat) : Int) = true := by
      have h1 : superOk [1, ((1 : Nat) : Int), 16, ((20 : Nat) : Int), ((64 : Nat) : Int), ((h : Nat) : Int), ((0 : Nat) : Int)] = true := by
        simp [superOk, inB]; omega
      unfold mayB
      rw [h1]
      simp [roomB]; omega
    have hnw := log_new HS3.out 1 16 1 20 64 h 0 hmay
    unfold supA at hnw
    have HNW := Lib.hid hnw
    clear hmay hnw
    go_wp2_with fail
    refine HNW.out.mono ?_
    rintro e w4 ⟨g, rfl, hge, hla, hg4⟩
    have HK4 := Lib.hid (show LK W w4 B b tb g (St.new 100) own (Lg.new 1 1 16 20 64 h 0) from ⟨hla, HR3.out.keep hg4 (by simp), HG3.out.trans hg4, by have := HTE.out; have := HBL.out; have := HG3.out.size; omega⟩)
    have HI4 := Lib.hid (show Inside (St.new 100) (Lg.new 1 1 16 20 64 h 0) 0 from ⟨fun _ _ => rfl, fun p => Nat.le_refl _, rfl, rfl⟩)
    clear hge hla hg4 HNW HS3 HR3 HG3
    go_wp2_with fail
    go_loopw [10] (fun i wr => ∃ (j : Nat) (S : St) (ow : Nat → Prop) (L : Lg), j ≤ n ∧ i = .int .i64 j ∧ LK W wr B b tb g S ow L ∧ Inside S L j) (fun i _ => n - (Go.RowKit.intOf i).toNat)
    case atStart => exact ⟨0, _, _, _, Nat.zero_le _, rfl, HK4.out, HI4.out⟩
    case round =>
      clear HK4 HI4
      obtain ⟨j, S, ow, L, hj, rfl, hlk, hin⟩ := hrel
      have HK := Lib.hid hlk; have HI := Lib.hid hin
      clear hlk hin
      generalize wr = w1 at *
      by_cases hlt : j < n
      · have hjn : (j : Int) < (n : Int) := by omega
        obtain ⟨gc, oc, x, rfl, hx, hxok, hxn, e0, e1, e2, e3, e4, e5, e6⟩ := HSC.out.at_ HK.out.below hlt
        have HOK := Lib.hid hxok
        obtain ⟨kd, xA, xn, xc, pages, page, fill, at_, count, xA2, xn2, xc2, picks⟩ := x
        dsimp only at *
        have hstay := HI.out
        have HSTAY := Lib.hid (show Inside S L (j + 1) from ⟨hstay.out, fun p => Nat.le_succ_of_le (hstay.ver p), hstay.st, hstay.ln⟩)
        clear hx hxok hstay
        have HAPP := Lib.hid (show ∀ wx, LK W wx B b tb g S ow L → ∀ Ao co, Imgs wx (· = tb) Ao xn (imagesOf pages page fill) → Calls Tryz.prog 10 #[.pointer (some ⟨g, 0, none⟩), .slice Ao xn co] wx fun e w' => ∃ z T own' M, e = .returned (.int .i64 z) ∧ LK W w' B b tb g T own' M ∧ Inside T M (j + 1) from fun wx hkx Ao co him => by
          obtain ⟨q1, q2⟩ := inside_append HI.out hkx.l.k (imagesOf pages page fill)
          refine (log_append hkx.l Ao xn co _ him (by omega) (fun i => by have := HI.out.ver i; omega)).mono ?_
          rintro e w' ⟨rfl, ⟨own', hla, ht⟩, hr⟩
          exact ⟨_, _, own', _, rfl, hkx.turn hla ht (hr (.inl hkx.r)), q1⟩)
        have HOP := Lib.hid (op_images kd xA xn xc pages page fill at_ count (.slice xA2 xn2 xc2) w1 (Log.PIn.ints HOK.out.pages HK.out.below) hxn)
        by_cases hk0 : kd = 0 ∨ kd = 6
        · rcases hk0 with rfl | rfl
          · go_wp2_with fail
            refine HOP.out.mono ?_
            rintro e w2 ⟨Ao, co, rfl, _, _, him, hg2⟩
            have HC := Lib.hid (HAPP.out w2 (HK.out.quiet hg2) Ao co (him.weak (fun i _ e => by subst e; exact tab_lt HK.out.l.s.t)))
            clear him hg2 e0 e1 e2 e3 e4 e5 e6
            go_wp2_with fail
            refine HC.out.mono ?_
            rintro e w4 ⟨z, T, own4, M, rfl, hk4, hi4⟩
            have HK5 := Lib.hid hk4; have HI5 := Lib.hid hi4
            clear hk4 hi4 HC
            go_wp2_with fail
            go_roundw
            case rel => exact ⟨j + 1, T, own4, M, by omega, by go_num, HK5.out, HI5.out⟩
            case measure => simp [Go.RowKit.intOf]; omega
          · go_wp2_with fail
            refine HOP.out.mono ?_
            rintro e w2 ⟨Ao, co, rfl, _, _, him, hg2⟩
            have HC := Lib.hid (HAPP.out w2 (HK.out.quiet hg2) Ao co (him.weak (fun i _ e => by subst e; exact tab_lt HK.out.l.s.t)))
            clear him hg2 e0 e1 e2 e3 e4 e5 e6
            go_wp2_with fail
            refine HC.out.mono ?_
            rintro e w4 ⟨z, T, own4, M, rfl, hk4, hi4⟩
            have HK5 := Lib.hid hk4; have HI5 := Lib.hid hi4
            clear hk4 hi4 HC
            go_wp2_with fail
            go_roundw
            case rel => exact ⟨j + 1, T, own4, M, by omega, by go_num, HK5.out, HI5.out⟩
            case measure => simp [Go.RowKit.intOf]; omega
        · have hn0 : ¬ (kd = 0) := fun e => hk0 (.inl e)
          have hn6 : ¬ (kd = 6) := fun e => hk0 (.inr e)
          have hb0 : (kd == 0) = false := by simpa using hn0
          have hb6 : (kd == 6) = false := by simpa using hn6
          clear hk0 HOP HAPP
          by_cases hk1 : kd = 1
          · subst hk1
            have HDR := Lib.hid (log_drop HK.out.l.l)
            have HD := Lib.hid (show Inside S L.drop (j + 1) from ⟨HSTAY.out.out, HSTAY.out.ver, HSTAY.out.st, HSTAY.out.ln⟩)
            go_wp2_with fail
            refine HDR.out.mono ?_
            rintro e w2 ⟨rfl, hl2, hg2⟩
            have HK2 := Lib.hid (HK.out.log hg2 hl2 HK.out.l.k.drop)
            clear hl2 hg2 HDR e0 e1 e2 e3 e4 e5 e6
            go_wp2_with fail
            go_roundw
            case rel => exact ⟨j + 1, S, ow, L.drop, by omega, by go_num, HK2.out, HD.out⟩
            case measure => simp [Go.RowKit.intOf]; omega
          · have hb1 : (kd == 1) = false := by simpa using hk1
            by_cases hk3 : kd = 3
            · subst hk3
              have HFA := Lib.hid (disk_fail_all HK.out.l.s.d 2 count)
              obtain ⟨q1, q2⟩ := inside_fail HI.out count
              have HQ1 := Lib.hid q1; have HQ2 := Lib.hid q2
              clear q1 q2
              go_wp2_with fail
              refine HFA.out.mono ?_
              rintro e w2 ⟨rfl, hd2, ht2⟩
              have hl2 := HK.out.l.disk hd2 ht2 HQ2.out
              have HK2 := Lib.hid (HK.out.turn hl2 (turn_own2 ht2) (by
                obtain ⟨cs, hb, hr⟩ := HK.out.r
                exact ⟨cs, blk_of_block hb (ht2.block tb hb.lt HK.out.l.s.n), hr⟩))
              clear hd2 ht2 hl2 HFA e0 e1 e2 e3 e4 e5 e6
              go_wp2_with fail
              go_roundw
              case rel => exact ⟨j + 1, _, ow, L, by omega, by go_num, HK2.out, HQ1.out⟩
              case measure => simp [Go.RowKit.intOf]; omega
            · have hb3 : (kd == 3) = false := by simpa using hk3
              go_wp2_with fail
              go_roundw
              case rel => exact ⟨j + 1, S, ow, L, by omega, by go_num, HK.out, HSTAY.out⟩
              case measure => simp [Go.RowKit.intOf]; omega
      · obtain rfl : j = n := by omega
        obtain ⟨bd, bm, f, hlay⟩ := HK.out.l.s.d
        have HDI := Lib.hid (disk_dirty hlay)
        have HTOP := Lib.hid HK.out.l.s.ok.top
        clear hlay
        go_wp2_with fail
        refine HDI.out.mono ?_
        rintro e w2 ⟨v, rfl, hrow, hg2⟩
        have HK2 := Lib.hid (HK.out.quiet hg2)
        obtain ⟨Av, cv, rfl, _, _, _⟩ := (Own.of hrow).shape
        generalize hdl : S.dirty.length = dn at hrow
        have HDL := Lib.hid hdl; clear hdl
        have HROW := Lib.hid (show ∀ q, q < dn → ∃ g, Av = some ⟨g, 0, none⟩ ∧ w2.cell? ⟨g, q, none⟩ = some (.int .i64 ((S.dirty.getD q 0 : Nat) : Int)) from fun q hq => by
          obtain ⟨g, cap, hv, _, _, _, _, hc⟩ := (Own.of hrow).reads (by omega)
          have hA : Av = some ⟨g, 0, none⟩ := by injection hv
          refine ⟨g, hA, hc q _ ?_⟩
          unfold nats
          rw [List.getElem?_map, List.getElem?_eq_getElem (by have := HDL.out; omega)]
          simp [List.getD_eq_getElem?_getD, show q < S.dirty.length from by have := HDL.out; omega])
        have HDR := Lib.hid (show ∀ q, q < dn → 20 ≤ S.dirty.getD q 0 ∧ S.dirty.getD q 0 < 84 from fun q hq => by
          refine dirty_in HI.out ?_
          rw [List.getD_eq_getElem?_getD, List.getElem?_eq_getElem (by have := HDL.out; omega)]
          exact List.getElem_mem _)
        have htk := HK.out.l.k.taken; have hln := HI.out.ln
        have hrl := room_ln L
        clear hrow hg2 HDI
        go_wp2_with fail
        go_loopw [12] (fun i wx => ∃ q : Nat, q ≤ dn ∧ i = .int .i64 q ∧ wx = w2) (fun i _ => dn - (Go.RowKit.intOf i).toNat)
        case atStart => exact ⟨0, Nat.zero_le _, rfl, rfl⟩
        case round =>
          obtain ⟨q, hq, rfl, rfl⟩ := hrel
          have hds : dn ≤ 4096 := by have h1 := HDL.out; have h2 := HTOP.out; have h3 := dirty_few S; omega
          by_cases hqd : q < dn
          · have hqI : (q : Int) < (dn : Int) := by omega
            obtain ⟨gv, rfl, hcv⟩ := HROW.out q hqd
            obtain ⟨d1, d2⟩ := HDR.out q hqd
            generalize S.dirty.getD q 0 = dv at *
            have d1I : ¬ ((dv : Int) < 20) := by omega
            have d2I : ¬ ((84 : Int) ≤ (dv : Int)) := by omega
            go_wp2_with fail
            go_roundw
            case rel => exact ⟨q + 1, by omega, by go_num, by first | rfl | trivial⟩
            case measure => simp [Go.RowKit.intOf]; omega
          · obtain rfl : q = dn := by omega
            have HR1 := Lib.hid (fun wx (hx : LK W wx B b tb g S ow L) => room_grown hx.l.l htk (by omega))
            have hr64 : (L.room : Int) ≤ 64 := by omega
            go_wp2_with fail
            refine (HR1.out _ HK2.out).mono ?_
            rintro e w4 ⟨rfl, hg4⟩
            have HK4 := Lib.hid (HK2.out.quiet hg4)
            clear hg4
            go_wp2_with fail
            refine (HR1.out _ HK4.out).mono ?_
            rintro e w5 ⟨rfl, hg5⟩
            have HK5 := Lib.hid (HK4.out.quiet hg5)
            clear hg5
            go_wp2_with fail
            go_ret
            exact ⟨rfl, HK5.out.below⟩
end Go.Proofs.YtmekhlkhafdmbaaGreat.LogInsideUpto
