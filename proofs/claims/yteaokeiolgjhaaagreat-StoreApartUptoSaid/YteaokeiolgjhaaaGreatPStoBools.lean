/- Texts of this seat's proofs: StoBools, StoreApartWalk. -/
import Derived.Test.YteaokeiolgjhaaaGreatPStoUse
import Derived.Test.YteaokeiolgjhaaaGreatPLogIn
import Derived.Deep.DeepCutAuto
import Derived.Deep.RegionHeld3
/- A law's own row of bools beside a store. -/
namespace Go.Proofs.YteaokeiolgjhaaaGreat.Sto
open Go.RowKit Go.Maps Go.Shelf CrcMath CodecMath Mem Crc Codec DiskSpec Dsk Sup Log

/-- Cells that are bools. -/
def Bools (cs : Array Value) : Prop := ∀ (i : Nat) (v : Value), cs[i]? = some v → ∃ b, v = .bool b
section
variable {lv : Value} {w w' : World} {P : Nat → Prop} {q : Nat} {t : TypeId} {cs : Array Value}
theorem data_bools {A : Option Addr} {n : Nat} {l : List Nat} (h : Dsk.Data w P A n l) (hg : w.grownBy w' (some q)) (hb : Blk w q t cs) (hc : Bools cs) : Dsk.Data w' P A n l := by
  refine ⟨h.1, h.2.1, fun hn => ?_⟩
  obtain ⟨g, o, e, hlt, hno, hcell⟩ := h.2.2 hn
  have hne : g ≠ q := fun e2 => by
    subst e2
    have h1 := hcell 0 hn
    rw [Blk.cell hb] at h1
    obtain ⟨b, h2⟩ := hc _ _ h1
    cases h2
  refine ⟨g, o, e, Nat.lt_of_lt_of_le hlt hg.size, hno, fun j hj => ?_⟩
  rw [World.cell?_of_block (a := ⟨g, o + j, none⟩) (hg.block g hlt (fun e2 => hne (by cases e2; rfl)))]
  exact hcell j hj
theorem pmap_bools {bm : Nat} {D : Pgs} (h : PMap w P bm D) (hg : w.grownBy w' (some q)) (hb : Blk w q t cs) (hc : Bools cs) (hne : bm ≠ q) : PMap w' P bm D := by
  obtain ⟨f, h1, h2⟩ := h.m
  refine ⟨⟨f, h1.of_block (hg.block bm h1.lt (fun e => hne (by cases e; rfl))), fun k => ?_⟩, h.ok⟩
  rcases h2 k with a | ⟨p, v, a, b, bv, e, A, n, c, e2, hnc, hd⟩
  · exact .inl a
  · exact .inr ⟨p, v, a, b, bv, e, A, n, c, e2, hnc, data_bools hd hg hb hc⟩
variable {B b tb g sb dm : Nat} {wm : Option Nat} {own : Nat → Prop} {s : Sto}
theorem StoAtG.bools (h : StoAtG lv w B b tb g sb dm wm own s) (hg : w.grownBy w' (some q)) (hb : Blk w q t cs) (hc : Bools cs) (hq : ¬ Foot own tb g sb dm wm q) : StoAtG lv w' B b tb g sb dm wm own s where
  l := h.l.far hg (fun j e ho => hq (.inl (by cases e; exact ho)))
  r := h.r.keep hg (fun e => hq (.inl (.inl (.inr (by cases e; rfl)))))
  c := h.c.grown hg (fun e => hq (.inr (.inl (by cases e; rfl))))
  d := pmap_bools h.d hg hb hc (fun e => hq (.inr (.inr (.inl e.symm))))
  u := fun U hU => by
    obtain ⟨m, e, hm⟩ := h.u U hU
    exact ⟨m, e, pmap_bools hm hg hb hc (fun e2 => hq (.inr (.inr (.inr (by rw [e, e2])))))⟩
  n := h.n
  may := h.may
  osb := h.osb
  odm := h.odm
  owm := h.owm
  low := h.low
end
/-- Which pages there are. -/
def wrC (C : Pgs) : Array Value := ((List.range 20).map fun k => Value.bool (C k).isSome).toArray
theorem wrC_bools (C : Pgs) : Bools (wrC C) := fun i v h => by
  unfold wrC at h
  rw [List.getElem?_toArray, List.getElem?_map] at h
  cases hr : (List.range 20)[i]? with
  | none => rw [hr] at h; cases h
  | some k => rw [hr] at h; cases h; exact ⟨_, rfl⟩
theorem wrC_at (C : Pgs) {k : Nat} (hk : k < 20) : (wrC C)[k]? = some (.bool (C k).isSome) := by
  unfold wrC
  rw [List.getElem?_toArray, List.getElem?_map, List.getElem?_range hk]
  rfl
theorem wrC_size (C : Pgs) : (wrC C).size = 20 := by simp [wrC]
theorem wrC_set (C : Pgs) {k : Nat} (q : Pg) : (wrC C).setIfInBounds k (.bool true) = wrC (upd C k (some q)) := by
  apply Array.ext_getElem?
  intro i
  rw [Array.getElem?_setIfInBounds]
  by_cases hi : i < 20
  · rw [wrC_at _ hi]
    by_cases e : k = i
    · subst e
      rw [if_pos rfl, if_pos (by rw [wrC_size]; exact hi), wrC_at _ hi, upd_same]; rfl
    · rw [if_neg e, wrC_at _ hi, upd_ne _ _ (fun e2 => e e2.symm)]
  · have h1 : (wrC C)[i]? = none := Array.getElem?_eq_none (by rw [wrC_size]; omega)
    have h2 : (wrC (upd C k (some q)))[i]? = none := Array.getElem?_eq_none (by rw [wrC_size]; omega)
    rw [h1, h2]
    split
    · rename_i e
      rw [if_neg (by rw [wrC_size]; omega)]
    · rfl
theorem over_one (C : Pgs) (k : Nat) (q : Pg) : over C (upd noPgs k (some q)) = upd C k (some q) := by
  funext j
  unfold over
  by_cases e : j = k
  · subst e; rw [upd_same, upd_same]
  · rw [upd_ne _ _ e, upd_ne _ _ e]; rfl
end Go.Proofs.YteaokeiolgjhaaaGreat.Sto
/- The walk over the law StoreApart. -/
namespace Go.Proofs.YteaokeiolgjhaaaGreat.StoreApartUpto
open Go.ChangeShapes Go.WideShapes Go.ChangeAt Go.RowKit Go.Maps Go.Shelf
open Crc CrcMath Mem CodecMath Codec DiskSpec Dsk Sup Log Sto

/-- What stays true from deed to deed. -/
structure Ap (W wr : World) (b tb g sb dm gw : Nat) (own : Nat → Prop) (s : Sto) (C : Pgs) (j : Nat) : Prop where
  u : Use W wr 200 20 b tb g sb dm none own s C none
  wt : Blk wr gw 31 (wrC C)
  nw : ¬ Foot own tb g sb dm none gw
  gn : s.x.gn ≤ 3 + j
  ep : s.x.ep = 2
  sq : s.L.seq ≤ 1 + j
  ver : ∀ i, (s.S.ver i).length ≤ j
  kd : ∀ k q, C k = some q → q.1 = 5
theorem Ap.quiet {W wr w' : World} {b tb g sb dm gw : Nat} {own : Nat → Prop} {s : Sto} {C : Pgs} {j : Nat} (h : Ap W wr b tb g sb dm gw own s C j) (hg : wr.grownBy w' none) : Ap W w' b tb g sb dm gw own s C j :=
  ⟨h.u.quiet hg, h.wt.grown hg (by simp), h.nw, h.gn, h.ep, h.sq, h.ver, h.kd⟩
theorem apart_may : mayB (fmtSb 1 20 30 100).l ((200 : Nat) : Int) = true := may_mk (x := fmtSb 1 20 30 100) (by decide) (by decide) (by decide) (by decide) (by decide) (by decide) (by decide)
theorem zero20 (w : World) : (zeroValue 31).run Tryz.prog w = .ok (.agg (wrC noPgs)) w := by kernel_rfl
theorem foot_out {w w' : World} {F F' : Nat → Prop} (ht : Turn w w' F F') {i : Nat} (hi : i < w.heap.size) (hn : ¬ F i) : ¬ F' i := fun e => by
  rcases ht.fresh i e with h1 | h1
  · exact hn h1
  · omega
set_option maxRecDepth 100000 in
set_option maxHeartbeats 6400000 in
theorem walk {H : Type} {enc : TypeId × Value → H} (W : World) (base : Nat) (v0 : Value) (d0 : DataW H) (p0 : List MemPlace)
    (o0 : Value.okWide Tryz.prog W .any base 22 v0)
    (h0 : DataW.Trod enc Tryz.prog W 0 (fun _ => true) true 22 v0 d0 p0)
    (_hsz : (DataW.weightsEach Tryz.prog [22] [d0]).all (· ≤ reachBytes) = true) (hk : Rows.uptoSmall H [d0] = true) :
    Calls Tryz.prog 3 #[v0] W fun e W' => e = .returned (.bool true) ∧ Below W.heap.size W W' := by
  obtain ⟨A, n, c, ops, rfl, hsc, hn⟩ := open_script6 o0 h0 hk (List.mem_cons_self ..)
  have HSC := Lib.hid hsc
  clear o0 h0 hk hsc
  have HN := Lib.hid (show Calls Tryz.prog 10 #[.int .i64 200] W fun e w' => ∃ b bd bm f own, e = .returned (.tuple #[.pointer (some ⟨b, 0, none⟩), .int .i64 0]) ∧ Lay w' W.heap.size b bd bm f (St.new 200) own ∧ W.grownBy w' none from disk_new 200 _ (by omega) (by omega))
  go_enter Tryz.func3, Tryz.ntmps3
  go_wp2_with fail
  refine HN.out.mono ?_
  rintro e w1 ⟨b, bd, bm, f, own, rfl, hl, hg1⟩
  have hf : Calls Tryz.prog 11 #[.pointer (some ⟨b, 0, none⟩), .int .i64 20, .int .i64 30, .int .i64 100] w1 fun e w' => e = .returned (.int .i64 0) ∧ ∃ own' dF, Fmt W w' 200 20 30 100 b own' dF :=
    use_format (W := W) (pg := 20) (st := 30) (ln := 100) (N := 200) ⟨bd, bm, f, hl⟩ hg1 (by omega) apart_may
  have HF := Lib.hid hf
  clear hl hg1 hf HN
  go_wp2_with fail
  refine HF.out.mono ?_
  rintro e w2 ⟨rfl, own2, dF, hfm⟩
  have HO := Lib.hid (use_open_fmt hfm (by omega))
  clear hfm HF
  go_wp2_with fail
  refine HO.out.mono ?_
  rintro e w3 ⟨tb, g, sb, dm, own3, s3, rfl, hb3⟩
  have HB3 := Lib.hid hb3
  have hz20 := zero20
  have hga := World.grownBy_alloc w3 (.cells (wrC noPgs) 31) none
  have HA3 := Lib.hid (show Ap W (w3.alloc (.cells (wrC noPgs) 31)) b tb g sb dm w3.heap.size own3 s3 noPgs 0 from
    ⟨hb3.u.quiet hga, Blk.new w3 _ _, fun e => by have := hb3.u.foot_lt e; omega, by rw [hb3.xs]; exact Nat.le_refl _, by rw [hb3.xs]; rfl, by rw [hb3.ls]; exact Nat.le_refl _, fun i => by rw [hb3.ver i]; exact Nat.le_refl _, fun k q h => by cases h⟩)
  clear hb3 HO hga
  generalize wrC noPgs = zs at *
  go_wp2_with fail
  have HGW := Lib.hid (show W.heap.size ≤ w3.heap.size from HB3.out.u.gr.size)
  clear HB3
  generalize w3.alloc (.cells zs 31) = wa at *
  generalize w3.heap.size = gw at *
  clear hz20
  go_loopw [7, 8, 9] (fun i _ _ wr => ∃ (j : Nat) (ow : Nat → Prop) (s : Sto) (C : Pgs), j ≤ n ∧ i = .int .i64 j ∧ Ap W wr b tb g sb dm gw ow s C j) (fun i _ _ _ => n - (Go.RowKit.intOf i).toNat)
  case atStart => exact ⟨0, _, _, _, Nat.zero_le _, rfl, HA3.out⟩
  case round =>
    clear HA3
    obtain ⟨j, ow, s, C, hj, rfl, ha⟩ := hrel
    have HA := Lib.hid ha
    clear ha
    by_cases hlt : j < n
    · have hjn : (j : Int) < (n : Int) := by omega
      obtain ⟨gc, oc, x, rfl, hx, hxok, e0, e1, e2, e3, e4, e5, e6⟩ := HSC.out.at_ HA.out.u.gr hlt
      have HOK := Lib.hid hxok
      obtain ⟨kd, pa, wh, fi, nu, le, xA, xn, xc, picks⟩ := x
      dsimp only at *
      have hga := World.grownBy_alloc wr (.cells #[.int .i64 kd, .int .i64 pa, .int .i64 wh, .int .i64 fi, .int .i64 nu, .int .i64 le, .slice xA xn xc] 34) none
      have HA1 := Lib.hid (HA.out.quiet hga)
      have HQ1 := Lib.hid (Blk.new wr 34 #[.int .i64 kd, .int .i64 pa, .int .i64 wh, .int .i64 fi, .int .i64 nu, .int .i64 le, .slice xA xn xc])
      have HNQ := Lib.hid (show ¬ Foot ow tb g sb dm none wr.heap.size from fun e => by have := HA.out.u.foot_lt e; omega)
      have HPK := Lib.hid (fun wx => show Calls Tryz.prog 13 #[.int .i64 pa, .int .i64 20] wx fun e w' => (∃ k : Nat, k < 20 ∧ e = .returned (.int .i64 (k : Nat))) ∧ w' = wx from pick_call pa HOK.out.page 20 (by omega) wx)
      have HNW := Lib.hid (show gw < wr.heap.size from HA.out.wt.lt)
      clear hx hxok hga HA
      go_wp2_with fail
      refine (HPK.out _).mono ?_
      rintro e w2 ⟨⟨k, hk, rfl⟩, rfl⟩
      have HBG := Lib.hid (use_begin HA1.out.u)
      clear HPK e0 e1 e2 e3 e4 e5 e6
      go_wp2_with fail
      generalize wr.alloc (.cells #[.int .i64 kd, .int .i64 pa, .int .i64 wh, .int .i64 fi, .int .i64 nu, .int .i64 le, .slice xA xn xc] 34) = wb at *
      generalize wr.heap.size = xb at *
      refine HBG.out.mono ?_
      rintro e w3 ⟨rfl, wm3, hu3, ht3⟩
      have HU3 := Lib.hid hu3
      have HQ3 := Lib.hid (blk_of_block HQ1.out (ht3.block xb HQ1.out.lt HNQ.out))
      have HN3 := Lib.hid (foot_out ht3 HQ1.out.lt HNQ.out)
      have HW3 := Lib.hid (blk_of_block HA1.out.wt (ht3.block gw HA1.out.wt.lt HA1.out.nw))
      have HG3 := Lib.hid (foot_out ht3 HA1.out.wt.lt HA1.out.nw)
      clear hu3 ht3 HBG HQ1 HNQ
      have y3 := HQ3.out.cell 3
      simp only [List.getElem?_toArray, List.getElem?_cons_zero, List.getElem?_cons_succ] at y3
      have HPC := Lib.hid (page_call 0 0 5 fi 0 0 (.slice none 0 0) ⟨none, 0, 0, rfl⟩ (by decide) w3)
      go_wp2_with fail
      refine HPC.out.mono ?_
      rintro e w4 ⟨gp, rfl, hgp, hbp, hg4⟩
      have hdp := data_of_blk (own := Foot ow tb g sb dm wm3) hbp (bodyOne_lt fi) (fun e => by have := HU3.out.foot_lt e; omega)
      rw [bodyOne_len] at hdp
      have HWR := Lib.hid (use_write (HU3.out.quiet hg4) hk (v := .agg #[.int .i64 5, .slice (some ⟨gp, 0, none⟩) 240 240]) (q := ((5 : Int), bodyOne fi)) ⟨_, rfl, _, _, _, rfl, Nat.le_refl _, hdp⟩ (one_ok k (by omega) fi) (by rw [(keys_nil PgsOk.none_).2 rfl]; simp))
      have HQ4 := Lib.hid (HQ3.out.grown hg4 (by simp))
      have HW4 := Lib.hid (HW3.out.grown hg4 (by simp))
      clear hgp hbp hg4 hdp HPC HU3 HQ3 HW3 y3
      go_wp2_with fail
      refine HWR.out.mono ?_
      rintro e w5 ⟨rfl, own5, hu5, ht5⟩
      have HU5 := Lib.hid hu5
      have HQ5 := Lib.hid (blk_of_block HQ4.out (ht5.block xb HQ4.out.lt HN3.out))
      have HW5 := Lib.hid (blk_of_block HW4.out (ht5.block gw HW4.out.lt HG3.out))
      have HG5 := Lib.hid (foot_out ht5 HW4.out.lt HG3.out)
      clear hu5 ht5 HWR HQ4 HW4 HN3 HG3
      have y4 := HQ5.out.cell 4
      simp only [List.getElem?_toArray, List.getElem?_cons_zero, List.getElem?_cons_succ] at y4
      obtain ⟨tm, htm⟩ : ∃ tm, nu.tmod 2 = tm := ⟨_, rfl⟩
      by_cases h0 : tm = 0
      · have h0b : (tm == 0) = true := by simp [h0]
        have HAB := Lib.hid (use_abort HU5.out)
        go_wp2_with fail
        refine HAB.out.mono ?_
        rintro e w6 ⟨rfl, hu6, ht6⟩
        have HAR := Lib.hid (show Ap W w6 b tb g sb dm gw own5 { s with W := none } C (j + 1) from
          ⟨hu6, blk_of_block HW5.out (ht6.block gw HW5.out.lt HG5.out), foot_out ht6 HW5.out.lt HG5.out, by have := HA1.out.gn; show s.x.gn ≤ _; omega, HA1.out.ep, by have := HA1.out.sq; show s.L.seq ≤ _; omega, fun i => by have := HA1.out.ver i; show (s.S.ver i).length ≤ _; omega, HA1.out.kd⟩)
        clear hu6 ht6 HAB HU5 HQ5 HW5 HG5 y4
        go_wp2_with fail
        go_roundw
        case rel => exact ⟨j + 1, own5, _, C, by omega, by first | rfl | simp, HAR.out⟩
        case measure => simp [Go.RowKit.intOf]; omega
      · have h0b : (tm == 0) = false := by simpa using h0
        have HCM := Lib.hid (use_commit HU5.out (by have := HA1.out.gn; show s.x.gn < _; omega) (by have := HA1.out.ep; show s.x.ep ≤ _; omega) (by have := HA1.out.sq; show s.L.seq ≤ _; omega) (fun i => by have := HA1.out.ver i; show (s.S.ver i).length < _; omega))
        go_wp2_with fail
        refine HCM.out.mono ?_
        rintro e w6 ⟨rfl, own6, s6, hu6, hn6, ht6⟩
        have hw6 := blk_of_block HW5.out (ht6.block gw HW5.out.lt HG5.out)
        have hg6 := foot_out ht6 HW5.out.lt HG5.out
        have hkn : (k : Int) < 20 := by omega
        have zc := hw6.cell k
        rw [wrC_at _ hk] at zc
        have zf := hw6.frozen k
        have hgs := Lib.grownBy_setB (World.grownBy.refl w6 (some gw)) k (.bool true)
        have hset := hw6.set_ k (.bool true)
        rw [wrC_set C ((5 : Int), bodyOne fi)] at hset
        have HAR := Lib.hid (show Ap W (w6.setCell ⟨gw, k, none⟩ (.bool true)) b tb g sb dm gw own6 s6 (upd C k (some ((5 : Int), bodyOne fi))) (j + 1) from by
          have hu7 := hu6
          rw [over_one] at hu7
          refine ⟨⟨hu7.at_.bools hgs hw6 (wrC_bools C) hg6, hu7.gr.andThen hgs (fun q hq => .inl ?_), hu7.gd, hu7.w, hu7.sees⟩, hset, hg6, ?_, ?_, ?_, fun i => ?_, fun i q hi => ?_⟩
          · cases hq
            exact HGW.out
          · have h1 := hn6.gn.2; have h2 := HA1.out.gn
            have h3 : s6.x.gn ≤ s.x.gn + 1 := h1
            omega
          · exact hn6.ep.trans HA1.out.ep
          · have h1 := hn6.seq.2; have h2 := HA1.out.sq
            have h3 : s6.L.seq ≤ s.L.seq + 1 := h1
            omega
          · have h1 := hn6.ver i; have h2 := HA1.out.ver i
            have h3 : (s6.S.ver i).length ≤ (s.S.ver i).length + 1 := h1
            omega
          · by_cases e : i = k
            · subst e
              rw [upd_same] at hi
              cases hi; rfl
            · rw [upd_ne _ _ e] at hi
              exact HA1.out.kd i q hi)
        clear hu6 ht6 hn6 hw6 hg6 hgs hset HCM HU5 HQ5 HW5 HG5 y4
        go_wp2_with fail
        go_roundw
        case rel => exact ⟨j + 1, own6, s6, _, by omega, by first | rfl | simp, HAR.out⟩
        case measure => simp [Go.RowKit.intOf]; omega
    · have hje : j = n := by omega
      have hjn : ¬ ((j : Int) < (n : Int)) := by omega
      clear HSC
      go_wp2_with fail
      generalize wr = wl at *
      go_loopw [10, 11, 12] (fun i _ _ wx => ∃ q : Nat, q ≤ 20 ∧ i = .int .i64 q ∧ Ap W wx b tb g sb dm gw ow s C j) (fun i _ _ _ => 20 - (Go.RowKit.intOf i).toNat)
      case atStart => exact ⟨0, by omega, rfl, HA.out⟩
      case round =>
        clear HA
        obtain ⟨q, hq, rfl, ha⟩ := hrel
        have HA := Lib.hid ha
        clear ha
        by_cases hlq : q < 20
        · have hqn : (q : Int) < 20 := by omega
          have HRD := Lib.hid (use_read HA.out.u hlq)
          go_wp2_with fail
          refine HRD.out.mono ?_
          rintro e w2 ⟨v, rfl, hv, hu2, ht2⟩
          have hv2 : PgV w2 (fun i => i < wr.heap.size) v ((C q).getD (0, [])) := hv
          have HA2 := Lib.hid (show Ap W w2 b tb g sb dm gw ow s C j from ⟨hu2, blk_of_block HA.out.wt (ht2.block gw HA.out.wt.lt HA.out.nw), HA.out.nw, HA.out.gn, HA.out.ep, HA.out.sq, HA.out.ver, HA.out.kd⟩)
          obtain ⟨_, rfl, Av, nv, cv, rfl, hnc, hdv⟩ := hv2
          have hkd : ((C q).getD (0, [])).1 = if (C q).isSome then 5 else 0 := by
            cases hC : C q with
            | none => rfl
            | some r => exact HA.out.kd q r hC
          rw [hkd]
          clear hv hu2 ht2 hnc hdv hkd HRD HA
          have hga := World.grownBy_alloc w2 (.cells #[.int .i64 (if (C q).isSome then 5 else 0), .slice Av nv cv] 40) none
          have HA3 := Lib.hid (HA2.out.quiet hga)
          have hbx := Blk.new w2 40 #[.int .i64 (if (C q).isSome then 5 else 0), .slice Av nv cv]
          have x0 := hbx.cell 0
          simp only [List.getElem?_toArray, List.getElem?_cons_zero] at x0
          have z0 := HA3.out.wt.cell q
          rw [wrC_at _ hlq] at z0
          clear hga hbx HA2
          cases hC : (C q).isSome with
          | false =>
            rw [hC] at x0 z0 HA3
            simp only [Bool.false_eq_true, if_false] at x0 z0 HA3 ⊢
            go_wp2_with fail
            generalize w2.alloc (.cells #[.int .i64 0, .slice Av nv cv] 40) = wz at *
            go_quiet (fail)
            go_wp2_with fail
            exact ⟨⟨q + 1, by omega, by simp, HA3.out.quiet (grown_drewN (World.grownBy.refl _ _) _)⟩, by simp [Go.RowKit.intOf]; omega⟩
          | true =>
            rw [hC] at x0 z0 HA3
            simp only [if_true] at x0 z0 HA3 ⊢
            go_wp2_with fail
            generalize w2.alloc (.cells #[.int .i64 5, .slice Av nv cv] 40) = wz at *
            go_quiet (fail)
            go_wp2_with fail
            exact ⟨⟨q + 1, by omega, by simp, HA3.out.quiet (grown_drewN (World.grownBy.refl _ _) _)⟩, by simp [Go.RowKit.intOf]; omega⟩
        · have hqe : q = 20 := by omega
          have hqn : ¬ ((q : Int) < 20) := by omega
          have HLV := Lib.hid (lives_call wr)
          go_wp2_with fail
          refine HLV.out.mono ?_
          rintro e w2 ⟨rfl, hg2⟩
          have HE := Lib.hid (HA.out.u.gr.trans hg2)
          clear hg2 HLV
          go_wp2_with fail
          go_ret
          exact ⟨rfl, below_of_grown HE.out (Nat.le_refl _) (fun _ e => by cases e)⟩
end Go.Proofs.YteaokeiolgjhaaaGreat.StoreApartUpto
