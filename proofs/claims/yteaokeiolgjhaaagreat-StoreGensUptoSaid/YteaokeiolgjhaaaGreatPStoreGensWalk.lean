/- The walk over the law StoreGens. -/
import Derived.Test.YteaokeiolgjhaaaGreatPStoBools
import Derived.Deep.DeepCutAuto
import Derived.Deep.CutBlock
import Derived.Deep.RegionHeld3
import Derived.Laws.StructEq
namespace Go.Proofs.YteaokeiolgjhaaaGreat.StoreGensUpto
open Go.ChangeShapes Go.WideShapes Go.ChangeAt Go.RowKit Go.Maps Go.Shelf
open Crc CrcMath Mem CodecMath Codec DiskSpec Dsk Sup Log Sto

/-- What stays true from deed to deed. -/
structure Gn (W wr : World) (b tb g sb dm : Nat) (own : Nat → Prop) (s : Sto) (C : Pgs) (j : Nat) : Prop where
  u : Use W wr 300 20 b tb g sb dm none own s C none
  gn : s.x.gn ≤ 3 + 4 * j
  ep : s.x.ep ≤ 2 + 2 * j
  sq : s.L.seq ≤ 1 + 4 * j
  ver : ∀ i, (s.S.ver i).length ≤ 4 * j
theorem Gn.quiet {W wr w' : World} {b tb g sb dm : Nat} {own : Nat → Prop} {s : Sto} {C : Pgs} {j : Nat} (h : Gn W wr b tb g sb dm own s C j) (hg : wr.grownBy w' none) : Gn W w' b tb g sb dm own s C j :=
  ⟨h.u.quiet hg, h.gn, h.ep, h.sq, h.ver⟩
theorem gens_may : mayB (fmtSb 1 20 30 100).l ((300 : Nat) : Int) = true := may_mk (x := fmtSb 1 20 30 100) (by decide) (by decide) (by decide) (by decide) (by decide) (by decide) (by decide)
theorem foot_out {w w' : World} {F F' : Nat → Prop} (ht : Turn w w' F F') {i : Nat} (hi : i < w.heap.size) (hn : ¬ F i) : ¬ F' i := fun e => by
  rcases ht.fresh i e with h1 | h1
  · exact hn h1
  · omega
/-- A deed in the law's variable. -/
structure DV (w : World) (F : Nat → Prop) (xb : Nat) (kd pa wh fi nu le : Int) (A : Option Addr) (n c : Nat) : Prop where
  b : Blk w xb 34 #[.int .i64 kd, .int .i64 pa, .int .i64 wh, .int .i64 fi, .int .i64 nu, .int .i64 le, .slice A n c]
  n : ¬ F xb
section
variable {w w' : World} {F F' : Nat → Prop} {xb : Nat} {kd pa wh fi nu le : Int} {A : Option Addr} {n c : Nat}
theorem DV.turn (h : DV w F xb kd pa wh fi nu le A n c) (ht : Turn w w' F F') : DV w' F' xb kd pa wh fi nu le A n c :=
  ⟨blk_of_block h.b (ht.block xb h.b.lt h.n), foot_out ht h.b.lt h.n⟩
theorem DV.quiet (h : DV w F xb kd pa wh fi nu le A n c) (hg : w.grownBy w' none) : DV w' F xb kd pa wh fi nu le A n c := h.turn (Turn.none_ hg)
theorem DV.cells (h : DV w F xb kd pa wh fi nu le A n c) : w.cell? ⟨xb, 0, none⟩ = some (.int .i64 kd) ∧ w.cell? ⟨xb, 1, none⟩ = some (.int .i64 pa) ∧ w.cell? ⟨xb, 3, none⟩ = some (.int .i64 fi) ∧ w.cell? ⟨xb, 4, none⟩ = some (.int .i64 nu) ∧ w.cell? ⟨xb, 5, none⟩ = some (.int .i64 le) ∧ w.cell? ⟨xb, 6, none⟩ = some (.slice A n c) :=
  ⟨by rw [h.b.cell]; rfl, by rw [h.b.cell]; rfl, by rw [h.b.cell]; rfl, by rw [h.b.cell]; rfl, by rw [h.b.cell]; rfl, by rw [h.b.cell]; rfl⟩
end
theorem super_is {w : World} {B b tb g sb dm : Nat} {wm : Option Nat} {own : Nat → Prop} {s : Sto} (h : StoAt w B b tb g sb dm wm own s) : Calls Tryz.prog 24 #[.pointer (some ⟨sb, 0, none⟩)] w fun e w' =>
    e = .returned (.agg #[.int .i64 (s.x.gn : Nat), .int .i64 (s.x.ep : Nat), .int .i64 (s.x.pg : Nat), .int .i64 (s.x.st : Nat), .int .i64 (s.x.ln : Nat), .int .i64 (s.x.hd : Nat), .int .i64 (s.x.sq : Nat)]) ∧ w.grownBy w' none := sto_super h
theorem field0 (a0 a1 a2 a3 a4 a5 a6 : Int) (w : World) : (Instr.field 49 (.agg #[.int .i64 a0, .int .i64 a1, .int .i64 a2, .int .i64 a3, .int .i64 a4, .int .i64 a5, .int .i64 a6]) 0).run Tryz.prog w = .ok (.int .i64 a0) w := by kernel_rfl
theorem field1 (a0 a1 a2 a3 a4 a5 a6 : Int) (w : World) : (Instr.field 49 (.agg #[.int .i64 a0, .int .i64 a1, .int .i64 a2, .int .i64 a3, .int .i64 a4, .int .i64 a5, .int .i64 a6]) 1).run Tryz.prog w = .ok (.int .i64 a1) w := by kernel_rfl
theorem field5 (a0 a1 a2 a3 a4 a5 a6 : Int) (w : World) : (Instr.field 49 (.agg #[.int .i64 a0, .int .i64 a1, .int .i64 a2, .int .i64 a3, .int .i64 a4, .int .i64 a5, .int .i64 a6]) 5).run Tryz.prog w = .ok (.int .i64 a5) w := by kernel_rfl
theorem field6 (a0 a1 a2 a3 a4 a5 a6 : Int) (w : World) : (Instr.field 49 (.agg #[.int .i64 a0, .int .i64 a1, .int .i64 a2, .int .i64 a3, .int .i64 a4, .int .i64 a5, .int .i64 a6]) 6).run Tryz.prog w = .ok (.int .i64 a6) w := by kernel_rfl
/-- A store, its deed and its superblock in the law's variables. -/
structure Gw (W w : World) (b tb g sb dm : Nat) (own : Nat → Prop) (s : Sto) (C : Pgs) (xb wb : Nat) (kd pa wh fi nu le : Int) (A : Option Addr) (n c : Nat) (a0 a1 a2 a3 a4 a5 a6 : Int) : Prop where
  u : Use W w 300 20 b tb g sb dm none own s C none
  d : DV w (Foot own tb g sb dm none) xb kd pa wh fi nu le A n c
  v : WV w (Foot own tb g sb dm none) wb a0 a1 a2 a3 a4 a5 a6
  ne : xb ≠ wb
  lo : W.heap.size ≤ wb
section
variable {W w w' : World} {b tb g sb dm : Nat} {own : Nat → Prop} {s : Sto} {C : Pgs} {xb wb : Nat} {kd pa wh fi nu le : Int} {A : Option Addr} {n c : Nat} {a0 a1 a2 a3 a4 a5 a6 : Int}
theorem Gw.quiet (h : Gw W w b tb g sb dm own s C xb wb kd pa wh fi nu le A n c a0 a1 a2 a3 a4 a5 a6) (hg : w.grownBy w' none) : Gw W w' b tb g sb dm own s C xb wb kd pa wh fi nu le A n c a0 a1 a2 a3 a4 a5 a6 := ⟨h.u.quiet hg, h.d.quiet hg, h.v.quiet hg, h.ne, h.lo⟩
theorem Gw.to (h : Gw W w b tb g sb dm own s C xb wb kd pa wh fi nu le A n c a0 a1 a2 a3 a4 a5 a6) {tb' g' sb' dm' : Nat} {own' : Nat → Prop} {s' : Sto} {C' : Pgs} (hu : Use W w' 300 20 b tb' g' sb' dm' none own' s' C' none) (ht : Turn w w' (Foot own tb g sb dm none) (Foot own' tb' g' sb' dm' none)) : Gw W w' b tb' g' sb' dm' own' s' C' xb wb kd pa wh fi nu le A n c a0 a1 a2 a3 a4 a5 a6 :=
  ⟨hu, h.d.turn ht, h.v.turn ht, h.ne, h.lo⟩
theorem Gw.set (h : Gw W w b tb g sb dm own s C xb wb kd pa wh fi nu le A n c a0 a1 a2 a3 a4 a5 a6) {b0 b1 b2 b3 b4 b5 b6 : Int} (hg : w.grownBy w' (some wb)) (hb : Blk w' wb 49 #[.int .i64 b0, .int .i64 b1, .int .i64 b2, .int .i64 b3, .int .i64 b4, .int .i64 b5, .int .i64 b6]) : Gw W w' b tb g sb dm own s C xb wb kd pa wh fi nu le A n c b0 b1 b2 b3 b4 b5 b6 :=
  ⟨h.u.nou8 hg h.v.b (sup_nou8 _ _ _ _ _ _ _) h.v.n h.lo, ⟨h.d.b.grown hg (fun e => h.ne (by cases e; rfl)), h.d.n⟩, ⟨hb, h.v.n⟩, h.ne, h.lo⟩
theorem Gw.set0 (h : Gw W w b tb g sb dm own s C xb wb kd pa wh fi nu le A n c a0 a1 a2 a3 a4 a5 a6) (z : Int) : Gw W (w.setCell ⟨wb, 0, none⟩ (.int .i64 z)) b tb g sb dm own s C xb wb kd pa wh fi nu le A n c z a1 a2 a3 a4 a5 a6 := h.set (Lib.grownBy_setB (World.grownBy.refl w (some wb)) 0 _) (h.v.b.set_ 0 (.int .i64 z))
theorem Gw.set1 (h : Gw W w b tb g sb dm own s C xb wb kd pa wh fi nu le A n c a0 a1 a2 a3 a4 a5 a6) (z : Int) : Gw W (w.setCell ⟨wb, 1, none⟩ (.int .i64 z)) b tb g sb dm own s C xb wb kd pa wh fi nu le A n c a0 z a2 a3 a4 a5 a6 := h.set (Lib.grownBy_setB (World.grownBy.refl w (some wb)) 1 _) (h.v.b.set_ 1 (.int .i64 z))
theorem Gw.set3 (h : Gw W w b tb g sb dm own s C xb wb kd pa wh fi nu le A n c a0 a1 a2 a3 a4 a5 a6) (z : Int) : Gw W (w.setCell ⟨wb, 3, none⟩ (.int .i64 z)) b tb g sb dm own s C xb wb kd pa wh fi nu le A n c a0 a1 a2 z a4 a5 a6 := h.set (Lib.grownBy_setB (World.grownBy.refl w (some wb)) 3 _) (h.v.b.set_ 3 (.int .i64 z))
theorem Gw.set4 (h : Gw W w b tb g sb dm own s C xb wb kd pa wh fi nu le A n c a0 a1 a2 a3 a4 a5 a6) (z : Int) : Gw W (w.setCell ⟨wb, 4, none⟩ (.int .i64 z)) b tb g sb dm own s C xb wb kd pa wh fi nu le A n c a0 a1 a2 a3 z a5 a6 := h.set (Lib.grownBy_setB (World.grownBy.refl w (some wb)) 4 _) (h.v.b.set_ 4 (.int .i64 z))
theorem Gw.set5 (h : Gw W w b tb g sb dm own s C xb wb kd pa wh fi nu le A n c a0 a1 a2 a3 a4 a5 a6) (z : Int) : Gw W (w.setCell ⟨wb, 5, none⟩ (.int .i64 z)) b tb g sb dm own s C xb wb kd pa wh fi nu le A n c a0 a1 a2 a3 a4 z a6 := h.set (Lib.grownBy_setB (World.grownBy.refl w (some wb)) 5 _) (h.v.b.set_ 5 (.int .i64 z))
theorem Gw.set6 (h : Gw W w b tb g sb dm own s C xb wb kd pa wh fi nu le A n c a0 a1 a2 a3 a4 a5 a6) (z : Int) : Gw W (w.setCell ⟨wb, 6, none⟩ (.int .i64 z)) b tb g sb dm own s C xb wb kd pa wh fi nu le A n c a0 a1 a2 a3 a4 a5 z := h.set (Lib.grownBy_setB (World.grownBy.refl w (some wb)) 6 _) (h.v.b.set_ 6 (.int .i64 z))
end
theorem neq_sup (a0 a1 a2 a3 a4 a5 a6 : Int) (w : World) : (binOp .neq 49 (.agg #[.int .i64 a0, .int .i64 a1, .int .i64 a2, .int .i64 a3, .int .i64 a4, .int .i64 a5, .int .i64 a6]) (.agg #[.int .i64 a0, .int .i64 a1, .int .i64 a2, .int .i64 a3, .int .i64 a4, .int .i64 a5, .int .i64 a6])).run Tryz.prog w = .ok (.bool false) w := by
  go_simp
section
variable {w : World} {F F' : Nat → Prop}
theorem DV.weak {xb : Nat} {kd pa wh fi nu le : Int} {A : Option Addr} {n c : Nat} (h : DV w F xb kd pa wh fi nu le A n c) (hq : ∀ i, F' i → F i) : DV w F' xb kd pa wh fi nu le A n c := ⟨h.b, fun e => h.n (hq _ e)⟩
theorem wv_weak {wb : Nat} {a0 a1 a2 a3 a4 a5 a6 : Int} (h : WV w F wb a0 a1 a2 a3 a4 a5 a6) (hq : ∀ i, F' i → F i) : WV w F' wb a0 a1 a2 a3 a4 a5 a6 := ⟨h.b, fun e => h.n (hq _ e)⟩
end
/-- Behind the switch of kinds. -/
structure Cu (W w : World) (b tb g sb dm : Nat) (own : Nat → Prop) (s : Sto) (C : Pgs) (xb wb : Nat) (kd pa wh fi nu le : Int) (A : Option Addr) (n c j : Nat) : Prop where
  w : Gw W w b tb g sb dm own s C xb wb kd pa wh fi nu le A n c (s.x.gn : Nat) (s.x.ep : Nat) (s.x.pg : Nat) (s.x.st : Nat) (s.x.ln : Nat) (s.x.hd : Nat) (s.x.sq : Nat)
  gn : s.x.gn ≤ 3 + 4 * j + 2
  ep : s.x.ep ≤ 2 + 2 * j + 1
  sq : s.L.seq ≤ 1 + 4 * j + 1
  ver : ∀ i, (s.S.ver i).length ≤ 4 * j + 1
set_option maxRecDepth 100000 in
set_option maxHeartbeats 12800000 in
theorem walk {H : Type} {enc : TypeId × Value → H} (W : World) (base : Nat) (v0 : Value) (d0 : DataW H) (p0 : List MemPlace)
    (o0 : Value.okWide Tryz.prog W .any base 22 v0)
    (h0 : DataW.Trod enc Tryz.prog W 0 (fun _ => true) true 22 v0 d0 p0)
    (_hsz : (DataW.weightsEach Tryz.prog [22] [d0]).all (· ≤ reachBytes) = true) (hk : Rows.uptoSmall H [d0] = true) :
    Calls Tryz.prog 6 #[v0] W fun e W' => e = .returned (.bool true) ∧ Below W.heap.size W W' := by
  obtain ⟨A, n, c, ops, rfl, hsc, hn⟩ := open_script6 o0 h0 hk (List.mem_cons_self ..)
  have HSC := Lib.hid hsc
  clear o0 h0 hk hsc
  have HN := Lib.hid (show Calls Tryz.prog 10 #[.int .i64 300] W fun e w' => ∃ b bd bm f own, e = .returned (.tuple #[.pointer (some ⟨b, 0, none⟩), .int .i64 0]) ∧ Lay w' W.heap.size b bd bm f (St.new 300) own ∧ W.grownBy w' none from disk_new 300 _ (by omega) (by omega))
  go_enter Tryz.func6, Tryz.ntmps6
  go_wp2_with fail
  refine HN.out.mono ?_
  rintro e w1 ⟨b, bd, bm, f, own, rfl, hl, hg1⟩
  have hf : Calls Tryz.prog 11 #[.pointer (some ⟨b, 0, none⟩), .int .i64 20, .int .i64 30, .int .i64 100] w1 fun e w' => e = .returned (.int .i64 0) ∧ ∃ own' dF, Fmt W w' 300 20 30 100 b own' dF :=
    use_format (W := W) (pg := 20) (st := 30) (ln := 100) (N := 300) ⟨bd, bm, f, hl⟩ hg1 (by omega) gens_may
  have HF := Lib.hid hf
  clear hl hg1 hf HN
  go_wp2_with fail
  refine HF.out.mono ?_
  rintro e w2 ⟨rfl, own2, dF, hfm⟩
  have HO := Lib.hid (use_open_fmt hfm (by omega))
  clear hfm HF
  go_wp2_with fail
  refine HO.out.mono ?_
  rintro e w3 ⟨tb, g, sb, dm, own3, s3, rfl, hb3⟩
  have HA3 := Lib.hid (show Gn W w3 b tb g sb dm own3 s3 noPgs 0 from
    ⟨hb3.u, by rw [hb3.xs]; exact Nat.le_refl _, by rw [hb3.xs]; exact Nat.le_refl _, by rw [hb3.ls]; exact Nat.le_refl _, fun i => by rw [hb3.ver i]; exact Nat.le_refl _⟩)
  clear hb3 HO
  have hfl0 := field0
  have hfl1 := field1
  have hfl5 := field5
  have hfl6 := field6
  go_wp2_with fail
  go_loopw [4, 5, 6, 7, 8, 9, 10, 11, 12, 13] (fun _ p5 i _ _ _ _ _ _ _ wr => ∃ (j tb g sb dm : Nat) (ow : Nat → Prop) (s : Sto) (C : Pgs), j ≤ n ∧ i = .int .i64 j ∧ p5 = .pointer (some ⟨sb, 0, none⟩) ∧ Gn W wr b tb g sb dm ow s C j) (fun _ _ i _ _ _ _ _ _ _ _ => n - (Go.RowKit.intOf i).toNat)
  case atStart => exact ⟨0, _, _, _, _, _, _, _, Nat.zero_le _, rfl, rfl, HA3.out⟩
  case round =>
    clear HA3
    obtain ⟨j, tb, g, sb, dm, ow, s, C, hj, rfl, rfl, ha⟩ := hrel
    have HA := Lib.hid ha
    clear ha
    by_cases hlt : j < n
    · have hjn : (j : Int) < (n : Int) := by omega
      obtain ⟨gc, oc, x, rfl, hx, hxok, e0, e1, e2, e3, e4, e5, e6⟩ := HSC.out.at_ HA.out.u.gr hlt
      have HOK := Lib.hid hxok
      obtain ⟨kd, pa, wh, fi, nu, le, xA, xn, xc, pks⟩ := x
      dsimp only at *
      have hga := World.grownBy_alloc wr (.cells #[.int .i64 kd, .int .i64 pa, .int .i64 wh, .int .i64 fi, .int .i64 nu, .int .i64 le, .slice xA xn xc] 34) none
      have HA1 := Lib.hid (HA.out.quiet hga)
      have HX1 := Lib.hid (show DV (wr.alloc (.cells #[.int .i64 kd, .int .i64 pa, .int .i64 wh, .int .i64 fi, .int .i64 nu, .int .i64 le, .slice xA xn xc] 34)) (Foot ow tb g sb dm none) wr.heap.size kd pa wh fi nu le xA xn xc from ⟨Blk.new wr _ _, fun e => by have := HA.out.u.foot_lt e; omega⟩)
      have HS1 := Lib.hid (super_is HA1.out.u.at_)
      clear hx hxok hga HA
      go_wp2_with fail
      generalize wr.alloc (.cells #[.int .i64 kd, .int .i64 pa, .int .i64 wh, .int .i64 fi, .int .i64 nu, .int .i64 le, .slice xA xn xc] 34) = wb at *
      generalize wr.heap.size = xb at *
      refine HS1.out.mono ?_
      rintro e w4 ⟨rfl, hg4⟩
      have hbn := Blk.new w4 49 #[.int .i64 (s.x.gn : Nat), .int .i64 (s.x.ep : Nat), .int .i64 (s.x.pg : Nat), .int .i64 (s.x.st : Nat), .int .i64 (s.x.ln : Nat), .int .i64 (s.x.hd : Nat), .int .i64 (s.x.sq : Nat)]
      have x0 := hbn.cell 0; have x1 := hbn.cell 1; have x2 := hbn.cell 2; have x3 := hbn.cell 3; have x4 := hbn.cell 4; have x5 := hbn.cell 5; have x6 := hbn.cell 6
      simp only [List.getElem?_toArray, List.getElem?_cons_zero, List.getElem?_cons_succ] at x0 x1 x2 x3 x4 x5 x6
      have hgb := World.grownBy_alloc w4 (.cells #[.int .i64 (s.x.gn : Nat), .int .i64 (s.x.ep : Nat), .int .i64 (s.x.pg : Nat), .int .i64 (s.x.st : Nat), .int .i64 (s.x.ln : Nat), .int .i64 (s.x.hd : Nat), .int .i64 (s.x.sq : Nat)] 49) none
      have HG5 := Lib.hid (hg4.trans hgb)
      have HPK := Lib.hid (fun wx => show Calls Tryz.prog 13 #[.int .i64 kd, .int .i64 5] wx fun e w' => (∃ k : Nat, k < 5 ∧ e = .returned (.int .i64 (k : Nat))) ∧ w' = wx from pick_call kd HOK.out.kind 5 (by omega) wx)
      obtain ⟨y0, _, _, _, _, _⟩ := ((HX1.out.quiet HG5.out).quiet (World.grownBy_alloc (w4.alloc (.cells #[.int .i64 (s.x.gn : Nat), .int .i64 (s.x.ep : Nat), .int .i64 (s.x.pg : Nat), .int .i64 (s.x.st : Nat), .int .i64 (s.x.ln : Nat), .int .i64 (s.x.hd : Nat), .int .i64 (s.x.sq : Nat)] 49)) (.cells #[.int .i64 (s.x.gn : Nat), .int .i64 (s.x.ep : Nat), .int .i64 (s.x.pg : Nat), .int .i64 (s.x.st : Nat), .int .i64 (s.x.ln : Nat), .int .i64 (s.x.hd : Nat), .int .i64 (s.x.sq : Nat)] 49) none)).cells
      have HGW := Lib.hid (show Gw W ((w4.alloc (.cells #[.int .i64 (s.x.gn : Nat), .int .i64 (s.x.ep : Nat), .int .i64 (s.x.pg : Nat), .int .i64 (s.x.st : Nat), .int .i64 (s.x.ln : Nat), .int .i64 (s.x.hd : Nat), .int .i64 (s.x.sq : Nat)] 49)).alloc (.cells #[.int .i64 (s.x.gn : Nat), .int .i64 (s.x.ep : Nat), .int .i64 (s.x.pg : Nat), .int .i64 (s.x.st : Nat), .int .i64 (s.x.ln : Nat), .int .i64 (s.x.hd : Nat), .int .i64 (s.x.sq : Nat)] 49)) b tb g sb dm ow s C xb (w4.heap.size + 1) kd pa wh fi nu le xA xn xc (s.x.gn : Nat) (s.x.ep : Nat) (s.x.pg : Nat) (s.x.st : Nat) (s.x.ln : Nat) (s.x.hd : Nat) (s.x.sq : Nat) from by
        have hgc := World.grownBy_alloc (w4.alloc (.cells #[.int .i64 (s.x.gn : Nat), .int .i64 (s.x.ep : Nat), .int .i64 (s.x.pg : Nat), .int .i64 (s.x.st : Nat), .int .i64 (s.x.ln : Nat), .int .i64 (s.x.hd : Nat), .int .i64 (s.x.sq : Nat)] 49)) (.cells #[.int .i64 (s.x.gn : Nat), .int .i64 (s.x.ep : Nat), .int .i64 (s.x.pg : Nat), .int .i64 (s.x.st : Nat), .int .i64 (s.x.ln : Nat), .int .i64 (s.x.hd : Nat), .int .i64 (s.x.sq : Nat)] 49) none
        have hbv := Blk.new (w4.alloc (.cells #[.int .i64 (s.x.gn : Nat), .int .i64 (s.x.ep : Nat), .int .i64 (s.x.pg : Nat), .int .i64 (s.x.st : Nat), .int .i64 (s.x.ln : Nat), .int .i64 (s.x.hd : Nat), .int .i64 (s.x.sq : Nat)] 49)) 49 #[.int .i64 (s.x.gn : Nat), .int .i64 (s.x.ep : Nat), .int .i64 (s.x.pg : Nat), .int .i64 (s.x.st : Nat), .int .i64 (s.x.ln : Nat), .int .i64 (s.x.hd : Nat), .int .i64 (s.x.sq : Nat)]
        rw [show (w4.alloc (.cells #[.int .i64 (s.x.gn : Nat), .int .i64 (s.x.ep : Nat), .int .i64 (s.x.pg : Nat), .int .i64 (s.x.st : Nat), .int .i64 (s.x.ln : Nat), .int .i64 (s.x.hd : Nat), .int .i64 (s.x.sq : Nat)] 49)).heap.size = w4.heap.size + 1 from by simp] at hbv
        have hs4 := hg4.size
        have hxl := HX1.out.b.lt
        have hul := HA1.out.u.gr.size
        exact ⟨(HA1.out.u.quiet HG5.out).quiet hgc, (HX1.out.quiet HG5.out).quiet hgc, ⟨hbv, fun e => by have := HA1.out.u.foot_lt e; omega⟩, by omega, by omega⟩)
      have HGN := Lib.hid HA1.out.gn; have HEP := Lib.hid HA1.out.ep; have HSQ := Lib.hid HA1.out.sq; have HVV := Lib.hid HA1.out.ver
      clear hbn HS1 e0 e1 e2 e3 e4 e5 e6 hg4 hgb
      go_wp2_with fail
      refine (HPK.out _).mono ?_
      rintro e w5 ⟨⟨m, hm, rfl⟩, rfl⟩
      clear HPK y0 x0 x1 x2 x3 x4 x5 x6 HX1 HG5 HA1
      generalize ((w4.alloc (.cells #[.int .i64 (s.x.gn : Nat), .int .i64 (s.x.ep : Nat), .int .i64 (s.x.pg : Nat), .int .i64 (s.x.st : Nat), .int .i64 (s.x.ln : Nat), .int .i64 (s.x.hd : Nat), .int .i64 (s.x.sq : Nat)] 49)).alloc (.cells #[.int .i64 (s.x.gn : Nat), .int .i64 (s.x.ep : Nat), .int .i64 (s.x.pg : Nat), .int .i64 (s.x.st : Nat), .int .i64 (s.x.ln : Nat), .int .i64 (s.x.hd : Nat), .int .i64 (s.x.sq : Nat)] 49)) = w6 at *
      generalize w4.heap.size + 1 = wv at *
      have HPG := Lib.hid HGW.out.u.pg_
      go_upto_block 2 with fail
      go_cut [5, 55] (fun p5 _ wx => ∃ (sb2 tb2 g2 dm2 : Nat) (ow2 : Nat → Prop) (s2 : Sto) (C2 : Pgs), p5 = .pointer (some ⟨sb2, 0, none⟩) ∧ Cu W wx b tb2 g2 sb2 dm2 ow2 s2 C2 xb wv kd pa wh fi nu le xA xn xc j)
      case first =>
        have hm5 : m = 0 ∨ m = 1 ∨ m = 2 ∨ m = 3 ∨ m = 4 := by omega
        rcases hm5 with hme | hme | hme | hme | hme
        · as_aux_lemma =>
          have tb0 : ((m : Int) == 0) = true := by simp; omega
          have ti0 : (m : Int) = 0 := by omega
          have tb1 : ((m : Int) == 1) = false := by simp; omega
          have ti1 : ¬ ((m : Int) = 1) := by omega
          have tb2 : ((m : Int) == 2) = false := by simp; omega
          have ti2 : ¬ ((m : Int) = 2) := by omega
          have tb3 : ((m : Int) == 3) = false := by simp; omega
          have ti3 : ¬ ((m : Int) = 3) := by omega
          have tb4 : ((m : Int) == 4) = false := by simp; omega
          have ti4 : ¬ ((m : Int) = 4) := by omega
          have HBGa := Lib.hid (use_begin HGW.out.u)
          go_wp2_with fail
          refine HBGa.out.mono ?_
          rintro e wba ⟨rfl, wma, huba, htba⟩
          have HUBa := Lib.hid huba
          have HTBa := Lib.hid htba
          have HDBa := Lib.hid (HGW.out.d.turn htba)
          clear huba htba HBGa
          have HD0a := Lib.hid (grown_drew wba none)
          have HU0a := Lib.hid (HUBa.out.quiet HD0a.out)
          have HX0a := Lib.hid (HDBa.out.quiet HD0a.out)
          have HPKa := Lib.hid (fun wx => show Calls Tryz.prog 13 #[.int .i64 pa, .int .i64 20] wx fun e w' => (∃ k : Nat, k < 20 ∧ e = .returned (.int .i64 (k : Nat))) ∧ w' = wx from pick_call pa HOK.out.page 20 (by omega) wx)
          have HPCa := Lib.hid (page_call 0 0 5 fi 0 0 (.slice none 0 0) ⟨none, 0, 0, rfl⟩ (by decide) wba.drew)
          have HWRa := Lib.hid (fun (wp : World) (gp : Nat) (hgp : wba.drew.heap.size ≤ gp) (hbp : Blk wp gp 5 (u8s (bodyOne fi)).toArray) (hgq : wba.drew.grownBy wp none) (kk : Nat) (hkk : kk < 20) =>
            show Calls Tryz.prog 15 #[.pointer (some ⟨sb, 0, none⟩), .int .i64 (kk : Nat), .agg #[.int .i64 5, .slice (some ⟨gp, 0, none⟩) 240 240]] wp _ from use_write (HU0a.out.quiet hgq) hkk (q := ((5 : Int), bodyOne fi)) ⟨_, rfl, _, _, _, rfl, Nat.le_refl _, by
              have h9 := data_of_blk (own := Foot _ _ _ _ _ wma) hbp (bodyOne_lt fi) (fun e => by have := HU0a.out.foot_lt e; omega)
              rw [bodyOne_len] at h9
              exact h9⟩ (one_ok kk (by omega) fi) (by rw [(keys_nil PgsOk.none_).2 rfl]; simp))
          have HKXa := Lib.hid (show ∀ (wz : World) (F : Nat → Prop), DV wz F xb kd pa wh fi nu le xA xn xc → wz.cell? ⟨xb, 1, none⟩ = some (.int .i64 pa) ∧ wz.cell? ⟨xb, 3, none⟩ = some (.int .i64 fi) from fun wz F h => ⟨h.cells.2.1, h.cells.2.2.1⟩)
          go_wp2_with fail
          go_region_held3 (fun wz => wz.cell? ⟨xb, 1, none⟩ = some (.int .i64 pa) ∧ wz.cell? ⟨xb, 3, none⟩ = some (.int .i64 fi))
            (first
              | exact HKXa.out _ _ HX0a.out
              | exact HKXa.out _ _ HX5a.out
              | exact HKXa.out _ _ HX6a.out)
            (first
              | (go_at_call 13
                 (with_reducible refine (HPKa.out _).mono ?_)
                 rintro e w5 ⟨⟨kk, hkk, rfl⟩, rfl⟩
                 have HKKa := Lib.hid hkk
                 clear hkk)
              | (go_at_call 16
                 (with_reducible refine HPCa.out.mono ?_)
                 rintro e wpa ⟨gp, rfl, hgp, hbp, hgq⟩
                 have HGPa := Lib.hid hgp; have HBPa := Lib.hid hbp; have HGQa := Lib.hid hgq
                 have HX5a := Lib.hid (HX0a.out.quiet hgq)
                 clear hgp hbp hgq)
              | (go_at_call 15
                 (with_reducible refine (HWRa.out _ gp HGPa.out HBPa.out HGQa.out kk HKKa.out).mono ?_)
                 rintro e wwa ⟨rfl, owwa, huwa, htwa⟩
                 have HUWa := Lib.hid huwa
                 have HX6a := Lib.hid (HX5a.out.turn htwa)
                 have HTWa := Lib.hid ((HTBa.out.trans (Turn.none_ (HD0a.out.trans HGQa.out))).trans htwa)
                 clear huwa htwa))
          clear HPKa HPCa HWRa HX0a HU0a HUBa HDBa HX5a HGPa HBPa
          have HAB := Lib.hid (use_abort HUWa.out)
          go_wp2_with fail
          refine HAB.out.mono ?_
          rintro e w10 ⟨rfl, hu10, ht10⟩
          have HCU := Lib.hid (show Cu W w10 b tb g sb dm owwa { s with W := none } C xb wv kd pa wh fi nu le xA xn xc j from
            ⟨HGW.out.to hu10 (HTWa.out.trans ht10), by have := HGN.out; show s.x.gn ≤ _; omega, by have := HEP.out; show s.x.ep ≤ _; omega, by have := HSQ.out; show s.L.seq ≤ _; omega, fun i => by have := HVV.out i; show (s.S.ver i).length ≤ _; omega⟩)
          clear hu10 ht10 HAB HUWa HX6a HTWa
          go_wp2_with fail
          go_meet
          exact ⟨sb, tb, g, dm, owwa, _, C, rfl, HCU.out⟩
        · as_aux_lemma =>
          have tb0 : ((m : Int) == 0) = false := by simp; omega
          have ti0 : ¬ ((m : Int) = 0) := by omega
          have tb1 : ((m : Int) == 1) = true := by simp; omega
          have ti1 : (m : Int) = 1 := by omega
          have tb2 : ((m : Int) == 2) = false := by simp; omega
          have ti2 : ¬ ((m : Int) = 2) := by omega
          have tb3 : ((m : Int) == 3) = false := by simp; omega
          have ti3 : ¬ ((m : Int) = 3) := by omega
          have tb4 : ((m : Int) == 4) = false := by simp; omega
          have ti4 : ¬ ((m : Int) = 4) := by omega
          have HDT := Lib.hid (use_dirty HGW.out.u)
          have HKN := Lib.hid (show (keys s.D).length = 0 ↔ keys s.D = [] from List.length_eq_zero_iff)
          generalize hK : (keys s.D).length = K at *
          go_wp2_with fail
          refine HDT.out.mono ?_
          rintro e w8 ⟨⟨Ad, cd, rfl⟩, hg8⟩
          have HG8 := Lib.hid (HGW.out.quiet hg8)
          have HCK := Lib.hid (use_checkpoint HG8.out.u (by have := HGN.out; omega) (by have := HSQ.out; omega) (fun i => by have := HVV.out i; omega))
          clear hg8 HDT HGW
          go_wp2_with fail
          refine HCK.out.mono ?_
          rintro e w9 ⟨rfl, own9, s9, hu9, hn9, ht9, hk9, hgn9, hsm9⟩
          have HG9 := Lib.hid (HG8.out.to hu9 ht9)
          have HN9 := Lib.hid hn9; have HGX := Lib.hid hgn9; have HSM := Lib.hid hsm9
          clear hu9 hn9 ht9 hk9 hgn9 hsm9 HCK HG8
          by_cases hk0 : K = 0
          · have hki : ¬ ((0 : Int) < (K : Int)) := by omega
            have hs9 := HSM.out (HKN.out.1 hk0)
            subst hs9
            have HCU := Lib.hid (show Cu W w9 b tb g sb dm own9 s9 C xb wv kd pa wh fi nu le xA xn xc j from
              ⟨HG9.out, by have := HGN.out; omega, by have := HEP.out; omega, by have := HSQ.out; omega, fun i => by have := HVV.out i; omega⟩)
            clear HG9 HN9 HGX HSM
            go_wp2_with fail
            go_meet
            exact ⟨sb, tb, g, dm, own9, _, C, rfl, HCU.out⟩
          · have hki : (0 : Int) < (K : Int) := by omega
            have hkne : keys s.D ≠ [] := fun e => hk0 (HKN.out.2 e)
            have hgx : s9.x.gn = s.x.gn + 1 := by rw [HGX.out, if_neg hkne]
            have hw1 : IntKind.i64.wrap ((s.x.gn : Int) + 1) = (s.x.gn : Int) + 1 := IntWalk.i64_in _ (by have := HGN.out; omega)
            obtain ⟨z0, _, _, _, _, _, _⟩ := HG9.out.v.cells
            have f0 := HG9.out.v.b.frozen 0
            have HQ0 := Lib.hid (HG9.out.set0 ((s.x.gn : Int) + 1))
            have HSA := Lib.hid (super_is HQ0.out.u.at_)
            go_wp2_with fail
            refine HSA.out.mono ?_
            rintro e w10 ⟨rfl, hg10⟩
            have HQ1 := Lib.hid (HQ0.out.quiet hg10)
            obtain ⟨_, _, _, _, _, z5, _⟩ := HQ1.out.v.cells
            have f5 := HQ1.out.v.b.frozen 5
            have HQ2 := Lib.hid (HQ1.out.set5 (s9.x.hd : Nat))
            have HSB := Lib.hid (super_is HQ2.out.u.at_)
            clear hg10 HSA
            go_wp2_with fail
            refine HSB.out.mono ?_
            rintro e w11 ⟨rfl, hg11⟩
            have HQ3 := Lib.hid (HQ2.out.quiet hg11)
            obtain ⟨_, _, _, _, _, _, z6⟩ := HQ3.out.v.cells
            have f6 := HQ3.out.v.b.frozen 6
            have HGE := Lib.hid (HQ3.out.set6 (s9.x.sq : Nat))
            clear hg11 HSB
            have HCU := Lib.hid (show Cu W (w11.setCell ⟨wv, 6, none⟩ (.int .i64 (s9.x.sq : Nat))) b tb g sb dm own9 s9 C xb wv kd pa wh fi nu le xA xn xc j from by
              have e0 : (s.x.gn : Int) + 1 = ((s9.x.gn : Nat) : Int) := by omega
              have e1 := HN9.out.ep; have e3 := HN9.out.pl
              have e2 : s9.x.pg = s.x.pg := by rw [HGE.out.u.pg_]; exact HPG.out.symm
              have h9 := HGE.out
              rw [e0, ← e1, ← e2, ← e3.1, ← e3.2] at h9
              exact ⟨h9, by have := HGN.out; omega, by have := HEP.out; omega, by have h1 := HN9.out.seq.2; have h2 := HSQ.out; omega, fun i => by have h1 := HN9.out.ver i; have h2 := HVV.out i; omega⟩)
            clear HN9 HGX HSM
            go_wp2_with fail
            go_meet
            exact ⟨sb, tb, g, dm, own9, _, C, rfl, HCU.out⟩
        · as_aux_lemma =>
          have tb0 : ((m : Int) == 0) = false := by simp; omega
          have ti0 : ¬ ((m : Int) = 0) := by omega
          have tb1 : ((m : Int) == 1) = false := by simp; omega
          have ti1 : ¬ ((m : Int) = 1) := by omega
          have tb2 : ((m : Int) == 2) = true := by simp; omega
          have ti2 : (m : Int) = 2 := by omega
          have tb3 : ((m : Int) == 3) = false := by simp; omega
          have ti3 : ¬ ((m : Int) = 3) := by omega
          have tb4 : ((m : Int) == 4) = false := by simp; omega
          have ti4 : ¬ ((m : Int) = 4) := by omega
          have HDT := Lib.hid (use_dirty HGW.out.u)
          have HKN := Lib.hid (show (keys s.D).length = 0 ↔ keys s.D = [] from List.length_eq_zero_iff)
          generalize hK : (keys s.D).length = K at *
          go_wp2_with fail
          refine HDT.out.mono ?_
          rintro e w8 ⟨⟨Ad, cd, rfl⟩, hg8⟩
          have HG8 := Lib.hid (HGW.out.quiet hg8)
          have HCK := Lib.hid (use_checkpoint HG8.out.u (by have := HGN.out; omega) (by have := HSQ.out; omega) (fun i => by have := HVV.out i; omega))
          clear hg8 HDT HGW
          go_wp2_with fail
          refine HCK.out.mono ?_
          rintro e w9 ⟨rfl, own9, s9, hu9, hn9, ht9, hk9, hgn9, hsm9⟩
          have HG9 := Lib.hid (HG8.out.to hu9 ht9)
          have HN9 := Lib.hid hn9; have HGX := Lib.hid hgn9; have HSM := Lib.hid hsm9
          clear hu9 hn9 ht9 hk9 hgn9 hsm9 HCK HG8
          by_cases hk0 : K = 0
          · have hki : ¬ ((0 : Int) < (K : Int)) := by omega
            have hs9 := HSM.out (HKN.out.1 hk0)
            subst hs9
            have HCU := Lib.hid (show Cu W w9 b tb g sb dm own9 s9 C xb wv kd pa wh fi nu le xA xn xc j from
              ⟨HG9.out, by have := HGN.out; omega, by have := HEP.out; omega, by have := HSQ.out; omega, fun i => by have := HVV.out i; omega⟩)
            clear HG9 HN9 HGX HSM
            go_wp2_with fail
            go_meet
            exact ⟨sb, tb, g, dm, own9, _, C, rfl, HCU.out⟩
          · have hki : (0 : Int) < (K : Int) := by omega
            have hkne : keys s.D ≠ [] := fun e => hk0 (HKN.out.2 e)
            have hgx : s9.x.gn = s.x.gn + 1 := by rw [HGX.out, if_neg hkne]
            have hw1 : IntKind.i64.wrap ((s.x.gn : Int) + 1) = (s.x.gn : Int) + 1 := IntWalk.i64_in _ (by have := HGN.out; omega)
            obtain ⟨z0, _, _, _, _, _, _⟩ := HG9.out.v.cells
            have f0 := HG9.out.v.b.frozen 0
            have HQ0 := Lib.hid (HG9.out.set0 ((s.x.gn : Int) + 1))
            have HSA := Lib.hid (super_is HQ0.out.u.at_)
            go_wp2_with fail
            refine HSA.out.mono ?_
            rintro e w10 ⟨rfl, hg10⟩
            have HQ1 := Lib.hid (HQ0.out.quiet hg10)
            obtain ⟨_, _, _, _, _, z5, _⟩ := HQ1.out.v.cells
            have f5 := HQ1.out.v.b.frozen 5
            have HQ2 := Lib.hid (HQ1.out.set5 (s9.x.hd : Nat))
            have HSB := Lib.hid (super_is HQ2.out.u.at_)
            clear hg10 HSA
            go_wp2_with fail
            refine HSB.out.mono ?_
            rintro e w11 ⟨rfl, hg11⟩
            have HQ3 := Lib.hid (HQ2.out.quiet hg11)
            obtain ⟨_, _, _, _, _, _, z6⟩ := HQ3.out.v.cells
            have f6 := HQ3.out.v.b.frozen 6
            have HGE := Lib.hid (HQ3.out.set6 (s9.x.sq : Nat))
            clear hg11 HSB
            have HCU := Lib.hid (show Cu W (w11.setCell ⟨wv, 6, none⟩ (.int .i64 (s9.x.sq : Nat))) b tb g sb dm own9 s9 C xb wv kd pa wh fi nu le xA xn xc j from by
              have e0 : (s.x.gn : Int) + 1 = ((s9.x.gn : Nat) : Int) := by omega
              have e1 := HN9.out.ep; have e3 := HN9.out.pl
              have e2 : s9.x.pg = s.x.pg := by rw [HGE.out.u.pg_]; exact HPG.out.symm
              have h9 := HGE.out
              rw [e0, ← e1, ← e2, ← e3.1, ← e3.2] at h9
              exact ⟨h9, by have := HGN.out; omega, by have := HEP.out; omega, by have h1 := HN9.out.seq.2; have h2 := HSQ.out; omega, fun i => by have h1 := HN9.out.ver i; have h2 := HVV.out i; omega⟩)
            clear HN9 HGX HSM
            go_wp2_with fail
            go_meet
            exact ⟨sb, tb, g, dm, own9, _, C, rfl, HCU.out⟩
        · as_aux_lemma =>
          have tb0 : ((m : Int) == 0) = false := by simp; omega
          have ti0 : ¬ ((m : Int) = 0) := by omega
          have tb1 : ((m : Int) == 1) = false := by simp; omega
          have ti1 : ¬ ((m : Int) = 1) := by omega
          have tb2 : ((m : Int) == 2) = false := by simp; omega
          have ti2 : ¬ ((m : Int) = 2) := by omega
          have tb3 : ((m : Int) == 3) = true := by simp; omega
          have ti3 : (m : Int) = 3 := by omega
          have tb4 : ((m : Int) == 4) = false := by simp; omega
          have ti4 : ¬ ((m : Int) = 4) := by omega
          obtain ⟨tm, htm⟩ : ∃ tm, pa.tmod 2 = tm := ⟨_, rfl⟩
          obtain ⟨_, y1, _, _, _, _⟩ := HGW.out.d.cells
          have HKN := Lib.hid (show (keys s.D).length = 0 ↔ keys s.D = [] from List.length_eq_zero_iff)
          by_cases h0 : tm = 0
          · have h0b : (tm == 0) = true := by simp [h0]
            have HDT := Lib.hid (use_dirty HGW.out.u)
            generalize hK : (keys s.D).length = K at *
            go_wp2_with fail
            refine HDT.out.mono ?_
            rintro e w8 ⟨⟨Ad, cd, rfl⟩, hg8⟩
            have HG8 := Lib.hid (HGW.out.quiet hg8)
            clear hg8 HDT HGW y1
            by_cases hk0 : K = 0
            · as_aux_lemma =>
              have hki : ¬ ((0 : Int) < (K : Int)) := by omega
              have HCK := Lib.hid (use_checkpoint HG8.out.u (by have := HGN.out; omega) (by have := HSQ.out; omega) (fun i => by have := HVV.out i; omega))
              go_wp2_with fail
              refine HCK.out.mono ?_
              rintro e w9 ⟨rfl, own9, s9, hu9, hn9, ht9, hk9, hgn9, hsm9⟩
              have HG9 := Lib.hid (HG8.out.to hu9 ht9)
              have hs9 := hsm9 (HKN.out.1 hk0)
              have HK9 := Lib.hid hk9
              subst hs9
              have HB9 := Lib.hid (show s9.x.gn ≤ 3 + 4 * j + 1 ∧ s9.x.ep ≤ 2 + 2 * j ∧ ∀ i, (s9.S.ver i).length ≤ 4 * j + 1 from ⟨by have := HGN.out; omega, HEP.out, fun i => by have := HVV.out i; omega⟩)
              clear hu9 hn9 ht9 hk9 hgn9 hsm9 HCK HG8
              have HSA := Lib.hid (super_is HG9.out.u.at_)
              go_wp2_with fail
              refine HSA.out.mono ?_
              rintro e w10 ⟨rfl, hg10⟩
              have HQ1 := Lib.hid (HG9.out.quiet hg10)
              obtain ⟨_, _, _, _, _, z5, _⟩ := HQ1.out.v.cells
              have f5 := HQ1.out.v.b.frozen 5
              have HQ2 := Lib.hid (HQ1.out.set5 (s9.x.hd : Nat))
              have HSB := Lib.hid (super_is HQ2.out.u.at_)
              clear hg10 HSA
              go_wp2_with fail
              refine HSB.out.mono ?_
              rintro e w11 ⟨rfl, hg11⟩
              have HQ3 := Lib.hid (HQ2.out.quiet hg11)
              obtain ⟨_, _, _, _, _, _, z6⟩ := HQ3.out.v.cells
              have f6 := HQ3.out.v.b.frozen 6
              have HGE := Lib.hid (HQ3.out.set6 (s9.x.sq : Nat))
              clear hg11 HSB
              clear HG9 HQ1 HQ2 HQ3
              obtain ⟨_, _, _, y4, y5, _⟩ := HGE.out.d.cells
              have HP4 := Lib.hid (fun wx => show Calls Tryz.prog 13 #[.int .i64 nu, .int .i64 100] wx fun e w' => (∃ k : Nat, k < 100 ∧ e = .returned (.int .i64 (k : Nat))) ∧ w' = wx from pick_call nu HOK.out.num 100 (by omega) wx)
              have HP5 := Lib.hid (fun wx => show Calls Tryz.prog 13 #[.int .i64 le, .int .i64 100] wx fun e w' => (∃ k : Nat, k < 100 ∧ e = .returned (.int .i64 (k : Nat))) ∧ w' = wx from pick_call le HOK.out.len 100 (by omega) wx)
              go_wp2_with fail
              refine (HP4.out _).mono ?_
              rintro e wp4 ⟨⟨m4, hm4, rfl⟩, rfl⟩
              have hw22 : IntKind.i64.wrap (22 + (m4 : Int)) = 22 + (m4 : Int) := IntWalk.i64_in _ (by omega)
              go_wp2_with fail
              refine (HP5.out _).mono ?_
              rintro e wp5 ⟨⟨m5, hm5, rfl⟩, rfl⟩
              have hw64 : IntKind.i64.wrap (64 + (m5 : Int)) = 64 + (m5 : Int) := IntWalk.i64_in _ (by omega)
              have hsw := use_switch HGE.out.u HK9.out (st := 22 + m4) (ln := 64 + m5) (by omega) (by omega) (by omega) (by have := HB9.out.1; omega) (by have := HB9.out.2.1; omega) (fun i => by have := HB9.out.2.2 i; omega)
              rw [show ((22 + m4 : Nat) : Int) = 22 + (m4 : Int) by omega, show ((64 + m5 : Nat) : Int) = 64 + (m5 : Int) by omega] at hsw
              have HSW := Lib.hid hsw
              clear hsw HP4 HP5 y4 y5
              go_wp2_with fail
              refine HSW.out.mono ?_
              rintro e ws ⟨rfl, owns, gs, ss, hus, hts, hxs, hls, hds, hvs⟩
              have HGS := Lib.hid (HGE.out.to hus hts)
              have HXS := Lib.hid hxs; have HLS := Lib.hid hls; have HVS := Lib.hid hvs
              obtain ⟨z0, z1, z2, z3, z4, z5, z6⟩ := HGS.out.v.cells
              have f0 := HGS.out.v.b.frozen 0; have f1 := HGS.out.v.b.frozen 1; have f3 := HGS.out.v.b.frozen 3; have f4 := HGS.out.v.b.frozen 4; have f5 := HGS.out.v.b.frozen 5; have f6 := HGS.out.v.b.frozen 6
              have hwg : IntKind.i64.wrap ((s9.x.gn : Int) + 1) = (s9.x.gn : Int) + 1 := IntWalk.i64_in _ (by have := HB9.out.1; omega)
              have hwe : IntKind.i64.wrap ((s9.x.ep : Int) + 1) = (s9.x.ep : Int) + 1 := IntWalk.i64_in _ (by have := HB9.out.2.1; omega)
              have HGF := Lib.hid ((((((HGS.out.set0 ((s9.x.gn : Int) + 1)).set1 ((s9.x.ep : Int) + 1)).set3 (22 + (m4 : Int))).set4 (64 + (m5 : Int))).set5 0).set6 1)
              clear hus hts hxs hls hds hvs HSW
              go_wp2_with fail
              go_meet
              refine ⟨sb, tb, gs, dm, owns, ss, C, rfl, ?_, ?_, ?_, ?_, fun i => ?_⟩
              · have h9 := HGF.out
                rw [show (s9.x.gn : Int) + 1 = ((s9.x.gn + 1 : Nat) : Int) by omega, show (s9.x.ep : Int) + 1 = ((s9.x.ep + 1 : Nat) : Int) by omega, show 22 + (m4 : Int) = ((22 + m4 : Nat) : Int) by omega, show 64 + (m5 : Int) = ((64 + m5 : Nat) : Int) by omega] at h9
                rw [HXS.out]
                exact h9
              · rw [HXS.out]; have := HB9.out.1; show s9.x.gn + 1 ≤ _; omega
              · rw [HXS.out]; have := HB9.out.2.1; show s9.x.ep + 1 ≤ _; omega
              · rw [HLS.out]; omega
              · rw [HVS.out i]; exact HB9.out.2.2 i
            · as_aux_lemma =>
              have hki : (0 : Int) < (K : Int) := by omega
              have hkne : keys s.D ≠ [] := fun e => hk0 (HKN.out.2 e)
              have hw1 : IntKind.i64.wrap ((s.x.gn : Int) + 1) = (s.x.gn : Int) + 1 := IntWalk.i64_in _ (by have := HGN.out; omega)
              obtain ⟨z0, _, _, _, _, _, _⟩ := HG8.out.v.cells
              have f0 := HG8.out.v.b.frozen 0
              have HQ0 := Lib.hid (HG8.out.set0 ((s.x.gn : Int) + 1))
              have HCK := Lib.hid (use_checkpoint HQ0.out.u (by have := HGN.out; omega) (by have := HSQ.out; omega) (fun i => by have := HVV.out i; omega))
              clear HG8
              go_wp2_with fail
              refine HCK.out.mono ?_
              rintro e w9 ⟨rfl, own9, s9, hu9, hn9, ht9, hk9, hgn9, hsm9⟩
              have HG9 := Lib.hid (HQ0.out.to hu9 ht9)
              have HK9 := Lib.hid hk9; have HN9 := Lib.hid hn9
              have HGX9 := Lib.hid (show s9.x.gn = s.x.gn + 1 by rw [hgn9, if_neg hkne])
              have HB9 := Lib.hid (show s9.x.gn ≤ 3 + 4 * j + 1 ∧ s9.x.ep ≤ 2 + 2 * j ∧ ∀ i, (s9.S.ver i).length ≤ 4 * j + 1 from ⟨by have := HGN.out; have := HGX9.out; omega, by have h1 := hn9.ep; have h2 := HEP.out; omega, fun i => by have h1 := hn9.ver i; have h2 := HVV.out i; omega⟩)
              clear hu9 hn9 ht9 hk9 hgn9 hsm9 HCK HQ0 z0 f0
              have HSA := Lib.hid (super_is HG9.out.u.at_)
              go_wp2_with fail
              refine HSA.out.mono ?_
              rintro e w10 ⟨rfl, hg10⟩
              have HQ1 := Lib.hid (HG9.out.quiet hg10)
              obtain ⟨_, _, _, _, _, z5, _⟩ := HQ1.out.v.cells
              have f5 := HQ1.out.v.b.frozen 5
              have HQ2 := Lib.hid (HQ1.out.set5 (s9.x.hd : Nat))
              have HSB := Lib.hid (super_is HQ2.out.u.at_)
              clear hg10 HSA
              go_wp2_with fail
              refine HSB.out.mono ?_
              rintro e w11 ⟨rfl, hg11⟩
              have HQ3 := Lib.hid (HQ2.out.quiet hg11)
              obtain ⟨_, _, _, _, _, _, z6⟩ := HQ3.out.v.cells
              have f6 := HQ3.out.v.b.frozen 6
              have HGE0 := Lib.hid (HQ3.out.set6 (s9.x.sq : Nat))
              clear hg11 HSB
              have HGE := Lib.hid (show Gw W (w11.setCell ⟨wv, 6, none⟩ (.int .i64 (s9.x.sq : Nat))) b tb g sb dm own9 s9 C xb wv kd pa wh fi nu le xA xn xc (s9.x.gn : Nat) (s9.x.ep : Nat) (s9.x.pg : Nat) (s9.x.st : Nat) (s9.x.ln : Nat) (s9.x.hd : Nat) (s9.x.sq : Nat) from by
                have e0 : (s.x.gn : Int) + 1 = ((s9.x.gn : Nat) : Int) := by have := HGX9.out; omega
                have e1 := HN9.out.ep; have e3 := HN9.out.pl
                have e2 : s9.x.pg = s.x.pg := by rw [HGE0.out.u.pg_]; exact HPG.out.symm
                have h9 := HGE0.out
                rw [e0, ← e1, ← e2, ← e3.1, ← e3.2] at h9
                exact h9)
              clear HG9 HQ1 HQ2 HQ3 HGE0 hw1 hkne z5 f5 HN9 HGX9
              obtain ⟨_, _, _, y4, y5, _⟩ := HGE.out.d.cells
              have HP4 := Lib.hid (fun wx => show Calls Tryz.prog 13 #[.int .i64 nu, .int .i64 100] wx fun e w' => (∃ k : Nat, k < 100 ∧ e = .returned (.int .i64 (k : Nat))) ∧ w' = wx from pick_call nu HOK.out.num 100 (by omega) wx)
              have HP5 := Lib.hid (fun wx => show Calls Tryz.prog 13 #[.int .i64 le, .int .i64 100] wx fun e w' => (∃ k : Nat, k < 100 ∧ e = .returned (.int .i64 (k : Nat))) ∧ w' = wx from pick_call le HOK.out.len 100 (by omega) wx)
              go_wp2_with fail
              refine (HP4.out _).mono ?_
              rintro e wp4 ⟨⟨m4, hm4, rfl⟩, rfl⟩
              have hw22 : IntKind.i64.wrap (22 + (m4 : Int)) = 22 + (m4 : Int) := IntWalk.i64_in _ (by omega)
              go_wp2_with fail
              refine (HP5.out _).mono ?_
              rintro e wp5 ⟨⟨m5, hm5, rfl⟩, rfl⟩
              have hw64 : IntKind.i64.wrap (64 + (m5 : Int)) = 64 + (m5 : Int) := IntWalk.i64_in _ (by omega)
              have hsw := use_switch HGE.out.u HK9.out (st := 22 + m4) (ln := 64 + m5) (by omega) (by omega) (by omega) (by have := HB9.out.1; omega) (by have := HB9.out.2.1; omega) (fun i => by have := HB9.out.2.2 i; omega)
              rw [show ((22 + m4 : Nat) : Int) = 22 + (m4 : Int) by omega, show ((64 + m5 : Nat) : Int) = 64 + (m5 : Int) by omega] at hsw
              have HSW := Lib.hid hsw
              clear hsw HP4 HP5 y4 y5
              go_wp2_with fail
              refine HSW.out.mono ?_
              rintro e ws ⟨rfl, owns, gs, ss, hus, hts, hxs, hls, hds, hvs⟩
              have HGS := Lib.hid (HGE.out.to hus hts)
              have HXS := Lib.hid hxs; have HLS := Lib.hid hls; have HVS := Lib.hid hvs
              obtain ⟨z0, z1, z2, z3, z4, z5, z6⟩ := HGS.out.v.cells
              have f0 := HGS.out.v.b.frozen 0; have f1 := HGS.out.v.b.frozen 1; have f3 := HGS.out.v.b.frozen 3; have f4 := HGS.out.v.b.frozen 4; have f5 := HGS.out.v.b.frozen 5; have f6 := HGS.out.v.b.frozen 6
              have hwg : IntKind.i64.wrap ((s9.x.gn : Int) + 1) = (s9.x.gn : Int) + 1 := IntWalk.i64_in _ (by have := HB9.out.1; omega)
              have hwe : IntKind.i64.wrap ((s9.x.ep : Int) + 1) = (s9.x.ep : Int) + 1 := IntWalk.i64_in _ (by have := HB9.out.2.1; omega)
              have HGF := Lib.hid ((((((HGS.out.set0 ((s9.x.gn : Int) + 1)).set1 ((s9.x.ep : Int) + 1)).set3 (22 + (m4 : Int))).set4 (64 + (m5 : Int))).set5 0).set6 1)
              clear hus hts hxs hls hds hvs HSW
              go_wp2_with fail
              go_meet
              refine ⟨sb, tb, gs, dm, owns, ss, C, rfl, ?_, ?_, ?_, ?_, fun i => ?_⟩
              · have h9 := HGF.out
                rw [show (s9.x.gn : Int) + 1 = ((s9.x.gn + 1 : Nat) : Int) by omega, show (s9.x.ep : Int) + 1 = ((s9.x.ep + 1 : Nat) : Int) by omega, show 22 + (m4 : Int) = ((22 + m4 : Nat) : Int) by omega, show 64 + (m5 : Int) = ((64 + m5 : Nat) : Int) by omega] at h9
                rw [HXS.out]
                exact h9
              · rw [HXS.out]; have := HB9.out.1; show s9.x.gn + 1 ≤ _; omega
              · rw [HXS.out]; have := HB9.out.2.1; show s9.x.ep + 1 ≤ _; omega
              · rw [HLS.out]; omega
              · rw [HVS.out i]; exact HB9.out.2.2 i
          · have h0b : (tm == 0) = false := by simpa using h0
            by_cases hks : keys s.D = []
            · as_aux_lemma =>
              have HK9 := Lib.hid hks
              have HB9 := Lib.hid (show s.x.gn ≤ 3 + 4 * j + 1 ∧ s.x.ep ≤ 2 + 2 * j ∧ ∀ i, (s.S.ver i).length ≤ 4 * j + 1 from ⟨by have := HGN.out; omega, HEP.out, fun i => by have := HVV.out i; omega⟩)
              obtain ⟨_, _, _, y4, y5, _⟩ := HGW.out.d.cells
              have HP4 := Lib.hid (fun wx => show Calls Tryz.prog 13 #[.int .i64 nu, .int .i64 100] wx fun e w' => (∃ k : Nat, k < 100 ∧ e = .returned (.int .i64 (k : Nat))) ∧ w' = wx from pick_call nu HOK.out.num 100 (by omega) wx)
              have HP5 := Lib.hid (fun wx => show Calls Tryz.prog 13 #[.int .i64 le, .int .i64 100] wx fun e w' => (∃ k : Nat, k < 100 ∧ e = .returned (.int .i64 (k : Nat))) ∧ w' = wx from pick_call le HOK.out.len 100 (by omega) wx)
              go_wp2_with fail
              refine (HP4.out _).mono ?_
              rintro e wp4 ⟨⟨m4, hm4, rfl⟩, rfl⟩
              have hw22 : IntKind.i64.wrap (22 + (m4 : Int)) = 22 + (m4 : Int) := IntWalk.i64_in _ (by omega)
              go_wp2_with fail
              refine (HP5.out _).mono ?_
              rintro e wp5 ⟨⟨m5, hm5, rfl⟩, rfl⟩
              have hw64 : IntKind.i64.wrap (64 + (m5 : Int)) = 64 + (m5 : Int) := IntWalk.i64_in _ (by omega)
              have hsw := use_switch HGW.out.u HK9.out (st := 22 + m4) (ln := 64 + m5) (by omega) (by omega) (by omega) (by have := HB9.out.1; omega) (by have := HB9.out.2.1; omega) (fun i => by have := HB9.out.2.2 i; omega)
              rw [show ((22 + m4 : Nat) : Int) = 22 + (m4 : Int) by omega, show ((64 + m5 : Nat) : Int) = 64 + (m5 : Int) by omega] at hsw
              have HSW := Lib.hid hsw
              clear hsw HP4 HP5 y4 y5
              go_wp2_with fail
              refine HSW.out.mono ?_
              rintro e ws ⟨rfl, owns, gs, ss, hus, hts, hxs, hls, hds, hvs⟩
              have HGS := Lib.hid (HGW.out.to hus hts)
              have HXS := Lib.hid hxs; have HLS := Lib.hid hls; have HVS := Lib.hid hvs
              obtain ⟨z0, z1, z2, z3, z4, z5, z6⟩ := HGS.out.v.cells
              have f0 := HGS.out.v.b.frozen 0; have f1 := HGS.out.v.b.frozen 1; have f3 := HGS.out.v.b.frozen 3; have f4 := HGS.out.v.b.frozen 4; have f5 := HGS.out.v.b.frozen 5; have f6 := HGS.out.v.b.frozen 6
              have hwg : IntKind.i64.wrap ((s.x.gn : Int) + 1) = (s.x.gn : Int) + 1 := IntWalk.i64_in _ (by have := HB9.out.1; omega)
              have hwe : IntKind.i64.wrap ((s.x.ep : Int) + 1) = (s.x.ep : Int) + 1 := IntWalk.i64_in _ (by have := HB9.out.2.1; omega)
              have HGF := Lib.hid ((((((HGS.out.set0 ((s.x.gn : Int) + 1)).set1 ((s.x.ep : Int) + 1)).set3 (22 + (m4 : Int))).set4 (64 + (m5 : Int))).set5 0).set6 1)
              clear hus hts hxs hls hds hvs HSW
              go_wp2_with fail
              go_meet
              refine ⟨sb, tb, gs, dm, owns, ss, C, rfl, ?_, ?_, ?_, ?_, fun i => ?_⟩
              · have h9 := HGF.out
                rw [show (s.x.gn : Int) + 1 = ((s.x.gn + 1 : Nat) : Int) by omega, show (s.x.ep : Int) + 1 = ((s.x.ep + 1 : Nat) : Int) by omega, show 22 + (m4 : Int) = ((22 + m4 : Nat) : Int) by omega, show 64 + (m5 : Int) = ((64 + m5 : Nat) : Int) by omega] at h9
                rw [HXS.out]
                exact h9
              · rw [HXS.out]; have := HB9.out.1; show s.x.gn + 1 ≤ _; omega
              · rw [HXS.out]; have := HB9.out.2.1; show s.x.ep + 1 ≤ _; omega
              · rw [HLS.out]; omega
              · rw [HVS.out i]; exact HB9.out.2.2 i
            · as_aux_lemma =>
              obtain ⟨_, _, _, y4, y5, _⟩ := HGW.out.d.cells
              have HP4 := Lib.hid (fun wx => show Calls Tryz.prog 13 #[.int .i64 nu, .int .i64 100] wx fun e w' => (∃ k : Nat, k < 100 ∧ e = .returned (.int .i64 (k : Nat))) ∧ w' = wx from pick_call nu HOK.out.num 100 (by omega) wx)
              have HP5 := Lib.hid (fun wx => show Calls Tryz.prog 13 #[.int .i64 le, .int .i64 100] wx fun e w' => (∃ k : Nat, k < 100 ∧ e = .returned (.int .i64 (k : Nat))) ∧ w' = wx from pick_call le HOK.out.len 100 (by omega) wx)
              have HKS := Lib.hid hks
              have HDT := Lib.hid (use_dirty HGW.out.u)
              have hkl : ¬ ((keys s.D).length = 0) := fun e => hks (HKN.out.1 e)
              clear hks
              generalize hK : (keys s.D).length = K at *
              have hkb : ((K : Int) == 0) = false := by simp; omega
              have hki : ¬ ((K : Int) = 0) := by omega
              go_wp2_with fail
              refine (HP4.out _).mono ?_
              rintro e wp4 ⟨⟨m4, hm4, rfl⟩, rfl⟩
              have hw22 : IntKind.i64.wrap (22 + (m4 : Int)) = 22 + (m4 : Int) := IntWalk.i64_in _ (by omega)
              go_wp2_with fail
              refine (HP5.out _).mono ?_
              rintro e wp5 ⟨⟨m5, hm5, rfl⟩, rfl⟩
              have hw64 : IntKind.i64.wrap (64 + (m5 : Int)) = 64 + (m5 : Int) := IntWalk.i64_in _ (by omega)
              have HSW := Lib.hid (sto_switch_busy HGW.out.u.at_ (22 + (m4 : Int)) (64 + (m5 : Int)) (.inr HKS.out))
              clear HP4 HP5 y4 y5 y1
              go_wp2_with fail
              refine HSW.out.mono ?_
              rintro e ws ⟨rfl, rfl⟩
              go_wp2_with fail
              refine HDT.out.mono ?_
              rintro e w8 ⟨⟨Ad, cd, rfl⟩, hg8⟩
              have HG8 := Lib.hid (HGW.out.quiet hg8)
              clear hg8 HDT HGW
              go_wp2_with fail
              go_meet
              exact ⟨sb, tb, g, dm, ow, s, C, rfl, HG8.out, by have := HGN.out; omega, by have := HEP.out; omega, by have := HSQ.out; omega, fun i => by have := HVV.out i; omega⟩
        · as_aux_lemma =>
          have tb0 : ((m : Int) == 0) = false := by simp; omega
          have ti0 : ¬ ((m : Int) = 0) := by omega
          have tb1 : ((m : Int) == 1) = false := by simp; omega
          have ti1 : ¬ ((m : Int) = 1) := by omega
          have tb2 : ((m : Int) == 2) = false := by simp; omega
          have ti2 : ¬ ((m : Int) = 2) := by omega
          have tb3 : ((m : Int) == 3) = false := by simp; omega
          have ti3 : ¬ ((m : Int) = 3) := by omega
          have tb4 : ((m : Int) == 4) = true := by simp; omega
          have ti4 : (m : Int) = 4 := by omega
          obtain ⟨_, _, _, _, _, y6⟩ := HGW.out.d.cells
          have HCR := Lib.hid (use_crash HGW.out.u xA xn xc pks (PIn.picks_ HOK.out.picks HGW.out.u.gr (fun i hi => HGW.out.u.at_.foot_low (.inl (.inl (.inl hi))))) (Nat.le_trans HOK.out.n (by unfold maxLen; omega)) (fun i => by have := HVV.out i; omega))
          go_wp2_with fail
          refine HCR.out.mono ?_
          rintro e w8 ⟨rfl, ht8, dur8, ls8, M8, hfl, _⟩
          obtain ⟨C8, hC8⟩ := sees_any hfl.d (latestOf (recsOf (s.x.sq : Int) ls8)) M8 s.x none
          have hsq : s.x.sq ≤ 1 + 4 * j := by
            obtain ⟨ls, sure, hg⟩ := HGW.out.u.gd
            have h1 := hg.seq
            have h2 := HSQ.out
            omega
          have HOP := Lib.hid (use_open hfl.at_ hfl.gr s.x hfl.d hfl.sup hfl.pgs hfl.top hfl.rec_ (by have := HGN.out; omega) (by have := HEP.out; omega) (by omega) hfl.op hC8)
          have HDX := Lib.hid ((HGW.out.d.weak (F' := ow) (fun i hi => .inl (.inl (.inl hi)))).turn ht8)
          have HWX := Lib.hid ((wv_weak HGW.out.v (F' := ow) (fun i hi => .inl (.inl (.inl hi)))).turn ht8)
          have HNE := Lib.hid HGW.out.ne; have HLO := Lib.hid HGW.out.lo
          clear ht8 hfl hC8 hsq HCR y6 HGW
          go_wp2_with fail
          refine HOP.out.mono ?_
          rintro e w9 ⟨tb9, g9, sb9, dm9, own9, s9, rfl, hb9, ht9⟩
          have HG9 := Lib.hid (show Gw W w9 b tb9 g9 sb9 dm9 own9 s9 C8 xb wv kd pa wh fi nu le xA xn xc (s.x.gn : Nat) (s.x.ep : Nat) (s.x.pg : Nat) (s.x.st : Nat) (s.x.ln : Nat) (s.x.hd : Nat) (s.x.sq : Nat) from ⟨hb9.u, HDX.out.turn ht9, HWX.out.turn ht9, HNE.out, HLO.out⟩)
          have HXS := Lib.hid hb9.xs; have HLS := Lib.hid hb9.ls; have HVS := Lib.hid hb9.ver
          obtain ⟨z0, z1, z2, z3, z4, z5, z6⟩ := HG9.out.v.cells
          have f0 := HG9.out.v.b.frozen 0; have f1 := HG9.out.v.b.frozen 1; have f5 := HG9.out.v.b.frozen 5; have f6 := HG9.out.v.b.frozen 6
          have hwg : IntKind.i64.wrap ((s.x.gn : Int) + 1) = (s.x.gn : Int) + 1 := IntWalk.i64_in _ (by have := HGN.out; omega)
          have hwe : IntKind.i64.wrap ((s.x.ep : Int) + 1) = (s.x.ep : Int) + 1 := IntWalk.i64_in _ (by have := HEP.out; omega)
          have HGF := Lib.hid ((((HG9.out.set0 ((s.x.gn : Int) + 1)).set1 ((s.x.ep : Int) + 1)).set5 0).set6 1)
          clear hb9 ht9 HOP HDX HWX HNE HLO
          go_wp2_with fail
          go_meet
          refine ⟨sb9, tb9, g9, dm9, own9, s9, C8, rfl, ?_, ?_, ?_, ?_, fun i => ?_⟩
          · have h9 := HGF.out
            rw [show (s.x.gn : Int) + 1 = ((s.x.gn + 1 : Nat) : Int) by omega, show (s.x.ep : Int) + 1 = ((s.x.ep + 1 : Nat) : Int) by omega] at h9
            rw [HXS.out]
            exact h9
          · rw [HXS.out]; have := HGN.out; show s.x.gn + 1 ≤ _; omega
          · rw [HXS.out]; have := HEP.out; show s.x.ep + 1 ≤ _; omega
          · rw [HLS.out]; show 1 ≤ _; omega
          · rw [HVS.out i]; exact Nat.zero_le _
      case rest =>
        as_aux_lemma =>
        obtain ⟨sb2, tb2, g2, dm2, ow2, s2, C2, rfl, hcu⟩ := hcut
        have HCU := Lib.hid hcu
        clear hcu HGW HGN HEP HSQ HVV hm HPG
        have HD7 := Lib.hid (grown_drew wc none)
        have HC7 := Lib.hid (HCU.out.w.quiet HD7.out)
        have HSU := Lib.hid (super_is HC7.out.u.at_)
        have hneq := neq_sup
        have HKW := Lib.hid (show ∀ (wx : World) (F : Nat → Prop), WV wx F wv (s2.x.gn : Nat) (s2.x.ep : Nat) (s2.x.pg : Nat) (s2.x.st : Nat) (s2.x.ln : Nat) (s2.x.hd : Nat) (s2.x.sq : Nat) → wx.cell? ⟨wv, 0, none⟩ = some (.int .i64 (s2.x.gn : Nat)) ∧ wx.cell? ⟨wv, 1, none⟩ = some (.int .i64 (s2.x.ep : Nat)) ∧ wx.cell? ⟨wv, 2, none⟩ = some (.int .i64 (s2.x.pg : Nat)) ∧ wx.cell? ⟨wv, 3, none⟩ = some (.int .i64 (s2.x.st : Nat)) ∧ wx.cell? ⟨wv, 4, none⟩ = some (.int .i64 (s2.x.ln : Nat)) ∧ wx.cell? ⟨wv, 5, none⟩ = some (.int .i64 (s2.x.hd : Nat)) ∧ wx.cell? ⟨wv, 6, none⟩ = some (.int .i64 (s2.x.sq : Nat)) from fun wx F h => h.cells)
        go_wp2_with fail
        go_region_held3 (fun wx => wx.cell? ⟨wv, 0, none⟩ = some (.int .i64 (s2.x.gn : Nat)) ∧ wx.cell? ⟨wv, 1, none⟩ = some (.int .i64 (s2.x.ep : Nat)) ∧ wx.cell? ⟨wv, 2, none⟩ = some (.int .i64 (s2.x.pg : Nat)) ∧ wx.cell? ⟨wv, 3, none⟩ = some (.int .i64 (s2.x.st : Nat)) ∧ wx.cell? ⟨wv, 4, none⟩ = some (.int .i64 (s2.x.ln : Nat)) ∧ wx.cell? ⟨wv, 5, none⟩ = some (.int .i64 (s2.x.hd : Nat)) ∧ wx.cell? ⟨wv, 6, none⟩ = some (.int .i64 (s2.x.sq : Nat)))
          (first
            | exact HKW.out _ _ HC7.out.v
            | exact HKW.out _ _ HC8.out.v)
          (first
            | (go_at_call 24
               (with_reducible refine HSU.out.mono ?_)
               rintro e w8 ⟨rfl, hg8⟩
               have HC8 := Lib.hid (HC7.out.quiet hg8)
               clear hg8))
        clear hneq HSU HC7
        have HBGr := Lib.hid (use_begin HC8.out.u)
        go_wp2_with fail
        refine HBGr.out.mono ?_
        rintro e wbr ⟨rfl, wmr, hubr, htbr⟩
        have HUBr := Lib.hid hubr
        have HTBr := Lib.hid htbr
        have HDBr := Lib.hid (HC8.out.d.turn htbr)
        clear hubr htbr HBGr
        have HD0r := Lib.hid (grown_drew wbr none)
        have HU0r := Lib.hid (HUBr.out.quiet HD0r.out)
        have HX0r := Lib.hid (HDBr.out.quiet HD0r.out)
        have HPKr := Lib.hid (fun wx => show Calls Tryz.prog 13 #[.int .i64 pa, .int .i64 20] wx fun e w' => (∃ k : Nat, k < 20 ∧ e = .returned (.int .i64 (k : Nat))) ∧ w' = wx from pick_call pa HOK.out.page 20 (by omega) wx)
        have HPCr := Lib.hid (page_call 0 0 5 fi 0 0 (.slice none 0 0) ⟨none, 0, 0, rfl⟩ (by decide) wbr.drew)
        have HWRr := Lib.hid (fun (wp : World) (gp : Nat) (hgp : wbr.drew.heap.size ≤ gp) (hbp : Blk wp gp 5 (u8s (bodyOne fi)).toArray) (hgq : wbr.drew.grownBy wp none) (kk : Nat) (hkk : kk < 20) =>
          show Calls Tryz.prog 15 #[.pointer (some ⟨sb2, 0, none⟩), .int .i64 (kk : Nat), .agg #[.int .i64 5, .slice (some ⟨gp, 0, none⟩) 240 240]] wp _ from use_write (HU0r.out.quiet hgq) hkk (q := ((5 : Int), bodyOne fi)) ⟨_, rfl, _, _, _, rfl, Nat.le_refl _, by
            have h9 := data_of_blk (own := Foot _ _ _ _ _ wmr) hbp (bodyOne_lt fi) (fun e => by have := HU0r.out.foot_lt e; omega)
            rw [bodyOne_len] at h9
            exact h9⟩ (one_ok kk (by omega) fi) (by rw [(keys_nil PgsOk.none_).2 rfl]; simp))
        have HKXr := Lib.hid (show ∀ (wz : World) (F : Nat → Prop), DV wz F xb kd pa wh fi nu le xA xn xc → wz.cell? ⟨xb, 1, none⟩ = some (.int .i64 pa) ∧ wz.cell? ⟨xb, 3, none⟩ = some (.int .i64 fi) from fun wz F h => ⟨h.cells.2.1, h.cells.2.2.1⟩)
        go_wp2_with fail
        go_region_held3 (fun wz => wz.cell? ⟨xb, 1, none⟩ = some (.int .i64 pa) ∧ wz.cell? ⟨xb, 3, none⟩ = some (.int .i64 fi))
          (first
            | exact HKXr.out _ _ HX0r.out
            | exact HKXr.out _ _ HX5r.out
            | exact HKXr.out _ _ HX6r.out)
          (first
            | (go_at_call 13
               (with_reducible refine (HPKr.out _).mono ?_)
               rintro e w5 ⟨⟨kk, hkk, rfl⟩, rfl⟩
               have HKKr := Lib.hid hkk
               clear hkk)
            | (go_at_call 16
               (with_reducible refine HPCr.out.mono ?_)
               rintro e wpr ⟨gp, rfl, hgp, hbp, hgq⟩
               have HGPr := Lib.hid hgp; have HBPr := Lib.hid hbp; have HGQr := Lib.hid hgq
               have HX5r := Lib.hid (HX0r.out.quiet hgq)
               clear hgp hbp hgq)
            | (go_at_call 15
               (with_reducible refine (HWRr.out _ gp HGPr.out HBPr.out HGQr.out kk HKKr.out).mono ?_)
               rintro e wwr ⟨rfl, owwr, huwr, htwr⟩
               have HUWr := Lib.hid huwr
               have HX6r := Lib.hid (HX5r.out.turn htwr)
               have HTWr := Lib.hid ((HTBr.out.trans (Turn.none_ (HD0r.out.trans HGQr.out))).trans htwr)
               clear huwr htwr))
        clear HPKr HPCr HWRr HX0r HU0r HUBr HDBr HX5r HGPr HBPr
        have HWV := Lib.hid (HC8.out.v.turn HTWr.out)
        have HSP := Lib.hid (super_is HUWr.out.at_)
        go_wp2_with fail
        refine HSP.out.mono ?_
        rintro e w9 ⟨rfl, hg9⟩
        have HU9 := Lib.hid (HUWr.out.quiet hg9)
        have HV9 := Lib.hid (HWV.out.quiet hg9)
        clear hg9 HSP HUWr HWV HX6r
        have HD9 := Lib.hid (grown_drew w9 none)
        have HCM := Lib.hid (use_commit (HU9.out.quiet HD9.out) (by have := HCU.out.gn; show s2.x.gn < _; omega) (by have := HCU.out.ep; show s2.x.ep ≤ _; omega) (by have := HCU.out.sq; show s2.L.seq ≤ _; omega) (fun i => by have := HCU.out.ver i; show (s2.S.ver i).length < _; omega))
        have HV0 := Lib.hid (HV9.out.quiet HD9.out)
        have hw1 : IntKind.i64.wrap ((s2.x.gn : Int) + 1) = (s2.x.gn : Int) + 1 := IntWalk.i64_in _ (by have := HCU.out.gn; omega)
        have HKE := Lib.hid (show ∀ (wx : World) (F : Nat → Prop), WV wx F wv (s2.x.gn : Nat) (s2.x.ep : Nat) (s2.x.pg : Nat) (s2.x.st : Nat) (s2.x.ln : Nat) (s2.x.hd : Nat) (s2.x.sq : Nat) → wx.cell? ⟨wv, 1, none⟩ = some (.int .i64 (s2.x.ep : Nat)) from fun wx F h => h.cells.2.1)
        go_wp2_with fail
        refine wp_region_noPanic ?_
        refine wp_region_held_drew (S := fun wx => wx.cell? ⟨wv, 1, none⟩ = some (.int .i64 (s2.x.ep : Nat))) (by kernel_rfl) (HKE.out _ _ HV0.out) (fun hHeld => ?_)
        refine wpAnyH_take (i := 0) (v := .pointer (some ⟨sb2, 0, none⟩)) rfl (by kernel_rfl) (by kernel_rfl) (by kernel_rfl) (fun _ _ _ h => h) (Or.inl ⟨by rfl, ?_⟩) (by assumption) ?_
        · intro w1 hSw; (try dsimp only at hSw); go_simp
        simp only [Act.put, List.getElem_toArray, List.getElem_cons_zero, List.setIfInBounds_toArray, List.set_cons_zero, List.set_cons_succ]
        refine wpAnyH_ready (rs := [1]) (by kernel_rfl) (by simp) ?_
        refine AllReadyH.cons rfl (fun K hK => ?_) AllReadyH.nil
        go_simp
        go_at_call 18
        refine HCM.out.mono ?_
        rintro e wk ⟨rfl, owk, sk, huk, hnk, htk⟩
        have HUK := Lib.hid huk
        have HNK := Lib.hid hnk
        have HV1 := Lib.hid (HV0.out.turn htk)
        have HSA := Lib.hid (super_is huk.at_)
        have hgl : decide ((s2.x.gn : Int) + 1 < (sk.x.gn : Int)) = false := by have h1 : sk.x.gn ≤ s2.x.gn + 1 := hnk.gn.2; simp; omega
        have hgl2 : ¬ ((s2.x.gn : Int) + 1 < (sk.x.gn : Int)) := by simpa using hgl
        have hel : (sk.x.ep : Int) = (s2.x.ep : Int) := by have h1 : sk.x.ep = s2.x.ep := hnk.ep; omega
        have hel2 : ((sk.x.ep : Int) == (s2.x.ep : Int)) = true := by simp [hel]
        clear huk hnk htk
        refine hK.out _ _ (HKE.out _ _ HV1.out) (fun hHeld => ?_)
        clear hK K
        refine wpAnyH_take (i := 2) (v := .bool false) rfl (by kernel_rfl) (by kernel_rfl) (by kernel_rfl) (fun _ _ _ h => h) (Or.inl ⟨by rfl, ?_⟩) (by assumption) ?_
        · intro w1 hSw; (try dsimp only at hSw); go_simp
        simp only [Act.put, List.getElem_toArray, List.getElem_cons_succ, List.getElem_cons_zero, List.setIfInBounds_toArray, List.set_cons_zero, List.set_cons_succ]
        refine wpAnyH_take (i := 3) (v := .bool false) rfl (by kernel_rfl) (by kernel_rfl) (by kernel_rfl) (fun _ _ _ h => h) (Or.inl ⟨by rfl, ?_⟩) (by assumption) ?_
        · intro w1 hSw; (try dsimp only at hSw); go_simp
        simp only [Act.put, List.getElem_toArray, List.getElem_cons_succ, List.getElem_cons_zero, List.setIfInBounds_toArray, List.set_cons_zero, List.set_cons_succ]
        refine wpAnyH_take (i := 4) (v := .pointer (some ⟨sb2, 0, none⟩)) rfl (by kernel_rfl) (by kernel_rfl) (by kernel_rfl) (fun _ _ _ h => h) (Or.inl ⟨by rfl, ?_⟩) (by assumption) ?_
        · intro w1 hSw; (try dsimp only at hSw); go_simp
        simp only [Act.put, List.getElem_toArray, List.getElem_cons_succ, List.getElem_cons_zero, List.setIfInBounds_toArray, List.set_cons_zero, List.set_cons_succ]
        refine wpAnyH_take (i := 7) (v := .int .i64 (s2.x.gn : Nat)) rfl (by kernel_rfl) (by kernel_rfl) (by kernel_rfl) (fun _ _ _ h => h) (Or.inl ⟨by rfl, ?_⟩) (by assumption) ?_
        · intro w1 hSw; (try dsimp only at hSw); go_simp
        simp only [Act.put, List.getElem_toArray, List.getElem_cons_succ, List.getElem_cons_zero, List.setIfInBounds_toArray, List.set_cons_zero, List.set_cons_succ]
        refine wpAnyH_take (i := 8) (v := .int .i64 ((s2.x.gn : Int) + 1)) rfl (by kernel_rfl) (by kernel_rfl) (by kernel_rfl) (fun _ _ _ h => h) (Or.inl ⟨by rfl, ?_⟩) (by assumption) ?_
        · intro w1 hSw; (try dsimp only at hSw); go_simp
        simp only [Act.put, List.getElem_toArray, List.getElem_cons_succ, List.getElem_cons_zero, List.setIfInBounds_toArray, List.set_cons_zero, List.set_cons_succ]
        refine wpAnyH_ready (rs := [5]) (by kernel_rfl) (by simp) ?_
        refine AllReadyH.cons rfl (fun K hK => ?_) AllReadyH.nil
        go_simp
        go_at_call 24
        refine HSA.out.mono ?_
        rintro e wl ⟨rfl, hgl1⟩
        have HUL := Lib.hid (HUK.out.quiet hgl1)
        have HV2 := Lib.hid (HV1.out.quiet hgl1)
        have HSB := Lib.hid (super_is HUL.out.at_)
        clear hgl1
        refine hK.out _ _ (HKE.out _ _ HV2.out) (fun hHeld => ?_)
        clear hK K
        refine wpAnyH_take (i := 6) (v := .int .i64 (sk.x.gn : Nat)) rfl (by kernel_rfl) (by kernel_rfl) (by kernel_rfl) (fun _ _ _ h => h) (Or.inl ⟨by rfl, ?_⟩) (by assumption) ?_
        · intro w1 hSw; (try dsimp only at hSw); go_simp
        simp only [Act.put, List.getElem_toArray, List.getElem_cons_succ, List.getElem_cons_zero, List.setIfInBounds_toArray, List.set_cons_zero, List.set_cons_succ]
        refine wpAnyH_take (i := 9) (v := .bool false) rfl (by kernel_rfl) (by kernel_rfl) (by kernel_rfl) (fun _ _ _ h => h) (Or.inl ⟨by rfl, ?_⟩) (by assumption) ?_
        · intro w1 hSw; (try dsimp only at hSw); go_simp
        simp only [Act.put, List.getElem_toArray, List.getElem_cons_succ, List.getElem_cons_zero, List.setIfInBounds_toArray, List.set_cons_zero, List.set_cons_succ]
        refine wpAnyH_take (i := 10) (v := .bool false) rfl (by kernel_rfl) (by kernel_rfl) (by kernel_rfl) (fun _ _ _ h => h) (Or.inl ⟨by rfl, ?_⟩) (by assumption) ?_
        · intro w1 hSw; (try dsimp only at hSw); go_simp
        simp only [Act.put, List.getElem_toArray, List.getElem_cons_succ, List.getElem_cons_zero, List.setIfInBounds_toArray, List.set_cons_zero, List.set_cons_succ]
        refine wpAnyH_take (i := 11) (v := .bool false) rfl (by kernel_rfl) (by kernel_rfl) (by kernel_rfl) (fun _ _ _ h => h) (Or.inl ⟨by rfl, ?_⟩) (by assumption) ?_
        · intro w1 hSw; (try dsimp only at hSw); go_simp
        simp only [Act.put, List.getElem_toArray, List.getElem_cons_succ, List.getElem_cons_zero, List.setIfInBounds_toArray, List.set_cons_zero, List.set_cons_succ]
        refine wpAnyH_take (i := 12) (v := .pointer (some ⟨sb2, 0, none⟩)) rfl (by kernel_rfl) (by kernel_rfl) (by kernel_rfl) (fun _ _ _ h => h) (Or.inl ⟨by rfl, ?_⟩) (by assumption) ?_
        · intro w1 hSw; (try dsimp only at hSw); go_simp
        simp only [Act.put, List.getElem_toArray, List.getElem_cons_succ, List.getElem_cons_zero, List.setIfInBounds_toArray, List.set_cons_zero, List.set_cons_succ]
        refine wpAnyH_take (i := 15) (v := .pointer (some ⟨wv, 1, none⟩)) rfl (by kernel_rfl) (by kernel_rfl) (by kernel_rfl) (fun _ _ _ h => h) (Or.inl ⟨by rfl, ?_⟩) (by assumption) ?_
        · intro w1 hSw; (try dsimp only at hSw); go_simp
        simp only [Act.put, List.getElem_toArray, List.getElem_cons_succ, List.getElem_cons_zero, List.setIfInBounds_toArray, List.set_cons_zero, List.set_cons_succ]
        refine wpAnyH_take (i := 16) (v := .int .i64 (s2.x.ep : Nat)) rfl (by kernel_rfl) (by kernel_rfl) (by kernel_rfl) (fun _ _ _ h => h) (Or.inl ⟨by rfl, ?_⟩) (by assumption) ?_
        · intro w1 hSw; (try dsimp only at hSw); go_simp
        simp only [Act.put, List.getElem_toArray, List.getElem_cons_succ, List.getElem_cons_zero, List.setIfInBounds_toArray, List.set_cons_zero, List.set_cons_succ]
        refine wpAnyH_ready (rs := [13]) (by kernel_rfl) (by simp) ?_
        refine AllReadyH.cons rfl (fun K hK => ?_) AllReadyH.nil
        go_simp
        go_at_call 24
        refine HSB.out.mono ?_
        rintro e wm ⟨rfl, hgm⟩
        have HUM := Lib.hid (HUL.out.quiet hgm)
        have HV3 := Lib.hid (HV2.out.quiet hgm)
        clear hgm
        refine hK.out _ _ (HKE.out _ _ HV3.out) (fun hHeld => ?_)
        clear hK K
        refine wpAnyH_take (i := 14) (v := .int .i64 (sk.x.ep : Nat)) rfl (by kernel_rfl) (by kernel_rfl) (by kernel_rfl) (fun _ _ _ h => h) (Or.inl ⟨by rfl, ?_⟩) (by assumption) ?_
        · intro w1 hSw; (try dsimp only at hSw); go_simp
        simp only [Act.put, List.getElem_toArray, List.getElem_cons_succ, List.getElem_cons_zero, List.setIfInBounds_toArray, List.set_cons_zero, List.set_cons_succ]
        refine wpAnyH_take (i := 17) (v := .bool false) rfl (by kernel_rfl) (by kernel_rfl) (by kernel_rfl) (fun _ _ _ h => h) (Or.inl ⟨by rfl, ?_⟩) (by assumption) ?_
        · intro w1 hSw; (try dsimp only at hSw); go_simp
        simp only [Act.put, List.getElem_toArray, List.getElem_cons_succ, List.getElem_cons_zero, List.setIfInBounds_toArray, List.set_cons_zero, List.set_cons_succ]
        refine wpAnyH_take (i := 18) (v := .bool false) rfl (by kernel_rfl) (by kernel_rfl) (by kernel_rfl) (fun _ _ _ h => h) (Or.inl ⟨by rfl, ?_⟩) (by assumption) ?_
        · intro w1 hSw; (try dsimp only at hSw); go_simp
        simp only [Act.put, List.getElem_toArray, List.getElem_cons_succ, List.getElem_cons_zero, List.setIfInBounds_toArray, List.set_cons_zero, List.set_cons_succ]
        refine wpAnyH_done (by kernel_rfl) ?_ _
        refine NoPanic.normal ?_
        go_wp2_with fail
        go_roundw
        case rel => exact ⟨j + 1, tb2, g2, sb2, dm2, owk, sk, _, by omega, by first | rfl | simp, rfl, HUM.out, by have h1 : sk.x.gn ≤ s2.x.gn + 1 := HNK.out.gn.2; have h2 := HCU.out.gn; omega, by have h1 : sk.x.ep = s2.x.ep := HNK.out.ep; have h2 := HCU.out.ep; omega, by have h1 : sk.L.seq ≤ s2.L.seq + 1 := HNK.out.seq.2; have h2 := HCU.out.sq; omega, fun i => by have h1 : (sk.S.ver i).length ≤ (s2.S.ver i).length + 1 := HNK.out.ver i; have h2 := HCU.out.ver i; omega⟩
        case measure => simp [Go.RowKit.intOf]; omega
    · have hje : j = n := by omega
      have hjn : ¬ ((j : Int) < (n : Int)) := by omega
      have HLV := Lib.hid (lives_call wr)
      clear HSC
      go_wp2_with fail
      refine HLV.out.mono ?_
      rintro e w6 ⟨rfl, hg6⟩
      have HE := Lib.hid (HA.out.u.gr.trans hg6)
      clear hg6 HLV
      go_wp2_with fail
      go_ret
      exact ⟨rfl, below_of_grown HE.out (Nat.le_refl _) (fun _ e => by cases e)⟩
end Go.Proofs.YteaokeiolgjhaaaGreat.StoreGensUpto
