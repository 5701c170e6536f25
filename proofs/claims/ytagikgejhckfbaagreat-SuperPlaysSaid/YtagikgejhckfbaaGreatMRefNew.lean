/- Texts of this seat's proofs: RefNew, DiskAny. -/
import Derived.Test.YtagikgejhckfbaaGreatMRefCrash
import Derived.Test.YtagikgejhckfbaaGreatMRefWrite
import Derived.Test.YtagikgejhckfbaaGreatMDiskLay
import Derived.Test.YtagikgejhckfbaaGreatMDiskRead
import Derived.Test.YtagikgejhckfbaaGreatMCrcMath
import Derived.Great.BuildSlice
/- The document's disk: a new one. -/
namespace Go.Proofs.YtagikgejhckfbaaGreat.Dsk
open Go.RowKit Mem Crc DiskSpec

theorem cell_info : (Tryz.prog.info? 73).map (fun i => (i.zero, i.size, i.bytes)) = some (some (.agg #[.slice none 0 0, .slice none 0 0]), 2, 48) := by kernel_rfl
theorem make256r (w : World) : (Instr.makeSlice 70 (.int .i64 256) (.int .i64 256)).run Tryz.prog w = .ok (.slice (some ⟨w.heap.size, 0, none⟩) 256 256) (w.alloc (.cells (Array.replicate 256 (.int .u8 0)) 5)) := by kernel_rfl
theorem step_make {P : Program} {ops : Array Oper} {o : Oper} {a : Act} {w w' : World} {K : Act → World → Prop} {Q : Exit → Act → World → Prop} {E : Prop} (hgd : o.guard = none) (t : TypeId) (x y : Operand)
    (ho : o.op = .makeSlice t x y) (u u' v : Value) (hx : a.eval x = u) (hy : a.eval y = u') (hrun : (Instr.makeSlice t u u').run P w = .ok v w') (h : K (a.put o.dst v) w') :
    if Region.wanted o (yielded ops a.tmps) = true then Oper.wp P o a w K Q else E := by
  have hw : Region.wanted o (yielded ops a.tmps) = true := by simp [Region.wanted, hgd]
  rw [if_pos hw]
  unfold Oper.wp execOp
  simp only [ho, hx, hy, Sem.run_bind, Sem.run_pure, hrun, Result.andThen_ok]
  exact h
theorem build_cell (w : World) (A : Option Addr) (n c : Nat) :
    (Instr.buildSlice 67 1 #[(0, .agg #[.slice A n c, .slice none 0 0])]).run Tryz.prog w = .ok (.slice (some ⟨w.heap.size, 0, none⟩) 1 1) (w.alloc (.cells #[.slice A n c, .slice none 0 0] 73)) := by
  obtain ⟨i0, hi0, hz0, hz1, _⟩ := info_parts cell_info
  refine run_buildSlice w 67 73 1 _ _ i0 _ Tryz.underlying67 hi0 hz0 (by rw [hz1]; decide) (by rw [hz1]; decide) ?_
  rw [hz1]
  have hf := Great.fill_whole (s := 2) (by omega) [.agg #[.slice A n c, .slice none 0 0]] ((Array.range (1 * 2)).map fun q => (Value.agg #[.slice none 0 0, .slice none 0 0]).cells[q % (Value.agg #[.slice none 0 0, .slice none 0 0]).cells.size]!) (by simp [Value.cells]) (by simp)
  have e : ([Value.agg #[.slice A n c, .slice none 0 0]].flatMap fun v => v.cells.toList).toArray = #[.slice A n c, .slice none 0 0] := by simp [Value.cells]
  rw [e] at hf
  exact hf
theorem load_cells (w : World) (b o : Nat) (v : Value) (hc : w.cell? ⟨b, o, none⟩ = some v) : (Instr.loadAt 67 (.pointer (some ⟨b, o, none⟩))).run Tryz.prog w = .ok v w := by
  have ha := Tryz.isAgg67 w
  simp [Instr.loadAt, Instr.sureAddr, loadVar, ha, hc]
theorem store_cells (w : World) (b o : Nat) (v old : Value) (hc : w.cell? ⟨b, o, none⟩ = some old) (hf : w.frozen? ⟨b, o, none⟩ = false) (A : Option Addr) (n c : Nat) (hv : v = .slice A n c) :
    (Instr.storeAt 67 (.pointer (some ⟨b, o, none⟩)) v).run Tryz.prog w = .ok () (w.setCell ⟨b, o, none⟩ v) := by
  subst hv
  have hz := Tryz.sizeOf67 w
  have e : (⟨b, o, none⟩ : Addr).add 0 = ⟨b, o, none⟩ := by rw [Addr.add_mid, Nat.add_zero]
  have hs := run_store Tryz.prog w ⟨b, o, none⟩ (.slice A n c) .plain rfl
  rw [hc, hf] at hs
  simp [Instr.storeAt, Instr.sureAddr, storeVar, hz, Value.cells, storeCells, e, hs]

/-- The cells of new sectors, one behind the other. -/
def pairs (ds : List Value) : List Value := ds.flatMap fun d => [d, .slice none 0 0]
theorem pairs_length (ds : List Value) : (pairs ds).length = ds.length * 2 := by
  induction ds with
  | nil => rfl
  | cons d ds ih => simp only [pairs, List.flatMap_cons, List.length_append, List.length_cons, List.length_nil] at *; omega
theorem pairs_at (ds : List Value) (i : Nat) (hi : i < ds.length) : (pairs ds)[i * 2]? = some (ds.getD i undef) ∧ (pairs ds)[i * 2 + 1]? = some (.slice none 0 0) := by
  induction ds generalizing i with
  | nil => simp at hi
  | cons d ds ih =>
    cases i with
    | zero => simp [pairs]
    | succ i =>
      have h := ih i (by simpa using hi)
      rw [show (i + 1) * 2 = i * 2 + 2 by omega]
      simpa [pairs] using h
theorem pairs_snoc (ds : List Value) (d : Value) : pairs (ds ++ [d]) = pairs ds ++ [d, .slice none 0 0] := by simp [pairs]
theorem row_type {w : World} {base n size : Nat} {e : TypeId} {v : Value} {xs : List Value} (h : w.ownsRow base e size v n xs) {g : Nat} (hg : v.ownBlock = some g) : base ≤ g ∧ ∃ cur, w.heap[g]? = some (.cells cur e (0, 0)) := by
  rcases h.2 with ⟨rfl, _⟩ | ⟨g', cap, cur, rfl, hb, hh, _⟩
  · cases hg
  · cases hg; exact ⟨hb, cur, hh⟩
/-- A new sector's bytes. -/
theorem fresh_bytes {w : World} {own : Nat → Prop} {z : Nat} (hh : w.heap[z]? = some (.cells (Array.replicate 256 (.int .u8 0)) 5 (0, 0))) (ho : own z) : BytesAt w own (.slice (some ⟨z, 0, none⟩) 256 256) zeros := by
  refine ⟨z, 256, _, _, rfl, Nat.le_refl _, by unfold maxLen; omega, ho, hh, Sec.zero, fun j hj => ?_⟩
  have e0 : zeros.getD j 0 = 0 := by
    unfold zeros
    rw [List.getD_eq_getElem?_getD, List.getElem?_replicate]
    simp [hj]
  rw [e0, Array.getElem?_replicate, if_pos hj]; rfl

/-- New sectors, so far. -/
structure Made (w0 w : World) (j : Nat) (v : Value) (ds : List Value) : Prop where
  blk : Blk w w0.heap.size 69 #[v, .int .i64 0, .int .i64 0, .int .i64 0, .int .i64 0, .int .i64 (-1)]
  row : w.ownsRow (w0.heap.size + 1) 73 2 v j (pairs ds)
  len : ds.length = j
  bytes : ∀ d ∈ ds, BytesAt w (fun i => w0.heap.size ≤ i) d zeros
  grown : w0.grownBy w none

theorem Made.step {w0 w : World} {j : Nat} {v : Value} {ds : List Value} (h : Made w0 w j v ds) (hj : j < 4096) (ty : TypeId) :
    ∃ A n c w1, (Builtin.append_ #[67, 67] ty #[v, .slice (some ⟨w.heap.size + 1, 0, none⟩) 1 1]).run Tryz.prog ((w.drew.alloc (.cells (Array.replicate 256 (.int .u8 0)) 5)).alloc (.cells #[.slice (some ⟨w.heap.size, 0, none⟩) 256 256, .slice none 0 0] 73)) = .ok (.slice A n c) w1 ∧
      Made w0 (w1.setCell ⟨w0.heap.size, 0, none⟩ (.slice A n c)) (j + 1) (.slice A n c) (ds ++ [.slice (some ⟨w.heap.size, 0, none⟩) 256 256]) ∧ w1.cell? ⟨w0.heap.size, 0, none⟩ = some v ∧ w1.frozen? ⟨w0.heap.size, 0, none⟩ = false := by
  obtain ⟨i0, hi0, hz0, hz1, hz2⟩ := info_parts cell_info
  have hz : Blk (w.drew.alloc (.cells (Array.replicate 256 (.int .u8 0)) 5)) w.heap.size 5 _ := Blk.new w.drew _ _
  have hzz := hz.alloc (.cells #[.slice (some ⟨w.heap.size, 0, none⟩) 256 256, .slice none 0 0] 73)
  have hb := ((h.blk.drew).alloc (.cells (Array.replicate 256 (.int .u8 0)) 5)).alloc (.cells #[.slice (some ⟨w.heap.size, 0, none⟩) 256 256, .slice none 0 0] 73)
  have hg : w.grownBy ((w.drew.alloc (.cells (Array.replicate 256 (.int .u8 0)) 5)).alloc (.cells #[.slice (some ⟨w.heap.size, 0, none⟩) 256 256, .slice none 0 0] 73)) none :=
    ((grown_drew w none).trans (World.grownBy_alloc w.drew _ none)).trans (World.grownBy_alloc _ _ none)
  have hc := Blk.new (w.drew.alloc (.cells (Array.replicate 256 (.int .u8 0)) 5)) 73 #[.slice (some ⟨w.heap.size, 0, none⟩) 256 256, .slice none 0 0]
  have hsz : (w.drew.alloc (.cells (Array.replicate 256 (.int .u8 0)) 5)).heap.size = w.heap.size + 1 := by simp
  have hsz2 : ((w.drew.alloc (.cells (Array.replicate 256 (.int .u8 0)) 5)).alloc (.cells #[.slice (some ⟨w.heap.size, 0, none⟩) 256 256, .slice none 0 0] 73)).heap.size = w.heap.size + 2 := by simp
  rw [hsz] at hc
  have hown : ((w.drew.alloc (.cells (Array.replicate 256 (.int .u8 0)) 5)).alloc (.cells #[.slice (some ⟨w.heap.size, 0, none⟩) 256 256, .slice none 0 0] 73)).ownsRow (w0.heap.size + 1) 73 2 v j (pairs ds) := by
    refine ⟨h.row.1, ?_⟩
    rcases h.row.2 with h1 | ⟨g, cap, cur, h1, h2, h3, h4⟩
    · exact .inl h1
    · exact .inr ⟨g, cap, cur, h1, h2, (hg.block g (Array.getElem?_eq_some_iff.1 h3).1 (by simp)).trans h3, h4⟩
  have hlow := h.grown.size
  have hrl := h.blk.lt
  generalize ((w.drew.alloc (.cells (Array.replicate 256 (.int .u8 0)) 5)).alloc (.cells #[.slice (some ⟨w.heap.size, 0, none⟩) 256 256, .slice none 0 0] 73)) = w3 at *
  have hrd : Reads w3 w3.heap.size 2 (some ⟨w.heap.size + 1, 0, none⟩) 1 [.slice (some ⟨w.heap.size, 0, none⟩) 256 256, .slice none 0 0] := by
    refine ⟨rfl, fun _ => ⟨_, rfl, by rw [hsz2]; simp, fun q x hx => ?_⟩⟩
    rw [Addr.add_mid, Nat.zero_add, hc.cell, ← hx]; simp
  obtain ⟨v', w1, h1, h2, h3, h4⟩ := run_append_any (P := Tryz.prog) w3 (w0.heap.size + 1) 67 ty 73 i0 _ 2 48 Tryz.underlying67 hi0 hz0 hz1 hz2 (by rfl) (by omega)
    v j (pairs ds) hown w3.heap.size (some ⟨w.heap.size + 1, 0, none⟩) 1 1 _ hrd (fun u hu => by simp at hu; rcases hu with rfl | rfl <;> rfl) (by unfold maxLen; omega) (by omega) (by omega)
  have hne : ∀ g, v.ownBlock = some g → w0.heap.size + 1 ≤ g ∧ ∃ cur, w3.heap[g]? = some (.cells cur 73 (0, 0)) := fun g hg => row_type hown hg
  have hb1 : Blk w1 w0.heap.size 69 #[v, .int .i64 0, .int .i64 0, .int .i64 0, .int .i64 0, .int .i64 (-1)] := hb.grown h3 (fun e => by have := (hne _ e.symm).1; omega)
  obtain ⟨A, n, c, rfl⟩ : ∃ A n c, v' = .slice A n c := by
    rcases h2.2 with ⟨h5, _⟩ | ⟨g, cap, cur, h5, _⟩
    · exact ⟨_, _, _, h5⟩
    · exact ⟨_, _, _, h5⟩
  have hkeep : ∀ g cs fz, w0.heap.size ≤ g → w3.heap[g]? = some (.cells cs 5 fz) → (w1.setCell ⟨w0.heap.size, 0, none⟩ (.slice A n c)).heap[g]? = w3.heap[g]? := fun g cs fz _ hh => by
    have e1 : w1.heap[g]? = w3.heap[g]? := h3.block g (Array.getElem?_eq_some_iff.1 hh).1 (fun e => by
      obtain ⟨_, cur, hh'⟩ := hne _ e.symm
      exact types_ne hh hh' (by decide) rfl)
    have e2 : g ≠ w0.heap.size := types_ne (e1.trans hh) hb1 (by decide)
    exact (Below.heap_setCell w1 _ _ g e2).trans e1
  refine ⟨A, n, c, w1, h1, ?_, by rw [hb1.cell]; rfl, hb1.frozen 0⟩
  exact {
    blk := hb1.set_ 0 _
    row := by
      refine ⟨by rw [pairs_snoc]; exact h2.1, ?_⟩
      rw [pairs_snoc]
      rcases h2.2 with h5 | ⟨g, cap, cur, h5, h6, h7, h8⟩
      · exact .inl h5
      · exact .inr ⟨g, cap, cur, h5, h6, (Below.heap_setCell w1 _ _ g (by simp; omega)).trans h7, h8⟩
    len := by rw [List.length_append, h.len]; rfl
    bytes := fun d hd => by
      rcases List.mem_append.1 hd with hd | hd
      · have h9 := (h.bytes d hd).keep (w' := w3) (fun _ h => h) (fun g cs fz _ hh => hg.block g (Array.getElem?_eq_some_iff.1 hh).1 (by simp))
        exact h9.keep (fun _ h => h) hkeep
      · rw [List.mem_singleton] at hd
        subst hd
        exact (fresh_bytes hzz (by omega : w0.heap.size ≤ w.heap.size)).keep (fun _ h => h) hkeep
    grown := ((h.grown.trans hg).andThen h3 (fun g e => .inl (by have := (hne g e).1; omega))).andThen (Lib.grownBy_setB (World.grownBy.refl w1 (some w0.heap.size)) 0 (.slice A n c)) (fun g e => by cases e; exact .inl (Nat.le_refl _)) }

/-- All sectors made: it is a new disk. -/
theorem Made.all {w0 w : World} {n : Nat} {v : Value} {ds : List Value} (h : Made w0 w n v ds) (h1 : 1 ≤ n) (h2 : n ≤ 4096) :
    ∃ bl c dv vv vs own, RLay w w0.heap.size w0.heap.size bl c dv vv vs (St.new n) own := by
  rcases h.row.2 with ⟨_, h5⟩ | ⟨g, cap, cur, rfl, h6, h7, h8, h9, h10, h11⟩
  · omega
  · refine ⟨g, cap, fun i => ds.getD i undef, fun _ => .slice none 0 0, fun _ => [], fun i => w0.heap.size ≤ i ∧ i < w.heap.size, ?_⟩
    have hpl := pairs_length ds
    rw [h.len] at hpl
    exact {
      ok := St.ok.new h1 h2
      blk := h.blk
      cells := ⟨cur, h7, fun i hi => by
        have hi' : i < n := hi
        have hp := pairs_at ds i (by rw [h.len]; exact hi')
        rw [← h11, List.getElem?_take_of_lt (by omega), List.getElem?_take_of_lt (by omega), Array.getElem?_toList, Array.getElem?_toList] at hp
        exact hp⟩
      part := fun i hi => by
        have hi' : i < n := hi
        have hd : ds.getD i undef ∈ ds := by rw [List.getD_eq_getElem?_getD, List.getElem?_eq_getElem (by rw [h.len]; exact hi')]; exact List.getElem_mem _
        obtain ⟨g2, c2, cs, fz, e1, e2, e3, e4, e5, e6⟩ := h.bytes _ hd
        exact ⟨⟨g2, c2, cs, fz, e1, e2, e3, ⟨e4, (Array.getElem?_eq_some_iff.1 e5).1⟩, e5, e6⟩, Own.nil _ _ _ _, (fun g hg => by cases hg), (fun k y hk => by cases hk)⟩
      apart := fun i j g hi hj _ e => by cases e
      cap := ⟨h8, h9⟩
      ownR := ⟨Nat.le_refl _, h.blk.lt⟩
      ownL := ⟨by omega, (Array.getElem?_eq_some_iff.1 h7).1⟩
      low := fun i hi => hi.1
      lt := fun i hi => hi.2 }

set_option maxHeartbeats 400000 in
theorem ref_new_no (n : Int) (w : World) (hn : n < 1 ∨ 4096 < n) :
    Calls Tryz.prog 6 #[.int .i64 n] w fun e w' => e = .returned (.tuple #[.pointer none, .int .i64 1]) ∧ w = w' := by
  rcases hn with hn | hn
  · go_enter Tryz.func6, Tryz.ntmps6
    go_wp2
    go_ret2
    exact ⟨rfl, rfl⟩
  · have h1 : decide (n < 1) = false := by simp; omega
    go_enter Tryz.func6, Tryz.ntmps6
    go_wp2
    go_ret2
    exact ⟨rfl, rfl⟩

set_option maxRecDepth 100000 in
set_option maxHeartbeats 3200000 in
theorem ref_new (n : Nat) (w : World) (h1 : 1 ≤ n) (h2 : n ≤ 4096) :
    Calls Tryz.prog 6 #[.int .i64 (n : Nat)] w fun e w' => ∃ r bl c dv vv vs own, e = .returned (.tuple #[.pointer (some ⟨r, 0, none⟩), .int .i64 0]) ∧ RLay w' w.heap.size r bl c dv vv vs (St.new n) own ∧ w.grownBy w' none := by
  have hd1 : decide ((n : Int) < 1) = false := by simp; omega
  have hd2 : decide (4096 < (n : Int)) = false := by simp; omega
  have HM0 := Lib.hid (show Made w (w.alloc (.cells #[.slice none 0 0, .int .i64 0, .int .i64 0, .int .i64 0, .int .i64 0, .int .i64 (-1)] 69)) 0 (.slice none 0 0) [] from
    ⟨Blk.new w _ _, World.ownsRow_nil _ _ _ _, rfl, by simp, World.grownBy_alloc w _ none⟩)
  go_enter Tryz.func6, Tryz.ntmps6
  go_wp2_with fail
  go_loopw [5] (fun i wr => ∃ (j : Nat) (v : Value) (ds : List Value), j ≤ n ∧ i = .int .i64 j ∧ Made w wr j v ds) (fun i _ => n - (Go.RowKit.intOf i).toNat)
  case atStart => exact ⟨0, _, _, by omega, rfl, HM0.out⟩
  case round =>
    obtain ⟨j, v, ds, hj, rfl, hm⟩ := hrel
    have HM := Lib.hid hm; clear hm
    by_cases hlt : j < n
    · obtain ⟨A, m, c, w1, hr1, hm1, hc1, hf1⟩ := HM.out.step (by omega) 67
      have hcv : wr.cell? ⟨w.heap.size, 0, none⟩ = some v := by rw [HM.out.blk.cell]; rfl
      have hmk := make256r wr.drew
      have hbs := build_cell (wr.drew.alloc (.cells (Array.replicate 256 (.int .u8 0)) 5)) (some ⟨wr.heap.size, 0, none⟩) 256 256
      rw [show (wr.drew.alloc (.cells (Array.replicate 256 (.int .u8 0)) 5)).heap.size = wr.heap.size + 1 by simp] at hbs
      have hl := HM.out.blk.lt
      have hld1 := load_cells wr.drew w.heap.size 0 v hcv
      have hb2 := (HM.out.blk.drew).alloc (.cells (Array.replicate 256 (.int .u8 0)) 5)
      have hb3 := hb2.alloc (.cells #[.slice (some ⟨wr.heap.size, 0, none⟩) 256 256, .slice none 0 0] 73)
      have hld2 := load_cells (wr.drew.alloc (.cells (Array.replicate 256 (.int .u8 0)) 5)) w.heap.size 0 v (by rw [hb2.cell]; rfl)
      have hld3 := load_cells ((wr.drew.alloc (.cells (Array.replicate 256 (.int .u8 0)) 5)).alloc (.cells #[.slice (some ⟨wr.heap.size, 0, none⟩) 256 256, .slice none 0 0] 73)) w.heap.size 0 v (by rw [hb3.cell]; rfl)
      have hst := store_cells w1 w.heap.size 0 (.slice A m c) v hc1 hf1 A m c rfl
      have HM1 := Lib.hid hm1
      clear hb2 hb3 hm1 hcv hc1 hf1 hl
      generalize Array.replicate 256 (Value.int .u8 0) = zs at *
      go_wp2_with fail
      refine wp_region_noPanic ?_
      refine wp_region_held_drew (S := fun _ => True) (by kernel_rfl) trivial (fun hHeld => ?_)
      refine wpAnyH_take (i := 0) (v := .pointer (some ⟨w.heap.size, 0, none⟩)) rfl (by kernel_rfl) (by kernel_rfl) (by kernel_rfl) (fun _ _ _ h => h) (Or.inl ⟨by rfl, ?_⟩) (by assumption) ?_
      · intro w1 hSw; (try dsimp only at hSw); go_simp
      simp only [Act.put, List.getElem_toArray, List.getElem_cons_zero, List.setIfInBounds_toArray, List.set_cons_zero, List.set_cons_succ]
      refine wpAnyH_take (i := 1) (v := .pointer (some ⟨w.heap.size, 0, none⟩)) rfl (by kernel_rfl) (by kernel_rfl) (by kernel_rfl) (fun _ _ _ h => h) (Or.inl ⟨by rfl, ?_⟩) (by assumption) ?_
      · intro w1 hSw; (try dsimp only at hSw); go_simp
      simp only [Act.put, List.getElem_toArray, List.getElem_cons_succ, List.getElem_cons_zero, List.setIfInBounds_toArray, List.set_cons_zero, List.set_cons_succ]
      refine wpAnyH_take (i := 2) (v := .pointer (some ⟨w.heap.size, 0, none⟩)) rfl (by kernel_rfl) (by kernel_rfl) (by kernel_rfl) (fun _ _ _ h => h) (Or.inl ⟨by rfl, ?_⟩) (by assumption) ?_
      · intro w1 hSw; (try dsimp only at hSw); go_simp
      simp only [Act.put, List.getElem_toArray, List.getElem_cons_succ, List.getElem_cons_zero, List.setIfInBounds_toArray, List.set_cons_zero, List.set_cons_succ]
      refine wpAnyH_take (i := 3) (v := .pointer (some ⟨w.heap.size, 0, none⟩)) rfl (by kernel_rfl) (by kernel_rfl) (by kernel_rfl) (fun _ _ _ h => h) (Or.inl ⟨by rfl, ?_⟩) (by assumption) ?_
      · intro w1 hSw; (try dsimp only at hSw); go_simp
      simp only [Act.put, List.getElem_toArray, List.getElem_cons_succ, List.getElem_cons_zero, List.setIfInBounds_toArray, List.set_cons_zero, List.set_cons_succ]
      refine wpAnyH_ready (rs := [4, 5]) (by kernel_rfl) (by simp) ?_
      refine AllReadyH.cons rfl (fun K hK => ?_) (AllReadyH.cons rfl (fun K hK => ?_) AllReadyH.nil)
      · refine step_load rfl (Operand.tmp 22) 67 rfl _ _ rfl hld1 ?_
        refine hK.out _ _ trivial (fun hHeld => ?_)
        clear hK K
        simp only [Act.put, List.getElem_toArray, List.getElem_cons_succ, List.getElem_cons_zero, List.setIfInBounds_toArray, List.set_cons_zero, List.set_cons_succ]
        refine wpAnyH_ready (rs := [5]) (by kernel_rfl) (by simp) ?_
        refine AllReadyH.cons rfl (fun K hK => ?_) AllReadyH.nil
        refine step_make rfl 70 _ _ rfl _ _ _ rfl rfl hmk ?_
        refine hK.out _ _ trivial (fun hHeld => ?_)
        clear hK K
        simp only [Act.put, List.getElem_toArray, List.getElem_cons_succ, List.getElem_cons_zero, List.setIfInBounds_toArray, List.set_cons_zero, List.set_cons_succ]
        refine wpAnyH_take (i := 6) (v := .agg #[.slice (some ⟨wr.heap.size, 0, none⟩) 256 256, .slice none 0 0]) rfl (by kernel_rfl) (by kernel_rfl) (by kernel_rfl) (fun _ _ _ h => h) (Or.inl ⟨by rfl, ?_⟩) (by assumption) ?_
        · intro w1 hSw; (try dsimp only at hSw); go_simp
        simp only [Act.put, List.getElem_toArray, List.getElem_cons_succ, List.getElem_cons_zero, List.setIfInBounds_toArray, List.set_cons_zero, List.set_cons_succ]
        refine wpAnyH_ready (rs := [7]) (by kernel_rfl) (by simp) ?_
        refine AllReadyH.cons rfl (fun K hK => ?_) AllReadyH.nil
        refine step_build rfl 67 (Operand.tmp 25) rfl (.agg #[.slice (some ⟨wr.heap.size, 0, none⟩) 256 256, .slice none 0 0]) _ rfl hbs ?_
        refine hK.out _ _ trivial (fun hHeld => ?_)
        clear hK K
        simp only [Act.put, List.getElem_toArray, List.getElem_cons_succ, List.getElem_cons_zero, List.setIfInBounds_toArray, List.set_cons_zero, List.set_cons_succ]
        refine wpAnyH_ready (rs := [8]) (by kernel_rfl) (by simp) ?_
        refine AllReadyH.cons rfl (fun K hK => ?_) AllReadyH.nil
        refine step_append rfl (Operand.tmp 23) (Operand.tmp 26) 67 rfl _ _ _ rfl rfl hr1 ?_
        refine hK.out _ _ trivial (fun hHeld => ?_)
        clear hK K
        simp only [Act.put, List.getElem_toArray, List.getElem_cons_succ, List.getElem_cons_zero, List.setIfInBounds_toArray, List.set_cons_zero, List.set_cons_succ]
        refine wpAnyH_take (i := 9) (v := .pointer (some ⟨w.heap.size, 0, none⟩)) rfl (by kernel_rfl) (by kernel_rfl) (by kernel_rfl) (fun _ _ _ h => h) (Or.inl ⟨by rfl, ?_⟩) (by assumption) ?_
        · intro w1 hSw; (try dsimp only at hSw); go_simp
        simp only [Act.put, List.getElem_toArray, List.getElem_cons_succ, List.getElem_cons_zero, List.setIfInBounds_toArray, List.set_cons_zero, List.set_cons_succ]
        refine wpAnyH_take (i := 10) (v := .pointer (some ⟨w.heap.size, 0, none⟩)) rfl (by kernel_rfl) (by kernel_rfl) (by kernel_rfl) (fun _ _ _ h => h) (Or.inl ⟨by rfl, ?_⟩) (by assumption) ?_
        · intro w1 hSw; (try dsimp only at hSw); go_simp
        simp only [Act.put, List.getElem_toArray, List.getElem_cons_succ, List.getElem_cons_zero, List.setIfInBounds_toArray, List.set_cons_zero, List.set_cons_succ]
        refine wpAnyH_ready (rs := [11]) (by kernel_rfl) (by simp) ?_
        refine AllReadyH.cons rfl (fun K hK => ?_) AllReadyH.nil
        refine step_store rfl (Operand.tmp 29) (Operand.tmp 27) 67 rfl _ _ rfl rfl hst ?_
        refine hK.out _ _ trivial (fun hHeld => ?_)
        clear hK K
        refine wpAnyH_done (by kernel_rfl) ?_ _
        refine NoPanic.normal ?_
        simp only [Act.put, List.getElem_toArray, List.getElem_cons_succ, List.getElem_cons_zero]
        go_wp2_with fail
        go_roundw
        case rel => exact ⟨j + 1, _, _, by omega, by go_num, HM1.out⟩
        case measure => simp [Go.RowKit.intOf]; omega
      · refine step_make rfl 70 _ _ rfl _ _ _ rfl rfl hmk ?_
        refine hK.out _ _ trivial (fun hHeld => ?_)
        clear hK K
        simp only [Act.put, List.getElem_toArray, List.getElem_cons_succ, List.getElem_cons_zero, List.setIfInBounds_toArray, List.set_cons_zero, List.set_cons_succ]
        refine wpAnyH_take (i := 6) (v := .agg #[.slice (some ⟨wr.heap.size, 0, none⟩) 256 256, .slice none 0 0]) rfl (by kernel_rfl) (by kernel_rfl) (by kernel_rfl) (fun _ _ _ h => h) (Or.inl ⟨by rfl, ?_⟩) (by assumption) ?_
        · intro w1 hSw; (try dsimp only at hSw); go_simp
        simp only [Act.put, List.getElem_toArray, List.getElem_cons_succ, List.getElem_cons_zero, List.setIfInBounds_toArray, List.set_cons_zero, List.set_cons_succ]
        refine wpAnyH_ready (rs := [4, 7]) (by kernel_rfl) (by simp) ?_
        refine AllReadyH.cons rfl (fun K hK => ?_) (AllReadyH.cons rfl (fun K hK => ?_) AllReadyH.nil)
        · refine step_load rfl (Operand.tmp 22) 67 rfl _ _ rfl hld2 ?_
          refine hK.out _ _ trivial (fun hHeld => ?_)
          clear hK K
          simp only [Act.put, List.getElem_toArray, List.getElem_cons_succ, List.getElem_cons_zero, List.setIfInBounds_toArray, List.set_cons_zero, List.set_cons_succ]
          refine wpAnyH_ready (rs := [7]) (by kernel_rfl) (by simp) ?_
          refine AllReadyH.cons rfl (fun K hK => ?_) AllReadyH.nil
          refine step_build rfl 67 (Operand.tmp 25) rfl (.agg #[.slice (some ⟨wr.heap.size, 0, none⟩) 256 256, .slice none 0 0]) _ rfl hbs ?_
          refine hK.out _ _ trivial (fun hHeld => ?_)
          clear hK K
          simp only [Act.put, List.getElem_toArray, List.getElem_cons_succ, List.getElem_cons_zero, List.setIfInBounds_toArray, List.set_cons_zero, List.set_cons_succ]
          refine wpAnyH_ready (rs := [8]) (by kernel_rfl) (by simp) ?_
          refine AllReadyH.cons rfl (fun K hK => ?_) AllReadyH.nil
          refine step_append rfl (Operand.tmp 23) (Operand.tmp 26) 67 rfl _ _ _ rfl rfl hr1 ?_
          refine hK.out _ _ trivial (fun hHeld => ?_)
          clear hK K
          simp only [Act.put, List.getElem_toArray, List.getElem_cons_succ, List.getElem_cons_zero, List.setIfInBounds_toArray, List.set_cons_zero, List.set_cons_succ]
          refine wpAnyH_take (i := 9) (v := .pointer (some ⟨w.heap.size, 0, none⟩)) rfl (by kernel_rfl) (by kernel_rfl) (by kernel_rfl) (fun _ _ _ h => h) (Or.inl ⟨by rfl, ?_⟩) (by assumption) ?_
          · intro w1 hSw; (try dsimp only at hSw); go_simp
          simp only [Act.put, List.getElem_toArray, List.getElem_cons_succ, List.getElem_cons_zero, List.setIfInBounds_toArray, List.set_cons_zero, List.set_cons_succ]
          refine wpAnyH_take (i := 10) (v := .pointer (some ⟨w.heap.size, 0, none⟩)) rfl (by kernel_rfl) (by kernel_rfl) (by kernel_rfl) (fun _ _ _ h => h) (Or.inl ⟨by rfl, ?_⟩) (by assumption) ?_
          · intro w1 hSw; (try dsimp only at hSw); go_simp
          simp only [Act.put, List.getElem_toArray, List.getElem_cons_succ, List.getElem_cons_zero, List.setIfInBounds_toArray, List.set_cons_zero, List.set_cons_succ]
          refine wpAnyH_ready (rs := [11]) (by kernel_rfl) (by simp) ?_
          refine AllReadyH.cons rfl (fun K hK => ?_) AllReadyH.nil
          refine step_store rfl (Operand.tmp 29) (Operand.tmp 27) 67 rfl _ _ rfl rfl hst ?_
          refine hK.out _ _ trivial (fun hHeld => ?_)
          clear hK K
          refine wpAnyH_done (by kernel_rfl) ?_ _
          refine NoPanic.normal ?_
          simp only [Act.put, List.getElem_toArray, List.getElem_cons_succ, List.getElem_cons_zero]
          go_wp2_with fail
          go_roundw
          case rel => exact ⟨j + 1, _, _, by omega, by go_num, HM1.out⟩
          case measure => simp [Go.RowKit.intOf]; omega
        · refine step_build rfl 67 (Operand.tmp 25) rfl (.agg #[.slice (some ⟨wr.heap.size, 0, none⟩) 256 256, .slice none 0 0]) _ rfl hbs ?_
          refine hK.out _ _ trivial (fun hHeld => ?_)
          clear hK K
          simp only [Act.put, List.getElem_toArray, List.getElem_cons_succ, List.getElem_cons_zero, List.setIfInBounds_toArray, List.set_cons_zero, List.set_cons_succ]
          refine wpAnyH_ready (rs := [4]) (by kernel_rfl) (by simp) ?_
          refine AllReadyH.cons rfl (fun K hK => ?_) AllReadyH.nil
          refine step_load rfl (Operand.tmp 22) 67 rfl _ _ rfl hld3 ?_
          refine hK.out _ _ trivial (fun hHeld => ?_)
          clear hK K
          simp only [Act.put, List.getElem_toArray, List.getElem_cons_succ, List.getElem_cons_zero, List.setIfInBounds_toArray, List.set_cons_zero, List.set_cons_succ]
          refine wpAnyH_ready (rs := [8]) (by kernel_rfl) (by simp) ?_
          refine AllReadyH.cons rfl (fun K hK => ?_) AllReadyH.nil
          refine step_append rfl (Operand.tmp 23) (Operand.tmp 26) 67 rfl _ _ _ rfl rfl hr1 ?_
          refine hK.out _ _ trivial (fun hHeld => ?_)
          clear hK K
          simp only [Act.put, List.getElem_toArray, List.getElem_cons_succ, List.getElem_cons_zero, List.setIfInBounds_toArray, List.set_cons_zero, List.set_cons_succ]
          refine wpAnyH_take (i := 9) (v := .pointer (some ⟨w.heap.size, 0, none⟩)) rfl (by kernel_rfl) (by kernel_rfl) (by kernel_rfl) (fun _ _ _ h => h) (Or.inl ⟨by rfl, ?_⟩) (by assumption) ?_
          · intro w1 hSw; (try dsimp only at hSw); go_simp
          simp only [Act.put, List.getElem_toArray, List.getElem_cons_succ, List.getElem_cons_zero, List.setIfInBounds_toArray, List.set_cons_zero, List.set_cons_succ]
          refine wpAnyH_take (i := 10) (v := .pointer (some ⟨w.heap.size, 0, none⟩)) rfl (by kernel_rfl) (by kernel_rfl) (by kernel_rfl) (fun _ _ _ h => h) (Or.inl ⟨by rfl, ?_⟩) (by assumption) ?_
          · intro w1 hSw; (try dsimp only at hSw); go_simp
          simp only [Act.put, List.getElem_toArray, List.getElem_cons_succ, List.getElem_cons_zero, List.setIfInBounds_toArray, List.set_cons_zero, List.set_cons_succ]
          refine wpAnyH_ready (rs := [11]) (by kernel_rfl) (by simp) ?_
          refine AllReadyH.cons rfl (fun K hK => ?_) AllReadyH.nil
          refine step_store rfl (Operand.tmp 29) (Operand.tmp 27) 67 rfl _ _ rfl rfl hst ?_
          refine hK.out _ _ trivial (fun hHeld => ?_)
          clear hK K
          refine wpAnyH_done (by kernel_rfl) ?_ _
          refine NoPanic.normal ?_
          simp only [Act.put, List.getElem_toArray, List.getElem_cons_succ, List.getElem_cons_zero]
          go_wp2_with fail
          go_roundw
          case rel => exact ⟨j + 1, _, _, by omega, by go_num, HM1.out⟩
          case measure => simp [Go.RowKit.intOf]; omega
    · obtain rfl : j = n := by omega
      obtain ⟨bl, c, dv, vv, vs, own, hl⟩ := HM.out.all h1 h2
      have HL := Lib.hid hl; clear hl
      go_wp2
      go_ret2
      exact ⟨_, bl, c, dv, vv, vs, own, rfl, HL.out, HM.out.grown⟩
end Go.Proofs.YtagikgejhckfbaaGreat.Dsk
/- Each call on either disk, whatever it is asked: one contract a call. -/
namespace Go.Proofs.YtagikgejhckfbaaGreat.Dsk
open Go.RowKit Mem Crc DiskSpec

/-- A disk at block b; the document's disk at block r. -/
def DAt (w : World) (B b : Nat) (S : St) (own : Nat → Prop) : Prop := ∃ bd bm f, Lay w B b bd bm f S own
def RAt (w : World) (B r : Nat) (S : St) (own : Nat → Prop) : Prop := ∃ bl c dv vv vs, RLay w B r bl c dv vv vs S own

theorem Data.none_ (w : World) (own : Nat → Prop) : Data w own none 0 [] := ⟨rfl, by simp, by omega⟩

theorem disk_write_all {w : World} {B b : Nat} {S : St} {own : Nat → Prop} (h : DAt w B b S own) (a : Int) (A : Option Addr) (n cc : Nat) (l : List Nat) (fua : Bool) (ha : -9223372036854775808 ≤ a ∧ a ≤ 9223372036854775807)
    (hd : Data w own A n l) (hc : n ≤ cc) (hnm : n ≤ 65536) (hroom : ∀ i, (S.ver i).length < 549755813888) (hB : B ≤ w.heap.size) :
    Calls Tryz.prog 20 #[.pointer (some ⟨b, 0, none⟩), .int .i64 a, .slice A n cc, .bool fua] w fun e w' => e = .returned (.int .i64 (writeE S fua a l).1) ∧ ∃ own', DAt w' B b (writeE S fua a l).2 own' ∧ Turn w w' own own' := by
  obtain ⟨bd, bm, f, h⟩ := h
  have hl := hd.1
  unfold writeE
  rw [hl]
  by_cases h1 : n = 0 ∨ n % 256 ≠ 0
  · rw [if_pos h1]
    refine (disk_write_arg _ a A n cc fua w (by omega) h1).mono ?_
    rintro e w' ⟨rfl, rfl⟩
    exact ⟨rfl, own, ⟨bd, bm, f, h⟩, Turn.refl _ _⟩
  · rw [if_neg h1]
    obtain ⟨k, rfl⟩ : ∃ k, n = k * 256 := ⟨n / 256, by omega⟩
    rw [Nat.mul_div_cancel _ (by omega : 0 < 256)]
    have hk : 1 ≤ k := by omega
    by_cases h2 : S.has a k = false
    · rw [if_pos h2]
      refine (disk_write_range h a A k cc fua ha hk (by omega) h2).mono ?_
      rintro e w' ⟨rfl, rfl⟩
      exact ⟨rfl, own, ⟨bd, bm, f, h⟩, Turn.refl _ _⟩
    · rw [if_neg h2]
      have h2' : S.has a k = true := by simpa using h2
      by_cases h3 : S.f2 = 1 ∨ S.left = 0
      · rw [if_pos h3]
        refine (disk_write_stop h a A k cc fua ha hk (by omega) h2' h3).mono ?_
        rintro e w' ⟨rfl, h4, h5⟩
        exact ⟨rfl, own, ⟨_, _, _, h4⟩, h5⟩
      · rw [if_neg h3]
        obtain ⟨a', c', rfl, hc', _, h5⟩ := has_split h2' h.ok.top
        obtain rfl : k = c' := by omega
        refine (disk_write_ok h a' k A cc l fua hd hc hk h5 (fun e => h3 (.inl e)) (fun e => h3 (.inr e)) hroom hB).mono ?_
        rintro e w' ⟨rfl, f', own', h6, h7⟩
        exact ⟨rfl, own', ⟨_, _, _, h6⟩, h7⟩
theorem disk_fail_all {w : World} {B b : Nat} {S : St} {own : Nat → Prop} (h : DAt w B b S own) (kind n : Int) :
    Calls Tryz.prog 13 #[.pointer (some ⟨b, 0, none⟩), .int .i64 kind, .int .i64 n] w fun e w' => e = .returned (.int .i64 (failE S kind n).1) ∧ DAt w' B b (failE S kind n).2 own ∧ Turn w w' own own := by
  obtain ⟨bd, bm, f, h⟩ := h
  have ho := h.ownB
  unfold failE
  by_cases h1 : n < 1 ∨ 1099511627776 < n
  · rw [if_pos h1]
    refine (disk_fail_no _ kind n w (by unfold failBad; omega)).mono ?_
    rintro e w' ⟨rfl, rfl⟩
    exact ⟨rfl, ⟨bd, bm, f, h⟩, Turn.refl _ _⟩
  · rw [if_neg h1]
    obtain ⟨m, rfl⟩ : ∃ m : Nat, n = m := ⟨n.toNat, by omega⟩
    rw [Int.toNat_natCast]
    split
    · rename_i hk; subst hk
      refine (disk_fail1 h m (by omega) (by omega)).mono ?_
      rintro e w' ⟨rfl, h4, h5⟩
      exact ⟨rfl, ⟨_, _, _, h5⟩, Turn.of_grown h4 (fun q e => by cases e; exact ho)⟩
    · split
      · rename_i hk; subst hk
        refine (disk_fail2 h m (by omega) (by omega)).mono ?_
        rintro e w' ⟨rfl, h4, h5⟩
        exact ⟨rfl, ⟨_, _, _, h5⟩, Turn.of_grown h4 (fun q e => by cases e; exact ho)⟩
      · split
        · rename_i hk; subst hk
          refine (disk_fail3 h m (by omega) (by omega)).mono ?_
          rintro e w' ⟨rfl, h4, h5⟩
          exact ⟨rfl, ⟨_, _, _, h5⟩, Turn.of_grown h4 (fun q e => by cases e; exact ho)⟩
        · refine (disk_fail_no _ kind m w (by unfold failBad; omega)).mono ?_
          rintro e w' ⟨rfl, rfl⟩
          exact ⟨rfl, ⟨bd, bm, f, h⟩, Turn.refl _ _⟩
theorem disk_crash_all {w : World} {B b : Nat} {S : St} {own : Nat → Prop} (h : DAt w B b S own) (A : Option Addr) (n cc : Nat) (picks : List Int) (hp : Picks w own A n picks) (hnm : n ≤ 9223372036854775807) (hroom : ∀ i, (S.ver i).length < 549755813888) :
    Calls Tryz.prog 15 #[.pointer (some ⟨b, 0, none⟩), .slice A n cc] w fun e w' => e = .returned (.tuple #[]) ∧ DAt w' B b (S.crash picks) own ∧ Turn w w' own own := by
  obtain ⟨bd, bm, f, h⟩ := h
  refine (disk_crash h A n cc picks hp hnm hroom).mono ?_
  rintro e w' ⟨rfl, ⟨f', h6⟩, h7⟩
  exact ⟨rfl, ⟨_, _, _, h6⟩, h7⟩

theorem ref_write_all {w : World} {B b : Nat} {S : St} {own : Nat → Prop} (h : RAt w B b S own) (a : Int) (A : Option Addr) (n cc : Nat) (l : List Nat) (fua : Bool) (ha : -9223372036854775808 ≤ a ∧ a ≤ 9223372036854775807)
    (hd : Data w own A n l) (hc : n ≤ cc) (hnm : n ≤ 65536) (hroom : ∀ i, (S.ver i).length < 549755813888) (hB : B ≤ w.heap.size) :
    Calls Tryz.prog 24 #[.pointer (some ⟨b, 0, none⟩), .int .i64 a, .slice A n cc, .bool fua] w fun e w' => e = .returned (.int .i64 (writeE S fua a l).1) ∧ ∃ own', RAt w' B b (writeE S fua a l).2 own' ∧ Turn w w' own own' := by
  obtain ⟨bl, c, dv, vv, vs, h⟩ := h
  have hl := hd.1
  unfold writeE
  rw [hl]
  by_cases h1 : n = 0 ∨ n % 256 ≠ 0
  · rw [if_pos h1]
    refine (ref_write_arg _ a A n cc fua w (by omega) h1).mono ?_
    rintro e w' ⟨rfl, rfl⟩
    exact ⟨rfl, own, ⟨bl, c, dv, vv, vs, h⟩, Turn.refl _ _⟩
  · rw [if_neg h1]
    obtain ⟨k, rfl⟩ : ∃ k, n = k * 256 := ⟨n / 256, by omega⟩
    rw [Nat.mul_div_cancel _ (by omega : 0 < 256)]
    have hk : 1 ≤ k := by omega
    by_cases h2 : S.has a k = false
    · rw [if_pos h2]
      refine (ref_write_range h a A k cc fua ha hk (by omega) h2).mono ?_
      rintro e w' ⟨rfl, rfl⟩
      exact ⟨rfl, own, ⟨bl, c, dv, vv, vs, h⟩, Turn.refl _ _⟩
    · rw [if_neg h2]
      have h2' : S.has a k = true := by simpa using h2
      by_cases h3 : S.f2 = 1 ∨ S.left = 0
      · rw [if_pos h3]
        refine (ref_write_stop h a A k cc fua ha hk (by omega) h2' h3).mono ?_
        rintro e w' ⟨rfl, h4, h5⟩
        exact ⟨rfl, own, ⟨_, _, _, _, _, h4⟩, h5⟩
      · rw [if_neg h3]
        obtain ⟨a', c', rfl, hc', _, h5⟩ := has_split h2' h.ok.top
        obtain rfl : k = c' := by omega
        refine (ref_write_ok h a' k A cc l fua hd hc hk h5 (fun e => h3 (.inl e)) (fun e => h3 (.inr e)) hroom hB).mono ?_
        rintro e w' ⟨rfl, dv', vv', vs', own', h6, h7⟩
        exact ⟨rfl, own', ⟨_, _, _, _, _, h6⟩, h7⟩
theorem ref_fail_all {w : World} {B b : Nat} {S : St} {own : Nat → Prop} (h : RAt w B b S own) (kind n : Int) :
    Calls Tryz.prog 14 #[.pointer (some ⟨b, 0, none⟩), .int .i64 kind, .int .i64 n] w fun e w' => e = .returned (.int .i64 (failE S kind n).1) ∧ RAt w' B b (failE S kind n).2 own ∧ Turn w w' own own := by
  obtain ⟨bl, c, dv, vv, vs, h⟩ := h
  have ho := h.ownR
  unfold failE
  by_cases h1 : n < 1 ∨ 1099511627776 < n
  · rw [if_pos h1]
    refine (ref_fail_no _ kind n w (by unfold failBad; omega)).mono ?_
    rintro e w' ⟨rfl, rfl⟩
    exact ⟨rfl, ⟨bl, c, dv, vv, vs, h⟩, Turn.refl _ _⟩
  · rw [if_neg h1]
    obtain ⟨m, rfl⟩ : ∃ m : Nat, n = m := ⟨n.toNat, by omega⟩
    rw [Int.toNat_natCast]
    split
    · rename_i hk; subst hk
      refine (ref_fail1 h m (by omega) (by omega)).mono ?_
      rintro e w' ⟨rfl, h4, h5⟩
      exact ⟨rfl, ⟨_, _, _, _, _, h5⟩, Turn.of_grown h4 (fun q e => by cases e; exact ho)⟩
    · split
      · rename_i hk; subst hk
        refine (ref_fail2 h m (by omega) (by omega)).mono ?_
        rintro e w' ⟨rfl, h4, h5⟩
        exact ⟨rfl, ⟨_, _, _, _, _, h5⟩, Turn.of_grown h4 (fun q e => by cases e; exact ho)⟩
      · split
        · rename_i hk; subst hk
          refine (ref_fail3 h m (by omega) (by omega)).mono ?_
          rintro e w' ⟨rfl, h4, h5⟩
          exact ⟨rfl, ⟨_, _, _, _, _, h5⟩, Turn.of_grown h4 (fun q e => by cases e; exact ho)⟩
        · refine (ref_fail_no _ kind m w (by unfold failBad; omega)).mono ?_
          rintro e w' ⟨rfl, rfl⟩
          exact ⟨rfl, ⟨bl, c, dv, vv, vs, h⟩, Turn.refl _ _⟩
theorem ref_crash_all {w : World} {B b : Nat} {S : St} {own : Nat → Prop} (h : RAt w B b S own) (A : Option Addr) (n cc : Nat) (picks : List Int) (hp : Picks w own A n picks) (hnm : n ≤ 9223372036854775807) (hroom : ∀ i, (S.ver i).length < 549755813888) :
    Calls Tryz.prog 16 #[.pointer (some ⟨b, 0, none⟩), .slice A n cc] w fun e w' => e = .returned (.tuple #[]) ∧ RAt w' B b (S.crash picks) own ∧ Turn w w' own own := by
  obtain ⟨bl, c, dv, vv, vs, h⟩ := h
  refine (ref_crash h A n cc picks hp hnm hroom).mono ?_
  rintro e w' ⟨rfl, ⟨dv', vv', vs', h6⟩, h7⟩
  exact ⟨rfl, ⟨_, _, _, _, _, h6⟩, h7⟩

/-- Bytes that the disk has given: a row of the reader's own. -/
def Gave8 (w : World) (base : Nat) (v : Value) (l : List Nat) : Prop := (v = .slice none 0 0 ∧ l = []) ∨ ∃ g cap, v = .slice (some ⟨g, 0, none⟩) l.length cap ∧ base ≤ g ∧ Blk w g 5 (u8s l).toArray
theorem reads_len {S : St} (hok : S.ok) (a c : Nat) : (S.reads a c).length = 256 * c := reads_length hok a c
theorem disk_read_all {w : World} {B b : Nat} {S : St} {own : Nat → Prop} (h : DAt w B b S own) (a count : Int) (ha : -9223372036854775808 ≤ a ∧ a ≤ 9223372036854775807) (hc : -9223372036854775808 ≤ count ∧ count ≤ 9223372036854775807) :
    Calls Tryz.prog 29 #[.pointer (some ⟨b, 0, none⟩), .int .i64 a, .int .i64 count] w fun e w' => ∃ v, e = .returned (.tuple #[v, .int .i64 (readE S a count).1]) ∧ Gave8 w' w.heap.size v (readL S a count) ∧ DAt w' B b (readE S a count).2 own ∧ Turn w w' own own := by
  obtain ⟨bd, bm, f, h⟩ := h
  unfold readE readL
  by_cases h2 : S.has a count = false
  · rw [if_pos h2, if_pos h2]
    refine (disk_read_no h a count ha hc h2).mono ?_
    rintro e w' ⟨rfl, rfl⟩
    exact ⟨_, rfl, .inl ⟨rfl, rfl⟩, ⟨bd, bm, f, h⟩, Turn.refl _ _⟩
  · have h2' : S.has a count = true := by simpa using h2
    rw [if_neg h2, if_neg h2]
    by_cases h3 : S.f1 = 1
    · rw [if_pos h3, if_pos h3]
      refine (disk_read_fail h a count ha hc h2' h3).mono ?_
      rintro e w' ⟨rfl, h4, h5⟩
      exact ⟨_, rfl, .inl ⟨rfl, rfl⟩, ⟨_, _, _, h4⟩, h5⟩
    · rw [if_neg h3, if_neg h3]
      obtain ⟨a', c', rfl, rfl, h4, h5⟩ := has_split h2' h.ok.top
      have hlen := reads_len h.ok a' c'
      refine (disk_read_ok h a' c' h4 h5 h3).mono ?_
      rintro e w' ⟨g, cap, rfl, h6, h7, h8, h9⟩
      exact ⟨_, rfl, .inr ⟨g, cap, by rw [Int.toNat_natCast, Int.toNat_natCast, hlen], h6, h7⟩, ⟨_, _, _, h8⟩, h9⟩
theorem ref_read_all {w : World} {B b : Nat} {S : St} {own : Nat → Prop} (h : RAt w B b S own) (a count : Int) (ha : -9223372036854775808 ≤ a ∧ a ≤ 9223372036854775807) (hc : -9223372036854775808 ≤ count ∧ count ≤ 9223372036854775807) :
    Calls Tryz.prog 27 #[.pointer (some ⟨b, 0, none⟩), .int .i64 a, .int .i64 count] w fun e w' => ∃ v, e = .returned (.tuple #[v, .int .i64 (readE S a count).1]) ∧ Own w' w.heap.size 5 1 v (readL S a count).length (u8s (readL S a count)) ∧ RAt w' B b (readE S a count).2 own ∧ Turn w w' own own := by
  obtain ⟨bl, c, dv, vv, vs, h⟩ := h
  unfold readE readL
  by_cases h2 : S.has a count = false
  · rw [if_pos h2, if_pos h2]
    refine (ref_read_no h a count ha hc h2).mono ?_
    rintro e w' ⟨rfl, rfl⟩
    exact ⟨_, rfl, Own.nil _ _ _ _, ⟨bl, c, dv, vv, vs, h⟩, Turn.refl _ _⟩
  · have h2' : S.has a count = true := by simpa using h2
    rw [if_neg h2, if_neg h2]
    by_cases h3 : S.f1 = 1
    · rw [if_pos h3, if_pos h3]
      refine (ref_read_fail h a count ha hc h2' h3).mono ?_
      rintro e w' ⟨rfl, h4, h5⟩
      exact ⟨_, rfl, Own.nil _ _ _ _, ⟨_, _, _, _, _, h4⟩, h5⟩
    · rw [if_neg h3, if_neg h3]
      obtain ⟨a', c', rfl, rfl, h4, h5⟩ := has_split h2' h.ok.top
      have hlen := reads_len h.ok a' c'
      refine (ref_read_ok h a' c' h4 h5 h3).mono ?_
      rintro e w' ⟨v, rfl, h6, h7, h8⟩
      rw [Int.toNat_natCast, Int.toNat_natCast, hlen]
      exact ⟨_, rfl, h6, ⟨_, _, _, _, _, h7⟩, h8⟩
end Go.Proofs.YtagikgejhckfbaaGreat.Dsk
