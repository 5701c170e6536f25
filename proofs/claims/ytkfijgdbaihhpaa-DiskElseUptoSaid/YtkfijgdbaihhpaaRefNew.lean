/- The document's disk: a new one. -/
import Derived.Test.YtkfijgdbaihhpaaRefCrash
import Derived.Test.YtkfijgdbaihhpaaRefWrite
import Derived.Great.BuildSlice
namespace Go.Proofs.Ytkfijgdbaihhpaa.Dsk
open Go.RowKit Mem Crc DiskSpec

theorem cell_info : (Try.prog.info? 65).map (fun i => (i.zero, i.size, i.bytes)) = some (some (.agg #[.slice none 0 0, .slice none 0 0]), 2, 48) := by kernel_rfl
theorem make256r (w : World) : (Instr.makeSlice 43 (.int .i64 256) (.int .i64 256)).run Try.prog w = .ok (.slice (some ⟨w.heap.size, 0, none⟩) 256 256) (w.alloc (.cells (Array.replicate 256 (.int .u8 0)) 5)) := by kernel_rfl
theorem step_make {P : Program} {ops : Array Oper} {o : Oper} {a : Act} {w w' : World} {K : Act → World → Prop} {Q : Exit → Act → World → Prop} {E : Prop} (hgd : o.guard = none) (t : TypeId) (x y : Operand)
    (ho : o.op = .makeSlice t x y) (u u' v : Value) (hx : a.eval x = u) (hy : a.eval y = u') (hrun : (Instr.makeSlice t u u').run P w = .ok v w') (h : K (a.put o.dst v) w') :
    if Region.wanted o (yielded ops a.tmps) = true then Oper.wp P o a w K Q else E := by
  have hw : Region.wanted o (yielded ops a.tmps) = true := by simp [Region.wanted, hgd]
  rw [if_pos hw]
  unfold Oper.wp execOp
  simp only [ho, hx, hy, Sem.run_bind, Sem.run_pure, hrun, Result.andThen_ok]
  exact h
theorem build_cell (w : World) (A : Option Addr) (n c : Nat) :
    (Instr.buildSlice 37 1 #[(0, .agg #[.slice A n c, .slice none 0 0])]).run Try.prog w = .ok (.slice (some ⟨w.heap.size, 0, none⟩) 1 1) (w.alloc (.cells #[.slice A n c, .slice none 0 0] 65)) := by
  obtain ⟨i0, hi0, hz0, hz1, _⟩ := info_parts cell_info
  refine run_buildSlice w 37 65 1 _ _ i0 _ Try.underlying37 hi0 hz0 (by rw [hz1]; decide) (by rw [hz1]; decide) ?_
  rw [hz1]
  have hf := Great.fill_whole (s := 2) (by omega) [.agg #[.slice A n c, .slice none 0 0]] ((Array.range (1 * 2)).map fun q => (Value.agg #[.slice none 0 0, .slice none 0 0]).cells[q % (Value.agg #[.slice none 0 0, .slice none 0 0]).cells.size]!) (by simp [Value.cells]) (by simp)
  have e : ([Value.agg #[.slice A n c, .slice none 0 0]].flatMap fun v => v.cells.toList).toArray = #[.slice A n c, .slice none 0 0] := by simp [Value.cells]
  rw [e] at hf
  exact hf
theorem load_cells (w : World) (b o : Nat) (v : Value) (hc : w.cell? ⟨b, o, none⟩ = some v) : (Instr.loadAt 37 (.pointer (some ⟨b, o, none⟩))).run Try.prog w = .ok v w := by
  have ha := Try.isAgg37 w
  simp [Instr.loadAt, Instr.sureAddr, loadVar, ha, hc]
theorem store_cells (w : World) (b o : Nat) (v old : Value) (hc : w.cell? ⟨b, o, none⟩ = some old) (hf : w.frozen? ⟨b, o, none⟩ = false) (A : Option Addr) (n c : Nat) (hv : v = .slice A n c) :
    (Instr.storeAt 37 (.pointer (some ⟨b, o, none⟩)) v).run Try.prog w = .ok () (w.setCell ⟨b, o, none⟩ v) := by
  subst hv
  have hz := Try.sizeOf37 w
  have e : (⟨b, o, none⟩ : Addr).add 0 = ⟨b, o, none⟩ := by rw [Addr.add_mid, Nat.add_zero]
  have hs := run_store Try.prog w ⟨b, o, none⟩ (.slice A n c) .plain rfl
  rw [hc, hf] at hs
  simp [Instr.storeAt, Instr.sureAddr, storeVar, hz, Value.cells, storeCells, e, hs]

/-- The cells of new sectors, one behind the other. -/
def pairs (ds : List Value) : List Value := ds.flatMap fun d => [d, .slice none 0 0]
theorem pairs_length (ds : List Value) : (pairs ds).length = ds.length * 2 := by
  induction ds with
  | nil => rfl
  | cons d ds ih => simp only [pairs, List.flatMap_cons, List.length_append, List.length_cons, List.length_nil] at *; omega
theorem pairs_at (ds : List Value) (i : Nat) (hi : i < ds.length) : (pairs ds)[i * 2]? = some (ds.getD i undef) ∧ (pairs ds)[i * 2 + 1]? = some (.slice none 0 0) := by
  induction ds generalizing i with
  | nil => simp at hi
  | cons d ds ih =>
    cases i with
    | zero => simp [pairs]
    | succ i =>
      have h := ih i (by simpa using hi)
      rw [show (i + 1) * 2 = i * 2 + 2 by omega]
      simpa [pairs] using h
theorem pairs_snoc (ds : List Value) (d : Value) : pairs (ds ++ [d]) = pairs ds ++ [d, .slice none 0 0] := by simp [pairs]
theorem row_type {w : World} {base n size : Nat} {e : TypeId} {v : Value} {xs : List Value} (h : w.ownsRow base e size v n xs) {g : Nat} (hg : v.ownBlock = some g) : base ≤ g ∧ ∃ cur, w.heap[g]? = some (.cells cur e (0, 0)) := by
  rcases h.2 with ⟨rfl, _⟩ | ⟨g', cap, cur, rfl, hb, hh, _⟩
  · cases hg
  · cases hg; exact ⟨hb, cur, hh⟩
/-- A new sector's bytes. -/
theorem fresh_bytes {w : World} {own : Nat → Prop} {z : Nat} (hh : w.heap[z]? = some (.cells (Array.replicate 256 (.int .u8 0)) 5 (0, 0))) (ho : own z) : BytesAt w own (.slice (some ⟨z, 0, none⟩) 256 256) zeros := by
  refine ⟨z, 256, _, _, rfl, Nat.le_refl _, by unfold maxLen; omega, ho, hh, Sec.zero, fun j hj => ?_⟩
  have e0 : zeros.getD j 0 = 0 := by
    unfold zeros
    rw [List.getD_eq_getElem?_getD, List.getElem?_replicate]
    simp [hj]
  rw [e0, Array.getElem?_replicate, if_pos hj]; rfl

/-- New sectors, so far. -/
structure Made (w0 w : World) (j : Nat) (v : Value) (ds : List Value) : Prop where
  blk : Blk w w0.heap.size 40 #[v, .int .i64 0, .int .i64 0, .int .i64 0, .int .i64 0, .int .i64 (-1)]
  row : w.ownsRow (w0.heap.size + 1) 65 2 v j (pairs ds)
  len : ds.length = j
  bytes : ∀ d ∈ ds, BytesAt w (fun i => w0.heap.size ≤ i) d zeros
  grown : w0.grownBy w none

theorem Made.step {w0 w : World} {j : Nat} {v : Value} {ds : List Value} (h : Made w0 w j v ds) (hj : j < 4096) (ty : TypeId) :
    ∃ A n c w1, (Builtin.append_ #[37, 37] ty #[v, .slice (some ⟨w.heap.size + 1, 0, none⟩) 1 1]).run Try.prog ((w.drew.alloc (.cells (Array.replicate 256 (.int .u8 0)) 5)).alloc (.cells #[.slice (some ⟨w.heap.size, 0, none⟩) 256 256, .slice none 0 0] 65)) = .ok (.slice A n c) w1 ∧
      Made w0 (w1.setCell ⟨w0.heap.size, 0, none⟩ (.slice A n c)) (j + 1) (.slice A n c) (ds ++ [.slice (some ⟨w.heap.size, 0, none⟩) 256 256]) ∧ w1.cell? ⟨w0.heap.size, 0, none⟩ = some v ∧ w1.frozen? ⟨w0.heap.size, 0, none⟩ = false := by
  obtain ⟨i0, hi0, hz0, hz1, hz2⟩ := info_parts cell_info
  have hz : Blk (w.drew.alloc (.cells (Array.replicate 256 (.int .u8 0)) 5)) w.heap.size 5 _ := Blk.new w.drew _ _
  have hzz := hz.alloc (.cells #[.slice (some ⟨w.heap.size, 0, none⟩) 256 256, .slice none 0 0] 65)
  have hb := ((h.blk.drew).alloc (.cells (Array.replicate 256 (.int .u8 0)) 5)).alloc (.cells #[.slice (some ⟨w.heap.size, 0, none⟩) 256 256, .slice none 0 0] 65)
  have hg : w.grownBy ((w.drew.alloc (.cells (Array.replicate 256 (.int .u8 0)) 5)).alloc (.cells #[.slice (some ⟨w.heap.size, 0, none⟩) 256 256, .slice none 0 0] 65)) none :=
    ((grown_drew w none).trans (World.grownBy_alloc w.drew _ none)).trans (World.grownBy_alloc _ _ none)
  have hc := Blk.new (w.drew.alloc (.cells (Array.replicate 256 (.int .u8 0)) 5)) 65 #[.slice (some ⟨w.heap.size, 0, none⟩) 256 256, .slice none 0 0]
  have hsz : (w.drew.alloc (.cells (Array.replicate 256 (.int .u8 0)) 5)).heap.size = w.heap.size + 1 := by simp
  have hsz2 : ((w.drew.alloc (.cells (Array.replicate 256 (.int .u8 0)) 5)).alloc (.cells #[.slice (some ⟨w.heap.size, 0, none⟩) 256 256, .slice none 0 0] 65)).heap.size = w.heap.size + 2 := by simp
  rw [hsz] at hc
  have hown : ((w.drew.alloc (.cells (Array.replicate 256 (.int .u8 0)) 5)).alloc (.cells #[.slice (some ⟨w.heap.size, 0, none⟩) 256 256, .slice none 0 0] 65)).ownsRow (w0.heap.size + 1) 65 2 v j (pairs ds) := by
    refine ⟨h.row.1, ?_⟩
    rcases h.row.2 with h1 | ⟨g, cap, cur, h1, h2, h3, h4⟩
    · exact .inl h1
    · exact .inr ⟨g, cap, cur, h1, h2, (hg.block g (Array.getElem?_eq_some_iff.1 h3).1 (by simp)).trans h3, h4⟩
  have hlow := h.grown.size
  have hrl := h.blk.lt
  generalize ((w.drew.alloc (.cells (Array.replicate 256 (.int .u8 0)) 5)).alloc (.cells #[.slice (some ⟨w.heap.size, 0, none⟩) 256 256, .slice none 0 0] 65)) = w3 at *
  have hrd : Reads w3 w3.heap.size 2 (some ⟨w.heap.size + 1, 0, none⟩) 1 [.slice (some ⟨w.heap.size, 0, none⟩) 256 256, .slice none 0 0] := by
    refine ⟨rfl, fun _ => ⟨_, rfl, by rw [hsz2]; simp, fun q x hx => ?_⟩⟩
    rw [Addr.add_mid, Nat.zero_add, hc.cell, ← hx]; simp
  obtain ⟨v', w1, h1, h2, h3, h4⟩ := run_append_any (P := Try.prog) w3 (w0.heap.size + 1) 37 ty 65 i0 _ 2 48 Try.underlying37 hi0 hz0 hz1 hz2 (by rfl) (by omega)
    v j (pairs ds) hown w3.heap.size (some ⟨w.heap.size + 1, 0, none⟩) 1 1 _ hrd (fun u hu => by simp at hu; rcases hu with rfl | rfl <;> rfl) (by unfold maxLen; omega) (by omega) (by omega)
  have hne : ∀ g, v.ownBlock = some g → w0.heap.size + 1 ≤ g ∧ ∃ cur, w3.heap[g]? = some (.cells cur 65 (0, 0)) := fun g hg => row_type hown hg
  have hb1 : Blk w1 w0.heap.size 40 #[v, .int .i64 0, .int .i64 0, .int .i64 0, .int .i64 0, .int .i64 (-1)] := hb.grown h3 (fun e => by have := (hne _ e.symm).1; omega)
  obtain ⟨A, n, c, rfl⟩ : ∃ A n c, v' = .slice A n c := by
    rcases h2.2 with ⟨h5, _⟩ | ⟨g, cap, cur, h5, _⟩
    · exact ⟨_, _, _, h5⟩
    · exact ⟨_, _, _, h5⟩
  have hkeep : ∀ g cs fz, w0.heap.size ≤ g → w3.heap[g]? = some (.cells cs 5 fz) → (w1.setCell ⟨w0.heap.size, 0, none⟩ (.slice A n c)).heap[g]? = w3.heap[g]? := fun g cs fz _ hh => by
    have e1 : w1.heap[g]? = w3.heap[g]? := h3.block g (Array.getElem?_eq_some_iff.1 hh).1 (fun e => by
      obtain ⟨_, cur, hh'⟩ := hne _ e.symm
      exact types_ne hh hh' (by decide) rfl)
    have e2 : g ≠ w0.heap.size := types_ne (e1.trans hh) hb1 (by decide)
    exact (Below.heap_setCell w1 _ _ g e2).trans e1
  refine ⟨A, n, c, w1, h1, ?_, by rw [hb1.cell]; rfl, hb1.frozen 0⟩
  exact {
    blk := hb1.set_ 0 _
    row := by
      refine ⟨by rw [pairs_snoc]; exact h2.1, ?_⟩
      rw [pairs_snoc]
      rcases h2.2 with h5 | ⟨g, cap, cur, h5, h6, h7, h8⟩
      · exact .inl h5
      · exact .inr ⟨g, cap, cur, h5, h6, (Below.heap_setCell w1 _ _ g (by simp; omega)).trans h7, h8⟩
    len := by rw [List.length_append, h.len]; rfl
    bytes := fun d hd => by
      rcases List.mem_append.1 hd with hd | hd
      · have h9 := (h.bytes d hd).keep (w' := w3) (fun _ h => h) (fun g cs fz _ hh => hg.block g (Array.getElem?_eq_some_iff.1 hh).1 (by simp))
        exact h9.keep (fun _ h => h) hkeep
      · rw [List.mem_singleton] at hd
        subst hd
        exact (fresh_bytes hzz (by omega : w0.heap.size ≤ w.heap.size)).keep (fun _ h => h) hkeep
    grown := ((h.grown.trans hg).andThen h3 (fun g e => .inl (by have := (hne g e).1; omega))).andThen (Lib.grownBy_setB (World.grownBy.refl w1 (some w0.heap.size)) 0 (.slice A n c)) (fun g e => by cases e; exact .inl (Nat.le_refl _)) }

/-- All sectors made: it is a new disk. -/
theorem Made.all {w0 w : World} {n : Nat} {v : Value} {ds : List Value} (h : Made w0 w n v ds) (h1 : 1 ≤ n) (h2 : n ≤ 4096) :
    ∃ bl c dv vv vs own, RLay w w0.heap.size w0.heap.size bl c dv vv vs (St.new n) own := by
  rcases h.row.2 with ⟨_, h5⟩ | ⟨g, cap, cur, rfl, h6, h7, h8, h9, h10, h11⟩
  · omega
  · refine ⟨g, cap, fun i => ds.getD i undef, fun _ => .slice none 0 0, fun _ => [], fun i => w0.heap.size ≤ i ∧ i < w.heap.size, ?_⟩
    have hpl := pairs_length ds
    rw [h.len] at hpl
    exact {
      ok := St.ok.new h1 h2
      blk := h.blk
      cells := ⟨cur, h7, fun i hi => by
        have hi' : i < n := hi
        have hp := pairs_at ds i (by rw [h.len]; exact hi')
        rw [← h11, List.getElem?_take_of_lt (by omega), List.getElem?_take_of_lt (by omega), Array.getElem?_toList, Array.getElem?_toList] at hp
        exact hp⟩
      part := fun i hi => by
        have hi' : i < n := hi
        have hd : ds.getD i undef ∈ ds := by rw [List.getD_eq_getElem?_getD, List.getElem?_eq_getElem (by rw [h.len]; exact hi')]; exact List.getElem_mem _
        obtain ⟨g2, c2, cs, fz, e1, e2, e3, e4, e5, e6⟩ := h.bytes _ hd
        exact ⟨⟨g2, c2, cs, fz, e1, e2, e3, ⟨e4, (Array.getElem?_eq_some_iff.1 e5).1⟩, e5, e6⟩, Own.nil _ _ _ _, (fun g hg => by cases hg), (fun k y hk => by cases hk)⟩
      apart := fun i j g hi hj _ e => by cases e
      cap := ⟨h8, h9⟩
      ownR := ⟨Nat.le_refl _, h.blk.lt⟩
      ownL := ⟨by omega, (Array.getElem?_eq_some_iff.1 h7).1⟩
      low := fun i hi => hi.1
      lt := fun i hi => hi.2 }

set_option maxHeartbeats 400000 in
theorem ref_new_no (n : Int) (w : World) (hn : n < 1 ∨ 4096 < n) :
    Calls Try.prog 10 #[.int .i64 n] w fun e w' => e = .returned (.tuple #[.pointer none, .int .i64 1]) ∧ w = w' := by
  rcases hn with hn | hn
  · go_enter Try.func10, Try.ntmps10
    go_wp2
    go_ret2
    exact ⟨rfl, rfl⟩
  · have h1 : decide (n < 1) = false := by simp; omega
    go_enter Try.func10, Try.ntmps10
    go_wp2
    go_ret2
    exact ⟨rfl, rfl⟩

set_option maxRecDepth 100000 in
set_option maxHeartbeats 3200000 in
theorem ref_new (n : Nat) (w : World) (h1 : 1 ≤ n) (h2 : n ≤ 4096) :
    Calls Try.prog 10 #[.int .i64 (n : Nat)] w fun e w' => ∃ r bl c dv vv vs own, e = .returned (.tuple #[.pointer (some ⟨r, 0, none⟩), .int .i64 0]) ∧ RLay w' w.heap.size r bl c dv vv vs (St.new n) own ∧ w.grownBy w' none := by
  have hd1 : decide ((n : Int) < 1) = false := by simp; omega
  have hd2 : decide (4096 < (n : Int)) = false := by simp; omega
  have HM0 := Lib.hid (show Made w (w.alloc (.cells #[.slice none 0 0, .int .i64 0, .int .i64 0, .int .i64 0, .int .i64 0, .int .i64 (-1)] 40)) 0 (.slice none 0 0) [] from
    ⟨Blk.new w _ _, World.ownsRow_nil _ _ _ _, rfl, by simp, World.grownBy_alloc w _ none⟩)
  go_enter Try.func10, Try.ntmps10
  go_wp2_with fail
  go_loopw [5] (fun i wr => ∃ (j : Nat) (v : Value) (ds : List Value), j ≤ n ∧ i = .int .i64 j ∧ Made w wr j v ds) (fun i _ => n - (Go.RowKit.intOf i).toNat)
  case atStart => exact ⟨0, _, _, by omega, rfl, HM0.out⟩
  case round =>
    obtain ⟨j, v, ds, hj, rfl, hm⟩ := hrel
    have HM := Lib.hid hm; clear hm
    by_cases hlt : j < n
    · obtain ⟨A, m, c, w1, hr1, hm1, hc1, hf1⟩ := HM.out.step (by omega) 37
      have hcv : wr.cell? ⟨w.heap.size, 0, none⟩ = some v := by rw [HM.out.blk.cell]; rfl
      have hmk := make256r wr.drew
      have hbs := build_cell (wr.drew.alloc (.cells (Array.replicate 256 (.int .u8 0)) 5)) (some ⟨wr.heap.size, 0, none⟩) 256 256
      rw [show (wr.drew.alloc (.cells (Array.replicate 256 (.int .u8 0)) 5)).heap.size = wr.heap.size + 1 by simp] at hbs
      have hl := HM.out.blk.lt
      have hld1 := load_cells wr.drew w.heap.size 0 v hcv
      have hb2 := (HM.out.blk.drew).alloc (.cells (Array.replicate 256 (.int .u8 0)) 5)
      have hb3 := hb2.alloc (.cells #[.slice (some ⟨wr.heap.size, 0, none⟩) 256 256, .slice none 0 0] 65)
      have hld2 := load_cells (wr.drew.alloc (.cells (Array.replicate 256 (.int .u8 0)) 5)) w.heap.size 0 v (by rw [hb2.cell]; rfl)
      have hld3 := load_cells ((wr.drew.alloc (.cells (Array.replicate 256 (.int .u8 0)) 5)).alloc (.cells #[.slice (some ⟨wr.heap.size, 0, none⟩) 256 256, .slice none 0 0] 65)) w.heap.size 0 v (by rw [hb3.cell]; rfl)
      have hst := store_cells w1 w.heap.size 0 (.slice A m c) v hc1 hf1 A m c rfl
      have HM1 := Lib.hid hm1
      clear hb2 hb3 hm1 hcv hc1 hf1 hl
      generalize Array.replicate 256 (Value.int .u8 0) = zs at *
      go_wp2_with fail
      refine wp_region_noPanic ?_
      refine wp_region_held_drew (S := fun _ => True) (by kernel_rfl) trivial (fun hHeld => ?_)
      refine wpAnyH_take (i := 0) (v := .pointer (some ⟨w.heap.size, 0, none⟩)) rfl (by kernel_rfl) (by kernel_rfl) (by kernel_rfl) (fun _ _ _ h => h) (Or.inl ⟨by rfl, ?_⟩) (by assumption) ?_
      · intro w1 hSw; (try dsimp only at hSw); go_simp
      simp only [Act.put, List.getElem_toArray, List.getElem_cons_zero, List.setIfInBounds_toArray, List.set_cons_zero, List.set_cons_succ]
      refine wpAnyH_take (i := 1) (v := .pointer (some ⟨w.heap.size, 0, none⟩)) rfl (by kernel_rfl) (by kernel_rfl) (by kernel_rfl) (fun _ _ _ h => h) (Or.inl ⟨by rfl, ?_⟩) (by assumption) ?_
      · intro w1 hSw; (try dsimp only at hSw); go_simp
      simp only [Act.put, List.getElem_toArray, List.getElem_cons_succ, List.getElem_cons_zero, List.setIfInBounds_toArray, List.set_cons_zero, List.set_cons_succ]
      refine wpAnyH_take (i := 2) (v := .pointer (some ⟨w.heap.size, 0, none⟩)) rfl (by kernel_rfl) (by kernel_rfl) (by kernel_rfl) (fun _ _ _ h => h) (Or.inl ⟨by rfl, ?_⟩) (by assumption) ?_
      · intro w1 hSw; (try dsimp only at hSw); go_simp
      simp only [Act.put, List.getElem_toArray, List.getElem_cons_succ, List.getElem_cons_zero, List.setIfInBounds_toArray, List.set_cons_zero, List.set_cons_succ]
      refine wpAnyH_take (i := 3) (v := .pointer (some ⟨w.heap.size, 0, none⟩)) rfl (by kernel_rfl) (by kernel_rfl) (by kernel_rfl) (fun _ _ _ h => h) (Or.inl ⟨by rfl, ?_⟩) (by assumption) ?_
      · intro w1 hSw; (try dsimp only at hSw); go_simp
      simp only [Act.put, List.getElem_toArray, List.getElem_cons_succ, List.getElem_cons_zero, List.setIfInBounds_toArray, List.set_cons_zero, List.set_cons_succ]
      refine wpAnyH_ready (rs := [4, 5]) (by kernel_rfl) (by simp) ?_
      refine AllReadyH.cons rfl (fun K hK => ?_) (AllReadyH.cons rfl (fun K hK => ?_) AllReadyH.nil)
      · refine step_load rfl (Operand.tmp 22) 37 rfl _ _ rfl hld1 ?_
        refine hK.out _ _ trivial (fun hHeld => ?_)
        clear hK K
        simp only [Act.put, List.getElem_toArray, List.getElem_cons_succ, List.getElem_cons_zero, List.setIfInBounds_toArray, List.set_cons_zero, List.set_cons_succ]
        refine wpAnyH_ready (rs := [5]) (by kernel_rfl) (by simp) ?_
        refine AllReadyH.cons rfl (fun K hK => ?_) AllReadyH.nil
        refine step_make rfl 43 _ _ rfl _ _ _ rfl rfl hmk ?_
        refine hK.out _ _ trivial (fun hHeld => ?_)
        clear hK K
        simp only [Act.put, List.getElem_toArray, List.getElem_cons_succ, List.getElem_cons_zero, List.setIfInBounds_toArray, List.set_cons_zero, List.set_cons_succ]
        refine wpAnyH_take (i := 6) (v := .agg #[.slice (some ⟨wr.heap.size, 0, none⟩) 256 256, .slice none 0 0]) rfl (by kernel_rfl) (by kernel_rfl) (by kernel_rfl) (fun _ _ _ h => h) (Or.inl ⟨by rfl, ?_⟩) (by assumption) ?_
        · intro w1 hSw; (try dsimp only at hSw); go_simp
        simp only [Act.put, List.getElem_toArray, List.getElem_cons_succ, List.getElem_cons_zero, List.setIfInBounds_toArray, List.set_cons_zero, List.set_cons_succ]
        refine wpAnyH_ready (rs := [7]) (by kernel_rfl) (by simp) ?_
        refine AllReadyH.cons rfl (fun K hK => ?_) AllReadyH.nil
        refine step_build rfl 37 (Operand.tmp 25) rfl (.agg #[.slice (some ⟨wr.heap.size, 0, none⟩) 256 256, .slice none 0 0]) _ rfl hbs ?_
        refine hK.out _ _ trivial (fun hHeld => ?_)
        clear hK K
        simp only [Act.put, List.getElem_toArray, List.getElem_cons_succ, List.getElem_cons_zero, List.setIfInBounds_toArray, List.set_cons_zero, List.set_cons_succ]
        refine wpAnyH_ready (rs := [8]) (by kernel_rfl) (by simp) ?_
        refine AllReadyH.cons rfl (fun K hK => ?_) AllReadyH.nil
        refine step_append rfl (Operand.tmp 23) (Operand.tmp 26) 37 rfl _ _ _ rfl rfl hr1 ?_
        refine hK.out _ _ trivial (fun hHeld => ?_)
        clear hK K
        simp only [Act.put, List.getElem_toArray, List.getElem_cons_succ, List.getElem_cons_zero, List.setIfInBounds_toArray, List.set_cons_zero, List.set_cons_succ]
        refine wpAnyH_take (i := 9) (v := .pointer (some ⟨w.heap.size, 0, none⟩)) rfl (by kernel_rfl) (by kernel_rfl) (by kernel_rfl) (fun _ _ _ h => h) (Or.inl ⟨by rfl, ?_⟩) (by assumption) ?_
        · intro w1 hSw; (try dsimp only at hSw); go_simp
        simp only [Act.put, List.getElem_toArray, List.getElem_cons_succ, List.getElem_cons_zero, List.setIfInBounds_toArray, List.set_cons_zero, List.set_cons_succ]
        refine wpAnyH_take (i := 10) (v := .pointer (some ⟨w.heap.size, 0, none⟩)) rfl (by kernel_rfl) (by kernel_rfl) (by kernel_rfl) (fun _ _ _ h => h) (Or.inl ⟨by rfl, ?_⟩) (by assumption) ?_
        · intro w1 hSw; (try dsimp only at hSw); go_simp
        simp only [Act.put, List.getElem_toArray, List.getElem_cons_succ, List.getElem_cons_zero, List.setIfInBounds_toArray, List.set_cons_zero, List.set_cons_succ]
        refine wpAnyH_ready (rs := [11]) (by kernel_rfl) (by simp) ?_
        refine AllReadyH.cons rfl (fun K hK => ?_) AllReadyH.nil
        refine step_store rfl (Operand.tmp 29) (Operand.tmp 27) 37 rfl _ _ rfl rfl hst ?_
        refine hK.out _ _ trivial (fun hHeld => ?_)
        clear hK K
        refine wpAnyH_done (by kernel_rfl) ?_ _
        refine NoPanic.normal ?_
        simp only [Act.put, List.getElem_toArray, List.getElem_cons_succ, List.getElem_cons_zero]
        go_wp2_with fail
        go_roundw
        case rel => exact ⟨j + 1, _, _, by omega, by go_num, HM1.out⟩
        case measure => simp [Go.RowKit.intOf]; omega
      · refine step_make rfl 43 _ _ rfl _ _ _ rfl rfl hmk ?_
        refine hK.out _ _ trivial (fun hHeld => ?_)
        clear hK K
        simp only [Act.put, List.getElem_toArray, List.getElem_cons_succ, List.getElem_cons_zero, List.setIfInBounds_toArray, List.set_cons_zero, List.set_cons_succ]
        refine wpAnyH_take (i := 6) (v := .agg #[.slice (some ⟨wr.heap.size, 0, none⟩) 256 256, .slice none 0 0]) rfl (by kernel_rfl) (by kernel_rfl) (by kernel_rfl) (fun _ _ _ h => h) (Or.inl ⟨by rfl, ?_⟩) (by assumption) ?_
        · intro w1 hSw; (try dsimp only at hSw); go_simp
        simp only [Act.put, List.getElem_toArray, List.getElem_cons_succ, List.getElem_cons_zero, List.setIfInBounds_toArray, List.set_cons_zero, List.set_cons_succ]
        refine wpAnyH_ready (rs := [4, 7]) (by kernel_rfl) (by simp) ?_
        refine AllReadyH.cons rfl (fun K hK => ?_) (AllReadyH.cons rfl (fun K hK => ?_) AllReadyH.nil)
        · refine step_load rfl (Operand.tmp 22) 37 rfl _ _ rfl hld2 ?_
          refine hK.out _ _ trivial (fun hHeld => ?_)
          clear hK K
          simp only [Act.put, List.getElem_toArray, List.getElem_cons_succ, List.getElem_cons_zero, List.setIfInBounds_toArray, List.set_cons_zero, List.set_cons_succ]
          refine wpAnyH_ready (rs := [7]) (by kernel_rfl) (by simp) ?_
          refine AllReadyH.cons rfl (fun K hK => ?_) AllReadyH.nil
          refine step_build rfl 37 (Operand.tmp 25) rfl (.agg #[.slice (some ⟨wr.heap.size, 0, none⟩) 256 256, .slice none 0 0]) _ rfl hbs ?_
          refine hK.out _ _ trivial (fun hHeld => ?_)
          clear hK K
          simp only [Act.put, List.getElem_toArray, List.getElem_cons_succ, List.getElem_cons_zero, List.setIfInBounds_toArray, List.set_cons_zero, List.set_cons_succ]
          refine wpAnyH_ready (rs := [8]) (by kernel_rfl) (by simp) ?_
          refine AllReadyH.cons rfl (fun K hK => ?_) AllReadyH.nil
          refine step_append rfl (Operand.tmp 23) (Operand.tmp 26) 37 rfl _ _ _ rfl rfl hr1 ?_
          refine hK.out _ _ trivial (fun hHeld => ?_)
          clear hK K
          simp only [Act.put, List.getElem_toArray, List.getElem_cons_succ, List.getElem_cons_zero, List.setIfInBounds_toArray, List.set_cons_zero, List.set_cons_succ]
          refine wpAnyH_take (i := 9) (v := .pointer (some ⟨w.heap.size, 0, none⟩)) rfl (by kernel_rfl) (by kernel_rfl) (by kernel_rfl) (fun _ _ _ h => h) (Or.inl ⟨by rfl, ?_⟩) (by assumption) ?_
          · intro w1 hSw; (try dsimp only at hSw); go_simp
          simp only [Act.put, List.getElem_toArray, List.getElem_cons_succ, List.getElem_cons_zero, List.setIfInBounds_toArray, List.set_cons_zero, List.set_cons_succ]
          refine wpAnyH_take (i := 10) (v := .pointer (some ⟨w.heap.size, 0, none⟩)) rfl (by kernel_rfl) (by kernel_rfl) (by kernel_rfl) (fun _ _ _ h => h) (Or.inl ⟨by rfl, ?_⟩) (by assumption) ?_
          · intro w1 hSw; (try dsimp only at hSw); go_simp
          simp only [Act.put, List.getElem_toArray, List.getElem_cons_succ, List.getElem_cons_zero, List.setIfInBounds_toArray, List.set_cons_zero, List.set_cons_succ]
          refine wpAnyH_ready (rs := [11]) (by kernel_rfl) (by simp) ?_
          refine AllReadyH.cons rfl (fun K hK => ?_) AllReadyH.nil
          refine step_store rfl (Operand.tmp 29) (Operand.tmp 27) 37 rfl _ _ rfl rfl hst ?_
          refine hK.out _ _ trivial (fun hHeld => ?_)
          clear hK K
          refine wpAnyH_done (by kernel_rfl) ?_ _
          refine NoPanic.normal ?_
          simp only [Act.put, List.getElem_toArray, List.getElem_cons_succ, List.getElem_cons_zero]
          go_wp2_with fail
          go_roundw
          case rel => exact ⟨j + 1, _, _, by omega, by go_num, HM1.out⟩
          case measure => simp [Go.RowKit.intOf]; omega
        · refine step_build rfl 37 (Operand.tmp 25) rfl (.agg #[.slice (some ⟨wr.heap.size, 0, none⟩) 256 256, .slice none 0 0]) _ rfl hbs ?_
          refine hK.out _ _ trivial (fun hHeld => ?_)
          clear hK K
          simp only [Act.put, List.getElem_toArray, List.getElem_cons_succ, List.getElem_cons_zero, List.setIfInBounds_toArray, List.set_cons_zero, List.set_cons_succ]
          refine wpAnyH_ready (rs := [4]) (by kernel_rfl) (by simp) ?_
          refine AllReadyH.cons rfl (fun K hK => ?_) AllReadyH.nil
          refine step_load rfl (Operand.tmp 22) 37 rfl _ _ rfl hld3 ?_
          refine hK.out _ _ trivial (fun hHeld => ?_)
          clear hK K
          simp only [Act.put, List.getElem_toArray, List.getElem_cons_succ, List.getElem_cons_zero, List.setIfInBounds_toArray, List.set_cons_zero, List.set_cons_succ]
          refine wpAnyH_ready (rs := [8]) (by kernel_rfl) (by simp) ?_
          refine AllReadyH.cons rfl (fun K hK => ?_) AllReadyH.nil
          refine step_append rfl (Operand.tmp 23) (Operand.tmp 26) 37 rfl _ _ _ rfl rfl hr1 ?_
          refine hK.out _ _ trivial (fun hHeld => ?_)
          clear hK K
          simp only [Act.put, List.getElem_toArray, List.getElem_cons_succ, List.getElem_cons_zero, List.setIfInBounds_toArray, List.set_cons_zero, List.set_cons_succ]
          refine wpAnyH_take (i := 9) (v := .pointer (some ⟨w.heap.size, 0, none⟩)) rfl (by kernel_rfl) (by kernel_rfl) (by kernel_rfl) (fun _ _ _ h => h) (Or.inl ⟨by rfl, ?_⟩) (by assumption) ?_
          · intro w1 hSw; (try dsimp only at hSw); go_simp
          simp only [Act.put, List.getElem_toArray, List.getElem_cons_succ, List.getElem_cons_zero, List.setIfInBounds_toArray, List.set_cons_zero, List.set_cons_succ]
          refine wpAnyH_take (i := 10) (v := .pointer (some ⟨w.heap.size, 0, none⟩)) rfl (by kernel_rfl) (by kernel_rfl) (by kernel_rfl) (fun _ _ _ h => h) (Or.inl ⟨by rfl, ?_⟩) (by assumption) ?_
          · intro w1 hSw; (try dsimp only at hSw); go_simp
          simp only [Act.put, List.getElem_toArray, List.getElem_cons_succ, List.getElem_cons_zero, List.setIfInBounds_toArray, List.set_cons_zero, List.set_cons_succ]
          refine wpAnyH_ready (rs := [11]) (by kernel_rfl) (by simp) ?_
          refine AllReadyH.cons rfl (fun K hK => ?_) AllReadyH.nil
          refine step_store rfl (Operand.tmp 29) (Operand.tmp 27) 37 rfl _ _ rfl rfl hst ?_
          refine hK.out _ _ trivial (fun hHeld => ?_)
          clear hK K
          refine wpAnyH_done (by kernel_rfl) ?_ _
          refine NoPanic.normal ?_
          simp only [Act.put, List.getElem_toArray, List.getElem_cons_succ, List.getElem_cons_zero]
          go_wp2_with fail
          go_roundw
          case rel => exact ⟨j + 1, _, _, by omega, by go_num, HM1.out⟩
          case measure => simp [Go.RowKit.intOf]; omega
    · obtain rfl : j = n := by omega
      obtain ⟨bl, c, dv, vv, vs, own, hl⟩ := HM.out.all h1 h2
      have HL := Lib.hid hl; clear hl
      go_wp2
      go_ret2
      exact ⟨_, bl, c, dv, vv, vs, own, rfl, HL.out, HM.out.grown⟩
end Go.Proofs.Ytkfijgdbaihhpaa.Dsk
