/- The project's getVolume: a cursor's next nineteen bytes as a volume. -/
import Derived.Test.YtkiohneggoiipaaCodecSuperGet
import Derived.Test.YtkiohneggoiipaaCodecSpec4
namespace Go.Proofs.Ytkiohneggoiipaa.Codec
open Go.RowKit CrcMath CodecMath Mem Crc

theorem ret_row1 {P : Program} {fn : Func} {R : Ending → World → Prop} {a : Act} {w : World} {p : Tmp} {ty : TypeId} (h : fn.results = #[.cell p ty])
    (g : Nat) (t : TypeId) (cs : Array Value) (d : TypeDesc) (hp : a.tmps.getD p undef = .pointer (some ⟨g, 0, none⟩)) (hg : Blk w g t cs)
    (hu : P.underlying ty = some d) (hd : (match d with | .struct _ | .array _ _ => true | _ => false) = true) (hi : (P.info? ty).map (·.size) = some cs.size) (hdf : a.defers = [])
    (hR : R (.returned (.agg cs)) w) : bodyPost P fn R .ret a w := by
  refine bodyPost_ret (v := .agg cs) ?_ hdf hR
  have e : (results fn a.tmps).run P w = ((asAddr (a.tmps.getD p undef)).run P w).andThen fun ad w1 => (loadVar ty ad).run P w1 := by
    simp only [results, h]
    simp [Sem.run_bind, Result.andThen]
  rw [e, hp]
  simp [asAddr, run_loadVar_row w g t ty cs (0, 0) d hg hu hd hi, Result.andThen]
theorem Blk.set6 {w : World} {g : Nat} {t : TypeId} {z0 z1 z2 z3 z4 z5 a0 a1 a2 a3 a4 a5 : Value} (h : Blk w g t #[z0, z1, z2, z3, z4, z5]) :
    Blk ((((((w.setCell ⟨g, 0, none⟩ a0).setCell ⟨g, 1, none⟩ a1).setCell ⟨g, 2, none⟩ a2).setCell ⟨g, 3, none⟩ a3).setCell ⟨g, 4, none⟩ a4).setCell ⟨g, 5, none⟩ a5) g t #[a0, a1, a2, a3, a4, a5] := by
  have h0 : Blk (w.setCell ⟨g, 0, none⟩ a0) g t #[a0, z1, z2, z3, z4, z5] := h.set_ 0 a0
  have h1 : Blk ((w.setCell ⟨g, 0, none⟩ a0).setCell ⟨g, 1, none⟩ a1) g t #[a0, a1, z2, z3, z4, z5] := h0.set_ 1 a1
  have h2 : Blk _ g t #[a0, a1, a2, z3, z4, z5] := h1.set_ 2 a2
  have h3 : Blk _ g t #[a0, a1, a2, a3, z4, z5] := h2.set_ 3 a3
  have h4 : Blk _ g t #[a0, a1, a2, a3, a4, z5] := h3.set_ 4 a4
  exact h4.set_ 5 a5
/-- A new block is written: what may have turned has not grown. -/
theorem grown_setN {w W : World} {row : Option Nat} (h : w.grownBy W row) {b i : Nat} (hb : w.heap.size ≤ b) (v : Value) : w.grownBy (W.setCell ⟨b, i, none⟩ v) row :=
  grownBy_new h (only_set (World.grownBy.refl W (some b)) i v) (fun j hj => by cases hj; exact hb)
/-- Where getVolume stands: the cursor that came in, the array, the record of its own, its result. -/
structure Rv (w W : World) (p g U Z k n : Nat) (t : TypeId) (L : List Nat) (cs : Array Value) : Prop where
  grown : w.grownBy W (some p)
  cur : Cur W p g k n
  arr : Blk W g t (u8s L).toArray
  box : Blk W U 129 cs
  zero : Blk W Z 129 #[.int .i64 0, .int .i64 0, .int .i64 0, .int .i64 0, .int .i64 0, .int .i64 0]
theorem Rv.step {w W W1 : World} {p g U Z k n k' n' : Nat} {t : TypeId} {L : List Nat} {cs : Array Value} (h : Rv w W p g U Z k n t L cs) (hr : W.grownBy W1 (some p)) (hc : Cur W1 p g k' n') (i : Nat) (v : Value)
    (hU : w.heap.size ≤ U) (pU : p ≠ U) (gU : g ≠ U) (ZU : Z ≠ U) (gp : g ≠ p) (Zp : Z ≠ p) : Rv w (W1.setCell ⟨U, i, none⟩ v) p g U Z k' n' t L (cs.setIfInBounds i v) where
  grown := grown_setN (h.grown.trans hr) hU v
  cur := by obtain ⟨k0, hb, hk⟩ := hc; exact ⟨k0, hb.far pU v, hk⟩
  arr := (h.arr.grown hr (by simpa using gp)).far gU v
  box := (h.box.grown hr (by simpa using fun e => pU e.symm)).set_ i v
  zero := (h.zero.grown hr (by simpa using Zp)).far ZU v
set_option maxRecDepth 100000 in
set_option maxHeartbeats 1600000 in
theorem getvolume_any (p g k n : Nat) (t : TypeId) (L : List Nat) (w : World) (hc : Cur w p g k n) (hg : Blk w g t (u8s L).toArray) (ht : t ≠ 108) (hb : ∀ x ∈ L, x < 256)
    (h : 19 ≤ n) (hn : k + n ≤ L.length) (hL : L.length ≤ 4096) :
    Calls Try.prog 74 #[.pointer (some ⟨p, 0, none⟩)] w fun e w' =>
      e = .returned (.agg #[.int .i64 (num L k 4 : Nat), .int .i64 (num L (k + 4) 1 : Nat), .int .i64 (num L (k + 5) 4 : Nat), .int .i64 (num L (k + 9) 4 : Nat), .int .i64 (num L (k + 13) 2 : Nat), .int .i64 (num L (k + 15) 4 : Nat)]) ∧ w.grownBy w' (some p) ∧ Cur w' p g (k + 19) (n - 19) := by
  have hpg := hc.ne hg ht
  have hpl : p < w.heap.size := by obtain ⟨_, h, _⟩ := hc; exact h.lt
  have hgl := hg.lt
  have HW0 := Lib.hid (num_small L k 4 hb (by omega)).1
  have HW1 := Lib.hid (num_small L (k + 4) 1 hb (by omega)).1
  have HW2 := Lib.hid (num_small L (k + 5) 4 hb (by omega)).1
  have HW3 := Lib.hid (num_small L (k + 9) 4 hb (by omega)).1
  have HW4 := Lib.hid (num_small L (k + 13) 2 hb (by omega)).1
  have HW5 := Lib.hid (num_small L (k + 15) 4 hb (by omega)).1
  generalize hm0 : num L k 4 = m0 at *
  have HM0 := Lib.hid hm0; clear hm0
  generalize hm1 : num L (k + 4) 1 = m1 at *
  have HM1 := Lib.hid hm1; clear hm1
  generalize hm2 : num L (k + 5) 4 = m2 at *
  have HM2 := Lib.hid hm2; clear hm2
  generalize hm3 : num L (k + 9) 4 = m3 at *
  have HM3 := Lib.hid hm3; clear hm3
  generalize hm4 : num L (k + 13) 2 = m4 at *
  have HM4 := Lib.hid hm4; clear hm4
  generalize hm5 : num L (k + 15) 4 = m5 at *
  have HM5 := Lib.hid hm5; clear hm5
  have hga := (World.grownBy_alloc w (.cells #[.int .i64 0, .int .i64 0, .int .i64 0, .int .i64 0, .int .i64 0, .int .i64 0] 129) none).trans (World.grownBy_alloc _ (.cells #[.int .i64 0, .int .i64 0, .int .i64 0, .int .i64 0, .int .i64 0, .int .i64 0] 129) none)
  have hrv : Rv w ((w.alloc (.cells #[.int .i64 0, .int .i64 0, .int .i64 0, .int .i64 0, .int .i64 0, .int .i64 0] 129)).alloc (.cells #[.int .i64 0, .int .i64 0, .int .i64 0, .int .i64 0, .int .i64 0, .int .i64 0] 129)) p g (w.heap.size + 1) w.heap.size k n t L #[.int .i64 0, .int .i64 0, .int .i64 0, .int .i64 0, .int .i64 0, .int .i64 0] :=
    ⟨grown_weak hga _, hc.grown hga (by simp), (hg.alloc _).alloc _, by simpa using Blk.new (w.alloc (.cells #[.int .i64 0, .int .i64 0, .int .i64 0, .int .i64 0, .int .i64 0, .int .i64 0] 129)) 129 #[.int .i64 0, .int .i64 0, .int .i64 0, .int .i64 0, .int .i64 0, .int .i64 0], (Blk.new w _ _).alloc _⟩
  have RV0 := Lib.hid hrv; have HB := Lib.hid hb; have HT := Lib.hid ht; have HN := Lib.hid hn; have HLL := Lib.hid hL
  have U1 := Lib.hid (show w.heap.size ≤ w.heap.size + 1 by omega); have U2 := Lib.hid (show p ≠ w.heap.size + 1 by omega); have U3 := Lib.hid (show g ≠ w.heap.size + 1 by omega); have U4 := Lib.hid (show w.heap.size ≠ w.heap.size + 1 by omega); have U5 := Lib.hid (show g ≠ p by omega); have U6 := Lib.hid (show w.heap.size ≠ p by omega)
  clear hga hrv hb ht hc hg hn hL hpg hpl hgl
  go_enter Try.func74, Try.ntmps74
  go_wp2_with fail
  refine (read_any p g k n 4 t L _ RV0.out.cur RV0.out.arr HT.out HB.out (by omega) (by have := HN.out; omega) HLL.out).mono ?_
  rintro e w1 ⟨rfl, hr, hc⟩
  rw [HM0.out, HW0.out]
  rw [show k + 4 = k + 4 from by omega, show n - 4 = n - 4 from by omega] at hc
  have hbx := RV0.out.box.grown hr (by simpa using fun e => U2.out e.symm)
  have hcl := hbx.cell 0
  have hfr := hbx.frozen 0
  simp only [List.getElem?_toArray, List.getElem?_cons_zero] at hcl
  have RV1 := Lib.hid (show Rv w (w1.setCell ⟨w.heap.size + 1, 0, none⟩ (.int .i64 (m0 : Nat))) p g (w.heap.size + 1) w.heap.size (k + 4) (n - 4) t L #[.int .i64 (m0 : Nat), .int .i64 0, .int .i64 0, .int .i64 0, .int .i64 0, .int .i64 0] from RV0.out.step hr hc 0 (.int .i64 (m0 : Nat)) U1.out U2.out U3.out U4.out U5.out U6.out)
  clear hr hc hbx
  go_wp2_with fail
  clear hcl hfr
  refine (read_any p g (k + 4) (n - 4) 1 t L _ RV1.out.cur RV1.out.arr HT.out HB.out (by omega) (by have := HN.out; omega) HLL.out).mono ?_
  rintro e w2 ⟨rfl, hr, hc⟩
  rw [HM1.out, HW1.out]
  rw [show (k + 4) + 1 = k + 5 from by omega, show (n - 4) - 1 = n - 5 from by omega] at hc
  have hbx := RV1.out.box.grown hr (by simpa using fun e => U2.out e.symm)
  have hcl := hbx.cell 1
  have hfr := hbx.frozen 1
  simp only [List.getElem?_toArray, List.getElem?_cons_zero, List.getElem?_cons_succ] at hcl
  have RV2 := Lib.hid (show Rv w (w2.setCell ⟨w.heap.size + 1, 1, none⟩ (.int .i64 (m1 : Nat))) p g (w.heap.size + 1) w.heap.size (k + 5) (n - 5) t L #[.int .i64 (m0 : Nat), .int .i64 (m1 : Nat), .int .i64 0, .int .i64 0, .int .i64 0, .int .i64 0] from RV1.out.step hr hc 1 (.int .i64 (m1 : Nat)) U1.out U2.out U3.out U4.out U5.out U6.out)
  clear hr hc hbx
  go_wp2_with fail
  clear hcl hfr
  refine (read_any p g (k + 5) (n - 5) 4 t L _ RV2.out.cur RV2.out.arr HT.out HB.out (by omega) (by have := HN.out; omega) HLL.out).mono ?_
  rintro e w3 ⟨rfl, hr, hc⟩
  rw [HM2.out, HW2.out]
  rw [show (k + 5) + 4 = k + 9 from by omega, show (n - 5) - 4 = n - 9 from by omega] at hc
  have hbx := RV2.out.box.grown hr (by simpa using fun e => U2.out e.symm)
  have hcl := hbx.cell 2
  have hfr := hbx.frozen 2
  simp only [List.getElem?_toArray, List.getElem?_cons_zero, List.getElem?_cons_succ] at hcl
  have RV3 := Lib.hid (show Rv w (w3.setCell ⟨w.heap.size + 1, 2, none⟩ (.int .i64 (m2 : Nat))) p g (w.heap.size + 1) w.heap.size (k + 9) (n - 9) t L #[.int .i64 (m0 : Nat), .int .i64 (m1 : Nat), .int .i64 (m2 : Nat), .int .i64 0, .int .i64 0, .int .i64 0] from RV2.out.step hr hc 2 (.int .i64 (m2 : Nat)) U1.out U2.out U3.out U4.out U5.out U6.out)
  clear hr hc hbx
  go_wp2_with fail
  clear hcl hfr
  refine (read_any p g (k + 9) (n - 9) 4 t L _ RV3.out.cur RV3.out.arr HT.out HB.out (by omega) (by have := HN.out; omega) HLL.out).mono ?_
  rintro e w4 ⟨rfl, hr, hc⟩
  rw [HM3.out, HW3.out]
  rw [show (k + 9) + 4 = k + 13 from by omega, show (n - 9) - 4 = n - 13 from by omega] at hc
  have hbx := RV3.out.box.grown hr (by simpa using fun e => U2.out e.symm)
  have hcl := hbx.cell 3
  have hfr := hbx.frozen 3
  simp only [List.getElem?_toArray, List.getElem?_cons_zero, List.getElem?_cons_succ] at hcl
  have RV4 := Lib.hid (show Rv w (w4.setCell ⟨w.heap.size + 1, 3, none⟩ (.int .i64 (m3 : Nat))) p g (w.heap.size + 1) w.heap.size (k + 13) (n - 13) t L #[.int .i64 (m0 : Nat), .int .i64 (m1 : Nat), .int .i64 (m2 : Nat), .int .i64 (m3 : Nat), .int .i64 0, .int .i64 0] from RV3.out.step hr hc 3 (.int .i64 (m3 : Nat)) U1.out U2.out U3.out U4.out U5.out U6.out)
  clear hr hc hbx
  go_wp2_with fail
  clear hcl hfr
  refine (read_any p g (k + 13) (n - 13) 2 t L _ RV4.out.cur RV4.out.arr HT.out HB.out (by omega) (by have := HN.out; omega) HLL.out).mono ?_
  rintro e w5 ⟨rfl, hr, hc⟩
  rw [HM4.out, HW4.out]
  rw [show (k + 13) + 2 = k + 15 from by omega, show (n - 13) - 2 = n - 15 from by omega] at hc
  have hbx := RV4.out.box.grown hr (by simpa using fun e => U2.out e.symm)
  have hcl := hbx.cell 4
  have hfr := hbx.frozen 4
  simp only [List.getElem?_toArray, List.getElem?_cons_zero, List.getElem?_cons_succ] at hcl
  have RV5 := Lib.hid (show Rv w (w5.setCell ⟨w.heap.size + 1, 4, none⟩ (.int .i64 (m4 : Nat))) p g (w.heap.size + 1) w.heap.size (k + 15) (n - 15) t L #[.int .i64 (m0 : Nat), .int .i64 (m1 : Nat), .int .i64 (m2 : Nat), .int .i64 (m3 : Nat), .int .i64 (m4 : Nat), .int .i64 0] from RV4.out.step hr hc 4 (.int .i64 (m4 : Nat)) U1.out U2.out U3.out U4.out U5.out U6.out)
  clear hr hc hbx
  go_wp2_with fail
  clear hcl hfr
  refine (read_any p g (k + 15) (n - 15) 4 t L _ RV5.out.cur RV5.out.arr HT.out HB.out (by omega) (by have := HN.out; omega) HLL.out).mono ?_
  rintro e w6 ⟨rfl, hr, hc⟩
  rw [HM5.out, HW5.out]
  rw [show (k + 15) + 4 = k + 19 from by omega, show (n - 15) - 4 = n - 19 from by omega] at hc
  have hbx := RV5.out.box.grown hr (by simpa using fun e => U2.out e.symm)
  have hcl := hbx.cell 5
  have hfr := hbx.frozen 5
  simp only [List.getElem?_toArray, List.getElem?_cons_zero, List.getElem?_cons_succ] at hcl
  have RV6 := Lib.hid (show Rv w (w6.setCell ⟨w.heap.size + 1, 5, none⟩ (.int .i64 (m5 : Nat))) p g (w.heap.size + 1) w.heap.size (k + 19) (n - 19) t L #[.int .i64 (m0 : Nat), .int .i64 (m1 : Nat), .int .i64 (m2 : Nat), .int .i64 (m3 : Nat), .int .i64 (m4 : Nat), .int .i64 (m5 : Nat)] from RV5.out.step hr hc 5 (.int .i64 (m5 : Nat)) U1.out U2.out U3.out U4.out U5.out U6.out)
  clear hr hc hbx
  have y0 := RV6.out.box.cell 0; have y1 := RV6.out.box.cell 1; have y2 := RV6.out.box.cell 2; have y3 := RV6.out.box.cell 3; have y4 := RV6.out.box.cell 4; have y5 := RV6.out.box.cell 5
  have x0 := RV6.out.zero.cell 0; have x1 := RV6.out.zero.cell 1; have x2 := RV6.out.zero.cell 2; have x3 := RV6.out.zero.cell 3; have x4 := RV6.out.zero.cell 4; have x5 := RV6.out.zero.cell 5
  have f0 := RV6.out.zero.frozen 0; have f1 := RV6.out.zero.frozen 1; have f2 := RV6.out.zero.frozen 2; have f3 := RV6.out.zero.frozen 3; have f4 := RV6.out.zero.frozen 4; have f5 := RV6.out.zero.frozen 5
  simp only [List.getElem?_toArray, List.getElem?_cons_zero, List.getElem?_cons_succ] at x0 x1 x2 x3 x4 x5 y0 y1 y2 y3 y4 y5
  go_wp2_with fail
  refine ret_row1 rfl w.heap.size 129 _ _ rfl (Blk.set6 RV6.out.zero) Try.underlying129 rfl (by kernel_rfl) rfl ⟨rfl, ?_, ?_⟩
  · repeat (refine grown_setN ?_ (Nat.le_refl _) _)
    exact RV6.out.grown
  · obtain ⟨k0, hb, hk⟩ := RV6.out.cur
    exact ⟨k0, (((((hb.far U6.out.symm _).far U6.out.symm _).far U6.out.symm _).far U6.out.symm _).far U6.out.symm _).far U6.out.symm _, hk⟩
end Go.Proofs.Ytkiohneggoiipaa.Codec
