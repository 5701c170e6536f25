/- Shared texts of this seat's proofs: Cur, Structs, RefSuper, CodecSpec2, CodecSpec3, Open, RefCounts, CodecBits, CrcEight, CrcFill, Locks, OnceParts. -/
import Derived.Test.YtagikgejhckfbaaB2
import Derived.Laws.ResultCell
import Derived.WalkKit
import Derived.Lib.SlBytesConst
import Derived.Deep.RegionWith
import Derived.Deep.Fields
import Derived.ChangeArms
import Derived.WideShapes
import Derived.Lib.BufferWrite
import Derived.Lib.Bytes
import Derived.Laws.BytesArg
import Derived.StillTailTactics
import Derived.Test.YtagikgejhckfbaaProg
import Derived.Conc.RwLib
import Derived.Conc.MuData
import Derived.KernelRfl
import Derived.Test.YtagikgejhckfbaaRows
import Derived.Conc.MuLone
import Derived.Tactics
import Derived.Tactics2
import Derived.Defers
import Derived.Laws.Pointers
import Derived.Laws.LoneSync
import Derived.RegionTactic
import Derived.RegionCalls
import Derived.ChangeAlike
/- The project's cursor: what is still to be written or read of an array: take, write, read. -/
namespace Go.Proofs.Ytagikgejhckfbaa.Codec
open Go.RowKit CrcMath CodecMath Mem Crc

/-- From w to w' no block has turned that was there, but (it may be) blocks p and g. -/
structure Left (w w' : World) (p g : Nat) : Prop where
  os : w'.os = w.os
  tape : w'.tape = w.tape
  output : w'.output = w.output
  size : w.heap.size ≤ w'.heap.size
  block : ∀ k, k < w.heap.size → k ≠ p → k ≠ g → w'.heap[k]? = w.heap[k]?
section
variable {w w1 w' : World} {p g : Nat}
theorem Left.of1 (h : w.grownBy w' (some p)) (g : Nat) : Left w w' p g := ⟨h.os, h.tape, h.output, h.size, fun k hk h1 _ => h.block k hk (by simpa using h1)⟩
theorem Left.of2 (h : w.grownBy w' (some g)) (p : Nat) : Left w w' p g := ⟨h.os, h.tape, h.output, h.size, fun k hk _ h1 => h.block k hk (by simpa using h1)⟩
theorem Left.of0 (h : w.grownBy w' none) (p g : Nat) : Left w w' p g := ⟨h.os, h.tape, h.output, h.size, fun k hk _ _ => h.block k hk (by simp)⟩
theorem Left.trans (h : Left w w1 p g) (k : Left w1 w' p g) : Left w w' p g :=
  ⟨k.os.trans h.os, k.tape.trans h.tape, k.output.trans h.output, Nat.le_trans h.size k.size, fun i hi h1 h2 => (k.block i (Nat.lt_of_lt_of_le hi h.size) h1 h2).trans (h.block i hi h1 h2)⟩
/-- Where both are new, nothing that was there has turned. -/
theorem Left.new {w0 : World} (h : Left w w' p g) (h0 : w0.grownBy w none) (hp : w0.heap.size ≤ p) (hg : w0.heap.size ≤ g) : w0.grownBy w' none :=
  ⟨h.os.trans h0.os, h.tape.trans h0.tape, h.output.trans h0.output, Nat.le_trans h0.size h.size, fun k hk _ => (h.block k (Nat.lt_of_lt_of_le hk h0.size) (by omega) (by omega)).trans (h0.block k hk (by simp))⟩
theorem Left.blk {b : Nat} {t : TypeId} {cs : Array Value} (h : Left w w' p g) (hb : Blk w b t cs) (h1 : b ≠ p) (h2 : b ≠ g) : Blk w' b t cs := (h.block b hb.lt h1 h2).trans hb
theorem Left.cell {a : Addr} {v : Value} (h : Left w w' p g) (hc : w.cell? a = some v) (h1 : a.block ≠ p) (h2 : a.block ≠ g) : w'.cell? a = some v :=
  (World.cell?_of_block (h.block a.block (World.block_lt_of_cell? w a hc) h1 h2)).trans hc
end

/-- The cursor in block p stands at place k of block g, with n bytes to come. -/
def Cur (w : World) (p g k n : Nat) : Prop := ∃ k0, Blk w p 89 #[.slice (some ⟨g, k0, none⟩) n n] ∧ (0 < n → k0 = k)
theorem Cur.grown {w w' : World} {p g k n : Nat} {row : Option Nat} (h : Cur w p g k n) (hg : w.grownBy w' row) (hne : some p ≠ row) : Cur w' p g k n := by
  obtain ⟨k0, hb, hk⟩ := h
  exact ⟨k0, hb.grown hg hne, hk⟩
theorem Cur.ne {w : World} {p g k n : Nat} {t : TypeId} {cs : Array Value} (h : Cur w p g k n) (hb : Blk w g t cs) (ht : t ≠ 89) : p ≠ g := by
  rintro rfl
  obtain ⟨k0, hb', _⟩ := h
  rw [Blk, hb] at hb'
  injection hb' with hb'
  injection hb' with _ h1
  exact ht h1

set_option maxRecDepth 100000 in
set_option maxHeartbeats 800000 in
theorem take_any (p g k n cnt : Nat) (w : World) (hc : Cur w p g k n) (h : cnt ≤ n) (hn : n ≤ 4096) :
    Calls Try.prog 44 #[.pointer (some ⟨p, 0, none⟩), .int .i64 cnt] w fun e w' =>
      (∃ k0, e = .returned (.slice (some ⟨g, k0, none⟩) cnt cnt) ∧ (0 < cnt → k0 = k)) ∧ w.grownBy w' (some p) ∧ Cur w' p g (k + cnt) (n - cnt) := by
  obtain ⟨k0, hb, hk⟩ := hc
  have hcell := hb.cell 0
  have hfr := hb.frozen 0
  simp only [List.getElem?_toArray, List.getElem?_cons_zero] at hcell
  have HB := Lib.hid hb; have HK := Lib.hid hk; clear hb hk
  have h0 : (0 : Int) ≤ cnt := by omega
  have h1 : (cnt : Int) ≤ n := by omega
  go_enter Try.func44, Try.ntmps44
  go_wp2
  · obtain rfl : n = cnt := by assumption
    go_ret
    exact ⟨⟨k0, rfl, HK.out⟩, Lib.grownBy_setB (World.grownBy.refl _ _) 0 _, k0, HB.out.set_ 0 _, fun h => absurd h (by omega)⟩
  · rename_i hne
    go_ret
    refine ⟨⟨k0, rfl, fun _ => HK.out (by omega)⟩, Lib.grownBy_setB (World.grownBy.refl _ _) 0 _, k0 + cnt, HB.out.set_ 0 _, fun _ => ?_⟩
    rw [HK.out (by omega)]

set_option maxRecDepth 100000 in
set_option maxHeartbeats 800000 in
/-- A number is written at the cursor's place. -/
theorem write_any (p g k n width m : Nat) (t : TypeId) (L : List Nat) (w : World) (hc : Cur w p g k n) (hg : Blk w g t (u8s L).toArray) (ht : t ≠ 89)
    (h : width ≤ n) (hn : k + n ≤ L.length) (hL : L.length ≤ 4096) (h8 : width ≤ 8) :
    Calls Try.prog 39 #[.pointer (some ⟨p, 0, none⟩), .int .i64 width, .int .i64 m] w fun e w' =>
      e = .returned (.tuple #[]) ∧ Left w w' p g ∧ Cur w' p g (k + width) (n - width) ∧ Blk w' g t (u8s (lay L k (be width m))).toArray := by
  have hpg := hc.ne hg ht
  have HG := Lib.hid hg; have HC := Lib.hid hc; clear hc hg
  go_enter Try.func39, Try.ntmps39
  go_wp2_with fail
  refine (take_any p g k n width w HC.out h (by omega)).mono ?_
  rintro e w1 ⟨⟨k0, rfl, hk⟩, hgr, hc1⟩
  have hb1 := HG.out.grown hgr (by simpa using fun e => hpg e.symm)
  have HG1 := Lib.hid hb1; have HC1 := Lib.hid hc1; have HGR := Lib.hid (Left.of1 hgr g); have HK := Lib.hid hk
  clear hb1 hc1 hgr hk HG
  go_wp2_with fail
  go_loopw [7, 13] (fun _ i wr => ∃ j : Nat, j ≤ width ∧ i = .int .i64 j ∧ w1.grownBy wr (some g) ∧ Blk wr g t (u8s (lay L k ((be width m).take j))).toArray) (fun _ i _ => width - (intOf i).toNat)
  case atStart => exact ⟨0, by omega, rfl, World.grownBy.refl _ _, by simpa [lay_nil] using HG1.out⟩
  case round =>
    obtain ⟨j, hj, rfl, hgw, hbw⟩ := hrel
    have HBW := Lib.hid hbw; have HGW := Lib.hid hgw; clear hbw hgw
    by_cases hlt : j < width
    · obtain rfl : k0 = k := HK.out (by omega)
      obtain ⟨q, hq⟩ : ∃ q, width = j + q + 1 := ⟨width - j - 1, by omega⟩
      have hsh : (8 * ((width : Int) - 1 - (j : Int))) = ((8 * q : Nat) : Int) := by omega
      have hw1 : (width : Int) - 1 - (j : Int) = (q : Int) := by omega
      have hlen : (lay L k0 ((be width m).take j)).length = L.length := lay_length _ _ _ (by rw [List.length_take, be_length]; omega)
      have hcell := HBW.out.cell (k0 + j)
      rw [List.getElem?_toArray, u8s_at _ _ (by omega)] at hcell
      have hfr := HBW.out.frozen (k0 + j)
      have hst := lay_set L k0 ((be width m).take j) (m / 256 ^ q % 256) (by rw [List.length_take, be_length]; omega)
      rw [List.length_take, be_length, Nat.min_eq_left (by omega)] at hst
      have hbt := be_take_up width m j hlt
      rw [show width - 1 - j = q from by omega] at hbt
      rw [← hbt] at hst
      have HST := Lib.hid hst; have HBY := Lib.hid (byte_of m q); clear hst hbt hlen
      go_wp2_with fail
      go_roundw
      case rel =>
        refine ⟨j + 1, by omega, by go_num, only_set HGW.out _ _, ?_⟩
        rw [HBY.out]
        have h := HBW.out.set_ (k0 + j) (.int .u8 ((m / 256 ^ q % 256 : Nat) : Int))
        rw [u8s_set, HST.out] at h
        exact h
      case measure => simp [intOf]; omega
    · obtain rfl : j = width := by omega
      go_wp2
      go_end0
      refine ⟨rfl, HGR.out.trans (Left.of2 HGW.out p), HC1.out.grown HGW.out (by simpa using hpg), ?_⟩
      have h := HBW.out
      rwa [List.take_of_length_le (by rw [be_length]; omega)] at h

set_option maxRecDepth 100000 in
set_option maxHeartbeats 800000 in
/-- A number is read at the cursor's place. -/
theorem read_any (p g k n width : Nat) (t : TypeId) (L : List Nat) (w : World) (hc : Cur w p g k n) (hg : Blk w g t (u8s L).toArray) (ht : t ≠ 89) (hb : ∀ x ∈ L, x < 256)
    (h : width ≤ n) (hn : k + n ≤ L.length) (hL : L.length ≤ 4096) :
    Calls Try.prog 45 #[.pointer (some ⟨p, 0, none⟩), .int .i64 width] w fun e w' =>
      e = .returned (.int .i64 (wrap64 (num L k width))) ∧ w.grownBy w' (some p) ∧ Cur w' p g (k + width) (n - width) := by
  have hpg := hc.ne hg ht
  have HG := Lib.hid hg; have HC := Lib.hid hc; have HBS := Lib.hid hb; clear hc hg hb
  go_enter Try.func45, Try.ntmps45
  go_wp2_with fail
  refine (take_any p g k n width w HC.out h (by omega)).mono ?_
  rintro e w1 ⟨⟨k0, rfl, hk⟩, hgr, hc1⟩
  have hb1 := HG.out.grown hgr (by simpa using fun e => hpg e.symm)
  have HG1 := Lib.hid hb1; have HC1 := Lib.hid hc1; have HGR := Lib.hid hgr; have HK := Lib.hid hk
  clear hb1 hc1 hgr hk HG
  go_wp2_with fail
  go_loop [5, 7, 12] (fun s _ i => ∃ j : Nat, j ≤ width ∧ i = .int .i64 j ∧ s = .int .i64 (wrap64 (num L k j))) (fun _ _ i => width - (intOf i).toNat)
  case atStart => exact ⟨0, by omega, rfl, by simp [num, wrap64]⟩
  case round =>
    obtain ⟨j, hj, rfl, rfl⟩ := hrel
    by_cases hlt : j < width
    · obtain rfl : k0 = k := HK.out (by omega)
      have hcell := HG1.out.cell (k0 + j)
      rw [List.getElem?_toArray, u8s_at _ _ (by omega)] at hcell
      have hby := getD_lt HBS.out (k0 + j)
      have hor := or_byte (wrap64 (num L k0 j)) (L.getD (k0 + j) 0) hby
      rw [num_step] at hor
      have HOR := Lib.hid hor; clear hor
      generalize L.getD (k0 + j) 0 = y at *
      generalize wrap64 ((num L k0 j : Nat) : Int) = x at *
      go_wp2
      refine ⟨⟨j + 1, by omega, by go_num, ?_⟩, by simp [intOf]; omega⟩
      rw [HOR.out]
    · obtain rfl : j = width := by omega
      go_wp2
      go_ret
      exact ⟨rfl, HGR.out, HC1.out⟩
end Go.Proofs.Ytagikgejhckfbaa.Codec
/- Structs in memory: a block that is written field by field; a struct that is handed back from its block. No program's function is named. -/
namespace Go.Proofs.Ytagikgejhckfbaa.Mem
open Go.RowKit

section
variable {w : World} {g : Nat} {t : TypeId} {z0 z1 z2 z3 z4 z5 z6 a0 a1 a2 a3 a4 a5 a6 : Value}
theorem Blk.set2 (h : Blk w g t #[z0, z1]) : Blk ((w.setCell ⟨g, 0, none⟩ a0).setCell ⟨g, 1, none⟩ a1) g t #[a0, a1] := (h.set_ 0 a0).set_ 1 a1
theorem Blk.set3 (h : Blk w g t #[z0, z1, z2]) : Blk (((w.setCell ⟨g, 0, none⟩ a0).setCell ⟨g, 1, none⟩ a1).setCell ⟨g, 2, none⟩ a2) g t #[a0, a1, a2] := ((h.set_ 0 a0).set_ 1 a1).set_ 2 a2
theorem Blk.set4 (h : Blk w g t #[z0, z1, z2, z3]) : Blk ((((w.setCell ⟨g, 0, none⟩ a0).setCell ⟨g, 1, none⟩ a1).setCell ⟨g, 2, none⟩ a2).setCell ⟨g, 3, none⟩ a3) g t #[a0, a1, a2, a3] := (((h.set_ 0 a0).set_ 1 a1).set_ 2 a2).set_ 3 a3
theorem Blk.set7 (h : Blk w g t #[z0, z1, z2, z3, z4, z5, z6]) :
    Blk (((((((w.setCell ⟨g, 0, none⟩ a0).setCell ⟨g, 1, none⟩ a1).setCell ⟨g, 2, none⟩ a2).setCell ⟨g, 3, none⟩ a3).setCell ⟨g, 4, none⟩ a4).setCell ⟨g, 5, none⟩ a5).setCell ⟨g, 6, none⟩ a6) g t #[a0, a1, a2, a3, a4, a5, a6] := by
  have h0 : Blk (w.setCell ⟨g, 0, none⟩ a0) g t #[a0, z1, z2, z3, z4, z5, z6] := h.set_ 0 a0
  have h1 : Blk ((w.setCell ⟨g, 0, none⟩ a0).setCell ⟨g, 1, none⟩ a1) g t #[a0, a1, z2, z3, z4, z5, z6] := h0.set_ 1 a1
  have h2 := h1.set_ 2 a2
  have h2 : Blk _ g t #[a0, a1, a2, z3, z4, z5, z6] := h2
  have h3 : Blk _ g t #[a0, a1, a2, a3, z4, z5, z6] := h2.set_ 3 a3
  have h4 : Blk _ g t #[a0, a1, a2, a3, a4, z5, z6] := h3.set_ 4 a4
  have h5 : Blk _ g t #[a0, a1, a2, a3, a4, a5, z6] := h4.set_ 5 a5
  exact h5.set_ 6 a6
end

theorem ret_row2 {P : Program} {fn : Func} {R : Ending → World → Prop} {a : Act} {w : World} {p u : Tmp} {ty : TypeId} (h : fn.results = #[.cell p ty, .tmp u])
    (g : Nat) (t : TypeId) (cs : Array Value) (d : TypeDesc) (hp : a.tmps.getD p undef = .pointer (some ⟨g, 0, none⟩)) (hg : Blk w g t cs)
    (hu : P.underlying ty = some d) (hd : (match d with | .struct _ | .array _ _ => true | _ => false) = true) (hi : (P.info? ty).map (·.size) = some cs.size) (hdf : a.defers = [])
    (hR : R (.returned (.tuple #[.agg cs, a.tmps.getD u undef])) w) : bodyPost P fn R .ret a w := by
  refine bodyPost_ret (v := .tuple #[.agg cs, a.tmps.getD u undef]) ?_ hdf hR
  rw [results_cell_tmp h, hp]
  simp [asAddr, run_loadVar_row w g t ty cs (0, 0) d hg hu hd hi, Result.andThen]
end Go.Proofs.Ytagikgejhckfbaa.Mem
/- The walks over the document's own answer for superblocks: PutSuper, GetSuper. -/
namespace Go.Proofs.Ytagikgejhckfbaa.Codec
open Go.RowKit CrcMath CodecMath Mem Crc

theorem grown_weak {w w' : World} (h : w.grownBy w' none) (row : Option Nat) : w.grownBy w' row := ⟨h.os, h.tape, h.output, h.size, fun i hi _ => h.block i hi (by simp)⟩
theorem Grew.apart {w w' : World} {v v' : Value} (h : Grew w w' v v') {g : Nat} (hg : g < w.heap.size) (hne : v.ownBlock ≠ some g) : v'.ownBlock ≠ some g := by
  intro e
  rcases h.2 g e with h1 | h1
  · exact hne h1
  · omega
/-- What a call that writes a record leaves: its bytes as a row of its own, or ErrArg. -/
def Wrote (w : World) (o : Option (List Nat)) (e : Ending) (w' : World) : Prop :=
  w.grownBy w' none ∧ ((∃ l v', o = some l ∧ e = .returned (.tuple #[v', .int .i64 0]) ∧ Own w' w.heap.size 5 1 v' l.length (u8s l) ∧ ∀ x ∈ l, x < 256) ∨ (o = none ∧ e = .returned (.tuple #[.slice none 0 0, .int .i64 1])))

/-- '[]byte("text")' of a constant text, with one block more ahead of it. -/
theorem run_const1 (w : World) (o : Obj) (C : Array Value) (n c : Nat) :
    (convert 39 39 (.slice (some ⟨w.heap.size + 1, 0, none⟩) n c)).run Try.prog ((w.alloc o).alloc (.cells C 5)) = .ok (.slice (some ⟨w.heap.size + 1, 0, none⟩) n c) ((w.alloc o).alloc (.cells C 5 (C.size, C.size + 1))) := by
  have h := Lib.run_convert_bytes_const (P := Try.prog) (w.alloc o) 39 5 C n c Try.underlying39 Try.underlying5
  simpa using h
theorem run_const1d (w : World) (o : Obj) (C : Array Value) (n c : Nat) :
    (convert 39 39 (.slice (some ⟨w.heap.size + 1, 0, none⟩) n c)).run Try.prog ((w.alloc o).alloc (.cells C 5)).drew = .ok (.slice (some ⟨w.heap.size + 1, 0, none⟩) n c) ((w.alloc o).alloc (.cells C 5 (C.size, C.size + 1))).drew :=
  run_const1 w.drew o C n c
theorem own_const (w : World) (base n : Nat) (C : Array Value) (l : List Nat) (hC : C.toList = u8s l) (hn : l.length = n) (hm : n ≤ maxLen) (hb : base ≤ w.heap.size) :
    Own (w.alloc (.cells C 5 (n, n + 1))) base 5 1 (.slice (some ⟨w.heap.size, 0, none⟩) n n) n (u8s l) :=
  .inr ⟨w.heap.size, C, _, rfl, hb, heap_alloc_new w _, hm, hC, by rw [u8s_length]; omega⟩
set_option maxHeartbeats 400000 in
theorem numbers_any (a0 a1 a2 a3 a4 a5 a6 : Int) (w : World) :
    Calls Try.prog 33 #[.agg #[.int .i64 a0, .int .i64 a1, .int .i64 a2, .int .i64 a3, .int .i64 a4, .int .i64 a5, .int .i64 a6]] w fun e w' =>
      e = .returned (.slice (some ⟨w.heap.size + 1, 0, none⟩) 7 7) ∧ w' = (w.alloc (.cells #[.int .i64 a0, .int .i64 a1, .int .i64 a2, .int .i64 a3, .int .i64 a4, .int .i64 a5, .int .i64 a6] 23)).alloc (.cells #[.int .i64 a0, .int .i64 a1, .int .i64 a2, .int .i64 a3, .int .i64 a4, .int .i64 a5, .int .i64 a6] 3) := by
  go_enter Try.func33, Try.ntmps33
  go_wp2
  go_ret
  exact ⟨rfl, rfl⟩

set_option maxRecDepth 100000 in
set_option maxHeartbeats 800000 in
theorem ref_put_super (a0 a1 a2 a3 a4 a5 a6 : Int) (w : World) :
    Calls Try.prog 19 #[.agg #[.int .i64 a0, .int .i64 a1, .int .i64 a2, .int .i64 a3, .int .i64 a4, .int .i64 a5, .int .i64 a6]] w (Wrote w (superW [a0, a1, a2, a3, a4, a5, a6])) := by
  have kc := run_const1
  go_enter Try.func19, Try.ntmps19
  go_wp2_with fail
  refine (numbers_any a0 a1 a2 a3 a4 a5 a6 _).mono ?_
  rintro e w1 ⟨rfl, rfl⟩
  go_wp2_with fail
  generalize hs : [a0, a1, a2, a3, a4, a5, a6] = s
  have hlen : s.length = 7 := by subst hs; rfl
  have HLEN := Lib.hid hlen; clear hlen
  have HSS := Lib.hid hs; clear hs
  go_loopw [4, 6] (fun u i wr => ∃ j : Nat, j ≤ 7 ∧ i = .int .i64 j ∧ Own wr w.heap.size 5 1 u (4 + 8 * j) (u8s ([80, 83, 85, 80] ++ (s.take j).flatMap fun n => be 8 n.toNat)) ∧ w.grownBy wr none ∧
      (∀ q, q < 7 → wr.cell? ⟨w.heap.size + 1 + 1 + 1, q, none⟩ = some (.int .i64 (s.getD q 0))) ∧ u.ownBlock ≠ some (w.heap.size + 1 + 1 + 1) ∧ (∀ q, q < j → inB (s.getD q 0) 1099511627776 = true)) (fun _ i _ => 7 - (intOf i).toNat)
  case atStart =>
    refine ⟨0, by omega, rfl, ?_, ?_, ?_, by simp [Value.ownBlock], fun q hq => by omega⟩
    · refine Own.alloc (Own.alloc ?_ _) _
      have h := own_const (w.alloc (.cells #[.int .i64 a0, .int .i64 a1, .int .i64 a2, .int .i64 a3, .int .i64 a4, .int .i64 a5, .int .i64 a6] 23)) w.heap.size 4 #[.int .u8 80, .int .u8 83, .int .u8 85, .int .u8 80] [80, 83, 85, 80] rfl rfl (by simp [maxLen]) (by simp)
      simpa using h
    · exact (((World.grownBy_alloc w _ none).trans (World.grownBy_alloc _ _ none)).trans (World.grownBy_alloc _ _ none)).trans (World.grownBy_alloc _ _ none)
    · intro q hq
      have h := (Blk.new (((w.alloc (.cells #[.int .i64 a0, .int .i64 a1, .int .i64 a2, .int .i64 a3, .int .i64 a4, .int .i64 a5, .int .i64 a6] 23)).alloc (.cells #[.int .u8 80, .int .u8 83, .int .u8 85, .int .u8 80] 5 (4, 5))).alloc (.cells #[.int .i64 a0, .int .i64 a1, .int .i64 a2, .int .i64 a3, .int .i64 a4, .int .i64 a5, .int .i64 a6] 23)) 3 #[.int .i64 a0, .int .i64 a1, .int .i64 a2, .int .i64 a3, .int .i64 a4, .int .i64 a5, .int .i64 a6]).cell q
      simp only [World.size_alloc] at h
      rw [h, ← HSS.out]
      match q, hq with
      | 0, _ | 1, _ | 2, _ | 3, _ | 4, _ | 5, _ | 6, _ => rfl
  case round =>
    obtain ⟨j, hj, rfl, ho, hg, hc, hne, hin⟩ := hrel
    have HO := Lib.hid ho; have HG := Lib.hid hg; have HC := Lib.hid hc; have HNE := Lib.hid hne; have HIN := Lib.hid hin
    clear ho hg hc hne hin
    by_cases hlt : j < 7
    · have hcj := HC.out j hlt
      cases hib : inB (s.getD j 0) 1099511627776 with
      | false =>
        have hno := superW_no s j (by rw [HLEN.out]; exact hlt) hib
        have HNO := Lib.hid hno; clear hno
        generalize s.getD j 0 = x at *
        have HIB := Lib.hid hib; clear hib
        go_wp2_with fail
        refine (in_any x _ _).mono ?_
        rintro e w2 ⟨rfl, rfl⟩
        rw [HIB.out]
        go_wp2
        go_ret2
        exact ⟨HG.out, .inr ⟨by first | exact HNO.out | (rw [HSS.out]; exact HNO.out), rfl⟩⟩
      | true =>
        have htf := take_flat s 8 j (by rw [HLEN.out]; exact hlt)
        have HTF := Lib.hid htf; clear htf
        have hin' : ∀ q, q < j + 1 → inB (s.getD q 0) 1099511627776 = true := by
          intro q hq
          by_cases e : q = j
          · subst e; exact hib
          · exact HIN.out q (by omega)
        have HIN' := Lib.hid hin'; clear hin'
        generalize s.getD j 0 = x at *
        have hxx := inB_yes hib
        obtain ⟨hx0, hx1⟩ := hxx
        have HIB := Lib.hid hib; clear hib
        obtain ⟨m, rfl⟩ := Int.eq_ofNat_of_zero_le hx0
        rw [Int.toNat_natCast] at HTF
        go_wp2_with fail
        refine (in_any (m : Int) _ _).mono ?_
        rintro e w2 ⟨rfl, rfl⟩
        rw [HIB.out]
        go_wp2_with fail
        have hsz := HG.out.size
        refine (put_any w.heap.size _ _ _ m 8 _ HO.out hsz (by omega) (by omega)).mono ?_
        rintro e w2 ⟨v', rfl, ho', hg'⟩
        have HO' := Lib.hid ho'; have HG' := Lib.hid hg'; clear ho' hg'
        have hgsz : w.heap.size + 1 + 1 + 1 < wr.heap.size := by have := World.block_lt_of_cell? wr _ (HC.out 0 (by omega)); exact this
        go_wp2_with fail
        go_roundw
        case rel =>
          refine ⟨j + 1, by omega, by go_num, ?_, ?_, ?_, ?_, HIN'.out⟩
          · rw [HTF.out, ← List.append_assoc, show 4 + 8 * (j + 1) = 4 + 8 * j + 8 from by omega]
            exact HO'.out
          · exact grownBy_new HG.out HG'.out.1 (fun i hi => (HO.out.base_ i hi).1)
          · exact fun q hq => HG'.out.1.cell (HC.out q hq) (fun e => HNE.out e.symm)
          · exact Grew.apart HG'.out hgsz HNE.out
        case measure => simp [intOf]; omega
    · obtain rfl : j = 7 := by omega
      have hyes := superW_yes s 7 HLEN.out HIN.out
      have HY := Lib.hid hyes; clear hyes
      have ho := HO.out
      rw [List.take_of_length_le (by rw [HLEN.out]; omega)] at ho
      have HO7 := Lib.hid ho; clear ho
      have hsz := HG.out.size
      go_wp2_with fail
      refine (framed_any w.heap.size _ _ (superB s) _ HO7.out hsz (by omega) (superB_lt s)).mono ?_
      rintro e w2 ⟨v', rfl, ho', hg'⟩
      have HO' := Lib.hid ho'; have HG' := Lib.hid hg'; clear ho' hg'
      go_wp2
      go_ret2
      refine ⟨grownBy_new HG.out HG'.out.1 (fun i hi => (HO.out.base_ i hi).1), .inl ⟨_, v', by first | exact HY.out | (rw [HSS.out]; exact HY.out), rfl, ?_, frame_lt _ (superB_lt s)⟩⟩
      rw [frame_length _ (by rw [superB_len s HLEN.out]; omega)]
      exact HO'.out

def zero7 : List Int := [0, 0, 0, 0, 0, 0, 0]
def supV (s : List Int) : Value := .agg (s.map fun n => Value.int .i64 n).toArray
/-- What a call that reads a record leaves: a value, and whether there is one. -/
def Told (w : World) (v : Value) (ok : Bool) (e : Ending) (w' : World) : Prop := w.grownBy w' none ∧ e = .returned (.tuple #[v, .bool ok])

/-- What a call that turned nothing leaves of the cells that were there. -/
theorem gcell {W w1 : World} (h : W.grownBy w1 none) : (∀ b o, b < W.heap.size → w1.cell? ⟨b, o, none⟩ = W.cell? ⟨b, o, none⟩) ∧ (∀ b o, b < W.heap.size → w1.frozen? ⟨b, o, none⟩ = W.frozen? ⟨b, o, none⟩) :=
  ⟨fun b o hb => World.cell?_of_block (h.block b hb (by simp)), fun b o hb => World.frozen?_of_block (h.block b hb (by simp))⟩
theorem grown_set {w w' : World} (h : w.grownBy w' none) {b i : Nat} (hp : w.heap.size ≤ b) (v : Value) : w.grownBy (w'.setCell ⟨b, i, none⟩ v) none :=
  grown_none_of_size (row := some b) (Lib.grownBy_setB (grown_weak h _) i v) (fun j hj => by cases hj; exact hp)
theorem grown_drewN {w w' : World} (h : w.grownBy w' none) (q : Nat) : w.grownBy (w'.drewN q) none := h.trans (drawn_grown ⟨q, rfl⟩ none)
theorem bytes_keepN {w w' : World} {b n : Nat} {A : Option Addr} {l : List Nat} (h : Bytes w b A n l) (hg : w.grownBy w' none) : Bytes w' b A n l := h.keep (grown_weak hg _)
end Go.Proofs.Ytagikgejhckfbaa.Codec
/- Records as bytes: pages, images of a log, counts. No program is named. -/
namespace Go.Proofs.Ytagikgejhckfbaa.Codec
open Go.RowKit CrcMath CodecMath

/-- A number of one width at a place, whatever stands ahead of it and behind it. -/
theorem num_mid (p q l : List Nat) (a k : Nat) (n : Int) (hl : l = p ++ (be k n.toNat ++ q)) (ha : p.length = a) (h0 : 0 ≤ n) (h : n.toNat < 256 ^ k) : (num l a k : Int) = n := by
  subst ha
  rw [hl, num_put _ _ _ _ h]
  omega

/-! ### Pages -/
def pageOk (number kind : Int) (body : List Nat) : Bool := decide (1 ≤ kind) && decide (kind ≤ 5) && inB number 1023 && decide (body.length = 240) && body.all fun x => decide (x < 256)
def pageB (number kind : Int) (body : List Nat) : List Nat := [80, 80, 65, 71] ++ (be 1 kind.toNat ++ (be 4 number.toNat ++ ([0, 0, 0] ++ body)))
def pageW (number kind : Int) (body : List Nat) : Option (List Nat) := if pageOk number kind body then some (frame (pageB number kind body)) else none
theorem pageOk_iff {number kind : Int} {body : List Nat} (h : pageOk number kind body = true) : (1 ≤ kind ∧ kind ≤ 5) ∧ (0 ≤ number ∧ number ≤ 1023) ∧ body.length = 240 ∧ ∀ x ∈ body, x < 256 := by
  simp only [pageOk, Bool.and_eq_true, decide_eq_true_eq, List.all_eq_true] at h
  exact ⟨h.1.1.1, inB_yes h.1.1.2, h.1.2, h.2⟩
theorem pageOk_mk {number kind : Int} {body : List Nat} (h : (1 ≤ kind ∧ kind ≤ 5) ∧ (0 ≤ number ∧ number ≤ 1023) ∧ body.length = 240 ∧ ∀ x ∈ body, x < 256) : pageOk number kind body = true := by
  simp only [pageOk, Bool.and_eq_true, decide_eq_true_eq, List.all_eq_true]
  exact ⟨⟨⟨h.1, inB_mk h.2.1⟩, h.2.2.1⟩, h.2.2.2⟩
theorem pageB_len (number kind : Int) (body : List Nat) (h : body.length = 240) : (pageB number kind body).length = 252 := by simp [pageB, be_length, h]
theorem pageB_lt (number kind : Int) (body : List Nat) (h : ∀ x ∈ body, x < 256) : ∀ x ∈ pageB number kind body, x < 256 := by
  intro x hx
  simp only [pageB, List.mem_append] at hx
  rcases hx with hx | hx | hx | hx | hx
  · simp at hx; omega
  · exact be_lt _ _ x hx
  · exact be_lt _ _ x hx
  · simp at hx; omega
  · exact h x hx
theorem pageW_some {number kind : Int} {body l : List Nat} (h : pageW number kind body = some l) : l = frame (pageB number kind body) ∧ pageOk number kind body = true := by
  unfold pageW at h
  split at h
  · rename_i hok
    exact ⟨by injection h with h; exact h.symm, hok⟩
  · cases h
theorem pageW_len {number kind : Int} {body l : List Nat} (h : pageW number kind body = some l) : l.length = 256 := by
  obtain ⟨rfl, hok⟩ := pageW_some h
  exact frame_length _ (by rw [pageB_len _ _ _ (pageOk_iff hok).2.2.1]; omega)
/-- What a page's fields are read as. -/
def bodyOf (l : List Nat) : List Nat := (l.drop 12).take 240
theorem page_fields {number kind : Int} {body l : List Nat} (h : pageW number kind body = some l) : (num l 4 1 : Int) = kind ∧ (num l 5 4 : Int) = number ∧ bodyOf l = body ∧ l.getD 0 0 = 80 := by
  obtain ⟨hl, hok⟩ := pageW_some h
  obtain ⟨⟨k1, k2⟩, ⟨n1, n2⟩, hb, _⟩ := pageOk_iff hok
  obtain ⟨q, hq⟩ := frame_split (pageB number kind body)
  rw [hq] at hl
  clear hq h
  refine ⟨?_, ?_, ?_, ?_⟩
  · exact num_mid [80, 80, 65, 71] (be 4 number.toNat ++ ([0, 0, 0] ++ body) ++ q) l 4 1 kind (by rw [hl, pageB]; simp) rfl (by omega) (by omega)
  · exact num_mid ([80, 80, 65, 71] ++ be 1 kind.toNat) ([0, 0, 0] ++ body ++ q) l 5 4 number (by rw [hl, pageB]; simp) (by simp [be_length]) (by omega) (by omega)
  · rw [hl, pageB, bodyOf]
    have e : [80, 80, 65, 71] ++ (be 1 kind.toNat ++ (be 4 number.toNat ++ ([0, 0, 0] ++ body))) ++ q = ([80, 80, 65, 71] ++ (be 1 kind.toNat ++ (be 4 number.toNat ++ [0, 0, 0]))) ++ (body ++ q) := by simp
    rw [e, List.drop_append_of_le_length (by simp [be_length]), List.drop_of_length_le (by simp [be_length]), List.nil_append, ← hb, List.take_left]
  · rw [hl, pageB]; rfl
def zeros : List Nat := List.replicate 256 0
theorem zeros_len : zeros.length = 256 := List.length_replicate
theorem zeros_first : zeros.getD 0 0 = 0 := rfl
/-- What is read as the page of a number: its kind and its body; a page that was never written has none. -/
def pageR (l : List Nat) (number : Int) : Option (Int × List Nat) :=
  if l = zeros then some (0, []) else if pageW number (num l 4 1) (bodyOf l) = some l then some ((num l 4 1 : Int), bodyOf l) else none
theorem pageR_of {number kind : Int} {body l : List Nat} (h : pageW number kind body = some l) : pageR l number = some (kind, body) := by
  obtain ⟨h1, _, h2, h3⟩ := page_fields h
  rw [pageR, if_neg (fun e => by rw [e, zeros_first] at h3; omega), h1, h2, if_pos h]
theorem pageR_other {number kind other : Int} {body l : List Nat} (h : pageW number kind body = some l) (ho : other ≠ number) : pageR l other = none := by
  obtain ⟨h1, h4, h2, h3⟩ := page_fields h
  rw [pageR, if_neg (fun e => by rw [e, zeros_first] at h3; omega), if_neg (fun e => ?_)]
  obtain ⟨_, h5, _, _⟩ := page_fields e
  omega
theorem pageR_zero (number : Int) : pageR zeros number = some (0, []) := by rw [pageR, if_pos rfl]
theorem pageR_none (l : List Nat) (number : Int) (h : l.length ≠ 256) : pageR l number = none := by
  rw [pageR, if_neg (fun e => h (by rw [e, zeros_len])), if_neg (fun e => h (pageW_len e))]

/-! ### Images in a log -/
def imageOk (epoch seq number kind : Int) (body : List Nat) : Bool := pageOk number kind body && inB epoch 4294967295 && inB seq 1099511627775
def imageB (epoch seq number kind : Int) (body : List Nat) : List Nat := be 1 kind.toNat ++ (be 2 number.toNat ++ (be 4 epoch.toNat ++ (be 5 seq.toNat ++ body)))
def imageW (epoch seq number kind : Int) (body : List Nat) : Option (List Nat) := if imageOk epoch seq number kind body then some (frame (imageB epoch seq number kind body)) else none
theorem imageB_len (epoch seq number kind : Int) (body : List Nat) (h : body.length = 240) : (imageB epoch seq number kind body).length = 252 := by simp [imageB, be_length, h]
theorem imageB_lt (epoch seq number kind : Int) (body : List Nat) (h : ∀ x ∈ body, x < 256) : ∀ x ∈ imageB epoch seq number kind body, x < 256 := by
  intro x hx
  simp only [imageB, List.mem_append] at hx
  rcases hx with hx | hx | hx | hx | hx
  · exact be_lt _ _ x hx
  · exact be_lt _ _ x hx
  · exact be_lt _ _ x hx
  · exact be_lt _ _ x hx
  · exact h x hx
theorem imageW_some {epoch seq number kind : Int} {body l : List Nat} (h : imageW epoch seq number kind body = some l) : l = frame (imageB epoch seq number kind body) ∧ pageOk number kind body = true ∧ (0 ≤ epoch ∧ epoch ≤ 4294967295) ∧ (0 ≤ seq ∧ seq ≤ 1099511627775) := by
  unfold imageW at h
  split at h
  · rename_i hok
    simp only [imageOk, Bool.and_eq_true] at hok
    exact ⟨by injection h with h; exact h.symm, hok.1.1, inB_yes hok.1.2, inB_yes hok.2⟩
  · cases h
theorem imageW_len {epoch seq number kind : Int} {body l : List Nat} (h : imageW epoch seq number kind body = some l) : l.length = 256 := by
  obtain ⟨rfl, hok, _⟩ := imageW_some h
  exact frame_length _ (by rw [imageB_len _ _ _ _ _ (pageOk_iff hok).2.2.1]; omega)
theorem image_fields {epoch seq number kind : Int} {body l : List Nat} (h : imageW epoch seq number kind body = some l) : (num l 0 1 : Int) = kind ∧ (num l 1 2 : Int) = number ∧ (num l 3 4 : Int) = epoch ∧ (num l 7 5 : Int) = seq ∧ bodyOf l = body := by
  obtain ⟨hl, hok, he, hs⟩ := imageW_some h
  obtain ⟨⟨k1, k2⟩, ⟨n1, n2⟩, hb, _⟩ := pageOk_iff hok
  obtain ⟨q, hq⟩ := frame_split (imageB epoch seq number kind body)
  rw [hq] at hl
  clear hq h
  refine ⟨?_, ?_, ?_, ?_, ?_⟩
  · exact num_mid [] (be 2 number.toNat ++ (be 4 epoch.toNat ++ (be 5 seq.toNat ++ body)) ++ q) l 0 1 kind (by rw [hl, imageB]; simp) rfl (by omega) (by omega)
  · exact num_mid (be 1 kind.toNat) (be 4 epoch.toNat ++ (be 5 seq.toNat ++ body) ++ q) l 1 2 number (by rw [hl, imageB]; simp) (by simp [be_length]) (by omega) (by omega)
  · exact num_mid (be 1 kind.toNat ++ be 2 number.toNat) (be 5 seq.toNat ++ body ++ q) l 3 4 epoch (by rw [hl, imageB]; simp) (by simp [be_length]) (by omega) (by omega)
  · exact num_mid (be 1 kind.toNat ++ (be 2 number.toNat ++ be 4 epoch.toNat)) (body ++ q) l 7 5 seq (by rw [hl, imageB]; simp) (by simp [be_length]) (by omega) (by omega)
  · rw [hl, imageB, bodyOf]
    have e : be 1 kind.toNat ++ (be 2 number.toNat ++ (be 4 epoch.toNat ++ (be 5 seq.toNat ++ body))) ++ q = (be 1 kind.toNat ++ (be 2 number.toNat ++ (be 4 epoch.toNat ++ be 5 seq.toNat))) ++ (body ++ q) := by simp
    rw [e, List.drop_append_of_le_length (by simp [be_length]), List.drop_of_length_le (by simp [be_length]), List.nil_append, ← hb, List.take_left]
/-- What is read as an image: epoch, seq, number, kind, body. -/
def imageR (l : List Nat) : Option (Int × Int × Int × Int × List Nat) :=
  if imageW (num l 3 4) (num l 7 5) (num l 1 2) (num l 0 1) (bodyOf l) = some l then some ((num l 3 4 : Int), (num l 7 5 : Int), (num l 1 2 : Int), (num l 0 1 : Int), bodyOf l) else none
theorem imageR_of {epoch seq number kind : Int} {body l : List Nat} (h : imageW epoch seq number kind body = some l) : imageR l = some (epoch, seq, number, kind, body) := by
  obtain ⟨h1, h2, h3, h4, h5⟩ := image_fields h
  rw [imageR, h1, h2, h3, h4, h5, if_pos h]
theorem imageR_none (l : List Nat) (h : l.length ≠ 256) : imageR l = none := by
  rw [imageR, if_neg (fun e => h (imageW_len e))]

/-! ### Counts -/
def allB (s : List Int) (m : Int) : Bool := s.all fun n => inB n m
theorem allB_yes {s : List Int} {m : Int} (h : allB s m = true) (j : Nat) (hj : j < s.length) : 0 ≤ s.getD j 0 ∧ s.getD j 0 ≤ m := by
  refine inB_yes (List.all_eq_true.1 h _ ?_)
  rw [List.getD_eq_getElem?_getD, List.getElem?_eq_getElem hj]
  exact List.getElem_mem hj
theorem allB_mk {s : List Int} {m : Int} (n : Nat) (hn : s.length = n) (h : ∀ j, j < n → inB (s.getD j 0) m = true) : allB s m = true := by
  rw [allB, List.all_eq_true]
  intro x hx
  obtain ⟨i, hi, rfl⟩ := List.getElem_of_mem hx
  have := h i (by omega)
  simpa [List.getD_eq_getElem?_getD, hi] using this
theorem allB_no {s : List Int} {m : Int} (j : Nat) (hj : j < s.length) (h : inB (s.getD j 0) m = false) : allB s m = false := by
  have hm : s.getD j 0 ∈ s := by rw [List.getD_eq_getElem?_getD, List.getElem?_eq_getElem hj]; exact List.getElem_mem hj
  rw [allB, List.all_eq_false]
  exact ⟨_, hm, by rw [h]; simp⟩
/-- So many numbers of one width, read one behind the other from a place on. -/
def numsAt (l : List Nat) (a step k n : Nat) : List Int := (List.range n).map fun i => (num l (a + step * i) k : Int)
theorem numsAt_length (l : List Nat) (a step k n : Nat) : (numsAt l a step k n).length = n := by simp [numsAt]
theorem numsAt_succ (l : List Nat) (a step k n : Nat) : numsAt l a step k (n + 1) = numsAt l a step k n ++ [(num l (a + step * n) k : Int)] := by simp [numsAt, List.range_succ]
theorem numsAt_flat (pre post l : List Nat) (s : List Int) (k : Nat) (hl : l = pre ++ s.flatMap (fun n => be k n.toNat) ++ post) (hb : ∀ j, j < s.length → 0 ≤ s.getD j 0 ∧ (s.getD j 0).toNat < 256 ^ k) :
    numsAt l pre.length k k s.length = s := by
  apply List.ext_getElem (by rw [numsAt_length])
  intro i h1 h2
  rw [numsAt_length] at h1
  simp only [numsAt, List.getElem_map, List.getElem_range]
  have hb' := hb i h1
  rw [hl, num_flat pre post s k i h1 hb'.2]
  have : s.getD i 0 = s[i] := by simp [List.getD_eq_getElem?_getD, h2]
  rw [← this]
  omega
def countsW (s : List Int) : Option (List Nat) := if decide (s.length = 120) && allB s 1000 then some (s.flatMap fun n => be 2 n.toNat) else none
def countsR (l : List Nat) : Option (List Int) := if countsW (numsAt l 0 2 2 120) = some l then some (numsAt l 0 2 2 120) else none
end Go.Proofs.Ytagikgejhckfbaa.Codec
/- Records as bytes: heads, nodes, counts, catalogues. No program is named. -/
namespace Go.Proofs.Ytagikgejhckfbaa.Codec
open Go.RowKit CrcMath CodecMath

theorem num_midN (p q l : List Nat) (a k n : Nat) (hl : l = p ++ (be k n ++ q)) (ha : p.length = a) (h : n < 256 ^ k) : num l a k = n := by
  subst ha
  rw [hl, num_put _ _ _ _ h]
theorem countsW_some {s : List Int} {l : List Nat} (h : countsW s = some l) : l = s.flatMap (fun n => be 2 n.toNat) ∧ s.length = 120 ∧ allB s 1000 = true := by
  unfold countsW at h
  split at h
  · rename_i hok
    simp only [Bool.and_eq_true, decide_eq_true_eq] at hok
    exact ⟨by injection h with h; exact h.symm, hok⟩
  · cases h
theorem countsW_yes {s : List Int} (h1 : s.length = 120) (h2 : allB s 1000 = true) : countsW s = some (s.flatMap fun n => be 2 n.toNat) := by simp [countsW, h1, h2]
theorem countsW_short {s : List Int} (h1 : s.length ≠ 120) : countsW s = none := by simp [countsW, h1]
theorem countsW_no {s : List Int} (h2 : allB s 1000 = false) : countsW s = none := by simp [countsW, h2]
theorem countsR_of {s : List Int} {l : List Nat} (h : countsW s = some l) : countsR l = some s := by
  obtain ⟨hl, hn, hb⟩ := countsW_some h
  have hs : numsAt l 0 2 2 120 = s := by
    have := numsAt_flat [] [] l s 2 (by simpa using hl) (fun j hj => by have := allB_yes hb j hj; exact ⟨this.1, by omega⟩)
    rwa [hn] at this
  rw [countsR, hs, if_pos h]
theorem countsW_len {s : List Int} {l : List Nat} (h : countsW s = some l) : l.length = 240 := by
  obtain ⟨rfl, hn, _⟩ := countsW_some h
  rw [flat_len, hn]
theorem countsR_none (l : List Nat) (h : l.length ≠ 240) : countsR l = none := by rw [countsR, if_neg (fun e => h (countsW_len e))]

/-! ### Heads -/
def headOk (epoch seq : Int) (pages : List Int) : Bool := inB epoch 1099511627776 && inB seq 1099511627776 && (decide (1 ≤ pages.length) && decide (pages.length ≤ 40)) && allB pages 1023
def headP (epoch seq : Int) (pages : List Int) (sum : Nat) : List Nat := [80, 76, 79, 71] ++ (be 8 epoch.toNat ++ (be 8 seq.toNat ++ (be 4 sum ++ be 2 pages.length)))
def headB (epoch seq : Int) (pages : List Int) (sum : Nat) : List Nat := headP epoch seq pages sum ++ pages.flatMap fun n => be 4 n.toNat
def headW (epoch seq : Int) (pages : List Int) (sum : Nat) : Option (List Nat) := if headOk epoch seq pages then some (frame (headB epoch seq pages sum)) else none
theorem headP_len (epoch seq : Int) (pages : List Int) (sum : Nat) : (headP epoch seq pages sum).length = 26 := by simp [headP, be_length]
theorem headB_len (epoch seq : Int) (pages : List Int) (sum : Nat) : (headB epoch seq pages sum).length = 26 + 4 * pages.length := by rw [headB, List.length_append, headP_len, flat_len]
theorem headB_lt (epoch seq : Int) (pages : List Int) (sum : Nat) : ∀ x ∈ headB epoch seq pages sum, x < 256 := by
  intro x hx
  simp only [headB, headP, List.mem_append] at hx
  rcases hx with (hx | hx | hx | hx | hx) | hx
  · simp at hx; omega
  · exact be_lt _ _ x hx
  · exact be_lt _ _ x hx
  · exact be_lt _ _ x hx
  · exact be_lt _ _ x hx
  · exact flat_lt 4 pages x hx
theorem headOk_iff {epoch seq : Int} {pages : List Int} (h : headOk epoch seq pages = true) : (0 ≤ epoch ∧ epoch ≤ 1099511627776) ∧ (0 ≤ seq ∧ seq ≤ 1099511627776) ∧ 1 ≤ pages.length ∧ pages.length ≤ 40 ∧ allB pages 1023 = true := by
  simp only [headOk, Bool.and_eq_true, decide_eq_true_eq] at h
  exact ⟨inB_yes h.1.1.1, inB_yes h.1.1.2, h.1.2.1, h.1.2.2, h.2⟩
theorem headW_some {epoch seq : Int} {pages : List Int} {sum : Nat} {l : List Nat} (h : headW epoch seq pages sum = some l) : l = frame (headB epoch seq pages sum) ∧ headOk epoch seq pages = true := by
  unfold headW at h
  split at h
  · rename_i hok
    exact ⟨by injection h with h; exact h.symm, hok⟩
  · cases h
theorem headW_len {epoch seq : Int} {pages : List Int} {sum : Nat} {l : List Nat} (h : headW epoch seq pages sum = some l) : l.length = 256 := by
  obtain ⟨rfl, hok⟩ := headW_some h
  obtain ⟨_, _, _, h4, _⟩ := headOk_iff hok
  exact frame_length _ (by rw [headB_len]; omega)
theorem head_fields {epoch seq : Int} {pages : List Int} {sum : Nat} {l : List Nat} (hsum : sum < 4294967296) (h : headW epoch seq pages sum = some l) :
    wrap64 (num l 4 8 : Nat) = epoch ∧ wrap64 (num l 12 8 : Nat) = seq ∧ num l 20 4 = sum ∧ num l 24 2 = pages.length ∧ numsAt l 26 4 4 pages.length = pages := by
  obtain ⟨hl, hok⟩ := headW_some h
  obtain ⟨⟨e1, e2⟩, ⟨s1, s2⟩, n1, n2, hb⟩ := headOk_iff hok
  obtain ⟨q, hq⟩ := frame_split (headB epoch seq pages sum)
  rw [hq] at hl
  clear hq h
  refine ⟨?_, ?_, ?_, ?_, ?_⟩
  · have := num_mid [80, 76, 79, 71] (be 8 seq.toNat ++ (be 4 sum ++ be 2 pages.length) ++ pages.flatMap (fun n => be 4 n.toNat) ++ q) l 4 8 epoch (by rw [hl, headB, headP]; simp) rfl (by omega) (by omega)
    rw [this]; unfold wrap64; omega
  · have := num_mid ([80, 76, 79, 71] ++ be 8 epoch.toNat) ((be 4 sum ++ be 2 pages.length) ++ pages.flatMap (fun n => be 4 n.toNat) ++ q) l 12 8 seq (by rw [hl, headB, headP]; simp) (by simp [be_length]) (by omega) (by omega)
    rw [this]; unfold wrap64; omega
  · exact num_midN ([80, 76, 79, 71] ++ (be 8 epoch.toNat ++ be 8 seq.toNat)) (be 2 pages.length ++ pages.flatMap (fun n => be 4 n.toNat) ++ q) l 20 4 sum (by rw [hl, headB, headP]; simp) (by simp [be_length]) (by omega)
  · exact num_midN ([80, 76, 79, 71] ++ (be 8 epoch.toNat ++ (be 8 seq.toNat ++ be 4 sum))) (pages.flatMap (fun n => be 4 n.toNat) ++ q) l 24 2 pages.length (by rw [hl, headB, headP]; simp) (by simp [be_length]) (by omega)
  · have := numsAt_flat (headP epoch seq pages sum) q l pages 4 (by rw [hl, headB]) (fun j hj => by have := allB_yes hb j hj; exact ⟨this.1, by omega⟩)
    rwa [headP_len] at this
/-- What is read as a head: epoch, seq, pages, sum. -/
def headR (l : List Nat) : Option (Int × Int × List Int × Nat) :=
  if headW (wrap64 (num l 4 8 : Nat)) (wrap64 (num l 12 8 : Nat)) (numsAt l 26 4 4 (min (num l 24 2) 40)) (num l 20 4) = some l then some (wrap64 (num l 4 8 : Nat), wrap64 (num l 12 8 : Nat), numsAt l 26 4 4 (min (num l 24 2) 40), num l 20 4) else none
theorem headR_of {epoch seq : Int} {pages : List Int} {sum : Nat} {l : List Nat} (hsum : sum < 4294967296) (h : headW epoch seq pages sum = some l) : headR l = some (epoch, seq, pages, sum) := by
  obtain ⟨h1, h2, h3, h4, h5⟩ := head_fields hsum h
  obtain ⟨_, _, _, n2, _⟩ := headOk_iff (headW_some h).2
  rw [headR, h1, h2, h3, h4, Nat.min_eq_left n2, h5, if_pos h]
theorem headR_none (l : List Nat) (h : l.length ≠ 256) : headR l = none := by rw [headR, if_neg (fun e => h (headW_len e))]

/-! ### Nodes -/
/-- Pairs of numbers of two widths, one behind the other. -/
def pairsB (ks vs : List Int) (n : Nat) : List Nat := (List.range n).flatMap fun i => be 4 (ks.getD i 0).toNat ++ be 2 (vs.getD i 0).toNat
theorem pairsB_succ (ks vs : List Int) (n : Nat) : pairsB ks vs (n + 1) = pairsB ks vs n ++ (be 4 (ks.getD n 0).toNat ++ be 2 (vs.getD n 0).toNat) := by simp [pairsB, List.range_succ]
theorem pairsB_len (ks vs : List Int) (n : Nat) : (pairsB ks vs n).length = 6 * n := by
  induction n with
  | zero => rfl
  | succ n ih => rw [pairsB_succ, List.length_append, ih, List.length_append, be_length, be_length]; omega
theorem pairsB_lt (ks vs : List Int) (n : Nat) : ∀ x ∈ pairsB ks vs n, x < 256 := by
  intro x hx
  obtain ⟨i, _, hi⟩ := List.mem_flatMap.1 hx
  rcases List.mem_append.1 hi with hi | hi <;> exact be_lt _ _ x hi
theorem pairsB_split (ks vs : List Int) (n i : Nat) (h : i < n) : ∃ q, pairsB ks vs n = pairsB ks vs i ++ (be 4 (ks.getD i 0).toNat ++ (be 2 (vs.getD i 0).toNat ++ q)) := by
  induction n with
  | zero => omega
  | succ n ih =>
    by_cases e : i = n
    · subst e; exact ⟨[], by rw [pairsB_succ]; simp⟩
    · obtain ⟨q, hq⟩ := ih (by omega)
      exact ⟨q ++ (be 4 (ks.getD n 0).toNat ++ be 2 (vs.getD n 0).toNat), by rw [pairsB_succ, hq]; simp⟩
def nodeOk (ks vs : List Int) : Bool := decide (ks.length = vs.length) && decide (ks.length ≤ 8) && allB ks 1048575 && allB vs 1023
def nodeB (leaf : Bool) (ks vs : List Int) : List Nat := be 1 (if leaf then 1 else 0) ++ (be 1 ks.length ++ pairsB ks vs ks.length)
def nodeW (leaf : Bool) (ks vs : List Int) : Option (List Nat) := if nodeOk ks vs then some (fill (nodeB leaf ks vs) 240) else none
theorem nodeB_len (leaf : Bool) (ks vs : List Int) : (nodeB leaf ks vs).length = 2 + 6 * ks.length := by simp only [nodeB, List.length_append, be_length, pairsB_len]; omega
theorem nodeB_lt (leaf : Bool) (ks vs : List Int) : ∀ x ∈ nodeB leaf ks vs, x < 256 := by
  intro x hx
  simp only [nodeB, List.mem_append] at hx
  rcases hx with hx | hx | hx
  · exact be_lt _ _ x hx
  · exact be_lt _ _ x hx
  · exact pairsB_lt ks vs _ x hx
theorem nodeOk_iff {ks vs : List Int} (h : nodeOk ks vs = true) : ks.length = vs.length ∧ ks.length ≤ 8 ∧ allB ks 1048575 = true ∧ allB vs 1023 = true := by
  simp only [nodeOk, Bool.and_eq_true, decide_eq_true_eq] at h
  exact ⟨h.1.1.1, h.1.1.2, h.1.2, h.2⟩
theorem nodeW_some {leaf : Bool} {ks vs : List Int} {l : List Nat} (h : nodeW leaf ks vs = some l) : l = fill (nodeB leaf ks vs) 240 ∧ nodeOk ks vs = true := by
  unfold nodeW at h
  split at h
  · rename_i hok
    exact ⟨by injection h with h; exact h.symm, hok⟩
  · cases h
theorem nodeW_len {leaf : Bool} {ks vs : List Int} {l : List Nat} (h : nodeW leaf ks vs = some l) : l.length = 240 := by
  obtain ⟨rfl, hok⟩ := nodeW_some h
  obtain ⟨_, h2, _⟩ := nodeOk_iff hok
  exact fill_length _ _ (by rw [nodeB_len]; omega)
theorem node_fields {leaf : Bool} {ks vs : List Int} {l : List Nat} (h : nodeW leaf ks vs = some l) :
    decide (num l 0 1 = 1) = leaf ∧ num l 1 1 = ks.length ∧ numsAt l 2 6 4 ks.length = ks ∧ numsAt l 6 6 2 ks.length = vs := by
  obtain ⟨hl, hok⟩ := nodeW_some h
  obtain ⟨h1, h2, hk, hv⟩ := nodeOk_iff hok
  have hq : l = nodeB leaf ks vs ++ List.replicate (240 - (nodeB leaf ks vs).length) 0 := hl
  generalize List.replicate (240 - (nodeB leaf ks vs).length) 0 = q at hq
  clear hl h
  have hki : ∀ i, i < ks.length → ∃ r, l = (be 1 (if leaf then 1 else 0) ++ (be 1 ks.length ++ pairsB ks vs i)) ++ (be 4 (ks.getD i 0).toNat ++ (be 2 (vs.getD i 0).toNat ++ r)) := by
    intro i hi
    obtain ⟨r, hr⟩ := pairsB_split ks vs ks.length i hi
    exact ⟨r ++ q, by rw [hq, nodeB, hr]; simp⟩
  refine ⟨?_, ?_, ?_, ?_⟩
  · have e : num l 0 1 = if leaf then 1 else 0 := num_midN [] (be 1 ks.length ++ pairsB ks vs ks.length ++ q) l 0 1 _ (by rw [hq, nodeB]; simp) rfl (by cases leaf <;> decide)
    rw [e]
    cases leaf <;> rfl
  · exact num_midN (be 1 (if leaf then 1 else 0)) (pairsB ks vs ks.length ++ q) l 1 1 _ (by rw [hq, nodeB]; simp) (by rw [be_length]) (by omega)
  · apply List.ext_getElem (by rw [numsAt_length])
    intro i hi1 hi2
    rw [numsAt_length] at hi1
    simp only [numsAt, List.getElem_map, List.getElem_range]
    obtain ⟨r, hr⟩ := hki i hi1
    have hb := allB_yes hk i hi1
    have hg : ks.getD i 0 = ks[i] := by simp [List.getD_eq_getElem?_getD, hi2]
    rw [← hg]
    exact num_mid (be 1 (if leaf then 1 else 0) ++ (be 1 ks.length ++ pairsB ks vs i)) (be 2 (vs.getD i 0).toNat ++ r) l (2 + 6 * i) 4 _ hr (by simp only [List.length_append, be_length, pairsB_len]; omega) hb.1 (by omega)
  · apply List.ext_getElem (by rw [numsAt_length]; exact h1)
    intro i hi1 hi2
    rw [numsAt_length] at hi1
    simp only [numsAt, List.getElem_map, List.getElem_range]
    obtain ⟨r, hr⟩ := hki i hi1
    have hb := allB_yes hv i hi2
    have hg : vs.getD i 0 = vs[i] := by simp [List.getD_eq_getElem?_getD, hi2]
    rw [← hg]
    refine num_mid (be 1 (if leaf then 1 else 0) ++ (be 1 ks.length ++ pairsB ks vs i) ++ be 4 (ks.getD i 0).toNat) r l (6 + 6 * i) 2 _ (by rw [hr]; simp) (by simp only [List.length_append, be_length, pairsB_len]; omega) hb.1 (by omega)
/-- What is read as a node: leaf, keys, values. -/
def nodeR (l : List Nat) : Option (Bool × List Int × List Int) :=
  if nodeW (decide (num l 0 1 = 1)) (numsAt l 2 6 4 (min (num l 1 1) 8)) (numsAt l 6 6 2 (min (num l 1 1) 8)) = some l then some (decide (num l 0 1 = 1), numsAt l 2 6 4 (min (num l 1 1) 8), numsAt l 6 6 2 (min (num l 1 1) 8)) else none
theorem nodeR_of {leaf : Bool} {ks vs : List Int} {l : List Nat} (h : nodeW leaf ks vs = some l) : nodeR l = some (leaf, ks, vs) := by
  obtain ⟨h1, h2, h3, h4⟩ := node_fields h
  obtain ⟨_, n2, _⟩ := nodeOk_iff (nodeW_some h).2
  rw [nodeR, h1, h2, Nat.min_eq_left n2, h3, h4, if_pos h]
theorem nodeR_none (l : List Nat) (h : l.length ≠ 240) : nodeR l = none := by rw [nodeR, if_neg (fun e => h (nodeW_len e))]
end Go.Proofs.Ytagikgejhckfbaa.Codec
/- A struct that came in, opened to its cells; slices of whole numbers. No program's function is named. -/
namespace Go.Proofs.Ytagikgejhckfbaa.Codec
open Go.ChangeShapes Go.WideShapes Go.RowKit CrcMath Mem Crc

section
variable {H : Type} {enc : TypeId × Value → H} {P : Program} {w : World} {base : Nat} {spare : Nat → Bool} {held : Bool}
/-- A struct by value: its cells, and each field's own reading. -/
theorem open_agg {r : Reach} {b0 : Nat} {t : TypeId} {fs : Array Field} {v : Value} {d : DataW H} {p : List MemPlace} (hs : P.underlying t = some (.struct fs))
    (hv : Value.okWide P w r b0 t v) (h : DataW.Trod enc P w base spare held t v d p) :
    ∃ (cs : List Value) (n : Nat), v = .agg cs.toArray ∧ cs.length = P.cellsOf t ∧
      ∀ (i o : Nat) (ft : TypeId), (fs[i]?).map (fun f => (f.offset, f.type)) = some (o, ft) → ∃ y, DataW.trod enc P w base spare held n ft ((cs.drop o).take (P.cellsOf ft)) = some y := by
  obtain ⟨cs, rfl, hsz⟩ := okWide_struct hs hv
  obtain ⟨fuel, hf⟩ := h
  obtain ⟨xs, n, _, _, _, hlen, hg⟩ := DataW.trod_struct hs hf
  refine ⟨cs.toList, n, by simp, by simpa using hsz, fun i o ft hi' => ?_⟩
  obtain ⟨f, hi, hf'⟩ := Option.map_eq_some_iff.1 hi'
  simp only [Prod.mk.injEq] at hf'
  obtain ⟨rfl, rfl⟩ := hf'
  have hlt : i < fs.size := (Array.getElem?_eq_some_iff.1 hi).1
  refine ⟨xs[i]'(by omega), ?_⟩
  have h1 := hg i f hi
  rw [List.getElem?_eq_getElem (by omega)] at h1
  simpa [Value.cells] using h1
/-- A struct that stands in cells: each field's own reading. -/
theorem open_struct {t : TypeId} {fs : Array Field} {fuel : Nat} {cs : List Value} {x : DataW H × List MemPlace} (hs : P.underlying t = some (.struct fs)) (h : DataW.trod enc P w base spare held fuel t cs = some x) :
    ∃ n : Nat, cs.length = P.cellsOf t ∧ ∀ (i o : Nat) (ft : TypeId), (fs[i]?).map (fun f => (f.offset, f.type)) = some (o, ft) → ∃ y, DataW.trod enc P w base spare held n ft ((cs.drop o).take (P.cellsOf ft)) = some y := by
  obtain ⟨xs, n, _, _, hl, hlen, hg⟩ := DataW.trod_struct hs h
  refine ⟨n, hl, fun i o ft hi' => ?_⟩
  obtain ⟨f, hi, hf'⟩ := Option.map_eq_some_iff.1 hi'
  simp only [Prod.mk.injEq] at hf'
  obtain ⟨rfl, rfl⟩ := hf'
  have hlt : i < fs.size := (Array.getElem?_eq_some_iff.1 hi).1
  refine ⟨xs[i]'(by omega), ?_⟩
  have h1 := hg i f hi
  rwa [List.getElem?_eq_getElem (by omega)] at h1
end

/-- A slice of whole numbers that lies outside block b (m cells from its first one on) and reads as the numbers l. -/
def Ints (w : World) (b : Nat) (A : Option Addr) (m : Nat) (l : List Int) : Prop :=
  l.length = m ∧ (∀ x ∈ l, -9223372036854775808 ≤ x ∧ x ≤ 9223372036854775807) ∧ (0 < m → ∃ g o, A = some ⟨g, o, none⟩ ∧ g < w.heap.size ∧ g ≠ b ∧ ∀ j, j < m → w.cell? ⟨g, o + j, none⟩ = some (.int .i64 (l.getD j 0)))
theorem ints_keep {w w' : World} {b m : Nat} {A : Option Addr} {l : List Int} (h : Ints w b A m l) {row : Option Nat} (hg : w.grownBy w' row) (hr : row = none ∨ row = some b) : Ints w' b A m l := by
  refine ⟨h.1, h.2.1, fun hn => ?_⟩
  obtain ⟨g, o, e, hlt, hne, hc⟩ := h.2.2 hn
  refine ⟨g, o, e, Nat.lt_of_lt_of_le hlt hg.size, hne, fun j hj => ?_⟩
  rw [World.cell?_of_block (a := ⟨g, o + j, none⟩) (hg.block g hlt (by rcases hr with h | h <;> subst h <;> first | (simp; done) | (simpa using hne)))]
  exact hc j hj
theorem ints_none (w : World) (b : Nat) (A : Option Addr) : Ints w b A 0 [] := ⟨rfl, by simp, by omega⟩

/-- A slice of bytes in cells that came in. -/
theorem open_bytes_in {H : Type} {enc : TypeId × Value → H} {w : World} {fuel : Nat} {cs : List Value} {x : DataW H × List MemPlace} (h : DataW.trod enc Try.prog w 0 (fun _ => true) true fuel 39 cs = some x) :
    ∃ A n c l, cs = [.slice A n c] ∧ Bytes w w.heap.size A n l ∧ n ≤ c ∧ c ≤ maxLen := by
  rcases open_ints Try.underlying39 Try.underlying5 (by kernel_rfl) h with ⟨hcs, _⟩ | ⟨x, l, c, zs, hcs, _, hl, hm, hz, hx, hcell, hwz⟩
  · exact ⟨_, _, _, [], hcs, Bytes.none_ _ _ _, Nat.le_refl _, by simp [maxLen]⟩
  · have hz' : zs.length = c := by simpa using hz
    obtain ⟨bl, hbl, _⟩ := bytes_of_row (w := w) (.inr ⟨x, rfl, hl, hm, hz', hcell, hwz⟩)
    exact ⟨_, _, _, bl, hcs, hbl, hl, hm⟩
/-- A slice of whole numbers in cells that came in. -/
theorem open_ints_in {H : Type} {enc : TypeId × Value → H} {w : World} {fuel : Nat} {cs : List Value} {x : DataW H × List MemPlace} (h : DataW.trod enc Try.prog w 0 (fun _ => true) true fuel 29 cs = some x) :
    ∃ A n c l, cs = [.slice A n c] ∧ Ints w w.heap.size A n l ∧ n ≤ c ∧ c ≤ maxLen := by
  rcases open_ints Try.underlying29 Try.underlying3 (by kernel_rfl) h with ⟨hcs, _⟩ | ⟨x, l, c, zs, hcs, _, hl, hm, hz, hx, hcell, hwz⟩
  · exact ⟨_, _, _, [], hcs, ints_none _ _ _, Nat.le_refl _, by simp [maxLen]⟩
  · have hz' : zs.length = c := by simpa using hz
    refine ⟨_, _, _, zs.take l, hcs, ⟨by simp; omega, fun y hy => bounds_i64 (hwz y (List.mem_of_mem_take hy)), fun hn => ?_⟩, hl, hm⟩
    obtain ⟨g, o, sp⟩ := x
    have h0 := hcell 0 (by omega)
    have hsp : sp = none := by simpa [Addr.add] using World.cell?_spot h0
    subst hsp
    have hlt : g < w.heap.size := by have := World.block_lt_of_cell? w _ h0; simpa [Addr.add] using this
    refine ⟨g, o, rfl, hlt, by omega, fun j hj => ?_⟩
    have h1 := hcell j (by omega)
    have e1 : (⟨g, o, none⟩ : Addr).add j = ⟨g, o + j, none⟩ := by unfold Addr.add; split <;> simp_all
    rw [e1] at h1
    rw [h1]
    congr 2
    simp [List.getD_eq_getElem?_getD, hj]
theorem open_int_in {H : Type} {enc : TypeId × Value → H} {w : World} {fuel : Nat} {cs : List Value} {x : DataW H × List MemPlace} (h : DataW.trod enc Try.prog w 0 (fun _ => true) true fuel 3 cs = some x) :
    ∃ n, cs = [.int .i64 n] ∧ -9223372036854775808 ≤ n ∧ n ≤ 9223372036854775807 := by
  obtain ⟨n, h1, _, h2⟩ := DataW.trod_int Try.underlying3 h
  exact ⟨n, h1, bounds_i64 h2⟩

set_option maxRecDepth 100000 in
/-- A superblock that came in. -/
theorem open_super {H : Type} {enc : TypeId × Value → H} {W : World} {base : Nat} {v : Value} {d : DataW H} {p : List MemPlace} (o : Value.okWide Try.prog W .any base 23 v) (h : DataW.Trod enc Try.prog W 0 (fun _ => true) true 23 v d p) :
    ∃ a0 a1 a2 a3 a4 a5 a6 : Int, v = .agg #[.int .i64 a0, .int .i64 a1, .int .i64 a2, .int .i64 a3, .int .i64 a4, .int .i64 a5, .int .i64 a6] := by
  obtain ⟨cs, n, rfl, hl, hf⟩ := open_agg Try.underlying23 o h
  rw [show Try.prog.cellsOf 23 = 7 from by kernel_rfl] at hl
  match cs, hl with
  | [c0, c1, c2, c3, c4, c5, c6], _ =>
    have k1 : Try.prog.cellsOf 3 = 1 := by kernel_rfl
    obtain ⟨_, h0⟩ := hf 0 0 3 rfl
    obtain ⟨_, h1⟩ := hf 1 1 3 rfl
    obtain ⟨_, h2⟩ := hf 2 2 3 rfl
    obtain ⟨_, h3⟩ := hf 3 3 3 rfl
    obtain ⟨_, h4⟩ := hf 4 4 3 rfl
    obtain ⟨_, h5⟩ := hf 5 5 3 rfl
    obtain ⟨_, h6⟩ := hf 6 6 3 rfl
    rw [k1] at h0 h1 h2 h3 h4 h5 h6
    obtain ⟨a0, e0, _⟩ := open_int_in h0
    obtain ⟨a1, e1, _⟩ := open_int_in h1
    obtain ⟨a2, e2, _⟩ := open_int_in h2
    obtain ⟨a3, e3, _⟩ := open_int_in h3
    obtain ⟨a4, e4, _⟩ := open_int_in h4
    obtain ⟨a5, e5, _⟩ := open_int_in h5
    obtain ⟨a6, e6, _⟩ := open_int_in h6
    simp at e0 e1 e2 e3 e4 e5 e6
    subst e0 e1 e2 e3 e4 e5 e6
    exact ⟨a0, a1, a2, a3, a4, a5, a6, rfl⟩
end Go.Proofs.Ytagikgejhckfbaa.Codec
/- The walks over the document's own answer for counts: PutCounts, GetCounts. -/
namespace Go.Proofs.Ytagikgejhckfbaa.Codec
open Go.RowKit CrcMath CodecMath Mem Crc

/-- Whole numbers as cells. -/
def i64s (l : List Int) : List Value := l.map fun x => .int .i64 x
theorem i64s_length (l : List Int) : (i64s l).length = l.length := by simp [i64s]
theorem i64s_append (l l' : List Int) : i64s (l ++ l') = i64s l ++ i64s l' := by simp [i64s]
theorem i64s_at (l : List Int) (j : Nat) (h : j < l.length) : (i64s l)[j]? = some (.int .i64 (l.getD j 0)) := by simp [i64s, List.getD_eq_getElem?_getD, h]
theorem int_info : (Try.prog.info? 3).map (fun i => (i.zero, i.size, i.bytes)) = some (some (.int .i64 0), 1, 8) := by kernel_rfl
theorem reads_one_int (w : World) (x : Value) : Reads (w.alloc (.cells #[x] 3)) (w.heap.size + 1) 1 (some ⟨w.heap.size, 0, none⟩) 1 [x] := by
  refine ⟨rfl, fun _ => ⟨_, rfl, by simp, fun j u hu => ?_⟩⟩
  match j with
  | 0 => simpa [Addr.add] using hu
  | j + 1 => simp at hu
theorem own_ints {w : World} {base n : Nat} {v : Value} {l : List Int} (h : Own w base 3 1 v n (i64s l)) (hl : ∀ x ∈ l, -9223372036854775808 ≤ x ∧ x ≤ 9223372036854775807) :
    ∃ A cap, v = .slice A n cap ∧ Ints w w.heap.size A n l ∧ n ≤ cap ∧ cap ≤ maxLen := by
  have hlen := h.len
  rw [i64s_length, Nat.mul_one] at hlen
  by_cases h0 : n = 0
  · subst h0
    obtain ⟨A, cap, hv, h1, h2, _⟩ := h.shape
    obtain rfl : l = [] := List.eq_nil_of_length_eq_zero hlen
    exact ⟨A, cap, hv, ints_none _ _ _, h1, h2⟩
  · obtain ⟨g, cap, hv, _, hlt, h1, h2, hc⟩ := h.reads (by omega)
    refine ⟨_, cap, hv, ⟨hlen, hl, fun _ => ⟨g, 0, rfl, hlt, by omega, fun j hj => ?_⟩⟩, h1, h2⟩
    rw [Nat.zero_add]
    exact hc j _ (i64s_at l j (by omega))
/-- What a call that reads a list of numbers leaves. -/
def ToldInts (w : World) (o : Option (List Int)) (e : Ending) (w' : World) : Prop :=
  w.grownBy w' none ∧ ((∃ s v', o = some s ∧ e = .returned (.tuple #[v', .bool true]) ∧ Own w' w.heap.size 3 1 v' s.length (i64s s) ∧ ∀ x ∈ s, -9223372036854775808 ≤ x ∧ x ≤ 9223372036854775807) ∨ (o = none ∧ e = .returned (.tuple #[.slice none 0 0, .bool false])))

theorem num_small (l : List Nat) (a k : Nat) (h : ∀ x ∈ l, x < 256) (hk : k ≤ 7) : wrap64 (num l a k : Nat) = (num l a k : Nat) ∧ num l a k < 72057594037927936 := by
  have h1 := num_lt l a k h
  have h2 : 256 ^ k ≤ 256 ^ 7 := Nat.pow_le_pow_right (by omega) hk
  have h3 : (256 : Nat) ^ 7 = 72057594037927936 := by decide
  exact ⟨wrap64_of (by omega), by omega⟩
theorem nums_range (l : List Nat) (a step k n : Nat) (h : ∀ x ∈ l, x < 256) (hk : k ≤ 7) : ∀ x ∈ numsAt l a step k n, -9223372036854775808 ≤ x ∧ x ≤ 9223372036854775807 := by
  intro x hx
  obtain ⟨i, _, rfl⟩ := List.mem_map.1 hx
  have := (num_small l (a + step * i) k h hk).2
  omega

end Go.Proofs.Ytagikgejhckfbaa.Codec
/- The walks over the project's small functions for records: within, allWithin, seal, openSector, openBody, comesBack, mark, readAll, neverWritten. -/
namespace Go.Proofs.Ytagikgejhckfbaa.Codec
open Go.RowKit CrcMath CodecMath Mem Crc

set_option maxHeartbeats 400000 in
theorem within_any (n m : Int) (w : World) : Calls Try.prog 49 #[.int .i64 n, .int .i64 m] w fun e w' => e = .returned (.bool (inB n m)) ∧ w = w' := by
  by_cases h : 0 ≤ n
  · have hi : inB n m = decide (n ≤ m) := by simp [inB, h]
    have HI := Lib.hid hi; clear hi
    go_enter Try.func49, Try.ntmps49
    go_wp2
    go_ret
    exact ⟨by rw [HI.out]; rfl, rfl⟩
  · have hi : inB n m = false := by simp [inB, h]
    have HI := Lib.hid hi; clear hi
    have hd : decide (0 ≤ n) = false := by simp; omega
    go_enter Try.func49, Try.ntmps49
    go_wp2
    go_ret
    exact ⟨by rw [HI.out]; rfl, rfl⟩

set_option maxRecDepth 100000 in
set_option maxHeartbeats 800000 in
theorem allwithin_cells (A : Option Addr) (n c : Nat) (l : List Int) (m : Int) (w : World) (hlen : l.length = n) (hl : 0 < n → ∃ g o, A = some ⟨g, o, none⟩ ∧ ∀ j, j < n → w.cell? ⟨g, o + j, none⟩ = some (.int .i64 (l.getD j 0))) (hn : n ≤ 9223372036854775807) :
    Calls Try.prog 37 #[.slice A n c, .int .i64 m] w fun e w' => e = .returned (.bool (allB l m)) ∧ w = w' := by
  have HLEN := Lib.hid hlen; have HL := Lib.hid hl; clear hlen hl
  go_enter Try.func37, Try.ntmps37
  go_wp2_with fail
  go_loop [6, 9] (fun _ i => ∃ j : Nat, j ≤ n ∧ i = .int .i64 j ∧ (∀ q, q < j → inB (l.getD q 0) m = true)) (fun _ i => n - (intOf i).toNat)
  case atStart => exact ⟨0, by omega, rfl, fun q hq => by omega⟩
  case round =>
    obtain ⟨j, hj, rfl, hin⟩ := hrel
    have HIN := Lib.hid hin; clear hin
    by_cases hlt : j < n
    · obtain ⟨g, o, rfl, hc⟩ := HL.out (by omega)
      have hcj := hc j hlt
      clear hc
      cases hib : inB (l.getD j 0) m with
      | false =>
        have HNO := Lib.hid (allB_no j (by rw [HLEN.out]; exact hlt) hib)
        generalize l.getD j 0 = x at *
        have HIB := Lib.hid hib; clear hib
        go_wp2_with fail
        refine (within_any x _ _).mono ?_
        rintro e w2 ⟨rfl, rfl⟩
        rw [HIB.out]
        go_wp2
        go_ret
        exact ⟨by rw [HNO.out]; rfl, rfl⟩
      | true =>
        have hin' : ∀ q, q < j + 1 → inB (l.getD q 0) m = true := by
          intro q hq
          by_cases e : q = j
          · subst e; exact hib
          · exact HIN.out q (by omega)
        have HIN' := Lib.hid hin'; clear hin'
        generalize l.getD j 0 = x at *
        have HIB := Lib.hid hib; clear hib
        go_wp2_with fail
        refine (within_any x _ _).mono ?_
        rintro e w2 ⟨rfl, rfl⟩
        rw [HIB.out]
        go_wp2
        go_round
        case rel => exact ⟨j + 1, by omega, by go_num, HIN'.out⟩
        case measure => simp [intOf]; omega
    · obtain rfl : j = n := by omega
      have HY := Lib.hid (allB_mk j HLEN.out HIN.out)
      go_wp2
      go_ret
      exact ⟨by rw [HY.out]; rfl, rfl⟩

theorem allwithin_any (b : Nat) (A : Option Addr) (n c : Nat) (l : List Int) (m : Int) (w : World) (hl : Ints w b A n l) (hn : n ≤ 9223372036854775807) :
    Calls Try.prog 37 #[.slice A n c, .int .i64 m] w fun e w' => e = .returned (.bool (allB l m)) ∧ w = w' :=
  allwithin_cells A n c l m w hl.1 (fun h => by obtain ⟨g, o, e, _, _, hc⟩ := hl.2.2 h; exact ⟨g, o, e, hc⟩) hn

theorem strs_eq (l l2 : List Nat) (h : ∀ x ∈ l, x < 256) (h2 : ∀ x ∈ l2, x < 256) : ((strOfNums (l.map fun x : Nat => (x : Int))).toList == (strOfNums (l2.map fun x : Nat => (x : Int))).toList) = decide (l = l2) := by
  have e : ∀ q : List Nat, (strOfNums (q.map fun x : Nat => (x : Int))).toList = q.map UInt8.ofNat := by
    intro q
    rw [Lib.strOfNums_toList, Lib.bytesOf, List.map_map]
    rfl
  rw [e, e, Bool.eq_iff_iff]
  simp only [beq_iff_eq, decide_eq_true_eq]
  refine ⟨fun hh => ?_, fun hh => by rw [hh]⟩
  have h3 := congrArg (List.map UInt8.toNat) hh
  rw [List.map_map, List.map_map] at h3
  have e2 : ∀ q : List Nat, (∀ x ∈ q, x < 256) → q.map (UInt8.toNat ∘ UInt8.ofNat) = q := by
    intro q hq
    conv => rhs; rw [← List.map_id q]
    refine List.map_congr_left fun x hx => ?_
    simp [Nat.mod_eq_of_lt (hq x hx)]
  rwa [e2 l h, e2 l2 h2] at h3
theorem run_str {w : World} {b n : Nat} {A : Option Addr} {l : List Nat} (h : Bytes w b A n l) (c : Nat) : (convert 39 9 (.slice A n c)).run Try.prog w = .ok (.string (strOfNums (l.map fun x : Nat => (x : Int)))) w := by
  by_cases h0 : n = 0
  · subst h0
    obtain rfl : l = [] := List.eq_nil_of_length_eq_zero h.1
    rw [run_convert_bytes_string w 39 9 5 _ 0 c Try.underlying39 Try.underlying5 Try.underlying9]
    cases A <;> simp [Conv.bytesToString, loadCells]
    all_goals rfl
  · obtain ⟨g, o, rfl, _, _, hc⟩ := h.2.2 (by omega)
    refine run_convert_bytes_arg (P := Try.prog) w 39 5 Try.underlying39 Try.underlying5 g o n c _ (by rw [List.length_map, h.1]) (fun i hi => ?_) _ Try.underlying9
    rw [hc i hi]
    have : i < l.length := by rw [h.1]; exact hi
    simp [List.getD_eq_getElem?_getD, this]
set_option maxRecDepth 100000 in
set_option maxHeartbeats 800000 in
theorem equal_any (b b2 : Nat) (A A2 : Option Addr) (n n2 c c2 : Nat) (l l2 : List Nat) (w : World) (hl : Bytes w b A n l) (hl2 : Bytes w b2 A2 n2 l2) :
    Calls Try.prog 54 #[.slice A n c, .slice A2 n2 c2] w fun e w' => e = .returned (.bool (decide (l = l2))) ∧ w = w' := by
  have k1 := run_str hl c
  have k2 := run_str hl2 c2
  have HE := Lib.hid (strs_eq l l2 hl.2.1 hl2.2.1)
  clear hl hl2
  go_enter Try.func54, Try.ntmps54
  go_wp2
  go_ret
  exact ⟨by rw [← HE.out]; rfl, rfl⟩
set_option maxRecDepth 100000 in
set_option maxHeartbeats 800000 in
theorem comesback_any (b b2 : Nat) (A A2 : Option Addr) (n n2 c c2 : Nat) (l l2 : List Nat) (w : World) (hl : Bytes w b A n l) (hl2 : Bytes w b2 A2 n2 l2) :
    Calls Try.prog 46 #[.slice A n c, .slice A2 n2 c2, .int .i64 0] w fun e w' => e = .returned (.bool (decide (l = l2))) ∧ w = w' := by
  have HL := Lib.hid hl; have HL2 := Lib.hid hl2; clear hl hl2
  generalize hd : decide (l = l2) = d at *
  have HD := Lib.hid hd; clear hd
  go_enter Try.func46, Try.ntmps46
  go_wp2_with fail
  refine (equal_any b b2 A A2 n n2 c c2 l l2 _ HL.out HL2.out).mono ?_
  rintro e w1 ⟨rfl, rfl⟩
  rw [HD.out]
  go_wp2
  go_ret
  exact ⟨rfl, rfl⟩
set_option maxRecDepth 100000 in
theorem comesback_err (A A2 : Option Addr) (n n2 c c2 : Nat) (w : World) :
    Calls Try.prog 46 #[.slice A n c, .slice A2 n2 c2, .int .i64 1] w fun e w' => e = .returned (.bool false) ∧ w = w' := by
  go_enter Try.func46, Try.ntmps46
  go_wp2
  go_ret
  exact ⟨rfl, rfl⟩
end Go.Proofs.Ytagikgejhckfbaa.Codec
/- The walk over eightTimes: eight bits' steps. -/
namespace Go.Proofs.Ytagikgejhckfbaa.Crc
open Go.RowKit CrcMath

theorem low_and {x : Nat} (hx : x < 4294967296) : bits BinOp.and IntKind.u32 (↑x) 1 = ((x % 2 : Nat) : Int) := by
  rw [show (1 : Int) = ((1 : Nat) : Int) from rfl, u32_and_nat x 1 hx (by omega), nat_mask1]
theorem L_odd {x : Nat} (hx : x < 4294967296) (h : (bits BinOp.and IntKind.u32 (↑x) 1 == 1) = true) : bits BinOp.xor IntKind.u32 (↑x / 2) 2197175160 = ((L x : Nat) : Int) := by
  rw [low_and hx] at h
  have h1 : x % 2 = 1 := by simp at h; omega
  rw [show (↑x / 2 : Int) = ((x / 2 : Nat) : Int) from by omega, show (2197175160 : Int) = ((2197175160 : Nat) : Int) from rfl, u32_xor_nat _ _ (by omega) (by omega)]
  simp [L, h1]
theorem L_even {x : Nat} (hx : x < 4294967296) (h : (bits BinOp.and IntKind.u32 (↑x) 1 == 1) = false) : (↑x / 2 : Int) = ((L x : Nat) : Int) := by
  rw [low_and hx] at h
  have h1 : ¬ x % 2 = 1 := by simp at h; omega
  simp [L, h1]

set_option maxHeartbeats 400000 in
theorem eight_any (x : Nat) (w : World) (hx : x < 4294967296) :
    Calls Try.prog 76 #[.int .u32 x] w fun e w' => e = .returned (.int .u32 (Lk 8 x : Nat)) ∧ w' = w := by
  go_enter Try.func76, Try.ntmps76
  go_wp2
  go_loop [0, 4] (fun n i => ∃ k : Nat, k ≤ 8 ∧ i = .int .i64 k ∧ n = .int .u32 (Lk k x : Nat)) (fun _ i => 8 - (intOf i).toNat)
  case atStart => exact ⟨0, by omega, rfl, rfl⟩
  case round =>
    obtain ⟨k, hk, rfl, rfl⟩ := hrel
    have hb := Lk_lt hx k
    have ho := L_odd hb
    have he := L_even hb
    have HO := Lib.hid ho; have HE := Lib.hid he; clear ho he
    go_wp2
    · have h1 := HO.out (by assumption)
      go_round
      case rel => exact ⟨k + 1, by omega, by go_num, by rw [h1]; rfl⟩
      case measure => simp [intOf]; omega
    · have h1 := HE.out (by assumption)
      go_round
      case rel => exact ⟨k + 1, by omega, by go_num, by rw [h1]; rfl⟩
      case measure => simp [intOf]; omega
    · obtain rfl : k = 8 := by omega
      go_ret
      exact ⟨rfl, rfl⟩
end Go.Proofs.Ytagikgejhckfbaa.Crc
/- The walk over fill: the table's 256 numbers are laid into the object's own block, and nothing else is turned. -/
namespace Go.Proofs.Ytagikgejhckfbaa.Crc
open Go.RowKit CrcMath Mem

/-- The cells when the first k numbers are laid. -/
def laid (cs : Array Value) : Nat → Array Value
  | 0 => cs
  | k + 1 => (laid cs k).setIfInBounds (3 + k) (.int .u32 (Lk 8 k : Nat))
theorem laid_size (cs : Array Value) (k : Nat) : (laid cs k).size = cs.size := by
  induction k with
  | zero => rfl
  | succ k ih => simpa [laid] using ih
theorem laid_low (cs : Array Value) (k j : Nat) (h : j < 3) : (laid cs k)[j]? = cs[j]? := by
  induction k with
  | zero => rfl
  | succ k ih => rw [laid, Array.getElem?_setIfInBounds_ne (by omega)]; exact ih
theorem laid_at (cs : Array Value) (hcs : cs.size = 259) (k i : Nat) (hk : k ≤ 256) (h : i < k) : (laid cs k)[3 + i]? = some (.int .u32 (Lk 8 i : Nat)) := by
  induction k with
  | zero => omega
  | succ k ih =>
    rw [laid]
    by_cases hi : i = k
    · subst hi
      rw [Array.getElem?_setIfInBounds_self_of_lt (by rw [laid_size]; omega)]
    · rw [Array.getElem?_setIfInBounds_ne (by omega)]
      exact ih (by omega) (by omega)

set_option maxRecDepth 100000 in
set_option maxHeartbeats 800000 in
theorem fill_any (b : Nat) (cs : Array Value) (w : World) (hb : Blk w b 62 cs) (hcs : cs.size = 259) :
    Calls Try.prog 62 #[.pointer (some ⟨b, 0, none⟩)] w fun e w' => e = .returned (.tuple #[]) ∧ w.grownBy w' (some b) ∧ Blk w' b 62 (laid cs 256) := by
  go_enter Try.func62, Try.ntmps62
  go_wp2
  go_loopw [2, 3] (fun _ i wr => ∃ k : Nat, k ≤ 256 ∧ i = .int .i64 k ∧ w.grownBy wr (some b) ∧ Blk wr b 62 (laid cs k)) (fun _ i _ => 256 - (intOf i).toNat)
  case atStart => exact ⟨0, by omega, rfl, World.grownBy.refl _ _, hb⟩
  case round =>
    obtain ⟨k, hk, rfl, hg, hbk⟩ := hrel
    by_cases hlt : k < 256
    · have hc : wr.cell? ⟨b, 3 + k, none⟩ = some ((laid cs k)[3 + k]'(by rw [laid_size]; omega)) := by
        rw [hbk.cell]
        exact Array.getElem?_eq_getElem _
      have hf := hbk.frozen (3 + k)
      have hwr : IntKind.u32.wrap (k : Int) = k := by rw [IntKind.wrap_u32']; omega
      have h256 : (k : Int) < 256 := by omega
      have h0 : (0 : Int) ≤ k := by omega
      go_wp2_with fail
      go_region_with (go_at_call 76; refine (eight_any k _ (by omega)).mono ?_; rintro e w' ⟨rfl, rfl⟩)
      go_wp2
      go_roundw
      case rel => exact ⟨k + 1, by omega, by go_num, only_set (only_drew hg) _ _, hbk.set_ _ _⟩
      case measure => simp [intOf]; omega
    · go_wp2
      obtain rfl : k = 256 := by omega
      go_end0
      exact ⟨rfl, hg, hbk⟩
end Go.Proofs.Ytagikgejhckfbaa.Crc
/- The numbers under which this dump holds sync.Mutex's functions and types, and that it holds them (the library's MuLib). -/
namespace Go.Proofs
abbrev Try.muLink : Go.Conc.Locks.MuLink := { lock := 84, unlock := 85, ilock := 88, iunlock := 89, lockSlow := 96, unlockSlow := 99, disable := 92, enable := 94, acquire := 95, relMerge := 97, cas32 := 93, add32 := 98, tMutex := 57, tIMutex := 55, tPMutex := 140, tPIMutex := 143, tPI32 := 145, tUP := 147, tNoCopy := 49, tU32 := 51 }
theorem Try.muLib : Go.Conc.Locks.MuLib Try.prog Try.muLink :=
  ⟨Try.func84, Try.func85, Try.func88, Try.func89, Try.func92, Try.func94, Try.func95, Try.func97, Try.func93, Try.func98, Try.underlying55, Try.runUnderlying55, Try.sizeOf55, Try.isAgg55, Try.zeroValue55, Try.underlying57, Try.runUnderlying57, Try.sizeOf57, Try.isAgg57, Try.zeroValue57, Try.underlying140, Try.runUnderlying140, Try.sizeOf140, Try.isAgg140, Try.zeroValue140, Try.underlying143, Try.runUnderlying143, Try.sizeOf143, Try.isAgg143, Try.zeroValue143, Try.underlying145, Try.runUnderlying145, Try.sizeOf145, Try.isAgg145, Try.zeroValue145, Try.underlying147, Try.runUnderlying147, Try.sizeOf147, Try.isAgg147, Try.zeroValue147, Try.underlying49, Try.runUnderlying49, Try.sizeOf49, Try.isAgg49, Try.zeroValue49, Try.underlying21, Try.runUnderlying21, Try.sizeOf21, Try.isAgg21, Try.zeroValue21, (by kernel_rfl)⟩
end Go.Proofs
/- sync.Once's parts, one goroutine: Bool.Store entered as a deferred call; the one load. After the guide's Lazy example, at this seat's numbers. -/
namespace Go.Proofs.Ytagikgejhckfbaa.Once
open Go.MuLone

theorem store_deferred (a : Addr) (x : Value) (u : FrameMode) (w : World) (hc : w.cell? a = some x) (hz : w.frozen? a = false) :
    CallsD Try.prog 86 #[.pointer (some a), .bool true] u w fun e u' w' => u' = u ∧ (e = .returned (.tuple #[]) ∧ w' = w.drew.setCell a (.int .u32 1)) := by
  have hc' : w.drew.cell? a = some x := by go_simp
  have hz' : w.drew.frozen? a = false := by go_simp
  have hst := run_call_store (P := Try.prog) Try.func90 (by kernel_rfl) (by kernel_rfl) (by kernel_rfl) (by kernel_rfl) (k := .u32) (y := 1) hc' hz'
  go_enter_d Try.func86, Try.ntmps86
  go_wp2
  go_region_calls
  all_goals (go_end0; exact ⟨rfl, rfl⟩)

end Go.Proofs.Ytagikgejhckfbaa.Once
