/- The project's cursor: what is still to be written or read of an array: take, write, read. -/
import Derived.Test.YtpdkjgmldlpaaaaCurMath
import Derived.Test.YtpdkjgmldlpaaaaRefBits
namespace Go.Proofs.Ytpdkjgmldlpaaaa.Codec
open Go.RowKit CrcMath CodecMath Mem Crc

/-- From w to w' no block has turned that was there, but (it may be) blocks p and g. -/
structure Left (w w' : World) (p g : Nat) : Prop where
  os : w'.os = w.os
  tape : w'.tape = w.tape
  output : w'.output = w.output
  size : w.heap.size ≤ w'.heap.size
  block : ∀ k, k < w.heap.size → k ≠ p → k ≠ g → w'.heap[k]? = w.heap[k]?
section
variable {w w1 w' : World} {p g : Nat}
theorem Left.of1 (h : w.grownBy w' (some p)) (g : Nat) : Left w w' p g := ⟨h.os, h.tape, h.output, h.size, fun k hk h1 _ => h.block k hk (by simpa using h1)⟩
theorem Left.of2 (h : w.grownBy w' (some g)) (p : Nat) : Left w w' p g := ⟨h.os, h.tape, h.output, h.size, fun k hk _ h1 => h.block k hk (by simpa using h1)⟩
theorem Left.of0 (h : w.grownBy w' none) (p g : Nat) : Left w w' p g := ⟨h.os, h.tape, h.output, h.size, fun k hk _ _ => h.block k hk (by simp)⟩
theorem Left.trans (h : Left w w1 p g) (k : Left w1 w' p g) : Left w w' p g :=
  ⟨k.os.trans h.os, k.tape.trans h.tape, k.output.trans h.output, Nat.le_trans h.size k.size, fun i hi h1 h2 => (k.block i (Nat.lt_of_lt_of_le hi h.size) h1 h2).trans (h.block i hi h1 h2)⟩
/-- Where both are new, nothing that was there has turned. -/
theorem Left.new {w0 : World} (h : Left w w' p g) (h0 : w0.grownBy w none) (hp : w0.heap.size ≤ p) (hg : w0.heap.size ≤ g) : w0.grownBy w' none :=
  ⟨h.os.trans h0.os, h.tape.trans h0.tape, h.output.trans h0.output, Nat.le_trans h0.size h.size, fun k hk _ => (h.block k (Nat.lt_of_lt_of_le hk h0.size) (by omega) (by omega)).trans (h0.block k hk (by simp))⟩
theorem Left.blk {b : Nat} {t : TypeId} {cs : Array Value} (h : Left w w' p g) (hb : Blk w b t cs) (h1 : b ≠ p) (h2 : b ≠ g) : Blk w' b t cs := (h.block b hb.lt h1 h2).trans hb
theorem Left.cell {a : Addr} {v : Value} (h : Left w w' p g) (hc : w.cell? a = some v) (h1 : a.block ≠ p) (h2 : a.block ≠ g) : w'.cell? a = some v :=
  (World.cell?_of_block (h.block a.block (World.block_lt_of_cell? w a hc) h1 h2)).trans hc
end

/-- The cursor in block p stands at place k of block g, with n bytes to come. -/
def Cur (w : World) (p g k n : Nat) : Prop := ∃ k0, Blk w p 59 #[.slice (some ⟨g, k0, none⟩) n n] ∧ (0 < n → k0 = k)
theorem Cur.grown {w w' : World} {p g k n : Nat} {row : Option Nat} (h : Cur w p g k n) (hg : w.grownBy w' row) (hne : some p ≠ row) : Cur w' p g k n := by
  obtain ⟨k0, hb, hk⟩ := h
  exact ⟨k0, hb.grown hg hne, hk⟩
theorem Cur.ne {w : World} {p g k n : Nat} {t : TypeId} {cs : Array Value} (h : Cur w p g k n) (hb : Blk w g t cs) (ht : t ≠ 59) : p ≠ g := by
  rintro rfl
  obtain ⟨k0, hb', _⟩ := h
  rw [Blk, hb] at hb'
  injection hb' with hb'
  injection hb' with _ h1
  exact ht h1

set_option maxRecDepth 100000 in
set_option maxHeartbeats 800000 in
theorem take_any (p g k n cnt : Nat) (w : World) (hc : Cur w p g k n) (h : cnt ≤ n) (hn : n ≤ 4096) :
    Calls Try.prog 54 #[.pointer (some ⟨p, 0, none⟩), .int .i64 cnt] w fun e w' =>
      (∃ k0, e = .returned (.slice (some ⟨g, k0, none⟩) cnt cnt) ∧ (0 < cnt → k0 = k)) ∧ w.grownBy w' (some p) ∧ Cur w' p g (k + cnt) (n - cnt) := by
  obtain ⟨k0, hb, hk⟩ := hc
  have hcell := hb.cell 0
  have hfr := hb.frozen 0
  simp only [List.getElem?_toArray, List.getElem?_cons_zero] at hcell
  have HB := Lib.hid hb; have HK := Lib.hid hk; clear hb hk
  have h0 : (0 : Int) ≤ cnt := by omega
  have h1 : (cnt : Int) ≤ n := by omega
  go_enter Try.func54, Try.ntmps54
  go_wp2
  · obtain rfl : n = cnt := by assumption
    go_ret
    exact ⟨⟨k0, rfl, HK.out⟩, Lib.grownBy_setB (World.grownBy.refl _ _) 0 _, k0, HB.out.set_ 0 _, fun h => absurd h (by omega)⟩
  · rename_i hne
    go_ret
    refine ⟨⟨k0, rfl, fun _ => HK.out (by omega)⟩, Lib.grownBy_setB (World.grownBy.refl _ _) 0 _, k0 + cnt, HB.out.set_ 0 _, fun _ => ?_⟩
    rw [HK.out (by omega)]

set_option maxRecDepth 100000 in
set_option maxHeartbeats 800000 in
/-- A number is written at the cursor's place. -/
theorem write_any (p g k n width m : Nat) (t : TypeId) (L : List Nat) (w : World) (hc : Cur w p g k n) (hg : Blk w g t (u8s L).toArray) (ht : t ≠ 59)
    (h : width ≤ n) (hn : k + n ≤ L.length) (hL : L.length ≤ 4096) (h8 : width ≤ 8) :
    Calls Try.prog 47 #[.pointer (some ⟨p, 0, none⟩), .int .i64 width, .int .i64 m] w fun e w' =>
      e = .returned (.tuple #[]) ∧ Left w w' p g ∧ Cur w' p g (k + width) (n - width) ∧ Blk w' g t (u8s (lay L k (be width m))).toArray := by
  have hpg := hc.ne hg ht
  have HG := Lib.hid hg; have HC := Lib.hid hc; clear hc hg
  go_enter Try.func47, Try.ntmps47
  go_wp2_with fail
  refine (take_any p g k n width w HC.out h (by omega)).mono ?_
  rintro e w1 ⟨⟨k0, rfl, hk⟩, hgr, hc1⟩
  have hb1 := HG.out.grown hgr (by simpa using fun e => hpg e.symm)
  have HG1 := Lib.hid hb1; have HC1 := Lib.hid hc1; have HGR := Lib.hid (Left.of1 hgr g); have HK := Lib.hid hk
  clear hb1 hc1 hgr hk HG
  go_wp2_with fail
  go_loopw [7, 13] (fun _ i wr => ∃ j : Nat, j ≤ width ∧ i = .int .i64 j ∧ w1.grownBy wr (some g) ∧ Blk wr g t (u8s (lay L k ((be width m).take j))).toArray) (fun _ i _ => width - (intOf i).toNat)
  case atStart => exact ⟨0, by omega, rfl, World.grownBy.refl _ _, by simpa [lay_nil] using HG1.out⟩
  case round =>
    obtain ⟨j, hj, rfl, hgw, hbw⟩ := hrel
    have HBW := Lib.hid hbw; have HGW := Lib.hid hgw; clear hbw hgw
    by_cases hlt : j < width
    · obtain rfl : k0 = k := HK.out (by omega)
      obtain ⟨q, hq⟩ : ∃ q, width = j + q + 1 := ⟨width - j - 1, by omega⟩
      have hsh : (8 * ((width : Int) - 1 - (j : Int))) = ((8 * q : Nat) : Int) := by omega
      have hw1 : (width : Int) - 1 - (j : Int) = (q : Int) := by omega
      have hlen : (lay L k0 ((be width m).take j)).length = L.length := lay_length _ _ _ (by rw [List.length_take, be_length]; omega)
      have hcell := HBW.out.cell (k0 + j)
      rw [List.getElem?_toArray, u8s_at _ _ (by omega)] at hcell
      have hfr := HBW.out.frozen (k0 + j)
      have hst := lay_set L k0 ((be width m).take j) (m / 256 ^ q % 256) (by rw [List.length_take, be_length]; omega)
      rw [List.length_take, be_length, Nat.min_eq_left (by omega)] at hst
      have hbt := be_take_up width m j hlt
      rw [show width - 1 - j = q from by omega] at hbt
      rw [← hbt] at hst
      have HST := Lib.hid hst; have HBY := Lib.hid (byte_of m q); clear hst hbt hlen
      go_wp2_with fail
      go_roundw
      case rel =>
        refine ⟨j + 1, by omega, by go_num, only_set HGW.out _ _, ?_⟩
        rw [HBY.out]
        have h := HBW.out.set_ (k0 + j) (.int .u8 ((m / 256 ^ q % 256 : Nat) : Int))
        rw [u8s_set, HST.out] at h
        exact h
      case measure => simp [intOf]; omega
    · obtain rfl : j = width := by omega
      go_wp2
      go_end0
      refine ⟨rfl, HGR.out.trans (Left.of2 HGW.out p), HC1.out.grown HGW.out (by simpa using hpg), ?_⟩
      have h := HBW.out
      rwa [List.take_of_length_le (by rw [be_length]; omega)] at h

set_option maxRecDepth 100000 in
set_option maxHeartbeats 800000 in
/-- A number is read at the cursor's place. -/
theorem read_any (p g k n width : Nat) (t : TypeId) (L : List Nat) (w : World) (hc : Cur w p g k n) (hg : Blk w g t (u8s L).toArray) (ht : t ≠ 59) (hb : ∀ x ∈ L, x < 256)
    (h : width ≤ n) (hn : k + n ≤ L.length) (hL : L.length ≤ 4096) :
    Calls Try.prog 51 #[.pointer (some ⟨p, 0, none⟩), .int .i64 width] w fun e w' =>
      e = .returned (.int .i64 (wrap64 (num L k width))) ∧ w.grownBy w' (some p) ∧ Cur w' p g (k + width) (n - width) := by
  have hpg := hc.ne hg ht
  have HG := Lib.hid hg; have HC := Lib.hid hc; have HBS := Lib.hid hb; clear hc hg hb
  go_enter Try.func51, Try.ntmps51
  go_wp2_with fail
  refine (take_any p g k n width w HC.out h (by omega)).mono ?_
  rintro e w1 ⟨⟨k0, rfl, hk⟩, hgr, hc1⟩
  have hb1 := HG.out.grown hgr (by simpa using fun e => hpg e.symm)
  have HG1 := Lib.hid hb1; have HC1 := Lib.hid hc1; have HGR := Lib.hid hgr; have HK := Lib.hid hk
  clear hb1 hc1 hgr hk HG
  go_wp2_with fail
  go_loop [5, 7, 12] (fun s _ i => ∃ j : Nat, j ≤ width ∧ i = .int .i64 j ∧ s = .int .i64 (wrap64 (num L k j))) (fun _ _ i => width - (intOf i).toNat)
  case atStart => exact ⟨0, by omega, rfl, by simp [num, wrap64]⟩
  case round =>
    obtain ⟨j, hj, rfl, rfl⟩ := hrel
    by_cases hlt : j < width
    · obtain rfl : k0 = k := HK.out (by omega)
      have hcell := HG1.out.cell (k0 + j)
      rw [List.getElem?_toArray, u8s_at _ _ (by omega)] at hcell
      have hby := getD_lt HBS.out (k0 + j)
      have hor := or_byte (wrap64 (num L k0 j)) (L.getD (k0 + j) 0) hby
      rw [num_step] at hor
      have HOR := Lib.hid hor; clear hor
      generalize L.getD (k0 + j) 0 = y at *
      generalize wrap64 ((num L k0 j : Nat) : Int) = x at *
      go_wp2
      refine ⟨⟨j + 1, by omega, by go_num, ?_⟩, by simp [intOf]; omega⟩
      rw [HOR.out]
    · obtain rfl : j = width := by omega
      go_wp2
      go_ret
      exact ⟨rfl, HGR.out, HC1.out⟩
end Go.Proofs.Ytpdkjgmldlpaaaa.Codec
