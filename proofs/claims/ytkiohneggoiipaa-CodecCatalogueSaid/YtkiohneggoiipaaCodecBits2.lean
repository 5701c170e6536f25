/- The walks over the project's small functions for records, second part: seal, openSector, openBody, mark, neverWritten. -/
import Derived.Test.YtkiohneggoiipaaCodecBits
import Derived.Test.YtkiohneggoiipaaCrcBytes
namespace Go.Proofs.Ytkiohneggoiipaa.Codec
open Go.RowKit CrcMath CodecMath Mem Crc

theorem tab_keep {w w' : World} {b : Nat} (h : Tab w b) {row : Option Nat} (hg : w.grownBy w' row) (hne : some b ≠ row) : Tab w' b := by
  rcases h with ⟨cs, hb, hf⟩ | ⟨cs, hb, hf⟩
  · exact .inl ⟨cs, hb.grown hg hne, hf⟩
  · exact .inr ⟨cs, hb.grown hg hne, hf⟩
/-- The table b, and what a call that asks it may turn: nothing more than block g, where its numbers are laid. -/
def Asks (w : World) (b g s : Nat) : Prop := (Ready w b ∧ s = g) ∨ (Tab w b ∧ s = b)
theorem blk_bytes {w : World} {b g : Nat} {t : TypeId} {L : List Nat} (h : Blk w g t (u8s L).toArray) (hne : g ≠ b) (hl : ∀ x ∈ L, x < 256) : Bytes w b (some ⟨g, 0, none⟩) L.length L :=
  ⟨rfl, hl, fun _ => ⟨g, 0, rfl, h.lt, hne, fun j hj => by rw [Nat.zero_add, h.cell, List.getElem?_toArray, u8s_at _ _ hj]⟩⟩
theorem frame_lay (pre : List Nat) (h : pre.length ≤ 252) : lay (fill pre 256) 252 (le4 (M 0 (fill pre 252))) = frame pre := by
  have h1 : (fill pre 256).take 252 = fill pre 252 := by
    simp only [fill, List.take_append, List.take_replicate]
    rw [List.take_of_length_le h]
    congr 2
    omega
  simp only [lay, splice, le4_length]
  rw [h1, List.drop_of_length_le (by rw [fill_length _ _ (by omega)]; exact Nat.le_refl _), List.append_nil]
  rfl
theorem take_fill (pre : List Nat) (h : pre.length ≤ 252) : (fill pre 256).take 252 = fill pre 252 := by
  simp only [fill, List.take_append, List.take_replicate]
  rw [List.take_of_length_le h]
  congr 2
  omega
theorem le4_take_up (s j : Nat) (h : j < 4) : (le4 s).take (j + 1) = (le4 s).take j ++ [s / 256 ^ j % 256] := le4_take s j h

set_option maxRecDepth 100000 in
set_option maxHeartbeats 800000 in
theorem seal_any (b g s : Nat) (pre : List Nat) (w : World) (hT : Asks w b g s) (hg : Blk w g 107 (u8s (fill pre 256)).toArray) (hpre : pre.length ≤ 252) (hlt : ∀ x ∈ pre, x < 256) (hbg : g ≠ b) :
    Calls Try.prog 54 #[.pointer (some ⟨b, 0, none⟩), .pointer (some ⟨g, 0, none⟩)] w fun e w' =>
      e = .returned (.slice (some ⟨g, 0, none⟩) 256 256) ∧ Left w w' g s ∧ Ready w' b ∧ Blk w' g 107 (u8s (frame pre)).toArray := by
  have hlen := fill_length pre 256 (by omega)
  have hb := (blk_bytes hg hbg (fill_lt pre 256 hlt)).take_ 252 (by omega)
  rw [take_fill pre hpre] at hb
  have HB := Lib.hid hb
  have HFR := Lib.hid (frame_lay pre hpre)
  have hml : M 0 (fill pre 252) < 4294967296 := M_lt _ _
  have HG := Lib.hid hg; have HLEN := Lib.hid hlen; have HA := Lib.hid hT
  have hTab : Tab w b := hT.elim (fun h => .inr h.1) (fun h => h.1)
  clear hT hg hlen hb
  go_enter Try.func54, Try.ntmps54
  go_wp2_with fail
  refine (sum_any b _ 252 _ _ _ hTab HB.out (by omega)).mono ?_
  rintro e w1 ⟨rfl, hga, hra, hsame⟩
  have hl0 : Left w w1 g s := by
    rcases HA.out with ⟨h, _⟩ | ⟨_, rfl⟩
    · rw [hsame h]; exact Left.of0 (World.grownBy.refl _ _) _ _
    · exact Left.of2 hga _
  have HG1 := Lib.hid (HG.out.grown hga (by simpa using hbg))
  have HL0 := Lib.hid hl0; have HR1 := Lib.hid hra
  clear hga hra hsame hl0 hTab
  generalize M 0 (fill pre 252) = sm at *
  go_wp2_with fail
  go_loopw [7, 18] (fun _ i wr => ∃ j : Nat, j ≤ 4 ∧ i = .int .i64 j ∧ w1.grownBy wr (some g) ∧ Blk wr g 107 (u8s (lay (fill pre 256) 252 ((le4 sm).take j))).toArray) (fun _ i _ => 4 - (intOf i).toNat)
  case atStart => exact ⟨0, by omega, rfl, World.grownBy.refl _ _, by simpa [lay_nil] using HG1.out⟩
  case round =>
    obtain ⟨j, hj, rfl, hgw, hbw⟩ := hrel
    have HBW := Lib.hid hbw; have HGW := Lib.hid hgw; clear hbw hgw
    by_cases hlt : j < 4
    · have hlen : (lay (fill pre 256) 252 ((le4 sm).take j)).length = 256 := by rw [lay_length _ _ _ (by rw [List.length_take, le4_length, HLEN.out]; omega), HLEN.out]
      have hcell := HBW.out.cell (252 + j)
      rw [List.getElem?_toArray, u8s_at _ _ (by omega)] at hcell
      have hfr := HBW.out.frozen (252 + j)
      have hst := lay_set (fill pre 256) 252 ((le4 sm).take j) (sm / 256 ^ j % 256) (by rw [List.length_take, le4_length, HLEN.out]; omega)
      rw [List.length_take, le4_length, Nat.min_eq_left (by omega), ← le4_take_up sm j hlt] at hst
      have HST := Lib.hid hst; have HBY := Lib.hid (byte_of_sum sm j); clear hst hlen
      go_wp2_with fail
      go_roundw
      case rel =>
        refine ⟨j + 1, by omega, by go_num, only_set HGW.out _ _, ?_⟩
        rw [HBY.out]
        have h := HBW.out.set_ (252 + j) (.int .u8 ((sm / 256 ^ j % 256 : Nat) : Int))
        rw [u8s_set, HST.out] at h
        exact h
      case measure => simp [intOf]; omega
    · obtain rfl : j = 4 := by omega
      go_wp2
      go_ret
      refine ⟨rfl, HL0.out.trans (Left.of1 HGW.out s), HR1.out.keep HGW.out (by simpa using fun e => hbg e.symm), ?_⟩
      have h := HBW.out
      rw [List.take_of_length_le (by rw [le4_length]; exact Nat.le_refl _), HFR.out] at h
      exact h

theorem zero256 (w : World) : (zeroValue 107).run Try.prog w = .ok (.agg (Array.replicate 256 (.int .u8 0))) w := by kernel_rfl
theorem zero240 (w : World) : (zeroValue 126).run Try.prog w = .ok (.agg (Array.replicate 240 (.int .u8 0))) w := by kernel_rfl
theorem u8_one : (Try.prog.info? 5).map (·.size) = some 1 := by kernel_rfl
theorem fill_zero (N : Nat) : (u8s (fill [] N)).toArray = Array.replicate N (.int .u8 0) := by
  simp [fill, u8s]
/-- What opening leaves: a block of the call's own with just these bytes. -/
def Opened (w : World) (t : TypeId) (N : Nat) (l : List Nat) (e : Ending) (w' : World) : Prop :=
  e = .returned (.tuple #[.slice (some ⟨w.heap.size, 0, none⟩) N N, .bool true]) ∧ w.grownBy w' none ∧ Blk w' w.heap.size t (u8s l).toArray
theorem grown_setRow {w W : World} {h : Nat} (hg : w.grownBy W none) (hh : w.heap.size ≤ h) (cs : Array Value) : w.grownBy (W.setRow h cs) none :=
  ⟨hg.os, hg.tape, hg.output, by simpa [World.setRow] using hg.size, fun k hk _ => (setRow_other W h k cs (by omega)).trans (hg.block k hk (by simp))⟩
theorem blk_setRow {W : World} {h : Nat} {t : TypeId} {cs : Array Value} (hb : Blk W h t cs) (ds : Array Value) : Blk (W.setRow h ds) h t ds := setRow_heap W h cs ds t (0, 0) hb
/-- All of an array is written over by a slice's bytes. -/
theorem run_copy_full {W : World} {h g o c N b : Nat} {t : TypeId} {cs : Array Value} {l : List Nat} (hb : Blk W h t cs) (hs : cs.size = N) (hl : Bytes W b (some ⟨g, o, none⟩) N l) (ty : TypeId) :
    (Builtin.copy_ #[27, 27] ty #[.slice (some ⟨h, 0, none⟩) N N, .slice (some ⟨g, o, none⟩) N c]).run Try.prog W = .ok (.int .i64 N) (W.setRow h (u8s l).toArray) := by
  have hlen := hl.1
  have := run_copy_row (P := Try.prog) W 27 27 ty 5 h 0 N N ⟨g, o, none⟩ N c cs t (u8s l) Try.underlying27 u8_one hb
    (by rw [u8s_length, hlen]; simp) (fun j v hv => by
      have hj : j < l.length := by
        rcases Nat.lt_or_ge j l.length with h1 | h1
        · exact h1
        · rw [List.getElem?_eq_none (by rw [u8s_length]; exact h1)] at hv; cases hv
      obtain ⟨g', o', e, _, _, hc⟩ := hl.2.2 (by omega)
      simp only [Option.some.injEq, Addr.mk.injEq, and_true] at e
      obtain ⟨rfl, rfl⟩ := e
      have e1 : (⟨g, o, none⟩ : Addr).add j = ⟨g, o + j, none⟩ := by unfold Addr.add; split <;> simp_all
      rw [e1, hc j (by omega), ← hv, u8s_at _ _ hj]) (by rw [u8s_length, hlen]; omega) (u8s_one l)
  rw [this, u8s_length, hlen]
  have hd : cs.toList.drop (0 + N) = [] := List.drop_of_length_le (by simp; omega)
  rw [hd, List.append_nil, List.take_zero, List.nil_append]
  rfl

set_option maxRecDepth 100000 in
set_option maxHeartbeats 800000 in
theorem opensector_any (b b2 : Nat) (A : Option Addr) (c : Nat) (l : List Nat) (w : World) (hl : Bytes w b2 A 256 l) :
    Calls Try.prog 59 #[.pointer (some ⟨b, 0, none⟩), .slice A 256 c] w (Opened w 107 256 l) := by
  obtain ⟨g, o, rfl, hlt, _, hc⟩ := hl.2.2 (by omega)
  have hz := zero256
  have hb0 := Blk.new w 107 (Array.replicate 256 (.int .u8 0))
  have hcp := run_copy_full (c := c) hb0 (by simp) (bytes_keepN hl (World.grownBy_alloc w _ none))
  have HB := Lib.hid (blk_setRow hb0 (u8s l).toArray)
  have HG := Lib.hid (grown_setRow (World.grownBy_alloc w (.cells (Array.replicate 256 (.int .u8 0)) 107) none) (Nat.le_refl _) (u8s l).toArray)
  clear hc hl hb0
  generalize hcs : (u8s l).toArray = cs at *
  have HCS := Lib.hid hcs; clear hcs
  generalize hzz : Array.replicate 256 (Value.int .u8 0) = zs at *
  clear hzz
  go_enter Try.func59, Try.ntmps59
  go_wp2
  go_ret2
  exact ⟨rfl, HG.out, by rw [HCS.out]; exact HB.out⟩
set_option maxRecDepth 100000 in
theorem opensector_nil (A : Option Addr) (n c : Nat) (w : World) :
    Calls Try.prog 59 #[.pointer none, .slice A n c] w fun e w' => e = .returned (.tuple #[.slice none 0 0, .bool false]) ∧ w = w' := by
  go_enter Try.func59, Try.ntmps59
  go_wp2
  go_ret2
  exact ⟨rfl, rfl⟩
set_option maxRecDepth 100000 in
theorem opensector_no (b : Nat) (A : Option Addr) (n c : Nat) (w : World) (hn : n ≠ 256) :
    Calls Try.prog 59 #[.pointer (some ⟨b, 0, none⟩), .slice A n c] w fun e w' => e = .returned (.tuple #[.slice none 0 0, .bool false]) ∧ w = w' := by
  have hne : (((n : Nat) : Int) != 256) = true := by simp; omega
  go_enter Try.func59, Try.ntmps59
  go_wp2
  go_ret2
  exact ⟨rfl, rfl⟩
set_option maxRecDepth 100000 in
set_option maxHeartbeats 800000 in
theorem openbody_any (b2 : Nat) (A : Option Addr) (c : Nat) (l : List Nat) (w : World) (hl : Bytes w b2 A 240 l) :
    Calls Try.prog 70 #[.slice A 240 c] w (Opened w 126 240 l) := by
  obtain ⟨g, o, rfl, hlt, _, hc⟩ := hl.2.2 (by omega)
  have hz := zero240
  have hb0 := Blk.new w 126 (Array.replicate 240 (.int .u8 0))
  have hcp := run_copy_full (c := c) hb0 (by simp) (bytes_keepN hl (World.grownBy_alloc w _ none))
  have HB := Lib.hid (blk_setRow hb0 (u8s l).toArray)
  have HG := Lib.hid (grown_setRow (World.grownBy_alloc w (.cells (Array.replicate 240 (.int .u8 0)) 126) none) (Nat.le_refl _) (u8s l).toArray)
  clear hc hl hb0
  generalize hcs : (u8s l).toArray = cs at *
  have HCS := Lib.hid hcs; clear hcs
  generalize hzz : Array.replicate 240 (Value.int .u8 0) = zs at *
  clear hzz
  go_enter Try.func70, Try.ntmps70
  go_wp2
  go_ret2
  exact ⟨rfl, HG.out, by rw [HCS.out]; exact HB.out⟩
set_option maxRecDepth 100000 in
theorem openbody_no (A : Option Addr) (n c : Nat) (w : World) (hn : n ≠ 240) :
    Calls Try.prog 70 #[.slice A n c] w fun e w' => e = .returned (.tuple #[.slice none 0 0, .bool false]) ∧ w = w' := by
  have hne : (((n : Nat) : Int) != 240) = true := by simp; omega
  go_enter Try.func70, Try.ntmps70
  go_wp2
  go_ret2
  exact ⟨rfl, rfl⟩

theorem u8s_bytes (s : ByteArray) : Lib.byteCells s.data.toList = u8s (s.data.toList.map UInt8.toNat) := by simp [Lib.byteCells, u8s]
set_option maxRecDepth 100000 in
set_option maxHeartbeats 800000 in
/-- A mark of four bytes is written at the cursor's place. -/
theorem mark_any (p g k n : Nat) (t : TypeId) (L : List Nat) (s : ByteArray) (xs : List Nat) (w : World) (hc : Cur w p g k n) (hg : Blk w g t (u8s L).toArray) (ht : t ≠ 108)
    (hs : s.data.toList.map UInt8.toNat = xs) (h4 : s.size = 4) (h : 4 ≤ n) (hn : k + n ≤ L.length) (hL : L.length ≤ 4096) :
    Calls Try.prog 52 #[.pointer (some ⟨p, 0, none⟩), .string s] w fun e w' =>
      e = .returned (.tuple #[]) ∧ Left w w' p g ∧ Cur w' p g (k + 4) (n - 4) ∧ Blk w' g t (u8s (lay L k xs)).toArray := by
  have hpg := hc.ne hg ht
  have HG := Lib.hid hg; have HC := Lib.hid hc; have HS := Lib.hid hs; clear hc hg hs
  have h4' : (s.size : Int) = 4 := by omega
  go_enter Try.func52, Try.ntmps52
  go_wp2_with fail
  refine (take_any p g k n 4 w HC.out h (by omega)).mono ?_
  rintro e w1 ⟨⟨k0, rfl, hk⟩, hgr, hc1⟩
  obtain rfl := hk (by omega)
  have hb1 := HG.out.grown hgr (by simpa using fun e => hpg e.symm)
  have hcp := fun ty => Lib.run_copy_row_string (P := Try.prog) w1 27 9 ty 5 g k0 4 4 s _ t Try.underlying27 u8_one hb1 (by omega) (by simp [u8s_length]; omega)
  have hspl : (u8s L).toArray.toList.take k0 ++ Lib.byteCells s.data.toList ++ (u8s L).toArray.toList.drop (k0 + s.size) = u8s (lay L k0 xs) := by
    have hx : (u8s xs).length = s.size := by rw [← HS.out, u8s_length, List.length_map, Array.length_toList]; rfl
    rw [u8s_lay, splice, u8s_bytes, HS.out, List.append_assoc, hx]
  rw [hspl] at hcp
  have HB := Lib.hid (blk_setRow hb1 (u8s (lay L k0 xs)).toArray)
  have HC1 := Lib.hid hc1; have HGR := Lib.hid (Left.of1 hgr g)
  have hset : Left w1 (w1.setRow g (u8s (lay L k0 xs)).toArray) p g := ⟨rfl, rfl, rfl, by simp [World.setRow], fun i _ _ h2 => setRow_other w1 g i _ h2⟩
  have hc2 : Cur (w1.setRow g (u8s (lay L k0 xs)).toArray) p g (k0 + 4) (n - 4) := by
    obtain ⟨k1, hb, hk1⟩ := hc1
    exact ⟨k1, (setRow_other w1 g p _ hpg).trans hb, hk1⟩
  have HSET := Lib.hid hset; have HC2 := Lib.hid hc2
  clear hb1 hc1 hgr hk hspl hset hc2
  generalize hcs : (u8s (lay L k0 xs)).toArray = cs at *
  have HCS := Lib.hid hcs; clear hcs
  go_wp2
  go_end0
  exact ⟨rfl, HGR.out.trans HSET.out, HC2.out, by rw [HCS.out]; exact HB.out⟩

theorem all_zero {l : List Nat} (h : ∀ q, q < l.length → l.getD q 0 = 0) : l = List.replicate l.length 0 := by
  refine List.ext_getElem (by simp) (fun i h1 h2 => ?_)
  have := h i h1
  rw [List.getD_eq_getElem?_getD, List.getElem?_eq_getElem h1] at this
  simpa using this
theorem not_zero {l : List Nat} (j : Nat) (h : l.getD j 0 ≠ 0) : l ≠ List.replicate l.length 0 := by
  intro e
  apply h
  rw [e, List.getD_eq_getElem?_getD, List.getElem?_replicate]
  split <;> rfl
set_option maxRecDepth 100000 in
set_option maxHeartbeats 800000 in
theorem never_any (b : Nat) (A : Option Addr) (n c : Nat) (l : List Nat) (w : World) (hl : Bytes w b A n l) (hn : n ≤ 9223372036854775807) :
    Calls Try.prog 67 #[.slice A n c] w fun e w' => e = .returned (.bool (decide (l = List.replicate n 0))) ∧ w = w' := by
  have hlen := hl.1
  have HLEN := Lib.hid hlen; have HL := Lib.hid hl; clear hlen hl
  generalize hr : List.replicate n 0 = r at *
  have HR := Lib.hid hr; clear hr
  go_enter Try.func67, Try.ntmps67
  go_wp2_with fail
  go_loop [4, 7] (fun _ i => ∃ j : Nat, j ≤ n ∧ i = .int .i64 j ∧ (∀ q, q < j → l.getD q 0 = 0)) (fun _ i => n - (intOf i).toNat)
  case atStart => exact ⟨0, by omega, rfl, fun q hq => by omega⟩
  case round =>
    obtain ⟨j, hj, rfl, hin⟩ := hrel
    have HIN := Lib.hid hin; clear hin
    by_cases hlt : j < n
    · obtain ⟨g, o, rfl, _, _, hc⟩ := HL.out.2.2 (by omega)
      have hcj := hc j hlt
      clear hc
      by_cases hz : l.getD j 0 = 0
      · have hin' : ∀ q, q < j + 1 → l.getD q 0 = 0 := by
          intro q hq
          by_cases e : q = j
          · subst e; exact hz
          · exact HIN.out q (by omega)
        have HIN' := Lib.hid hin'; clear hin'
        rw [hz] at hcj
        clear hz
        go_wp2
        refine ⟨⟨j + 1, by omega, by go_num, HIN'.out⟩, by simp [intOf]; omega⟩
      · have hno : decide (l = r) = false := by
          have := not_zero j hz
          rw [HLEN.out, HR.out] at this
          simpa using this
        have HNO := Lib.hid hno; clear hno
        have hne : (((l.getD j 0 : Nat) : Int) != 0) = true := by simp at hz ⊢; omega
        generalize l.getD j 0 = x at *
        go_wp2
        go_ret
        exact ⟨by rw [HNO.out]; rfl, rfl⟩
    · obtain rfl : j = n := by omega
      have hy : decide (l = r) = true := by
        have := all_zero (l := l) (fun q hq => HIN.out q (by rw [HLEN.out] at hq; exact hq))
        rw [HLEN.out, HR.out] at this
        simpa using this
      have HY := Lib.hid hy; clear hy
      go_wp2
      go_ret
      exact ⟨by rw [HY.out]; rfl, rfl⟩
end Go.Proofs.Ytkiohneggoiipaa.Codec
