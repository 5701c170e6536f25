/- Texts of this seat's proofs: CodecBits2, CodecCounts, CodecSuper, SupSmall, CodecSuperGet. -/
import Derived.Test.YteaokeiolgjhaaaGreatPCodecBits
import Derived.Test.YteaokeiolgjhaaaGreatPOnce
import Derived.Test.YteaokeiolgjhaaaGreatPCodecSpec
/- The walks over the project's small functions for records, second part: seal, openSector, openBody, mark, neverWritten. -/
namespace Go.Proofs.YteaokeiolgjhaaaGreat.Codec
open Go.RowKit CrcMath CodecMath Mem Crc

theorem tab_keep {w w' : World} {b : Nat} (h : Tab w b) {row : Option Nat} (hg : w.grownBy w' row) (hne : some b ≠ row) : Tab w' b := by
  rcases h with ⟨cs, hb, hf⟩ | ⟨cs, hb, hf⟩
  · exact .inl ⟨cs, hb.grown hg hne, hf⟩
  · exact .inr ⟨cs, hb.grown hg hne, hf⟩
/-- The table b, and what a call that asks it may turn: nothing more than block g, where its numbers are laid. -/
def Asks (w : World) (b g s : Nat) : Prop := (Ready w b ∧ s = g) ∨ (Tab w b ∧ s = b)
theorem blk_bytes {w : World} {b g : Nat} {t : TypeId} {L : List Nat} (h : Blk w g t (u8s L).toArray) (hne : g ≠ b) (hl : ∀ x ∈ L, x < 256) : Bytes w b (some ⟨g, 0, none⟩) L.length L :=
  ⟨rfl, hl, fun _ => ⟨g, 0, rfl, h.lt, hne, fun j hj => by rw [Nat.zero_add, h.cell, List.getElem?_toArray, u8s_at _ _ hj]⟩⟩
theorem frame_lay (pre : List Nat) (h : pre.length ≤ 252) : lay (fill pre 256) 252 (le4 (M 0 (fill pre 252))) = frame pre := by
  have h1 : (fill pre 256).take 252 = fill pre 252 := by
    simp only [fill, List.take_append, List.take_replicate]
    rw [List.take_of_length_le h]
    congr 2
    omega
  simp only [lay, splice, le4_length]
  rw [h1, List.drop_of_length_le (by rw [fill_length _ _ (by omega)]; exact Nat.le_refl _), List.append_nil]
  rfl
theorem take_fill (pre : List Nat) (h : pre.length ≤ 252) : (fill pre 256).take 252 = fill pre 252 := by
  simp only [fill, List.take_append, List.take_replicate]
  rw [List.take_of_length_le h]
  congr 2
  omega
theorem le4_take_up (s j : Nat) (h : j < 4) : (le4 s).take (j + 1) = (le4 s).take j ++ [s / 256 ^ j % 256] := le4_take s j h

set_option maxRecDepth 100000 in
set_option maxHeartbeats 800000 in
theorem seal_any (b g s : Nat) (pre : List Nat) (w : World) (hT : Asks w b g s) (hg : Blk w g 118 (u8s (fill pre 256)).toArray) (hpre : pre.length ≤ 252) (hlt : ∀ x ∈ pre, x < 256) (hbg : g ≠ b) :
    Calls Tryz.prog 103 #[.pointer (some ⟨b, 0, none⟩), .pointer (some ⟨g, 0, none⟩)] w fun e w' =>
      e = .returned (.slice (some ⟨g, 0, none⟩) 256 256) ∧ Left w w' g s ∧ Ready w' b ∧ Blk w' g 118 (u8s (frame pre)).toArray := by
  have hlen := fill_length pre 256 (by omega)
  have hb := (blk_bytes hg hbg (fill_lt pre 256 hlt)).take_ 252 (by omega)
  rw [take_fill pre hpre] at hb
  have HB := Lib.hid hb
  have HFR := Lib.hid (frame_lay pre hpre)
  have hml : M 0 (fill pre 252) < 4294967296 := M_lt _ _
  have HG := Lib.hid hg; have HLEN := Lib.hid hlen; have HA := Lib.hid hT
  have hTab : Tab w b := hT.elim (fun h => .inr h.1) (fun h => h.1)
  clear hT hg hlen hb
  go_enter Tryz.func103, Tryz.ntmps103
  go_wp2_with fail
  refine (sum_any b _ 252 _ _ _ hTab HB.out (by omega)).mono ?_
  rintro e w1 ⟨rfl, hga, hra, hsame⟩
  have hl0 : Left w w1 g s := by
    rcases HA.out with ⟨h, _⟩ | ⟨_, rfl⟩
    · rw [hsame h]; exact Left.of0 (World.grownBy.refl _ _) _ _
    · exact Left.of2 hga _
  have HG1 := Lib.hid (HG.out.grown hga (by simpa using hbg))
  have HL0 := Lib.hid hl0; have HR1 := Lib.hid hra
  clear hga hra hsame hl0 hTab
  generalize M 0 (fill pre 252) = sm at *
  go_wp2_with fail
  go_loopw [7, 18] (fun _ i wr => ∃ j : Nat, j ≤ 4 ∧ i = .int .i64 j ∧ w1.grownBy wr (some g) ∧ Blk wr g 118 (u8s (lay (fill pre 256) 252 ((le4 sm).take j))).toArray) (fun _ i _ => 4 - (intOf i).toNat)
  case atStart => exact ⟨0, by omega, rfl, World.grownBy.refl _ _, by simpa [lay_nil] using HG1.out⟩
  case round =>
    obtain ⟨j, hj, rfl, hgw, hbw⟩ := hrel
    have HBW := Lib.hid hbw; have HGW := Lib.hid hgw; clear hbw hgw
    by_cases hlt : j < 4
    · have hlen : (lay (fill pre 256) 252 ((le4 sm).take j)).length = 256 := by rw [lay_length _ _ _ (by rw [List.length_take, le4_length, HLEN.out]; omega), HLEN.out]
      have hcell := HBW.out.cell (252 + j)
      rw [List.getElem?_toArray, u8s_at _ _ (by omega)] at hcell
      have hfr := HBW.out.frozen (252 + j)
      have hst := lay_set (fill pre 256) 252 ((le4 sm).take j) (sm / 256 ^ j % 256) (by rw [List.length_take, le4_length, HLEN.out]; omega)
      rw [List.length_take, le4_length, Nat.min_eq_left (by omega), ← le4_take_up sm j hlt] at hst
      have HST := Lib.hid hst; have HBY := Lib.hid (byte_of_sum sm j); clear hst hlen
      go_wp2_with fail
      go_roundw
      case rel =>
        refine ⟨j + 1, by omega, by go_num, only_set HGW.out _ _, ?_⟩
        rw [HBY.out]
        have h := HBW.out.set_ (252 + j) (.int .u8 ((sm / 256 ^ j % 256 : Nat) : Int))
        rw [u8s_set, HST.out] at h
        exact h
      case measure => simp [intOf]; omega
    · obtain rfl : j = 4 := by omega
      go_wp2
      go_ret
      refine ⟨rfl, HL0.out.trans (Left.of1 HGW.out s), HR1.out.keep HGW.out (by simpa using fun e => hbg e.symm), ?_⟩
      have h := HBW.out
      rw [List.take_of_length_le (by rw [le4_length]; exact Nat.le_refl _), HFR.out] at h
      exact h

theorem zero256 (w : World) : (zeroValue 118).run Tryz.prog w = .ok (.agg (Array.replicate 256 (.int .u8 0))) w := by kernel_rfl
theorem u8_one : (Tryz.prog.info? 5).map (·.size) = some 1 := by kernel_rfl
theorem fill_zero (N : Nat) : (u8s (fill [] N)).toArray = Array.replicate N (.int .u8 0) := by
  simp [fill, u8s]
/-- What opening leaves: a block of the call's own with just these bytes. -/
def Opened (w : World) (t : TypeId) (N : Nat) (l : List Nat) (e : Ending) (w' : World) : Prop :=
  e = .returned (.tuple #[.slice (some ⟨w.heap.size, 0, none⟩) N N, .bool true]) ∧ w.grownBy w' none ∧ Blk w' w.heap.size t (u8s l).toArray
theorem grown_setRow {w W : World} {h : Nat} (hg : w.grownBy W none) (hh : w.heap.size ≤ h) (cs : Array Value) : w.grownBy (W.setRow h cs) none :=
  ⟨hg.os, hg.tape, hg.output, by simpa [World.setRow] using hg.size, fun k hk _ => (setRow_other W h k cs (by omega)).trans (hg.block k hk (by simp))⟩
theorem blk_setRow {W : World} {h : Nat} {t : TypeId} {cs : Array Value} (hb : Blk W h t cs) (ds : Array Value) : Blk (W.setRow h ds) h t ds := setRow_heap W h cs ds t (0, 0) hb
/-- All of an array is written over by a slice's bytes. -/
theorem run_copy_full {W : World} {h g o c N b : Nat} {t : TypeId} {cs : Array Value} {l : List Nat} (hb : Blk W h t cs) (hs : cs.size = N) (hl : Bytes W b (some ⟨g, o, none⟩) N l) (ty : TypeId) :
    (Builtin.copy_ #[38, 38] ty #[.slice (some ⟨h, 0, none⟩) N N, .slice (some ⟨g, o, none⟩) N c]).run Tryz.prog W = .ok (.int .i64 N) (W.setRow h (u8s l).toArray) := by
  have hlen := hl.1
  have := run_copy_row (P := Tryz.prog) W 38 38 ty 5 h 0 N N ⟨g, o, none⟩ N c cs t (u8s l) Tryz.underlying38 u8_one hb
    (by rw [u8s_length, hlen]; simp) (fun j v hv => by
      have hj : j < l.length := by
        rcases Nat.lt_or_ge j l.length with h1 | h1
        · exact h1
        · rw [List.getElem?_eq_none (by rw [u8s_length]; exact h1)] at hv; cases hv
      obtain ⟨g', o', e, _, _, hc⟩ := hl.2.2 (by omega)
      simp only [Option.some.injEq, Addr.mk.injEq, and_true] at e
      obtain ⟨rfl, rfl⟩ := e
      have e1 : (⟨g, o, none⟩ : Addr).add j = ⟨g, o + j, none⟩ := by unfold Addr.add; split <;> simp_all
      rw [e1, hc j (by omega), ← hv, u8s_at _ _ hj]) (by rw [u8s_length, hlen]; omega) (u8s_one l)
  rw [this, u8s_length, hlen]
  have hd : cs.toList.drop (0 + N) = [] := List.drop_of_length_le (by simp; omega)
  rw [hd, List.append_nil, List.take_zero, List.nil_append]
  rfl

set_option maxRecDepth 100000 in
set_option maxHeartbeats 800000 in
theorem opensector_any (b b2 : Nat) (A : Option Addr) (c : Nat) (l : List Nat) (w : World) (hl : Bytes w b2 A 256 l) :
    Calls Tryz.prog 148 #[.pointer (some ⟨b, 0, none⟩), .slice A 256 c] w (Opened w 118 256 l) := by
  obtain ⟨g, o, rfl, hlt, _, hc⟩ := hl.2.2 (by omega)
  have hz := zero256
  have hb0 := Blk.new w 118 (Array.replicate 256 (.int .u8 0))
  have hcp := run_copy_full (c := c) hb0 (by simp) (bytes_keepN hl (World.grownBy_alloc w _ none))
  have HB := Lib.hid (blk_setRow hb0 (u8s l).toArray)
  have HG := Lib.hid (grown_setRow (World.grownBy_alloc w (.cells (Array.replicate 256 (.int .u8 0)) 118) none) (Nat.le_refl _) (u8s l).toArray)
  clear hc hl hb0
  generalize hcs : (u8s l).toArray = cs at *
  have HCS := Lib.hid hcs; clear hcs
  generalize hzz : Array.replicate 256 (Value.int .u8 0) = zs at *
  clear hzz
  go_enter Tryz.func148, Tryz.ntmps148
  go_wp2
  go_ret2
  exact ⟨rfl, HG.out, by rw [HCS.out]; exact HB.out⟩
set_option maxRecDepth 100000 in
theorem opensector_nil (A : Option Addr) (n c : Nat) (w : World) :
    Calls Tryz.prog 148 #[.pointer none, .slice A n c] w fun e w' => e = .returned (.tuple #[.slice none 0 0, .bool false]) ∧ w = w' := by
  go_enter Tryz.func148, Tryz.ntmps148
  go_wp2
  go_ret2
  exact ⟨rfl, rfl⟩
set_option maxRecDepth 100000 in
theorem opensector_no (b : Nat) (A : Option Addr) (n c : Nat) (w : World) (hn : n ≠ 256) :
    Calls Tryz.prog 148 #[.pointer (some ⟨b, 0, none⟩), .slice A n c] w fun e w' => e = .returned (.tuple #[.slice none 0 0, .bool false]) ∧ w = w' := by
  have hne : (((n : Nat) : Int) != 256) = true := by simp; omega
  go_enter Tryz.func148, Tryz.ntmps148
  go_wp2
  go_ret2
  exact ⟨rfl, rfl⟩
theorem u8s_bytes (s : ByteArray) : Lib.byteCells s.data.toList = u8s (s.data.toList.map UInt8.toNat) := by simp [Lib.byteCells, u8s]
set_option maxRecDepth 100000 in
set_option maxHeartbeats 800000 in
/-- A mark of four bytes is written at the cursor's place. -/
theorem mark_any (p g k n : Nat) (t : TypeId) (L : List Nat) (s : ByteArray) (xs : List Nat) (w : World) (hc : Cur w p g k n) (hg : Blk w g t (u8s L).toArray) (ht : t ≠ 155)
    (hs : s.data.toList.map UInt8.toNat = xs) (h4 : s.size = 4) (h : 4 ≤ n) (hn : k + n ≤ L.length) (hL : L.length ≤ 4096) :
    Calls Tryz.prog 100 #[.pointer (some ⟨p, 0, none⟩), .string s] w fun e w' =>
      e = .returned (.tuple #[]) ∧ Left w w' p g ∧ Cur w' p g (k + 4) (n - 4) ∧ Blk w' g t (u8s (lay L k xs)).toArray := by
  have hpg := hc.ne hg ht
  have HG := Lib.hid hg; have HC := Lib.hid hc; have HS := Lib.hid hs; clear hc hg hs
  have h4' : (s.size : Int) = 4 := by omega
  go_enter Tryz.func100, Tryz.ntmps100
  go_wp2_with fail
  refine (take_any p g k n 4 w HC.out h (by omega)).mono ?_
  rintro e w1 ⟨⟨k0, rfl, hk⟩, hgr, hc1⟩
  obtain rfl := hk (by omega)
  have hb1 := HG.out.grown hgr (by simpa using fun e => hpg e.symm)
  have hcp := fun ty => Lib.run_copy_row_string (P := Tryz.prog) w1 38 9 ty 5 g k0 4 4 s _ t Tryz.underlying38 u8_one hb1 (by omega) (by simp [u8s_length]; omega)
  have hspl : (u8s L).toArray.toList.take k0 ++ Lib.byteCells s.data.toList ++ (u8s L).toArray.toList.drop (k0 + s.size) = u8s (lay L k0 xs) := by
    have hx : (u8s xs).length = s.size := by rw [← HS.out, u8s_length, List.length_map, Array.length_toList]; rfl
    rw [u8s_lay, splice, u8s_bytes, HS.out, List.append_assoc, hx]
  rw [hspl] at hcp
  have HB := Lib.hid (blk_setRow hb1 (u8s (lay L k0 xs)).toArray)
  have HC1 := Lib.hid hc1; have HGR := Lib.hid (Left.of1 hgr g)
  have hset : Left w1 (w1.setRow g (u8s (lay L k0 xs)).toArray) p g := ⟨rfl, rfl, rfl, by simp [World.setRow], fun i _ _ h2 => setRow_other w1 g i _ h2⟩
  have hc2 : Cur (w1.setRow g (u8s (lay L k0 xs)).toArray) p g (k0 + 4) (n - 4) := by
    obtain ⟨k1, hb, hk1⟩ := hc1
    exact ⟨k1, (setRow_other w1 g p _ hpg).trans hb, hk1⟩
  have HSET := Lib.hid hset; have HC2 := Lib.hid hc2
  clear hb1 hc1 hgr hk hspl hset hc2
  generalize hcs : (u8s (lay L k0 xs)).toArray = cs at *
  have HCS := Lib.hid hcs; clear hcs
  go_wp2
  go_end0
  exact ⟨rfl, HGR.out.trans HSET.out, HC2.out, by rw [HCS.out]; exact HB.out⟩

theorem all_zero {l : List Nat} (h : ∀ q, q < l.length → l.getD q 0 = 0) : l = List.replicate l.length 0 := by
  refine List.ext_getElem (by simp) (fun i h1 h2 => ?_)
  have := h i h1
  rw [List.getD_eq_getElem?_getD, List.getElem?_eq_getElem h1] at this
  simpa using this
theorem not_zero {l : List Nat} (j : Nat) (h : l.getD j 0 ≠ 0) : l ≠ List.replicate l.length 0 := by
  intro e
  apply h
  rw [e, List.getD_eq_getElem?_getD, List.getElem?_replicate]
  split <;> rfl
set_option maxRecDepth 100000 in
set_option maxHeartbeats 800000 in
theorem never_any (b : Nat) (A : Option Addr) (n c : Nat) (l : List Nat) (w : World) (hl : Bytes w b A n l) (hn : n ≤ 9223372036854775807) :
    Calls Tryz.prog 149 #[.slice A n c] w fun e w' => e = .returned (.bool (decide (l = List.replicate n 0))) ∧ w = w' := by
  have hlen := hl.1
  have HLEN := Lib.hid hlen; have HL := Lib.hid hl; clear hlen hl
  generalize hr : List.replicate n 0 = r at *
  have HR := Lib.hid hr; clear hr
  go_enter Tryz.func149, Tryz.ntmps149
  go_wp2_with fail
  go_loop [4, 7] (fun _ i => ∃ j : Nat, j ≤ n ∧ i = .int .i64 j ∧ (∀ q, q < j → l.getD q 0 = 0)) (fun _ i => n - (intOf i).toNat)
  case atStart => exact ⟨0, by omega, rfl, fun q hq => by omega⟩
  case round =>
    obtain ⟨j, hj, rfl, hin⟩ := hrel
    have HIN := Lib.hid hin; clear hin
    by_cases hlt : j < n
    · obtain ⟨g, o, rfl, _, _, hc⟩ := HL.out.2.2 (by omega)
      have hcj := hc j hlt
      clear hc
      by_cases hz : l.getD j 0 = 0
      · have hin' : ∀ q, q < j + 1 → l.getD q 0 = 0 := by
          intro q hq
          by_cases e : q = j
          · subst e; exact hz
          · exact HIN.out q (by omega)
        have HIN' := Lib.hid hin'; clear hin'
        rw [hz] at hcj
        clear hz
        go_wp2
        refine ⟨⟨j + 1, by omega, by go_num, HIN'.out⟩, by simp [intOf]; omega⟩
      · have hno : decide (l = r) = false := by
          have := not_zero j hz
          rw [HLEN.out, HR.out] at this
          simpa using this
        have HNO := Lib.hid hno; clear hno
        have hne : (((l.getD j 0 : Nat) : Int) != 0) = true := by simp at hz ⊢; omega
        generalize l.getD j 0 = x at *
        go_wp2
        go_ret
        exact ⟨by rw [HNO.out]; rfl, rfl⟩
    · obtain rfl : j = n := by omega
      have hy : decide (l = r) = true := by
        have := all_zero (l := l) (fun q hq => HIN.out q (by rw [HLEN.out] at hq; exact hq))
        rw [HLEN.out, HR.out] at this
        simpa using this
      have HY := Lib.hid hy; clear hy
      go_wp2
      go_ret
      exact ⟨by rw [HY.out]; rfl, rfl⟩
end Go.Proofs.YteaokeiolgjhaaaGreat.Codec
/- The project's calls for counts: PutCounts, GetCounts. -/
namespace Go.Proofs.YteaokeiolgjhaaaGreat.Codec
open Go.RowKit CrcMath CodecMath Mem Crc

/-- What a call of the project's that writes a record leaves: its bytes as an array of its own, or ErrArg. -/
def Gave (w : World) (t : TypeId) (o : Option (List Nat)) (e : Ending) (w' : World) : Prop :=
  w.grownBy w' none ∧ ((∃ l g, o = some l ∧ e = .returned (.tuple #[.slice (some ⟨g, 0, none⟩) l.length l.length, .int .i64 0]) ∧ w.heap.size ≤ g ∧ Blk w' g t (u8s l).toArray ∧ ∀ x ∈ l, x < 256) ∨
    (o = none ∧ e = .returned (.tuple #[.slice none 0 0, .int .i64 1])))
/-- The cursor over a new array. -/
theorem cur_new (w : World) (g N : Nat) (k : Nat) (hk : k = 0) : Cur (w.alloc (.cells #[.slice (some ⟨g, 0, none⟩) N N] 155)) w.heap.size g k N := ⟨0, Blk.new w _ _, fun _ => hk.symm⟩

theorem own_of_blk {w : World} {g base n : Nat} {e : TypeId} {xs : List Value} (h : Blk w g e xs.toArray) (hn : xs.length = n) (hb : base ≤ g) (hm : n ≤ maxLen) : Own w base e 1 (.slice (some ⟨g, 0, none⟩) n n) n xs :=
  .inr ⟨g, xs.toArray, _, rfl, hb, h, hm, by simp, by omega⟩
theorem int_one : (Tryz.prog.info? 3).map (·.size) = some 1 := by kernel_rfl
theorem set_zeros (xs : List Value) (v z : Value) (c j : Nat) (hx : xs.length = j) (hj : j < c) : (xs ++ List.replicate (c - j) z).toArray.setIfInBounds j v = (xs ++ [v] ++ List.replicate (c - (j + 1)) z).toArray := by
  obtain ⟨q, hq⟩ : ∃ q, c - j = q + 1 := ⟨c - j - 1, by omega⟩
  rw [hq, show c - (j + 1) = q from by omega]
  simp only [List.setIfInBounds_toArray]
  rw [List.set_append, if_neg (by omega), hx, Nat.sub_self, List.replicate_succ]
  simp
theorem made_ints (n : Nat) : madeCells (Value.int .i64 0).cells n = (List.replicate n (Value.int .i64 0)).toArray := by
  refine Array.ext (by simp [size_madeCells]) (fun i h1 h2 => ?_)
  simp [madeCells, Value.cells, Nat.mod_one]
theorem run_ints (n : Nat) (w : World) (h : n ≤ 4096) : (Instr.makeSlice 32 (.int .i64 n) (.int .i64 n)).run Tryz.prog w = .ok (.slice (some ⟨w.heap.size, 0, none⟩) n n) (w.alloc (.cells (List.replicate n (Value.int .i64 0)).toArray 3)) := by
  obtain ⟨i0, hi0, hz0, hz1, hz2⟩ := info_parts int_info
  have h := run_make (P := Tryz.prog) w 32 3 i0 _ Tryz.underlying32 hi0 hz0 .i64 .i64 n n (by omega) (Int.le_refl _) (by rw [hz2]; omega) (by omega)
  rw [h, hz1, Nat.mul_one, Int.toNat_natCast, made_ints]
set_option maxRecDepth 100000 in
set_option maxHeartbeats 1600000 in
theorem readall_any (p g k n count width : Nat) (t : TypeId) (L : List Nat) (w : World) (hc : Cur w p g k n) (hg : Blk w g t (u8s L).toArray) (ht : t ≠ 155) (hb : ∀ x ∈ L, x < 256)
    (h : width * count ≤ n) (hn : k + n ≤ L.length) (hL : L.length ≤ 4096) (hcnt : count ≤ 4096) (hw : width ≤ 7) :
    Calls Tryz.prog 195 #[.pointer (some ⟨p, 0, none⟩), .int .i64 count, .int .i64 width] w fun e w' =>
      ∃ v, e = .returned v ∧ Own w' w.heap.size 3 1 v count (i64s (numsAt L k width width count)) ∧ w.grownBy w' (some p) ∧ Cur w' p g (k + width * count) (n - width * count) := by
  have hpg := hc.ne hg ht
  have hpl : p < w.heap.size := by obtain ⟨_, h, _⟩ := hc; exact h.lt
  have HG := Lib.hid hg; have HC := Lib.hid hc; have HBS := Lib.hid hb; clear hc hg hb
  by_cases h0 : count = 0
  · subst h0
    go_enter Tryz.func195, Tryz.ntmps195
    go_wp2
    go_ret
    exact ⟨_, rfl, Own.nil _ _ _ _, World.grownBy.refl _ _, by simpa using HC.out⟩
  · have hne : (((count : Nat) : Int) == 0) = false := by simp; omega
    have hmk := run_ints count w hcnt
    go_enter Tryz.func195, Tryz.ntmps195
    go_wp2_with fail
    go_loopw [8, 15] (fun _ i wr => ∃ j : Nat, j ≤ count ∧ i = .int .i64 j ∧ Left w wr p w.heap.size ∧ Cur wr p g (k + width * j) (n - width * j) ∧ Blk wr w.heap.size 3 (i64s (numsAt L k width width j) ++ List.replicate (count - j) (Value.int .i64 0)).toArray) (fun _ i _ => count - (intOf i).toNat)
    case atStart =>
      refine ⟨0, by omega, rfl, Left.of0 (World.grownBy_alloc w _ none) _ _, HC.out.grown (World.grownBy_alloc w _ none) (by simp), ?_⟩
      exact Blk.new w _ _
    case round =>
      obtain ⟨j, hj, rfl, hlf, hc, hbk⟩ := hrel
      have HLF := Lib.hid hlf; have HCr := Lib.hid hc; have HBK := Lib.hid hbk
      clear hlf hc hbk
      by_cases hlt : j < count
      · have hmul : width * j + width ≤ width * count := by rw [← Nat.mul_succ]; exact Nat.mul_le_mul_left _ hlt
        have HGr := Lib.hid (HLF.out.blk HG.out (fun e => hpg e.symm) (fun e => by have := HG.out.lt; omega))
        have HSN := Lib.hid (numsAt_succ L k width width j)
        obtain ⟨hw1, _⟩ := num_small L (k + width * j) width HBS.out hw
        have HW1 := Lib.hid hw1; clear hw1
        have HSZ := Lib.hid (set_zeros (i64s (numsAt L k width width j)) (.int .i64 ((num L (k + width * j) width : Nat) : Int)) (.int .i64 0) count j (by rw [i64s_length, numsAt_length]) hlt)
        have hsl : (i64s (numsAt L k width width j) ++ List.replicate (count - j) (Value.int .i64 0)).length = count := by rw [List.length_append, i64s_length, numsAt_length, List.length_replicate]; omega
        have HSL := Lib.hid hsl; clear hsl
        go_wp2_with fail
        refine (read_any p g (k + width * j) (n - width * j) width t L _ HCr.out HGr.out ht HBS.out (by omega) (by omega) hL).mono ?_
        rintro e w2 ⟨rfl, hg2, hc2⟩
        rw [HW1.out]
        have hb2 := HBK.out.grown hg2 (by simp; omega)
        have hcell := hb2.cell j
        rw [List.getElem?_toArray, List.getElem?_eq_getElem (by rw [HSL.out]; exact hlt)] at hcell
        have hfr := hb2.frozen j
        have HB2 := Lib.hid hb2; have HC2 := Lib.hid hc2; have HL2 := Lib.hid (HLF.out.trans (Left.of1 hg2 w.heap.size))
        clear hg2 hc2 hb2
        generalize num L (k + width * j) width = x at *
        go_wp2_with fail
        refine ⟨⟨j + 1, by omega, by go_num, HL2.out.trans (Left.of2 (only_set (World.grownBy.refl _ _) _ _) p), ?_, ?_⟩, by simp [intOf]; omega⟩
        · have h := HC2.out.grown (only_set (World.grownBy.refl w2 (some w.heap.size)) j (.int .i64 (x : Int))) (by simp; omega)
          rwa [show k + width * j + width = k + width * (j + 1) from by rw [Nat.mul_succ]; omega, show n - width * j - width = n - width * (j + 1) from by rw [Nat.mul_succ]; omega] at h
        · have h := HB2.out.set_ j (.int .i64 (x : Int))
          rw [HSZ.out] at h
          rw [HSN.out, i64s_append]
          exact h
      · obtain rfl : j = count := by omega
        go_wp2
        go_ret
        refine ⟨_, rfl, ?_, ⟨HLF.out.os, HLF.out.tape, HLF.out.output, HLF.out.size, fun i hi hne => HLF.out.block i hi (by simpa using hne) (by omega)⟩, HCr.out⟩
        have h := HBK.out
        rw [Nat.sub_self, List.replicate_zero, List.append_nil] at h
        exact own_of_blk h (by rw [i64s_length, numsAt_length]) (Nat.le_refl _) (by simp [maxLen]; omega)

theorem Gave.none_ {w : World} {t : TypeId} {e : Ending} {w' : World} (h : Gave w t none e w') : w.grownBy w' none ∧ e = .returned (.tuple #[.slice none 0 0, .int .i64 1]) := by
  obtain ⟨hg, ⟨l, g, ho, _⟩ | ⟨_, he⟩⟩ := h
  · cases ho
  · exact ⟨hg, he⟩
theorem Gave.some_ {w : World} {t : TypeId} {e : Ending} {w' : World} {l : List Nat} (h : Gave w t (some l) e w') :
    w.grownBy w' none ∧ ∃ g, e = .returned (.tuple #[.slice (some ⟨g, 0, none⟩) l.length l.length, .int .i64 0]) ∧ w.heap.size ≤ g ∧ Blk w' g t (u8s l).toArray ∧ ∀ x ∈ l, x < 256 := by
  obtain ⟨hg, ⟨l', g, ho, he, rest⟩ | ⟨ho, _⟩⟩ := h
  · obtain rfl : l = l' := by injection ho
    exact ⟨hg, g, he, rest⟩
  · cases ho

end Go.Proofs.YteaokeiolgjhaaaGreat.Codec
/- The project's calls for superblocks: PutSuper, GetSuper. -/
namespace Go.Proofs.YteaokeiolgjhaaaGreat.Codec
open Go.RowKit CrcMath CodecMath Mem Crc

/-- What a call that writes a sector leaves; S: the block that it may turn (the table's, where its numbers are not laid yet). -/
def Gives (w : World) (S : Option Nat) (b : Nat) (o : Option (List Nat)) (e : Ending) (w' : World) : Prop :=
  w.grownBy w' S ∧ ((∃ l g, o = some l ∧ e = .returned (.tuple #[.slice (some ⟨g, 0, none⟩) l.length l.length, .int .i64 0]) ∧ w.heap.size ≤ g ∧ Blk w' g 118 (u8s l).toArray ∧ (∀ x ∈ l, x < 256) ∧ Ready w' b) ∨
    (o = none ∧ e = .returned (.tuple #[.slice none 0 0, .int .i64 1])))
/-- The same, told of the table: where nothing is written, nothing has turned. -/
def GivesT (w : World) (S : Option Nat) (b : Nat) (o : Option (List Nat)) (e : Ending) (w' : World) : Prop :=
  w.grownBy w' S ∧ ((∃ l g, o = some l ∧ e = .returned (.tuple #[.slice (some ⟨g, 0, none⟩) l.length l.length, .int .i64 0]) ∧ w.heap.size ≤ g ∧ Blk w' g 118 (u8s l).toArray ∧ (∀ x ∈ l, x < 256) ∧ Ready w' b) ∨
    (o = none ∧ e = .returned (.tuple #[.slice none 0 0, .int .i64 1]) ∧ w.grownBy w' none))
theorem GivesT.gives {w : World} {S : Option Nat} {b : Nat} {o : Option (List Nat)} {e : Ending} {w' : World} (h : GivesT w S b o e w') : Gives w S b o e w' := by
  obtain ⟨hg, hl | ⟨h1, h2, _⟩⟩ := h
  · exact ⟨hg, .inl hl⟩
  · exact ⟨hg, .inr ⟨h1, h2⟩⟩
/-- What a table is, and what asking it may turn. -/
def TabS (w : World) (b : Nat) (S : Option Nat) : Prop := (Ready w b ∧ S = none) ∨ (Tab w b ∧ S = some b)
theorem TabS.asks {w w1 : World} {b : Nat} {S : Option Nat} (h : TabS w b S) (hg : w.grownBy w1 none) (g : Nat) : ∃ s, Asks w1 b g s ∧ (∀ w2, Left w1 w2 g s → w.heap.size ≤ g → w.grownBy w2 S) := by
  rcases h with ⟨h, rfl⟩ | ⟨h, rfl⟩
  · exact ⟨g, .inl ⟨h.keep hg (by simp), rfl⟩, fun w2 hl hge => hl.new hg hge hge⟩
  · refine ⟨b, .inr ⟨tab_keep h hg (by simp), rfl⟩, fun w2 hl hge => ?_⟩
    exact ⟨hl.os.trans hg.os, hl.tape.trans hg.tape, hl.output.trans hg.output, Nat.le_trans hg.size hl.size, fun k hk hne => (hl.block k (Nat.lt_of_lt_of_le hk hg.size) (by omega) (by simpa using hne)).trans (hg.block k hk (by simp))⟩
theorem TabS.lt {w : World} {b : Nat} {S : Option Nat} (h : TabS w b S) : b < w.heap.size := by
  rcases h with ⟨⟨_, h, _⟩, _⟩ | ⟨⟨_, h, _⟩ | ⟨_, h, _⟩, _⟩ <;> exact h.lt
theorem grown_any_row {w w' : World} (h : w.grownBy w' none) (S : Option Nat) : w.grownBy w' S := ⟨h.os, h.tape, h.output, h.size, fun i hi _ => h.block i hi (by simp)⟩
/-- A new array and a cursor over it. -/
theorem start_row {w W : World} (hg : w.grownBy W none) (t : TypeId) (N : Nat) (zs : Array Value) (hz : (u8s (fill [] N)).toArray = zs) :
    w.grownBy ((W.alloc (.cells zs t)).alloc (.cells #[.slice (some ⟨W.heap.size, 0, none⟩) N N] 155)) none ∧
    Cur ((W.alloc (.cells zs t)).alloc (.cells #[.slice (some ⟨W.heap.size, 0, none⟩) N N] 155)) (W.heap.size + 1) W.heap.size 0 N ∧
    Blk ((W.alloc (.cells zs t)).alloc (.cells #[.slice (some ⟨W.heap.size, 0, none⟩) N N] 155)) W.heap.size t (u8s (fill [] N)).toArray := by
  refine ⟨(hg.trans (World.grownBy_alloc W _ none)).trans (World.grownBy_alloc _ _ none), ?_, ?_⟩
  · simpa using cur_new (W.alloc (.cells zs t)) W.heap.size N 0 rfl
  · rw [hz]
    exact (Blk.new W _ zs).alloc _
/-- What of a superblock stands when j of its numbers are written. -/
def superP (s : List Int) (j : Nat) : List Nat := [80, 83, 85, 80] ++ ((s.take j).flatMap fun n => be 8 n.toNat)
theorem superP_len (s : List Int) (j : Nat) (hs : s.length = 7) (h : j ≤ 7) : (superP s j).length = 4 + 8 * j := by
  rw [superP, List.length_append, flat_len, List.length_take, hs, Nat.min_eq_left h]; rfl
theorem superP_succ (s : List Int) (j : Nat) (hs : s.length = 7) (h : j < 7) : superP s (j + 1) = superP s j ++ be 8 (s.getD j 0).toNat := by
  rw [superP, take_flat s 8 j (by omega), ← List.append_assoc]; rfl
theorem superP_all (s : List Int) (hs : s.length = 7) : superP s 7 = superB s := by rw [superP, List.take_of_length_le (by omega)]; rfl
theorem index7 (a0 a1 a2 a3 a4 a5 a6 : Int) (j : Nat) (hj : j < 7) (w : World) :
    (Instr.index 182 (.agg #[.int .i64 a0, .int .i64 a1, .int .i64 a2, .int .i64 a3, .int .i64 a4, .int .i64 a5, .int .i64 a6]) (.int .i64 j)).run Tryz.prog w = .ok (.int .i64 ([a0, a1, a2, a3, a4, a5, a6].getD j 0)) w := by
  obtain rfl | rfl | rfl | rfl | rfl | rfl | rfl : j = 0 ∨ j = 1 ∨ j = 2 ∨ j = 3 ∨ j = 4 ∨ j = 5 ∨ j = 6 := by omega
  · kernel_rfl
  · kernel_rfl
  · kernel_rfl
  · kernel_rfl
  · kernel_rfl
  · kernel_rfl
  · kernel_rfl
theorem superOk_of (s : List Int) : superOk s = allB s 1099511627776 := rfl

set_option maxRecDepth 100000 in
set_option maxHeartbeats 1600000 in
theorem put_super_core (b : Nat) (S : Option Nat) (a0 a1 a2 a3 a4 a5 a6 : Int) (w : World) (hT : TabS w b S) :
    Calls Tryz.prog 136 #[.pointer (some ⟨b, 0, none⟩), .agg #[.int .i64 a0, .int .i64 a1, .int .i64 a2, .int .i64 a3, .int .i64 a4, .int .i64 a5, .int .i64 a6]] w (GivesT w S b (superW [a0, a1, a2, a3, a4, a5, a6])) := by
  have HT := Lib.hid hT; clear hT
  have hz := zero256
  go_enter Tryz.func136, Tryz.ntmps136
  go_wp2_with fail
  generalize hs : [a0, a1, a2, a3, a4, a5, a6] = s at *
  have hlen : s.length = 7 := by subst hs; rfl
  have hget : ∀ j, j < 7 → (#[Value.int .i64 a0, .int .i64 a1, .int .i64 a2, .int .i64 a3, .int .i64 a4, .int .i64 a5, .int .i64 a6] : Array Value)[j]? = some (.int .i64 (s.getD j 0)) := by
    subst hs
    intro j hj
    match j, hj with
    | 0, _ | 1, _ | 2, _ | 3, _ | 4, _ | 5, _ | 6, _ => rfl
  have HLEN := Lib.hid hlen; have HGET := Lib.hid hget; have HS := Lib.hid hs; clear hlen hget hs
  have hg0 := (World.grownBy_alloc w (.cells #[.int .i64 a0, .int .i64 a1, .int .i64 a2, .int .i64 a3, .int .i64 a4, .int .i64 a5, .int .i64 a6] 49) none).trans (World.grownBy_alloc _ (.cells #[.int .i64 a0, .int .i64 a1, .int .i64 a2, .int .i64 a3, .int .i64 a4, .int .i64 a5, .int .i64 a6] 182) none)
  have hb0 := Blk.new (w.alloc (.cells #[.int .i64 a0, .int .i64 a1, .int .i64 a2, .int .i64 a3, .int .i64 a4, .int .i64 a5, .int .i64 a6] 49)) 182 #[.int .i64 a0, .int .i64 a1, .int .i64 a2, .int .i64 a3, .int .i64 a4, .int .i64 a5, .int .i64 a6]
  rw [World.size_alloc] at hb0
  have HG0 := Lib.hid hg0; have HB0 := Lib.hid hb0; clear hg0 hb0
  refine (allwithin_cells (some ⟨w.heap.size + 1, 0, none⟩) 7 7 s 1099511627776 _ HLEN.out (fun _ => ⟨_, 0, rfl, fun j hj => ?_⟩) (by omega)).mono ?_
  · rw [Nat.zero_add, HB0.out.cell]
    exact HGET.out j hj
  rintro e w1 ⟨rfl, rfl⟩
  cases hall : allB s 1099511627776 with
  | false =>
    have HNO := Lib.hid (show superW s = none by simp [superW, superOk_of, hall])
    clear hall
    go_wp2
    go_ret2
    exact ⟨grown_any_row HG0.out S, .inr ⟨by first | exact HNO.out | (rw [HS.out]; exact HNO.out), rfl, HG0.out⟩⟩
  | true =>
    have HYES := Lib.hid (show superW s = some (frame (superB s)) by simp [superW, superOk_of, hall])
    have HBD := Lib.hid (fun j hj => allB_yes hall j (by rw [HLEN.out]; exact hj) : ∀ j, j < 7 → 0 ≤ s.getD j 0 ∧ s.getD j 0 ≤ 1099511627776)
    clear hall
    have hfz := fill_zero 256
    have HFZ := Lib.hid hfz; clear hfz
    generalize hzz : Array.replicate 256 (Value.int .u8 0) = zs at *
    clear hzz
    have hst := start_row HG0.out 118 256 zs HFZ.out
    simp only [World.size_alloc] at hst
    obtain ⟨hg1, hc1, hb1⟩ := hst
    have HG1 := Lib.hid hg1; have HC1 := Lib.hid hc1; have HB1 := Lib.hid hb1; have HBA := Lib.hid ((HB0.out.alloc (.cells zs 118)).alloc (.cells #[.slice (some ⟨w.heap.size + 1 + 1, 0, none⟩) 256 256] 155))
    clear hg1 hc1 hb1
    go_wp2_with fail
    refine (mark_any _ _ 0 256 _ _ _ [80, 83, 85, 80] _ HC1.out HB1.out (by decide) rfl rfl (by omega) (by rw [fill_length _ _ (by simp)]; omega) (by rw [fill_length _ _ (by simp)]; omega)).mono ?_
    rintro e w2 ⟨rfl, hlf, hc2, hb2⟩
    rw [show lay (fill [] 256) 0 [80, 83, 85, 80] = fill [80, 83, 85, 80] 256 from lay_fill [] [80, 83, 85, 80] 256] at hb2
    have hba := hlf.blk HBA.out (by omega) (by omega)
    have hx0 := hba.cell 0; have hx1 := hba.cell 1; have hx2 := hba.cell 2; have hx3 := hba.cell 3; have hx4 := hba.cell 4; have hx5 := hba.cell 5; have hx6 := hba.cell 6
    simp only [List.getElem?_toArray, List.getElem?_cons_zero, List.getElem?_cons_succ] at hx0 hx1 hx2 hx3 hx4 hx5 hx6
    have HG2 := Lib.hid (hlf.new HG1.out (by omega) (by omega)); have HC2 := Lib.hid hc2; have HB2 := Lib.hid hb2
    clear hlf hc2 hb2 hba
    clear HG1 HC1 HB1 HBA HG0 HB0
    go_wp2_with fail
    go_loopw [10, 36] (fun _ i wr => ∃ j : Nat, j ≤ 7 ∧ i = .int .i64 j ∧ w.grownBy wr none ∧ Cur wr (w.heap.size + 1 + 1 + 1) (w.heap.size + 1 + 1) (4 + 8 * j) (252 - 8 * j) ∧
      Blk wr (w.heap.size + 1 + 1) 118 (u8s (fill (superP s j) 256)).toArray) (fun _ i _ => 7 - (intOf i).toNat)
    case atStart =>
      refine ⟨0, by omega, rfl, HG2.out, HC2.out, ?_⟩
      exact HB2.out
    case round =>
      obtain ⟨j, hj, rfl, hg, hc, hb⟩ := hrel
      have HG := Lib.hid hg; have HC := Lib.hid hc; have HBK := Lib.hid hb
      clear hg hc hb
      have hpl := superP_len s j HLEN.out hj
      by_cases hlt : j < 7
      · obtain ⟨hx0, hx1⟩ := HBD.out j hlt
        have hly := lay_fill (superP s j) (be 8 (s.getD j 0).toNat) 256
        rw [hpl, ← superP_succ s j HLEN.out hlt] at hly
        have hfl := fill_length (superP s j) 256 (by omega)
        have HLY := Lib.hid hly; have HFL := Lib.hid hfl; clear hly hpl hfl
        have hix := index7 a0 a1 a2 a3 a4 a5 a6 j hlt wr
        rw [HS.out] at hix
        generalize s.getD j 0 = x at *
        obtain ⟨m, rfl⟩ := Int.eq_ofNat_of_zero_le hx0
        rw [Int.toNat_natCast] at HLY
        go_wp2_with fail
        refine (write_any _ _ (4 + 8 * j) (252 - 8 * j) 8 m _ _ _ HC.out HBK.out (by decide) (by omega) (by rw [HFL.out]; omega) (by rw [HFL.out]; omega) (by omega)).mono ?_
        rintro e w3 ⟨rfl, hlf, hc3, hb3⟩
        rw [HLY.out] at hb3
        have HG3 := Lib.hid (hlf.new HG.out (by omega) (by omega)); have HC3 := Lib.hid hc3; have HB3 := Lib.hid hb3
        clear hlf hc3 hb3 hix
        go_wp2_with fail
        go_roundw
        case rel =>
          refine ⟨j + 1, by omega, by go_num, HG3.out, ?_, HB3.out⟩
          have h := HC3.out
          rwa [show 4 + 8 * j + 8 = 4 + 8 * (j + 1) from by omega, show 252 - 8 * j - 8 = 252 - 8 * (j + 1) from by omega] at h
        case measure => simp [intOf]; omega
      · obtain rfl : j = 7 := by omega
        have hbk := HBK.out
        rw [superP_all s HLEN.out] at hbk
        have HBL := Lib.hid hbk
        obtain ⟨sb, hasks, hleft⟩ := HT.out.asks HG.out (w.heap.size + 1 + 1)
        have HAS := Lib.hid hasks; have HLE := Lib.hid hleft
        have hblt := HT.out.lt
        clear hbk hasks hleft hpl
        go_wp2_with fail
        refine (seal_any b (w.heap.size + 1 + 1) sb (superB s) _ HAS.out HBL.out (by rw [superB_len s HLEN.out]; omega) (superB_lt s) (by omega)).mono ?_
        rintro e w3 ⟨rfl, hlf, hr3, hb3⟩
        have HG3 := Lib.hid (HLE.out _ hlf (by omega)); have HR3 := Lib.hid hr3; have HB3 := Lib.hid hb3
        clear hlf hr3 hb3
        go_wp2
        go_ret2
        refine ⟨HG3.out, .inl ⟨_, w.heap.size + 1 + 1, by first | exact HYES.out | (rw [HS.out]; exact HYES.out), ?_, by omega, HB3.out, frame_lt _ (superB_lt s), HR3.out⟩⟩
        rw [frame_length _ (by rw [superB_len s HLEN.out]; omega)]
        rfl

theorem put_super_any (b : Nat) (S : Option Nat) (a0 a1 a2 a3 a4 a5 a6 : Int) (w : World) (hT : TabS w b S) :
    Calls Tryz.prog 136 #[.pointer (some ⟨b, 0, none⟩), .agg #[.int .i64 a0, .int .i64 a1, .int .i64 a2, .int .i64 a3, .int .i64 a4, .int .i64 a5, .int .i64 a6]] w (Gives w S b (superW [a0, a1, a2, a3, a4, a5, a6])) :=
  (put_super_core b S a0 a1 a2 a3 a4 a5 a6 w hT).mono fun _ _ h => h.gives
theorem Gives.gave {w : World} {b : Nat} {o : Option (List Nat)} {e : Ending} {w' : World} (h : Gives w none b o e w') : Gave w 118 o e w' := by
  obtain ⟨hg, ⟨l, g, ho, he, hge, hb, hl, _⟩ | hn⟩ := h
  · exact ⟨hg, .inl ⟨l, g, ho, he, hge, hb, hl⟩⟩
  · exact ⟨hg, .inr hn⟩
theorem codec_put_super (b : Nat) (a0 a1 a2 a3 a4 a5 a6 : Int) (w : World) (hR : Ready w b) :
    Calls Tryz.prog 136 #[.pointer (some ⟨b, 0, none⟩), .agg #[.int .i64 a0, .int .i64 a1, .int .i64 a2, .int .i64 a3, .int .i64 a4, .int .i64 a5, .int .i64 a6]] w (Gave w 118 (superW [a0, a1, a2, a3, a4, a5, a6])) :=
  (put_super_any b none a0 a1 a2 a3 a4 a5 a6 w (.inl ⟨hR, rfl⟩)).mono fun _ _ h => h.gave
set_option maxRecDepth 100000 in
theorem codec_put_super_nil (a0 a1 a2 a3 a4 a5 a6 : Int) (w : World) :
    Calls Tryz.prog 136 #[.pointer none, .agg #[.int .i64 a0, .int .i64 a1, .int .i64 a2, .int .i64 a3, .int .i64 a4, .int .i64 a5, .int .i64 a6]] w (Gave w 118 none) := by
  go_enter Tryz.func136, Tryz.ntmps136
  go_wp2
  go_ret2
  exact ⟨(World.grownBy_alloc w _ none).trans (World.grownBy_alloc _ _ none), .inr ⟨rfl, rfl⟩⟩
end Go.Proofs.YteaokeiolgjhaaaGreat.Codec
/- The small calls of package super: mayBeWritten, hasRoom, place, Check. -/
namespace Go.Proofs.YteaokeiolgjhaaaGreat.Sup
open Go.RowKit CrcMath CodecMath Mem Crc Codec

set_option maxRecDepth 100000 in
set_option maxHeartbeats 1600000 in
theorem may_any (a0 a1 a2 a3 a4 a5 a6 : Int) (w : World) :
    Calls Tryz.prog 85 #[.agg #[.int .i64 a0, .int .i64 a1, .int .i64 a2, .int .i64 a3, .int .i64 a4, .int .i64 a5, .int .i64 a6]] w fun e w' => e = .returned (.bool (superOk [a0, a1, a2, a3, a4, a5, a6])) ∧ w.grownBy w' none := by
  have HG0 := Lib.hid (World.grownBy_alloc w (.cells #[.int .i64 a0, .int .i64 a1, .int .i64 a2, .int .i64 a3, .int .i64 a4, .int .i64 a5, .int .i64 a6] 49) none)
  go_enter Tryz.func85, Tryz.ntmps85
  go_wp2_with fail
  generalize hs : [a0, a1, a2, a3, a4, a5, a6] = s
  have hlen : s.length = 7 := by subst hs; rfl
  have HLEN := Lib.hid hlen; have HS := Lib.hid hs; clear hlen hs
  go_loopw [4, 20] (fun _ i wr => ∃ j : Nat, j ≤ 7 ∧ i = .int .i64 j ∧ wr = w.alloc (.cells #[.int .i64 a0, .int .i64 a1, .int .i64 a2, .int .i64 a3, .int .i64 a4, .int .i64 a5, .int .i64 a6] 49) ∧ ∀ q, q < j → inB (s.getD q 0) 1099511627776 = true) (fun _ i _ => 7 - (intOf i).toNat)
  case atStart => exact ⟨0, by omega, rfl, rfl, fun q hq => by omega⟩
  case round =>
    obtain ⟨j, hj, rfl, rfl, hall⟩ := hrel
    have HALL := Lib.hid hall; clear hall
    by_cases hlt : j < 7
    · have hix := index7 a0 a1 a2 a3 a4 a5 a6 j hlt (w.alloc (.cells #[.int .i64 a0, .int .i64 a1, .int .i64 a2, .int .i64 a3, .int .i64 a4, .int .i64 a5, .int .i64 a6] 49))
      rw [HS.out] at hix
      have HX := Lib.hid (show s.getD j 0 = s.getD j 0 from rfl)
      generalize hx : s.getD j 0 = x at hix
      have HX := Lib.hid hx; clear hx
      by_cases h0 : x < 0
      · have HNO := Lib.hid (superOk_no s j (by rw [HLEN.out]; exact hlt) (by rw [HX.out]; exact inB_not (by omega)))
        go_wp2
        go_ret
        exact ⟨by rw [HS.out, HNO.out]; first | done | rfl, HG0.out⟩
      · by_cases h1 : 1099511627776 < x
        · have HNO := Lib.hid (superOk_no s j (by rw [HLEN.out]; exact hlt) (by rw [HX.out]; exact inB_not (by omega)))
          go_wp2
          go_ret
          exact ⟨by rw [HS.out, HNO.out]; first | done | rfl, HG0.out⟩
        · have HIN := Lib.hid (show inB (s.getD j 0) 1099511627776 = true from by rw [HX.out]; exact inB_mk (by omega))
          go_wp2
          go_roundw
          case rel =>
            refine ⟨j + 1, by omega, by go_num, by first | exact trivial | rfl, fun q hq => ?_⟩
            rcases Nat.lt_or_ge q j with h | h
            · exact HALL.out q h
            · obtain rfl : q = j := by omega
              exact HIN.out
          case measure => simp [intOf]; omega
    · obtain rfl : j = 7 := by omega
      have HY := Lib.hid (superOk_yes s 7 HLEN.out HALL.out)
      go_wp2
      go_ret
      exact ⟨by rw [HS.out, HY.out]; first | done | rfl, HG0.out⟩

set_option maxRecDepth 100000 in
set_option maxHeartbeats 1600000 in
theorem room_any (a0 a1 a2 a3 a4 a5 a6 n : Int) (w : World) (hok : superOk [a0, a1, a2, a3, a4, a5, a6] = true) :
    Calls Tryz.prog 86 #[.agg #[.int .i64 a0, .int .i64 a1, .int .i64 a2, .int .i64 a3, .int .i64 a4, .int .i64 a5, .int .i64 a6], .int .i64 n] w fun e w' => e = .returned (.bool (roomB [a0, a1, a2, a3, a4, a5, a6] n)) ∧ w.grownBy w' none := by
  have HG0 := Lib.hid (World.grownBy_alloc w (.cells #[.int .i64 a0, .int .i64 a1, .int .i64 a2, .int .i64 a3, .int .i64 a4, .int .i64 a5, .int .i64 a6] 49) none)
  have b2 : 0 ≤ a2 ∧ a2 ≤ 1099511627776 := superOk_at hok 2 (by simp)
  have b3 : 0 ≤ a3 ∧ a3 ≤ 1099511627776 := superOk_at hok 3 (by simp)
  have b4 : 0 ≤ a4 ∧ a4 ≤ 1099511627776 := superOk_at hok 4 (by simp)
  clear hok
  have hw1 : IntKind.i64.wrap (2 + a2) = 2 + a2 := IntWalk.i64_in _ (by omega)
  have hw2 : IntKind.i64.wrap (a3 + a4) = a3 + a4 := IntWalk.i64_in _ (by omega)
  have hr : roomB [a0, a1, a2, a3, a4, a5, a6] n = (decide (16 ≤ a2) && (decide (a2 ≤ 1024) && (decide (2 + a2 ≤ a3) && (decide (64 ≤ a4) && (decide (a3 + a4 ≤ n) && decide (a5 < a4)))))) := rfl
  generalize roomB [a0, a1, a2, a3, a4, a5, a6] n = r at *
  clear b2 b3 b4
  by_cases h1 : 16 ≤ a2
  · by_cases h2 : a2 ≤ 1024
    · by_cases h3 : 2 + a2 ≤ a3
      · by_cases h4 : 64 ≤ a4
        · by_cases h5 : a3 + a4 ≤ n
          · have HR := Lib.hid (show r = decide (a5 < a4) by simp [hr, h1, h2, h3, h4, h5]); clear hr
            go_enter Tryz.func86, Tryz.ntmps86
            go_wp2
            go_ret
            exact ⟨by rw [HR.out]; first | done | rfl, HG0.out⟩
          · have HR := Lib.hid (show r = false by simp [hr, h5]); clear hr
            go_enter Tryz.func86, Tryz.ntmps86
            go_wp2
            go_ret
            exact ⟨by rw [HR.out]; first | done | rfl, HG0.out⟩
        · have HR := Lib.hid (show r = false by simp [hr, h4]); clear hr
          go_enter Tryz.func86, Tryz.ntmps86
          go_wp2
          go_ret
          exact ⟨by rw [HR.out]; first | done | rfl, HG0.out⟩
      · have HR := Lib.hid (show r = false by simp [hr, h3]); clear hr
        go_enter Tryz.func86, Tryz.ntmps86
        go_wp2
        go_ret
        exact ⟨by rw [HR.out]; first | done | rfl, HG0.out⟩
    · have HR := Lib.hid (show r = false by simp [hr, h2]); clear hr
      go_enter Tryz.func86, Tryz.ntmps86
      go_wp2
      go_ret
      exact ⟨by rw [HR.out]; first | done | rfl, HG0.out⟩
  · have HR := Lib.hid (show r = false by simp [hr, h1]); clear hr
    go_enter Tryz.func86, Tryz.ntmps86
    go_wp2
    go_ret
    exact ⟨by rw [HR.out]; first | done | rfl, HG0.out⟩

set_option maxHeartbeats 800000 in
theorem place_any (a0 a1 a2 a3 a4 a5 a6 : Int) (w : World) :
    Calls Tryz.prog 137 #[.agg #[.int .i64 a0, .int .i64 a1, .int .i64 a2, .int .i64 a3, .int .i64 a4, .int .i64 a5, .int .i64 a6]] w fun e w' => e = .returned (.int .i64 (a0.tmod 2)) ∧ w.grownBy w' none := by
  have HG0 := Lib.hid (World.grownBy_alloc w (.cells #[.int .i64 a0, .int .i64 a1, .int .i64 a2, .int .i64 a3, .int .i64 a4, .int .i64 a5, .int .i64 a6] 49) none)
  go_enter Tryz.func137, Tryz.ntmps137
  go_wp2
  go_ret
  exact ⟨rfl, HG0.out⟩

set_option maxRecDepth 100000 in
set_option maxHeartbeats 1600000 in
theorem check_any (a0 a1 a2 a3 a4 a5 a6 n : Int) (w : World) :
    Calls Tryz.prog 41 #[.agg #[.int .i64 a0, .int .i64 a1, .int .i64 a2, .int .i64 a3, .int .i64 a4, .int .i64 a5, .int .i64 a6], .int .i64 n] w fun e w' => e = .returned (.int .i64 (checkE [a0, a1, a2, a3, a4, a5, a6] n)) ∧ w.grownBy w' none := by
  have hb := Blk.new w 49 #[.int .i64 a0, .int .i64 a1, .int .i64 a2, .int .i64 a3, .int .i64 a4, .int .i64 a5, .int .i64 a6]
  have HG0 := Lib.hid (World.grownBy_alloc w (.cells #[.int .i64 a0, .int .i64 a1, .int .i64 a2, .int .i64 a3, .int .i64 a4, .int .i64 a5, .int .i64 a6] 49) none)
  have HB := Lib.hid hb; clear hb
  cases hok : superOk [a0, a1, a2, a3, a4, a5, a6] with
  | false =>
    have HM := Lib.hid (show checkE [a0, a1, a2, a3, a4, a5, a6] n = 1 by simp [checkE, mayB, hok])
    have HOK := Lib.hid hok; clear hok
    go_enter Tryz.func41, Tryz.ntmps41
    go_wp2_with fail
    refine (may_any a0 a1 a2 a3 a4 a5 a6 _).mono ?_
    rintro e w1 ⟨rfl, hg1⟩
    have HG1 := Lib.hid (HG0.out.trans hg1); clear hg1
    rw [HOK.out]
    go_wp2
    go_ret
    exact ⟨by rw [HM.out]; first | done | rfl, HG1.out⟩
  | true =>
    have HROOM := Lib.hid (fun wx => room_any a0 a1 a2 a3 a4 a5 a6 n wx hok)
    have hm : checkE [a0, a1, a2, a3, a4, a5, a6] n = if roomB [a0, a1, a2, a3, a4, a5, a6] n then 0 else 1 := by simp [checkE, mayB, hok]
    have HOK := Lib.hid hok; have HM := Lib.hid hm; clear hok hm
    generalize roomB [a0, a1, a2, a3, a4, a5, a6] n = r at *
    go_enter Tryz.func41, Tryz.ntmps41
    go_wp2_with fail
    refine (may_any a0 a1 a2 a3 a4 a5 a6 _).mono ?_
    rintro e w1 ⟨rfl, hg1⟩
    have HG1 := Lib.hid (HG0.out.trans hg1)
    have hb1 := HB.out.grown hg1 (by simp)
    have x0 := hb1.cell 0; have x1 := hb1.cell 1; have x2 := hb1.cell 2; have x3 := hb1.cell 3; have x4 := hb1.cell 4; have x5 := hb1.cell 5; have x6 := hb1.cell 6
    simp only [List.getElem?_toArray, List.getElem?_cons_zero, List.getElem?_cons_succ] at x0 x1 x2 x3 x4 x5 x6
    clear hg1 hb1
    rw [HOK.out]
    go_wp2_with fail
    refine (HROOM.out _).mono ?_
    rintro e w2 ⟨rfl, hg2⟩
    have HG2 := Lib.hid (HG1.out.trans hg2); clear hg2 x0 x1 x2 x3 x4 x5 x6
    cases r with
    | false =>
      go_wp2
      go_ret
      exact ⟨by rw [HM.out]; first | done | rfl, HG2.out⟩
    | true =>
      go_wp2
      go_ret
      exact ⟨by rw [HM.out]; first | done | rfl, HG2.out⟩
end Go.Proofs.YteaokeiolgjhaaaGreat.Sup
/- The project's GetSuper. -/
namespace Go.Proofs.YteaokeiolgjhaaaGreat.Codec
open Go.RowKit CrcMath CodecMath Mem Crc

/-- Where a reader stands: the cursor in p over the array g, the record that it fills in U. -/
structure Rd (w W : World) (p g U k n : Nat) (t tU : TypeId) (L : List Nat) (cs : Array Value) : Prop where
  grown : w.grownBy W none
  cur : Cur W p g k n
  arr : Blk W g t (u8s L).toArray
  box : Blk W U tU cs
  hp : w.heap.size ≤ p
  hg : w.heap.size ≤ g
  hU : w.heap.size ≤ U
  pu : p ≠ U
  gu : g ≠ U
  pg : p ≠ g
/-- One more number is read, and laid into the record. -/
theorem Rd.step {w W W1 : World} {p g U k n k' n' : Nat} {t tU : TypeId} {L : List Nat} {cs : Array Value} (h : Rd w W p g U k n t tU L cs) (hr : W.grownBy W1 (some p)) (hc : Cur W1 p g k' n') (i : Nat) (v : Value) :
    Rd w (W1.setCell ⟨U, i, none⟩ v) p g U k' n' t tU L (cs.setIfInBounds i v) where
  grown := grown_set (grownBy_new h.grown hr (fun j hj => by cases hj; exact h.hp)) h.hU v
  cur := by obtain ⟨k0, hb, hk⟩ := hc; exact ⟨k0, hb.far h.pu v, hk⟩
  arr := (h.arr.grown hr (by simpa using fun e => h.pg e.symm)).far h.gu v
  box := (h.box.grown hr (by simpa using fun e => h.pu e.symm)).set_ i v
  hp := h.hp
  hg := h.hg
  hU := h.hU
  pu := h.pu
  gu := h.gu
  pg := h.pg
/-- Another block is not touched. -/
theorem Rd.other {w W W1 : World} {p g U k n B : Nat} {t tU tB : TypeId} {L : List Nat} {cs ds : Array Value} (_ : Rd w W p g U k n t tU L cs) (hb : Blk W B tB ds) (hr : W.grownBy W1 (some p)) (h1 : B ≠ p) (h2 : B ≠ U) (i : Nat) (v : Value) :
    Blk (W1.setCell ⟨U, i, none⟩ v) B tB ds := (hb.grown hr (by simpa using h1)).far h2 v
/-- A reader's beginning. -/
theorem rd_start {w W : World} {p g k n : Nat} {t tU : TypeId} {L : List Nat} {cs : Array Value} (hg : w.grownBy W none) (hc : Cur W p g k n) (hb : Blk W g t (u8s L).toArray) (hp : w.heap.size ≤ p) (hge : w.heap.size ≤ g) (hpg : p ≠ g) :
    Rd w (W.alloc (.cells cs tU)) p g W.heap.size k n t tU L cs where
  grown := hg.trans (World.grownBy_alloc W _ none)
  cur := hc.grown (World.grownBy_alloc _ _ none) (by simp)
  arr := hb.alloc _
  box := Blk.new W tU cs
  hp := hp
  hg := hge
  hU := hg.size
  pu := by obtain ⟨_, h, _⟩ := hc; have := h.lt; omega
  gu := by have := hb.lt; omega
  pg := hpg

theorem TabS.keep {w w1 : World} {b : Nat} {S : Option Nat} (h : TabS w b S) (hg : w.grownBy w1 none) : TabS w1 b S := by
  rcases h with ⟨h, rfl⟩ | ⟨h, rfl⟩
  · exact .inl ⟨h.keep hg (by simp), rfl⟩
  · exact .inr ⟨tab_keep h hg (by simp), rfl⟩
theorem TabS.tab {w : World} {b : Nat} {S : Option Nat} (h : TabS w b S) : Tab w b := by
  rcases h with ⟨h, _⟩ | ⟨h, _⟩
  · exact .inr h
  · exact h
theorem TabS.ne {w : World} {b k : Nat} {S : Option Nat} (h : TabS w b S) (hk : w.heap.size ≤ k) : some k ≠ S := by
  have hl := h.lt
  rcases h with ⟨_, rfl⟩ | ⟨_, rfl⟩
  · simp
  · intro e; cases e; omega
theorem TabS.up {w : World} {b : Nat} {S : Option Nat} (h : TabS w b S) {w' : World} (hg : w.grownBy w' S) : w.grownBy w' (some b) := by
  rcases h with ⟨_, rfl⟩ | ⟨_, rfl⟩
  · exact grown_any_row hg _
  · exact hg
/-- What a call that reads a record leaves, where the table may be asked the first time. -/
def ToldT (w : World) (b : Nat) (S : Option Nat) (v : Value) (ok : Bool) (e : Ending) (w' : World) : Prop := w.grownBy w' S ∧ Tab w' b ∧ e = .returned (.tuple #[v, .bool ok]) ∧ (Ready w b ∨ ok = true → Ready w' b)

theorem grown_setS {w w' : World} {S : Option Nat} (h : w.grownBy w' S) {b i : Nat} (hp : w.heap.size ≤ b) (v : Value) : w.grownBy (w'.setCell ⟨b, i, none⟩ v) S :=
  grownBy_new h (Lib.grownBy_setB (World.grownBy.refl w' _) i v) (fun j hj => by cases hj; exact hp)
theorem tab_far {w : World} {b g i : Nat} (h : Tab w b) (hne : b ≠ g) (v : Value) : Tab (w.setCell ⟨g, i, none⟩ v) b := tab_keep h (Lib.grownBy_setB (World.grownBy.refl w _) i v) (by simpa using hne)
theorem tab_sets {w : World} {b g : Nat} (h : Tab w b) {v0 v1 v2 v3 v4 v5 v6 : Value} (hne : b < g) : Tab (((((((w.setCell ⟨g, 0, none⟩ v0).setCell ⟨g, 1, none⟩ v1).setCell ⟨g, 2, none⟩ v2).setCell ⟨g, 3, none⟩ v3).setCell ⟨g, 4, none⟩ v4).setCell ⟨g, 5, none⟩ v5).setCell ⟨g, 6, none⟩ v6) b :=
  tab_far (tab_far (tab_far (tab_far (tab_far (tab_far (tab_far h (by omega) v0) (by omega) v1) (by omega) v2) (by omega) v3) (by omega) v4) (by omega) v5) (by omega) v6
theorem ready_far {w : World} {b g i : Nat} (h : Ready w b) (hne : b ≠ g) (v : Value) : Ready (w.setCell ⟨g, i, none⟩ v) b := h.keep (Lib.grownBy_setB (World.grownBy.refl w _) i v) (by simpa using hne)
theorem ready_sets {w : World} {b g : Nat} (h : Ready w b) {v0 v1 v2 v3 v4 v5 v6 : Value} (hne : b < g) : Ready (((((((w.setCell ⟨g, 0, none⟩ v0).setCell ⟨g, 1, none⟩ v1).setCell ⟨g, 2, none⟩ v2).setCell ⟨g, 3, none⟩ v3).setCell ⟨g, 4, none⟩ v4).setCell ⟨g, 5, none⟩ v5).setCell ⟨g, 6, none⟩ v6) b :=
  ready_far (ready_far (ready_far (ready_far (ready_far (ready_far (ready_far h (by omega) v0) (by omega) v1) (by omega) v2) (by omega) v3) (by omega) v4) (by omega) v5) (by omega) v6
set_option maxRecDepth 100000 in
set_option maxHeartbeats 3200000 in
theorem codec_get_super_core (b : Nat) (S : Option Nat) (A : Option Addr) (n c : Nat) (l : List Nat) (w : World) (hR : TabS w b S) (hl : Bytes w b A n l) :
    Calls Tryz.prog 139 #[.pointer (some ⟨b, 0, none⟩), .slice A n c] w (ToldT w b S (supV ((superR l).getD zero7)) (superR l).isSome) := by
  have hz0 : supV zero7 = .agg #[.int .i64 0, .int .i64 0, .int .i64 0, .int .i64 0, .int .i64 0, .int .i64 0, .int .i64 0] := rfl
  have hlen := hl.1
  have HLT := Lib.hid hl.2.1
  have HBX := Lib.hid (Blk.new w 49 #[.int .i64 0, .int .i64 0, .int .i64 0, .int .i64 0, .int .i64 0, .int .i64 0, .int .i64 0])
  have HG0 := Lib.hid (World.grownBy_alloc w (.cells #[.int .i64 0, .int .i64 0, .int .i64 0, .int .i64 0, .int .i64 0, .int .i64 0, .int .i64 0] 49) none)
  have HLEN := Lib.hid hlen; have HL0 := Lib.hid hl; have HL := Lib.hid (bytes_keepN hl (World.grownBy_alloc w (.cells #[.int .i64 0, .int .i64 0, .int .i64 0, .int .i64 0, .int .i64 0, .int .i64 0, .int .i64 0] 49) none)); have HR := Lib.hid hR; have HBL := Lib.hid hR.lt; clear hlen hl hR
  by_cases h256 : n = 256
  · subst h256
    have HSR := Lib.hid (show superR l = if superW (superN l) = some l then some (superN l) else none from rfl)
    have HSN := Lib.hid (show superN l = [wrap64 (num l 4 8), wrap64 (num l 12 8), wrap64 (num l 20 8), wrap64 (num l 28 8), wrap64 (num l 36 8), wrap64 (num l 44 8), wrap64 (num l 52 8)] from rfl)
    generalize superR l = r at *
    clear hz0
    go_enter Tryz.func139, Tryz.ntmps139
    go_wp2_with fail
    refine (opensector_any b b A c l _ HL.out).mono ?_
    rintro e w1 ⟨rfl, hg1, hb1⟩
    rw [World.size_alloc] at hb1 ⊢
    have hbx1 := HBX.out.grown hg1 (by simp)
    have hsz1 := hg1.size
    rw [World.size_alloc] at hsz1
    have hgw := HG0.out.trans hg1
    have hc1 := cur_new w1 (w.heap.size + 1) 256 0 rfl
    have HB1 := Lib.hid (hb1.alloc (.cells #[.slice (some ⟨w.heap.size + 1, 0, none⟩) 256 256] 155)); have HC1 := Lib.hid hc1
    have HX1 := Lib.hid (hbx1.alloc (.cells #[.slice (some ⟨w.heap.size + 1, 0, none⟩) 256 256] 155))
    have HG1 := Lib.hid (hgw.trans (World.grownBy_alloc w1 (.cells #[.slice (some ⟨w.heap.size + 1, 0, none⟩) 256 256] 155) none))
    have hlt1 := hb1.lt
    clear hg1 hb1 hbx1 hgw hc1
    go_wp2_with fail
    refine (take_any _ _ 0 256 4 _ HC1.out (by omega) (by omega)).mono ?_
    rintro e w2 ⟨⟨k0, rfl, _⟩, hr, hc2⟩
    have hsz2 := hr.size
    rw [World.size_alloc] at hsz2
    have RD0 := Lib.hid (rd_start (tU := 49) (cs := #[.int .i64 0, .int .i64 0, .int .i64 0, .int .i64 0, .int .i64 0, .int .i64 0, .int .i64 0]) (grownBy_new HG1.out hr (fun j hj => by cases hj; omega)) hc2 (HB1.out.grown hr (by simp; omega)) (by omega) (by omega) (by omega))
    have HX2 := Lib.hid ((HX1.out.grown hr (by simp; omega)).alloc (.cells #[.int .i64 0, .int .i64 0, .int .i64 0, .int .i64 0, .int .i64 0, .int .i64 0, .int .i64 0] 49))
    clear hr hc2
    generalize w1.heap.size = p at *
    go_wp2_with fail
    refine (read_any p (w.heap.size + 1) 4 252 8 118 l _ RD0.out.cur RD0.out.arr (by decide) HLT.out (by omega) (by rw [HLEN.out]; omega) (by rw [HLEN.out]; omega)).mono ?_
    rintro e w3 ⟨rfl, hr, hc⟩
    generalize wrap64 ((num l 4 8 : Nat) : Int) = a0 at *
    have hbx := RD0.out.box.grown hr (by simpa using fun e => RD0.out.pu e.symm)
    have hcl := hbx.cell 0
    have hfr := hbx.frozen 0
    simp only [List.getElem?_toArray, List.getElem?_cons_zero] at hcl
    have RD1 := Lib.hid (show Rd w (w3.setCell ⟨w2.heap.size, 0, none⟩ (.int .i64 a0)) p (w.heap.size + 1) w2.heap.size 12 244 118 49 l #[.int .i64 a0, .int .i64 0, .int .i64 0, .int .i64 0, .int .i64 0, .int .i64 0, .int .i64 0] from RD0.out.step hr hc 0 (.int .i64 a0))
    have HX3 := Lib.hid (RD0.out.other HX2.out hr (by omega) (by omega) 0 (.int .i64 a0))
    clear hr hc hbx
    go_wp2_with fail
    clear hcl hfr
    refine (read_any p (w.heap.size + 1) 12 244 8 118 l _ RD1.out.cur RD1.out.arr (by decide) HLT.out (by omega) (by rw [HLEN.out]; omega) (by rw [HLEN.out]; omega)).mono ?_
    rintro e w4 ⟨rfl, hr, hc⟩
    generalize wrap64 ((num l 12 8 : Nat) : Int) = a1 at *
    have hbx := RD1.out.box.grown hr (by simpa using fun e => RD1.out.pu e.symm)
    have hcl := hbx.cell 1
    have hfr := hbx.frozen 1
    simp only [List.getElem?_toArray, List.getElem?_cons_zero, List.getElem?_cons_succ] at hcl
    have RD2 := Lib.hid (show Rd w (w4.setCell ⟨w2.heap.size, 1, none⟩ (.int .i64 a1)) p (w.heap.size + 1) w2.heap.size 20 236 118 49 l #[.int .i64 a0, .int .i64 a1, .int .i64 0, .int .i64 0, .int .i64 0, .int .i64 0, .int .i64 0] from RD1.out.step hr hc 1 (.int .i64 a1))
    have HX4 := Lib.hid (RD1.out.other HX3.out hr (by omega) (by omega) 1 (.int .i64 a1))
    clear hr hc hbx
    go_wp2_with fail
    clear hcl hfr
    refine (read_any p (w.heap.size + 1) 20 236 8 118 l _ RD2.out.cur RD2.out.arr (by decide) HLT.out (by omega) (by rw [HLEN.out]; omega) (by rw [HLEN.out]; omega)).mono ?_
    rintro e w5 ⟨rfl, hr, hc⟩
    generalize wrap64 ((num l 20 8 : Nat) : Int) = a2 at *
    have hbx := RD2.out.box.grown hr (by simpa using fun e => RD2.out.pu e.symm)
    have hcl := hbx.cell 2
    have hfr := hbx.frozen 2
    simp only [List.getElem?_toArray, List.getElem?_cons_zero, List.getElem?_cons_succ] at hcl
    have RD3 := Lib.hid (show Rd w (w5.setCell ⟨w2.heap.size, 2, none⟩ (.int .i64 a2)) p (w.heap.size + 1) w2.heap.size 28 228 118 49 l #[.int .i64 a0, .int .i64 a1, .int .i64 a2, .int .i64 0, .int .i64 0, .int .i64 0, .int .i64 0] from RD2.out.step hr hc 2 (.int .i64 a2))
    have HX5 := Lib.hid (RD2.out.other HX4.out hr (by omega) (by omega) 2 (.int .i64 a2))
    clear hr hc hbx
    go_wp2_with fail
    clear hcl hfr
    refine (read_any p (w.heap.size + 1) 28 228 8 118 l _ RD3.out.cur RD3.out.arr (by decide) HLT.out (by omega) (by rw [HLEN.out]; omega) (by rw [HLEN.out]; omega)).mono ?_
    rintro e w6 ⟨rfl, hr, hc⟩
    generalize wrap64 ((num l 28 8 : Nat) : Int) = a3 at *
    have hbx := RD3.out.box.grown hr (by simpa using fun e => RD3.out.pu e.symm)
    have hcl := hbx.cell 3
    have hfr := hbx.frozen 3
    simp only [List.getElem?_toArray, List.getElem?_cons_zero, List.getElem?_cons_succ] at hcl
    have RD4 := Lib.hid (show Rd w (w6.setCell ⟨w2.heap.size, 3, none⟩ (.int .i64 a3)) p (w.heap.size + 1) w2.heap.size 36 220 118 49 l #[.int .i64 a0, .int .i64 a1, .int .i64 a2, .int .i64 a3, .int .i64 0, .int .i64 0, .int .i64 0] from RD3.out.step hr hc 3 (.int .i64 a3))
    have HX6 := Lib.hid (RD3.out.other HX5.out hr (by omega) (by omega) 3 (.int .i64 a3))
    clear hr hc hbx
    go_wp2_with fail
    clear hcl hfr
    refine (read_any p (w.heap.size + 1) 36 220 8 118 l _ RD4.out.cur RD4.out.arr (by decide) HLT.out (by omega) (by rw [HLEN.out]; omega) (by rw [HLEN.out]; omega)).mono ?_
    rintro e w7 ⟨rfl, hr, hc⟩
    generalize wrap64 ((num l 36 8 : Nat) : Int) = a4 at *
    have hbx := RD4.out.box.grown hr (by simpa using fun e => RD4.out.pu e.symm)
    have hcl := hbx.cell 4
    have hfr := hbx.frozen 4
    simp only [List.getElem?_toArray, List.getElem?_cons_zero, List.getElem?_cons_succ] at hcl
    have RD5 := Lib.hid (show Rd w (w7.setCell ⟨w2.heap.size, 4, none⟩ (.int .i64 a4)) p (w.heap.size + 1) w2.heap.size 44 212 118 49 l #[.int .i64 a0, .int .i64 a1, .int .i64 a2, .int .i64 a3, .int .i64 a4, .int .i64 0, .int .i64 0] from RD4.out.step hr hc 4 (.int .i64 a4))
    have HX7 := Lib.hid (RD4.out.other HX6.out hr (by omega) (by omega) 4 (.int .i64 a4))
    clear hr hc hbx
    go_wp2_with fail
    clear hcl hfr
    refine (read_any p (w.heap.size + 1) 44 212 8 118 l _ RD5.out.cur RD5.out.arr (by decide) HLT.out (by omega) (by rw [HLEN.out]; omega) (by rw [HLEN.out]; omega)).mono ?_
    rintro e w8 ⟨rfl, hr, hc⟩
    generalize wrap64 ((num l 44 8 : Nat) : Int) = a5 at *
    have hbx := RD5.out.box.grown hr (by simpa using fun e => RD5.out.pu e.symm)
    have hcl := hbx.cell 5
    have hfr := hbx.frozen 5
    simp only [List.getElem?_toArray, List.getElem?_cons_zero, List.getElem?_cons_succ] at hcl
    have RD6 := Lib.hid (show Rd w (w8.setCell ⟨w2.heap.size, 5, none⟩ (.int .i64 a5)) p (w.heap.size + 1) w2.heap.size 52 204 118 49 l #[.int .i64 a0, .int .i64 a1, .int .i64 a2, .int .i64 a3, .int .i64 a4, .int .i64 a5, .int .i64 0] from RD5.out.step hr hc 5 (.int .i64 a5))
    have HX8 := Lib.hid (RD5.out.other HX7.out hr (by omega) (by omega) 5 (.int .i64 a5))
    clear hr hc hbx
    go_wp2_with fail
    clear hcl hfr
    refine (read_any p (w.heap.size + 1) 52 204 8 118 l _ RD6.out.cur RD6.out.arr (by decide) HLT.out (by omega) (by rw [HLEN.out]; omega) (by rw [HLEN.out]; omega)).mono ?_
    rintro e w9 ⟨rfl, hr, hc⟩
    generalize wrap64 ((num l 52 8 : Nat) : Int) = a6 at *
    have hbx := RD6.out.box.grown hr (by simpa using fun e => RD6.out.pu e.symm)
    have hcl := hbx.cell 6
    have hfr := hbx.frozen 6
    simp only [List.getElem?_toArray, List.getElem?_cons_zero, List.getElem?_cons_succ] at hcl
    have RD7 := Lib.hid (show Rd w (w9.setCell ⟨w2.heap.size, 6, none⟩ (.int .i64 a6)) p (w.heap.size + 1) w2.heap.size 60 196 118 49 l #[.int .i64 a0, .int .i64 a1, .int .i64 a2, .int .i64 a3, .int .i64 a4, .int .i64 a5, .int .i64 a6] from RD6.out.step hr hc 6 (.int .i64 a6))
    have HX9 := Lib.hid (RD6.out.other HX8.out hr (by omega) (by omega) 6 (.int .i64 a6))
    clear hr hc hbx
    have x0 := RD7.out.box.cell 0; have x1 := RD7.out.box.cell 1; have x2 := RD7.out.box.cell 2; have x3 := RD7.out.box.cell 3; have x4 := RD7.out.box.cell 4; have x5 := RD7.out.box.cell 5; have x6 := RD7.out.box.cell 6
    simp only [List.getElem?_toArray, List.getElem?_cons_zero, List.getElem?_cons_succ] at x0 x1 x2 x3 x4 x5 x6
    clear RD0 RD1 RD2 RD3 RD4 RD5 RD6 HX1 HX2 HX3 HX4 HX5 HX6 HX7 HX8
    go_wp2_with fail
    clear hcl hfr
    refine (put_super_core b S a0 a1 a2 a3 a4 a5 a6 _ (HR.out.keep RD7.out.grown)).mono ?_
    clear x0 x1 x2 x3 x4 x5 x6
    cases hW : superW [a0, a1, a2, a3, a4, a5, a6] with
    | none =>
      rintro e w10 ⟨_, ⟨l, g, ho, _⟩ | ⟨_, rfl, hg⟩⟩
      · cases ho
      have HX10 := Lib.hid (HX9.out.grown hg (by simp)); have HG10 := Lib.hid (RD7.out.grown.trans hg); have HW := Lib.hid hW
      have HTB := Lib.hid ((HR.out.keep HG10.out).tab)
      clear hg hW
      go_wp2_with fail
      refine (comesback_err A none _ 0 c 0 _).mono ?_
      rintro e w11 ⟨rfl, rfl⟩
      have x0 := HX10.out.cell 0; have x1 := HX10.out.cell 1; have x2 := HX10.out.cell 2; have x3 := HX10.out.cell 3; have x4 := HX10.out.cell 4; have x5 := HX10.out.cell 5; have x6 := HX10.out.cell 6
      have f0 := HX10.out.frozen 0; have f1 := HX10.out.frozen 1; have f2 := HX10.out.frozen 2; have f3 := HX10.out.frozen 3; have f4 := HX10.out.frozen 4; have f5 := HX10.out.frozen 5; have f6 := HX10.out.frozen 6
      simp only [List.getElem?_toArray, List.getElem?_cons_zero, List.getElem?_cons_succ] at x0 x1 x2 x3 x4 x5 x6
      go_wp2_with fail
      refine ret_row2 rfl w.heap.size 49 _ _ rfl (Blk.set7 HX10.out) Tryz.underlying49 rfl (by kernel_rfl) rfl ⟨?_, ?_, ?_, ?_⟩
      · refine grown_any_row ?_ S
        repeat (refine grown_set ?_ (Nat.le_refl _) _)
        exact HG10.out
      · exact tab_sets HTB.out HBL.out
      · rw [HSR.out, HSN.out, if_neg (by rw [HW.out]; simp)]
        rfl
      · intro hc
        rcases hc with hc | hc
        · exact ready_sets (hc.keep HG10.out (by simp)) HBL.out
        · rw [HSR.out, HSN.out, if_neg (by rw [HW.out]; simp)] at hc
          cases hc
    | some l' =>
      rintro e w10 ⟨hg, ⟨l1, g3, ho, rfl, _, hb3, hlt3, hrd⟩ | ⟨ho, _⟩⟩
      case inr => cases ho
      obtain rfl : l' = l1 := by injection ho
      have HTB := Lib.hid (show Tab w10 b from .inr hrd); have HRD := Lib.hid hrd
      have HX10 := Lib.hid (HX9.out.grown hg (HR.out.ne (Nat.le_refl _))); have HG10 := Lib.hid ((grown_any_row RD7.out.grown S).trans hg); have HW := Lib.hid hW; have HU10 := Lib.hid (RD7.out.box.grown hg (HR.out.ne RD7.out.hU))
      have HB3 := Lib.hid (blk_bytes (b := w10.heap.size) hb3 (by have := hb3.lt; omega) hlt3)
      have HL3 := Lib.hid (HL0.out.keep (HR.out.up HG10.out))
      clear ho hg hW hb3 hrd
      go_wp2_with fail
      refine (comesback_any _ _ A _ _ _ c _ l l' _ HL3.out HB3.out).mono ?_
      rintro e w11 ⟨rfl, rfl⟩
      have x0 := HX10.out.cell 0; have x1 := HX10.out.cell 1; have x2 := HX10.out.cell 2; have x3 := HX10.out.cell 3; have x4 := HX10.out.cell 4; have x5 := HX10.out.cell 5; have x6 := HX10.out.cell 6
      have f0 := HX10.out.frozen 0; have f1 := HX10.out.frozen 1; have f2 := HX10.out.frozen 2; have f3 := HX10.out.frozen 3; have f4 := HX10.out.frozen 4; have f5 := HX10.out.frozen 5; have f6 := HX10.out.frozen 6
      simp only [List.getElem?_toArray, List.getElem?_cons_zero, List.getElem?_cons_succ] at x0 x1 x2 x3 x4 x5 x6
      have y0 := HU10.out.cell 0; have y1 := HU10.out.cell 1; have y2 := HU10.out.cell 2; have y3 := HU10.out.cell 3; have y4 := HU10.out.cell 4; have y5 := HU10.out.cell 5; have y6 := HU10.out.cell 6
      simp only [List.getElem?_toArray, List.getElem?_cons_zero, List.getElem?_cons_succ] at y0 y1 y2 y3 y4 y5 y6
      cases hd : decide (l = l') with
      | true =>
        have HD := Lib.hid hd; clear hd
        go_wp2_with fail
        refine ret_row2 rfl w.heap.size 49 _ _ rfl (Blk.set7 HX10.out) Tryz.underlying49 rfl (by kernel_rfl) rfl ⟨?_, ?_, ?_, ?_⟩
        · repeat (refine grown_setS ?_ (Nat.le_refl _) _)
          exact HG10.out
        · exact tab_sets HTB.out HBL.out
        · have hl := of_decide_eq_true HD.out
          subst hl
          rw [HSR.out, HSN.out, if_pos HW.out]
          rfl
        · exact fun _ => ready_sets HRD.out HBL.out
      | false =>
        have HD := Lib.hid hd; clear hd
        go_wp2_with fail
        refine ret_row2 rfl w.heap.size 49 _ _ rfl (Blk.set7 HX10.out) Tryz.underlying49 rfl (by kernel_rfl) rfl ⟨?_, ?_, ?_, ?_⟩
        · repeat (refine grown_setS ?_ (Nat.le_refl _) _)
          exact HG10.out
        · exact tab_sets HTB.out HBL.out
        · have hl := of_decide_eq_false HD.out
          rw [HSR.out, HSN.out, if_neg (by rw [HW.out]; simpa using fun e => hl e.symm)]
          rfl
        · exact fun _ => ready_sets HRD.out HBL.out
  · have hno := superR_none l (by rw [HLEN.out]; exact h256)
    have HNO := Lib.hid hno; clear hno
    generalize superR l = r at *
    have hv : supV (r.getD zero7) = .agg #[.int .i64 0, .int .i64 0, .int .i64 0, .int .i64 0, .int .i64 0, .int .i64 0, .int .i64 0] := by rw [HNO.out]; exact hz0
    have HV := Lib.hid hv; clear hv hz0
    go_enter Tryz.func139, Tryz.ntmps139
    go_wp2_with fail
    refine (opensector_no b A n c _ h256).mono ?_
    rintro e w1 ⟨rfl, rfl⟩
    go_wp2_with fail
    refine ret_row2 rfl w.heap.size 49 _ _ rfl (HBX.out.alloc _) Tryz.underlying49 rfl (by kernel_rfl) rfl ⟨grown_any_row (HG0.out.trans (World.grownBy_alloc _ _ none)) S, (HR.out.keep (HG0.out.trans (World.grownBy_alloc _ _ none))).tab, ?_, ?_⟩
    · rw [HV.out, HNO.out]
      rfl
    · intro hc
      rcases hc with hc | hc
      · exact hc.keep (HG0.out.trans (World.grownBy_alloc _ _ none)) (by simp)
      · rw [HNO.out] at hc
        cases hc
theorem codec_get_super (b : Nat) (A : Option Addr) (n c : Nat) (l : List Nat) (w : World) (hR : Ready w b) (hl : Bytes w b A n l) :
    Calls Tryz.prog 139 #[.pointer (some ⟨b, 0, none⟩), .slice A n c] w (Told w (supV ((superR l).getD zero7)) (superR l).isSome) :=
  (codec_get_super_core b none A n c l w (.inl ⟨hR, rfl⟩) hl).mono fun _ _ h => ⟨h.1, h.2.2.1⟩
set_option maxRecDepth 100000 in
set_option maxHeartbeats 800000 in
theorem codec_get_super_nil (A : Option Addr) (n c : Nat) (w : World) :
    Calls Tryz.prog 139 #[.pointer none, .slice A n c] w (Told w (supV zero7) false) := by
  rw [show supV zero7 = .agg #[.int .i64 0, .int .i64 0, .int .i64 0, .int .i64 0, .int .i64 0, .int .i64 0, .int .i64 0] from rfl]
  have hbk := Blk.new w 49 #[.int .i64 0, .int .i64 0, .int .i64 0, .int .i64 0, .int .i64 0, .int .i64 0, .int .i64 0]
  have HBK := Lib.hid hbk; clear hbk
  have HG0 := Lib.hid (World.grownBy_alloc w (.cells #[.int .i64 0, .int .i64 0, .int .i64 0, .int .i64 0, .int .i64 0, .int .i64 0, .int .i64 0] 49) none)
  go_enter Tryz.func139, Tryz.ntmps139
  go_wp2_with fail
  refine (opensector_nil A n c _).mono ?_
  rintro e w1 ⟨rfl, rfl⟩
  go_wp2_with fail
  exact ret_row2 rfl w.heap.size 49 _ _ rfl (HBK.out.alloc _) Tryz.underlying49 rfl (by kernel_rfl) rfl ⟨HG0.out.trans (World.grownBy_alloc _ _ none), rfl⟩
end Go.Proofs.YteaokeiolgjhaaaGreat.Codec
