/- The walks over the project's small functions for records, second part: seal, openSector, openBody, mark, neverWritten. -/
import Derived.Test.YtpdkjgmldlpaaaaCodecBits
import Derived.Test.YtpdkjgmldlpaaaaCrcBytes
namespace Go.Proofs.Ytpdkjgmldlpaaaa.Codec
open Go.RowKit CrcMath CodecMath Mem Crc

theorem blk_bytes {w : World} {b g : Nat} {t : TypeId} {L : List Nat} (h : Blk w g t (u8s L).toArray) (hne : g ≠ b) (hl : ∀ x ∈ L, x < 256) : Bytes w b (some ⟨g, 0, none⟩) L.length L :=
  ⟨rfl, hl, fun _ => ⟨g, 0, rfl, h.lt, hne, fun j hj => by rw [Nat.zero_add, h.cell, List.getElem?_toArray, u8s_at _ _ hj]⟩⟩
theorem frame_lay (pre : List Nat) (h : pre.length ≤ 252) : lay (fill pre 256) 252 (le4 (M 0 (fill pre 252))) = frame pre := by
  have h1 : (fill pre 256).take 252 = fill pre 252 := by
    simp only [fill, List.take_append, List.take_replicate]
    rw [List.take_of_length_le h]
    congr 2
    omega
  simp only [lay, splice, le4_length]
  rw [h1, List.drop_of_length_le (by rw [fill_length _ _ (by omega)]; exact Nat.le_refl _), List.append_nil]
  rfl
theorem take_fill (pre : List Nat) (h : pre.length ≤ 252) : (fill pre 256).take 252 = fill pre 252 := by
  simp only [fill, List.take_append, List.take_replicate]
  rw [List.take_of_length_le h]
  congr 2
  omega
theorem le4_take_up (s j : Nat) (h : j < 4) : (le4 s).take (j + 1) = (le4 s).take j ++ [s / 256 ^ j % 256] := le4_take s j h

theorem zero240 (w : World) : (zeroValue 67).run Try.prog w = .ok (.agg (Array.replicate 240 (.int .u8 0))) w := by kernel_rfl
theorem u8_one : (Try.prog.info? 5).map (·.size) = some 1 := by kernel_rfl
theorem fill_zero (N : Nat) : (u8s (fill [] N)).toArray = Array.replicate N (.int .u8 0) := by
  simp [fill, u8s]
/-- What opening leaves: a block of the call's own with just these bytes. -/
def Opened (w : World) (t : TypeId) (N : Nat) (l : List Nat) (e : Ending) (w' : World) : Prop :=
  e = .returned (.tuple #[.slice (some ⟨w.heap.size, 0, none⟩) N N, .bool true]) ∧ w.grownBy w' none ∧ Blk w' w.heap.size t (u8s l).toArray
theorem grown_setRow {w W : World} {h : Nat} (hg : w.grownBy W none) (hh : w.heap.size ≤ h) (cs : Array Value) : w.grownBy (W.setRow h cs) none :=
  ⟨hg.os, hg.tape, hg.output, by simpa [World.setRow] using hg.size, fun k hk _ => (setRow_other W h k cs (by omega)).trans (hg.block k hk (by simp))⟩
theorem blk_setRow {W : World} {h : Nat} {t : TypeId} {cs : Array Value} (hb : Blk W h t cs) (ds : Array Value) : Blk (W.setRow h ds) h t ds := setRow_heap W h cs ds t (0, 0) hb
/-- All of an array is written over by a slice's bytes. -/
theorem run_copy_full {W : World} {h g o c N b : Nat} {t : TypeId} {cs : Array Value} {l : List Nat} (hb : Blk W h t cs) (hs : cs.size = N) (hl : Bytes W b (some ⟨g, o, none⟩) N l) (ty : TypeId) :
    (Builtin.copy_ #[31, 31] ty #[.slice (some ⟨h, 0, none⟩) N N, .slice (some ⟨g, o, none⟩) N c]).run Try.prog W = .ok (.int .i64 N) (W.setRow h (u8s l).toArray) := by
  have hlen := hl.1
  have := run_copy_row (P := Try.prog) W 31 31 ty 5 h 0 N N ⟨g, o, none⟩ N c cs t (u8s l) Try.underlying31 u8_one hb
    (by rw [u8s_length, hlen]; simp) (fun j v hv => by
      have hj : j < l.length := by
        rcases Nat.lt_or_ge j l.length with h1 | h1
        · exact h1
        · rw [List.getElem?_eq_none (by rw [u8s_length]; exact h1)] at hv; cases hv
      obtain ⟨g', o', e, _, _, hc⟩ := hl.2.2 (by omega)
      simp only [Option.some.injEq, Addr.mk.injEq, and_true] at e
      obtain ⟨rfl, rfl⟩ := e
      have e1 : (⟨g, o, none⟩ : Addr).add j = ⟨g, o + j, none⟩ := by unfold Addr.add; split <;> simp_all
      rw [e1, hc j (by omega), ← hv, u8s_at _ _ hj]) (by rw [u8s_length, hlen]; omega) (u8s_one l)
  rw [this, u8s_length, hlen]
  have hd : cs.toList.drop (0 + N) = [] := List.drop_of_length_le (by simp; omega)
  rw [hd, List.append_nil, List.take_zero, List.nil_append]
  rfl

set_option maxRecDepth 100000 in
set_option maxHeartbeats 800000 in
theorem openbody_any (b2 : Nat) (A : Option Addr) (c : Nat) (l : List Nat) (w : World) (hl : Bytes w b2 A 240 l) :
    Calls Try.prog 40 #[.slice A 240 c] w (Opened w 67 240 l) := by
  obtain ⟨g, o, rfl, hlt, _, hc⟩ := hl.2.2 (by omega)
  have hz := zero240
  have hb0 := Blk.new w 67 (Array.replicate 240 (.int .u8 0))
  have hcp := run_copy_full (c := c) hb0 (by simp) (bytes_keepN hl (World.grownBy_alloc w _ none))
  have HB := Lib.hid (blk_setRow hb0 (u8s l).toArray)
  have HG := Lib.hid (grown_setRow (World.grownBy_alloc w (.cells (Array.replicate 240 (.int .u8 0)) 67) none) (Nat.le_refl _) (u8s l).toArray)
  clear hc hl hb0
  generalize hcs : (u8s l).toArray = cs at *
  have HCS := Lib.hid hcs; clear hcs
  generalize hzz : Array.replicate 240 (Value.int .u8 0) = zs at *
  clear hzz
  go_enter Try.func40, Try.ntmps40
  go_wp2
  go_ret2
  exact ⟨rfl, HG.out, by rw [HCS.out]; exact HB.out⟩
set_option maxRecDepth 100000 in
theorem openbody_no (A : Option Addr) (n c : Nat) (w : World) (hn : n ≠ 240) :
    Calls Try.prog 40 #[.slice A n c] w fun e w' => e = .returned (.tuple #[.slice none 0 0, .bool false]) ∧ w = w' := by
  have hne : (((n : Nat) : Int) != 240) = true := by simp; omega
  go_enter Try.func40, Try.ntmps40
  go_wp2
  go_ret2
  exact ⟨rfl, rfl⟩

theorem u8s_bytes (s : ByteArray) : Lib.byteCells s.data.toList = u8s (s.data.toList.map UInt8.toNat) := by simp [Lib.byteCells, u8s]
theorem all_zero {l : List Nat} (h : ∀ q, q < l.length → l.getD q 0 = 0) : l = List.replicate l.length 0 := by
  refine List.ext_getElem (by simp) (fun i h1 h2 => ?_)
  have := h i h1
  rw [List.getD_eq_getElem?_getD, List.getElem?_eq_getElem h1] at this
  simpa using this
theorem not_zero {l : List Nat} (j : Nat) (h : l.getD j 0 ≠ 0) : l ≠ List.replicate l.length 0 := by
  intro e
  apply h
  rw [e, List.getD_eq_getElem?_getD, List.getElem?_replicate]
  split <;> rfl
end Go.Proofs.Ytpdkjgmldlpaaaa.Codec
