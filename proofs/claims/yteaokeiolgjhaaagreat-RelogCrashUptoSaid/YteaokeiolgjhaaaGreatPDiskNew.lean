/- A new disk; what is to fail, a cut, a remainder. -/
import Derived.Test.YteaokeiolgjhaaaGreatPDiskNow
import Derived.Carry
import Derived.OwnWalk
namespace Go.Proofs.YteaokeiolgjhaaaGreat.Dsk
open Go.RowKit Mem Crc DiskSpec

theorem infoS3 : (Tryz.prog.info? 119).map (fun i => (i.zero, i.size, i.bytes)) = some (some (.agg (Array.replicate 256 (.int .u8 0))), 256, 256) := by kernel_rfl
theorem Lay.weak {w : World} {B B' b bd bm : Nat} {S : St} {f : Nat → Option Value} {own : Nat → Prop} (h : Lay w B b bd bm f S own) (hB : B' ≤ B) : Lay w B' b bd bm f S own :=
  { h with low := fun i hi => Nat.le_trans hB (h.low i hi) }

set_option maxHeartbeats 400000 in
theorem disk_new_no (n : Int) (w : World) (hn : n < 1 ∨ 4096 < n) :
    Calls Tryz.prog 10 #[.int .i64 n] w fun e w' => e = .returned (.tuple #[.pointer none, .int .i64 1]) ∧ w = w' := by
  rcases hn with hn | hn
  · go_enter Tryz.func10, Tryz.ntmps10
    go_wp2
    go_ret2
    exact ⟨rfl, rfl⟩
  · have h1 : decide (n < 1) = false := by simp; omega
    go_enter Tryz.func10, Tryz.ntmps10
    go_wp2
    go_ret2
    exact ⟨rfl, rfl⟩

/-- What a new disk is, of the blocks that it is made of. -/
theorem lay_new (w w1 : World) (n : Nat) (h1 : 1 ≤ n) (h2 : n ≤ 4096) (hg : w.grownBy w1 none) (hr : w1.ownsRow w.heap.size 119 256 (.slice (some ⟨w.heap.size, 0, none⟩) n n) n (madeCells (Array.replicate 256 (.int .u8 0)) (n * 256)).toList) :
    ∃ f own, Lay ((w1.alloc (.map #[] 0)).alloc (.cells #[.slice (some ⟨w.heap.size, 0, none⟩) n n, .map (some w1.heap.size), .int .i64 0, .int .i64 0, .int .i64 0, .int .i64 0, .int .i64 (-1)] 92)) w.heap.size (w1.heap.size + 1) w.heap.size w1.heap.size f (St.new n) own ∧
      w.grownBy ((w1.alloc (.map #[] 0)).alloc (.cells #[.slice (some ⟨w.heap.size, 0, none⟩) n n, .map (some w1.heap.size), .int .i64 0, .int .i64 0, .int .i64 0, .int .i64 0, .int .i64 (-1)] 92)) none := by
  have hlt := (hr.lt w.heap.size rfl).2
  have hgg := (hg.trans (World.grownBy_alloc w1 (.map #[] 0) none)).trans (World.grownBy_alloc _ (.cells #[.slice (some ⟨w.heap.size, 0, none⟩) n n, .map (some w1.heap.size), .int .i64 0, .int .i64 0, .int .i64 0, .int .i64 0, .int .i64 (-1)] 92) none)
  have hb := Blk.new (w1.alloc (.map #[] 0)) 92 #[.slice (some ⟨w.heap.size, 0, none⟩) n n, .map (some w1.heap.size), .int .i64 0, .int .i64 0, .int .i64 0, .int .i64 0, .int .i64 (-1)]
  have hm := (MapIs.made w1 Tryz.prog 3 n).of_block (w' := (w1.alloc (.map #[] 0)).alloc (.cells #[.slice (some ⟨w.heap.size, 0, none⟩) n n, .map (some w1.heap.size), .int .i64 0, .int .i64 0, .int .i64 0, .int .i64 0, .int .i64 (-1)] 92)) (Below.heap_alloc _ _ _ (by simp))
  have hd := (Below.heap_alloc (w1.alloc (.map #[] 0)) (.cells #[.slice (some ⟨w.heap.size, 0, none⟩) n n, .map (some w1.heap.size), .int .i64 0, .int .i64 0, .int .i64 0, .int .i64 0, .int .i64 (-1)] 92) w.heap.size (by simp; omega)).trans (Below.heap_alloc w1 (.map #[] 0) w.heap.size hlt)
  rw [World.size_alloc] at hb
  have hsz : ((w1.alloc (.map #[] 0)).alloc (.cells #[.slice (some ⟨w.heap.size, 0, none⟩) n n, .map (some w1.heap.size), .int .i64 0, .int .i64 0, .int .i64 0, .int .i64 0, .int .i64 (-1)] 92)).heap.size = w1.heap.size + 2 := by simp
  obtain ⟨hlen, hrow⟩ := hr
  rcases hrow with ⟨hv, _⟩ | ⟨g, cap, cur, hv, _, hh, hnc, hcm, hcs, hct⟩
  · cases hv
  · simp only [Value.slice.injEq, Option.some.injEq, Addr.mk.injEq] at hv
    obtain ⟨⟨rfl, _⟩, _, rfl⟩ := hv
    generalize (w1.alloc (.map #[] 0)).alloc (.cells #[.slice (some ⟨w.heap.size, 0, none⟩) n n, .map (some w1.heap.size), .int .i64 0, .int .i64 0, .int .i64 0, .int .i64 0, .int .i64 (-1)] 92) = w2 at *
    have hh2 : w2.heap[w.heap.size]? = some (.cells cur 119 (0, 0)) := hd.trans hh
    have hcell : ∀ q, q < n * 256 → w2.cell? ⟨w.heap.size, q, none⟩ = some (.int .u8 0) := fun q hq => by
      rw [cell_of_row _ _ q cur _ _ hh2]
      have e1 : cur.toList.take (n * 256) = cur.toList := List.take_of_length_le (by simp; omega)
      rw [e1] at hct
      rw [← Array.getElem?_toList, hct]
      simp [madeCells, hq]
      rw [getElem!_pos _ _ (by rw [Array.size_replicate]; omega), Array.getElem_replicate]
    refine ⟨fun _ => none, fun i => i = w1.heap.size + 1 ∨ i = w.heap.size ∨ i = w1.heap.size, ?_, hgg⟩
    exact {
      ok := St.ok.new h1 h2
      blk := hb
      dur := fun i hi j v hv => by
        have hi' : i < n := hi
        have hj : j < 256 := by
          have := (List.getElem?_eq_some_iff.1 hv).1
          rw [u8s_length] at this
          exact Nat.lt_of_lt_of_eq this Sec.zero.1
        rw [hcell _ (by omega)]
        have : (u8s zeros)[j]? = some v := hv
        rw [u8s_at _ _ (by rw [Sec.zero.1]; exact hj)] at this
        rw [← this]
        have e0 : zeros.getD j 0 = 0 := by
          unfold zeros
          rw [List.getD_eq_getElem?_getD, List.getElem?_replicate]
          simp [hj]
        rw [e0]; rfl
      room := fun q hq => by
        have hq' : q < 256 * n := hq
        rw [Nat.zero_add]
        refine ⟨by rw [hcell q (by omega)]; rfl, ?_⟩
        simp [World.frozen?, hh2]
      map := hm
      rows := ⟨fun _ _ => rfl, fun _ hk => absurd rfl hk, fun _ _ _ _ hv => by cases hv⟩
      ownB := .inl rfl
      ownD := .inr (.inl rfl)
      ownM := .inr (.inr rfl)
      bd_ := by omega
      bm_ := by omega
      dm_ := by omega
      low := fun i hi => by omega
      lt := fun i hi => by omega }

set_option maxRecDepth 100000 in
set_option maxHeartbeats 800000 in
theorem disk_new (n : Nat) (w : World) (h1 : 1 ≤ n) (h2 : n ≤ 4096) :
    Calls Tryz.prog 10 #[.int .i64 (n : Nat)] w fun e w' => ∃ b bd bm f own, e = .returned (.tuple #[.pointer (some ⟨b, 0, none⟩), .int .i64 0]) ∧ Lay w' w.heap.size b bd bm f (St.new n) own ∧ w.grownBy w' none := by
  obtain ⟨i0, hi0, hz0, hz1, hz2⟩ := info_parts infoS3
  have hi := Lib.hid hi0; have z0 := Lib.hid hz0; have z1 := Lib.hid hz1; have z2 := Lib.hid hz2; clear hi0 hz0 hz1 hz2
  have HL := Lib.hid (fun w1 => lay_new w w1 n h1 h2)
  have hmk := fun w => run_makeMap (P := Tryz.prog) 89 w
  have hd1 : decide ((n : Int) < 1) = false := by simp; omega
  have hd2 : decide (4096 < (n : Int)) = false := by simp; omega
  generalize Array.replicate 256 (Value.int .u8 0) = zs at *
  go_enter Tryz.func10, Tryz.ntmps10
  go_wp2_with (first
    | (at_make; refine wpList_make_full _ rfl _ _ 88 rfl w.heap.size 119 i0 _ 256 Tryz.underlying88 hi.out z0.out z1.out .i64 .i64 _ _ n rfl rfl rfl rfl (by rw [z2.out]; omega) (by unfold maxLen; omega) (Nat.le_refl _) ?_; intro w1 hrow hg; have HROW := Lib.hid hrow; have HG := Lib.hid hg; clear hrow hg))
  go_ret2
  obtain ⟨f, own, h5, h6⟩ := HL.out _ HG.out HROW.out
  exact ⟨_, _, _, f, own, rfl, h5, h6⟩
end Go.Proofs.YteaokeiolgjhaaaGreat.Dsk
