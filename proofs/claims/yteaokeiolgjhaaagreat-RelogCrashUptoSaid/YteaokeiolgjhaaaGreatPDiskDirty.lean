/- The dirty sectors, rising. -/
import Derived.Test.YteaokeiolgjhaaaGreatPDiskLay
import Derived.Test.YteaokeiolgjhaaaGreatDiskLaid
namespace Go.Proofs.YteaokeiolgjhaaaGreat.Dsk
open Go.RowKit Go.Maps Go.Sort Go.Shelf Mem Crc DiskSpec

/-- Whole numbers as cells. -/
def nats (l : List Nat) : List Value := l.map fun x => .int .i64 (x : Nat)
theorem nats_length (l : List Nat) : (nats l).length = l.length := by simp [nats]
theorem nats_at (l : List Nat) (j : Nat) (h : j < l.length) : (nats l)[j]? = some (.int .i64 (l[j] : Nat)) := by simp [nats, h]
theorem grown_of_below {w w' : World} (h : Below w.heap.size w w') : w.grownBy w' none := ⟨h.os, h.tape, h.output, h.size, fun k hk _ => h.block k hk⟩
theorem dirty_sorted (S : St) : (S.dirty.map fun k => ((k : Nat) : Int)).mergeSort (fun x y => decide (x ≤ y)) = S.dirty.map fun k => ((k : Nat) : Int) := by
  refine List.mergeSort_of_pairwise ?_
  rw [List.pairwise_map]
  have : S.dirty.Pairwise (· < ·) := List.Pairwise.filter _ List.pairwise_lt_range
  exact this.imp (fun h => by simp; omega)
theorem sort_perm {l l' : List Int} (h : l.Perm l') : l.mergeSort (fun x y => decide (x ≤ y)) = l'.mergeSort (fun x y => decide (x ≤ y)) := by
  have h1 : (l.mergeSort fun x y => decide (x ≤ y)).Perm (l'.mergeSort fun x y => decide (x ≤ y)) := ((List.mergeSort_perm l _).trans h).trans (List.mergeSort_perm l' _).symm
  refine List.Perm.eq_of_pairwise (le := fun x y => decide (x ≤ y) = true) (fun a b _ _ h1 h2 => ?_) ?_ ?_ h1
  · simp at h1 h2; omega
  · exact List.pairwise_mergeSort (fun a b c h1 h2 => by simp at *; omega) (fun a b => by simp; omega) l
  · exact List.pairwise_mergeSort (fun a b c h1 h2 => by simp at *; omega) (fun a b => by simp; omega) l'

set_option maxRecDepth 100000 in
set_option maxHeartbeats 1000000 in
theorem disk_dirty {w : World} {B b bd bm : Nat} {S : St} {f : Nat → Option Value} {own : Nat → Prop} (h : Lay w B b bd bm f S own) :
    Calls Tryz.prog 61 #[.pointer (some ⟨b, 0, none⟩)] w fun e w' => ∃ v, e = .returned v ∧ w'.ownsRow w.heap.size 3 1 v S.dirty.length (nats S.dirty) ∧ w.grownBy w' none := by
  have htop := h.ok.top
  have hc1 := h.c1
  obtain ⟨D, hown, ha, he⟩ := h.map
  have htd := hown.tidy (int_keyed Tryz.underlying3)
  have hsz := MapIs.size_le htd ha he
  have hperm := MapIs.keys_perm htd ha he
  have hfe : ((List.range S.n).filter fun k => (f k).isSome) = S.dirty := by
    refine List.filter_congr (fun k _ => ?_)
    cases hv : S.ver k with
    | nil => rw [h.rows.none_ k hv]; rfl
    | cons a l =>
      obtain ⟨v, g, h1, _⟩ := h.rows.some_ k (by rw [hv]; simp)
      rw [h1]; rfl
  rw [hfe] at hperm
  have HPERM := Lib.hid hperm
  have HDS := Lib.hid (dirty_sorted S)
  clear ha he hfe hperm h
  refine (callsIn_wide (n := 6)).1 ?_
  have hbl := hown.lt
  have hseq : SeqGives Fence.wide 2 Tryz.prog 155 #[.pointer (some ⟨w.heap.size, 0, none⟩)] encZ (fun ss => ss.Perm (intKeys D)) (Maps.size D) (w.alloc (.cells #[.map (some bm)] 89)) :=
    AnyZI.keys_gives (ρ := DirtyKeys_ren) { DirtyKeys with } Fence.wide _ trivial rfl (by omega) w.heap.size bm (Maps.size D) D _ (by simp) (by simp) (by
      obtain ⟨es, clock, hb, Ft, hs, hD⟩ := hown
      exact ⟨es, clock, (Below.heap_alloc _ _ bm hbl).trans hb, Ft, hs, hD⟩)
  have cK : ∀ mb W, CallsIn Fence.wide 5 Tryz.prog 114 #[.map mb] W fun e w' => e = .returned (.func (.func 155) #[] #[.pointer (some ⟨W.heap.size, 0, none⟩)]) ∧ w' = W.alloc (.cells #[.map mb] 89) :=
    fun mb W => AnyZI.keys_in DirtyKeys Fence.wide 5 trivial rfl mb W
  have cS := AnyZI.sorted_in DirtySorted Fence.wide 5 trivial trivial trivial trivial rfl (by omega) (dirty_sorts _) (enters_of Tryz.func112 (by kernel_rfl) rfl) 155 #[.pointer (some ⟨w.heap.size, 0, none⟩)] trivial
    (enters_of Tryz.func155 (by kernel_rfl) rfl) _ _ (by unfold maxLen; omega) (by omega) _ hseq
  change CallsIn _ _ Tryz.prog 59 _ _ _ at cS
  have hfK : Fence.wide.fn 114 := trivial
  have hfS : Fence.wide.fn 59 := trivial
  have HCS := Lib.hid cS
  clear hseq hown htd hsz cS
  refine callsIn_of_wp Tryz.func61 rfl trivial ?_ rfl
  simp only [Tryz.ntmps61, List.size_toArray, List.length_cons, List.length_nil, Nat.reduceAdd, Nat.reduceSub, Array.replicate_succ, Array.replicate_zero, List.push_toArray, List.append_toArray, List.nil_append, List.cons_append]
  gi_wp2_with (first
    | (gi_at_call 114; refine (cK _ _).mono ?_; rintro e w' ⟨rfl, rfl⟩)
    | (gi_at_call 59; refine HCS.out.mono ?_; rintro e w' ⟨v, ss, rfl, hS, hrow, hnil, hb⟩))
  go_ret
  have e1 : (ss.mergeSort fun x y => decide (x ≤ y)).map encZ = nats S.dirty := by
    rw [sort_perm (hS.trans HPERM.out), HDS.out, List.map_map]; rfl
  have e2 : ss.length = S.dirty.length := by rw [(hS.trans HPERM.out).length_eq, List.length_map]
  rw [e1, e2] at hrow
  exact ⟨v, rfl, ownsRow_base_a hrow (by simp), grown_of_below (((Below.refl _ w).alloc (Nat.le_refl _) _).trans (hb.mono (by simp)))⟩
end Go.Proofs.YteaokeiolgjhaaaGreat.Dsk
