/- The dirty sectors, rising. -/
import Derived.Test.YtmekhlkhafdmbaaMDiskLay
import Derived.Test.YtmekhlkhafdmbaaDiskLaid
namespace Go.Proofs.Ytmekhlkhafdmbaa.Dsk
open Go.RowKit Go.Maps Go.Sort Go.Shelf Mem Crc DiskSpec

/-- Whole numbers as cells. -/
def nats (l : List Nat) : List Value := l.map fun x => .int .i64 (x : Nat)
theorem nats_length (l : List Nat) : (nats l).length = l.length := by simp [nats]
theorem nats_at (l : List Nat) (j : Nat) (h : j < l.length) : (nats l)[j]? = some (.int .i64 (l[j] : Nat)) := by simp [nats, h]
theorem grown_of_below {w w' : World} (h : Below w.heap.size w w') : w.grownBy w' none := ⟨h.os, h.tape, h.output, h.size, fun k hk _ => h.block k hk⟩
theorem dirty_sorted (S : St) : (S.dirty.map fun k => ((k : Nat) : Int)).mergeSort (fun x y => decide (x ≤ y)) = S.dirty.map fun k => ((k : Nat) : Int) := by
  refine List.mergeSort_of_pairwise ?_
  rw [List.pairwise_map]
  have : S.dirty.Pairwise (· < ·) := List.Pairwise.filter _ List.pairwise_lt_range
  exact this.imp (fun h => by simp; omega)
theorem sort_perm {l l' : List Int} (h : l.Perm l') : l.mergeSort (fun x y => decide (x ≤ y)) = l'.mergeSort (fun x y => decide (x ≤ y)) := by
  have h1 : (l.mergeSort fun x y => decide (x ≤ y)).Perm (l'.mergeSort fun x y => decide (x ≤ y)) := ((List.mergeSort_perm l _).trans h).trans (List.mergeSort_perm l' _).symm
  refine List.Perm.eq_of_pairwise (le := fun x y => decide (x ≤ y) = true) (fun a b _ _ h1 h2 => ?_) ?_ ?_ h1
  · simp at h1 h2; omega
  · exact List.pairwise_mergeSort (fun a b c h1 h2 => by simp at *; omega) (fun a b => by simp; omega) l
  · exact List.pairwise_mergeSort (fun a b c h1 h2 => by simp at *; omega) (fun a b => by simp; omega) l'

end Go.Proofs.Ytmekhlkhafdmbaa.Dsk
