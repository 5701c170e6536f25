/- The walks over the document's own answer for superblocks: PutSuper, GetSuper. -/
import Derived.Test.YtpdkjgmldlpaaaaRefBits
import Derived.Lib.SlBytesConst
import Derived.Deep.RegionWith
import Derived.Test.YtpdkjgmldlpaaaaStructs
namespace Go.Proofs.Ytpdkjgmldlpaaaa.Codec
open Go.RowKit CrcMath CodecMath Mem Crc

theorem grown_weak {w w' : World} (h : w.grownBy w' none) (row : Option Nat) : w.grownBy w' row := ⟨h.os, h.tape, h.output, h.size, fun i hi _ => h.block i hi (by simp)⟩
theorem Grew.apart {w w' : World} {v v' : Value} (h : Grew w w' v v') {g : Nat} (hg : g < w.heap.size) (hne : v.ownBlock ≠ some g) : v'.ownBlock ≠ some g := by
  intro e
  rcases h.2 g e with h1 | h1
  · exact hne h1
  · omega
/-- What a call that writes a record leaves: its bytes as a row of its own, or ErrArg. -/
def Wrote (w : World) (o : Option (List Nat)) (e : Ending) (w' : World) : Prop :=
  w.grownBy w' none ∧ ((∃ l v', o = some l ∧ e = .returned (.tuple #[v', .int .i64 0]) ∧ Own w' w.heap.size 5 1 v' l.length (u8s l) ∧ ∀ x ∈ l, x < 256) ∨ (o = none ∧ e = .returned (.tuple #[.slice none 0 0, .int .i64 1])))

/-- '[]byte("text")' of a constant text, with one block more ahead of it. -/
theorem run_const1 (w : World) (o : Obj) (C : Array Value) (n c : Nat) :
    (convert 31 31 (.slice (some ⟨w.heap.size + 1, 0, none⟩) n c)).run Try.prog ((w.alloc o).alloc (.cells C 5)) = .ok (.slice (some ⟨w.heap.size + 1, 0, none⟩) n c) ((w.alloc o).alloc (.cells C 5 (C.size, C.size + 1))) := by
  have h := Lib.run_convert_bytes_const (P := Try.prog) (w.alloc o) 31 5 C n c Try.underlying31 Try.underlying5
  simpa using h
theorem run_const1d (w : World) (o : Obj) (C : Array Value) (n c : Nat) :
    (convert 31 31 (.slice (some ⟨w.heap.size + 1, 0, none⟩) n c)).run Try.prog ((w.alloc o).alloc (.cells C 5)).drew = .ok (.slice (some ⟨w.heap.size + 1, 0, none⟩) n c) ((w.alloc o).alloc (.cells C 5 (C.size, C.size + 1))).drew :=
  run_const1 w.drew o C n c
theorem own_const (w : World) (base n : Nat) (C : Array Value) (l : List Nat) (hC : C.toList = u8s l) (hn : l.length = n) (hm : n ≤ maxLen) (hb : base ≤ w.heap.size) :
    Own (w.alloc (.cells C 5 (n, n + 1))) base 5 1 (.slice (some ⟨w.heap.size, 0, none⟩) n n) n (u8s l) :=
  .inr ⟨w.heap.size, C, _, rfl, hb, heap_alloc_new w _, hm, hC, by rw [u8s_length]; omega⟩
def zero7 : List Int := [0, 0, 0, 0, 0, 0, 0]
def supV (s : List Int) : Value := .agg (s.map fun n => Value.int .i64 n).toArray
/-- What a call that reads a record leaves: a value, and whether there is one. -/
def Told (w : World) (v : Value) (ok : Bool) (e : Ending) (w' : World) : Prop := w.grownBy w' none ∧ e = .returned (.tuple #[v, .bool ok])

/-- What a call that turned nothing leaves of the cells that were there. -/
theorem gcell {W w1 : World} (h : W.grownBy w1 none) : (∀ b o, b < W.heap.size → w1.cell? ⟨b, o, none⟩ = W.cell? ⟨b, o, none⟩) ∧ (∀ b o, b < W.heap.size → w1.frozen? ⟨b, o, none⟩ = W.frozen? ⟨b, o, none⟩) :=
  ⟨fun b o hb => World.cell?_of_block (h.block b hb (by simp)), fun b o hb => World.frozen?_of_block (h.block b hb (by simp))⟩
theorem grown_set {w w' : World} (h : w.grownBy w' none) {b i : Nat} (hp : w.heap.size ≤ b) (v : Value) : w.grownBy (w'.setCell ⟨b, i, none⟩ v) none :=
  grown_none_of_size (row := some b) (Lib.grownBy_setB (grown_weak h _) i v) (fun j hj => by cases hj; exact hp)
theorem grown_drewN {w w' : World} (h : w.grownBy w' none) (q : Nat) : w.grownBy (w'.drewN q) none := h.trans (drawn_grown ⟨q, rfl⟩ none)
theorem bytes_keepN {w w' : World} {b n : Nat} {A : Option Addr} {l : List Nat} (h : Bytes w b A n l) (hg : w.grownBy w' none) : Bytes w' b A n l := h.keep (grown_weak hg _)
end Go.Proofs.Ytpdkjgmldlpaaaa.Codec
