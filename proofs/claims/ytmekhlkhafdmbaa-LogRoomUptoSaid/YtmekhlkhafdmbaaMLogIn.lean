/- Arguments of the log's laws, opened. -/
import Derived.Test.YtmekhlkhafdmbaaMLogImgs
import Derived.Test.YtmekhlkhafdmbaaMOpenOps
namespace Go.Proofs.Ytmekhlkhafdmbaa.Log
open Go.ChangeShapes Go.WideShapes Go.RowKit CrcMath CodecMath Mem Crc Codec DiskSpec Dsk Sup

set_option maxRecDepth 100000 in
theorem open_counts {H : Type} {enc : TypeId × Value → H} {W : World} {base : Nat} {v : Value} {d : DataW H} {p : List MemPlace} (o : Value.okWide Try.prog W .any base 22 v) (h : DataW.Trod enc Try.prog W 0 (fun _ => true) true 22 v d p) :
    ∃ A n c l, v = .slice A n c ∧ PIn W A n l ∧ (n = 0 ∨ ∃ el sp, d = .slice el sp ∧ el.length = n) := by
  obtain ⟨A, n, c, rfl⟩ := okWide_slice Try.underlying22 o
  obtain ⟨fuel, hf⟩ := h
  rcases open_ints Try.underlying22 Try.underlying3 (by kernel_rfl) hf with ⟨hcs, _⟩ | ⟨x, l, c', zs, hcs, _, hl, hm, hz, hx, hcell, hwz⟩
  · simp [Value.cells] at hcs
    obtain ⟨rfl, rfl, rfl⟩ := hcs
    exact ⟨_, _, _, [], rfl, ⟨rfl, by simp, by omega⟩, .inl rfl⟩
  · simp [Value.cells] at hcs
    obtain ⟨rfl, rfl, rfl⟩ := hcs
    simp only [Prod.mk.injEq] at hx
    obtain ⟨rfl, _⟩ := hx
    have hz' : zs.length = c := by simpa using hz
    refine ⟨_, _, _, zs.take n, rfl, ⟨by simp; omega, fun y hy => bounds_i64 (hwz y (List.mem_of_mem_take hy)), fun hn => ?_⟩, .inr ⟨_, _, rfl, by simp [lits]; omega⟩⟩
    obtain ⟨g, o2, sp⟩ := x
    have h0 := hcell 0 (by omega)
    have hsp : sp = none := by simpa [Addr.add] using World.cell?_spot h0
    subst hsp
    have hlt : g < W.heap.size := by have := World.block_lt_of_cell? W _ h0; simpa [Addr.add] using this
    refine ⟨g, o2, rfl, hlt, fun j hj => ?_⟩
    have h1 := hcell j (by omega)
    rw [Addr.add_mid] at h1
    rw [h1]
    congr 2
    simp [List.getD_eq_getElem?_getD, hj]
theorem PIn.at_ {W w : World} {A : Option Addr} {n : Nat} {l : List Int} (h : PIn W A n l) (hb : Below W.heap.size W w) {j : Nat} (hj : j < n) : ∃ g o, A = some ⟨g, o, none⟩ ∧ w.cell? ⟨g, o + j, none⟩ = some (.int .i64 (l.getD j 0)) ∧ -9223372036854775808 ≤ l.getD j 0 ∧ l.getD j 0 ≤ 9223372036854775807 := by
  obtain ⟨g, o, rfl, hlt, hc⟩ := h.2.2 (by omega)
  have hm : l.getD j 0 ∈ l := by rw [List.getD_eq_getElem?_getD, List.getElem?_eq_getElem (by rw [h.1]; omega)]; exact List.getElem_mem _
  exact ⟨g, o, rfl, by rw [World.cell?_of_block (a := ⟨g, o + j, none⟩) (hb.block g hlt)]; exact hc j hj, h.2.1 _ hm⟩

/-! ### Where the laws stand -/
/-- A law's log: since W nothing that was there has turned. -/
structure LK (W w : World) (B b tb g : Nat) (S : St) (own : Nat → Prop) (L : Lg) : Prop where
  l : LAt w B b tb g S own L
  r : Ready w tb
  b : W.grownBy w none
  lo : W.heap.size ≤ tb ∧ W.heap.size ≤ B ∧ W.heap.size ≤ g
section
variable {W w w' : World} {B b tb g : Nat} {S T : St} {own own' : Nat → Prop} {L M : Lg}
theorem LK.quiet (h : LK W w B b tb g S own L) (hg : w.grownBy w' none) : LK W w' B b tb g S own L := ⟨h.l.quiet hg, h.r.keep hg (by simp), h.b.trans hg, h.lo⟩
theorem LK.low (h : LK W w B b tb g S own L) : ∀ i, With2 own tb g i → W.heap.size ≤ i := fun i hi => by
  rcases hi with (hi | hi) | hi
  · exact Nat.le_trans h.lo.2.1 (h.l.s.low hi)
  · rw [hi]; exact h.lo.1
  · rw [hi]; exact h.lo.2.2
theorem LK.turn (h : LK W w B b tb g S own L) (hl : LAt w' B b tb g T own' M) (ht : Turn w w' (With2 own tb g) (With2 own' tb g)) (hr : Ready w' tb) : LK W w' B b tb g T own' M :=
  ⟨hl, hr, ⟨ht.os.trans h.b.os, ht.tape.trans h.b.tape, ht.output.trans h.b.output, Nat.le_trans h.b.size ht.size, fun i hi _ => (ht.block i (Nat.lt_of_lt_of_le hi h.b.size) (fun hp => by have := h.low i hp; omega)).trans (h.b.block i hi (by simp))⟩, h.lo⟩
theorem LK.below (h : LK W w B b tb g S own L) : Below W.heap.size W w := below_of_grown h.b (Nat.le_refl _) (fun _ e => by cases e)
/-- The log's own cells are written. -/
theorem LK.log (h : LK W w B b tb g S own L) (hg : w.grownBy w' (some g)) (hl : LBlk w' g M b tb) (hk : M.ok S.n) : LK W w' B b tb g S own M :=
  h.turn (h.l.log hg hl hk) (turn_logblk hg) (h.r.keep hg (by have := h.l.ne; simp; omega))
end
end Go.Proofs.Ytmekhlkhafdmbaa.Log
