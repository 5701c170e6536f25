/- Texts of this seat's proofs: DiskFlush, DiskCrash. -/
import Derived.Test.YtmekhlkhafdmbaaMDiskDirty
import Derived.Test.YtmekhlkhafdmbaaMDiskSettle
import Derived.Test.YtmekhlkhafdmbaaMDiskLay
/- All is made durable; the power goes. -/
namespace Go.Proofs.Ytmekhlkhafdmbaa.Dsk
open Go.RowKit Mem Crc DiskSpec

theorem nats_cell {w : World} {base n : Nat} {v : Value} {l : List Nat} (h : w.ownsRow base 3 1 v n (nats l)) :
    n = l.length ∧ ∃ A c, v = .slice A n c ∧ ∀ j, j < n → ∃ g, A = some ⟨g, 0, none⟩ ∧ base ≤ g ∧ g < w.heap.size ∧ w.cell? ⟨g, j, none⟩ = some (.int .i64 (l.getD j 0 : Nat)) := by
  have hn : n = l.length := by have := h.1; rw [nats_length] at this; omega
  refine ⟨hn, ?_⟩
  rcases h.2 with ⟨rfl, h0⟩ | ⟨g, cap, cur, rfl, hbg, hh, _⟩
  · subst h0; exact ⟨none, 0, rfl, fun j hj => by omega⟩
  · refine ⟨_, cap, rfl, fun j hj => ⟨g, rfl, hbg, (Array.getElem?_eq_some_iff.1 hh).1, ?_⟩⟩
    have h1 := World.ownsRow.cells h (g := g) rfl j _ (nats_at l j (by omega))
    have e1 : (⟨g, 0, none⟩ : Addr).add j = ⟨g, j, none⟩ := by unfold Addr.add; split <;> simp_all
    rw [e1] at h1
    rw [h1, List.getD_eq_getElem?_getD, List.getElem?_eq_getElem (by omega)]; rfl
theorem dirty_bound {S : St} {j : Nat} (hj : j < S.dirty.length) : S.dirty.getD j 0 < S.n := by
  rw [List.getD_eq_getElem?_getD, List.getElem?_eq_getElem hj]
  exact ((mem_dirty _).1 (List.getElem_mem hj)).1
theorem dirty_le (S : St) : S.dirty.length ≤ S.n := by
  have := List.length_filter_le (fun k => !(S.ver k).isEmpty) (List.range S.n)
  simpa [St.dirty] using this

end Go.Proofs.Ytmekhlkhafdmbaa.Dsk
/- The power goes. -/
namespace Go.Proofs.Ytmekhlkhafdmbaa.Dsk
open Go.RowKit Mem Crc DiskSpec

/-- Picks that are handed in: whole numbers outside the disk's own blocks. -/
def Picks (w : World) (own : Nat → Prop) (A : Option Addr) (n : Nat) (l : List Int) : Prop :=
  l.length = n ∧ (∀ x ∈ l, -9223372036854775808 ≤ x ∧ x ≤ 9223372036854775807) ∧ (0 < n → ∃ g o, A = some ⟨g, o, none⟩ ∧ g < w.heap.size ∧ ¬ own g ∧ ∀ j, j < n → w.cell? ⟨g, o + j, none⟩ = some (.int .i64 (l.getD j 0)))
theorem Picks.nil (w : World) (own : Nat → Prop) : Picks w own none 0 [] := ⟨rfl, by simp, by omega⟩
theorem Picks.turn {w w' : World} {own own' : Nat → Prop} {A : Option Addr} {n : Nat} {l : List Int} (h : Picks w own A n l) (ht : Turn w w' own own') : Picks w' own' A n l := by
  refine ⟨h.1, h.2.1, fun hn => ?_⟩
  obtain ⟨g, o, e, hlt, hno, hc⟩ := h.2.2 hn
  refine ⟨g, o, e, Nat.lt_of_lt_of_le hlt ht.size, fun ho => by rcases ht.fresh g ho with h1 | h1; exact hno h1; omega, fun j hj => ?_⟩
  rw [World.cell?_of_block (a := ⟨g, o + j, none⟩) (ht.block g hlt hno)]
  exact hc j hj

section
variable {w w' : World} {B b bd bm : Nat} {S T : St} {f : Nat → Option Value} {own : Nat → Prop}
/-- The disk's own block is written: the disk is what it then says. -/
theorem Lay.struct (h : Lay w B b bd bm f S own) (hg : w.grownBy w' (some b)) (hT : T.ok) (hn : T.n = S.n) (hd : T.dur = S.dur) (hv : T.ver = S.ver)
    (hb : Blk w' b 70 #[.slice (some ⟨bd, 0, none⟩) T.n T.n, .map (some bm), .int .i64 0, .int .i64 (T.f1 : Nat), .int .i64 (T.f2 : Nat), .int .i64 (T.f3 : Nat), .int .i64 T.left]) : Lay w' B b bd bm f T own where
  ok := hT
  blk := hb
  dur i hi := by rw [hd]; exact rangeAt_of_block (h.dur i (by omega)) (hg.block bd (h.lt bd h.ownD) (by simpa using fun e => h.bd_ e.symm))
  room := by rw [hn]; exact there_of_block h.room (hg.block bd (h.lt bd h.ownD) (by simpa using fun e => h.bd_ e.symm))
  map := by rw [hn]; exact h.map.of_block (hg.block bm (h.lt bm h.ownM) (by simpa using fun e => h.bm_ e.symm))
  rows := (h.rows.keep (fun i hi hb _ _ => hg.block i (h.lt i hi) (by simpa using hb))).same hv
  ownB := h.ownB
  ownD := h.ownD
  ownM := h.ownM
  bd_ := h.bd_
  bm_ := h.bm_
  dm_ := h.dm_
  low := h.low
  lt i hi := Nat.lt_of_lt_of_le (h.lt i hi) hg.size
theorem Lay.clearAt (h : Lay w B b bd bm f S own) (ty : TypeId) :
    ∃ w', (Builtin.clear_ #[67] ty #[.map (some bm)]).run Try.prog w = .ok (.tuple #[]) w' ∧ Lay w' B b bd bm (fun _ => none) { S with ver := fun _ => [] } own ∧ w.grownBy w' (some bm) := by
  obtain ⟨w', hrun, hm, hg⟩ := h.map.clear (t := 67) (E := 66) Try.underlying67 ty
  exact ⟨w', hrun, h.clear hg hm, hg⟩
/-- Nothing is to fail any more. -/
theorem Lay.unfail (h : Lay w B b bd bm f S own) (ty : TypeId) :
    (Builtin.clear_ #[22] ty #[.slice (some ⟨b, 2, none⟩) 4 4]).run Try.prog w = .ok (.tuple #[]) (w.setCells b 2 [.int .i64 0, .int .i64 0, .int .i64 0, .int .i64 0]) ∧
      Lay (w.setCells b 2 [.int .i64 0, .int .i64 0, .int .i64 0, .int .i64 0]) B b bd bm f { S with f1 := 0, f2 := 0, f3 := 0 } own ∧ w.grownBy (w.setCells b 2 [.int .i64 0, .int .i64 0, .int .i64 0, .int .i64 0]) (some b) := by
  have hst := run_storeCells_cells (P := Try.prog) b 2 [.int .i64 0, .int .i64 0, .int .i64 0, .int .i64 0] 0 w
    (fun j hj => by
      have hj' : j < 4 := hj
      rw [h.blk.cell]
      match j, hj' with
      | 0, _ => rfl
      | 1, _ => rfl
      | 2, _ => rfl
      | 3, _ => rfl)
    (fun j _ => h.blk.frozen _) (fun v hv => by simp at hv; subst hv; rfl)
  refine ⟨?_, h.struct (T := { S with f1 := 0, f2 := 0, f3 := 0 }) (grown_setCells b _ _ w) { h.ok with f1 := Nat.zero_le _, f2 := Nat.zero_le _, f3 := Nat.zero_le _ } rfl rfl rfl ?_, grown_setCells b _ _ w⟩
  · have hzc : Builtin.zeroCells (Value.int .i64 0).cells 4 = #[Value.int .i64 0, Value.int .i64 0, Value.int .i64 0, Value.int .i64 0] := by kernel_rfl
    simp [Builtin.clear_, run_underlying Try.underlying22, hzc]
    have := hst
    simp at this
    rw [this]
    rfl
  · exact (((h.blk.set_ 2 (.int .i64 0)).set_ 3 (.int .i64 0)).set_ 4 (.int .i64 0)).set_ 5 (.int .i64 0)
end

end Go.Proofs.Ytmekhlkhafdmbaa.Dsk
