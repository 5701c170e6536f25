/- Texts of this seat's proofs: DiskFlushedWalk, ElseBits. -/
import Derived.Test.YtboccfficmaoaaaMDiskKnown
import Derived.Test.YtboccfficmaoaaaMOpenOps
/- The walk over the law DiskFlushed, by the contracts of what it calls. -/
namespace Go.Proofs.Ytboccfficmaoaaa.Dsk
open Go.RowKit Mem Crc DiskSpec

theorem step_n (S : St) (kind at_ count bytes fill : Int) (fua : Bool) (picks : List Int) : (stepE S kind at_ count bytes fill fua picks).n = S.n := by
  unfold stepE
  split
  · unfold readE; split
    · rfl
    · split <;> rfl
  split
  · unfold writeE; split
    · rfl
    · split
      · rfl
      · split
        · rfl
        · exact puts_n ({ S with f2 := S.f2 - 1 } : St) fua at_.toNat (dataL count bytes fill) _
  split
  · unfold flushE; split <;> rfl
  split
  · unfold failE; split
    · rfl
    · split
      · rfl
      · split
        · rfl
        · split <;> rfl
  split
  · unfold cutE; split <;> rfl
  split
  · rfl
  · rfl
theorem reads_same {S T : St} (h : ∀ i, S.now i = T.now i) (a : Nat) : ∀ c, S.reads a c = T.reads a c
  | 0 => rfl
  | c + 1 => by
    show S.reads a c ++ S.now (a + c) = T.reads a c ++ T.now (a + c)
    rw [reads_same h a c, h]
theorem has_eight {S : St} (hn : S.n = 8) : S.has 0 8 = true := by simp [St.has, hn]
theorem read_eight {S : St} (hn : S.n = 8) (hf : S.f1 ≠ 1) : readE S 0 8 = (0, { S with f1 := S.f1 - 1 }) ∧ readL S 0 8 = S.reads 0 8 := by
  unfold readE readL
  rw [has_eight hn]
  simp [hf]
theorem no_dirty {S : St} (h : ∀ k, S.ver k = []) : S.dirty = [] := by
  unfold St.dirty
  rw [List.filter_eq_nil_iff]
  intro k _
  simp [h k]
theorem crash_now {S : St} (h : ∀ k, S.ver k = []) (picks : List Int) (i : Nat) : (S.crash picks).now i = S.now i := by
  have e1 : (S.crash picks).now i = (S.crash picks).dur i := rfl
  rw [e1, St.now_nil (h i)]
  show pickOf (S.dur i) (S.ver i) _ = _
  rw [h i, pickOf_nil]
theorem Script.at_ {W wr : World} {A : Option Addr} {n : Nat} {ops : List OpR} (h : Script W A n ops) (hb : Below W.heap.size W wr) {j : Nat} (hj : j < n) : ∃ (x : OpR) (g off : Nat), x.ok W ∧ A = some ⟨g, off, none⟩ ∧
    wr.cell? ⟨g, off + j * 7, none⟩ = some (.int .i64 x.kind) ∧ wr.cell? ⟨g, off + j * 7 + 1, none⟩ = some (.int .i64 x.at_) ∧ wr.cell? ⟨g, off + j * 7 + 2, none⟩ = some (.int .i64 x.count) ∧ wr.cell? ⟨g, off + j * 7 + 3, none⟩ = some (.int .i64 x.bytes) ∧
    wr.cell? ⟨g, off + j * 7 + 4, none⟩ = some (.int .i64 x.fill) ∧ wr.cell? ⟨g, off + j * 7 + 5, none⟩ = some (.bool x.fua) ∧ wr.cell? ⟨g, off + j * 7 + 6, none⟩ = some (.slice x.A x.n x.c) := by
  obtain ⟨g, off, rfl, hlt, hc⟩ := h.2.2 (by omega)
  have hjl : j < ops.length := by rw [h.1]; exact hj
  have hx := List.getElem?_eq_getElem hjl
  have hk : ∀ q u, (ops[j]).cells[q]? = some u → wr.cell? ⟨g, off + j * 7 + q, none⟩ = some u := fun q u hq => by
    rw [World.cell?_of_block (a := ⟨g, off + j * 7 + q, none⟩) (hb.block g hlt)]; exact hc j _ hx q u hq
  exact ⟨ops[j], g, off, h.2.1 _ (List.getElem_mem hjl), rfl, hk 0 _ rfl, hk 1 _ rfl, hk 2 _ rfl, hk 3 _ rfl, hk 4 _ rfl, hk 5 _ rfl, hk 6 _ rfl⟩
end Go.Proofs.Ytboccfficmaoaaa.Dsk
namespace Go.Proofs.Ytboccfficmaoaaa.DiskFlushedUpto
open Go.ChangeShapes Go.WideShapes Go.ChangeAt Go.RowKit
open Mem Crc DiskSpec Dsk

end Go.Proofs.Ytboccfficmaoaaa.DiskFlushedUpto
/- The walk over the law DiskElse, by the contracts of what it calls. -/
namespace Go.Proofs.Ytboccfficmaoaaa.Dsk
open Go.ChangeShapes Go.WideShapes Go.RowKit Mem Crc DiskSpec

theorem PIn.grown {w w' : World} {A : Option Addr} {n : Nat} {l : List Int} (h : PIn w A n l) (hg : w.grownBy w' none) : PIn w' A n l := by
  refine ⟨h.1, h.2.1, fun hn => ?_⟩
  obtain ⟨g, o, rfl, hlt, hc⟩ := h.2.2 hn
  exact ⟨g, o, rfl, Nat.lt_of_lt_of_le hlt hg.size, fun j hj => by rw [World.cell?_of_block (a := ⟨g, o + j, none⟩) (hg.block g hlt (by simp))]; exact hc j hj⟩
theorem OpR.ok.grown {w w' : World} {x : OpR} (h : x.ok w) (hg : w.grownBy w' none) : x.ok w' := ⟨h.at_, h.count, h.picks.grown hg, h.n⟩
theorem Script.grown {w w' : World} {A : Option Addr} {n : Nat} {ops : List OpR} (h : Script w A n ops) (hg : w.grownBy w' none) : Script w' A n ops := by
  refine ⟨h.1, fun x hx => (h.2.1 x hx).grown hg, fun hn => ?_⟩
  obtain ⟨g, o, rfl, hlt, hc⟩ := h.2.2 hn
  exact ⟨g, o, rfl, Nat.lt_of_lt_of_le hlt hg.size, fun j x hj q u hq => by rw [World.cell?_of_block (a := ⟨g, o + j * 7 + q, none⟩) (hg.block g hlt (by simp))]; exact hc j x hj q u hq⟩
set_option maxRecDepth 100000 in
theorem open_op {H : Type} {enc : TypeId × Value → H} {W : World} {base : Nat} {v : Value} {d : DataW H} {p : List MemPlace} (o : Value.okWide Try.prog W .any base 73 v) (h : DataW.Trod enc Try.prog W 0 (fun _ => true) true 73 v d p) :
    ∃ y : OpR, v = .agg #[.int .i64 y.kind, .int .i64 y.at_, .int .i64 y.count, .int .i64 y.bytes, .int .i64 y.fill, .bool y.fua, .slice y.A y.n y.c] ∧ y.ok W := by
  obtain ⟨cs, rfl, _⟩ := okWide_struct Try.underlying73 o
  obtain ⟨fuel, hf⟩ := h
  obtain ⟨y, hy, hok⟩ := op_came hf
  refine ⟨y, ?_, hok⟩
  have e : cs.toList = y.cells := by simpa [Value.cells] using hy
  congr 1
  apply Array.toList_inj.1
  exact e
theorem put_now (S : St) (fua : Bool) (i : Nat) (v : List Nat) (k : Nat) : (S.put fua i v).now k = if k = i then v else S.now k := by
  have e : (S.add i v).now k = if k = i then v else S.now k := by
    show (upd S.ver i (S.ver i ++ [v]) k).getLastD (S.dur k) = _
    by_cases h : k = i
    · subst h; simp [upd]
    · simp [upd, h, St.now]
  unfold St.put
  cases fua with
  | false => simpa using e
  | true =>
    rw [if_pos rfl]
    show (upd (S.add i v).ver i [] k).getLastD (upd (S.add i v).dur i ((S.add i v).now i) k) = _
    by_cases h : k = i
    · subst h
      rw [if_pos rfl] at e
      rw [if_pos rfl]
      simp only [upd, if_true]
      exact e
    · rw [if_neg h] at e
      rw [if_neg h, ← e]
      simp only [upd, h, if_false]
      rfl
theorem puts_now (S : St) (fua : Bool) (a : Nat) (l : List Nat) (k : Nat) : ∀ j, (S.puts fua a l j).now k = if a ≤ k ∧ k < a + j then sec l (k - a) else S.now k
  | 0 => by rw [if_neg (by omega)]; rfl
  | j + 1 => by
    show ((S.puts fua a l j).put fua (a + j) (sec l j)).now k = _
    rw [put_now, puts_now S fua a l k j]
    by_cases hk : k = a + j
    · rw [if_pos hk, if_pos (by omega), show k - a = j by omega]
    · rw [if_neg hk]
      by_cases h : a ≤ k ∧ k < a + j
      · rw [if_pos h, if_pos (by omega)]
      · rw [if_neg h, if_neg (by omega)]
theorem puts_f1 (S : St) (fua : Bool) (a : Nat) (l : List Nat) : ∀ j, (S.puts fua a l j).f1 = S.f1
  | 0 => rfl
  | j + 1 => by
    show ((S.puts fua a l j).put fua (a + j) (sec l j)).f1 = _
    rw [← puts_f1 S fua a l j]
    unfold St.put
    split <;> rfl
theorem reads_at {S : St} (hok : S.ok) (a : Nat) : ∀ c i, i < 256 * c → (S.reads a c).getD i 0 = (S.now (a + i / 256)).getD (i % 256) 0
  | 0, i, h => by omega
  | c + 1, i, h => by
    have hl := reads_length hok a c
    show (S.reads a c ++ S.now (a + c)).getD i 0 = _
    by_cases hi : i < 256 * c
    · rw [List.getD_eq_getElem?_getD, List.getElem?_append_left (by omega), ← List.getD_eq_getElem?_getD, reads_at hok a c i hi]
    · rw [List.getD_eq_getElem?_getD, List.getElem?_append_right (by omega), ← List.getD_eq_getElem?_getD, hl]
      rw [show i / 256 = c by omega, show i % 256 = i - 256 * c by omega]
theorem sec_at (l : List Nat) (j q : Nat) (hq : q < 256) : (sec l j).getD q 0 = l.getD (256 * j + q) 0 := by
  unfold sec
  rw [List.getD_eq_getElem?_getD, List.getElem?_take_of_lt hq, List.getElem?_drop, ← List.getD_eq_getElem?_getD]
theorem flush_now (S : St) (k : Nat) : (flushE S).2.now k = S.now k := by unfold flushE; split <;> rfl
theorem flush_n (S : St) : (flushE S).2.n = S.n := by unfold flushE; split <;> rfl
theorem flush_f1 (S : St) : (flushE S).2.f1 = S.f1 := by unfold flushE; split <;> rfl
/-- What a write is, and what is read behind it. -/
theorem write_n (S : St) (fua : Bool) (a : Int) (l : List Nat) : (writeE S fua a l).2.n = S.n := by
  unfold writeE
  split
  · rfl
  · split
    · rfl
    · split
      · rfl
      · exact puts_n ({ S with f2 := S.f2 - 1 } : St) fua a.toNat l _
theorem write_f1 (S : St) (fua : Bool) (a : Int) (l : List Nat) : (writeE S fua a l).2.f1 = S.f1 := by
  unfold writeE
  split
  · rfl
  · split
    · rfl
    · split
      · rfl
      · exact puts_f1 ({ S with f2 := S.f2 - 1 } : St) fua a.toNat l _
theorem write_not {S : St} {fua : Bool} {a : Int} {l : List Nat} (h : (writeE S fua a l).1 ≠ 0) (k : Nat) : (writeE S fua a l).2.now k = S.now k := by
  unfold writeE at *
  split
  · rfl
  · rename_i h1
    split
    · rfl
    · rename_i h2
      split
      · rfl
      · rename_i h3
        rw [if_neg h1, if_neg h2, if_neg h3] at h
        exact absurd rfl h
theorem write_did {S : St} {fua : Bool} {a : Int} {l : List Nat} (hn : S.n = 8) (h : (writeE S fua a l).1 = 0) : ∃ p c : Nat, a = (p : Int) ∧ l.length = 256 * c ∧ 1 ≤ c ∧ p + c ≤ 8 ∧ ∀ k, (writeE S fua a l).2.now k = if p ≤ k ∧ k < p + c then sec l (k - p) else S.now k := by
  unfold writeE at *
  split at h
  · exact absurd h (show ¬ ((1 : Int) = 0) by decide)
  · rename_i h1
    rw [if_neg h1]
    split at h
    · exact absurd h (show ¬ ((2 : Int) = 0) by decide)
    · rename_i h2
      rw [if_neg h2]
      split at h
      · exact absurd h (show ¬ ((11 : Int) = 0) by decide)
      · rename_i h3
        rw [if_neg h3]
        have h2' : S.has a (l.length / 256 : Nat) = true := by simpa using h2
        obtain ⟨p, c, rfl, e, h4, h5⟩ := has_split h2' (by omega)
        have hc : l.length / 256 = c := by omega
        refine ⟨p, c, rfl, by omega, h4, by omega, fun k => ?_⟩
        rw [hc]
        exact puts_now ({ S with f2 := S.f2 - 1 } : St) fua p l k c
/-- What is read in the end. -/
theorem else_no {S : St} {fua : Bool} {a : Int} {l : List Nat} (h : (writeE S fua a l).1 ≠ 0) : (flushE (writeE S fua a l).2).2.reads 0 8 = S.reads 0 8 :=
  reads_same (fun i => by rw [flush_now, write_not h]) 0 8
theorem else_yes {S : St} {fua : Bool} {a : Int} {l : List Nat} (hok : S.ok) (hok2 : (flushE (writeE S fua a l).2).2.ok) {p c : Nat} (hk : ∀ k, (writeE S fua a l).2.now k = if p ≤ k ∧ k < p + c then sec l (k - p) else S.now k) {i : Nat} (hi : i < 2048) :
    ((flushE (writeE S fua a l).2).2.reads 0 8).getD i 0 = if p ≤ i / 256 ∧ i / 256 < p + c then l.getD (i - 256 * p) 0 else (S.reads 0 8).getD i 0 := by
  rw [reads_at hok2 0 8 i (by omega), reads_at hok 0 8 i (by omega), flush_now, hk, Nat.zero_add]
  split
  · rename_i h
    rw [sec_at _ _ _ (Nat.mod_lt _ (by omega)), show 256 * (i / 256 - p) + i % 256 = i - 256 * p by omega]
  · rfl
/-- Bytes that were given are bytes outside the disk. -/
theorem data_of_gave {w : World} {base : Nat} {own : Nat → Prop} {v : Value} {l : List Nat} (h : Gave8 w base v l) (hx : ∀ x ∈ l, x < 256) (ho : ∀ g, base ≤ g → ¬ own g) : ∃ A c, v = .slice A l.length c ∧ Data w own A l.length l := by
  rcases h with ⟨rfl, rfl⟩ | ⟨g, cap, rfl, hb, hh⟩
  · exact ⟨none, 0, rfl, rfl, hx, fun h => absurd h (by simp)⟩
  · refine ⟨_, _, rfl, rfl, hx, fun _ => ⟨g, 0, rfl, hh.lt, ho g hb, fun j hj => ?_⟩⟩
    rw [Nat.zero_add, hh.cell, List.getElem?_toArray]; exact u8s_at l j hj
theorem Data.same {w w' : World} {own : Nat → Prop} {A : Option Addr} {n : Nat} {l : List Nat} (h : Data w own A n l) (hg : w.grownBy w' none) : Data w' own A n l := h.turn (Turn.none_ hg)
end Go.Proofs.Ytboccfficmaoaaa.Dsk
