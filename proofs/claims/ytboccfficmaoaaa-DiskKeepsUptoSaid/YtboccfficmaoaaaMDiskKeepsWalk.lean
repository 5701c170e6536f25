/- The walk over the law DiskKeeps, by the contracts of what it calls. -/
import Derived.Test.YtboccfficmaoaaaMKeepBits
import Derived.Deep.DeepCutAuto
namespace Go.Proofs.Ytboccfficmaoaaa.Dsk
open Go.RowKit Mem Crc DiskSpec

/-- The law's own rows behind k of its first rounds. -/
def may0 (k : Nat) : Nat → List Nat := fun q => if q < k then [0] else []
theorem may0_step (k : Nat) : upd (may0 k) k [0] = may0 (k + 1) := by
  funext q
  unfold upd may0
  by_cases e : q = k
  · subst e; rw [if_pos rfl, if_pos (by omega)]
  · rw [if_neg e]
    by_cases h : q < k
    · rw [if_pos h, if_pos (by omega)]
    · rw [if_neg h, if_neg (by omega)]
theorem Kept.start8 : Kept (St.new 8) (may0 8) :=
  { Kept.start with is := fun i hi => by show may0 8 i = [0]; unfold may0; rw [if_pos hi] }
/-- The array is made. -/
theorem May.made (w : World) (own : Nat → Prop) (ho : ∀ g, own g → g < w.heap.size) : May (w.alloc (.cells #[.slice none 0 0, .slice none 0 0, .slice none 0 0, .slice none 0 0, .slice none 0 0, .slice none 0 0, .slice none 0 0, .slice none 0 0] 71)) w.heap.size (w.heap.size + 1) (fun _ => .slice none 0 0) (may0 0) own where
  arr := ⟨_, Blk.new w _ _, fun i hi => by
    match i, hi with
    | 0, _ => rfl
    | 1, _ => rfl
    | 2, _ => rfl
    | 3, _ => rfl
    | 4, _ => rfl
    | 5, _ => rfl
    | 6, _ => rfl
    | 7, _ => rfl⟩
  row _ _ := Tail.nil _ _
  apart _ _ _ _ _ _ h := by cases h
  out _ _ _ h := by cases h
  outM h := by have := ho _ h; omega
  low := by omega
/-- A row of one nought. -/
theorem May.zero {w : World} {M : Nat} {mv : Nat → Value} {own : Nat → Prop} {k : Nat} (h : May w M (M + 1) mv (may0 k) own) (hk : k < 8) (hown : ∀ g, own g → g < w.heap.size) :
    May ((w.alloc (.cells #[.int .u8 0] 5)).setCell ⟨M, k, none⟩ (.slice (some ⟨w.heap.size, 0, none⟩) 1 1)) M (M + 1) (upd mv k (.slice (some ⟨w.heap.size, 0, none⟩) 1 1)) (may0 (k + 1)) own := by
  have hM := h.lt
  have hb := Blk.new w 5 #[.int .u8 0]
  have h1 := h.set hk (w' := w.alloc (.cells #[.int .u8 0] 5)) (A := some ⟨w.heap.size, 0, none⟩) (n := 1) (c := 1) (xs := [0]) (World.grownBy_alloc w _ _)
    (.inr ⟨w.heap.size, 0, 1, _, rfl, by omega, hb, by simp, by simp, by simp [maxLen], fun j x hx => by
      have hj : j = 0 := by have := (List.getElem?_eq_some_iff.1 hx).1; simp at this; omega
      subst hj
      simp at hx
      subst hx
      rfl⟩) (.inr fun g e => by cases e; exact Nat.le_refl _) hown
  rw [may0_step] at h1
  exact h1
/-- Where the law stands in its script. -/
structure Keeps (W wr : World) (b M j : Nat) (S : St) (mv : Nat → Value) (m : Nat → List Nat) (own : Nat → Prop) : Prop where
  d : DAt wr W.heap.size b S own
  kept : Kept S m
  may : May wr M (M + 1) mv m own
  ver : ∀ k, (S.ver k).length ≤ j
  below : Below W.heap.size W wr
  above : W.heap.size ≤ M
section
variable {W wr w' : World} {b M j : Nat} {S S' : St} {mv : Nat → Value} {m : Nat → List Nat} {own own' : Nat → Prop}
theorem Keeps.more (h : Keeps W wr b M j S mv m own) : Keeps W wr b M (j + 1) S mv m own := { h with ver := fun k => Nat.le_succ_of_le (h.ver k) }
theorem Keeps.grown (h : Keeps W wr b M j S mv m own) (hg : wr.grownBy w' none) : Keeps W w' b M j S mv m own :=
  ⟨h.d.far (Turn.none_ (own := fun _ => False) hg) (fun _ _ e => e), h.kept, h.may.grown hg, h.ver, h.below.grown hg h.below.size (fun _ e => by cases e), h.above⟩
theorem Keeps.alloc (h : Keeps W wr b M j S mv m own) (o : Obj) : Keeps W (wr.alloc o) b M j S mv m own := h.grown (World.grownBy_alloc wr o none)
theorem Keeps.turn (h : Keeps W wr b M j S mv m own) (hd : DAt w' W.heap.size b S' own') (ht : Turn wr w' own own') (hk : Kept S' m) (hv : ∀ k, (S'.ver k).length ≤ j) : Keeps W w' b M j S' mv m own' :=
  ⟨hd, hk, h.may.turn ht, hv, h.below.trans (ht.below h.d.least h.below.size), h.above⟩
/-- Each row cut to its last byte, so far. -/
def mayF (m : Nat → List Nat) (k : Nat) : Nat → List Nat := fun q => if q < k then [(m q).getLastD 0] else m q
theorem mayF_zero (m : Nat → List Nat) : mayF m 0 = m := by funext q; simp [mayF]
theorem mayF_step (m : Nat → List Nat) (k : Nat) : upd (mayF m k) k [(m k).getLastD 0] = mayF m (k + 1) := by
  funext q
  unfold upd mayF
  by_cases e : q = k
  · subst e; rw [if_pos rfl, if_pos (by omega)]
  · rw [if_neg e]
    by_cases h : q < k
    · rw [if_pos h, if_pos (by omega)]
    · rw [if_neg h, if_neg (by omega)]
structure FlushAt (W wr : World) (b M : Nat) (T : St) (mv : Nat → Value) (m : Nat → List Nat) (own : Nat → Prop) : Prop where
  d : DAt wr W.heap.size b T own
  may : May wr M (M + 1) mv m own
  ver : ∀ k, T.ver k = []
  below : Below W.heap.size W wr
  above : W.heap.size ≤ M
theorem flush_parts (h : Keeps W wr b M j S mv m own) (hd : DAt w' W.heap.size b S' own) (ht : Turn wr w' own own) (hv : S'.ver = fun _ => []) : FlushAt W w' b M S' mv m own :=
  ⟨hd, h.may.turn ht, fun k => by rw [hv], h.below.trans (ht.below h.d.least h.below.size), h.above⟩
theorem FlushAt.next {T : St} {k : Nat} (h : FlushAt W wr b M T mv (mayF m k) own) (hk : Kept S m) (h8 : k < 8) : ∃ g off cap, mv k = .slice (some ⟨g, off, none⟩) (m k).length cap ∧ (m k).length ≤ cap ∧
    FlushAt W (wr.setCell ⟨M, k, none⟩ (.slice (some ⟨g, off + ((m k).length - 1), none⟩) 1 (cap - ((m k).length - 1)))) b M T (upd mv k (.slice (some ⟨g, off + ((m k).length - 1), none⟩) 1 (cap - ((m k).length - 1)))) (mayF m (k + 1)) own := by
  have hr := h.may.row k h8
  have e : mayF m k k = m k := by unfold mayF; rw [if_neg (by omega)]
  rw [e] at hr
  obtain ⟨g, off, cap, hv, hl, ht⟩ := hr.last (by rw [hk.is k h8]; simp)
  have h1 := h.may.set h8 (World.grownBy.refl wr _) ht (.inl (by rw [hv]; rfl)) h.d.lt
  rw [mayF_step] at h1
  have hg := Lib.grownBy_setB (World.grownBy.refl wr (some M)) k (.slice (some ⟨g, off + ((m k).length - 1), none⟩) 1 (cap - ((m k).length - 1)))
  refine ⟨g, off, cap, hv, hl, h.d.far (Turn.of_grown (own := fun i => i = M) hg (fun j e => by cases e; rfl)) (fun i hi e => by subst e; exact h.may.outM hi), h1, h.ver, h.below.grown hg h.below.size (fun i e => by cases e; exact h.above), h.above⟩
theorem FlushAt.quiet {T : St} (h : FlushAt W wr b M T mv m own) (hg : wr.grownBy w' none) : FlushAt W w' b M T mv m own :=
  ⟨h.d.far (Turn.none_ (own := fun _ => False) hg) (fun _ _ e => e), h.may.grown hg, h.ver, h.below.grown hg h.below.size (fun _ e => by cases e), h.above⟩
theorem FlushAt.done {T : St} (h : FlushAt W wr b M T mv (mayF m 8) own) (hk : Kept T (fun i => [(m i).getLastD 0])) : Keeps W wr b M (j + 1) T mv (mayF m 8) own :=
  ⟨h.d, { hk with is := fun i hi => by have := hk.is i hi; unfold mayF; rw [if_pos hi]; exact this }, h.may, fun k => by rw [h.ver k]; simp, h.below, h.above⟩
theorem fail_same (S : St) (kind n : Int) : (failE S kind n).2.n = S.n ∧ (failE S kind n).2.dur = S.dur ∧ (failE S kind n).2.ver = S.ver := by
  unfold failE
  split
  · exact ⟨rfl, rfl, rfl⟩
  · split
    · exact ⟨rfl, rfl, rfl⟩
    · split
      · exact ⟨rfl, rfl, rfl⟩
      · split <;> exact ⟨rfl, rfl, rfl⟩
theorem cut_same (S : St) (n : Int) : (cutE S n).2.n = S.n ∧ (cutE S n).2.dur = S.dur ∧ (cutE S n).2.ver = S.ver := by
  unfold cutE
  split <;> exact ⟨rfl, rfl, rfl⟩
theorem fail_keeps (h : Kept S m) (kind n : Int) : Kept (failE S kind n).2 m := h.same (fail_same S kind n).1 (fail_same S kind n).2.1 (fail_same S kind n).2.2
theorem cut_keeps (h : Kept S m) (n : Int) : Kept (cutE S n).2 m := h.same (cut_same S n).1 (cut_same S n).2.1 (cut_same S n).2.2
end
/-- Behind the script and a crash. -/
structure Over8 (C : St) (m : Nat → List Nat) : Prop where
  n : C.n = 8
  f1 : C.f1 = 0
  in_ : ∀ i, i < 8 → first (C.now i) ∈ m i ∧ Flat (C.now i)
  ver : ∀ k, C.ver k = []
  len : ∀ i, i < 8 → (m i).length ≤ 1048577
theorem read_over {C : St} {m : Nat → List Nat} (h : Over8 C m) {i : Nat} (hi : i < 8) : readE C ((i : Nat) : Int) 1 = (0, C) ∧ readL C ((i : Nat) : Int) 1 = C.now i := by
  have hh : C.has ((i : Nat) : Int) 1 = true := by simp [St.has, h.n]; omega
  have hC : ({ C with f1 := C.f1 - 1 } : St) = C := by
    have := h.f1
    cases C
    simp at this
    subst this
    rfl
  refine ⟨?_, ?_⟩
  · unfold readE
    rw [hh, if_neg (by decide), if_neg (by rw [h.f1]; decide), hC]
  · unfold readL
    rw [hh, if_neg (by decide), if_neg (by rw [h.f1]; decide)]
    show C.reads ((i : Nat) : Int).toNat 1 = _
    rw [Int.toNat_natCast]
    show [] ++ C.now (i + 0) = _
    simp
structure EndAt (W wr : World) (b M : Nat) (C : St) (mv : Nat → Value) (m : Nat → List Nat) (own : Nat → Prop) : Prop where
  d : DAt wr W.heap.size b C own
  may : May wr M (M + 1) mv m own
  below : Below W.heap.size W wr
section
variable {W wr w' : World} {b M : Nat} {C : St} {mv : Nat → Value} {m : Nat → List Nat} {own : Nat → Prop}
theorem EndAt.turn (h : EndAt W wr b M C mv m own) (hd : DAt w' W.heap.size b C own) (ht : Turn wr w' own own) : EndAt W w' b M C mv m own :=
  ⟨hd, h.may.turn ht, h.below.trans (ht.below h.d.least h.below.size)⟩
theorem EndAt.quiet (h : EndAt W wr b M C mv m own) (hg : wr.grownBy w' none) : EndAt W w' b M C mv m own :=
  h.turn (h.d.far (Turn.none_ (own := fun _ => False) hg) (fun _ _ e => e)) (Turn.none_ hg)
end
theorem dat_grown8 {w w' : World} {B b : Nat} {S : St} {own : Nat → Prop} (h : DAt w B b S own) {row : Option Nat} (hg : w.grownBy w' row) (hr : ∀ j, row = some j → ¬ own j) : DAt w' B b S own := by
  obtain ⟨bd, bm, f, h⟩ := h
  exact ⟨bd, bm, f, h.grown hg hr⟩
theorem step_append_tail {w : World} {ops : Array Oper} {o : Oper} {a : Act} {K : Act → World → Prop} {Q : Exit → Act → World → Prop} {E : Prop} (hgd : o.guard = none) (s x : Operand)
    (ho : o.op = .call { callee := .builtin .append, args := #[s, x], argTypes := #[22, 22] })
    (base : Nat) (v : Value) (xs : List Nat) (hs : a.eval s = v) (h : Tail w base v xs) (sb y : Nat) (hx : a.eval x = .slice (some ⟨sb, 0, none⟩) 1 1) (hy : w.cell? ⟨sb, 0, none⟩ = some (.int .u8 (y : Nat)))
    (hroom : xs.length < 1099511627776) (hb : base ≤ w.heap.size)
    (k : ∀ A c w1, Tail w1 base (.slice A (xs.length + 1) c) (xs ++ [y]) → w.grownBy w1 v.ownBlock → ((Value.slice A (xs.length + 1) c).ownBlock = v.ownBlock ∨ (Value.slice A (xs.length + 1) c).ownBlock = some w.heap.size) → K (a.put o.dst (.slice A (xs.length + 1) c)) w1) :
    if Region.wanted o (yielded ops a.tmps) = true then Oper.wp Try.prog o a w K Q else E := by
  have hw : Region.wanted o (yielded ops a.tmps) = true := by simp [Region.wanted, hgd]
  rw [if_pos hw]
  obtain ⟨A, c, w1, hrun, h1, h2, h3⟩ := h.append o.type sb y hy hroom hb
  unfold Oper.wp execOp
  simp only [ho, resolve, invoke, builtin, Sem.run_bind, Sem.run_pure, Result.andThen_ok, List.map_toArray, List.map_cons, List.map_nil, hs, hx, hrun]
  exact k A c w1 h1 h2 h3
theorem write_fell {S : St} {fua : Bool} {a : Int} {l : List Nat} (h : (writeE S fua a l).1 ≠ 0) : (writeE S fua a l).2.n = S.n ∧ (writeE S fua a l).2.dur = S.dur ∧ (writeE S fua a l).2.ver = S.ver := by
  unfold writeE at *
  split
  · exact ⟨rfl, rfl, rfl⟩
  · split
    · exact ⟨rfl, rfl, rfl⟩
    · split
      · exact ⟨rfl, rfl, rfl⟩
      · rename_i h1 h2 h3
        rw [if_neg h1, if_neg h2, if_neg h3] at h
        exact absurd rfl h
theorem write_done {S : St} {fua : Bool} {a : Int} {l : List Nat} (hn : S.n = 8) (h : (writeE S fua a l).1 = 0) : ∃ p c : Nat, a = (p : Int) ∧ l.length = 256 * c ∧ 1 ≤ c ∧ p + c ≤ 8 ∧ (writeE S fua a l).2 = (({ S with f2 := S.f2 - 1 } : St).puts fua p l c).done := by
  unfold writeE at *
  split at h
  · exact absurd h (show ¬ ((1 : Int) = 0) by decide)
  · rename_i h1
    rw [if_neg h1]
    split at h
    · exact absurd h (show ¬ ((2 : Int) = 0) by decide)
    · rename_i h2
      rw [if_neg h2]
      split at h
      · exact absurd h (show ¬ ((11 : Int) = 0) by decide)
      · rename_i h3
        rw [if_neg h3]
        have h2' : S.has a (l.length / 256 : Nat) = true := by simpa using h2
        obtain ⟨p, c, rfl, e, h4, h5⟩ := has_split h2' (by omega)
        have hc : l.length / 256 = c := by omega
        exact ⟨p, c, rfl, by omega, h4, by omega, by rw [hc]; rfl⟩
theorem puts_ver8 (S : St) (fua : Bool) (p : Nat) (l : List Nat) (i : Nat) : ∀ k, ((S.puts fua p l k).ver i).length ≤ (S.ver i).length + (if p ≤ i ∧ i < p + k then 1 else 0)
  | 0 => Nat.le_add_right _ _
  | k + 1 => by
    have ih := puts_ver8 S fua p l i k
    show (((S.puts fua p l k).put fua (p + k) (sec l k)).ver i).length ≤ _
    have hput : ∀ T : St, ((T.put fua (p + k) (sec l k)).ver i).length ≤ (T.ver i).length + (if i = p + k then 1 else 0) := fun T => by
      unfold St.put
      cases fua with
      | true =>
        show (upd (upd T.ver (p + k) _) (p + k) [] i).length ≤ _
        by_cases e : i = p + k
        · subst e; simp [upd]
        · simp [upd, e]
      | false =>
        show (upd T.ver (p + k) (T.ver (p + k) ++ [_]) i).length ≤ _
        by_cases e : i = p + k
        · subst e; simp [upd]
        · simp [upd, e]
    have h1 := hput (S.puts fua p l k)
    split at h1 <;> split at ih <;> split <;> omega
/-- Within a write: the disk has turned whole, the law's rows so far. -/
structure PutAt (W wr w4 : World) (b M g0 xb : Nat) (T : St) (mv : Nat → Value) (m : Nat → List Nat) (own : Nat → Prop) : Prop where
  d : DAt wr W.heap.size b T own
  may : May wr M (M + 1) mv m own
  below : Below W.heap.size W wr
  above : W.heap.size ≤ M
  same : ∀ g, g = g0 ∨ g = xb → g < w4.heap.size ∧ wr.heap[g]? = w4.heap[g]? ∧ g ≠ M ∧ ∀ i, i < 8 → (mv i).ownBlock ≠ some g
  size : w4.heap.size ≤ wr.heap.size
section
variable {W wr w' w4 : World} {b M g0 xb : Nat} {T : St} {mv : Nat → Value} {m : Nat → List Nat} {own : Nat → Prop}
theorem PutAt.quiet (h : PutAt W wr w4 b M g0 xb T mv m own) (hg : wr.grownBy w' none) : PutAt W w' w4 b M g0 xb T mv m own :=
  ⟨h.d.far (Turn.none_ (own := fun _ => False) hg) (fun _ _ e => e), h.may.grown hg, h.below.grown hg h.below.size (fun _ e => by cases e), h.above, fun g hgg => by
    obtain ⟨h1, h2, h3, h4⟩ := h.same g hgg
    exact ⟨h1, (hg.block g (Nat.lt_of_lt_of_le h1 h.size) (by simp)).trans h2, h3, h4⟩, Nat.le_trans h.size hg.size⟩
theorem PutAt.set (h : PutAt W wr w4 b M g0 xb T mv m own) {i : Nat} (hi : i < 8) {A : Option Addr} {n c : Nat} {xs : List Nat} (hg : wr.grownBy w' (mv i).ownBlock) (ht : Tail w' (M + 1) (.slice A n c) xs)
    (hb : (Value.slice A n c).ownBlock = (mv i).ownBlock ∨ ∀ g, (Value.slice A n c).ownBlock = some g → wr.heap.size ≤ g) :
    PutAt W (w'.setCell ⟨M, i, none⟩ (.slice A n c)) w4 b M g0 xb T (upd mv i (.slice A n c)) (upd m i xs) own := by
  have h1 := h.may.set hi hg ht hb h.d.lt
  have hs := Lib.grownBy_setB (World.grownBy.refl w' (some M)) i (.slice A n c)
  have hlow : ∀ j, (mv i).ownBlock = some j → M + 1 ≤ j := fun j hj => ((h.may.row i hi).block j hj).1
  have hout : ∀ j, (mv i).ownBlock = some j → ¬ own j := fun j hj => h.may.out i j hi hj
  have hd1 : DAt w' W.heap.size b T own := dat_grown8 h.d hg hout
  refine ⟨dat_grown8 hd1 hs (fun j e => by cases e; exact h.may.outM), h1, (h.below.grown hg h.below.size (fun j e => by have := hlow j e; have := h.above; omega)).grown hs (h.below.grown hg h.below.size (fun j e => by have := hlow j e; have := h.above; omega)).size (fun j e => by cases e; exact h.above), h.above, fun g hgg => ?_, Nat.le_trans h.size (Nat.le_trans hg.size hs.size)⟩
  obtain ⟨e1, e2, e3, e4⟩ := h.same g hgg
  refine ⟨e1, ((hs.block g (Nat.lt_of_lt_of_le e1 (Nat.le_trans h.size hg.size)) (fun e => by cases e; exact e3 rfl)).trans (hg.block g (Nat.lt_of_lt_of_le e1 h.size) (fun e => e4 i hi e.symm))).trans e2, e3, fun j hj => ?_⟩
  unfold upd
  split
  · rcases hb with hb | hb
    · rw [hb]; exact e4 i hi
    · intro e
      have := hb g e; have := h.size; omega
  · exact e4 j hj
end
theorem mayW_len (m : Nat → List Nat) (fua : Bool) (p : Nat) (l : List Nat) (i : Nat) : ∀ k, (mayW m fua p l k i).length ≤ (m i).length + k
  | 0 => Nat.le_refl _
  | k + 1 => by
    have ih := mayW_len m fua p l i k
    show (upd (mayW m fua p l k) (p + k) ((if fua then [] else mayW m fua p l k (p + k)) ++ [l.getD (256 * k) 0]) i).length ≤ _
    unfold upd
    split
    · rename_i e
      subst e
      cases fua <;> simp at * <;> omega
    · omega
theorem upd_twice {α : Type} (f : Nat → α) (q : Nat) (a b : α) : upd (upd f q a) q b = upd f q b := by
  funext j
  unfold upd
  split <;> rfl
theorem grown_any_row8 {a c : World} (h : a.grownBy c none) (row : Option Nat) : a.grownBy c row := ⟨h.os, h.tape, h.output, h.size, fun i hi _ => h.block i hi (by simp)⟩
theorem grow_by {w w5 : World} {o : Obj} {row : Option Nat} (h : (w.alloc o).drew.grownBy w5 row) : w.grownBy w5 row := by
  have h1 : w.grownBy (w.alloc o).drew none := (World.grownBy_alloc w o none).trans (grown_drew _ none)
  exact (grown_any_row8 h1 row).trans h
end Go.Proofs.Ytboccfficmaoaaa.Dsk
namespace Go.Proofs.Ytboccfficmaoaaa.DiskKeepsUpto
open Go.ChangeShapes Go.WideShapes Go.ChangeAt Go.RowKit
open Mem Crc DiskSpec Dsk

set_option maxRecDepth 100000 in
set_option maxHeartbeats 12800000 in
theorem walk {H : Type} {enc : TypeId × Value → H} (W : World) (base : Nat) (v0 v1 : Value) (d0 d1 : DataW H) (p0 p1 : List MemPlace)
    (o0 : Value.okWide Try.prog W .any base 65 v0)
    (o1 : Value.okWide Try.prog W .any base 31 v1)
    (h0 : DataW.Trod enc Try.prog W 0 (fun _ => true) true 65 v0 d0 p0)
    (h1 : DataW.Trod enc Try.prog W 0 (fun _ => true) true 31 v1 d1 p1)
    (_ : (DataW.weightsEach Try.prog [65, 31] [d0, d1]).all (· ≤ reachBytes) = true) (hk : Rows.uptoSmall H [d0, d1] = true) :
    Calls Try.prog 4 #[v0, v1] W fun e W' => e = .returned (.bool true) ∧ Below W.heap.size W W' := by
  obtain ⟨A, n, c, ops, rfl, hops, _, hcm, hd0⟩ := open_script o0 h0
  obtain ⟨A2, n2, c2, picks, rfl, hpi, hnc2, hcm2⟩ := open_picks o1 h1
  have hn := bulk_len hk (List.mem_cons_self ..) hd0
  have hn2 : n2 ≤ 9223372036854775807 := by unfold maxLen at hcm2; omega
  have HOPS := Lib.hid hops; have HPI := Lib.hid hpi
  clear o0 h0 o1 h1 hk hd0 hops hpi hcm hnc2 hcm2
  have HN := Lib.hid (show Calls Try.prog 26 #[.int .i64 8] W fun e w' => ∃ b bd bm f own, e = .returned (.tuple #[.pointer (some ⟨b, 0, none⟩), .int .i64 0]) ∧ Lay w' W.heap.size b bd bm f (St.new 8) own ∧ W.grownBy w' none from disk_new 8 W (by omega) (by omega))
  go_enter Try.func4, Try.ntmps4
  go_wp2_with fail
  refine HN.out.mono ?_
  rintro e w1 ⟨b, bd, bm, f, own, rfl, hl1, hg1⟩
  have H1 := Lib.hid (show DAt w1 W.heap.size b (St.new 8) own from ⟨bd, bm, f, hl1⟩); have HG1 := Lib.hid hg1
  clear hl1 hg1 HN
  go_wp2_with fail
  refine (known_any w1).mono ?_
  rintro e w2 ⟨rfl, hg2⟩
  have HD2 := Lib.hid (H1.out.far (Turn.none_ (own := fun _ => False) hg2) (fun _ _ e => e))
  have HG2 := Lib.hid (HG1.out.trans hg2)
  have HM0 := Lib.hid (May.made w2 own HD2.out.lt)
  clear hg2 H1 HG1
  go_wp2_with fail
  go_loopw [8] (fun i wr => ∃ (k : Nat) (mv : Nat → Value), k ≤ 8 ∧ i = .int .i64 k ∧ May wr w2.heap.size (w2.heap.size + 1) mv (may0 k) own ∧ w2.grownBy wr none) (fun i _ => 8 - (Go.RowKit.intOf i).toNat)
  case atStart => exact ⟨0, _, Nat.zero_le _, rfl, HM0.out, World.grownBy_alloc w2 _ none⟩
  case round =>
    obtain ⟨k, mv, hk8, rfl, hm, hg⟩ := hrel
    have HM := Lib.hid hm; have HG := Lib.hid hg
    by_cases hlt : k < 8
    · have hcm := hm.cell hlt; have hfm := hm.fz k; have hMl := hm.lt
      have HZ := Lib.hid (hm.zero hlt (fun g hg' => Nat.lt_of_lt_of_le (HD2.out.lt g hg') hg.size))
      have HGZ := Lib.hid ((hg.trans (World.grownBy_alloc wr (.cells #[.int .u8 0] 5) none)).andThen (Lib.grownBy_setB (World.grownBy.refl (wr.alloc (.cells #[.int .u8 0] 5)) (some w2.heap.size)) k (.slice (some ⟨wr.heap.size, 0, none⟩) 1 1)) (fun g e => by cases e; exact .inl (Nat.le_refl _)))
      have hsw : (wr.alloc (.cells #[.int .u8 0] 5)).setCell ⟨w2.heap.size, k, none⟩ (.slice (some ⟨wr.heap.size, 0, none⟩) 1 1) = (wr.setCell ⟨w2.heap.size, k, none⟩ (.slice (some ⟨wr.heap.size, 0, none⟩) 1 1)).alloc (.cells #[.int .u8 0] 5) := World.setCell_alloc_past _ _ _ _ hMl
      rw [hsw] at HZ HGZ
      clear hsw
      have hca : (wr.alloc (.cells #[.int .u8 0] 5)).cell? ⟨w2.heap.size, k, none⟩ = some (mv k) := (World.cell?_of_block (a := ⟨w2.heap.size, k, none⟩) (Below.heap_alloc wr _ _ hMl)).trans hcm
      have hfa : (wr.alloc (.cells #[.int .u8 0] 5)).frozen? ⟨w2.heap.size, k, none⟩ = false := (World.frozen?_of_block (a := ⟨w2.heap.size, k, none⟩) (Below.heap_alloc wr _ _ hMl)).trans hfm
      have hk0 : (k : Int) < 8 := by omega
      clear hm hg
      go_wp2_with fail
      go_roundw
      case rel => exact ⟨k + 1, _, by omega, by go_num, HZ.out, HGZ.out⟩
      case measure => simp [Go.RowKit.intOf]; omega
    · have hk8e : k = 8 := by omega
      rw [hk8e] at hm
      have hkn : ¬ ((k : Int) < 8) := by omega
      clear hk8e
      have HK0 := Lib.hid (show Keeps W wr b w2.heap.size 0 (St.new 8) mv (may0 8) own from ⟨HD2.out.far (Turn.none_ (own := fun _ => False) hg) (fun _ _ e => e), Kept.start8, hm, fun _ => Nat.le_refl _, (Below.refl _ W).grown (HG2.out.trans hg) (Nat.le_refl _) (fun _ e => by cases e), HG2.out.size⟩)
      clear hm hg HM HG hlt hk8 HM0 HD2 HG2
      generalize w2.heap.size = M at *
      go_wp2_with fail
      go_loopw [9, 10, 11, 12, 13] (fun i _ _ _ _ wq => ∃ (j : Nat) (S : St) (mv : Nat → Value) (m : Nat → List Nat) (own : Nat → Prop), j ≤ n ∧ i = .int .i64 j ∧ Keeps W wq b M j S mv m own) (fun i _ _ _ _ _ => n - (Go.RowKit.intOf i).toNat)
      case atStart => exact ⟨0, _, _, _, _, Nat.zero_le _, rfl, HK0.out⟩
      case round =>
        obtain ⟨j, S, mv', m, own', hj, rfl, hp⟩ := hrel
        have HP := Lib.hid hp; clear hp
        by_cases hlt : j < n
        · obtain ⟨x, g, off, hx, rfl, e0, e1, e2, e3, e4, e5, e6⟩ := HOPS.out.at_ HP.out.below hlt
          have hjn : (j : Int) < (n : Int) := by omega
          have HOK := Lib.hid hx
          have HJ := Lib.hid (show j < 1048576 from by omega)
          obtain ⟨kd, at_, count, bytes, fill, fua, xA, xn, xc, xpk⟩ := x
          dsimp only at *
          clear hx
          have HP1 := Lib.hid (HP.out.alloc (.cells #[.int .i64 kd, .int .i64 at_, .int .i64 count, .int .i64 bytes, .int .i64 fill, .bool fua, .slice xA xn xc] 73))
          have HX1 := Lib.hid (Blk.new wr 73 #[.int .i64 kd, .int .i64 at_, .int .i64 count, .int .i64 bytes, .int .i64 fill, .bool fua, .slice xA xn xc])
          have HNX := Lib.hid (show ¬ own' wr.heap.size from fun ho => by have := HP.out.d.lt _ ho; omega)
          have HNM := Lib.hid (show M ≠ wr.heap.size from fun e => by have := HP.out.may.lt; omega)
          by_cases hk1 : kd = 1
          · subst hk1
            go_upto_region 15 with fail
            have x3 := HX1.out.cell 3; have f3 := HX1.out.frozen 3
            simp only [List.getElem?_toArray, List.getElem?_cons_zero, List.getElem?_cons_succ] at x3
            have HG2 := Lib.hid (show wr.grownBy ((wr.alloc (.cells #[.int .i64 1, .int .i64 at_, .int .i64 count, .int .i64 bytes, .int .i64 fill, .bool fua, .slice xA xn xc] 73)).setCell ⟨wr.heap.size, 3, none⟩ (.int .i64 0)) none from
              (World.grownBy_alloc wr _ none).andThen (Lib.grownBy_setB (World.grownBy.refl _ (some wr.heap.size)) 3 (.int .i64 0)) (fun j e => by cases e; exact .inl (Nat.le_refl _)))
            have HX2 := Lib.hid (HX1.out.set_ 3 (.int .i64 0))
            generalize wr.alloc (.cells #[.int .i64 1, .int .i64 at_, .int .i64 count, .int .i64 bytes, .int .i64 fill, .bool fua, .slice xA xn xc] 73) = w1 at *
            have HXLO := Lib.hid (Nat.le_refl wr.heap.size)
            clear HX1 HP1 e0 e1 e2 e3 e4 e5 e6
            go_upto_region 16 with fail
            generalize w1.setCell ⟨wr.heap.size, 3, none⟩ (.int .i64 0) = w2 at *
            have HP2 := Lib.hid (HP.out.grown HG2.out)
            have HB2 := Lib.hid (show Blk w2 wr.heap.size 73 #[.int .i64 1, .int .i64 at_, .int .i64 count, .int .i64 0, .int .i64 fill, .bool fua, .slice xA xn xc] from HX2.out)
            have HXR := Lib.hid (show ∀ i, i < 8 → (mv' i).ownBlock ≠ some wr.heap.size from fun i hi e => by
              obtain ⟨_, cur, hbb⟩ := (HP.out.may.row i hi).block _ e
              have := hbb.lt; omega)
            generalize wr.heap.size = xb at *
            clear HP HG2 HX2 x3 f3
            have x0 := HB2.out.cell 0; have x1 := HB2.out.cell 1; have x2 := HB2.out.cell 2; have x3 := HB2.out.cell 3; have x4 := HB2.out.cell 4; have x5 := HB2.out.cell 5; have x6 := HB2.out.cell 6
            simp only [List.getElem?_toArray, List.getElem?_cons_zero, List.getElem?_cons_succ] at x0 x1 x2 x3 x4 x5 x6
            go_wp2_with fail
            refine (data_sole 1 at_ count 0 fill fua (.slice xA xn xc) w2).mono ?_
            rintro e w3 ⟨v, rfl, hvl, hg3⟩
            have HP3 := Lib.hid (HP2.out.grown hg3)
            have HB3 := Lib.hid (HB2.out.grown hg3 (by simp))
            obtain ⟨AL, cl, rfl, hcl, _, hdl⟩ := data_of_own (own := own') hvl.own (fun i hi => HP2.out.d.lt i hi) (dataL_lt count 0 fill)
            have hnl := dataN_top count 0
            have hlL := dataL_length count 0 fill
            have HWR := Lib.hid (disk_write_all HP3.out.d at_ AL (dataN count 0).toNat cl (dataL count 0 fill) fua HOK.out.at_ hdl hcl hnl (fun i => by have := HP3.out.ver i; have := HJ.out; omega) HP3.out.below.size)
            have HDLOW := Lib.hid (show ∀ g o, AL = some ⟨g, o, none⟩ → w2.heap.size ≤ g from fun g o e => (hvl.base_ g (by rw [e]; rfl)).1)
            have HDL := Lib.hid hdl; have HFL := Lib.hid (fun k (hk : 256 * (k + 1) ≤ (dataL count 0 fill).length) => flat_sec count fill hk)
            have HNL := Lib.hid hlL; have HLT := Lib.hid (dataL_lt count 0 fill)
            generalize dataL count 0 fill = L at *
            generalize (dataN count 0).toNat = N at *
            clear x0 x1 x2 x3 x4 x5 x6 hvl hg3 hdl hlL
            have x1 := HB3.out.cell 1; have x5 := HB3.out.cell 5
            simp only [List.getElem?_toArray, List.getElem?_cons_zero, List.getElem?_cons_succ] at x1 x5
            go_wp2_with fail
            refine HWR.out.mono ?_
            rintro e w4 ⟨rfl, own4, hd4, ht4⟩
            have HB4 := Lib.hid (blk_of_block HB3.out (ht4.block xb HB3.out.lt (fun ho => HNX.out ho)))
            have HDL4 := Lib.hid (HDL.out.turn ht4)
            by_cases hwe : (writeE S fua at_ L).1 = 0
            · obtain ⟨p, cN, rfl, hlc, hc1, hpc, hst⟩ := write_done HP3.out.kept.n hwe
              have HKT := Lib.hid (show Kept (writeE S fua (p : Int) L).2 (mayW m fua p L cN) from by
                rw [hst]
                exact ((HP3.out.kept.same (T := ({ S with f2 := S.f2 - 1 } : St)) rfl rfl rfl).puts fua p L cN (fun i hi => HFL.out i (by omega))).same rfl rfl rfl)
              have HVT := Lib.hid (show ∀ k, ((writeE S fua (p : Int) L).2.ver k).length ≤ j + 1 from fun k => by
                rw [hst]
                have h1 := puts_ver8 ({ S with f2 := S.f2 - 1 } : St) fua p L k cN
                have h2 := HP3.out.ver k
                show ((({ S with f2 := S.f2 - 1 } : St).puts fua p L cN).ver k).length ≤ j + 1
                have h3 : (({ S with f2 := S.f2 - 1 } : St).ver k).length = (S.ver k).length := rfl
                split at h1 <;> omega)
              have HML := Lib.hid (show ∀ i, i < 8 → (m i).length ≤ j + 1 from fun i hi => by rw [HP3.out.kept.is i hi]; have := HP3.out.ver i; simp; omega)
              have HN := Lib.hid (show N = 256 * cN from by have := HDL4.out.1; omega)
              obtain ⟨g0, o0, rfl, hg0, hg0n, hcells⟩ := HDL4.out.2.2 (by have := HN.out; omega)
              have HCELLS := Lib.hid hcells
              have HPUT := Lib.hid (show PutAt W w4 w4 b M g0 xb (writeE S fua (p : Int) L).2 mv' m own4 from
                ⟨hd4, HP3.out.may.turn ht4, HP3.out.below.trans (ht4.below HP3.out.d.least HP3.out.below.size), HP3.out.above, fun g hg => by
                  rcases hg with rfl | rfl
                  · have hlo := HDLOW.out _ _ rfl
                    refine ⟨hg0, rfl, fun e => by have := HP2.out.may.lt; omega, fun i hi e => ?_⟩
                    obtain ⟨_, cur, hbb⟩ := (HP2.out.may.row i hi).block _ e
                    have := hbb.lt; omega
                  · exact ⟨HB4.out.lt, rfl, fun e => HNM.out e.symm, HXR.out⟩, Nat.le_refl _⟩)
              clear hd4 ht4 HWR HDL HDL4 HB3 HP3 HP2 HB2 x1 x5 hcells hg0 hg0n hst
              generalize writeE S fua (p : Int) L = R at *
              obtain ⟨er, T⟩ := R
              dsimp only at *
              subst hwe
              have hquo : ((N : Nat) : Int).tdiv 256 = (cN : Int) := by rw [Int.tdiv_eq_ediv_of_nonneg (by omega)]; have := HN.out; omega
              have hwq : IntKind.i64.wrap (cN : Int) = (cN : Int) := IntWalk.i64_in _ (by omega)
              have HX := Lib.hid (show ∀ wz : World, wz.heap[xb]? = w4.heap[xb]? → wz.cell? ⟨xb, 1, none⟩ = some (.int .i64 (p : Nat)) ∧ wz.cell? ⟨xb, 5, none⟩ = some (.bool fua) from fun wz hz => by
                have hb := blk_of_block HB4.out hz
                exact ⟨by rw [hb.cell]; rfl, by rw [hb.cell]; rfl⟩)
              have HY := Lib.hid (show ∀ wz : World, wz.heap[g0]? = w4.heap[g0]? → ∀ z, z < N → wz.cell? ⟨g0, o0 + z, none⟩ = some (.int .u8 (L.getD z 0 : Nat)) from fun wz hz z hlt => by
                rw [World.cell?_of_block (a := ⟨g0, o0 + z, none⟩) hz]; exact HCELLS.out z hlt)
              clear HB4 HCELLS
              go_wp2_with fail
              go_loopw [12] (fun i wq => ∃ (k : Nat) (mv2 : Nat → Value), k ≤ cN ∧ i = .int .i64 k ∧ PutAt W wq w4 b M g0 xb T mv2 (mayW m fua p L k) own4) (fun i _ => cN - (Go.RowKit.intOf i).toNat)
              case atStart => exact ⟨0, _, Nat.zero_le _, rfl, HPUT.out⟩
              case round =>
                clear HPUT
                obtain ⟨k', mv2, hk', rfl, hput⟩ := hrel
                have HPT := Lib.hid hput
                clear hput
                by_cases hkc : k' < cN
                · have hcb : (k' : Int) < (cN : Int) := by omega
                  obtain ⟨q, hq⟩ : ∃ q, q = p + k' := ⟨_, rfl⟩
                  obtain ⟨z, hz⟩ : ∃ z, z = 256 * k' := ⟨_, rfl⟩
                  have hpk : (p : Int) + (k' : Int) = (q : Int) := by omega
                  have hq8 : q < 8 := by omega
                  have hqb : (q : Int) < 8 := by omega
                  have hwk : IntKind.i64.wrap (q : Int) = (q : Int) := IntWalk.i64_in _ (by omega)
                  have hzk : (256 : Int) * (k' : Int) = (z : Int) := by omega
                  have hzN : z < N := by have := HN.out; omega
                  have hzb : (z : Int) < (N : Int) := by omega
                  have hwz : IntKind.i64.wrap (z : Int) = (z : Int) := IntWalk.i64_in _ (by omega)
                  obtain ⟨y, hy⟩ : ∃ y, L.getD z 0 = y := ⟨_, rfl⟩
                  have HNX := Lib.hid (show upd (mayW m fua p L k') q ((if fua then [] else mayW m fua p L k' q) ++ [y]) = mayW m fua p L (k' + 1) from by subst hq hz hy; rfl)
                  have HXY := Lib.hid (show ∀ wz : World, (∀ g, g = g0 ∨ g = xb → wz.heap[g]? = w4.heap[g]?) → wz.cell? ⟨xb, 1, none⟩ = some (.int .i64 (p : Nat)) ∧ wz.cell? ⟨xb, 5, none⟩ = some (.bool fua) ∧ wz.cell? ⟨g0, o0 + z, none⟩ = some (.int .u8 (y : Nat)) from fun wz h => by
                    obtain ⟨a1, a2⟩ := HX.out wz (h xb (.inr rfl))
                    exact ⟨a1, a2, by rw [← hy]; exact HY.out wz (h g0 (.inl rfl)) z hzN⟩)
                  have HLENR := Lib.hid (show (mayW m fua p L k' q).length ≤ 2097152 from by have h1 := mayW_len m fua p L q k'; have h2 := HML.out q hq8; have := HJ.out; omega)
                  have HQ8 := Lib.hid hq8
                  clear hq hz hy hq8 hzN
                  obtain ⟨x1, x5, ly⟩ := HXY.out wr (fun g hg => (HPT.out.same g hg).2.1)
                  clear ly
                  go_upto_if 73 with fail
                  go_cut [12] (fun s12 wx => s12 = .int .i64 (k' : Nat) ∧ ∃ mv3 mk3, PutAt W wx w4 b M g0 xb T mv3 mk3 own4 ∧ upd mk3 q (mk3 q ++ [y]) = mayW m fua p L (k' + 1) ∧ (mk3 q).length ≤ 2097152)
                  case first =>
                    cases fua with
                    | false =>
                      go_wp2_with fail
                      go_meet
                      exact ⟨rfl, mv2, _, HPT.out, HNX.out, HLENR.out⟩
                    | true =>
                      have hcm := HPT.out.may.cell HQ8.out; have hfm := HPT.out.may.fz q
                      have hp6 := HPT.out.set HQ8.out (World.grownBy.refl wr _) (A := none) (n := 0) (c := 0) (Tail.nil _ _) (.inr fun g e => by cases e)
                      have HP6 := Lib.hid hp6
                      clear hp6
                      go_wp2_with fail
                      go_meet
                      exact ⟨rfl, _, _, HP6.out, by rw [upd_same, upd_twice]; exact HNX.out, by rw [upd_same]; simp⟩
                  case rest =>
                    obtain ⟨rfl, HG3⟩ := hcut
                    generalize wc = w6 at *
                    clear x1 x5
                    obtain ⟨mv3, mk3, hp3, hn3, hl3⟩ := HG3
                    have HPT2 := Lib.hid hp3; have HN3 := Lib.hid hn3; have HL3 := Lib.hid hl3
                    clear hp3 hn3 hl3 HPT HNX HLENR
                    obtain ⟨x1, x5, ly⟩ := HXY.out w6 (fun g hg => (HPT2.out.same g hg).2.1)
                    have hcm := HPT2.out.may.cell HQ8.out; have hfm := HPT2.out.may.fz q
                    have HROW := Lib.hid (HPT2.out.may.row q HQ8.out)
                    have HMS := Lib.hid (show ∀ wz w5, w6.grownBy wz none → wz.grownBy w5 (mv3 q).ownBlock → w5.cell? ⟨M, q, none⟩ = some (mv3 q) ∧ w5.frozen? ⟨M, q, none⟩ = false ∧ w5.cell? ⟨xb, 1, none⟩ = some (.int .i64 (p : Nat)) from fun wz w5 ha hb => by
                      have hs : ∀ g, g = M ∨ g = xb → w5.heap[g]? = w6.heap[g]? := fun g hg => by
                        have hlt : g < w6.heap.size := by
                          rcases hg with rfl | rfl
                          · exact HPT2.out.may.lt
                          · exact Nat.lt_of_lt_of_le (HPT2.out.same _ (.inr rfl)).1 HPT2.out.size
                        refine (hb.block g (Nat.lt_of_lt_of_le hlt ha.size) (fun e => ?_)).trans (ha.block g hlt (by simp))
                        rcases hg with rfl | rfl
                        · have := ((HPT2.out.may.row q HQ8.out).block _ e.symm).1; omega
                        · exact (HPT2.out.same _ (.inr rfl)).2.2.2 q HQ8.out e.symm
                      refine ⟨by rw [World.cell?_of_block (a := ⟨M, q, none⟩) (hs M (.inl rfl))]; exact HPT2.out.may.cell HQ8.out, by rw [World.frozen?_of_block (a := ⟨M, q, none⟩) (hs M (.inl rfl))]; exact HPT2.out.may.fz q, by rw [World.cell?_of_block (a := ⟨xb, 1, none⟩) (hs xb (.inr rfl))]; exact (HXY.out w6 (fun g hg => (HPT2.out.same g hg).2.1)).1⟩)
                    obtain ⟨Ar, cr, hvr, hlr, _⟩ := HROW.out.shape
                    have HVR := Lib.hid hvr
                    have HSZ := Lib.hid (show M + 1 ≤ w6.heap.size from HPT2.out.may.lt)
                    rw [hvr] at hcm HROW HMS
                    have HKEEP := Lib.hid (show ∀ wz, w6.grownBy wz none → Tail wz (M + 1) (.slice Ar (mk3 q).length cr) (mk3 q) from fun wz hg => HROW.out.keep hg (fun _ _ => by simp))
                    have hl3 := HL3.out
                    clear hvr HROW
                    generalize hlen : (mk3 q).length = len3 at *
                    have HLEN3 := Lib.hid hlen
                    clear hlen
                    obtain ⟨n1, n2, n3⟩ := HMS.out _ _ (World.grownBy_alloc w6 (.cells #[.int .u8 (y : Nat)] 5) none) (World.grownBy.refl _ _)
                    go_wp2_with fail
                    go_region_law (refine step_append_tail rfl (.tmp 88) (.tmp 94) rfl (M + 1) (.slice Ar len3 cr) (mk3 q) ?_ (HKEEP.out _ ?_) w6.heap.size y ?_ ?_ ?_ ?_ ?_
                                   rfl
                                   (first | exact (grown_drew w6 none).trans (World.grownBy_alloc w6.drew _ none) | exact (World.grownBy_alloc w6 _ none).trans (grown_drew _ none) | exact World.grownBy_alloc w6 _ none)
                                   rfl
                                   (simp)
                                   (have := HL3.out; have := HLEN3.out; omega)
                                   (have := HSZ.out; simp; omega)
                                   intro A1 c1 w5 ht5 hg5 hb5
                                   rw [HLEN3.out] at ht5 hb5 ⊢
                                   have HT5 := Lib.hid ht5; have HG5 := Lib.hid hg5; have HB5 := Lib.hid hb5
                                   obtain ⟨m1, m2, m3⟩ := HMS.out _ _ (by first | exact (grown_drew w6 none).trans (World.grownBy_alloc w6.drew _ none) | exact (World.grownBy_alloc w6 _ none).trans (grown_drew _ none) | exact World.grownBy_alloc w6 _ none) hg5
                                   clear ht5 hg5 hb5)
                    all_goals
                      have HNEW := Lib.hid (HPT2.out.set (A := A1) (n := len3 + 1) (c := c1) (xs := mk3 q ++ [y]) HQ8.out (w' := w5) (by rw [HVR.out]; exact grow_by HG5.out) HT5.out (by
                        rw [HVR.out]
                        rcases HB5.out with h | h
                        · exact .inl h
                        · exact .inr fun g e => by rw [h] at e; cases e; simp))
                      have HNEW2 := Lib.hid (show PutAt W (w5.setCell ⟨M, q, none⟩ (.slice A1 (len3 + 1) c1)) w4 b M g0 xb T (upd mv3 q (.slice A1 (len3 + 1) c1)) (mayW m fua p L (k' + 1)) own4 from by have := HNEW.out; rw [HN3.out] at this; exact this)
                      clear HT5 HG5 HB5 HNEW m1 m2 m3 n1 n2 n3 HPT2
                      go_wp2_with fail
                      go_roundw
                      case rel => exact ⟨k' + 1, _, by omega, by go_num, HNEW2.out⟩
                      case measure => simp [Go.RowKit.intOf]; omega
                · have hke : k' = cN := by omega
                  have hnb : ¬ ((k' : Int) < (cN : Int)) := by omega
                  have HKE := Lib.hid (show Keeps W wr b M (j + 1) T mv2 (mayW m fua p L cN) own4 from ⟨HPT.out.d, HKT.out, by have := HPT.out.may; rw [hke] at this; exact this, HVT.out, HPT.out.below, HPT.out.above⟩)
                  clear hke HPT HX HY HKT
                  go_wp2_with fail
                  go_roundw
                  case rel => exact ⟨j + 1, _, _, _, _, by omega, by go_num, HKE.out⟩
                  case measure => simp [Go.RowKit.intOf]; omega
            · have hweb : ((writeE S fua at_ L).1 == 0) = false := by simpa using hwe
              have hf := write_fell hwe
              have HK5 := Lib.hid (HP3.out.turn hd4 ht4 (HP3.out.kept.same hf.1 hf.2.1 hf.2.2) (fun k => by rw [hf.2.2]; exact HP3.out.ver k))
              clear hf hwe hd4 ht4 HWR HDL HDL4 HB4 HB3 HP3 HP2 HB2 x1 x5
              generalize writeE S fua at_ L = R at *
              go_wp2_with fail
              go_roundw
              case rel => exact ⟨j + 1, _, _, _, _, by omega, by go_num, HK5.out.more⟩
              case measure => simp [Go.RowKit.intOf]; omega
          · have hb1 : (kd == 1) = false := by simpa using hk1
            by_cases hk2 : kd = 2
            · subst hk2
              have HFL := Lib.hid (disk_flush_all HP1.out.d)
              by_cases hs : S.f3 = 1 ∨ S.left = 0
              · have he : flushE S = (12, { S with f3 := S.f3 - 1 }) := by unfold flushE; rw [if_pos hs]
                rw [he] at HFL
                clear he hs
                go_wp2_with fail
                refine HFL.out.mono ?_
                rintro e w5 ⟨rfl, hd5, ht5⟩
                have HK5 := Lib.hid (HP1.out.turn hd5 ht5 (HP1.out.kept.same rfl rfl rfl) (fun k => HP1.out.ver k))
                clear hd5 ht5 HFL HP1 HX1 e0 e1 e2 e3 e4 e5 e6
                go_wp2_with fail
                go_roundw
                case rel => exact ⟨j + 1, _, _, _, _, by omega, by go_num, HK5.out.more⟩
                case measure => simp [Go.RowKit.intOf]; omega
              · have he : flushE S = (0, ({ S with f3 := S.f3 - 1 } : St).flush.done) := by unfold flushE; rw [if_neg hs]
                have HKF := Lib.hid (show Kept (({ S with f3 := S.f3 - 1 } : St).flush.done) (fun i => [(m i).getLastD 0]) from ((HP1.out.kept.same (T := ({ S with f3 := S.f3 - 1 } : St)) rfl rfl rfl).flush).same rfl rfl rfl)
                have HVN := Lib.hid (show (({ S with f3 := S.f3 - 1 } : St).flush.done).ver = fun _ => [] from rfl)
                rw [he] at HFL
                clear he hs
                generalize ({ S with f3 := S.f3 - 1 } : St).flush.done = T at HKF HVN HFL
                go_wp2_with fail
                refine HFL.out.mono ?_
                rintro e w5 ⟨rfl, hd5, ht5⟩
                have HF := Lib.hid (flush_parts HP1.out hd5 ht5 HVN.out)
                have HKS := Lib.hid HP1.out.kept
                have HKV := Lib.hid HP1.out.ver
                clear hd5 ht5 HFL HP1 HX1 e0 e1 e2 e3 e4 e5 e6
                go_wp2_with fail
                go_loopw [13] (fun i wq => ∃ (k : Nat) (mv2 : Nat → Value), k ≤ 8 ∧ i = .int .i64 k ∧ FlushAt W wq b M T mv2 (mayF m k) own') (fun i _ => 8 - (Go.RowKit.intOf i).toNat)
                case atStart => exact ⟨0, _, Nat.zero_le _, rfl, by rw [mayF_zero]; exact HF.out⟩
                case round =>
                  obtain ⟨k', mv2, hk8', rfl, hfa⟩ := hrel
                  by_cases hk : k' < 8
                  · obtain ⟨gk, ok, ck, hv, hlc, hnx⟩ := hfa.next HKS.out hk
                    have hcd := hfa.may.cell hk; have hfz := hfa.may.fz k'
                    rw [hv] at hcd
                    have HNX := Lib.hid hnx
                    have hkb : (k' : Int) < 8 := by omega
                    have hm0 : (m k').length ≠ 0 := by rw [HKS.out.is k' hk]; simp
                    have hmb : (m k').length ≤ 1048577 := by have := HKV.out k'; have := HJ.out; rw [HKS.out.is k' hk]; simp; omega
                    obtain ⟨q, hq⟩ : ∃ q, (m k').length = q + 1 := ⟨(m k').length - 1, by omega⟩
                    rw [hq, Nat.add_sub_cancel] at HNX
                    rw [hq] at hcd hlc hmb
                    have hq1 : ((q + 1 : Nat) : Int) - 1 = (q : Int) := by omega
                    have hw : IntKind.i64.wrap (q : Int) = (q : Int) := IntWalk.i64_in _ (by omega)
                    clear hfa hnx hq hm0 hv
                    go_wp2_with fail
                    go_region
                    have HNY := Lib.hid (HNX.out.quiet (grown_drew _ none))
                    clear HNX
                    go_wp2_with fail
                    go_roundw
                    case rel => exact ⟨k' + 1, _, by omega, by go_num, HNY.out⟩
                    case measure => simp [Go.RowKit.intOf]; omega
                  · have hke : k' = 8 := by omega
                    rw [hke] at hfa
                    have hkn' : ¬ ((k' : Int) < 8) := by omega
                    have HE := Lib.hid (hfa.done HKF.out (j := j))
                    clear hfa hke
                    go_wp2_with fail
                    go_roundw
                    case rel => exact ⟨j + 1, _, _, _, _, by omega, by go_num, HE.out⟩
                    case measure => simp [Go.RowKit.intOf]; omega
            · have hb2 : (kd == 2) = false := by simpa using hk2
              by_cases hk3 : kd = 3
              · subst hk3
                have HFA := Lib.hid (disk_fail_all HP1.out.d at_ count)
                go_wp2_with fail
                refine HFA.out.mono ?_
                rintro e w5 ⟨rfl, hd5, ht5⟩
                have HK5 := Lib.hid (HP1.out.turn hd5 ht5 (fail_keeps HP1.out.kept at_ count) (fun k => by rw [(fail_same S at_ count).2.2]; exact HP1.out.ver k))
                clear hd5 ht5 HFA HP1 HX1 e0 e1 e2 e3 e4 e5 e6
                go_wp2_with fail
                go_roundw
                case rel => exact ⟨j + 1, _, _, _, _, by omega, by go_num, HK5.out.more⟩
                case measure => simp [Go.RowKit.intOf]; omega
              · have hb3 : (kd == 3) = false := by simpa using hk3
                by_cases hk4 : kd = 4
                · subst hk4
                  have HFA := Lib.hid (disk_cut_all HP1.out.d count)
                  go_wp2_with fail
                  refine HFA.out.mono ?_
                  rintro e w5 ⟨rfl, hd5, ht5⟩
                  have HK5 := Lib.hid (HP1.out.turn hd5 ht5 (cut_keeps HP1.out.kept count) (fun k => by rw [(cut_same S count).2.2]; exact HP1.out.ver k))
                  clear hd5 ht5 HFA HP1 HX1 e0 e1 e2 e3 e4 e5 e6
                  go_wp2_with fail
                  go_roundw
                  case rel => exact ⟨j + 1, _, _, _, _, by omega, by go_num, HK5.out.more⟩
                  case measure => simp [Go.RowKit.intOf]; omega
                · have hb4 : (kd == 4) = false := by simpa using hk4
                  have HK5 := Lib.hid HP1.out.more
                  clear HX1 HP1
                  go_wp2_with fail
                  go_roundw
                  case rel => exact ⟨j + 1, _, _, _, _, by omega, by go_num, HK5.out⟩
                  case measure => simp [Go.RowKit.intOf]; omega
        · have hkn2 : ¬ ((j : Int) < (n : Int)) := by omega
          have HCR := Lib.hid (disk_crash_all HP.out.d A2 n2 c2 picks (HPI.out.picks HP.out.below HP.out.d.least) hn2 (fun i => by have := HP.out.ver i; omega))
          have HOV := Lib.hid (show Over8 (S.crash picks) m from ⟨HP.out.kept.n, rfl, fun i hi => HP.out.kept.crash picks hi, fun _ => rfl, fun i hi => by rw [HP.out.kept.is i hi]; have := HP.out.ver i; simp; omega⟩)
          go_wp2_with fail
          refine HCR.out.mono ?_
          rintro e w5 ⟨rfl, hd5, ht5⟩
          have HE5 := Lib.hid (show EndAt W w5 b M (S.crash picks) mv' m own' from ⟨hd5, HP.out.may.turn ht5, HP.out.below.trans (ht5.below HP.out.d.least HP.out.below.size)⟩)
          clear hd5 ht5 HCR HP
          generalize S.crash picks = C at *
          go_wp2_with fail
          go_loopw [14, 15, 16, 17, 18] (fun i _ _ _ _ wq => ∃ q : Nat, q ≤ 8 ∧ i = .int .i64 q ∧ EndAt W wq b M C mv' m own') (fun i _ _ _ _ _ => 8 - (Go.RowKit.intOf i).toNat)
          case atStart => exact ⟨0, Nat.zero_le _, rfl, HE5.out⟩
          case round =>
            clear HE5
            obtain ⟨q, hq8, rfl, hend⟩ := hrel
            have HEN := Lib.hid hend
            clear hend
            by_cases hq : q < 8
            · have hqb : (q : Int) < 8 := by omega
              have hro := read_over HOV.out hq
              have hRD := disk_read_all HEN.out.d ((q : Nat) : Int) 1 (by omega) (by omega)
              rw [hro.1, hro.2] at hRD
              have HRD := Lib.hid hRD
              have HIN := Lib.hid (HOV.out.in_ q hq)
              have HSEC := Lib.hid (C.now_sec HEN.out.d.ok q)
              have HLEN := Lib.hid (HOV.out.len q hq)
              clear hRD hro
              go_wp2_with fail
              refine HRD.out.mono ?_
              rintro e w6 ⟨v, rfl, hga, hd6, ht6⟩
              obtain ⟨gl, cl, hv, hbk⟩ : ∃ gl cl, v = .slice (some ⟨gl, 0, none⟩) 256 cl ∧ Blk w6 gl 5 (u8s (C.now q)).toArray := by
                rcases hga with ⟨_, e⟩ | ⟨g', cap, rfl, h1, h2⟩
                · have := HSEC.out.1; rw [e] at this; cases this
                · exact ⟨g', cap, by rw [HSEC.out.1], h2⟩
              subst hv
              have HE6 := Lib.hid (HEN.out.turn hd6 ht6)
              have HBK := Lib.hid hbk
              have h256 := HSEC.out.1
              obtain ⟨x, hx⟩ : ∃ x, first (C.now q) = x := ⟨_, rfl⟩
              have HX := Lib.hid (show x ∈ m q from by rw [← hx]; exact HIN.out.1)
              have HC0 := Lib.hid (show ∀ wz, w6.grownBy wz none → wz.cell? ⟨gl, 0, none⟩ = some (.int .u8 (x : Nat)) from fun wz hz => by
                rw [(HBK.out.grown hz (by simp)).cell, List.getElem?_toArray, u8s_at _ 0 (by omega), ← hx]; rfl)
              have HC255 := Lib.hid (show ∀ wz, w6.grownBy wz none → wz.cell? ⟨gl, 255, none⟩ = some (.int .u8 (x : Nat)) from fun wz hz => by
                rw [(HBK.out.grown hz (by simp)).cell, List.getElem?_toArray, u8s_at _ 255 (by omega), ← hx]
                have := HIN.out.2; unfold Dsk.Flat at this; rw [this]; rfl)
              clear hga hd6 ht6 hbk HRD HBK HSEC HIN h256 hx
              go_wp2_with fail
              go_loopw [17, 18] (fun inn k wq => ∃ p : Nat, p ≤ (m q).length ∧ k = .int .i64 p ∧ inn = .bool (decide (x ∈ (m q).take p)) ∧ w6.grownBy wq none) (fun _ k _ => (m q).length - (Go.RowKit.intOf k).toNat)
              case atStart => exact ⟨0, Nat.zero_le _, rfl, by simp, World.grownBy.refl _ _⟩
              case round =>
                obtain ⟨p, hp, rfl, rfl, hg⟩ := hrel
                have HG := Lib.hid hg
                have HEW := Lib.hid (HE6.out.quiet hg)
                have hcm := HEW.out.may.cell hq
                have c0 := HC0.out _ hg
                have c255 := HC255.out _ hg
                clear hg
                by_cases hpl : p < (m q).length
                · have hgetp : (m q)[p]? = some ((m q)[p]'hpl) := List.getElem?_eq_getElem hpl
                  obtain ⟨gt, ot, ct, hvt, hct⟩ := (HEW.out.may.row q hq).at_ hgetp
                  rw [hvt] at hcm
                  have htk : (m q).take (p + 1) = (m q).take p ++ [(m q)[p]'hpl] := by rw [List.take_add_one, hgetp]; rfl
                  generalize (m q)[p]'hpl = y at *
                  have HTK := Lib.hid htk
                  have hpb : (p : Int) < ((m q).length : Int) := by omega
                  have hln := HLEN.out
                  clear htk hgetp hvt c255
                  by_cases hin : x ∈ (m q).take p
                  · have hdi : decide (x ∈ (m q).take p) = true := by simpa using hin
                    rw [hdi]
                    have HNX := Lib.hid (show decide (x ∈ (m q).take (p + 1)) = true from by rw [HTK.out]; simp [hin])
                    clear hin hdi
                    go_wp2_with fail
                    go_region
                    all_goals
                      go_wp2_with fail
                      go_roundw
                      case rel => exact ⟨p + 1, by omega, by go_num, by rw [HNX.out], HG.out.trans (grown_drew _ none)⟩
                      case measure => simp [Go.RowKit.intOf]; omega
                  · have hdi : decide (x ∈ (m q).take p) = false := by simpa using hin
                    rw [hdi]
                    by_cases hyx : y = x
                    · have HNX := Lib.hid (show decide (x ∈ (m q).take (p + 1)) = true from by rw [HTK.out]; simp [hyx])
                      subst hyx
                      clear hin hdi
                      go_wp2_with fail
                      go_region
                      all_goals
                        go_wp2_with fail
                        go_roundw
                        case rel => exact ⟨p + 1, by omega, by go_num, by rw [HNX.out], HG.out.trans (grown_drew _ none)⟩
                        case measure => simp [Go.RowKit.intOf]; omega
                    · have HNX := Lib.hid (show decide (x ∈ (m q).take (p + 1)) = false from by rw [HTK.out]; simp [hin]; exact fun e => hyx e.symm)
                      have hyb : ((y : Int) == (x : Int)) = false := by simp; omega
                      clear hin hdi hyx
                      go_wp2_with fail
                      go_region
                      all_goals
                        go_wp2_with fail
                        go_roundw
                        case rel => exact ⟨p + 1, by omega, by go_num, by rw [HNX.out], HG.out.trans (grown_drew _ none)⟩
                        case measure => simp [Go.RowKit.intOf]; omega
                · have hpe : p = (m q).length := by omega
                  have hdi : decide (x ∈ (m q).take p) = true := by rw [hpe, List.take_length]; simpa using HX.out
                  obtain ⟨At, ct, hvt, _, _⟩ := (HEW.out.may.row q hq).shape
                  rw [hvt] at hcm
                  rw [hdi]
                  have hpb : ¬ ((p : Int) < ((m q).length : Int)) := by omega
                  clear hpe hdi hvt
                  go_wp2_with fail
                  go_region
                  all_goals
                    go_wp2_with fail
                    go_roundw
                    case rel => exact ⟨q + 1, by omega, by go_num, HEW.out.quiet (grown_drew _ none)⟩
                    case measure => simp [Go.RowKit.intOf]; omega
            · have hqn : ¬ ((q : Int) < 8) := by omega
              obtain ⟨bd', bm', f', hlay⟩ := HEN.out.d
              have hdd := disk_dirty hlay
              rw [no_dirty HOV.out.ver] at hdd
              have HDD := Lib.hid hdd
              clear hdd hlay
              go_wp2_with fail
              refine HDD.out.mono ?_
              rintro e w7 ⟨v, rfl, hrow, hg7⟩
              obtain ⟨Ad, cd, rfl, _, _, _⟩ := (Own.of hrow).shape
              have HB7 := Lib.hid (HEN.out.below.grown hg7 HEN.out.below.size (fun _ e => by cases e))
              clear hrow hg7 HDD
              go_wp2_with fail
              go_ret
              exact ⟨rfl, HB7.out⟩
end Go.Proofs.Ytboccfficmaoaaa.DiskKeepsUpto
