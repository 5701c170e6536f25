/- The project's Alloc in memory; its calls, but Runs. -/
import Derived.Test.YtldbfhgkicphkaaDoorAlcSet
import Derived.Lib.SliceRun
import Derived.Laws.CopyRow
import Derived.BigFrame
namespace Go.Proofs.YtldbfhgkicphkaaDoor.Alc
open Go.RowKit Mem AlcBits
set_option linter.unusedVariables false
set_option linter.unusedSimpArgs false

/-! ### Footprints -/
/-- From w to w' no block has turned that was there, but blocks of own; what is new in own' was not there. -/
structure Turn (w w' : World) (own own' : Nat → Prop) : Prop where
  os : w'.os = w.os
  tape : w'.tape = w.tape
  output : w'.output = w.output
  size : w.heap.size ≤ w'.heap.size
  block : ∀ i, i < w.heap.size → ¬ own i → w'.heap[i]? = w.heap[i]?
  fresh : ∀ i, own' i → own i ∨ w.heap.size ≤ i
section
variable {w w1 w2 w' : World} {own own1 own2 own' : Nat → Prop}
theorem Turn.refl (w : World) (own : Nat → Prop) : Turn w w own own := ⟨rfl, rfl, rfl, Nat.le_refl _, fun _ _ _ => rfl, fun _ h => .inl h⟩
theorem Turn.trans (h : Turn w w1 own own1) (k : Turn w1 w2 own1 own2) : Turn w w2 own own2 :=
  ⟨k.os.trans h.os, k.tape.trans h.tape, k.output.trans h.output, Nat.le_trans h.size k.size,
    fun i hi hn => (k.block i (Nat.lt_of_lt_of_le hi h.size) (fun h1 => by rcases h.fresh i h1 with h2 | h2; exact hn h2; omega)).trans (h.block i hi hn),
    fun i hi => by rcases k.fresh i hi with h1 | h1; exact h.fresh i h1; exact .inr (Nat.le_trans h.size h1)⟩
theorem Turn.of_grown {row : Option Nat} (h : w.grownBy w' row) (hr : ∀ j, row = some j → own j) : Turn w w' own own :=
  ⟨h.os, h.tape, h.output, h.size, fun i hi hn => h.block i hi (fun e => hn (hr i e.symm)), fun _ h => .inl h⟩
theorem Turn.none_ (h : w.grownBy w' none) : Turn w w' own own := .of_grown h (fun _ h => by cases h)
theorem Turn.alloc (h : Turn w w1 own own1) (o : Obj) : Turn w (w1.alloc o) own own1 := h.trans (.none_ (World.grownBy_alloc w1 o none))
theorem Turn.drew (h : Turn w w1 own own1) : Turn w w1.drew own own1 := h.trans (.none_ (grown_drew w1 none))
theorem Turn.below {B : Nat} (h : Turn w w' own own') (hb : ∀ i, own i → B ≤ i) (hB : B ≤ w.heap.size) : Below B w w' :=
  ⟨h.os, h.tape, h.output, h.size, fun i hi => h.block i (Nat.lt_of_lt_of_le hi hB) (fun e => by have := hb i e; omega)⟩
theorem Turn.wide (h : Turn w w' own own) {o2 : Nat → Prop} (ho : ∀ i, own i → o2 i) : Turn w w' o2 o2 :=
  ⟨h.os, h.tape, h.output, h.size, fun i hi hn => h.block i hi (fun e => hn (ho i e)), fun _ h => .inl h⟩
theorem Turn.blk {g : Nat} {t : TypeId} {cs : Array Value} (h : Turn w w' own own') (hb : Blk w g t cs) (hn : ¬ own g) : Blk w' g t cs := (h.block g hb.lt hn).trans hb
theorem Turn.grown (h : Turn w w' own own') {row : Option Nat} (hr : ∀ j, own j → row = some j) : w.grownBy w' row :=
  ⟨h.os, h.tape, h.output, h.size, fun i hi hn => h.block i hi (fun e => hn (hr i e).symm)⟩
end

/-! ### clear, copy -/
theorem blk_setCells {g : Nat} {t : TypeId} : ∀ (vs : List Value) (o : Nat) (w : World) (cs : Array Value), Blk w g t cs → o + vs.length ≤ cs.size →
    ∃ cs', Blk (w.setCells g o vs) g t cs' ∧ cs'.size = cs.size ∧ (∀ j, j < vs.length → cs'[o + j]? = vs[j]?) ∧ ∀ i, i < o → cs'[i]? = cs[i]?
  | [], o, w, cs, h, _ => ⟨cs, h, rfl, by simp, fun _ _ => rfl⟩
  | v :: r, o, w, cs, h, hl => by
    obtain ⟨cs', h1, h2, h3, h4⟩ := blk_setCells r (o + 1) (w.setCell ⟨g, o, none⟩ v) _ (h.set_ o v) (by simp at hl ⊢; omega)
    refine ⟨cs', h1, by simpa using h2, fun j hj => ?_, fun i hi => ?_⟩
    · cases j with
      | zero =>
        simp at hl
        rw [Nat.add_zero, h4 o (by omega), Array.getElem?_setIfInBounds_self_of_lt (by omega)]
        rfl
      | succ j => rw [← Nat.add_assoc, Nat.add_right_comm, h3 j (by simpa using hj)]; rfl
    · rw [h4 i (by omega), Array.getElem?_setIfInBounds_ne (by omega)]
theorem grown_setCells {a : World} (g : Nat) : ∀ (vs : List Value) (o : Nat) (w : World), a.grownBy w (some g) → a.grownBy (w.setCells g o vs) (some g)
  | [], _, _, h => h
  | v :: r, o, w, h => grown_setCells g r (o + 1) _ (only_set h o v)
theorem word_zero (w : World) : (zeroValue 55).run Tryd.prog w = .ok (.int .u64 0) w := by kernel_rfl
theorem word_one : (Tryd.prog.info? 55).map (·.size) = some 1 := by kernel_rfl

/-- The words of a set cleared: what is answered, and the world behind it. -/
theorem run_clear {w : World} {g m : Nat} {F : Nat → Bool} (hb : SetAt w g F m) (hm : 0 < m) :
    ∃ w', (∀ ty, (Builtin.clear_ #[44] ty #[.slice (some ⟨g, 0, none⟩) m m]).run Tryd.prog w = .ok (.tuple #[]) w') ∧ w.grownBy w' (some g) ∧ SetAt w' g (fun _ => false) m := by
  refine ⟨_, fun ty => Lib.run_clear_slice w 44 55 ty (.int .u64 0) Tryd.underlying44 word_zero rfl rfl g 0 m m hm (fun j hj => ?_) (fun j hj => ?_), grown_setCells g _ _ _ (World.grownBy.refl _ _), ?_⟩
  · rw [hb.cell, Nat.zero_add, wds_at hj]; rfl
  · exact hb.frozen _
  · obtain ⟨cs', h1, h2, h3, _⟩ := blk_setCells (List.replicate m (Value.int .u64 0)) 0 w _ hb (by simp [wds_size])
    show Blk _ _ _ _
    rw [show wds (fun _ => false) m = cs' from ?_]
    · exact h1
    · rw [wds_zero]
      apply Array.ext_getElem?
      intro i
      by_cases hi : i < m
      · have := h3 i (by simpa using hi)
        rw [Nat.zero_add] at this
        rw [this]; simp [hi]
      · rw [Array.getElem?_eq_none (by simp; omega), Array.getElem?_eq_none (by rw [h2, wds_size]; omega)]
/-- A set copied over another. -/
theorem run_over {w : World} {g g2 m : Nat} {F G : Nat → Bool} (hb : SetAt w g F m) (hb2 : SetAt w g2 G m) :
    ∃ w', (∀ ty, (Builtin.copy_ #[44, 44] ty #[.slice (some ⟨g, 0, none⟩) m m, .slice (some ⟨g2, 0, none⟩) m m]).run Tryd.prog w = .ok (.int .i64 m) w') ∧ w.grownBy w' (some g) ∧ SetAt w' g G m := by
  have hlen : (wds G m).toList.length = m := by simp [wds_size]
  refine ⟨w.setRow g (wds G m), fun ty => ?_, ?_, setRow_heap w g _ _ _ (0, 0) hb⟩
  · have h := run_copy_row (P := Tryd.prog) w 44 44 ty 55 g 0 m m ⟨g2, 0, none⟩ m m (wds F m) 55 (wds G m).toList Tryd.underlying44 word_one hb
      (by rw [hlen]; simp) (fun j v hv => by
        have e1 : (⟨g2, 0, none⟩ : Addr).add j = ⟨g2, j, none⟩ := by unfold Addr.add; split <;> simp_all
        rw [e1, hb2.cell, ← hv, Array.getElem?_toList]) (by rw [hlen, wds_size]; omega) (fun v hv => by
        simp [wds] at hv
        obtain ⟨i, _, rfl⟩ := hv
        rfl)
    rw [h, hlen, List.take_zero, List.nil_append, List.drop_of_length_le (by simp [wds_size]), List.append_nil]
    rfl
  · exact ⟨rfl, rfl, rfl, by simp [World.setRow], fun k hk hne => setRow_other w g k _ (by intro e; subst e; exact hne rfl)⟩

/-! ### An Alloc -/
structure Al (w : World) (B q a b s n m : Nat) (F D S : Nat → Bool) : Prop where
  hq : Blk w q 47 #[.int .i64 n, .slice (some ⟨a, 0, none⟩) m m, .slice (some ⟨b, 0, none⟩) m m, .slice (some ⟨s, 0, none⟩) m m]
  hF : SetAt w a F m
  hD : SetAt w b D m
  hS : SetAt w s S m
  ab : a ≠ b
  as_ : a ≠ s
  bs : b ≠ s
  one : 1 ≤ n
  most : n ≤ 1024
  hm : m = (n + 63) / 64
  outF : ∀ p, n ≤ p → F p = false
  outD : ∀ p, n ≤ p → D p = false
  outS : ∀ p, n ≤ p → S p = false
  tab : Tab w
  B1 : 1 ≤ B
  Bq : B ≤ q
  Ba : B ≤ a
  Bb : B ≤ b
  Bs : B ≤ s
def own4 (q a b s : Nat) : Nat → Prop := fun i => i = q ∨ i = a ∨ i = b ∨ i = s
theorem uint_ne : 47 ≠ 55 := by decide
theorem blk_ne {w : World} {g g' : Nat} {t t' : TypeId} {cs cs' : Array Value} (h : Blk w g t cs) (h' : Blk w g' t' cs') (ht : t ≠ t') : g ≠ g' := by
  rintro rfl
  have := h.symm.trans h'
  simp at this
  exact ht this.2
theorem Tab.keep {w w' : World} (h : Tab w) (hb : w'.heap[0]? = w.heap[0]?) : Tab w' := fun j hj => by
  rw [← h j hj]
  exact World.cell?_of_block (a := ⟨0, j, none⟩) hb
theorem Tab.pos {w : World} (h : Tab w) : 0 < w.heap.size := World.block_lt_of_cell? w _ (h 0 (by omega))
section
variable {w : World} {B q a b s n m : Nat} {F D S : Nat → Bool}
theorem Al.m16 (h : Al w B q a b s n m F D S) : m ≤ 16 := by have := h.hm; have := h.most; omega
theorem Al.qa (h : Al w B q a b s n m F D S) : q ≠ a := blk_ne h.hq h.hF uint_ne
theorem Al.qb (h : Al w B q a b s n m F D S) : q ≠ b := blk_ne h.hq h.hD uint_ne
theorem Al.qs (h : Al w B q a b s n m F D S) : q ≠ s := blk_ne h.hq h.hS uint_ne
theorem Al.cells (h : Al w B q a b s n m F D S) : w.cell? ⟨q, 0, none⟩ = some (.int .i64 n) ∧ w.cell? ⟨q, 1, none⟩ = some (.slice (some ⟨a, 0, none⟩) m m) ∧ w.cell? ⟨q, 2, none⟩ = some (.slice (some ⟨b, 0, none⟩) m m) ∧ w.cell? ⟨q, 3, none⟩ = some (.slice (some ⟨s, 0, none⟩) m m) :=
  ⟨h.hq.cell 0, h.hq.cell 1, h.hq.cell 2, h.hq.cell 3⟩
theorem Al.keep {w' : World} (h : Al w B q a b s n m F D S) (hg : Turn w w' (fun _ => False) (fun _ => False)) : Al w' B q a b s n m F D S :=
  { h with hq := hg.blk h.hq id, hF := hg.blk h.hF id, hD := hg.blk h.hD id, hS := hg.blk h.hS id, tab := h.tab.keep (hg.block 0 h.tab.pos id) }
theorem Al.far {w' : World} {own own' : Nat → Prop} (h : Al w B q a b s n m F D S) (hg : Turn w w' own own') (hn : ∀ i, own i → ¬ own4 q a b s i ∧ 1 ≤ i) : Al w' B q a b s n m F D S :=
  { h with hq := hg.blk h.hq (fun e => (hn _ e).1 (.inl rfl)), hF := hg.blk h.hF (fun e => (hn _ e).1 (.inr (.inl rfl))), hD := hg.blk h.hD (fun e => (hn _ e).1 (.inr (.inr (.inl rfl)))), hS := hg.blk h.hS (fun e => (hn _ e).1 (.inr (.inr (.inr rfl)))), tab := h.tab.keep (hg.block 0 h.tab.pos (fun e => by have := (hn _ e).2; omega)) }
theorem Al.grown {w' : World} (h : Al w B q a b s n m F D S) (hg : w.grownBy w' none) : Al w' B q a b s n m F D S := h.keep (.none_ hg)
theorem Al.drewN (h : Al w B q a b s n m F D S) (k : Nat) : Al (w.drewN k) B q a b s n m F D S := h.grown ⟨rfl, rfl, rfl, Nat.le_refl _, fun _ _ _ => rfl⟩
theorem Al.drew (h : Al w B q a b s n m F D S) : Al w.drew B q a b s n m F D S := h.grown (grown_drew w none)
theorem Al.newF {w' : World} {F' : Nat → Bool} (h : Al w B q a b s n m F D S) (hg : w.grownBy w' (some a)) (hF : SetAt w' a F' m) (ho : ∀ p, n ≤ p → F' p = false) : Al w' B q a b s n m F' D S :=
  { h with hq := h.hq.grown hg (by simpa using h.qa), hF := hF, hD := h.hD.grown hg (by simpa using h.ab.symm), hS := h.hS.grown hg (by simpa using h.as_.symm), outF := ho, tab := h.tab.keep (hg.block 0 h.tab.pos (by have := h.Ba; have := h.B1; simp; omega)) }
theorem Al.newD {w' : World} {D' : Nat → Bool} (h : Al w B q a b s n m F D S) (hg : w.grownBy w' (some b)) (hD : SetAt w' b D' m) (ho : ∀ p, n ≤ p → D' p = false) : Al w' B q a b s n m F D' S :=
  { h with hq := h.hq.grown hg (by simpa using h.qb), hF := h.hF.grown hg (by simpa using h.ab), hD := hD, hS := h.hS.grown hg (by simpa using h.bs.symm), outD := ho, tab := h.tab.keep (hg.block 0 h.tab.pos (by have := h.Bb; have := h.B1; simp; omega)) }
theorem Al.newS {w' : World} {S' : Nat → Bool} (h : Al w B q a b s n m F D S) (hg : w.grownBy w' (some s)) (hS : SetAt w' s S' m) (ho : ∀ p, n ≤ p → S' p = false) : Al w' B q a b s n m F D S' :=
  { h with hq := h.hq.grown hg (by simpa using h.qs), hF := h.hF.grown hg (by simpa using h.as_), hD := h.hD.grown hg (by simpa using h.bs), hS := hS, outS := ho, tab := h.tab.keep (hg.block 0 h.tab.pos (by have := h.Bs; have := h.B1; simp; omega)) }

def In64 (x : Int) : Prop := -9223372036854775808 ≤ x ∧ x ≤ 9223372036854775807
/-- Is there such a page? -/
def isP (n : Nat) (p : Int) : Bool := decide (0 ≤ p) && decide (p < n)
/-- Has it? -/
def isF (F : Nat → Bool) (n : Nat) (p : Int) : Bool := isP n p && F p.toNat
theorem isP_nat {n : Nat} {p : Int} (h : isP n p = true) : ∃ k : Nat, p = (k : Int) ∧ k < n := by
  simp [isP] at h
  exact ⟨p.toNat, by omega, by omega⟩
theorem isP_of {n k : Nat} (h : k < n) : isP n (k : Int) = true := by simp [isP]; omega
theorem isF_nat {F : Nat → Bool} {n k : Nat} (h : k < n) : isF F n (k : Int) = F k := by simp [isF, isP_of h]
set_option maxHeartbeats 1000000 in
theorem isPage_call (h : Al w B q a b s n m F D S) (p : Int) (hp : In64 p) :
    Calls Tryd.prog 33 #[.pointer (some ⟨q, 0, none⟩), .int .i64 p] w fun e w' => e = .returned (.bool (isP n p)) ∧ w' = w := by
  obtain ⟨c0, _, _, _⟩ := h.cells
  clear h
  have he : isP n p = (decide (0 ≤ p) && decide (p < n)) := rfl
  by_cases h0 : 0 ≤ p
  · have hd0 : decide (0 ≤ p) = true := decide_eq_true h0
    rw [he, hd0, Bool.true_and]
    go_enter Tryd.func33, Tryd.ntmps33
    go_wp2
    all_goals go_ret
    all_goals first | exact ⟨rfl, rfl⟩ | (simp_all; done) | trace_state
  · have hd0 : decide (0 ≤ p) = false := decide_eq_false h0
    rw [he, hd0, Bool.false_and]
    go_enter Tryd.func33, Tryd.ntmps33
    go_wp2
    all_goals go_ret
    all_goals first | exact ⟨rfl, rfl⟩ | (simp_all; done) | trace_state
set_option maxHeartbeats 1000000 in
theorem isFree_call (h : Al w B q a b s n m F D S) (p : Int) (hp : In64 p) :
    Calls Tryd.prog 22 #[.pointer (some ⟨q, 0, none⟩), .int .i64 p] w fun e w' => e = .returned (.bool (isF F n p)) ∧ ∃ k, w' = w.drewN k := by
  obtain ⟨c0, c1, _, _⟩ := h.cells
  have HP := Lib.hid (isPage_call h p hp)
  by_cases hpg : isP n p = true
  · obtain ⟨k, rfl, hk⟩ := isP_nat hpg
    have HH := Lib.hid (has_call (p := k) h.hF h.m16 (by have := h.hm; omega))
    rw [isF_nat hk]
    rw [hpg] at HP
    clear h hpg
    generalize F k = r at HH ⊢
    go_enter Tryd.func22, Tryd.ntmps22
    go_wp2_with (first
      | (go_at_call 33; refine HP.out.mono ?_; rintro e w' ⟨rfl, rfl⟩)
      | (go_at_call 34; refine HH.out.mono ?_; rintro e w' ⟨rfl, k2, rfl⟩))
    all_goals go_ret
    all_goals exact ⟨rfl, _, rfl⟩
  · have hpf : isP n p = false := by simpa using hpg
    rw [show isF F n p = false from by rw [isF, hpf]; rfl]
    rw [hpf] at HP
    clear h hpg hpf
    go_enter Tryd.func22, Tryd.ntmps22
    go_wp2_with (go_at_call 33; refine HP.out.mono ?_; rintro e w' ⟨rfl, rfl⟩)
    all_goals go_ret
    all_goals exact ⟨rfl, 0, rfl⟩
theorem drewN_turn (w : World) (k : Nat) (own : Nat → Prop) : Turn w (w.drewN k) own own := .none_ ⟨rfl, rfl, rfl, Nat.le_refl _, fun _ _ _ => rfl⟩
/-- What stands behind a Mark. -/
def delI (F : Nat → Bool) (n : Nat) (p : Int) : Nat → Bool := if isF F n p then del F p.toNat else F
theorem del_out {F : Nat → Bool} {n p : Nat} (h : ∀ p, n ≤ p → F p = false) : ∀ q, n ≤ q → del F p q = false := fun q hq => by simp [del, h q hq]
theorem ins_out {F : Nat → Bool} {n p : Nat} (hp : p < n) (h : ∀ p, n ≤ p → F p = false) : ∀ q, n ≤ q → ins F p q = false := fun q hq => by simp [ins, h q hq]; omega
set_option maxHeartbeats 1000000 in
theorem mark_call (h : Al w B q a b s n m F D S) (p : Int) (hp : In64 p) :
    Calls Tryd.prog 10 #[.pointer (some ⟨q, 0, none⟩), .int .i64 p] w fun e w' => e = .returned (.bool (isF F n p)) ∧ Al w' B q a b s n m (delI F n p) D S ∧ Turn w w' (own4 q a b s) (own4 q a b s) := by
  have HI := Lib.hid (isFree_call h p hp)
  have HA := Lib.hid h
  by_cases hf : isF F n p = true
  · obtain ⟨k, rfl, hk⟩ := isP_nat (show isP n p = true by simp [isF] at hf; exact hf.1)
    have HR := fun j => Lib.hid (remove_call (p := k) (h.drewN j).hF h.m16 (by have := h.hm; omega))
    rw [show delI F n (k : Int) = del F k from by rw [delI, if_pos hf]; rfl]
    rw [hf] at HI ⊢
    have c1 := fun j => (h.drewN j).cells.2.1
    have HC1 := Lib.hid c1
    clear h hf c1
    go_enter Tryd.func10, Tryd.ntmps10
    go_wp2_with (first
      | (go_at_call 22; refine HI.out.mono ?_; rintro e w' ⟨rfl, j, rfl⟩; have c1 := HC1.out j)
      | (go_at_call 30; refine (HR _).out.mono ?_; rintro e w' ⟨rfl, hg, hs⟩))
    go_ret
    exact ⟨rfl, (HA.out.drewN _).newF hg hs (del_out HA.out.outF), (drewN_turn _ _ _).trans (.of_grown hg (fun j hj => by cases hj; exact .inr (.inl rfl)))⟩
  · have hf' : isF F n p = false := by simpa using hf
    rw [show delI F n p = F from if_neg hf]
    rw [hf'] at HI ⊢
    clear h hf hf'
    go_enter Tryd.func10, Tryd.ntmps10
    go_wp2_with (go_at_call 22; refine HI.out.mono ?_; rintro e w' ⟨rfl, j, rfl⟩)
    go_ret
    exact ⟨rfl, HA.out.drewN _, drewN_turn _ _ _⟩
/-- The least page that is free, or none. -/
def Least (F : Nat → Bool) (n r : Nat) (ok : Bool) : Prop := (ok = true ∧ r < n ∧ F r = true ∧ ∀ q, q < r → F q = false) ∨ (ok = false ∧ r = 0 ∧ ∀ q, q < n → F q = false)
set_option maxHeartbeats 1000000 in
theorem take_call (h : Al w B q a b s n m F D S) :
    Calls Tryd.prog 12 #[.pointer (some ⟨q, 0, none⟩)] w fun e w' => ∃ r ok, e = .returned (.tuple #[.int .i64 (r : Nat), .bool ok]) ∧ Least F n r ok ∧ Al w' B q a b s n m (if ok then del F r else F) D S ∧ Turn w w' (own4 q a b s) (own4 q a b s) := by
  have HN := Lib.hid (next_call (p := 0) h.hF h.m16 (by omega) h.tab)
  rw [show ((0 : Nat) : Int) = 0 from rfl] at HN
  have HA := Lib.hid h
  have c1 := h.cells.2.1
  have hm16 := h.m16
  have hnm : n ≤ 64 * m := by have := h.hm; omega
  clear h
  go_enter Tryd.func12, Tryd.ntmps12
  go_wp2_with (first
    | (go_at_call 32; (refine HN.out.mono ?_; rintro e w' ⟨r, rfl, hr, rfl⟩; have hr64 : r ≤ 64 * m := hr.2.2.2 (by omega); have HR := Lib.hid hr; clear hr; have HMK := Lib.hid (mark_call HA.out (r : Int) ⟨by omega, by omega⟩); obtain ⟨fr, hfr⟩ : ∃ fr, isF F n (r : Int) = fr := ⟨_, rfl⟩; rw [hfr] at HMK; have HFR := Lib.hid hfr; clear hfr))
    | (go_at_call 10; refine HMK.out.mono ?_; rintro e w' ⟨rfl, hal, ht⟩; have HAL := Lib.hid hal; have HT := Lib.hid ht; clear hal ht))
  all_goals go_ret2
  · have hfr : isF F n (r : Int) = false := by rw [HFR.out]; first | rfl | assumption | simp_all
    refine ⟨0, false, rfl, .inr ⟨rfl, rfl, fun x hx => ?_⟩, ?_, HT.out⟩
    · by_cases hxr : x < r
      · exact HR.out.2.1 x (by omega) hxr (by omega)
      · have hrn : r < n := by omega
        have := HR.out.2.2.1 (by omega)
        rw [isF_nat hrn, this] at hfr; cases hfr
    · have := HAL.out
      rwa [show delI F n (r : Int) = F from by rw [delI, hfr]; rfl] at this
  · have hfr : isF F n (r : Int) = true := by rw [HFR.out]; first | rfl | assumption | simp_all
    have hrn : r < n := by simp [isF, isP] at hfr; omega
    refine ⟨r, true, rfl, .inl ⟨rfl, hrn, by rwa [isF_nat hrn] at hfr, fun x hx => HR.out.2.1 x (by omega) hx (by omega)⟩, ?_, HT.out⟩
    have := HAL.out
    rwa [show delI F n (r : Int) = del F r from by rw [delI, if_pos hfr]; rfl] at this
/-- Is it taken, and not dropped? -/
def isT (F D : Nat → Bool) (n : Nat) (p : Int) : Bool := isP n p && (!F p.toNat && !D p.toNat)
def insI (F D : Nat → Bool) (n : Nat) (p : Int) : Nat → Bool := if isT F D n p then ins D p.toNat else D
set_option maxHeartbeats 1000000 in
theorem drop_call (h : Al w B q a b s n m F D S) (p : Int) (hp : In64 p) :
    Calls Tryd.prog 14 #[.pointer (some ⟨q, 0, none⟩), .int .i64 p] w fun e w' => e = .returned (.bool (isT F D n p)) ∧ Al w' B q a b s n m F (insI F D n p) S ∧ Turn w w' (own4 q a b s) (own4 q a b s) := by
  have HP := Lib.hid (isPage_call h p hp)
  have HA := Lib.hid h
  have c1 := h.cells.2.1
  by_cases hpg : isP n p = true
  · obtain ⟨k, rfl, hk⟩ := isP_nat hpg
    have hkm : k / 64 < m := by have := h.hm; omega
    have H1 := Lib.hid (has_call (p := k) h.hF h.m16 hkm)
    have H2 := fun j => Lib.hid (has_call (p := k) (h.drewN j).hD h.m16 hkm)
    have H3 := fun j => Lib.hid (put_call (p := k) (h.drewN j).hD h.m16 hkm)
    have c2 := fun j => (h.drewN j).cells.2.2.1
    have HC2 := Lib.hid c2
    rw [show isT F D n (k : Int) = (!F k && !D k) from by simp [isT, isP_of hk], show insI F D n (k : Int) = if (!F k && !D k) then ins D k else D from by simp [insI, isT, isP_of hk]]
    rw [hpg] at HP
    clear h hpg c2
    have HF : ∀ f d, F k = f → D k = d → Calls Tryd.prog 14 #[.pointer (some ⟨q, 0, none⟩), .int .i64 (k : Int)] w fun e w' => e = .returned (.bool (!f && !d)) ∧ Al w' B q a b s n m F (if (!f && !d) then ins D k else D) S ∧ Turn w w' (own4 q a b s) (own4 q a b s) := by
      intro f d hf hd
      rw [hf] at H1
      simp only [hd] at H2
      clear hf hd
      cases f
      · cases d
        · go_enter Tryd.func14, Tryd.ntmps14
          go_wp2_with (first
            | (go_at_call 33; refine HP.out.mono ?_; rintro e w' ⟨rfl, rfl⟩)
            | (go_at_call_of 34 (Value.slice (some ⟨a, 0, none⟩) m m); refine H1.out.mono ?_; rintro e w' ⟨rfl, k2, rfl⟩; have c2 := HC2.out k2)
            | (go_at_call_of 34 (Value.slice (some ⟨b, 0, none⟩) m m); refine (H2 _).out.mono ?_; rintro e w' ⟨rfl, k3, rfl⟩; have c3 := HC2.out (k2 + k3))
            | (go_at_call 29; refine (H3 _).out.mono ?_; rintro e w' ⟨rfl, hg, hs⟩))
          go_ret
          exact ⟨rfl, (HA.out.drewN _).newD hg hs (ins_out hk HA.out.outD), (drewN_turn _ _ _).trans (.of_grown hg (fun j hj => by cases hj; exact .inr (.inr (.inl rfl))))⟩
        · go_enter Tryd.func14, Tryd.ntmps14
          go_wp2_with (first
            | (go_at_call 33; refine HP.out.mono ?_; rintro e w' ⟨rfl, rfl⟩)
            | (go_at_call_of 34 (Value.slice (some ⟨a, 0, none⟩) m m); refine H1.out.mono ?_; rintro e w' ⟨rfl, k2, rfl⟩; have c2 := HC2.out k2)
            | (go_at_call_of 34 (Value.slice (some ⟨b, 0, none⟩) m m); refine (H2 _).out.mono ?_; rintro e w' ⟨rfl, k3, rfl⟩; have c3 := HC2.out (k2 + k3)))
          go_ret
          exact ⟨rfl, HA.out.drewN _, drewN_turn _ _ _⟩
      · go_enter Tryd.func14, Tryd.ntmps14
        go_wp2_with (first
          | (go_at_call 33; refine HP.out.mono ?_; rintro e w' ⟨rfl, rfl⟩)
          | (go_at_call_of 34 (Value.slice (some ⟨a, 0, none⟩) m m); refine H1.out.mono ?_; rintro e w' ⟨rfl, k2, rfl⟩; have c2 := HC2.out k2))
        go_ret
        exact ⟨rfl, HA.out.drewN _, drewN_turn _ _ _⟩
    exact HF _ _ rfl rfl
  · have hpf : isP n p = false := by simpa using hpg
    rw [show isT F D n p = false from by rw [isT, hpf]; rfl, show insI F D n p = D from by rw [insI, isT, hpf]; rfl]
    rw [hpf] at HP
    clear h hpg hpf
    go_enter Tryd.func14, Tryd.ntmps14
    go_wp2_with (go_at_call 33; refine HP.out.mono ?_; rintro e w' ⟨rfl, rfl⟩)
    go_ret
    exact ⟨rfl, HA.out, Turn.refl _ _⟩
set_option maxHeartbeats 1000000 in
theorem free_call (h : Al w B q a b s n m F D S) :
    Calls Tryd.prog 20 #[.pointer (some ⟨q, 0, none⟩)] w fun e w' => e = .returned (.int .i64 ((cnt F n : Nat) : Int)) ∧ w' = w := by
  have HC := Lib.hid (count_call h.hF h.m16)
  rw [show cnt F (64 * m) = cnt F n from by
    have hm := h.hm
    obtain ⟨d, hd⟩ : ∃ d, 64 * m = n + d := ⟨64 * m - n, by omega⟩
    rw [hd, cnt_add, cnt_none (fun j _ => h.outF (n + j) (by omega)), Nat.add_zero]] at HC
  have c1 := h.cells.2.1
  clear h
  generalize cnt F n = c at HC ⊢
  go_enter Tryd.func20, Tryd.ntmps20
  go_wp2_with (go_at_call 37; refine HC.out.mono ?_; rintro e w' ⟨rfl, rfl⟩)
  go_ret
  exact ⟨rfl, rfl⟩
theorem Al.clear_ (h : Al w B q a b s n m F D S) : ∃ w', (∀ ty, (Builtin.clear_ #[44] ty #[.slice (some ⟨b, 0, none⟩) m m]).run Tryd.prog w = .ok (.tuple #[]) w') ∧ Al w' B q a b s n m F (fun _ => false) S ∧ Turn w w' (own4 q a b s) (own4 q a b s) := by
  obtain ⟨w', h1, h2, h3⟩ := run_clear h.hD (show 0 < m by have := h.hm; have := h.one; omega)
  exact ⟨w', h1, h.newD h2 h3 (fun _ _ => rfl), .of_grown h2 (fun j hj => by cases hj; exact .inr (.inr (.inl rfl)))⟩
theorem Al.copySF (h : Al w B q a b s n m F D S) : ∃ w', (∀ ty, (Builtin.copy_ #[44, 44] ty #[.slice (some ⟨s, 0, none⟩) m m, .slice (some ⟨a, 0, none⟩) m m]).run Tryd.prog w = .ok (.int .i64 m) w') ∧ Al w' B q a b s n m F D F ∧ Turn w w' (own4 q a b s) (own4 q a b s) := by
  obtain ⟨w', h1, h2, h3⟩ := run_over h.hS h.hF
  exact ⟨w', h1, h.newS h2 h3 h.outF, .of_grown h2 (fun j hj => by cases hj; exact .inr (.inr (.inr rfl)))⟩
theorem Al.copyFS (h : Al w B q a b s n m F D S) : ∃ w', (∀ ty, (Builtin.copy_ #[44, 44] ty #[.slice (some ⟨a, 0, none⟩) m m, .slice (some ⟨s, 0, none⟩) m m]).run Tryd.prog w = .ok (.int .i64 m) w') ∧ Al w' B q a b s n m S D S ∧ Turn w w' (own4 q a b s) (own4 q a b s) := by
  obtain ⟨w', h1, h2, h3⟩ := run_over h.hF h.hS
  exact ⟨w', h1, h.newF h2 h3 h.outS, .of_grown h2 (fun j hj => by cases hj; exact .inr (.inl rfl))⟩
set_option maxHeartbeats 2000000 in
theorem undo_call (h : Al w B q a b s n m F D S) :
    Calls Tryd.prog 18 #[.pointer (some ⟨q, 0, none⟩)] w fun e w' => e = .returned (.tuple #[]) ∧ Al w' B q a b s n m S (fun _ => false) S ∧ Turn w w' (own4 q a b s) (own4 q a b s) := by
  obtain ⟨w1, hcp, h1, t1⟩ := h.drew.copyFS
  obtain ⟨w2, hcl, h2, t2⟩ := h1.clear_
  have c := h.cells
  have c' := h.drew.cells
  have d2 := h1.cells.2.2.1
  have HH := Lib.hid h2; have HT := Lib.hid (((Turn.drew (Turn.refl w _)).trans t1).trans t2)
  clear h h1 h2 t1 t2
  obtain ⟨_, c1, c2, c3⟩ := c
  obtain ⟨_, c1', c2', c3'⟩ := c'
  go_enter Tryd.func18, Tryd.ntmps18
  go_wp2_with fail
  go_region
  go_wp2_with (simp only [hcl])
  go_end0
  exact ⟨rfl, HH.out, HT.out⟩
set_option maxHeartbeats 2000000 in
theorem settle_call (h : Al w B q a b s n m F D S) :
    Calls Tryd.prog 16 #[.pointer (some ⟨q, 0, none⟩)] w fun e w' => e = .returned (.tuple #[]) ∧ Al w' B q a b s n m (fun p => F p || D p) (fun _ => false) (fun p => F p || D p) ∧ Turn w w' (own4 q a b s) (own4 q a b s) := by
  have HP := Lib.hid (putAll_call h.drew.hF h.drew.hD h.ab.symm h.m16)
  have c := h.cells
  have c' := h.drew.cells
  have HA := Lib.hid h
  clear h
  obtain ⟨_, c1, c2, c3⟩ := c
  obtain ⟨_, c1', c2', c3'⟩ := c'
  go_enter Tryd.func16, Tryd.ntmps16
  go_wp2_with fail
  go_region_with (go_at_call 35; refine HP.out.mono ?_; rintro e w' ⟨rfl, hg, hs⟩)
  all_goals
    have h1 : Al w' B q a b s n m (fun p => F p || D p) D S := HA.out.drew.newF hg hs (fun p hp => by simp [HA.out.outF p hp, HA.out.outD p hp])
    have tg : Turn w.drew w' (own4 q a b s) (own4 q a b s) := .of_grown hg (fun j hj => by cases hj; exact .inr (.inl rfl))
    have t1 : Turn w w' (own4 q a b s) (own4 q a b s) := (Turn.drew (Turn.refl w _)).trans tg
    clear hg hs HP tg
    obtain ⟨w2, hcl, h2, t2⟩ := h1.clear_
    have d2 := h1.cells.2.2.1
    obtain ⟨w3, hcp, h3, t3⟩ := h2.drew.copySF
    obtain ⟨_, e1, e2, e3⟩ := h2.cells
    obtain ⟨_, e1', e2', e3'⟩ := h2.drew.cells
    have HH := Lib.hid h3; have HT := Lib.hid ((t1.trans t2).trans ((Turn.drew (Turn.refl w2 _)).trans t3))
    clear h1 h2 h3 t1 t2 t3
    go_wp2_with (simp only [hcl])
    go_region
    go_wp2
    go_end0
    exact ⟨rfl, HH.out, HT.out⟩
end
set_option maxHeartbeats 2000000 in
/-- Of no number of pages that may be. -/
theorem new_none (n : Int) (w : World) (hn : n < 1 ∨ 1024 < n) :
    Calls Tryd.prog 7 #[.int .i64 n] w fun e w' => e = .returned (.pointer none) ∧ w' = w := by
  by_cases h1 : n < 1
  · go_enter Tryd.func7, Tryd.ntmps7
    go_wp2_with fail
    all_goals go_ret
    all_goals exact ⟨rfl, rfl⟩
  · have h2 : 1024 < n := by omega
    clear hn
    go_enter Tryd.func7, Tryd.ntmps7
    go_wp2_with fail
    all_goals go_ret
    all_goals exact ⟨rfl, rfl⟩
theorem grow3 (w : World) (o : Obj) : (w.alloc o).heap.size = w.heap.size + 1 := by unfold World.alloc; exact Array.size_push ..
theorem Tab.alloc {w : World} (h : Tab w) (o : Obj) : Tab (w.alloc o) := h.keep (Below.heap_alloc w o 0 h.pos)
/-- Three sets and the struct over them, all new. -/
theorem al_new (w : World) (n m : Nat) (hn : 1 ≤ n) (hn2 : n ≤ 1024) (hm : m = (n + 63) / 64) (hT : Tab w) :
    Al ((((w.alloc (.cells (wds (fun _ => false) m) 55)).alloc (.cells (wds (fun _ => false) m) 55)).alloc (.cells (wds (fun _ => false) m) 55)).alloc (.cells #[.int .i64 n, .slice (some ⟨w.heap.size, 0, none⟩) m m, .slice (some ⟨w.heap.size + 1, 0, none⟩) m m, .slice (some ⟨w.heap.size + 1 + 1, 0, none⟩) m m] 47))
      w.heap.size (w.heap.size + 1 + 1 + 1) w.heap.size (w.heap.size + 1) (w.heap.size + 1 + 1) n m (fun _ => false) (fun _ => false) (fun _ => false) := by
  have h1 := Blk.new w 55 (wds (fun _ => false) m)
  have s1 := grow3 w (.cells (wds (fun _ => false) m) 55)
  generalize hw1 : w.alloc (.cells (wds (fun _ => false) m) 55) = w1 at h1 s1 ⊢
  have h2 := Blk.new w1 55 (wds (fun _ => false) m)
  have s2 := grow3 w1 (.cells (wds (fun _ => false) m) 55)
  have h12 := h1.alloc (.cells (wds (fun _ => false) m) 55)
  generalize hw2 : w1.alloc (.cells (wds (fun _ => false) m) 55) = w2 at h2 s2 h12 ⊢
  have h3 := Blk.new w2 55 (wds (fun _ => false) m)
  have s3 := grow3 w2 (.cells (wds (fun _ => false) m) 55)
  have h13 := h12.alloc (.cells (wds (fun _ => false) m) 55)
  have h23 := h2.alloc (.cells (wds (fun _ => false) m) 55)
  generalize hw3 : w2.alloc (.cells (wds (fun _ => false) m) 55) = w3 at h3 s3 h13 h23 ⊢
  have h4 := Blk.new w3 47 #[.int .i64 n, .slice (some ⟨w.heap.size, 0, none⟩) m m, .slice (some ⟨w.heap.size + 1, 0, none⟩) m m, .slice (some ⟨w.heap.size + 1 + 1, 0, none⟩) m m]
  have hT3 : Tab w3 := by
    subst hw3 hw2 hw1
    exact ((hT.alloc _).alloc _).alloc _
  rw [show w2.heap.size = w.heap.size + 1 + 1 by omega] at h3
  rw [s1] at h2 h23
  rw [show w3.heap.size = w.heap.size + 1 + 1 + 1 by omega] at h4
  exact ⟨h4, h13.alloc _, h23.alloc _, h3.alloc _, by omega, by omega, by omega, hn, hn2, hm, fun _ _ => rfl, fun _ _ => rfl, fun _ _ => rfl, hT3.alloc _, hT.pos, by omega, by omega, by omega, by omega⟩
theorem ext_congr {w : World} {B q a b s n m : Nat} {F D S F' D' S' : Nat → Bool} (h : Al w B q a b s n m F D S) (hF : F = F') (hD : D = D') (hS : S = S') : Al w B q a b s n m F' D' S' := by subst hF hD hS; exact h
set_option maxHeartbeats 2000000 in
theorem new_call (n : Nat) (w : World) (hn : 1 ≤ n) (hn2 : n ≤ 1024) (hT : Tab w) :
    Calls Tryd.prog 7 #[.int .i64 n] w fun e w' => ∃ q a b s m, e = .returned (.pointer (some ⟨q, 0, none⟩)) ∧ Al w' w.heap.size q a b s n m (fun p => decide (p < n)) (fun _ => false) (fun p => decide (p < n)) ∧ w.grownBy w' none := by
  obtain ⟨m, hm⟩ : ∃ m, m = (n + 63) / 64 := ⟨_, rfl⟩
  have N0 := fun w => Lib.hid (newSet_call n m w hn2 hm)
  have HN := Lib.hid (al_new w n m hn hn2 hm hT)
  have hd1 : decide ((n : Int) < 1) = false := decide_eq_false (by omega)
  have hd2 : decide (1024 < (n : Int)) = false := decide_eq_false (by omega)
  have HM := Lib.hid hm
  have hm16 : m ≤ 16 := by omega
  have hnm : n ≤ 64 * m := by omega
  clear hT hm
  go_enter Tryd.func7, Tryd.ntmps7
  go_wp2_with (go_at_call 28; refine (N0 _).out.mono ?_; rintro e w' ⟨rfl, rfl⟩)
  have HG : Hid (w.grownBy ((((w.alloc (.cells (wds (fun _ => false) m) 55)).alloc (.cells (wds (fun _ => false) m) 55)).alloc (.cells (wds (fun _ => false) m) 55)).alloc (.cells #[.int .i64 n, .slice (some ⟨w.heap.size, 0, none⟩) m m, .slice (some ⟨w.heap.size + 1, 0, none⟩) m m, .slice (some ⟨w.heap.size + 1 + 1, 0, none⟩) m m] 47)) none) :=
    Lib.hid ((((World.grownBy_alloc _ _ none).trans (World.grownBy_alloc _ _ none)).trans (World.grownBy_alloc _ _ none)).trans (World.grownBy_alloc _ _ none))
  have hq : 0 ≤ w.heap.size + 1 + 1 + 1 := by omega
  generalize ((((w.alloc (.cells (wds (fun _ => false) m) 55)).alloc (.cells (wds (fun _ => false) m) 55)).alloc (.cells (wds (fun _ => false) m) 55)).alloc (.cells #[.int .i64 n, .slice (some ⟨w.heap.size, 0, none⟩) m m, .slice (some ⟨w.heap.size + 1, 0, none⟩) m m, .slice (some ⟨w.heap.size + 1 + 1, 0, none⟩) m m] 47)) = w4 at HN HG ⊢
  obtain ⟨b, hbb⟩ : ∃ b, w.heap.size + 1 = b := ⟨_, rfl⟩
  obtain ⟨s, hss⟩ : ∃ s, b + 1 = s := ⟨_, rfl⟩
  obtain ⟨q, hqq⟩ : ∃ q, s + 1 = q := ⟨_, rfl⟩
  simp only [hqq, hbb, hss] at HN HG ⊢
  clear hbb hss hqq hq hd1 hd2 N0
  go_loopw [4, 21] (fun _ i wr => ∃ k : Nat, k ≤ n ∧ i = .int .i64 k ∧ Al wr w.heap.size q w.heap.size b s n m (fun _ => false) (fun p => decide (p < k)) (fun _ => false) ∧ w.grownBy wr none) (fun _ i _ => n - (intOf i).toNat)
  case atStart => exact ⟨0, by omega, rfl, ext_congr HN.out rfl (by funext p; simp) rfl, HG.out⟩
  case round =>
    obtain ⟨k, hk, rfl, hal, hg⟩ := hrel
    by_cases hlt : k < n
    · have c2 := hal.cells.2.2.1
      have HP := Lib.hid (put_call (p := k) hal.hD hal.m16 (by omega))
      have HA := Lib.hid hal; have HGR := Lib.hid hg; clear hal hg
      have h1 : (k : Int) < n := by omega
      have hw1 : IntKind.i64.wrap ((k : Int) + 1) = ((k + 1 : Nat) : Int) := wrap_i64n (n := k + 1) (by omega)
      go_wp2_with (go_at_call 29; refine HP.out.mono ?_; rintro e w' ⟨rfl, hgp, hsp⟩; have HS1 := Lib.hid hgp; have HS2 := Lib.hid hsp; clear hgp hsp)
      go_roundw
      case rel =>
        refine ⟨k + 1, by omega, by go_num, ext_congr (HA.out.newD HS1.out HS2.out (ins_out hlt HA.out.outD)) rfl ?_ rfl, ?_⟩
        · funext p
          show (p == k || decide (p < k)) = decide (p < k + 1)
          by_cases hp : p = k
          · rw [hp, beq_self_eq_true, Bool.true_or, decide_eq_true (by omega)]
          · rw [beq_eq_false_iff_ne.2 hp, Bool.false_or]; exact decide_eq_decide.2 (by omega)
        · exact grownBy_new HGR.out HS1.out (fun j hj => by cases hj; exact HA.out.Bb)
      case measure => simp [intOf]; omega
    · have hkn : k = n := by omega
      subst hkn
      have HSET := Lib.hid (settle_call hal)
      have HA := Lib.hid hal; have HGR := Lib.hid hg; clear hal hg
      go_wp2_with (go_at_call 16; refine HSET.out.mono ?_; rintro e w' ⟨rfl, ha, ht⟩; have HS1 := Lib.hid ha; have HS2 := Lib.hid ht; clear ha ht)
      go_ret
      refine ⟨q, w.heap.size, b, s, m, rfl, ext_congr HS1.out (by funext p; first | rfl | simp) rfl (by funext p; first | rfl | simp), ?_⟩
      have hx := HA.out
      exact ⟨HS2.out.os.trans HGR.out.os, HS2.out.tape.trans HGR.out.tape, HS2.out.output.trans HGR.out.output, Nat.le_trans HGR.out.size HS2.out.size, fun i hi _ => (HS2.out.block i (Nat.lt_of_lt_of_le hi HGR.out.size) (by have := hx.Bq; have := hx.Ba; have := hx.Bb; have := hx.Bs; rintro (rfl | rfl | rfl | rfl) <;> omega)).trans (HGR.out.block i hi (by simp))⟩
end Go.Proofs.YtldbfhgkicphkaaDoor.Alc
