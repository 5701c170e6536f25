/- Two of the project's, side by side; one beside the document's: what each call leaves of the other. -/
import Derived.Test.YtldbfhgkicphkaaDoorAlcScript
namespace Go.Proofs.YtldbfhgkicphkaaDoor.Alc
open Go.RowKit Mem AlcBits
set_option linter.unusedVariables false
set_option linter.unusedSimpArgs false

theorem least_ex (F : Nat → Bool) : ∀ n, ∃ r ok, Least F n r ok
  | 0 => ⟨0, false, .inr ⟨rfl, rfl, fun q hq => by omega⟩⟩
  | n + 1 => by
    obtain ⟨r, ok, h⟩ := least_ex F n
    rcases h with ⟨rfl, h1, h2, h3⟩ | ⟨rfl, rfl, h1⟩
    · exact ⟨r, true, .inl ⟨rfl, by omega, h2, h3⟩⟩
    · by_cases hF : F n = true
      · exact ⟨n, true, .inl ⟨rfl, by omega, hF, h1⟩⟩
      · refine ⟨0, false, .inr ⟨rfl, rfl, fun q hq => ?_⟩⟩
        by_cases hq2 : q = n
        · subst hq2; simpa using hF
        · exact h1 q (by omega)
/-- A step of a script, in whatever world stands behind. -/
theorem Script8.all {W : World} {A : Option Addr} {n : Nat} {ops : List O8} (h : Script8 W A n ops) {j : Nat} (hj : j < n) : ∃ g o kind page, A = some ⟨g, o, none⟩ ∧ In64 page ∧
    ∀ w, W.grownBy w none → w.cell? ⟨g, o + j * 2, none⟩ = some (.int .i64 kind) ∧ w.cell? ⟨g, o + j * 2 + 1, none⟩ = some (.int .i64 page) := by
  obtain ⟨g, o, x, rfl, _, hx, c1, c2⟩ := h.at_ (World.grownBy.refl W none) hj
  refine ⟨g, o, x.kind, x.page, rfl, hx.2, fun w hg => ?_⟩
  obtain ⟨g', o', x', e, hx', _, d1, d2⟩ := h.at_ hg hj
  obtain ⟨g2, o2, x2, e2, hx2, _, f1, f2⟩ := h.at_ (World.grownBy.refl W none) hj
  injection e with e; injection e with e3 e4
  injection e2 with e2; injection e2 with e5 e6
  subst e3 e4 e5 e6
  rw [hx'] at hx2
  cases hx2
  rw [d1, d2, ← f1, ← f2]
  exact ⟨c1, c2⟩
section
variable {W w w' : World} {q q2 n : Nat} {x y : P3} {own own2 : Nat → Prop}
theorem one_take_at (h : One W w q n x own) {r : Nat} {ok : Bool} (hl : Least x.F n r ok) : Calls Tryd.prog 12 #[.pointer (some ⟨q, 0, none⟩)] w fun e w' => e = .returned (.tuple #[.int .i64 (r : Nat), .bool ok]) ∧ One W w' q n x.take own ∧ Turn w w' own own :=
  (one_take h).mono fun e w' ⟨r', ok', he, hl', h1, h2⟩ => by
    obtain ⟨rfl, rfl⟩ := least_one hl' hl
    exact ⟨he, h1, h2⟩
theorem One.beside {o o' : Nat → Prop} (h : One W w q n x own) (ht : Turn w w' o o') (hn : ∀ i, o i → ¬ own i) (hlow : ∀ i, o i → W.heap.size ≤ i) (hT : Tab W) : One W w' q n x own :=
  h.far ht hn (fun i hi => by have := hlow i hi; have := hT.pos; omega)

/-- Two of the project's. -/
structure Pair (W w : World) (q q2 n : Nat) (x y : P3) (own own2 : Nat → Prop) : Prop where
  a : One W w q n x own
  b : One W w q2 n y own2
  ne : ∀ i, own i → ¬ own2 i
  gr : W.grownBy w none
  tab : Tab W
theorem Pair.ofA {x' : P3} (h : Pair W w q q2 n x y own own2) (h1 : One W w' q n x' own) (ht : Turn w w' own own) : Pair W w' q q2 n x' y own own2 :=
  ⟨h1, h.b.beside ht h.ne h.a.low h.tab, h.ne, grown_turn h.gr ht h.a.low, h.tab⟩
theorem Pair.ofB {y' : P3} (h : Pair W w q q2 n x y own own2) (h1 : One W w' q2 n y' own2) (ht : Turn w w' own2 own2) : Pair W w' q q2 n x y' own own2 :=
  ⟨h.a.beside ht (fun i hi he => h.ne i he hi) h.b.low h.tab, h1, h.ne, grown_turn h.gr ht h.b.low, h.tab⟩
theorem Pair.grown (h : Pair W w q q2 n x y own own2) (hg : w.grownBy w' none) : Pair W w' q q2 n x y own own2 :=
  ⟨h.a.grown hg, h.b.grown hg, h.ne, grown_trans_none h.gr hg, h.tab⟩
theorem Pair.drewN (h : Pair W w q q2 n x y own own2) (k : Nat) : Pair W (w.drewN k) q q2 n x y own own2 := h.grown ⟨rfl, rfl, rfl, Nat.le_refl _, fun _ _ _ => rfl⟩
theorem Pair.drew (h : Pair W w q q2 n x y own own2) : Pair W w.drew q q2 n x y own own2 := h.grown (grown_drew w none)
/-- A row of the law's own turned. -/
theorem Pair.row (h : Pair W w q q2 n x y own own2) {v : Value} (hg : w.grownBy w' v.ownBlock) (hv : ∀ j, v.ownBlock = some j → ¬ own j ∧ ¬ own2 j ∧ W.heap.size ≤ j) : Pair W w' q q2 n x y own own2 := by
  have ht : Turn w w' (fun i => v.ownBlock = some i) (fun i => v.ownBlock = some i) := .of_grown hg (fun j hj => hj)
  exact ⟨h.a.beside ht (fun i hi => (hv i hi).1) (fun i hi => (hv i hi).2.2) h.tab, h.b.beside ht (fun i hi => (hv i hi).2.1) (fun i hi => (hv i hi).2.2) h.tab, h.ne, grown_turn h.gr ht (fun i hi => (hv i hi).2.2), h.tab⟩
end

/-- The document's in a law. -/
def Doc (W w : World) (r n : Nat) (x : P3) (own : Nat → Prop) : Prop :=
  ∃ gl cl gs cs B, Rf w B r gl cl gs cs n x.F x.D x.S ∧ W.heap.size ≤ B ∧ own = own3 r gl gs
section
variable {W w w' : World} {r n : Nat} {x : P3} {own : Nat → Prop}
theorem Doc.low (h : Doc W w r n x own) : ∀ i, own i → W.heap.size ≤ i := by
  obtain ⟨gl, cl, gs, cs, B, h, hB, rfl⟩ := h
  intro i hi
  have := h.Br; have := h.Bl; have := h.Bs
  rcases hi with rfl | rfl | rfl <;> omega
theorem Doc.lt (h : Doc W w r n x own) : ∀ i, own i → i < w.heap.size := by
  obtain ⟨gl, cl, gs, cs, B, h, hB, rfl⟩ := h
  intro i hi
  have h1 := h.hr.lt; have h2 := h.hl.lt; have h3 := h.hs.lt
  rcases hi with rfl | rfl | rfl <;> assumption
theorem Doc.beside {o o' : Nat → Prop} (h : Doc W w r n x own) (ht : Turn w w' o o') (hn : ∀ i, o i → ¬ own i) : Doc W w' r n x own := by
  obtain ⟨gl, cl, gs, cs, B, h, hB, rfl⟩ := h
  exact ⟨gl, cl, gs, cs, B, h.far ht hn, hB, rfl⟩
theorem Doc.grown (h : Doc W w r n x own) (hg : w.grownBy w' none) : Doc W w' r n x own := h.beside (Turn.none_ (own := fun _ => False) hg) (fun _ e => e.elim)
theorem doc_isFree (h : Doc W w r n x own) (p : Int) (hp : In64 p) : Calls Tryd.prog 23 #[.pointer (some ⟨r, 0, none⟩), .int .i64 p] w fun e w' => e = .returned (.bool (isF x.F n p)) ∧ w' = w := by
  obtain ⟨gl, cl, gs, cs, B, h, hB, rfl⟩ := h
  exact r_isFree h p hp
theorem doc_free (h : Doc W w r n x own) : Calls Tryd.prog 21 #[.pointer (some ⟨r, 0, none⟩)] w fun e w' => e = .returned (.int .i64 ((cnt x.F n : Nat) : Int)) ∧ w' = w := by
  obtain ⟨gl, cl, gs, cs, B, h, hB, rfl⟩ := h
  exact r_free h
theorem doc_runs (h : Doc W w r n x own) : Calls Tryd.prog 26 #[.pointer (some ⟨r, 0, none⟩)] w fun e w' => ∃ v, e = .returned v ∧ w'.ownsRow w.heap.size 40 2 v (runsUp x.F n).length (enCs (runsUp x.F n)) ∧ w.grownBy w' none := by
  obtain ⟨gl, cl, gs, cs, B, h, hB, rfl⟩ := h
  exact r_runs h
theorem doc_mark (h : Doc W w r n x own) (p : Int) (hp : In64 p) : Calls Tryd.prog 11 #[.pointer (some ⟨r, 0, none⟩), .int .i64 p] w fun e w' => e = .returned (.bool (isF x.F n p)) ∧ ∃ own', Doc W w' r n (x.mark n p) own' ∧ Turn w w' own own' := by
  obtain ⟨gl, cl, gs, cs, B, h, hB, rfl⟩ := h
  exact (r_mark h p hp).mono fun e w' ⟨h1, h2, h3⟩ => ⟨h1, _, ⟨gl, cl, gs, cs, B, h2, hB, rfl⟩, h3⟩
theorem doc_take_at (h : Doc W w r n x own) (ho : ∀ p, n ≤ p → x.F p = false) {k : Nat} {ok : Bool} (hl : Least x.F n k ok) : Calls Tryd.prog 13 #[.pointer (some ⟨r, 0, none⟩)] w fun e w' => e = .returned (.tuple #[.int .i64 (k : Nat), .bool ok]) ∧ ∃ own', Doc W w' r n x.take own' ∧ Turn w w' own own' := by
  obtain ⟨gl, cl, gs, cs, B, h, hB, rfl⟩ := h
  refine (r_take h).mono fun e w' ⟨k', ok', h1, h2, h3, h4⟩ => ?_
  obtain ⟨rfl, rfl⟩ := least_one h2 hl
  exact ⟨h1, _, ⟨gl, cl, gs, cs, B, by rw [P3.take, ← least_take h2 ho]; exact h3, hB, rfl⟩, h4⟩
theorem doc_drop (h : Doc W w r n x own) (p : Int) (hp : In64 p) : Calls Tryd.prog 15 #[.pointer (some ⟨r, 0, none⟩), .int .i64 p] w fun e w' => e = .returned (.bool (isT x.F x.D n p)) ∧ ∃ own', Doc W w' r n (x.drop n p) own' ∧ Turn w w' own own' := by
  obtain ⟨gl, cl, gs, cs, B, h, hB, rfl⟩ := h
  exact (r_drop h p hp).mono fun e w' ⟨h1, h2, h3⟩ => ⟨h1, _, ⟨gl, cl, gs, cs, B, h2, hB, rfl⟩, h3⟩
theorem doc_settle (h : Doc W w r n x own) (hD : ∀ p, n ≤ p → x.D p = false) : Calls Tryd.prog 17 #[.pointer (some ⟨r, 0, none⟩)] w fun e w' => e = .returned (.tuple #[]) ∧ ∃ own', Doc W w' r n x.settle own' ∧ Turn w w' own own' := by
  obtain ⟨gl, cl, gs, cs, B, h, hB, rfl⟩ := h
  exact (r_settle h hD).mono fun e w' ⟨h1, gs', cs', h2, h3⟩ => ⟨h1, _, ⟨gl, cl, gs', cs', B, h2, hB, rfl⟩, h3⟩
theorem doc_undo (h : Doc W w r n x own) : Calls Tryd.prog 19 #[.pointer (some ⟨r, 0, none⟩)] w fun e w' => e = .returned (.tuple #[]) ∧ ∃ own', Doc W w' r n x.undo own' ∧ Turn w w' own own' := by
  obtain ⟨gl, cl, gs, cs, B, h, hB, rfl⟩ := h
  exact (r_undo h).mono fun e w' ⟨h1, gl', cl', h2, h3⟩ => ⟨h1, _, ⟨gl', cl', gs, cs, B, h2, hB, rfl⟩, h3⟩
end
theorem doc_new {W w : World} (hg : W.grownBy w none) (n : Nat) (h1 : 1 ≤ n) (h2 : n ≤ 1024) :
    Calls Tryd.prog 8 #[.int .i64 n] w fun e w' => ∃ r own, e = .returned (.pointer (some ⟨r, 0, none⟩)) ∧ Doc W w' r n (fresh n) own ∧ w.grownBy w' none ∧ ∀ i, own i → w.heap.size ≤ i := by
  refine (r_new n w h1 h2).mono fun e w' ⟨r, gl, cl, gs, cs, he, hrf, hg2⟩ => ?_
  refine ⟨r, _, he, ⟨gl, cl, gs, cs, w.heap.size, hrf, hg.size, rfl⟩, hg2, fun i hi => ?_⟩
  have := hrf.Br; have := hrf.Bl; have := hrf.Bs
  rcases hi with rfl | rfl | rfl <;> omega
section
variable {W w w' : World} {q r n : Nat} {x y : P3} {own own2 own2' : Nat → Prop}
/-- The project's beside the document's. -/
structure Both (W w : World) (q r n : Nat) (x y : P3) (own own2 : Nat → Prop) : Prop where
  a : One W w q n x own
  b : Doc W w r n y own2
  ne : ∀ i, own i → ¬ own2 i
  gr : W.grownBy w none
  tab : Tab W
theorem Both.ofA {x' : P3} (h : Both W w q r n x y own own2) (h1 : One W w' q n x' own) (ht : Turn w w' own own) : Both W w' q r n x' y own own2 :=
  ⟨h1, h.b.beside ht h.ne, h.ne, grown_turn h.gr ht h.a.low, h.tab⟩
theorem Both.ofB {y' : P3} (h : Both W w q r n x y own own2) (h1 : Doc W w' r n y' own2') (ht : Turn w w' own2 own2') : Both W w' q r n x y' own own2' :=
  ⟨h.a.beside ht (fun i hi he => h.ne i he hi) h.b.low h.tab, h1, fun i hi he => by
    rcases ht.fresh i he with h2 | h2
    · exact h.ne i hi h2
    · have := h.a.lt i hi; omega, grown_turn h.gr ht h.b.low, h.tab⟩
theorem Both.grown (h : Both W w q r n x y own own2) (hg : w.grownBy w' none) : Both W w' q r n x y own own2 :=
  ⟨h.a.grown hg, h.b.grown hg, h.ne, grown_trans_none h.gr hg, h.tab⟩
theorem Both.drewN (h : Both W w q r n x y own own2) (k : Nat) : Both W (w.drewN k) q r n x y own own2 := h.grown ⟨rfl, rfl, rfl, Nat.le_refl _, fun _ _ _ => rfl⟩
theorem Both.drew (h : Both W w q r n x y own own2) : Both W w.drew q r n x y own own2 := h.grown (grown_drew w none)
theorem Both.row (h : Both W w q r n x y own own2) {v : Value} (hg : w.grownBy w' v.ownBlock) (hv : ∀ j, v.ownBlock = some j → ¬ own j ∧ ¬ own2 j ∧ W.heap.size ≤ j) : Both W w' q r n x y own own2 := by
  have ht : Turn w w' (fun i => v.ownBlock = some i) (fun i => v.ownBlock = some i) := .of_grown hg (fun j hj => hj)
  exact ⟨h.a.beside ht (fun i hi => (hv i hi).1) (fun i hi => (hv i hi).2.2) h.tab, h.b.beside ht (fun i hi => (hv i hi).2.1), h.ne, grown_turn h.gr ht (fun i hi => (hv i hi).2.2), h.tab⟩
end
/-- Two rows answered one behind the other, compared: the law's own blocks alone turn. -/
theorem entries_new {w0 w1 w2 : World} {va vb : Value} {l : List (Nat × Nat)} (ha : w1.ownsRow w0.heap.size 40 2 va l.length (enCs l)) (hg1 : w0.grownBy w1 none) (hb : w2.ownsRow w1.heap.size 40 2 vb l.length (enCs l)) (hg2 : w1.grownBy w2 none) (hl : l.length ≤ 1024) :
    Calls Tryd.prog 24 #[va, vb] w2 fun e w' => e = .returned (.bool true) ∧ w0.grownBy w' none := by
  have ha2 := owns_keep ha hg2 (fun j _ => by simp)
  refine (entries_call ha2 hb (fun j hj he => ?_) hl).mono fun e w' ⟨h1, h2⟩ => ⟨h1, ?_⟩
  · have h3 := (owns_base ha j hj).2
    have h4 := (owns_base hb j he).1
    omega
  · exact grownBy_new (grown_trans_none hg1 hg2) h2 (fun j hj => (owns_base ha j hj).1)
end Go.Proofs.YtldbfhgkicphkaaDoor.Alc
