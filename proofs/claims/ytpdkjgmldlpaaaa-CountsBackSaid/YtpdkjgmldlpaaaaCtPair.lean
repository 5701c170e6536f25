/- Two of the project's counts, side by side: what each call leaves of the other. What is told is taken. -/
import Derived.Test.YtpdkjgmldlpaaaaCtScript
namespace Go.Proofs.Ytpdkjgmldlpaaaa.Cts
open Go.RowKit CrcMath CodecMath Mem Crc Codec
set_option linter.unusedVariables false
set_option linter.unusedSimpArgs false

section
variable {W w w' : World} {q q2 n : Nat} {x y : Ct} {own own2 : Nat → Prop}
structure Pair (W w : World) (q q2 n : Nat) (x y : Ct) (own own2 : Nat → Prop) : Prop where
  a : One W w q n x own
  b : One W w q2 n y own2
  ne : ∀ i, own i → ¬ own2 i
  gr : W.grownBy w none
theorem Pair.ofA {x' : Ct} (h : Pair W w q q2 n x y own own2) (h1 : One W w' q n x' own) (ht : Turn w w' own own) : Pair W w' q q2 n x' y own own2 :=
  ⟨h1, h.b.far ht h.ne, h.ne, grown_turn h.gr ht h.a.low⟩
theorem Pair.ofB {y' : Ct} (h : Pair W w q q2 n x y own own2) (h1 : One W w' q2 n y' own2) (ht : Turn w w' own2 own2) : Pair W w' q q2 n x y' own own2 :=
  ⟨h.a.far ht (fun i hi he => h.ne i he hi), h1, h.ne, grown_turn h.gr ht h.b.low⟩
theorem Pair.grown (h : Pair W w q q2 n x y own own2) (hg : w.grownBy w' none) : Pair W w' q q2 n x y own own2 :=
  ⟨h.a.grown hg, h.b.grown hg, h.ne, grown_trans_none h.gr hg⟩
theorem Pair.drew (h : Pair W w q q2 n x y own own2) : Pair W w.drew q q2 n x y own own2 := h.grown (grown_drew w none)
theorem Pair.new {w1 : World} (h1 : One W w1 q n x own) (hg1 : W.grownBy w1 none) (h2 : One W w q2 n y own2) (hg2 : w1.grownBy w none) (hl : ∀ i, own2 i → w1.heap.size ≤ i) : Pair W w q q2 n x y own own2 :=
  ⟨h1.grown hg2, h2, fun i hi he => by have := h1.lt i hi; have := hl i he; omega, grown_trans_none hg1 hg2⟩
/-- A block of the law's own turned. -/
theorem Pair.blk {g : Nat} (h : Pair W w q q2 n x y own own2) (hg : w.grownBy w' (some g)) (hW : W.heap.size ≤ g) (h1 : ¬ own g) (h2 : ¬ own2 g) : Pair W w' q q2 n x y own own2 := by
  have ht : Turn w w' (fun i => i = g) (fun i => i = g) := .of_grown hg (fun j hj => by cases hj; rfl)
  exact ⟨h.a.far ht (fun i hi => by subst hi; exact h1), h.b.far ht (fun i hi => by subst hi; exact h2), h.ne, grown_turn h.gr ht (fun i hi => by subst hi; exact hW)⟩
end
/-- The first i pages of counts of f, nought behind. -/
def mixI (f : Nat → Int) (i : Nat) : Nat → Int := fun p => if p < 120 * i then f p else 0
theorem mixI_zero (f : Nat → Int) : mixI f 0 = fun _ => 0 := by funext p; simp [mixI]
theorem mixI_lay {n i : Nat} {f : Nat → Int} (ho : ∀ p, n ≤ p → f p = 0) : lay n (mixI f i) i (listOf f i) = mixI f (i + 1) := by
  funext p
  unfold lay mixI
  by_cases h : 120 * i ≤ p ∧ p < 120 * i + 120 ∧ p < n
  · rw [if_pos h, if_pos (by omega), listOf_getD (by omega), show 120 * i + (p - 120 * i) = p by omega]
  · rw [if_neg h]
    by_cases h2 : p < 120 * i
    · rw [if_pos h2, if_pos (by omega)]
    · rw [if_neg h2]
      by_cases h3 : p < 120 * (i + 1)
      · rw [if_pos h3, ho p (by omega)]
      · rw [if_neg h3]
theorem mixI_list (f : Nat → Int) (i : Nat) : listOf (mixI f (i + 1)) i = listOf f i := by
  unfold listOf mixI
  refine List.map_congr_left fun k hk => ?_
  simp only [List.mem_range] at hk
  rw [if_pos (by omega)]
theorem list_tail {n i : Nat} {f : Nat → Int} (ho : ∀ p, n ≤ p → f p = 0) : tailOk n i (listOf f i) = true := by
  rw [tailOk, List.all_eq_true]
  intro k hk
  simp only [List.mem_range] at hk
  rw [listOf_getD hk]
  rcases Nat.lt_or_ge (120 * i + k) n with h | h
  · simp [h]
  · simp [ho _ h]
/-- What is told is taken. -/
theorem load_told {n i : Nat} {x : Ct} {l : List Nat} (hok : CtOk n x) (hi : i < manyN n) (hl : countsW (listOf x.N i) = some l) :
    loadE n ⟨mixI x.N i, mixI x.N i⟩ (i : Int) l = (0, ⟨mixI x.N (i + 1), mixI x.N (i + 1)⟩) := by
  rw [loadE_yes hi (countsR_of hl) (list_tail hok.oN), mixI_lay hok.oN]
theorem mixI_get {n m : Nat} {x : Ct} (h : n ≤ 120 * m) {p : Nat} (hp : p < n) : getE n ⟨mixI x.N m, mixI x.N m⟩ (p : Int) = getE n x (p : Int) := by
  rw [getE_nat _ hp, getE_nat _ hp]
  simp only [mixI]
  rw [if_pos (by omega)]
end Go.Proofs.Ytpdkjgmldlpaaaa.Cts
