/- A row of the call's own, none of it frozen. No program is named. -/
import Derived.Test.YtlbadapcaooieaaOwn
namespace Go.Proofs.Ytlbadapcaooieaa.Codec
open Go.RowKit Mem

/-- A row of the call's own, none of it frozen. -/
def Sole (w : World) (base : Nat) (e : TypeId) (size : Nat) (v : Value) (n : Nat) (xs : List Value) : Prop := w.ownsRow base e size v n xs
section
variable {w w' : World} {base n size : Nat} {e : TypeId} {v : Value} {xs : List Value}
theorem Sole.own (h : Sole w base e size v n xs) : Own w base e size v n xs := .inl h
theorem Sole.nil (w : World) (base : Nat) (e : TypeId) (size : Nat) : Sole w base e size (.slice none 0 0) 0 [] := World.ownsRow_nil w base e size
theorem Sole.base_ (h : Sole w base e size v n xs) : ∀ j, v.ownBlock = some j → base ≤ j ∧ j < w.heap.size := h.own.base_
theorem Sole.keep {row : Option Nat} (h : Sole w base e size v n xs) (hg : w.grownBy w' row) (hne : ∀ j, v.ownBlock = some j → row ≠ some j) : Sole w' base e size v n xs := by
  refine ⟨h.1, ?_⟩
  rcases h.2 with hn | ⟨g, cap, cur, rfl, hb, hh, rest⟩
  · exact .inl hn
  · refine .inr ⟨g, cap, cur, rfl, hb, ?_, rest⟩
    rw [hg.block g (Array.getElem?_eq_some_iff.1 hh).1 (fun e => hne g rfl e.symm)]
    exact hh
theorem Sole.alloc (h : Sole w base e size v n xs) (o : Obj) : Sole (w.alloc o) base e size v n xs :=
  h.keep (World.grownBy_alloc w o none) (fun _ _ h => by cases h)
theorem Sole.low {b : Nat} (h : Sole w base e size v n xs) (hb : b ≤ base) : Sole w b e size v n xs := by
  refine ⟨h.1, ?_⟩
  rcases h.2 with hn | ⟨g, cap, cur, hv, hbg, rest⟩
  · exact .inl hn
  · exact .inr ⟨g, cap, cur, hv, by omega, rest⟩
theorem Sole.set_far (h : Sole w base e size v n xs) {g i : Nat} (hg : g < base) (u : Value) : Sole (w.setCell ⟨g, i, none⟩ u) base e size v n xs :=
  h.keep (only_set (World.grownBy.refl w (some g)) i u) (fun j hj e => by cases e; have := (h.base_ g hj).1; omega)
end
theorem grew_of {w w' : World} {v v' : Value} (hg : w.grownBy w' v.ownBlock) (h : v'.ownBlock = v.ownBlock ∨ v'.ownBlock = some w.heap.size) : Grew w w' v v' :=
  ⟨hg, fun j hj => by
    rcases h with h | h
    · exact .inl (by rw [← h]; exact hj)
    · rw [h] at hj
      injection hj with hj
      exact .inr (by omega)⟩
end Go.Proofs.Ytlbadapcaooieaa.Codec
