/- Texts of this seat's proofs: RefNode, RefNodeGet. -/
import Derived.Test.YteaokeiolgjhaaaGreatPRefCounts
import Derived.Deep.RegionHeld3
import Derived.Deep.RegionLaw
import Derived.Deep.DeepCutAuto
import Derived.IntWalk
/- The walks over the document's own answer for nodes: PutNode, GetNode. -/
namespace Go.Proofs.YteaokeiolgjhaaaGreat.Codec
open Go.RowKit CrcMath CodecMath Mem Crc

theorem nodeW_no1 {leaf : Bool} {ks vs : List Int} (h : ks.length ≠ vs.length) : nodeW leaf ks vs = none := by
  rw [nodeW, if_neg (fun hh => h (nodeOk_iff hh).1)]
theorem nodeW_no2 {leaf : Bool} {ks vs : List Int} (h : 8 < ks.length) : nodeW leaf ks vs = none := by
  rw [nodeW, if_neg (fun hh => by have := (nodeOk_iff hh).2.1; omega)]
theorem nodeW_no3 {leaf : Bool} {ks vs : List Int} (j : Nat) (hj : j < ks.length) (h : inB (ks.getD j 0) 1048575 = false) : nodeW leaf ks vs = none := by
  rw [nodeW, if_neg (fun hh => by have := (nodeOk_iff hh).2.2.1; rw [allB_no j hj h] at this; cases this)]
theorem nodeW_no4 {leaf : Bool} {ks vs : List Int} (j : Nat) (hj : j < vs.length) (h : inB (vs.getD j 0) 1023 = false) : nodeW leaf ks vs = none := by
  rw [nodeW, if_neg (fun hh => by have := (nodeOk_iff hh).2.2.2; rw [allB_no j hj h] at this; cases this)]
theorem nodeW_yes {leaf : Bool} {ks vs : List Int} (n : Nat) (h1 : ks.length = n) (h2 : vs.length = n) (h8 : n ≤ 8) (hk : ∀ j, j < n → inB (ks.getD j 0) 1048575 = true) (hv : ∀ j, j < n → inB (vs.getD j 0) 1023 = true) :
    nodeW leaf ks vs = some (fill (nodeB leaf ks vs) 240) := by
  have : nodeOk ks vs = true := by
    simp only [nodeOk, Bool.and_eq_true, decide_eq_true_eq]
    exact ⟨⟨⟨by omega, by omega⟩, allB_mk n h1 hk⟩, allB_mk n h2 hv⟩
  rw [nodeW, if_pos this]

end Go.Proofs.YteaokeiolgjhaaaGreat.Codec
/- The walk over the document's own answer for nodes that are read: GetNode. -/
namespace Go.Proofs.YteaokeiolgjhaaaGreat.Codec
open Go.RowKit CrcMath CodecMath Mem Crc

theorem Own.set_far {w : World} {base size n : Nat} {e : TypeId} {v : Value} {xs : List Value} (h : Own w base e size v n xs) {g i : Nat} (hg : g < base) (u : Value) : Own (w.setCell ⟨g, i, none⟩ u) base e size v n xs :=
  h.keep (only_set (World.grownBy.refl w (some g)) i u) (fun j hj e => by cases e; have := (h.base_ g hj).1; omega)
theorem bytes_drew {w : World} {b n : Nat} {A : Option Addr} {l : List Nat} (h : Bytes w b A n l) : Bytes w.drew b A n l := h
/-- What a call that reads a node leaves. -/
def ToldNode (w : World) (o : Option (Bool × List Int × List Int)) (e : Ending) (w' : World) : Prop :=
  w.grownBy w' none ∧ ((∃ leaf ks vs v v', o = some (leaf, ks, vs) ∧ e = .returned (.tuple #[.agg #[.bool leaf, v, v'], .bool true]) ∧ Own w' w.heap.size 3 1 v ks.length (i64s ks) ∧ Own w' w.heap.size 3 1 v' vs.length (i64s vs) ∧
      (∀ g, v.ownBlock = some g → v'.ownBlock ≠ some g) ∧ (∀ x ∈ ks, -9223372036854775808 ≤ x ∧ x ≤ 9223372036854775807) ∧ ∀ x ∈ vs, -9223372036854775808 ≤ x ∧ x ≤ 9223372036854775807) ∨
    (o = none ∧ e = .returned (.tuple #[.agg #[.bool false, .slice none 0 0, .slice none 0 0], .bool false])))

end Go.Proofs.YteaokeiolgjhaaaGreat.Codec
