/- A node in a block of the call's own, whose rows grow by appends: what is kept meanwhile. No program's function is named. -/
import Derived.Test.YtlbadapcaooieaaNdMem
namespace Go.Proofs.Ytlbadapcaooieaa.Node
open Go.RowKit CrcMath Mem Crc Codec NdSpec
set_option linter.unusedVariables false
set_option linter.unusedSimpArgs false

/-- From W0 to W the blocks of K have not turned. -/
structure Kept (K : Nat → Prop) (W0 W : World) : Prop where
  os : W.os = W0.os
  tape : W.tape = W0.tape
  output : W.output = W0.output
  size : W0.heap.size ≤ W.heap.size
  block : ∀ g, K g → W.heap[g]? = W0.heap[g]?
section
variable {K : Nat → Prop} {w W0 W W' : World}
theorem Kept.refl (K : Nat → Prop) (W : World) : Kept K W W := ⟨rfl, rfl, rfl, Nat.le_refl _, fun _ _ => rfl⟩
theorem Kept.then_ (h : Kept K W0 W) {row : Option Nat} (hg : W.grownBy W' row) (ht : ∀ g, K g → g < W0.heap.size) (hr : ∀ g, row = some g → ¬ K g) : Kept K W0 W' :=
  ⟨hg.os.trans h.os, hg.tape.trans h.tape, hg.output.trans h.output, Nat.le_trans h.size hg.size,
    fun g hk => (hg.block g (Nat.lt_of_lt_of_le (ht g hk) h.size) (fun e => hr g e.symm hk)).trans (h.block g hk)⟩
theorem Kept.grown (h : Kept K W0 W) (h0 : w.grownBy W0 none) (hk : ∀ g, g < w.heap.size → K g) : w.grownBy W none :=
  ⟨h.os.trans h0.os, h.tape.trans h0.tape, h.output.trans h0.output, Nat.le_trans h0.size h.size, fun g hg _ => (h.block g (hk g hg)).trans (h0.block g hg (by simp))⟩
theorem Kept.blk (h : Kept K W0 W) {g : Nat} {t : TypeId} {cs : Array Value} (hb : Blk W0 g t cs) (hk : K g) : Blk W g t cs := (h.block g hk).trans hb
theorem Kept.own (h : Kept K W0 W) {base n size : Nat} {e : TypeId} {v : Value} {xs : List Value} (hs : Sole W0 base e size v n xs) (hk : ∀ j, v.ownBlock = some j → K j) : Sole W base e size v n xs := by
  refine ⟨hs.1, ?_⟩
  rcases hs.2 with hn | ⟨g, cap, cur, rfl, hb, hh, rest⟩
  · exact .inl hn
  · exact .inr ⟨g, cap, cur, rfl, hb, (h.block g (hk g rfl)).trans hh, rest⟩
end
/-- A node in block B, whose rows v1 and v2 are the call's own. -/
structure Gat (W0 W : World) (K : Nat → Prop) (base B : Nat) (lf : Bool) (v1 v2 : Value) (Ks Vs : List Int) : Prop where
  kept : Kept K W0 W
  top : ∀ g, K g → g < W0.heap.size
  nB : ¬ K B
  box : Blk W B 24 #[.bool lf, v1, v2]
  own : NdOwn W base v1 v2 Ks Vs
  r1 : ∀ g, v1.ownBlock = some g → ¬ K g ∧ g ≠ B
  r2 : ∀ g, v2.ownBlock = some g → ¬ K g ∧ g ≠ B
section
variable {W0 W W' : World} {K : Nat → Prop} {base B : Nat} {lf : Bool} {v1 v2 v' : Value} {Ks Vs l : List Int}
theorem Gat.quiet (h : Gat W0 W K base B lf v1 v2 Ks Vs) (hg : W.grownBy W' none) : Gat W0 W' K base B lf v1 v2 Ks Vs :=
  ⟨h.kept.then_ hg h.top (fun _ e => by cases e), h.top, h.nB, h.box.grown hg (by simp), h.own.keep hg, h.r1, h.r2⟩
theorem Gat.leaf (h : Gat W0 W K base B lf v1 v2 Ks Vs) (x : Bool) : Gat W0 (W.setCell ⟨B, 0, none⟩ (.bool x)) K base B x v1 v2 Ks Vs := by
  have hg := only_set (World.grownBy.refl W (some B)) 0 (.bool x)
  exact ⟨h.kept.then_ hg h.top (fun g e => by cases e; exact h.nB), h.top, h.nB, h.box.set_ 0 _,
    ⟨h.own.k.keep hg (fun j hj e => by cases e; exact (h.r1 _ hj).2 rfl), h.own.v.keep hg (fun j hj e => by cases e; exact (h.r2 _ hj).2 rfl), h.own.apart, h.own.kin, h.own.vin⟩, h.r1, h.r2⟩
theorem Gat.key (h : Gat W0 W K base B lf v1 v2 Ks Vs) {m : Nat} (hgr : W.grownBy W' v1.ownBlock) (hown : W'.ownsRow base 3 1 v' (Ks.length + m) (i64s Ks ++ i64s l))
    (hw : v'.ownBlock = v1.ownBlock ∨ v'.ownBlock = some W.heap.size) (hm : l.length = m) (hl : ∀ x ∈ l, -9223372036854775808 ≤ x ∧ x ≤ 9223372036854775807) :
    Gat W0 (W'.setCell ⟨B, 1, none⟩ v') K base B lf v' v2 (Ks ++ l) Vs := by
  have hs := only_set (World.grownBy.refl W' (some B)) 1 v'
  have hBl := h.box.lt
  have hr1 : ∀ g, v'.ownBlock = some g → ¬ K g ∧ g ≠ B := by
    intro g hg
    rcases hw with e | e
    · exact h.r1 g (e ▸ hg)
    · rw [e] at hg
      cases hg
      exact ⟨fun hk => by have := h.top _ hk; have := h.kept.size; omega, by omega⟩
  have hk' : Sole W' base 3 1 v' (Ks ++ l).length (i64s (Ks ++ l)) := by rw [List.length_append, hm, i64s_append]; exact hown
  refine ⟨(h.kept.then_ hgr h.top (fun g e => (h.r1 g e).1)).then_ hs h.top (fun g e => by cases e; exact h.nB), h.top, h.nB, (h.box.grown hgr (fun e => (h.r1 B e.symm).2 rfl)).set_ 1 _, ?_, hr1, h.r2⟩
  refine ⟨hk'.keep hs (fun j hj e => by cases e; exact (hr1 _ hj).2 rfl), (h.own.v.keep hgr (fun j hj e => h.own.apart j e hj)).keep hs (fun j hj e => by cases e; exact (h.r2 _ hj).2 rfl), ?_, ?_, h.own.vin⟩
  · intro g hg h2
    rcases hw with e | e
    · exact h.own.apart g (e ▸ hg) h2
    · rw [e] at hg
      cases hg
      have := (h.own.v.base_ _ h2).2
      omega
  · intro x hx
    rcases List.mem_append.1 hx with hx | hx
    · exact h.own.kin x hx
    · exact hl x hx
theorem Gat.val (h : Gat W0 W K base B lf v1 v2 Ks Vs) {m : Nat} (hgr : W.grownBy W' v2.ownBlock) (hown : W'.ownsRow base 3 1 v' (Vs.length + m) (i64s Vs ++ i64s l))
    (hw : v'.ownBlock = v2.ownBlock ∨ v'.ownBlock = some W.heap.size) (hm : l.length = m) (hl : ∀ x ∈ l, -9223372036854775808 ≤ x ∧ x ≤ 9223372036854775807) :
    Gat W0 (W'.setCell ⟨B, 2, none⟩ v') K base B lf v1 v' Ks (Vs ++ l) := by
  have hs := only_set (World.grownBy.refl W' (some B)) 2 v'
  have hBl := h.box.lt
  have hr2 : ∀ g, v'.ownBlock = some g → ¬ K g ∧ g ≠ B := by
    intro g hg
    rcases hw with e | e
    · exact h.r2 g (e ▸ hg)
    · rw [e] at hg
      cases hg
      exact ⟨fun hk => by have := h.top _ hk; have := h.kept.size; omega, by omega⟩
  have hk' : Sole W' base 3 1 v' (Vs ++ l).length (i64s (Vs ++ l)) := by rw [List.length_append, hm, i64s_append]; exact hown
  refine ⟨(h.kept.then_ hgr h.top (fun g e => (h.r2 g e).1)).then_ hs h.top (fun g e => by cases e; exact h.nB), h.top, h.nB, (h.box.grown hgr (fun e => (h.r2 B e.symm).2 rfl)).set_ 2 _, ?_, h.r1, hr2⟩
  refine ⟨(h.own.k.keep hgr (fun j hj e => h.own.apart j hj e)).keep hs (fun j hj e => by cases e; exact (h.r1 _ hj).2 rfl), hk'.keep hs (fun j hj e => by cases e; exact (hr2 _ hj).2 rfl), ?_, h.own.kin, ?_⟩
  · intro g hg h2
    rcases hw with e | e
    · exact h.own.apart g hg (e ▸ h2)
    · rw [e] at h2
      cases h2
      have := (h.own.k.base_ _ hg).2
      omega
  · intro x hx
    rcases List.mem_append.1 hx with hx | hx
    · exact h.own.vin x hx
    · exact hl x hx
/-- Both rows are slices. -/
theorem Gat.shape (h : Gat W0 W K base B lf v1 v2 Ks Vs) : ∃ A A' c c', v1 = .slice A Ks.length c ∧ v2 = .slice A' Vs.length c' ∧ NdAt W A A' Ks.length Vs.length c c' Ks Vs := h.own.at_
theorem Gat.cells (h : Gat W0 W K base B lf v1 v2 Ks Vs) : (W.cell? ⟨B, 0, none⟩ = some (.bool lf) ∧ W.cell? ⟨B, 1, none⟩ = some v1 ∧ W.cell? ⟨B, 2, none⟩ = some v2) ∧ W.frozen? ⟨B, 0, none⟩ = false ∧ W.frozen? ⟨B, 1, none⟩ = false ∧ W.frozen? ⟨B, 2, none⟩ = false :=
  ⟨⟨h.box.cell 0, h.box.cell 1, h.box.cell 2⟩, h.box.frozen 0, h.box.frozen 1, h.box.frozen 2⟩
end
end Go.Proofs.Ytlbadapcaooieaa.Node
