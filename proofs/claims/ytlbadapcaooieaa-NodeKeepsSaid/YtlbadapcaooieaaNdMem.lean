/- Nodes of a tree in memory: what came in, what is answered. No program's function is named. -/
import Derived.Test.YtlbadapcaooieaaNdSpec
import Derived.Test.YtlbadapcaooieaaI64
import Derived.Test.YtlbadapcaooieaaSole
import Derived.Test.YtlbadapcaooieaaStructs
import Derived.Deep.RegionHeld3
import Derived.Deep.RegionLaw
import Derived.Deep.DeepCutAuto
namespace Go.Proofs.Ytlbadapcaooieaa.Node
open Go.RowKit CrcMath Mem Crc Codec NdSpec
open Go.ChangeShapes Go.WideShapes
set_option linter.unusedVariables false
set_option linter.unusedSimpArgs false

/-- Two rows of numbers that came in with a node. -/
structure NdAt (w : World) (A A' : Option Addr) (n n' c c' : Nat) (ks vs : List Int) : Prop where
  k : ∃ b, Ints w b A n ks
  v : ∃ b, Ints w b A' n' vs
  nc : n ≤ c
  cm : c ≤ maxLen
  nc' : n' ≤ c'
  cm' : c' ≤ maxLen
section
variable {w w' : World} {A A' : Option Addr} {n n' c c' : Nat} {ks vs : List Int}
theorem NdAt.keep (h : NdAt w A A' n n' c c' ks vs) (hg : w.grownBy w' none) : NdAt w' A A' n n' c c' ks vs :=
  ⟨by obtain ⟨b, hb⟩ := h.k; exact ⟨b, ints_keep hb hg (.inl rfl)⟩, by obtain ⟨b, hb⟩ := h.v; exact ⟨b, ints_keep hb hg (.inl rfl)⟩, h.nc, h.cm, h.nc', h.cm'⟩
theorem NdAt.alloc (h : NdAt w A A' n n' c c' ks vs) (o : Obj) : NdAt (w.alloc o) A A' n n' c c' ks vs := h.keep (World.grownBy_alloc w o none)
theorem NdAt.klen (h : NdAt w A A' n n' c c' ks vs) : ks.length = n := by obtain ⟨b, hb⟩ := h.k; exact hb.1
theorem NdAt.vlen (h : NdAt w A A' n n' c c' ks vs) : vs.length = n' := by obtain ⟨b, hb⟩ := h.v; exact hb.1
theorem NdAt.kin (h : NdAt w A A' n n' c c' ks vs) : ∀ x ∈ ks, -9223372036854775808 ≤ x ∧ x ≤ 9223372036854775807 := by obtain ⟨b, hb⟩ := h.k; exact hb.2.1
theorem NdAt.vin (h : NdAt w A A' n n' c c' ks vs) : ∀ x ∈ vs, -9223372036854775808 ≤ x ∧ x ≤ 9223372036854775807 := by obtain ⟨b, hb⟩ := h.v; exact hb.2.1
theorem NdAt.kc (h : NdAt w A A' n n' c c' ks vs) (h0 : 0 < n) : ∃ g o, A = some ⟨g, o, none⟩ ∧ g < w.heap.size ∧ ∀ j, j < n → w.cell? ⟨g, o + j, none⟩ = some (.int .i64 (ks.getD j 0)) := by
  obtain ⟨b, hb⟩ := h.k
  obtain ⟨g, o, e, h1, _, h2⟩ := hb.2.2 h0
  exact ⟨g, o, e, h1, h2⟩
theorem NdAt.vc (h : NdAt w A A' n n' c c' ks vs) (h0 : 0 < n') : ∃ g o, A' = some ⟨g, o, none⟩ ∧ g < w.heap.size ∧ ∀ j, j < n' → w.cell? ⟨g, o + j, none⟩ = some (.int .i64 (vs.getD j 0)) := by
  obtain ⟨b, hb⟩ := h.v
  obtain ⟨g, o, e, h1, _, h2⟩ := hb.2.2 h0
  exact ⟨g, o, e, h1, h2⟩
theorem NdAt.small (h : NdAt w A A' n n' c c' ks vs) : n ≤ 9223372036854775807 ∧ n' ≤ 9223372036854775807 := by
  have := h.nc; have := h.cm; have := h.nc'; have := h.cm'
  simp only [maxLen] at *
  omega
end
/-- Cells that read as numbers, as a slice to append from. -/
theorem reads_of_ints {w : World} {b n : Nat} {A : Option Addr} {l : List Int} (h : Ints w b A n l) : Reads w w.heap.size 1 A n (i64s l) := by
  refine ⟨by rw [i64s_length, h.1, Nat.mul_one], fun h0 => ?_⟩
  obtain ⟨g, o, e, hlt, _, hc⟩ := h.2.2 h0
  refine ⟨_, e, hlt, fun j u hu => ?_⟩
  have hj : j < n := by
    have := (List.getElem?_eq_some_iff.1 hu).1
    rw [i64s_length, h.1] at this
    exact this
  rw [i64s_at l j (by rw [h.1]; exact hj)] at hu
  have e1 : (⟨g, o, none⟩ : Addr).add j = ⟨g, o + j, none⟩ := by unfold Addr.add; split <;> simp_all
  rw [e1, hc j hj, ← hu]
theorem i64s_one (l : List Int) : ∀ u ∈ i64s l, u.oneCell' = true := by
  intro u hu
  simp only [i64s, List.mem_map] at hu
  obtain ⟨x, _, rfl⟩ := hu
  rfl
/-- Two rows of the call's own: what stands in a node that is answered. -/
structure NdOwn (w : World) (base : Nat) (v1 v2 : Value) (ks vs : List Int) : Prop where
  k : Sole w base 3 1 v1 ks.length (i64s ks)
  v : Sole w base 3 1 v2 vs.length (i64s vs)
  apart : ∀ g, v1.ownBlock = some g → v2.ownBlock ≠ some g
  kin : ∀ x ∈ ks, -9223372036854775808 ≤ x ∧ x ≤ 9223372036854775807
  vin : ∀ x ∈ vs, -9223372036854775808 ≤ x ∧ x ≤ 9223372036854775807
section
variable {w w' : World} {base : Nat} {v1 v2 : Value} {ks vs : List Int}
theorem NdOwn.at_ (h : NdOwn w base v1 v2 ks vs) : ∃ A A' c c', v1 = .slice A ks.length c ∧ v2 = .slice A' vs.length c' ∧ NdAt w A A' ks.length vs.length c c' ks vs := by
  obtain ⟨A, c, e, hi, h1, h2⟩ := own_ints h.k.own h.kin
  obtain ⟨A', c', e', hi', h1', h2'⟩ := own_ints h.v.own h.vin
  exact ⟨A, A', c, c', e, e', ⟨_, hi⟩, ⟨_, hi'⟩, h1, h2, h1', h2'⟩
theorem NdOwn.keep (h : NdOwn w base v1 v2 ks vs) (hg : w.grownBy w' none) : NdOwn w' base v1 v2 ks vs :=
  ⟨h.k.keep hg (fun _ _ h => by cases h), h.v.keep hg (fun _ _ h => by cases h), h.apart, h.kin, h.vin⟩
theorem NdOwn.low (h : NdOwn w base v1 v2 ks vs) {b : Nat} (hb : b ≤ base) : NdOwn w b v1 v2 ks vs := ⟨h.k.low hb, h.v.low hb, h.apart, h.kin, h.vin⟩
theorem NdOwn.far (h : NdOwn w base v1 v2 ks vs) {g i : Nat} (hg : g < base) (u : Value) : NdOwn (w.setCell ⟨g, i, none⟩ u) base v1 v2 ks vs :=
  ⟨h.k.set_far hg u, h.v.set_far hg u, h.apart, h.kin, h.vin⟩
theorem NdOwn.far1 (h : NdOwn w base v1 v2 ks vs) {g i : Nat} (h1 : v1.ownBlock ≠ some g) (h2 : v2.ownBlock ≠ some g) (u : Value) : NdOwn (w.setCell ⟨g, i, none⟩ u) base v1 v2 ks vs :=
  ⟨h.k.keep (only_set (World.grownBy.refl w (some g)) i u) (fun j hj e => h1 (by rw [hj, e])), h.v.keep (only_set (World.grownBy.refl w (some g)) i u) (fun j hj e => h2 (by rw [hj, e])), h.apart, h.kin, h.vin⟩
theorem NdOwn.far3 (h : NdOwn w base v1 v2 ks vs) {g : Nat} (h1 : v1.ownBlock ≠ some g) (h2 : v2.ownBlock ≠ some g) (u0 u1 u2 : Value) :
    NdOwn (((w.setCell ⟨g, 0, none⟩ u0).setCell ⟨g, 1, none⟩ u1).setCell ⟨g, 2, none⟩ u2) base v1 v2 ks vs := ((h.far1 h1 h2 u0).far1 h1 h2 u1).far1 h1 h2 u2
theorem NdOwn.nil (w : World) (base : Nat) : NdOwn w base (.slice none 0 0) (.slice none 0 0) [] [] :=
  ⟨Sole.nil _ _ _ _, Sole.nil _ _ _ _, fun g h => by simp [Value.ownBlock] at h, by simp, by simp⟩
end
/-- What a call that answers a node and an error leaves. -/
def Told1 (w : World) (r : Int × Nd) (e : Ending) (w' : World) : Prop :=
  w.grownBy w' none ∧ ∃ v1 v2, e = .returned (.tuple #[.agg #[.bool r.2.1, v1, v2], .int .i64 r.1]) ∧ NdOwn w' w.heap.size v1 v2 r.2.2.1 r.2.2.2
/-- The rows of two nodes lie in blocks of their own. -/
def Apart2 (v1 v2 u1 u2 : Value) : Prop := ∀ g, (v1.ownBlock = some g ∨ v2.ownBlock = some g) → u1.ownBlock ≠ some g ∧ u2.ownBlock ≠ some g
theorem Apart2.nil (u1 u2 : Value) : Apart2 (.slice none 0 0) (.slice none 0 0) u1 u2 := fun g h => by simp [Value.ownBlock] at h
theorem Apart2.of {w1 w2 : World} {b1 b2 : Nat} {v1 v2 u1 u2 : Value} {k1 k2 k3 k4 : List Int} (h1 : NdOwn w1 b1 v1 v2 k1 k2) (h2 : NdOwn w2 b2 u1 u2 k3 k4) (h : w1.heap.size ≤ b2) : Apart2 v1 v2 u1 u2 := by
  intro g hg
  have hlt : g < w1.heap.size := by
    rcases hg with hg | hg
    · exact (h1.k.base_ g hg).2
    · exact (h1.v.base_ g hg).2
  exact ⟨fun e => by have := (h2.k.base_ g e).1; omega, fun e => by have := (h2.v.base_ g e).1; omega⟩
/-- What a call that answers two nodes and an error leaves. -/
def Told2 (w : World) (r : Int × Nd × Nd) (e : Ending) (w' : World) : Prop :=
  w.grownBy w' none ∧ ∃ v1 v2 u1 u2, e = .returned (.tuple #[.agg #[.bool r.2.1.1, v1, v2], .agg #[.bool r.2.2.1, u1, u2], .int .i64 r.1]) ∧ NdOwn w' w.heap.size v1 v2 r.2.1.2.1 r.2.1.2.2 ∧ NdOwn w' w.heap.size u1 u2 r.2.2.2.1 r.2.2.2.2 ∧ Apart2 v1 v2 u1 u2

theorem ret_cell1 {P : Program} {fn : Func} {R : Ending → World → Prop} {a : Act} {w : World} {p : Tmp} {ty : TypeId} (h : fn.results = #[.cell p ty])
    (g : Nat) (t : TypeId) (cs : Array Value) (d : TypeDesc) (hp : a.tmps.getD p undef = .pointer (some ⟨g, 0, none⟩)) (hg : Blk w g t cs)
    (hu : P.underlying ty = some d) (hd : (match d with | .struct _ | .array _ _ => true | _ => false) = true) (hi : (P.info? ty).map (·.size) = some cs.size) (hdf : a.defers = [])
    (hR : R (.returned (.agg cs)) w) : bodyPost P fn R .ret a w := by
  refine bodyPost_ret (v := .agg cs) ?_ hdf hR
  have e : (results fn a.tmps).run P w = ((asAddr (a.tmps.getD p undef)).run P w).andThen fun ad w1 => (loadVar ty ad).run P w1 := by
    simp only [results, h]
    simp [Sem.run_bind, Result.andThen]
  rw [e, hp]
  simp [asAddr, run_loadVar_row w g t ty cs (0, 0) d hg hu hd hi, Result.andThen]
theorem ret_cell22 {P : Program} {fn : Func} {R : Ending → World → Prop} {a : Act} {w : World} {p q u : Tmp} {ty ty' : TypeId} (h : fn.results = #[.cell p ty, .cell q ty', .tmp u])
    (g : Nat) (t : TypeId) (cs : Array Value) (d : TypeDesc) (hp : a.tmps.getD p undef = .pointer (some ⟨g, 0, none⟩)) (hg : Blk w g t cs)
    (hu : P.underlying ty = some d) (hd : (match d with | .struct _ | .array _ _ => true | _ => false) = true) (hi : (P.info? ty).map (·.size) = some cs.size)
    (g' : Nat) (t' : TypeId) (cs' : Array Value) (d' : TypeDesc) (hp' : a.tmps.getD q undef = .pointer (some ⟨g', 0, none⟩)) (hg' : Blk w g' t' cs')
    (hu' : P.underlying ty' = some d') (hd' : (match d' with | .struct _ | .array _ _ => true | _ => false) = true) (hi' : (P.info? ty').map (·.size) = some cs'.size) (hdf : a.defers = [])
    (hR : R (.returned (.tuple #[.agg cs, .agg cs', a.tmps.getD u undef])) w) : bodyPost P fn R .ret a w := by
  have hp1 : a.tmps[p]?.getD undef = .pointer (some ⟨g, 0, none⟩) := by simpa using hp
  have hp2 : a.tmps[q]?.getD undef = .pointer (some ⟨g', 0, none⟩) := by simpa using hp'
  refine bodyPost_ret (v := .tuple #[.agg cs, .agg cs', a.tmps.getD u undef]) ?_ hdf hR
  simp [results, h, hp1, hp2, asAddr, run_loadVar_row w g t ty cs (0, 0) d hg hu hd hi, run_loadVar_row w g' t' ty' cs' (0, 0) d' hg' hu' hd' hi', Result.andThen]
theorem grown_set1 {w w' : World} (h : w.grownBy w' none) {b i : Nat} (hp : w.heap.size ≤ b) (v : Value) : w.grownBy (w'.setCell ⟨b, i, none⟩ v) none :=
  grown_none_of_size (row := some b) (Lib.grownBy_setB (⟨h.os, h.tape, h.output, h.size, fun i hi _ => h.block i hi (by simp)⟩ : w.grownBy w' (some b)) i v) (fun j hj => by cases hj; exact hp)

theorem open_bool_at {H : Type} {enc : TypeId × Value → H} {w : World} {fuel : Nat} {cs : List Value} {x : DataW H × List MemPlace} (h : DataW.trod enc Try.prog w 0 (fun _ => true) true fuel 4 cs = some x) : ∃ n, cs = [.bool n] := by
  obtain ⟨n, h1, _⟩ := DataW.trod_bool Try.underlying4 h
  exact ⟨n, h1⟩
set_option maxRecDepth 100000 in
/-- A node that came in. -/
theorem open_nd {H : Type} {enc : TypeId × Value → H} {W : World} {base : Nat} {v : Value} {d : DataW H} {p : List MemPlace} (o : Value.okWide Try.prog W .any base 24 v) (h : DataW.Trod enc Try.prog W 0 (fun _ => true) true 24 v d p) :
    ∃ (lf : Bool) (A A' : Option Addr) (n n' c c' : Nat) (ks vs : List Int), v = .agg #[.bool lf, .slice A n c, .slice A' n' c'] ∧ NdAt W A A' n n' c c' ks vs := by
  obtain ⟨cs, n, rfl, hl, hf⟩ := open_agg Try.underlying24 o h
  rw [show Try.prog.cellsOf 24 = 3 from by kernel_rfl] at hl
  match cs, hl with
  | [c0, c1, c2], _ =>
    have k1 : Try.prog.cellsOf 4 = 1 := by kernel_rfl
    have k2 : Try.prog.cellsOf 22 = 1 := by kernel_rfl
    obtain ⟨_, h0⟩ := hf 0 0 4 rfl
    obtain ⟨_, h1⟩ := hf 1 1 22 rfl
    obtain ⟨_, h2⟩ := hf 2 2 22 rfl
    rw [k1] at h0
    rw [k2] at h1 h2
    obtain ⟨leaf, e0⟩ := open_bool_at h0
    obtain ⟨A, n1, c1', ks, e1, hk, hn1, hm1⟩ := open_ints_in h1
    obtain ⟨A', n2, c2', vs, e2, hv, hn2, hm2⟩ := open_ints_in h2
    simp at e0 e1 e2
    subst e0 e1 e2
    exact ⟨leaf, A, A', n1, n2, c1', c2', ks, vs, rfl, ⟨_, hk⟩, ⟨_, hv⟩, hn1, hm1, hn2, hm2⟩
end Go.Proofs.Ytlbadapcaooieaa.Node
