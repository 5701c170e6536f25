/- Texts of this seat's proofs: LogIn, LogScript, LogBackWalk. -/
import Derived.Test.YtmekhlkhafdmbaaMLogImgs
import Derived.Test.YtmekhlkhafdmbaaMOpenOps
import Derived.Deep.DeepCutAuto
/- Arguments of the log's laws, opened. -/
namespace Go.Proofs.Ytmekhlkhafdmbaa.Log
open Go.ChangeShapes Go.WideShapes Go.RowKit CrcMath CodecMath Mem Crc Codec DiskSpec Dsk Sup

set_option maxRecDepth 100000 in
theorem open_counts {H : Type} {enc : TypeId × Value → H} {W : World} {base : Nat} {v : Value} {d : DataW H} {p : List MemPlace} (o : Value.okWide Try.prog W .any base 22 v) (h : DataW.Trod enc Try.prog W 0 (fun _ => true) true 22 v d p) :
    ∃ A n c l, v = .slice A n c ∧ PIn W A n l ∧ (n = 0 ∨ ∃ el sp, d = .slice el sp ∧ el.length = n) := by
  obtain ⟨A, n, c, rfl⟩ := okWide_slice Try.underlying22 o
  obtain ⟨fuel, hf⟩ := h
  rcases open_ints Try.underlying22 Try.underlying3 (by kernel_rfl) hf with ⟨hcs, _⟩ | ⟨x, l, c', zs, hcs, _, hl, hm, hz, hx, hcell, hwz⟩
  · simp [Value.cells] at hcs
    obtain ⟨rfl, rfl, rfl⟩ := hcs
    exact ⟨_, _, _, [], rfl, ⟨rfl, by simp, by omega⟩, .inl rfl⟩
  · simp [Value.cells] at hcs
    obtain ⟨rfl, rfl, rfl⟩ := hcs
    simp only [Prod.mk.injEq] at hx
    obtain ⟨rfl, _⟩ := hx
    have hz' : zs.length = c := by simpa using hz
    refine ⟨_, _, _, zs.take n, rfl, ⟨by simp; omega, fun y hy => bounds_i64 (hwz y (List.mem_of_mem_take hy)), fun hn => ?_⟩, .inr ⟨_, _, rfl, by simp [lits]; omega⟩⟩
    obtain ⟨g, o2, sp⟩ := x
    have h0 := hcell 0 (by omega)
    have hsp : sp = none := by simpa [Addr.add] using World.cell?_spot h0
    subst hsp
    have hlt : g < W.heap.size := by have := World.block_lt_of_cell? W _ h0; simpa [Addr.add] using this
    refine ⟨g, o2, rfl, hlt, fun j hj => ?_⟩
    have h1 := hcell j (by omega)
    rw [Addr.add_mid] at h1
    rw [h1]
    congr 2
    simp [List.getD_eq_getElem?_getD, hj]
theorem PIn.at_ {W w : World} {A : Option Addr} {n : Nat} {l : List Int} (h : PIn W A n l) (hb : Below W.heap.size W w) {j : Nat} (hj : j < n) : ∃ g o, A = some ⟨g, o, none⟩ ∧ w.cell? ⟨g, o + j, none⟩ = some (.int .i64 (l.getD j 0)) ∧ -9223372036854775808 ≤ l.getD j 0 ∧ l.getD j 0 ≤ 9223372036854775807 := by
  obtain ⟨g, o, rfl, hlt, hc⟩ := h.2.2 (by omega)
  have hm : l.getD j 0 ∈ l := by rw [List.getD_eq_getElem?_getD, List.getElem?_eq_getElem (by rw [h.1]; omega)]; exact List.getElem_mem _
  exact ⟨g, o, rfl, by rw [World.cell?_of_block (a := ⟨g, o + j, none⟩) (hb.block g hlt)]; exact hc j hj, h.2.1 _ hm⟩

/-! ### Where the laws stand -/
/-- A law's log: since W nothing that was there has turned. -/
structure LK (W w : World) (B b tb g : Nat) (S : St) (own : Nat → Prop) (L : Lg) : Prop where
  l : LAt w B b tb g S own L
  r : Ready w tb
  b : W.grownBy w none
  lo : W.heap.size ≤ tb ∧ W.heap.size ≤ B ∧ W.heap.size ≤ g
section
variable {W w w' : World} {B b tb g : Nat} {S T : St} {own own' : Nat → Prop} {L M : Lg}
theorem LK.quiet (h : LK W w B b tb g S own L) (hg : w.grownBy w' none) : LK W w' B b tb g S own L := ⟨h.l.quiet hg, h.r.keep hg (by simp), h.b.trans hg, h.lo⟩
theorem LK.low (h : LK W w B b tb g S own L) : ∀ i, With2 own tb g i → W.heap.size ≤ i := fun i hi => by
  rcases hi with (hi | hi) | hi
  · exact Nat.le_trans h.lo.2.1 (h.l.s.low hi)
  · rw [hi]; exact h.lo.1
  · rw [hi]; exact h.lo.2.2
theorem LK.turn (h : LK W w B b tb g S own L) (hl : LAt w' B b tb g T own' M) (ht : Turn w w' (With2 own tb g) (With2 own' tb g)) (hr : Ready w' tb) : LK W w' B b tb g T own' M :=
  ⟨hl, hr, ⟨ht.os.trans h.b.os, ht.tape.trans h.b.tape, ht.output.trans h.b.output, Nat.le_trans h.b.size ht.size, fun i hi _ => (ht.block i (Nat.lt_of_lt_of_le hi h.b.size) (fun hp => by have := h.low i hp; omega)).trans (h.b.block i hi (by simp))⟩, h.lo⟩
theorem LK.below (h : LK W w B b tb g S own L) : Below W.heap.size W w := below_of_grown h.b (Nat.le_refl _) (fun _ e => by cases e)
/-- The log's own cells are written. -/
theorem LK.log (h : LK W w B b tb g S own L) (hg : w.grownBy w' (some g)) (hl : LBlk w' g M b tb) (hk : M.ok S.n) : LK W w' B b tb g S own M :=
  h.turn (h.l.log hg hl hk) (turn_logblk hg) (h.r.keep hg (by have := h.l.ne; simp; omega))
end
end Go.Proofs.Ytmekhlkhafdmbaa.Log
/- Scripts of the log's laws that came in, opened. -/
namespace Go.Proofs.Ytmekhlkhafdmbaa.Log
open Go.ChangeShapes Go.WideShapes Go.RowKit CrcMath CodecMath Mem Crc Codec DiskSpec Dsk Sup

theorem bulk_one {H : Type} : ∀ d : DataW H, 1 ≤ Rows.uptoBulk d := by
  intro d
  cases d with
  | lit l => cases l <;> simp [Rows.uptoBulk]
  | _ => simp [Rows.uptoBulk]
theorem bulk_all {H : Type} : ∀ l : List (DataW H), l.length ≤ Rows.uptoBulkAll l
  | [] => by simp [Rows.uptoBulkAll]
  | x :: r => by have := bulk_one x; have := bulk_all r; simp only [Rows.uptoBulkAll, List.length_cons]; omega
theorem bulk_mem {H : Type} {d : DataW H} : ∀ {l : List (DataW H)}, d ∈ l → Rows.uptoBulk d ≤ Rows.uptoBulkAll l
  | [], h => by cases h
  | x :: r, h => by
    simp only [Rows.uptoBulkAll]
    rcases List.mem_cons.1 h with rfl | h
    · omega
    · have := bulk_mem h; omega
set_option maxRecDepth 100000 in
theorem bulk_bound {H : Type} {ds : List (DataW H)} {d : DataW H} (hk : Rows.uptoSmall H ds = true) (hd : d ∈ ds) : Rows.uptoBulk d ≤ 1048576 := by
  unfold Rows.uptoSmall at hk
  rw [decide_eq_true_eq] at hk
  exact Nat.le_trans (bulk_mem hd) hk
section
variable {H : Type} {enc : TypeId × Value → H} {w : World} {fuel : Nat} {cs : List Value} {x : DataW H × List MemPlace}
theorem open_struct_b {P : Program} {t : TypeId} {fs : Array Field} (hs : P.underlying t = some (.struct fs)) (h : DataW.trod enc P w 0 (fun _ => true) true fuel t cs = some x) :
    ∃ (n : Nat) (xs : List (DataW H × List MemPlace)), x.1 = .agg (xs.map (·.1)) ∧ cs.length = P.cellsOf t ∧ ∀ (i o : Nat) (ft : TypeId), (fs[i]?).map (fun f => (f.offset, f.type)) = some (o, ft) → ∃ y, xs[i]? = some y ∧ DataW.trod enc P w 0 (fun _ => true) true n ft ((cs.drop o).take (P.cellsOf ft)) = some y := by
  obtain ⟨xs, n, _, hx, hl, hlen, hg⟩ := DataW.trod_struct hs h
  refine ⟨n, xs, by rw [hx], hl, fun i o ft hi' => ?_⟩
  obtain ⟨f, hi, hf'⟩ := Option.map_eq_some_iff.1 hi'
  simp only [Prod.mk.injEq] at hf'
  obtain ⟨rfl, rfl⟩ := hf'
  have hlt : i < fs.size := (Array.getElem?_eq_some_iff.1 hi).1
  refine ⟨xs[i]'(by omega), List.getElem?_eq_getElem (by omega), ?_⟩
  have h1 := hg i f hi
  rw [List.getElem?_eq_getElem (by omega)] at h1
  exact h1
theorem ints_came_b (h : DataW.trod enc Try.prog w 0 (fun _ => true) true fuel 22 cs = some x) :
    ∃ A n c l, cs = [.slice A n c] ∧ PIn w A n l ∧ n ≤ c ∧ c ≤ maxLen ∧ n ≤ Rows.uptoBulk x.1 := by
  rcases open_ints Try.underlying22 Try.underlying3 (by kernel_rfl) h with ⟨hcs, rfl⟩ | ⟨a, l, c, zs, hcs, _, hl, hm, hz, hx, hcell, hwz⟩
  · exact ⟨_, _, _, [], hcs, ⟨rfl, by simp, by omega⟩, Nat.le_refl _, by simp [maxLen], Nat.zero_le _⟩
  · have hz' : zs.length = c := by simpa using hz
    refine ⟨_, _, _, zs.take l, hcs, ⟨by simp; omega, fun y hy => bounds_i64 (hwz y (List.mem_of_mem_take hy)), fun hn => ?_⟩, hl, hm, ?_⟩
    · obtain ⟨g, o, sp⟩ := a
      have h0 := hcell 0 (by omega)
      have hsp : sp = none := by simpa [Addr.add] using World.cell?_spot h0
      subst hsp
      have hlt : g < w.heap.size := by have := World.block_lt_of_cell? w _ h0; simpa [Addr.add] using this
      refine ⟨g, o, rfl, hlt, fun j hj => ?_⟩
      have h1 := hcell j (by omega)
      rw [Addr.add_mid] at h1
      rw [h1]
      congr 2
      simp [List.getD_eq_getElem?_getD, hj]
    · rw [hx]
      have h1 := bulk_all (lits (H := H) IntKind.i64 (zs.take l))
      have h2 : (lits (H := H) IntKind.i64 (zs.take l)).length = l := by simp [lits]; omega
      simp only [Rows.uptoBulk]
      omega
end
/-- A step. -/
structure OpL where
  kind : Int
  A : Option Addr
  n : Nat
  c : Nat
  pages : List Int
  page : Int
  fill : Int
  at_ : Int
  count : Int
  A2 : Option Addr
  n2 : Nat
  c2 : Nat
  picks : List Int
def OpL.cells (x : OpL) : List Value := [.int .i64 x.kind, .slice x.A x.n x.c, .int .i64 x.page, .int .i64 x.fill, .int .i64 x.at_, .int .i64 x.count, .slice x.A2 x.n2 x.c2]
structure OpL.ok (w : World) (x : OpL) : Prop where
  pages : PIn w x.A x.n x.pages
  picks : PIn w x.A2 x.n2 x.picks
  n2 : x.n2 ≤ maxLen
  at_ : -9223372036854775808 ≤ x.at_ ∧ x.at_ ≤ 9223372036854775807
  count : -9223372036854775808 ≤ x.count ∧ x.count ≤ 9223372036854775807
section
variable {H : Type} {enc : TypeId × Value → H} {w : World} {fuel : Nat} {cs : List Value} {x : DataW H × List MemPlace}
set_option maxRecDepth 100000 in
theorem op5_came (h : DataW.trod enc Try.prog w 0 (fun _ => true) true fuel 35 cs = some x) : ∃ y : OpL, cs = y.cells ∧ y.ok w ∧ y.n ≤ Rows.uptoBulk x.1 := by
  obtain ⟨n, xs, hx, hl, hf⟩ := open_struct_b Try.underlying35 h
  rw [show Try.prog.cellsOf 35 = 7 from by kernel_rfl] at hl
  match cs, hl with
  | [c0, c1, c2, c3, c4, c5, c6], _ =>
    have k1 : Try.prog.cellsOf 3 = 1 := by kernel_rfl
    have k3 : Try.prog.cellsOf 22 = 1 := by kernel_rfl
    obtain ⟨_, _, h0⟩ := hf 0 0 3 rfl
    obtain ⟨y1, g1, h1⟩ := hf 1 1 22 rfl
    obtain ⟨_, _, h2⟩ := hf 2 2 3 rfl
    obtain ⟨_, _, h3⟩ := hf 3 3 3 rfl
    obtain ⟨_, _, h4⟩ := hf 4 4 3 rfl
    obtain ⟨_, _, h5⟩ := hf 5 5 3 rfl
    obtain ⟨_, _, h6⟩ := hf 6 6 22 rfl
    rw [k1] at h0 h2 h3 h4 h5
    rw [k3] at h1 h6
    obtain ⟨a0, e0, b0⟩ := int_came h0
    obtain ⟨A, m, c, l, e1, hp, _, _, hb⟩ := ints_came_b h1
    obtain ⟨a2, e2, b2⟩ := int_came h2
    obtain ⟨a3, e3, b3⟩ := int_came h3
    obtain ⟨a4, e4, b4⟩ := int_came h4
    obtain ⟨a5, e5, b5⟩ := int_came h5
    obtain ⟨A2, m2, c2', l2, e6, hp2, hm2, hc2, _⟩ := ints_came_b h6
    simp at e0 e1 e2 e3 e4 e5 e6
    subst e0 e1 e2 e3 e4 e5 e6
    refine ⟨⟨a0, A, m, c, l, a2, a3, a4, a5, A2, m2, c2', l2⟩, rfl, ⟨hp, hp2, Nat.le_trans hm2 hc2, b4, b5⟩, ?_⟩
    rw [hx]
    have hmem : y1.1 ∈ xs.map (·.1) := List.mem_map.2 ⟨y1, List.mem_of_getElem? g1, rfl⟩
    have := bulk_mem hmem
    simp only [Rows.uptoBulk]
    exact Nat.le_trans hb (by omega)
end
/-- A script that came in. -/
def Script5 (w : World) (A : Option Addr) (n : Nat) (ops : List OpL) : Prop :=
  ops.length = n ∧ (∀ x ∈ ops, x.ok w ∧ x.n ≤ 1048576) ∧ (0 < n → ∃ g o, A = some ⟨g, o, none⟩ ∧ g < w.heap.size ∧ ∀ j x, ops[j]? = some x → ∀ q u, x.cells[q]? = some u → w.cell? ⟨g, o + j * 7 + q, none⟩ = some u)
section
variable {H : Type} {enc : TypeId × Value → H} {W : World} {base : Nat} {v : Value} {d : DataW H} {p : List MemPlace}
set_option maxRecDepth 100000 in
theorem open_script5 (o : Value.okWide Try.prog W .any base 43 v) (h : DataW.Trod enc Try.prog W 0 (fun _ => true) true 43 v d p) {ds : List (DataW H)} (hk : Rows.uptoSmall H ds = true) (hd : d ∈ ds) :
    ∃ A n c ops, v = .slice A n c ∧ Script5 W A n ops ∧ n ≤ 1048576 := by
  have hbd := bulk_bound hk hd
  obtain ⟨A, n, c, rfl⟩ := okWide_slice Try.underlying43 o
  obtain ⟨fuel, hf⟩ := h
  rcases DataW.trod_slice Try.underlying43 hf with ⟨hcs, _⟩ | ⟨a, len, cap, elems, rest, m, _, hcs, hx, _, hl, hm, hlen, hel, _, _⟩
  · simp [Value.cells] at hcs
    obtain ⟨rfl, rfl, rfl⟩ := hcs
    exact ⟨_, _, _, [], rfl, ⟨rfl, by simp, by omega⟩, by omega⟩
  · simp [Value.cells] at hcs
    obtain ⟨rfl, rfl, rfl⟩ := hcs
    rw [show Try.prog.cellsOf 35 = 7 from by kernel_rfl] at hel
    have hd2 : d = DataW.slice (elems.map (·.1)) (rest.map (·.1)) := congrArg Prod.fst hx
    have hall : Rows.uptoBulkAll (elems.map (·.1)) ≤ 1048576 := by
      rw [hd2] at hbd
      simp only [Rows.uptoBulk] at hbd
      omega
    have hne : n ≤ 1048576 := by
      have := bulk_all (elems.map (·.1))
      rw [List.length_map, hlen] at this
      omega
    have each : ∀ j, j < n → ∃ y : OpL, (y.ok W ∧ y.n ≤ 1048576) ∧ ∀ q u, y.cells[q]? = some u → W.cell? (a.add (j * 7 + q)) = some u := by
      intro j hj
      have h1 := hel j hj
      have hje : elems[j]? = some (elems[j]'(by omega)) := List.getElem?_eq_getElem (by omega)
      rw [hje, Option.bind_eq_some_iff] at h1
      obtain ⟨ds, hds, hy⟩ := h1
      obtain ⟨y, rfl, hok, hyb⟩ := op5_came hy
      have hmem : (elems[j]'(by omega)).1 ∈ elems.map (·.1) := List.mem_map.2 ⟨_, List.getElem_mem _, rfl⟩
      refine ⟨y, ⟨hok, Nat.le_trans hyb (Nat.le_trans (bulk_mem hmem) hall)⟩, fun q u hq => ?_⟩
      have hq7 : q < 7 := (List.getElem?_eq_some_iff.1 hq).1
      have h2 := (World.cells?_some hds).2.2 q hq7
      rw [hq] at h2
      have e : (a.add (j * 7)).add q = a.add (j * 7 + q) := by
        unfold Addr.add
        split <;> split <;> (try split) <;> simp_all <;> omega
      rw [← e]; exact h2
    obtain ⟨ops, ho1, ho2⟩ := choose_list (p := fun j (y : OpL) => (y.ok W ∧ y.n ≤ 1048576) ∧ ∀ q u, y.cells[q]? = some u → W.cell? (a.add (j * 7 + q)) = some u) n each
    refine ⟨_, _, _, ops, rfl, ⟨ho1, fun x hx => ?_, fun hn => ?_⟩, hne⟩
    · obtain ⟨j, hj, e⟩ := List.getElem_of_mem hx
      exact (ho2 j x (by rw [← e, List.getElem?_eq_getElem hj])).1
    · obtain ⟨g, off, sp⟩ := a
      have h0 := (ho2 0 (ops[0]'(by omega)) (List.getElem?_eq_getElem (by omega))).2 0 _ rfl
      have hsp : sp = none := by simpa [Addr.add] using World.cell?_spot h0
      subst hsp
      have hlt : g < W.heap.size := by have := World.block_lt_of_cell? W _ h0; simpa [Addr.add] using this
      refine ⟨g, off, rfl, hlt, fun j x hj q u hq => ?_⟩
      have h1 := (ho2 j x hj).2 q u hq
      rw [Addr.add_mid, ← Nat.add_assoc] at h1
      exact h1
end
/-- A step of a script, as the law finds it. -/
theorem Script5.at_ {W w : World} {A : Option Addr} {n : Nat} {ops : List OpL} (h : Script5 W A n ops) (hb : Below W.heap.size W w) {j : Nat} (hj : j < n) : ∃ g o x, A = some ⟨g, o, none⟩ ∧ ops[j]? = some x ∧ x.ok W ∧ x.n ≤ 1048576 ∧
    w.cell? ⟨g, o + j * 7, none⟩ = some (.int .i64 x.kind) ∧ w.cell? ⟨g, o + j * 7 + 1, none⟩ = some (.slice x.A x.n x.c) ∧ w.cell? ⟨g, o + j * 7 + 2, none⟩ = some (.int .i64 x.page) ∧ w.cell? ⟨g, o + j * 7 + 3, none⟩ = some (.int .i64 x.fill) ∧
    w.cell? ⟨g, o + j * 7 + 4, none⟩ = some (.int .i64 x.at_) ∧ w.cell? ⟨g, o + j * 7 + 5, none⟩ = some (.int .i64 x.count) ∧ w.cell? ⟨g, o + j * 7 + 6, none⟩ = some (.slice x.A2 x.n2 x.c2) := by
  obtain ⟨g, o, rfl, hlt, hc⟩ := h.2.2 (by omega)
  have hx : ops[j]? = some (ops[j]'(by rw [h.1]; exact hj)) := List.getElem?_eq_getElem (by rw [h.1]; exact hj)
  have hm := h.2.1 _ (List.mem_of_getElem? hx)
  have hcc : ∀ q u, (ops[j]'(by rw [h.1]; exact hj)).cells[q]? = some u → w.cell? ⟨g, o + j * 7 + q, none⟩ = some u := fun q u hu => by
    rw [World.cell?_of_block (a := ⟨g, o + j * 7 + q, none⟩) (hb.block g hlt)]
    exact hc j _ hx q u hu
  exact ⟨g, o, _, rfl, hx, hm.1, hm.2, hcc 0 _ rfl, hcc 1 _ rfl, hcc 2 _ rfl, hcc 3 _ rfl, hcc 4 _ rfl, hcc 5 _ rfl, hcc 6 _ rfl⟩
theorem PIn.ints {W w : World} {A : Option Addr} {n : Nat} {l : List Int} (h : PIn W A n l) (hb : Below W.heap.size W w) : Ints w w.heap.size A n l := by
  refine ⟨h.1, h.2.1, fun hn => ?_⟩
  obtain ⟨g, o, rfl, hlt, hc⟩ := h.2.2 hn
  exact ⟨g, o, rfl, Nat.lt_of_lt_of_le hlt hb.size, by have := hb.size; omega, fun j hj => by rw [World.cell?_of_block (a := ⟨g, o + j, none⟩) (hb.block g hlt)]; exact hc j hj⟩
end Go.Proofs.Ytmekhlkhafdmbaa.Log
/- The walk over the law LogBack. -/
namespace Go.Proofs.Ytmekhlkhafdmbaa.LogBackUpto
open Go.ChangeShapes Go.WideShapes Go.ChangeAt Go.RowKit
open Crc CrcMath Mem CodecMath Codec DiskSpec Dsk Sup Log

/-- A step's record is appended, or nothing has turned. -/
theorem append_case {S : St} {L0 : Lg} {ls : List (List Img)} (h : Fresh5 S L0 ls) (ht : L0.tail < L0.ln) (h0 : L0.taken = 0) (hk : (passes L0 ls).ok S.n) (l : List Img) :
    (∃ T, appendE S (passes L0 ls) l = (0, T, passes L0 (ls ++ [l])) ∧ Fresh5 T L0 (ls ++ [l]) ∧ T.n = S.n ∧ ∀ p, (T.ver p).length ≤ (S.ver p).length + 1) ∨ (∃ e, e ≠ 0 ∧ appendE S (passes L0 ls) l = (e, S, passes L0 ls)) := by
  by_cases h40 : l.length ≤ 40
  · by_cases hb : l.length = 0 ∨ mayW [] l = false
    · exact .inr ⟨1, by omega, append_arg h40 hb⟩
    · have hl1 : 1 ≤ l.length := by omega
      have hm : mayW [] l = true := by
        cases hh : mayW [] l with
        | true => rfl
        | false => exact absurd (.inr hh) hb
      by_cases hr : (passes L0 ls).room < 1 + l.length ∨ 4294967295 < (passes L0 ls).ep ∨ 1099511627775 < (passes L0 ls).seq
      · exact .inr ⟨15, by omega, append_full h40 hl1 hm hr⟩
      · exact .inl (h.next ht h0 hk h40 hl1 hm hr)
  · exact .inr ⟨16, by omega, append_big (by omega)⟩
theorem small_recs {S : St} : ∀ {L : Lg} {ls : List (List Img)} (q : Int), LiesAll S L ls → Small (recsOf q ls)
  | _, [], _, _ => fun x hx => by cases hx
  | L, l :: r, q, h => by
    obtain ⟨h1, _, _, h4⟩ := h
    intro x hx
    rcases List.mem_cons.1 hx with rfl | hx
    · exact ⟨by have := h1.most; show l.length ≤ _; omega, fun y hy => by rw [(imgOk_iff (h1.ok y hy)).2.2.1]; omega⟩
    · exact small_recs (q + 1) h4 x hx
theorem recs_of_row {w : World} {base n : Nat} {P : Nat → Prop} {A : Option Addr} {m c : Nat} {R : List (Rec × Value)} (h : Own w base 46 2 (.slice A m c) n (rcC R)) (hR : R.length = n) (hb : ∀ q, (Value.slice A m c).ownBlock = some q → ¬ P q) (hl : ∀ p ∈ R, ImgsV w P p.2 p.1.2) :
    Recs w P A n (R.map (·.1)) := by
  refine ⟨R, rfl, by simpa using hR, fun hn => ?_, hl⟩
  obtain ⟨g, cap, e, hg, hlt, _, _, hc⟩ := h.reads hn
  have hA : A = some ⟨g, 0, none⟩ := by injection e
  exact ⟨g, 0, hA, hlt, hb g (by rw [e]; rfl), fun j u hu => by rw [Nat.zero_add]; exact hc j u hu⟩
theorem turn_or {w w' : World} {P P' : Nat → Prop} (h : Turn w w' P P') (Q : Nat → Prop) : Turn w w' (fun i => P i ∨ Q i) (fun i => P' i ∨ Q i) :=
  ⟨h.os, h.tape, h.output, h.size, fun i hi hn => h.block i hi (fun e => hn (.inl e)), fun i hi => by
    rcases hi with hi | hi
    · rcases h.fresh i hi with h1 | h1
      · exact .inl (.inl h1)
      · exact .inr h1
    · exact .inl (.inr hi)⟩
theorem turn_more {w w' : World} {own P : Nat → Prop} (h : Turn w w' own own) (hP : ∀ i, own i → P i) : Turn w w' P P :=
  ⟨h.os, h.tape, h.output, h.size, fun i hi hn => h.block i hi (fun e => hn (hP i e)), fun _ hi => .inl hi⟩
/-- What the law keeps beside the log: its superblock, all that was appended. -/
structure Kept5 (wr : World) (P : Nat → Prop) (sb base : Nat) (cs : Array Value) (va : Value) (ls : List (List Img)) : Prop where
  b : Blk wr sb 33 cs
  o : ¬ P sb
  lo : sb < base ∧ base ≤ wr.heap.size
  re : ∃ R : List (Rec × Value), Own wr base 46 2 va ls.length (rcC R) ∧ R.map (·.1) = recsOf 9 ls ∧ ∀ p ∈ R, ImgsV wr (fun i => P i ∨ va.ownBlock = some i) p.2 p.1.2
  ro : ∀ q, va.ownBlock = some q → ¬ P q
section
variable {wr w' : World} {P P' : Nat → Prop} {sb base : Nat} {cs : Array Value} {va : Value} {ls : List (List Img)}
theorem Kept5.turn (h : Kept5 wr P sb base cs va ls) (ht : Turn wr w' P P') : Kept5 w' P' sb base cs va ls := by
  obtain ⟨R, h1, h2, h3⟩ := h.re
  have hno : ∀ q, q < wr.heap.size → ¬ P q → ¬ P' q := fun q hq hn hp => by
    rcases ht.fresh q hp with h4 | h4
    · exact hn h4
    · omega
  exact ⟨blk_of_block h.b (ht.block _ h.b.lt h.o), hno _ h.b.lt h.o, ⟨h.lo.1, Nat.le_trans h.lo.2 ht.size⟩, ⟨R, own_of_block h1 (fun q hq => ht.block q (h1.base_ q hq).2 (h.ro q hq)), h2, fun p hp => (h3 p hp).turn (turn_or ht _)⟩, fun q hq => hno q (h1.base_ q hq).2 (h.ro q hq)⟩
theorem Kept5.quiet (h : Kept5 wr P sb base cs va ls) (hg : wr.grownBy w' none) : Kept5 w' P sb base cs va ls := h.turn (Turn.none_ hg)
theorem Kept5.next {w3 w5 : World} (h : Kept5 wr P sb base cs va ls) {R : List (Rec × Value)} (h1 : Own wr base 46 2 va ls.length (rcC R)) (h2 : R.map (·.1) = recsOf 9 ls) (h4 : ∀ p ∈ R, ImgsV wr (fun i => P i ∨ va.ownBlock = some i) p.2 p.1.2) (hP : ∀ i, P i → i < wr.heap.size) {l : List Img} {A : Option Addr} {m c : Nat} (hmc : m ≤ c) (him : Imgs wr (fun i => P i ∨ va.ownBlock = some i) A m l) (h3 : wr.grownBy w3 none) {v' : Value}
    (hown : Own w5 base 46 2 v' (ls.length + 1) (rcC R ++ [.int .i64 (9 + (ls.length : Int)), .slice A m c])) (hgr : Grew w3 w5 va v') : Kept5 w5 P sb base cs v' (ls ++ [l]) := by
  have hlo := h.lo
  have hvb : ∀ q, va.ownBlock = some q → base ≤ q := fun q hq => (h1.base_ q hq).1
  have hT : Turn wr w5 (fun i => P i ∨ va.ownBlock = some i) (fun i => P i ∨ v'.ownBlock = some i) := (Turn.none_ h3).trans (turn_grew2 hgr)
  have hsz := h3.size; have hsz2 := hgr.1.size
  refine ⟨(h.b.grown h3 (by simp)).grown hgr.1 (fun e => by have := hvb _ e.symm; omega), h.o, ⟨hlo.1, by omega⟩, ⟨R ++ [(((9 + (ls.length : Nat) : Int), l), .slice A m c)], ?_, ?_, fun p hp => ?_⟩, fun q hq hp => ?_⟩
  · rw [rcC_snoc, List.length_append]
    exact hown
  · rw [List.map_append, h2, recsOf_snoc]
    rfl
  · rcases List.mem_append.1 hp with hp | hp
    · exact (h4 p hp).turn hT
    · simp at hp
      subst hp
      exact ImgsV.turn ⟨A, m, c, rfl, hmc, him⟩ hT
  · rcases hgr.2 q hq with h5 | h5
    · exact h.ro q h5 hp
    · have := hP q hp; omega
end
set_option maxRecDepth 100000 in
set_option maxHeartbeats 6400000 in
theorem walk {H : Type} {enc : TypeId × Value → H} (W : World) (base : Nat) (v0 v1 : Value) (d0 d1 : DataW H) (p0 p1 : List MemPlace)
    (o0 : Value.okWide Try.prog W .any base 3 v0)
    (o1 : Value.okWide Try.prog W .any base 43 v1)
    (h0 : DataW.Trod enc Try.prog W 0 (fun _ => true) true 3 v0 d0 p0)
    (h1 : DataW.Trod enc Try.prog W 0 (fun _ => true) true 43 v1 d1 p1)
    (_hsz : (DataW.weightsEach Try.prog [3, 43] [d0, d1]).all (· ≤ reachBytes) = true) (hk : Rows.uptoSmall H [d0, d1] = true) :
    Calls Try.prog 4 #[v0, v1] W fun e W' => e = .returned (.bool true) ∧ Below W.heap.size W W' := by
  obtain ⟨hd, rfl, _, _, _⟩ := open_int Try.underlying3 o0 h0
  obtain ⟨A, n, c, ops, rfl, hsc, hn⟩ := open_script5 o1 h1 hk (List.mem_cons_of_mem _ (List.mem_cons_self ..))
  have HSC := Lib.hid hsc
  obtain ⟨i0, hi0, hz0, hz1, hz2⟩ := info_parts record_info
  have hi := Lib.hid hi0; have z0 := Lib.hid hz0; have z1 := Lib.hid hz1; have z2 := Lib.hid hz2
  clear o0 h0 o1 h1 hk hsc hi0 hz0 hz1 hz2
  have hT : Tab (W.alloc (.cells zeroCs 65)) W.heap.size := .inl ⟨_, Blk.new W 65 zeroCs, fresh_zero⟩
  have HT := Lib.hid hT; have HG0 := Lib.hid (World.grownBy_alloc W (.cells zeroCs 65) none)
  clear hT
  go_enter Try.func4, Try.ntmps4
  go_wp2_with fail
  refine (new_any _).mono ?_
  rintro e w1 ⟨rfl, rfl⟩
  have HN := Lib.hid (show Calls Try.prog 6 #[.int .i64 100] (W.alloc (.cells zeroCs 65)) fun e w' => ∃ b bd bm f own, e = .returned (.tuple #[.pointer (some ⟨b, 0, none⟩), .int .i64 0]) ∧ Lay w' (W.alloc (.cells zeroCs 65)).heap.size b bd bm f (St.new 100) own ∧ (W.alloc (.cells zeroCs 65)).grownBy w' none from disk_new 100 _ (by omega) (by omega))
  go_wp2_with fail
  refine HN.out.mono ?_
  rintro e w2 ⟨b, bd, bm, f, own, rfl, hl, hg2⟩
  have HS2 := Lib.hid (new_sat HT.out hl hg2)
  have HG2 := Lib.hid (HG0.out.trans hg2)
  have HBL := Lib.hid (show W.heap.size ≤ (W.alloc (.cells zeroCs 65)).heap.size from HG0.out.size)
  clear hl hg2 HN HT HG0
  generalize (W.alloc (.cells zeroCs 65)).heap.size = B at *
  generalize htb : W.heap.size = tb at HS2 ⊢
  have HTE := Lib.hid htb
  clear htb
  go_wp2_with fail
  refine (known5 HS2.out.t).mono ?_
  rintro e w3 ⟨rfl, hr3, hg3⟩
  have HS3 := Lib.hid (HS2.out.table hg3 (.inr hr3)); have HR3 := Lib.hid hr3
  have HG3 := Lib.hid (show W.grownBy w3 none from grown_none_of_size (row := some tb) ((grown_any_row HG2.out (some tb)).trans hg3) (fun j e => by cases e; exact Nat.le_of_eq HTE.out))
  clear hr3 hg3 HS2 HG2
  go_upto_if 39 with fail
  go_cut [8] (fun s8 wx => ∃ h : Nat, h < 64 ∧ s8 = .int .i64 h ∧ wx = w3)
  case first =>
    have ht1 := Int.tmod_lt_of_pos hd (show (0 : Int) < 64 by omega)
    have ht2 := Int.lt_tmod_of_pos hd (show (0 : Int) < 64 by omega)
    generalize hd.tmod 64 = t at *
    by_cases ht : t < 0
    · have hw : IntKind.i64.wrap (t + 64) = t + 64 := IntWalk.i64_in _ (by omega)
      go_wp2_with fail
      go_meet
      exact ⟨(t + 64).toNat, by omega, by rw [Int.toNat_of_nonneg (by omega)], rfl⟩
    · go_wp2_with fail
      go_meet
      exact ⟨t.toNat, by omega, by rw [Int.toNat_of_nonneg (by omega)], rfl⟩
  case rest =>
    obtain ⟨h, hh, rfl, rfl⟩ := hcut
    generalize wc = w3 at *
    have hmay : mayB [1, ((1 : Nat) : Int), 16, ((18 : Nat) : Int), ((64 : Nat) : Int), ((h : Nat) : Int), ((9 : Nat) : Int)] ((100 : Nat) : Int) = true := by
      have h1 : superOk [1, ((1 : Nat) : Int), 16, ((18 : Nat) : Int), ((64 : Nat) : Int), ((h : Nat) : Int), ((9 : Nat) : Int)] = true := by
        simp [superOk, inB]; omega
      unfold mayB
      rw [h1]
      simp [roomB]; omega
    have HMAY := Lib.hid hmay
    have hga := World.grownBy_alloc w3 (.cells #[.int .i64 1, .int .i64 1, .int .i64 16, .int .i64 18, .int .i64 64, .int .i64 h, .int .i64 9] 33) none
    have HS4 := Lib.hid (HS3.out.quiet hga); have HR4 := Lib.hid (HR3.out.keep hga (by simp)); have HG4 := Lib.hid (HG3.out.trans hga)
    have HB4 := Lib.hid (Blk.new w3 33 #[.int .i64 1, .int .i64 1, .int .i64 16, .int .i64 18, .int .i64 64, .int .i64 h, .int .i64 9])
    have HO4 := Lib.hid (show ¬ With own tb w3.heap.size from fun ho => by
      rcases ho with ho | ho
      · have := HS3.out.own_lt ho; omega
      · have := tab_lt HS3.out.t; omega)
    have hnw := log_new HS4.out 1 16 1 18 64 h 9 hmay
    unfold supA at hnw
    have HNW := Lib.hid hnw
    have HWL := Lib.hid (show W.heap.size ≤ w3.heap.size from HG3.out.size)
    clear hmay hnw hga HS3 HR3 HG3
    go_wp2_with fail
    refine HNW.out.mono ?_
    rintro e w5 ⟨g, rfl, hge, hla, hg5⟩
    have hgb := HB4.out.lt
    have hb5 := HB4.out.grown hg5 (by simp)
    have HK5 := Lib.hid (show LK W w5 B b tb g (St.new 100) own (Lg.new 1 1 16 18 64 h 9) from ⟨hla, HR4.out.keep hg5 (by simp), HG4.out.trans hg5, by have := HTE.out; have := HBL.out; have := HWL.out; omega⟩)
    have HKE := Lib.hid (show Kept5 w5 (With2 own tb g) w3.heap.size w5.heap.size #[.int .i64 1, .int .i64 1, .int .i64 16, .int .i64 18, .int .i64 64, .int .i64 h, .int .i64 9] (.slice none 0 0) [] from
      ⟨hb5, fun ho => by
        rcases ho with ho | ho
        · exact HO4.out ho
        · omega, ⟨hb5.lt, Nat.le_refl _⟩, ⟨[], Own.nil _ _ _ _, rfl, by simp⟩, fun q hq => by simp [Value.ownBlock] at hq⟩)
    have HF5 := Lib.hid (show Fresh5 (St.new 100) (Lg.new 1 1 16 18 64 h 9) [] from Fresh5.new (Calm.new 100) (fun p => new_now 100 p) rfl (Nat.zero_le _))
    clear hge hla hg5 hb5 hgb HNW HS4 HR4 HG4 HB4 HO4
    generalize hL0 : Lg.new 1 1 16 18 64 h 9 = L0 at *
    have HL0 := Lib.hid hL0; clear hL0
    have HLT := Lib.hid (show L0.tail < L0.ln ∧ L0.taken = 0 ∧ L0.ln = 64 ∧ L0.ep = 1 ∧ L0.seq = 9 from by rw [← HL0.out]; exact ⟨by show h < 64; exact hh, rfl, rfl, rfl, rfl⟩)
    generalize w3.heap.size = sb at *
    have hwb := HK5.out.b.size
    generalize hbs : w5.heap.size = bs at HKE hwb
    have HBS := Lib.hid hwb
    clear hbs hwb
    generalize hcs : (#[.int .i64 1, .int .i64 1, .int .i64 16, .int .i64 18, .int .i64 64, .int .i64 h, .int .i64 9] : Array Value) = sc at HKE
    have HCS := Lib.hid hcs; clear hcs
    go_wp2_with fail
    go_loopw [11, 12] (fun va i wr => ∃ (j : Nat) (S : St) (ow : Nat → Prop) (ls : List (List Img)), j ≤ n ∧ i = .int .i64 j ∧ LK W wr B b tb g S ow (passes L0 ls) ∧ Fresh5 S L0 ls ∧ S.n = 100 ∧ (∀ p, (S.ver p).length ≤ j) ∧ Kept5 wr (With2 ow tb g) sb bs sc va ls) (fun _ i _ => n - (Go.RowKit.intOf i).toNat)
    case atStart => exact ⟨0, _, _, [], Nat.zero_le _, rfl, HK5.out, HF5.out, rfl, fun p => Nat.le_refl _, HKE.out⟩
    case round =>
      clear HK5 HF5 HKE
      obtain ⟨j, S, ow, ls, hj, rfl, hlk, hfr, hsn, hver, hke⟩ := hrel
      have HK := Lib.hid hlk; have HF := Lib.hid hfr; have HSN := Lib.hid hsn; have HV := Lib.hid hver; have HKE := Lib.hid hke
      clear hlk hfr hsn hver hke
      generalize wr = w1 at *
      by_cases hlt : j < n
      · have hjn : (j : Int) < (n : Int) := by omega
        obtain ⟨gc, oc, x, rfl, hx, hxok, hxn, e0, e1, e2, e3, e4, e5, e6⟩ := HSC.out.at_ HK.out.below hlt
        have HOK := Lib.hid hxok; have HX := Lib.hid hx
        obtain ⟨kd, xA, xn, xc, pages, page, fill, at_, count, xA2, xn2, xc2, picks⟩ := x
        dsimp only at *
        have HOP := Lib.hid (op_images kd xA xn xc pages page fill at_ count (.slice xA2 xn2 xc2) w1 (Log.PIn.ints HOK.out.pages HK.out.below) hxn)
        have HIL := Lib.hid (imagesOf_len pages page fill)
        have HPL := Lib.hid (show pages.length = xn from HOK.out.pages.1)
        have HAC := Lib.hid (append_case HF.out HLT.out.1 HLT.out.2.1 HK.out.l.k (imagesOf pages page fill))
        clear hx hxok
        go_wp2_with fail
        refine HOP.out.mono ?_
        rintro e w2 ⟨Ao, co, rfl, _, _, him, hg2⟩
        have HK2 := Lib.hid (HK.out.quiet hg2); have HKE2 := Lib.hid (HKE.out.quiet hg2)
        have HAPP := Lib.hid (log_append HK2.out.l Ao xn co (imagesOf pages page fill) (him.weak (fun i _ e => by subst e; exact tab_lt HK.out.l.s.t)) (by omega) (fun i => by have := HV.out i; omega))
        clear him hg2 HOP e0 e1 e2 e3 e4 e5 e6
        go_wp2_with fail
        refine HAPP.out.mono ?_
        rintro e w4 ⟨rfl, ⟨own4, hla4, ht4⟩, hr4⟩
        rcases HAC.out with ⟨T, hap, hft, htn, hvt⟩ | ⟨er, her, hap⟩
        · rw [hap] at hla4 hr4 ⊢
          dsimp only at hla4 hr4 ⊢
          have HK4 := Lib.hid (HK2.out.turn hla4 ht4 (hr4 (.inl HK2.out.r)))
          have HKE4 := Lib.hid (HKE2.out.turn ht4)
          have HF4 := Lib.hid hft; have HTN := Lib.hid (htn.trans HSN.out); have HVT := Lib.hid (show ∀ p, (T.ver p).length ≤ j + 1 from fun p => by have := hvt p; have := HV.out p; omega)
          clear hap hft htn hvt hla4 ht4 hr4 HAPP HK2 HKE2 HAC
          have hlsl : ls.length ≤ 64 := by have := total_ge ls; have := HF.out.room; have := HLT.out; omega
          obtain ⟨gc', oc', x', hgc, hx', _, _, e0, e1, e2, e3, e4, e5, e6⟩ := HSC.out.at_ HK4.out.below hlt
          simp only [Option.some.injEq, Addr.mk.injEq, and_true] at hgc
          obtain ⟨rfl, rfl⟩ := hgc
          rw [HX.out] at hx'
          obtain rfl := Option.some.inj hx'
          dsimp only at e0 e1 e2 e3 e4 e5 e6
          obtain ⟨R4, r41, _, _⟩ := HKE4.out.re
          obtain ⟨Av, cv, rfl, _, _, _⟩ := r41.shape
          have HOP2 := Lib.hid (op_images kd xA xn xc pages page fill at_ count (.slice xA2 xn2 xc2) w4 (Log.PIn.ints HOK.out.pages HK4.out.below) hxn)
          clear hx' r41
          go_wp2_with fail
          refine HOP2.out.mono ?_
          rintro e w5 ⟨Ao2, co2, rfl, hc2, _, him2, hg5⟩
          have HK5 := Lib.hid (HK4.out.quiet hg5)
          have hke5 := HKE4.out.quiet hg5
          have HKE5 := Lib.hid hke5
          obtain ⟨R5, r51, r52, r53⟩ := hke5.re
          have HR1 := Lib.hid r51; have HR2 := Lib.hid r52; have HR3 := Lib.hid r53
          have HC2 := Lib.hid hc2
          have HIM2 := Lib.hid (him2.weak (Q := fun i => With2 own4 tb g i ∨ (Value.slice Av ls.length cv).ownBlock = some i) (fun i _ hi => by
            rcases hi with hi | hi
            · exact HK4.out.l.own_lt hi
            · obtain ⟨R6, q1, _⟩ := HKE4.out.re
              exact (q1.base_ i hi).2))
          have hbl := hke5.lo.2
          clear him2 hg5 hke5 r51 r52 r53 hc2 HOP2 HK4 HKE4 e0 e1 e2 e3 e4 e5 e6
          go_wp2_with (at_builtin
                       refine wpList_append_own_full _ rfl (.tmp 64) (.tmp 74) _ rfl bs 46 i0 _ 2 32 Try.underlying44 hi.out z0.out z1.out z2.out rfl (by omega) _ ls.length _ rfl (HR1.out.alloc _)
                         _ _ 1 1 _ rfl (reads_one_rec _ _ _) (fun u hu => by simp at hu; rcases hu with rfl | rfl <;> rfl) (by simp only [maxLen]; omega) (by omega) (by simp; omega) ?_
                       intro v' w6 hown' hgr'
                       have HO6 := Lib.hid hown'; have HG6 := Lib.hid hgr'; clear hown' hgr')
          have HN := Lib.hid (HKE5.out.next HR1.out HR2.out HR3.out (fun i hi => HK5.out.l.own_lt hi) HC2.out HIM2.out (World.grownBy_alloc w5 _ none) HO6.out HG6.out)
          have HNK := Lib.hid (show LK W w6 B b tb g T own4 (passes L0 (ls ++ [imagesOf pages page fill])) from by
            have hka := HK5.out.quiet (World.grownBy_alloc w5 (.cells #[.int .i64 (9 + (ls.length : Int)), .slice Ao2 xn co2] 46) none)
            have hq : ∀ q, (Value.slice Av ls.length cv).ownBlock = some q → ¬ With2 own4 tb g q := HKE5.out.ro
            have hqb : ∀ q, (Value.slice Av ls.length cv).ownBlock = some q → bs ≤ q := fun q hq => (HR1.out.base_ q hq).1
            refine ⟨hka.l.far HG6.out.1 hq, hka.r.keep HG6.out.1 (fun e => hq tb e.symm (.inl (.inr rfl))), ⟨HG6.out.1.os.trans hka.b.os, HG6.out.1.tape.trans hka.b.tape, HG6.out.1.output.trans hka.b.output, Nat.le_trans hka.b.size HG6.out.1.size, fun i hi _ => (HG6.out.1.block i (Nat.lt_of_lt_of_le hi hka.b.size) (fun e => by have := hqb i e.symm; have := HBS.out; omega)).trans (hka.b.block i hi (by simp))⟩, hka.lo⟩)
          clear HO6 HG6 HR1 HR2 HR3 HIM2 HK5 HKE5
          go_roundw
          case rel => exact ⟨j + 1, T, own4, ls ++ [imagesOf pages page fill], by omega, by go_num, HNK.out, HF4.out, HTN.out, HVT.out, HN.out⟩
          case measure => simp [Go.RowKit.intOf]; omega
        · rw [hap] at hla4 hr4 ⊢
          dsimp only at hla4 hr4 ⊢
          have HK4 := Lib.hid (HK2.out.turn hla4 ht4 (hr4 (.inl HK2.out.r)))
          have HKE4 := Lib.hid (HKE2.out.turn ht4)
          have HVT := Lib.hid (show ∀ p, (S.ver p).length ≤ j + 1 from fun p => Nat.le_succ_of_le (HV.out p))
          have heB : (er == 0) = false := by simpa using her
          clear hap hla4 ht4 hr4 HAPP HK2 HKE2 HAC
          go_wp2_with fail
          go_roundw
          case rel => exact ⟨j + 1, S, own4, ls, by omega, by go_num, HK4.out, HF.out, HSN.out, HVT.out, HKE4.out⟩
          case measure => simp [Go.RowKit.intOf]; omega
      · obtain rfl : j = n := by omega
        have hb := HKE.out.b
        rw [← HCS.out] at hb
        have x0 := hb.cell 0; have x1 := hb.cell 1; have x2 := hb.cell 2; have x3 := hb.cell 3; have x4 := hb.cell 4; have x5 := hb.cell 5; have x6 := hb.cell 6
        simp only [List.getElem?_toArray, List.getElem?_cons_zero, List.getElem?_cons_succ] at x0 x1 x2 x3 x4 x5 x6
        have hopn := log_open HK.out.l.s HK.out.r HF.out.calm.f1 1 16 1 18 64 h 9 (by rw [HSN.out]; exact HMAY.out) (by omega)
        rw [HL0.out] at hopn
        unfold supA at hopn
        have HOPN := Lib.hid hopn
        have HRES := Lib.hid (show openR S L0.ln L0 = (recsOf 9 ls, passes L0 ls) from by
          have h1 := HF.out.open_ HK.out.l.s.ok HLT.out.2.1
          rw [HLT.out.2.2.2.2] at h1
          exact h1)
        obtain ⟨R4, r41, r42, r43⟩ := HKE.out.re
        obtain ⟨Av, cv, rfl, _, _, _⟩ := r41.shape
        have HAL := Lib.hid (show Recs w1 (With2 ow tb g) Av ls.length (recsOf 9 ls) from by
          have hR4 : R4.length = ls.length := by have := congrArg List.length r42; rw [List.length_map, recsOf_len] at this; exact this
          have hh := recs_of_row r41 hR4 HKE.out.ro (fun p hp => (r43 p hp).weak (fun i _ hi => .inl hi))
          rw [r42] at hh
          exact hh)
        have hlsl : ls.length ≤ 64 := by have := total_ge ls; have := HF.out.room; have := HLT.out; omega
        have HSMALL := Lib.hid (small_recs 9 HF.out.lies)
        have hsz := HK.out.l.k.taken
        have hpa := passes_along L0 ls
        have HPS := Lib.hid (show (passes L0 ls).seq = 9 + ls.length from by rw [hpa.seq, HLT.out.2.2.2.2])
        have HPL := Lib.hid (show (passes L0 ls).ln = 64 from by rw [hpa.ln, HLT.out.2.2.1])
        clear hopn hb r41 r42 r43 hpa
        go_wp2_with fail
        refine HOPN.out.mono ?_
        rintro e w2 ⟨g2, A2, n2, c2, rfl, _, hge2, hla2, hr2, hrec2, ht2⟩
        rw [HRES.out] at hla2 hrec2
        dsimp only at hla2 hrec2
        have hn2 := hrec2.len
        rw [recsOf_len] at hn2
        obtain rfl : ls.length = n2 := hn2
        have ht2' := turn_more (P := With2 ow tb g) ht2 (fun i hi => .inl (.inl hi))
        have HAL2 := Lib.hid (HAL.out.turn ht2')
        have HRE2 := Lib.hid hrec2
        have HLB := Lib.hid (HK.out.l.l.block (ht2.block g HK.out.l.l.lt (fun hi => HK.out.l.o (.inl hi))))
        have HLB2 := Lib.hid hla2.l
        have HGW := Lib.hid (show Below W.heap.size W w2 from HK.out.below.trans (ht2.below (fun i hi => HK.out.low i (.inl (.inl hi))) HK.out.b.size))
        have HEQ := Lib.hid (records_eq A2 Av ls.length c2 cv (recsOf 9 ls) hrec2 (HAL.out.turn ht2') (by omega) HSMALL.out)
        clear hge2 hla2 hr2 hrec2 ht2 ht2' x0 x1 x2 x3 x4 x5 x6 HOPN
        go_wp2_with fail
        refine HEQ.out.mono ?_
        rintro e w3' ⟨rfl, hg3⟩
        have HB3 := Lib.hid (HGW.out.trans (below_of_grown hg3 (Nat.le_trans HGW.out.size (Nat.le_refl _)) (fun _ e => by cases e)))
        have HL3 := Lib.hid (HLB.out.grown hg3 (by simp)); have HM3 := Lib.hid (HLB2.out.grown hg3 (by simp))
        clear hg3
        go_wp2_with fail
        refine (room_grown HM3.out hsz (by rw [HPL.out]; omega)).mono ?_
        rintro e w4 ⟨rfl, hg4⟩
        have HB4 := Lib.hid (HB3.out.trans (below_of_grown hg4 (Nat.le_trans HB3.out.size (Nat.le_refl _)) (fun _ e => by cases e)))
        have HL4 := Lib.hid (HL3.out.grown hg4 (by simp)); have HM4 := Lib.hid (HM3.out.grown hg4 (by simp))
        clear hg4
        go_wp2_with fail
        refine (room_grown HL4.out hsz (by rw [HPL.out]; omega)).mono ?_
        rintro e w5 ⟨rfl, hg5⟩
        have HB5 := Lib.hid (HB4.out.trans (below_of_grown hg5 (Nat.le_trans HB4.out.size (Nat.le_refl _)) (fun _ e => by cases e)))
        have HL5 := Lib.hid (HL4.out.grown hg5 (by simp)); have HM5 := Lib.hid (HM4.out.grown hg5 (by simp))
        clear hg5
        have HT5 := Lib.hid (log_tail HL5.out)
        rw [HPS.out] at HT5
        go_wp2_with fail
        refine HT5.out.mono ?_
        rintro e w6 ⟨rfl, m6, rfl⟩
        have hg6 := grown_drewN (World.grownBy.refl w5 none) m6
        have HB6 := Lib.hid (HB5.out.trans (below_of_grown hg6 (Nat.le_trans HB5.out.size (Nat.le_refl _)) (fun _ e => by cases e)))
        have HT6 := Lib.hid (log_tail (HM5.out.grown hg6 (by simp)))
        rw [HPS.out] at HT6
        generalize w5.drewN m6 = w7 at *
        go_wp2_with fail
        refine HT6.out.mono ?_
        rintro e w8 ⟨rfl, m8, rfl⟩
        have hg8 := grown_drewN (World.grownBy.refl w7 none) m8
        have HB8 := Lib.hid (HB6.out.trans (below_of_grown hg8 (Nat.le_trans HB6.out.size (Nat.le_refl _)) (fun _ e => by cases e)))
        clear hg6 hg8
        go_wp2_with fail
        go_ret
        exact ⟨rfl, HB8.out⟩
end Go.Proofs.Ytmekhlkhafdmbaa.LogBackUpto
