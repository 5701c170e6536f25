/- Texts of this seat's proofs: LogIn, LogScript, LogKeep, LogPrefixWalk. -/
import Derived.Test.YtboccfficmaoaaaGreatMLogImgs
import Derived.Test.YtboccfficmaoaaaGreatMOpenOps
import Derived.Test.YtboccfficmaoaaaGreatMCodecSpec
import Derived.Deep.DeepCutAuto
/- Arguments of the log's laws, opened. -/
namespace Go.Proofs.YtboccfficmaoaaaGreat.Log
open Go.ChangeShapes Go.WideShapes Go.RowKit CrcMath CodecMath Mem Crc Codec DiskSpec Dsk Sup

set_option maxRecDepth 100000 in
theorem open_counts {H : Type} {enc : TypeId × Value → H} {W : World} {base : Nat} {v : Value} {d : DataW H} {p : List MemPlace} (o : Value.okWide Tryz.prog W .any base 32 v) (h : DataW.Trod enc Tryz.prog W 0 (fun _ => true) true 32 v d p) :
    ∃ A n c l, v = .slice A n c ∧ PIn W A n l ∧ (n = 0 ∨ ∃ el sp, d = .slice el sp ∧ el.length = n) := by
  obtain ⟨A, n, c, rfl⟩ := okWide_slice Tryz.underlying32 o
  obtain ⟨fuel, hf⟩ := h
  rcases open_ints Tryz.underlying32 Tryz.underlying3 (by kernel_rfl) hf with ⟨hcs, _⟩ | ⟨x, l, c', zs, hcs, _, hl, hm, hz, hx, hcell, hwz⟩
  · simp [Value.cells] at hcs
    obtain ⟨rfl, rfl, rfl⟩ := hcs
    exact ⟨_, _, _, [], rfl, ⟨rfl, by simp, by omega⟩, .inl rfl⟩
  · simp [Value.cells] at hcs
    obtain ⟨rfl, rfl, rfl⟩ := hcs
    simp only [Prod.mk.injEq] at hx
    obtain ⟨rfl, _⟩ := hx
    have hz' : zs.length = c := by simpa using hz
    refine ⟨_, _, _, zs.take n, rfl, ⟨by simp; omega, fun y hy => bounds_i64 (hwz y (List.mem_of_mem_take hy)), fun hn => ?_⟩, .inr ⟨_, _, rfl, by simp [lits]; omega⟩⟩
    obtain ⟨g, o2, sp⟩ := x
    have h0 := hcell 0 (by omega)
    have hsp : sp = none := by simpa [Addr.add] using World.cell?_spot h0
    subst hsp
    have hlt : g < W.heap.size := by have := World.block_lt_of_cell? W _ h0; simpa [Addr.add] using this
    refine ⟨g, o2, rfl, hlt, fun j hj => ?_⟩
    have h1 := hcell j (by omega)
    rw [Addr.add_mid] at h1
    rw [h1]
    congr 2
    simp [List.getD_eq_getElem?_getD, hj]
theorem PIn.at_ {W w : World} {A : Option Addr} {n : Nat} {l : List Int} (h : PIn W A n l) (hb : Below W.heap.size W w) {j : Nat} (hj : j < n) : ∃ g o, A = some ⟨g, o, none⟩ ∧ w.cell? ⟨g, o + j, none⟩ = some (.int .i64 (l.getD j 0)) ∧ -9223372036854775808 ≤ l.getD j 0 ∧ l.getD j 0 ≤ 9223372036854775807 := by
  obtain ⟨g, o, rfl, hlt, hc⟩ := h.2.2 (by omega)
  have hm : l.getD j 0 ∈ l := by rw [List.getD_eq_getElem?_getD, List.getElem?_eq_getElem (by rw [h.1]; omega)]; exact List.getElem_mem _
  exact ⟨g, o, rfl, by rw [World.cell?_of_block (a := ⟨g, o + j, none⟩) (hb.block g hlt)]; exact hc j hj, h.2.1 _ hm⟩

/-! ### Where the laws stand -/
/-- A law's log: since W nothing that was there has turned. -/
structure LK (W w : World) (B b tb g : Nat) (S : St) (own : Nat → Prop) (L : Lg) : Prop where
  l : LAt w B b tb g S own L
  r : Ready w tb
  b : W.grownBy w none
  lo : W.heap.size ≤ tb ∧ W.heap.size ≤ B ∧ W.heap.size ≤ g
section
variable {W w w' : World} {B b tb g : Nat} {S T : St} {own own' : Nat → Prop} {L M : Lg}
theorem LK.quiet (h : LK W w B b tb g S own L) (hg : w.grownBy w' none) : LK W w' B b tb g S own L := ⟨h.l.quiet hg, h.r.keep hg (by simp), h.b.trans hg, h.lo⟩
theorem LK.low (h : LK W w B b tb g S own L) : ∀ i, With2 own tb g i → W.heap.size ≤ i := fun i hi => by
  rcases hi with (hi | hi) | hi
  · exact Nat.le_trans h.lo.2.1 (h.l.s.low hi)
  · rw [hi]; exact h.lo.1
  · rw [hi]; exact h.lo.2.2
theorem LK.turn (h : LK W w B b tb g S own L) (hl : LAt w' B b tb g T own' M) (ht : Turn w w' (With2 own tb g) (With2 own' tb g)) (hr : Ready w' tb) : LK W w' B b tb g T own' M :=
  ⟨hl, hr, ⟨ht.os.trans h.b.os, ht.tape.trans h.b.tape, ht.output.trans h.b.output, Nat.le_trans h.b.size ht.size, fun i hi _ => (ht.block i (Nat.lt_of_lt_of_le hi h.b.size) (fun hp => by have := h.low i hp; omega)).trans (h.b.block i hi (by simp))⟩, h.lo⟩
theorem LK.below (h : LK W w B b tb g S own L) : Below W.heap.size W w := below_of_grown h.b (Nat.le_refl _) (fun _ e => by cases e)
/-- The log's own cells are written. -/
theorem LK.log (h : LK W w B b tb g S own L) (hg : w.grownBy w' (some g)) (hl : LBlk w' g M b tb) (hk : M.ok S.n) : LK W w' B b tb g S own M :=
  h.turn (h.l.log hg hl hk) (turn_logblk hg) (h.r.keep hg (by have := h.l.ne; simp; omega))
end
end Go.Proofs.YtboccfficmaoaaaGreat.Log
/- Scripts of the log's laws that came in, opened. -/
namespace Go.Proofs.YtboccfficmaoaaaGreat.Log
open Go.ChangeShapes Go.WideShapes Go.RowKit CrcMath CodecMath Mem Crc Codec DiskSpec Dsk Sup

theorem bulk_one {H : Type} : ∀ d : DataW H, 1 ≤ Rows.uptoBulk d := by
  intro d
  cases d with
  | lit l => cases l <;> simp [Rows.uptoBulk]
  | _ => simp [Rows.uptoBulk]
theorem bulk_all {H : Type} : ∀ l : List (DataW H), l.length ≤ Rows.uptoBulkAll l
  | [] => by simp [Rows.uptoBulkAll]
  | x :: r => by have := bulk_one x; have := bulk_all r; simp only [Rows.uptoBulkAll, List.length_cons]; omega
theorem bulk_mem {H : Type} {d : DataW H} : ∀ {l : List (DataW H)}, d ∈ l → Rows.uptoBulk d ≤ Rows.uptoBulkAll l
  | [], h => by cases h
  | x :: r, h => by
    simp only [Rows.uptoBulkAll]
    rcases List.mem_cons.1 h with rfl | h
    · omega
    · have := bulk_mem h; omega
set_option maxRecDepth 100000 in
theorem bulk_bound {H : Type} {ds : List (DataW H)} {d : DataW H} (hk : Rows.uptoSmall H ds = true) (hd : d ∈ ds) : Rows.uptoBulk d ≤ 1048576 := by
  unfold Rows.uptoSmall at hk
  rw [decide_eq_true_eq] at hk
  exact Nat.le_trans (bulk_mem hd) hk
section
variable {H : Type} {enc : TypeId × Value → H} {w : World} {fuel : Nat} {cs : List Value} {x : DataW H × List MemPlace}
theorem open_struct_b {P : Program} {t : TypeId} {fs : Array Field} (hs : P.underlying t = some (.struct fs)) (h : DataW.trod enc P w 0 (fun _ => true) true fuel t cs = some x) :
    ∃ (n : Nat) (xs : List (DataW H × List MemPlace)), x.1 = .agg (xs.map (·.1)) ∧ cs.length = P.cellsOf t ∧ ∀ (i o : Nat) (ft : TypeId), (fs[i]?).map (fun f => (f.offset, f.type)) = some (o, ft) → ∃ y, xs[i]? = some y ∧ DataW.trod enc P w 0 (fun _ => true) true n ft ((cs.drop o).take (P.cellsOf ft)) = some y := by
  obtain ⟨xs, n, _, hx, hl, hlen, hg⟩ := DataW.trod_struct hs h
  refine ⟨n, xs, by rw [hx], hl, fun i o ft hi' => ?_⟩
  obtain ⟨f, hi, hf'⟩ := Option.map_eq_some_iff.1 hi'
  simp only [Prod.mk.injEq] at hf'
  obtain ⟨rfl, rfl⟩ := hf'
  have hlt : i < fs.size := (Array.getElem?_eq_some_iff.1 hi).1
  refine ⟨xs[i]'(by omega), List.getElem?_eq_getElem (by omega), ?_⟩
  have h1 := hg i f hi
  rw [List.getElem?_eq_getElem (by omega)] at h1
  exact h1
theorem ints_came_b (h : DataW.trod enc Tryz.prog w 0 (fun _ => true) true fuel 32 cs = some x) :
    ∃ A n c l, cs = [.slice A n c] ∧ PIn w A n l ∧ n ≤ c ∧ c ≤ maxLen ∧ n ≤ Rows.uptoBulk x.1 := by
  rcases open_ints Tryz.underlying32 Tryz.underlying3 (by kernel_rfl) h with ⟨hcs, rfl⟩ | ⟨a, l, c, zs, hcs, _, hl, hm, hz, hx, hcell, hwz⟩
  · exact ⟨_, _, _, [], hcs, ⟨rfl, by simp, by omega⟩, Nat.le_refl _, by simp [maxLen], Nat.zero_le _⟩
  · have hz' : zs.length = c := by simpa using hz
    refine ⟨_, _, _, zs.take l, hcs, ⟨by simp; omega, fun y hy => bounds_i64 (hwz y (List.mem_of_mem_take hy)), fun hn => ?_⟩, hl, hm, ?_⟩
    · obtain ⟨g, o, sp⟩ := a
      have h0 := hcell 0 (by omega)
      have hsp : sp = none := by simpa [Addr.add] using World.cell?_spot h0
      subst hsp
      have hlt : g < w.heap.size := by have := World.block_lt_of_cell? w _ h0; simpa [Addr.add] using this
      refine ⟨g, o, rfl, hlt, fun j hj => ?_⟩
      have h1 := hcell j (by omega)
      rw [Addr.add_mid] at h1
      rw [h1]
      congr 2
      simp [List.getD_eq_getElem?_getD, hj]
    · rw [hx]
      have h1 := bulk_all (lits (H := H) IntKind.i64 (zs.take l))
      have h2 : (lits (H := H) IntKind.i64 (zs.take l)).length = l := by simp [lits]; omega
      simp only [Rows.uptoBulk]
      omega
end
/-- A step. -/
structure OpL where
  kind : Int
  A : Option Addr
  n : Nat
  c : Nat
  pages : List Int
  page : Int
  fill : Int
  at_ : Int
  count : Int
  A2 : Option Addr
  n2 : Nat
  c2 : Nat
  picks : List Int
def OpL.cells (x : OpL) : List Value := [.int .i64 x.kind, .slice x.A x.n x.c, .int .i64 x.page, .int .i64 x.fill, .int .i64 x.at_, .int .i64 x.count, .slice x.A2 x.n2 x.c2]
structure OpL.ok (w : World) (x : OpL) : Prop where
  pages : PIn w x.A x.n x.pages
  picks : PIn w x.A2 x.n2 x.picks
  n2 : x.n2 ≤ maxLen
  at_ : -9223372036854775808 ≤ x.at_ ∧ x.at_ ≤ 9223372036854775807
  count : -9223372036854775808 ≤ x.count ∧ x.count ≤ 9223372036854775807
section
variable {H : Type} {enc : TypeId × Value → H} {w : World} {fuel : Nat} {cs : List Value} {x : DataW H × List MemPlace}
set_option maxRecDepth 100000 in
theorem op5_came (h : DataW.trod enc Tryz.prog w 0 (fun _ => true) true fuel 62 cs = some x) : ∃ y : OpL, cs = y.cells ∧ y.ok w ∧ y.n ≤ Rows.uptoBulk x.1 := by
  obtain ⟨n, xs, hx, hl, hf⟩ := open_struct_b Tryz.underlying62 h
  rw [show Tryz.prog.cellsOf 62 = 7 from by kernel_rfl] at hl
  match cs, hl with
  | [c0, c1, c2, c3, c4, c5, c6], _ =>
    have k1 : Tryz.prog.cellsOf 3 = 1 := by kernel_rfl
    have k3 : Tryz.prog.cellsOf 32 = 1 := by kernel_rfl
    obtain ⟨_, _, h0⟩ := hf 0 0 3 rfl
    obtain ⟨y1, g1, h1⟩ := hf 1 1 32 rfl
    obtain ⟨_, _, h2⟩ := hf 2 2 3 rfl
    obtain ⟨_, _, h3⟩ := hf 3 3 3 rfl
    obtain ⟨_, _, h4⟩ := hf 4 4 3 rfl
    obtain ⟨_, _, h5⟩ := hf 5 5 3 rfl
    obtain ⟨_, _, h6⟩ := hf 6 6 32 rfl
    rw [k1] at h0 h2 h3 h4 h5
    rw [k3] at h1 h6
    obtain ⟨a0, e0, b0⟩ := int_came h0
    obtain ⟨A, m, c, l, e1, hp, _, _, hb⟩ := ints_came_b h1
    obtain ⟨a2, e2, b2⟩ := int_came h2
    obtain ⟨a3, e3, b3⟩ := int_came h3
    obtain ⟨a4, e4, b4⟩ := int_came h4
    obtain ⟨a5, e5, b5⟩ := int_came h5
    obtain ⟨A2, m2, c2', l2, e6, hp2, hm2, hc2, _⟩ := ints_came_b h6
    simp at e0 e1 e2 e3 e4 e5 e6
    subst e0 e1 e2 e3 e4 e5 e6
    refine ⟨⟨a0, A, m, c, l, a2, a3, a4, a5, A2, m2, c2', l2⟩, rfl, ⟨hp, hp2, Nat.le_trans hm2 hc2, b4, b5⟩, ?_⟩
    rw [hx]
    have hmem : y1.1 ∈ xs.map (·.1) := List.mem_map.2 ⟨y1, List.mem_of_getElem? g1, rfl⟩
    have := bulk_mem hmem
    simp only [Rows.uptoBulk]
    exact Nat.le_trans hb (by omega)
end
/-- A script that came in. -/
def Script5 (w : World) (A : Option Addr) (n : Nat) (ops : List OpL) : Prop :=
  ops.length = n ∧ (∀ x ∈ ops, x.ok w ∧ x.n ≤ 1048576) ∧ (0 < n → ∃ g o, A = some ⟨g, o, none⟩ ∧ g < w.heap.size ∧ ∀ j x, ops[j]? = some x → ∀ q u, x.cells[q]? = some u → w.cell? ⟨g, o + j * 7 + q, none⟩ = some u)
section
variable {H : Type} {enc : TypeId × Value → H} {W : World} {base : Nat} {v : Value} {d : DataW H} {p : List MemPlace}
set_option maxRecDepth 100000 in
theorem open_script5 (o : Value.okWide Tryz.prog W .any base 54 v) (h : DataW.Trod enc Tryz.prog W 0 (fun _ => true) true 54 v d p) {ds : List (DataW H)} (hk : Rows.uptoSmall H ds = true) (hd : d ∈ ds) :
    ∃ A n c ops, v = .slice A n c ∧ Script5 W A n ops ∧ n ≤ 1048576 := by
  have hbd := bulk_bound hk hd
  obtain ⟨A, n, c, rfl⟩ := okWide_slice Tryz.underlying54 o
  obtain ⟨fuel, hf⟩ := h
  rcases DataW.trod_slice Tryz.underlying54 hf with ⟨hcs, _⟩ | ⟨a, len, cap, elems, rest, m, _, hcs, hx, _, hl, hm, hlen, hel, _, _⟩
  · simp [Value.cells] at hcs
    obtain ⟨rfl, rfl, rfl⟩ := hcs
    exact ⟨_, _, _, [], rfl, ⟨rfl, by simp, by omega⟩, by omega⟩
  · simp [Value.cells] at hcs
    obtain ⟨rfl, rfl, rfl⟩ := hcs
    rw [show Tryz.prog.cellsOf 62 = 7 from by kernel_rfl] at hel
    have hd2 : d = DataW.slice (elems.map (·.1)) (rest.map (·.1)) := congrArg Prod.fst hx
    have hall : Rows.uptoBulkAll (elems.map (·.1)) ≤ 1048576 := by
      rw [hd2] at hbd
      simp only [Rows.uptoBulk] at hbd
      omega
    have hne : n ≤ 1048576 := by
      have := bulk_all (elems.map (·.1))
      rw [List.length_map, hlen] at this
      omega
    have each : ∀ j, j < n → ∃ y : OpL, (y.ok W ∧ y.n ≤ 1048576) ∧ ∀ q u, y.cells[q]? = some u → W.cell? (a.add (j * 7 + q)) = some u := by
      intro j hj
      have h1 := hel j hj
      have hje : elems[j]? = some (elems[j]'(by omega)) := List.getElem?_eq_getElem (by omega)
      rw [hje, Option.bind_eq_some_iff] at h1
      obtain ⟨ds, hds, hy⟩ := h1
      obtain ⟨y, rfl, hok, hyb⟩ := op5_came hy
      have hmem : (elems[j]'(by omega)).1 ∈ elems.map (·.1) := List.mem_map.2 ⟨_, List.getElem_mem _, rfl⟩
      refine ⟨y, ⟨hok, Nat.le_trans hyb (Nat.le_trans (bulk_mem hmem) hall)⟩, fun q u hq => ?_⟩
      have hq7 : q < 7 := (List.getElem?_eq_some_iff.1 hq).1
      have h2 := (World.cells?_some hds).2.2 q hq7
      rw [hq] at h2
      have e : (a.add (j * 7)).add q = a.add (j * 7 + q) := by
        unfold Addr.add
        split <;> split <;> (try split) <;> simp_all <;> omega
      rw [← e]; exact h2
    obtain ⟨ops, ho1, ho2⟩ := choose_list (p := fun j (y : OpL) => (y.ok W ∧ y.n ≤ 1048576) ∧ ∀ q u, y.cells[q]? = some u → W.cell? (a.add (j * 7 + q)) = some u) n each
    refine ⟨_, _, _, ops, rfl, ⟨ho1, fun x hx => ?_, fun hn => ?_⟩, hne⟩
    · obtain ⟨j, hj, e⟩ := List.getElem_of_mem hx
      exact (ho2 j x (by rw [← e, List.getElem?_eq_getElem hj])).1
    · obtain ⟨g, off, sp⟩ := a
      have h0 := (ho2 0 (ops[0]'(by omega)) (List.getElem?_eq_getElem (by omega))).2 0 _ rfl
      have hsp : sp = none := by simpa [Addr.add] using World.cell?_spot h0
      subst hsp
      have hlt : g < W.heap.size := by have := World.block_lt_of_cell? W _ h0; simpa [Addr.add] using this
      refine ⟨g, off, rfl, hlt, fun j x hj q u hq => ?_⟩
      have h1 := (ho2 j x hj).2 q u hq
      rw [Addr.add_mid, ← Nat.add_assoc] at h1
      exact h1
end
/-- A step of a script, as the law finds it. -/
theorem Script5.at_ {W w : World} {A : Option Addr} {n : Nat} {ops : List OpL} (h : Script5 W A n ops) (hb : Below W.heap.size W w) {j : Nat} (hj : j < n) : ∃ g o x, A = some ⟨g, o, none⟩ ∧ ops[j]? = some x ∧ x.ok W ∧ x.n ≤ 1048576 ∧
    w.cell? ⟨g, o + j * 7, none⟩ = some (.int .i64 x.kind) ∧ w.cell? ⟨g, o + j * 7 + 1, none⟩ = some (.slice x.A x.n x.c) ∧ w.cell? ⟨g, o + j * 7 + 2, none⟩ = some (.int .i64 x.page) ∧ w.cell? ⟨g, o + j * 7 + 3, none⟩ = some (.int .i64 x.fill) ∧
    w.cell? ⟨g, o + j * 7 + 4, none⟩ = some (.int .i64 x.at_) ∧ w.cell? ⟨g, o + j * 7 + 5, none⟩ = some (.int .i64 x.count) ∧ w.cell? ⟨g, o + j * 7 + 6, none⟩ = some (.slice x.A2 x.n2 x.c2) := by
  obtain ⟨g, o, rfl, hlt, hc⟩ := h.2.2 (by omega)
  have hx : ops[j]? = some (ops[j]'(by rw [h.1]; exact hj)) := List.getElem?_eq_getElem (by rw [h.1]; exact hj)
  have hm := h.2.1 _ (List.mem_of_getElem? hx)
  have hcc : ∀ q u, (ops[j]'(by rw [h.1]; exact hj)).cells[q]? = some u → w.cell? ⟨g, o + j * 7 + q, none⟩ = some u := fun q u hu => by
    rw [World.cell?_of_block (a := ⟨g, o + j * 7 + q, none⟩) (hb.block g hlt)]
    exact hc j _ hx q u hu
  exact ⟨g, o, _, rfl, hx, hm.1, hm.2, hcc 0 _ rfl, hcc 1 _ rfl, hcc 2 _ rfl, hcc 3 _ rfl, hcc 4 _ rfl, hcc 5 _ rfl, hcc 6 _ rfl⟩
theorem PIn.ints {W w : World} {A : Option Addr} {n : Nat} {l : List Int} (h : PIn W A n l) (hb : Below W.heap.size W w) : Ints w w.heap.size A n l := by
  refine ⟨h.1, h.2.1, fun hn => ?_⟩
  obtain ⟨g, o, rfl, hlt, hc⟩ := h.2.2 hn
  exact ⟨g, o, rfl, Nat.lt_of_lt_of_le hlt hb.size, by have := hb.size; omega, fun j hj => by rw [World.cell?_of_block (a := ⟨g, o + j, none⟩) (hb.block g hlt)]; exact hc j hj⟩
end Go.Proofs.YtboccfficmaoaaaGreat.Log
/- What the law LogPrefix keeps from step to step. -/
namespace Go.Proofs.YtboccfficmaoaaaGreat.Log
open Go.ChangeShapes Go.WideShapes Go.RowKit CrcMath CodecMath Mem Crc Codec DiskSpec Dsk Sup

theorem recs_row {w : World} {base n : Nat} {P : Nat → Prop} {A : Option Addr} {m c : Nat} {R : List (Rec × Value)} (h : Own w base 69 2 (.slice A m c) n (rcC R)) (hR : R.length = n) (hb : ∀ q, (Value.slice A m c).ownBlock = some q → ¬ P q) (hl : ∀ p ∈ R, ImgsV w P p.2 p.1.2) :
    Recs w P A n (R.map (·.1)) := by
  refine ⟨R, rfl, by simpa using hR, fun hn => ?_, hl⟩
  obtain ⟨g, cap, e, hg, hlt, _, _, hc⟩ := h.reads hn
  have hA : A = some ⟨g, 0, none⟩ := by injection e
  exact ⟨g, 0, hA, hlt, hb g (by rw [e]; rfl), fun j u hu => by rw [Nat.zero_add]; exact hc j u hu⟩
theorem rcC_take (R : List (Rec × Value)) (m j : Nat) {u : Value} (h : (rcC (R.take m))[j]? = some u) : (rcC R)[j]? = some u := by
  have e : rcC R = rcC (R.take m) ++ rcC (R.drop m) := by
    unfold rcC
    rw [← List.flatMap_append, List.take_append_drop]
  rw [e, List.getElem?_append_left (List.getElem?_eq_some_iff.1 h).1]
  exact h
theorem Recs.take {w : World} {P : Nat → Prop} {A : Option Addr} {n : Nat} {l : List Rec} (h : Recs w P A n l) {m : Nat} (hm : m ≤ n) : Recs w P A m (l.take m) := by
  obtain ⟨R, h1, h2, h3, h4⟩ := h
  refine ⟨R.take m, by rw [← h1, List.map_take], by rw [List.length_take]; omega, fun hn => ?_, fun p hp => h4 p (List.mem_of_mem_take hp)⟩
  obtain ⟨g, o, e, hlt, hno, hc⟩ := h3 (by omega)
  exact ⟨g, o, e, hlt, hno, fun j u hu => hc j u (rcC_take R m j hu)⟩
theorem recsOf_take : ∀ (q : Int) (ls : List (List Img)) (m : Nat), (recsOf q ls).take m = recsOf q (ls.take m)
  | _, [], m => by simp [recsOf]
  | _, _ :: _, 0 => rfl
  | q, x :: r, m + 1 => by
    show (q, x) :: (recsOf (q + 1) r).take m = (q, x) :: recsOf (q + 1) (r.take m)
    rw [recsOf_take]
theorem small_fit : ∀ {L : Lg} {ls : List (List Img)} (q : Int), FitAll L ls → Small (recsOf q ls)
  | _, [], _, _ => fun x hx => by cases hx
  | L, l :: r, q, h => by
    obtain ⟨h1, _, h4⟩ := h
    intro x hx
    rcases List.mem_cons.1 hx with rfl | hx
    · exact ⟨by have := h1.most; show l.length ≤ _; omega, fun y hy => by rw [(imgOk_iff (h1.ok y hy)).2.2.1]; omega⟩
    · exact small_fit (q + 1) h4 x hx
theorem small_take {l : List Rec} (h : Small l) (m : Nat) : Small (l.take m) := fun x hx => h x (List.mem_of_mem_take hx)
theorem turn_or2 {w w' : World} {P P' : Nat → Prop} (h : Turn w w' P P') (Q : Nat → Prop) : Turn w w' (fun i => P i ∨ Q i) (fun i => P' i ∨ Q i) :=
  ⟨h.os, h.tape, h.output, h.size, fun i hi hn => h.block i hi (fun e => hn (.inl e)), fun i hi => by
    rcases hi with hi | hi
    · rcases h.fresh i hi with h1 | h1
      · exact .inl (.inl h1)
      · exact .inr h1
    · exact .inl (.inr hi)⟩
/-- Beside the log: its superblock, all that was appended since. -/
structure KeptQ (wr : World) (P : Nat → Prop) (sb base : Nat) (cs : Array Value) (va : Value) (q : Nat) (ls : List (List Img)) : Prop where
  b : Blk wr sb 49 cs
  o : ¬ P sb
  lo : sb < base ∧ base ≤ wr.heap.size
  re : ∃ R : List (Rec × Value), Own wr base 69 2 va ls.length (rcC R) ∧ R.map (·.1) = recsOf (q : Int) ls ∧ ∀ p ∈ R, ImgsV wr (fun i => P i ∨ va.ownBlock = some i) p.2 p.1.2
  ro : ∀ q, va.ownBlock = some q → ¬ P q
section
variable {wr w' : World} {P P' : Nat → Prop} {sb base : Nat} {cs : Array Value} {va : Value} {q : Nat} {ls : List (List Img)}
theorem KeptQ.turn (h : KeptQ wr P sb base cs va q ls) (ht : Turn wr w' P P') : KeptQ w' P' sb base cs va q ls := by
  obtain ⟨R, h1, h2, h3⟩ := h.re
  have hno : ∀ q, q < wr.heap.size → ¬ P q → ¬ P' q := fun q hq hn hp => by
    rcases ht.fresh q hp with h4 | h4
    · exact hn h4
    · omega
  exact ⟨blk_of_block h.b (ht.block _ h.b.lt h.o), hno _ h.b.lt h.o, ⟨h.lo.1, Nat.le_trans h.lo.2 ht.size⟩, ⟨R, own_of_block h1 (fun q hq => ht.block q (h1.base_ q hq).2 (h.ro q hq)), h2, fun p hp => (h3 p hp).turn (turn_or2 ht _)⟩, fun q hq => hno q (h1.base_ q hq).2 (h.ro q hq)⟩
theorem KeptQ.quiet (h : KeptQ wr P sb base cs va q ls) (hg : wr.grownBy w' none) : KeptQ w' P sb base cs va q ls := h.turn (Turn.none_ hg)
theorem KeptQ.next {w3 w5 : World} (h : KeptQ wr P sb base cs va q ls) {R : List (Rec × Value)} (h1 : Own wr base 69 2 va ls.length (rcC R)) (h2 : R.map (·.1) = recsOf (q : Int) ls) (h4 : ∀ p ∈ R, ImgsV wr (fun i => P i ∨ va.ownBlock = some i) p.2 p.1.2) (hP : ∀ i, P i → i < wr.heap.size) {l : List Img} {A : Option Addr} {m c : Nat} (hmc : m ≤ c) (him : Imgs wr (fun i => P i ∨ va.ownBlock = some i) A m l) (h3 : wr.grownBy w3 none) {v' : Value} {z : Int} (hz : z = (q : Int) + (ls.length : Int))
    (hown : Own w5 base 69 2 v' (ls.length + 1) (rcC R ++ [.int .i64 z, .slice A m c])) (hgr : Grew w3 w5 va v') : KeptQ w5 P sb base cs v' q (ls ++ [l]) := by
  have hlo := h.lo
  have hvb : ∀ q, va.ownBlock = some q → base ≤ q := fun q hq => (h1.base_ q hq).1
  have hT : Turn wr w5 (fun i => P i ∨ va.ownBlock = some i) (fun i => P i ∨ v'.ownBlock = some i) := (Turn.none_ h3).trans (turn_grew2 hgr)
  have hsz := h3.size; have hsz2 := hgr.1.size
  refine ⟨(h.b.grown h3 (by simp)).grown hgr.1 (fun e => by have := hvb _ e.symm; omega), h.o, ⟨hlo.1, by omega⟩, ⟨R ++ [((z, l), .slice A m c)], ?_, ?_, fun p hp => ?_⟩, fun q hq hp => ?_⟩
  · rw [rcC_snoc, List.length_append]
    exact hown
  · rw [List.map_append, h2, recsOf_snoc, hz]
    rfl
  · rcases List.mem_append.1 hp with hp | hp
    · exact (h4 p hp).turn hT
    · simp at hp
      subst hp
      exact ImgsV.turn ⟨A, m, c, rfl, hmc, him⟩ hT
  · rcases hgr.2 q hq with h5 | h5
    · exact h.ro q h5 hp
    · have := hP q hp; omega
theorem KeptQ.fresh (hb : Blk wr sb 49 cs) (ho : ¬ P sb) (hlo : sb < base ∧ base ≤ wr.heap.size) : KeptQ wr P sb base cs (.slice none 0 0) q [] :=
  ⟨hb, ho, hlo, ⟨[], Own.nil _ _ _ _, rfl, by simp⟩, fun q hq => by simp [Value.ownBlock] at hq⟩
theorem KeptQ.recs {A : Option Addr} {n c : Nat} (h : KeptQ wr P sb base cs (.slice A n c) q ls) : Recs wr P A ls.length (recsOf (q : Int) ls) := by
  obtain ⟨R, r1, r2, r3⟩ := h.re
  have hR : R.length = ls.length := by have := congrArg List.length r2; rw [List.length_map, recsOf_len] at this; exact this
  have hh := recs_row r1 hR h.ro (fun p hp => (r3 p hp).weak (fun i _ hi => .inl hi))
  rw [r2] at hh
  exact hh
theorem KeptQ.shape (h : KeptQ wr P sb base cs va q ls) : ∃ A c, va = .slice A ls.length c ∧ ls.length ≤ c ∧ c ≤ maxLen := by
  obtain ⟨R, r1, _, _⟩ := h.re
  obtain ⟨A, c, h1, h2, h3, _⟩ := r1.shape
  exact ⟨A, c, h1, h2, h3⟩
end
section
variable {W w w' : World} {B b tb g g' : Nat} {S T : St} {own own' : Nat → Prop} {L M : Lg}
theorem LK.disk (h : LK W w B b tb g S own L) (hd : DAt w' B b T own') (ht : Turn w w' own own') (hn : T.n = S.n) : LK W w' B b tb g T own' L :=
  h.turn (h.l.disk hd ht hn) (turn_own2 ht) (by
    obtain ⟨cs, hb, hr⟩ := h.r
    exact ⟨cs, blk_of_block hb (ht.block tb hb.lt h.l.s.n), hr⟩)
theorem LK.newlog (h : LK W w B b tb g S own L) (hl : LAt w' B b tb g' S own M) (hg : w.grownBy w' none) (hge : w.heap.size ≤ g') : LK W w' B b tb g' S own M :=
  ⟨hl, h.r.keep hg (by simp), h.b.trans hg, ⟨h.lo.1, h.lo.2.1, Nat.le_trans h.b.size hge⟩⟩
theorem LK.far (h : LK W w B b tb g S own L) {row : Option Nat} (hg : w.grownBy w' row) (hq : ∀ q, row = some q → ¬ With2 own tb g q) (hw : ∀ q, row = some q → W.heap.size ≤ q) : LK W w' B b tb g S own L :=
  ⟨h.l.far hg hq, h.r.keep hg (fun e => hq tb e.symm (.inl (.inr rfl))), ⟨hg.os.trans h.b.os, hg.tape.trans h.b.tape, hg.output.trans h.b.output, Nat.le_trans h.b.size hg.size, fun i hi _ => (hg.block i (Nat.lt_of_lt_of_le hi h.b.size) (fun e => by have := hw i e.symm; omega)).trans (h.b.block i hi (by simp))⟩, h.lo⟩
end
theorem may_prefix {ep hd sq : Nat} (h1 : hd < 64) (h2 : ep ≤ 1099511627776) (h3 : sq ≤ 1099511627776) : mayB [1, (ep : Int), 16, ((18 : Nat) : Int), ((64 : Nat) : Int), (hd : Int), (sq : Int)] ((100 : Nat) : Int) = true := by
  have e1 : superOk [1, (ep : Int), 16, ((18 : Nat) : Int), ((64 : Nat) : Int), (hd : Int), (sq : Int)] = true := by
    simp [superOk, inB]; omega
  unfold mayB
  rw [e1]
  simp [roomB]; omega
abbrev base5 (ep hd sq : Nat) : Lg := Lg.new 1 ep 16 18 64 hd sq
theorem base5_ok {ep hd sq : Nat} (h : hd < 64) : Base5 (base5 ep hd sq) := ⟨rfl, rfl, h⟩
/-- Where the law stands. -/
structure PS (W wr : World) (B b tb g : Nat) (S : St) (ow : Nat → Prop) (L : Lg) (ls : List (List Img)) (bad : Option (List Img)) (sure ep hd sq sb bs : Nat) (va : Value) (j : Nat) : Prop where
  k : LK W wr B b tb g S ow L
  r : Ring S (base5 ep hd sq) ls bad sure L
  n : S.n = 100
  ver : ∀ p, (S.ver p).length ≤ j
  lhd : hd < 64
  lep : ep ≤ j + 1
  seq : L.seq ≤ j
  kp : KeptQ wr (With2 ow tb g) sb bs #[.int .i64 1, .int .i64 (ep : Nat), .int .i64 16, .int .i64 18, .int .i64 64, .int .i64 (hd : Nat), .int .i64 (sq : Nat)] va sq ls
  wb : W.heap.size ≤ sb
section
variable {W wr w' : World} {B b tb g g' : Nat} {S T : St} {ow : Nat → Prop} {L : Lg} {ls : List (List Img)} {bad : Option (List Img)} {sure ep hd sq sb bs : Nat} {va : Value} {j : Nat}
theorem PS.quiet (h : PS W wr B b tb g S ow L ls bad sure ep hd sq sb bs va j) (hg : wr.grownBy w' none) : PS W w' B b tb g S ow L ls bad sure ep hd sq sb bs va j :=
  ⟨h.k.quiet hg, h.r, h.n, h.ver, h.lhd, h.lep, h.seq, h.kp.quiet hg, h.wb⟩
theorem PS.step (h : PS W wr B b tb g S ow L ls bad sure ep hd sq sb bs va j) : PS W wr B b tb g S ow L ls bad sure ep hd sq sb bs va (j + 1) :=
  ⟨h.k, h.r, h.n, fun p => Nat.le_succ_of_le (h.ver p), h.lhd, Nat.le_succ_of_le h.lep, Nat.le_succ_of_le h.seq, h.kp, h.wb⟩
theorem PS.disk (h : PS W wr B b tb g S ow L ls bad sure ep hd sq sb bs va j) (hd_ : DAt w' B b T ow) (ht : Turn wr w' ow ow) {bad' : Option (List Img)} {sure' : Nat} (hr : Ring T (base5 ep hd sq) ls bad' sure' L) (hn : T.n = S.n) (hv : ∀ p, (T.ver p).length ≤ j) : PS W w' B b tb g T ow L ls bad' sure' ep hd sq sb bs va j :=
  ⟨h.k.disk hd_ ht hn, hr, hn.trans h.n, hv, h.lhd, h.lep, h.seq, h.kp.turn (turn_own2 ht), h.wb⟩
theorem PS.same (h : PS W wr B b tb g S ow L ls bad sure ep hd sq sb bs va j) (hd_ : DAt w' B b T ow) (ht : Turn wr w' ow ow) (h1 : T.dur = S.dur) (h2 : T.ver = S.ver) (hn : T.n = S.n) : PS W w' B b tb g T ow L ls bad sure ep hd sq sb bs va j :=
  h.disk hd_ ht (h.r.same h1 h2) hn (fun p => by rw [h2]; exact h.ver p)
theorem PS.flush (h : PS W wr B b tb g S ow L ls bad sure ep hd sq sb bs va j) (hd_ : DAt w' B b T ow) (ht : Turn wr w' ow ow) (h1 : T.dur = S.now) (h2 : ∀ p, T.ver p = []) (hn : T.n = S.n) : PS W w' B b tb g T ow L ls bad ls.length ep hd sq sb bs va j :=
  h.disk hd_ ht (h.r.flush h1 h2) hn (fun p => by rw [h2]; exact Nat.zero_le _)
theorem PS.tail_lt (h : PS W wr B b tb g S ow L ls bad sure ep hd sq sb bs va j) : L.tail < 64 := by
  rw [h.r.tail]
  have := passes_tail (L := base5 ep hd sq) (ls := ls) h.r.base.tail
  exact this
theorem PS.dropped (h : PS W wr B b tb g S ow L ls bad sure ep hd sq sb bs va j) (hk : LK W w' B b tb g S ow L.drop) (hb : Blk w' sb 49 #[.int .i64 1, .int .i64 (ep : Nat), .int .i64 16, .int .i64 18, .int .i64 64, .int .i64 (L.tail : Nat), .int .i64 (L.seq : Nat)]) (hs : wr.heap.size ≤ w'.heap.size) :
    PS W w' B b tb g S ow L.drop [] none 0 ep L.tail L.seq sb bs (.slice none 0 0) j :=
  ⟨hk, h.r.drop (fun _ _ hc => hc) (base5_ok h.tail_lt) rfl rfl rfl rfl rfl, h.n, h.ver, h.tail_lt, h.lep, h.seq, .fresh hb h.kp.o ⟨h.kp.lo.1, Nat.le_trans h.kp.lo.2 hs⟩, h.wb⟩
theorem PS.low (h : PS W wr B b tb g S ow L ls bad sure ep hd sq sb bs va j) : sq + ls.length ≤ L.seq := by
  cases hb : L.broken with
  | false => have := (h.r.whole hb).1; have e : (base5 ep hd sq).seq = sq := rfl; omega
  | true => have := h.r.broke hb; have e : (base5 ep hd sq).seq = sq := rfl; omega
theorem PS.crashed (h : PS W wr B b tb g S ow L ls bad sure ep hd sq sb bs va j) (picks : List Int) {hd' sq' ep' : Nat} (h1 : hd' < 64) (h2 : sq' ≤ j) (h3 : ep' = ep + 1) (hk : LK W w' B b tb g' (S.crash picks) ow (base5 ep' hd' sq'))
    (hb : Blk w' sb 49 #[.int .i64 1, .int .i64 (ep' : Nat), .int .i64 16, .int .i64 18, .int .i64 64, .int .i64 (hd' : Nat), .int .i64 (sq' : Nat)]) (hs : wr.heap.size ≤ w'.heap.size) (hg : g' ≠ sb) :
    PS W w' B b tb g' (S.crash picks) ow (base5 ep' hd' sq') [] none 0 ep' hd' sq' sb bs (.slice none 0 0) (j + 1) :=
  ⟨hk, (h.r.crash h.k.l.s.ok picks).2 _ (base5_ok h1) rfl rfl h3, h.n, fun _ => Nat.zero_le _, h1, by have := h.lep; omega, Nat.le_succ_of_le h2, .fresh hb (fun ho => by
    rcases ho with ho | ho
    · exact h.kp.o (.inl ho)
    · exact hg ho.symm) ⟨h.kp.lo.1, Nat.le_trans h.kp.lo.2 hs⟩, h.wb⟩
theorem PS.found (h : PS W wr B b tb g S ow L ls bad sure ep hd sq sb bs va j) (picks : List Int) : ∃ m, sure ≤ m ∧ m ≤ ls.length ∧ openR (S.crash picks) (base5 ep hd sq).ln (base5 ep hd sq) = (recsOf (sq : Int) (ls.take m), passes (base5 ep hd sq) (ls.take m)) ∧ (passes (base5 ep hd sq) (ls.take m)).tail < 64 ∧ (passes (base5 ep hd sq) (ls.take m)).seq ≤ j := by
  obtain ⟨m, m1, m2, m3⟩ := (h.r.crash h.k.l.s.ok picks).1
  refine ⟨m, m1, m2, m3, passes_tail (L := base5 ep hd sq) (ls := ls.take m) h.r.base.tail, ?_⟩
  rw [(passes_along (base5 ep hd sq) (ls.take m)).seq, List.length_take]
  have h1 := h.low; have h2 := h.seq
  have e : (base5 ep hd sq).seq = sq := rfl
  omega
end
end Go.Proofs.YtboccfficmaoaaaGreat.Log
/- The walk over the law LogPrefix. -/
namespace Go.Proofs.YtboccfficmaoaaaGreat.LogPrefixUpto
open Go.ChangeShapes Go.WideShapes Go.ChangeAt Go.RowKit
open Crc CrcMath Mem CodecMath Codec DiskSpec Dsk Sup Log

set_option maxRecDepth 100000 in
set_option maxHeartbeats 12800000 in
theorem walk {H : Type} {enc : TypeId × Value → H} (W : World) (base : Nat) (v0 v1 : Value) (d0 d1 : DataW H) (p0 p1 : List MemPlace)
    (o0 : Value.okWide Tryz.prog W .any base 3 v0)
    (o1 : Value.okWide Tryz.prog W .any base 54 v1)
    (h0 : DataW.Trod enc Tryz.prog W 0 (fun _ => true) true 3 v0 d0 p0)
    (h1 : DataW.Trod enc Tryz.prog W 0 (fun _ => true) true 54 v1 d1 p1)
    (_hsz : (DataW.weightsEach Tryz.prog [3, 54] [d0, d1]).all (· ≤ reachBytes) = true) (hk : Rows.uptoSmall H [d0, d1] = true) :
    Calls Tryz.prog 7 #[v0, v1] W fun e W' => e = .returned (.bool true) ∧ Below W.heap.size W W' := by
  obtain ⟨hd, rfl, _, _, _⟩ := open_int Tryz.underlying3 o0 h0
  obtain ⟨A, n, c, ops, rfl, hsc, hn⟩ := open_script5 o1 h1 hk (List.mem_cons_of_mem _ (List.mem_cons_self ..))
  have HSC := Lib.hid hsc
  obtain ⟨i0, hi0, hz0, hz1, hz2⟩ := info_parts record_info
  have hi := Lib.hid hi0; have z0 := Lib.hid hz0; have z1 := Lib.hid hz1; have z2 := Lib.hid hz2
  clear o0 h0 o1 h1 hk hsc hi0 hz0 hz1 hz2
  have hT : Tab (W.alloc (.cells zeroCs 119)) W.heap.size := .inl ⟨_, Blk.new W 119 zeroCs, fresh_zero⟩
  have HT := Lib.hid hT; have HG0 := Lib.hid (World.grownBy_alloc W (.cells zeroCs 119) none)
  clear hT
  go_enter Tryz.func7, Tryz.ntmps7
  go_wp2_with fail
  refine (new_any _).mono ?_
  rintro e w1 ⟨rfl, rfl⟩
  have HN := Lib.hid (show Calls Tryz.prog 8 #[.int .i64 100] (W.alloc (.cells zeroCs 119)) fun e w' => ∃ b bd bm f own, e = .returned (.tuple #[.pointer (some ⟨b, 0, none⟩), .int .i64 0]) ∧ Lay w' (W.alloc (.cells zeroCs 119)).heap.size b bd bm f (St.new 100) own ∧ (W.alloc (.cells zeroCs 119)).grownBy w' none from disk_new 100 _ (by omega) (by omega))
  go_wp2_with fail
  refine HN.out.mono ?_
  rintro e w2 ⟨b, bd, bm, f, own, rfl, hl, hg2⟩
  have HS2 := Lib.hid (new_sat HT.out hl hg2)
  have HG2 := Lib.hid (HG0.out.trans hg2)
  have HBL := Lib.hid (show W.heap.size ≤ (W.alloc (.cells zeroCs 119)).heap.size from HG0.out.size)
  clear hl hg2 HN HT HG0
  generalize (W.alloc (.cells zeroCs 119)).heap.size = B at *
  generalize htb : W.heap.size = tb at HS2 ⊢
  have HTE := Lib.hid htb
  clear htb
  go_wp2_with fail
  refine (known5 HS2.out.t).mono ?_
  rintro e w3 ⟨rfl, hr3, hg3⟩
  have HS3 := Lib.hid (HS2.out.table hg3 (.inr hr3)); have HR3 := Lib.hid hr3
  have HG3 := Lib.hid (show W.grownBy w3 none from grown_none_of_size (row := some tb) ((grown_any_row HG2.out (some tb)).trans hg3) (fun j e => by cases e; exact Nat.le_of_eq HTE.out))
  clear hr3 hg3 HS2 HG2
  go_upto_if 43 with fail
  go_cut [8] (fun s8 wx => ∃ h : Nat, h < 64 ∧ s8 = .int .i64 h ∧ wx = w3)
  case first =>
    have ht1 := Int.tmod_lt_of_pos hd (show (0 : Int) < 64 by omega)
    have ht2 := Int.lt_tmod_of_pos hd (show (0 : Int) < 64 by omega)
    generalize hd.tmod 64 = t at *
    by_cases ht : t < 0
    · have hw : IntKind.i64.wrap (t + 64) = t + 64 := IntWalk.i64_in _ (by omega)
      go_wp2_with fail
      go_meet
      exact ⟨(t + 64).toNat, by omega, by rw [Int.toNat_of_nonneg (by omega)], rfl⟩
    · go_wp2_with fail
      go_meet
      exact ⟨t.toNat, by omega, by rw [Int.toNat_of_nonneg (by omega)], rfl⟩
  case rest =>
    obtain ⟨h, hh, rfl, rfl⟩ := hcut
    generalize wc = w3 at *
    have hmay := may_prefix (ep := 1) (hd := h) (sq := 0) hh (by omega) (by omega)
    have hga := World.grownBy_alloc w3 (.cells #[.int .i64 1, .int .i64 1, .int .i64 16, .int .i64 18, .int .i64 64, .int .i64 h, .int .i64 0] 49) none
    have HS4 := Lib.hid (HS3.out.quiet hga); have HR4 := Lib.hid (HR3.out.keep hga (by simp)); have HG4 := Lib.hid (HG3.out.trans hga)
    have HB4 := Lib.hid (Blk.new w3 49 #[.int .i64 1, .int .i64 1, .int .i64 16, .int .i64 18, .int .i64 64, .int .i64 h, .int .i64 0])
    have HO4 := Lib.hid (show ¬ With own tb w3.heap.size from fun ho => by
      rcases ho with ho | ho
      · have := HS3.out.own_lt ho; omega
      · have := tab_lt HS3.out.t; omega)
    have hnw := log_new HS4.out 1 16 1 18 64 h 0 hmay
    unfold supA at hnw
    have HNW := Lib.hid hnw
    have HWL := Lib.hid (show W.heap.size ≤ w3.heap.size from HG3.out.size)
    clear hmay hnw hga HS3 HR3 HG3
    go_wp2_with fail
    refine HNW.out.mono ?_
    rintro e w5 ⟨g, rfl, hge, hla, hg5⟩
    have hgb := HB4.out.lt
    have hb5 := HB4.out.grown hg5 (by simp)
    have HK5 := Lib.hid (show LK W w5 B b tb g (St.new 100) own (base5 1 h 0) from ⟨hla, HR4.out.keep hg5 (by simp), HG4.out.trans hg5, by have := HTE.out; have := HBL.out; have := HWL.out; omega⟩)
    have HKE := Lib.hid (show KeptQ w5 (With2 own tb g) w3.heap.size w5.heap.size #[.int .i64 1, .int .i64 ((1 : Nat) : Int), .int .i64 16, .int .i64 18, .int .i64 64, .int .i64 h, .int .i64 ((0 : Nat) : Int)] (.slice none 0 0) 0 [] from .fresh hb5 (fun ho => by
        rcases ho with ho | ho
        · exact HO4.out ho
        · omega) ⟨hb5.lt, Nat.le_refl _⟩)
    have HPS := Lib.hid (show PS W w5 B b tb g (St.new 100) own (base5 1 h 0) [] none 0 1 h 0 w3.heap.size w5.heap.size (.slice none 0 0) 0 from
      ⟨HK5.out, Ring.new (base5_ok hh) (fun o c _ hc => by
        have : c = DiskSpec.zeros := by
          rcases hc with hc | hc
          · exact hc
          · cases hc
        rw [this]; exact old_zeros _ _) rfl rfl rfl rfl rfl rfl rfl, rfl, fun p => Nat.le_refl _, hh, Nat.le_refl _, Nat.le_refl _, HKE.out, HWL.out⟩)
    clear hge hla hg5 hb5 hgb HNW HS4 HR4 HG4 HB4 HO4 HK5 HKE HWL
    generalize w3.heap.size = sb at *
    generalize w5.heap.size = bs at *
    go_wp2_with fail
    go_loopw [10, 11, 12, 13] (fun lv va sr i wr => ∃ (j g : Nat) (S : St) (ow : Nat → Prop) (L : Lg) (ls : List (List Img)) (bad : Option (List Img)) (sure ep hd sq : Nat), j ≤ n ∧ lv = .pointer (some ⟨g, 0, none⟩) ∧ sr = .int .i64 sure ∧ i = .int .i64 j ∧ PS W wr B b tb g S ow L ls bad sure ep hd sq sb bs va j) (fun _ _ _ i _ => n - (Go.RowKit.intOf i).toNat)
    case atStart => exact ⟨0, g, _, _, _, [], none, 0, 1, h, 0, Nat.zero_le _, rfl, rfl, rfl, HPS.out⟩
    case round =>
      clear HPS
      obtain ⟨j, g, S, ow, L, ls, bad, sure, ep, hd, sq, hj, rfl, rfl, rfl, hps⟩ := hrel
      have HP := Lib.hid hps
      clear hps
      by_cases hlt : j < n
      · have hjn : (j : Int) < (n : Int) := by omega
        obtain ⟨gc, oc, x, rfl, hx, hxok, hxn, e0, e1, e2, e3, e4, e5, e6⟩ := HSC.out.at_ HP.out.k.below hlt
        have HOK := Lib.hid hxok
        obtain ⟨kd, xA, xn, xc, pages, page, fill, at_, count, xA2, xn2, xc2, picks⟩ := x
        dsimp only at *
        have HIL := Lib.hid (imagesOf_len pages page fill)
        have HPL := Lib.hid (show pages.length = xn from HOK.out.pages.1)
        have HJ := Lib.hid (show j ≤ 1048576 from by omega)
        clear hx hxok
        have hga := World.grownBy_alloc wr (.cells #[.int .i64 kd, .slice xA xn xc, .int .i64 page, .int .i64 fill, .int .i64 at_, .int .i64 count, .slice xA2 xn2 xc2] 62) none
        have HP1 := Lib.hid (HP.out.quiet hga)
        have HX1 := Lib.hid (Blk.new wr 62 #[.int .i64 kd, .slice xA xn xc, .int .i64 page, .int .i64 fill, .int .i64 at_, .int .i64 count, .slice xA2 xn2 xc2])
        have HNX := Lib.hid (show ¬ With2 ow tb g wr.heap.size from fun ho => by have := HP.out.k.l.own_lt ho; omega)
        clear hga HP
        by_cases hk0 : kd = 0
        · subst hk0
          generalize hw1 : wr.alloc (.cells #[.int .i64 0, .slice xA xn xc, .int .i64 page, .int .i64 fill, .int .i64 at_, .int .i64 count, .slice xA2 xn2 xc2] 62) = w1 at HP1 HX1
          have HW1 := Lib.hid hw1
          clear hw1
          have HTL := Lib.hid (log_tail HP1.out.k.l.l)
          obtain ⟨Av, cv, rfl, _, _⟩ := HP1.out.kp.shape
          go_wp2_with fail
          rw [HW1.out]
          refine HTL.out.mono ?_
          rintro e w2 ⟨rfl, m2, rfl⟩
          have hg2 := grown_drewN (World.grownBy.refl w1 none) m2
          have HP2 := Lib.hid (HP1.out.quiet hg2)
          have HX2 := Lib.hid (HX1.out.grown hg2 (by simp))
          clear hg2 e0 e1 e2 e3 e4 e5 e6 HTL HP1 HX1 HW1
          generalize w1.drewN m2 = w2 at *
          generalize wr.heap.size = xb at *
          have x0 := HX2.out.cell 0; have x1 := HX2.out.cell 1; have x2 := HX2.out.cell 2; have x3 := HX2.out.cell 3; have x4 := HX2.out.cell 4; have x5 := HX2.out.cell 5; have x6 := HX2.out.cell 6
          simp only [List.getElem?_toArray, List.getElem?_cons_zero, List.getElem?_cons_succ] at x0 x1 x2 x3 x4 x5 x6
          have HOP := Lib.hid (op_images 0 xA xn xc pages page fill at_ count (.slice xA2 xn2 xc2) w2 (Log.PIn.ints HOK.out.pages HP2.out.k.below) hxn)
          go_wp2_with fail
          refine HOP.out.mono ?_
          rintro e w3 ⟨Ao, co, rfl, _, _, him, hg3⟩
          have HP3 := Lib.hid (HP2.out.quiet hg3)
          have HX3 := Lib.hid (HX2.out.grown hg3 (by simp))
          have HAPP := Lib.hid (log_append HP3.out.k.l Ao xn co (imagesOf pages page fill) (him.weak (fun i _ e => by subst e; exact tab_lt HP2.out.k.l.s.t)) (by omega) (fun i => by have := HP3.out.ver i; have := HJ.out; omega))
          have HRA := Lib.hid (HP3.out.r.append HP3.out.k.l.k (imagesOf pages page fill))
          clear him hg3 HOP HP2 HX2 x0 x1 x2 x3 x4 x5 x6
          go_wp2_with fail
          refine HAPP.out.mono ?_
          rintro e w4 ⟨rfl, ⟨own4, hla4, ht4⟩, hr4⟩
          have HK4 := Lib.hid (HP3.out.k.turn hla4 ht4 (hr4 (.inl HP3.out.k.r)))
          have HKE4 := Lib.hid (HP3.out.kp.turn ht4)
          have HX4 := Lib.hid (blk_of_block HX3.out (ht4.block xb HX3.out.lt HNX.out))
          clear hla4 ht4 hr4 HAPP HX3
          generalize appendE S L (imagesOf pages page fill) = R at *
          obtain ⟨er, T, M⟩ := R
          have HNE := Lib.hid HRA.out.1
          rcases HRA.out.2 with ⟨he, hsq, hrg⟩ | ⟨he, bad', hrg⟩
          · dsimp only at *
            subst he
            have HRG := Lib.hid hrg; have HSQ := Lib.hid (show (L.seq : Int) = (sq : Int) + (ls.length : Int) from by have e : (base5 ep hd sq).seq = sq := rfl; rw [e] at hsq; omega)
            have hlsl : ls.length ≤ 64 := by have := total_ge ls; have := HP3.out.r.all; have e : (base5 ep hd sq).ln = 64 := rfl; omega
            clear hsq hrg HRA
            have x0 := HX4.out.cell 0; have x1 := HX4.out.cell 1; have x2 := HX4.out.cell 2; have x3 := HX4.out.cell 3; have x4 := HX4.out.cell 4; have x5 := HX4.out.cell 5; have x6 := HX4.out.cell 6
            simp only [List.getElem?_toArray, List.getElem?_cons_zero, List.getElem?_cons_succ] at x0 x1 x2 x3 x4 x5 x6
            have HOP2 := Lib.hid (op_images 0 xA xn xc pages page fill at_ count (.slice xA2 xn2 xc2) w4 (Log.PIn.ints HOK.out.pages HK4.out.below) hxn)
            clear HX4
            go_wp2_with fail
            refine HOP2.out.mono ?_
            rintro e w5 ⟨Ao2, co2, rfl, hc2, _, him2, hg5⟩
            have HK5 := Lib.hid (HK4.out.quiet hg5)
            have hke5 := HKE4.out.quiet hg5
            have HKE5 := Lib.hid hke5
            obtain ⟨R5, r51, r52, r53⟩ := hke5.re
            have HR1 := Lib.hid r51; have HR2 := Lib.hid r52; have HR3 := Lib.hid r53
            have HC2 := Lib.hid hc2
            have HIM2 := Lib.hid (him2.weak (Q := fun i => With2 own4 tb g i ∨ (Value.slice Av ls.length cv).ownBlock = some i) (fun i _ hi => by
              rcases hi with hi | hi
              · exact HK4.out.l.own_lt hi
              · obtain ⟨R6, q1, _⟩ := HKE4.out.re
                exact (q1.base_ i hi).2))
            have HBL2 := Lib.hid hke5.lo
            have hbl := hke5.lo.2
            clear him2 hg5 hke5 r51 r52 r53 hc2 HOP2 HK4 HKE4 x0 x1 x2 x3 x4 x5 x6
            generalize (L.seq : Int) = lq at *
            go_wp2_with (at_builtin
                         refine wpList_append_own_full _ rfl (.tmp 78) (.tmp 83) _ rfl bs 69 i0 _ 2 32 Tryz.underlying60 hi.out z0.out z1.out z2.out rfl (by omega) _ ls.length _ rfl (HR1.out.alloc _)
                           _ _ 1 1 _ rfl (reads_one_rec _ _ _) (fun u hu => by simp at hu; rcases hu with rfl | rfl <;> rfl) (by simp only [maxLen]; omega) (by omega) (by simp; omega) ?_
                         intro v' w6 hown' hgr'
                         have HO6 := Lib.hid hown'; have HG6 := Lib.hid hgr'; clear hown' hgr')
            have HN := Lib.hid (HKE5.out.next HR1.out HR2.out HR3.out (fun i hi => HK5.out.l.own_lt hi) HC2.out HIM2.out (World.grownBy_alloc w5 _ none) HSQ.out HO6.out HG6.out)
            have HNK := Lib.hid (show LK W w6 B b tb g T own4 M from by
              have hka := HK5.out.quiet (World.grownBy_alloc w5 (.cells #[.int .i64 lq, .slice Ao2 xn co2] 69) none)
              have hqb : ∀ q, (Value.slice Av ls.length cv).ownBlock = some q → bs ≤ q := fun q hq => (HR1.out.base_ q hq).1
              exact hka.far HG6.out.1 (fun q hq => HKE5.out.ro q hq) (fun q hq => by have := hqb q hq; have := HBL2.out.1; have := HP3.out.wb; omega))
            have HPN := Lib.hid (show PS W w6 B b tb g T own4 M (ls ++ [imagesOf pages page fill]) none sure ep hd sq sb bs v' (j + 1) from
              ⟨HNK.out, HRG.out, by rw [HNE.out.n]; exact HP3.out.n, fun p => by have := HNE.out.lens p; have := HP3.out.ver p; omega, HP3.out.lhd, Nat.le_succ_of_le HP3.out.lep, by have := HNE.out.seq; have := HP3.out.seq; omega, HN.out, HP3.out.wb⟩)
            clear HO6 HG6 HR1 HR2 HR3 HIM2 HK5 HKE5 HN HNK
            go_roundw
            case rel => exact ⟨j + 1, g, T, own4, M, ls ++ [imagesOf pages page fill], none, sure, ep, hd, sq, by omega, rfl, rfl, by go_num, HPN.out⟩
            case measure => simp [Go.RowKit.intOf]; omega
          · dsimp only at *
            have heB : (er == 0) = false := by simpa using he
            have HPN := Lib.hid (show PS W w4 B b tb g T own4 M ls bad' sure ep hd sq sb bs (.slice Av ls.length cv) (j + 1) from
              ⟨HK4.out, hrg, by rw [HNE.out.n]; exact HP3.out.n, fun p => by have := HNE.out.lens p; have := HP3.out.ver p; omega, HP3.out.lhd, Nat.le_succ_of_le HP3.out.lep, by have := HNE.out.seq; have := HP3.out.seq; omega, HKE4.out, HP3.out.wb⟩)
            clear HRA HNE HK4 HKE4 HX4 hrg he
            go_wp2_with fail
            go_roundw
            case rel => exact ⟨j + 1, g, T, own4, M, ls, bad', sure, ep, hd, sq, by omega, rfl, rfl, by go_num, HPN.out⟩
            case measure => simp [Go.RowKit.intOf]; omega
        · have hb0 : (kd == 0) = false := by simpa using hk0
          by_cases hk1 : kd = 1
          · subst hk1
            have HFL := Lib.hid (disk_flush_all HP1.out.k.l.s.d)
            by_cases hs : S.f3 = 1 ∨ S.left = 0
            · have he : flushE S = (12, { S with f3 := S.f3 - 1 }) := by unfold flushE; rw [if_pos hs]
              rw [he] at HFL
              clear he hs
              go_wp2_with fail
              refine HFL.out.mono ?_
              rintro e w2 ⟨rfl, hd2, ht2⟩
              have HP2 := Lib.hid (HP1.out.same hd2 ht2 rfl rfl rfl).step
              clear hd2 ht2 HFL HP1 HX1 e0 e1 e2 e3 e4 e5 e6
              go_wp2_with fail
              go_roundw
              case rel => exact ⟨j + 1, g, _, ow, L, ls, bad, sure, ep, hd, sq, by omega, rfl, rfl, by go_num, HP2.out⟩
              case measure => simp [Go.RowKit.intOf]; omega
            · have he : flushE S = (0, ({ S with f3 := S.f3 - 1 } : St).flush.done) := by unfold flushE; rw [if_neg hs]
              have hT0 : ∃ T : St, T.dur = S.now ∧ (∀ p, T.ver p = []) ∧ T.n = S.n ∧ flushE S = (0, T) := ⟨({ S with f3 := S.f3 - 1 } : St).flush.done, rfl, fun _ => rfl, rfl, he⟩
              obtain ⟨T, hT1, hT2, hT3, he2⟩ := hT0
              rw [he2] at HFL
              have HT1 := Lib.hid hT1; have HT2 := Lib.hid hT2; have HT3 := Lib.hid hT3
              obtain ⟨Av, cv, rfl, _, _⟩ := HP1.out.kp.shape
              clear he he2 hs hT1 hT2 hT3
              go_wp2_with fail
              refine HFL.out.mono ?_
              rintro e w2 ⟨rfl, hd2, ht2⟩
              have HP2 := Lib.hid (HP1.out.flush hd2 ht2 HT1.out HT2.out HT3.out)
              clear hd2 ht2 HFL HP1 HX1 e0 e1 e2 e3 e4 e5 e6 HT1 HT2 HT3
              have HD := Lib.hid (log_drop HP2.out.k.l.l)
              go_wp2_with fail
              refine HD.out.mono ?_
              rintro e w3 ⟨rfl, hlb, hg3⟩
              have HK3 := Lib.hid (HP2.out.k.log hg3 hlb HP2.out.k.l.k.drop)
              have HB3 := Lib.hid (HP2.out.kp.b.grown hg3 (fun e => by cases e; exact HP2.out.kp.o (.inr rfl)))
              have HSZ := Lib.hid hg3.size
              have HTL := Lib.hid (log_tail HK3.out.l.l)
              clear hlb hg3 HD
              go_wp2_with fail
              refine HTL.out.mono ?_
              rintro e w4 ⟨rfl, m4, rfl⟩
              have hg4 := grown_drewN (World.grownBy.refl w3 none) m4
              have HK4 := Lib.hid (HK3.out.quiet hg4)
              have HB4 := Lib.hid (HB3.out.grown hg4 (by simp))
              have HSZ4 := Lib.hid (Nat.le_trans HSZ.out hg4.size)
              clear hg4 HK3 HB3 HSZ HTL
              generalize w3.drewN m4 = w4 at *
              have f5 := HB4.out.frozen 5; have f6 := HB4.out.frozen 6
              have y5 := HB4.out.cell 5; have y6 := HB4.out.cell 6
              simp only [List.getElem?_toArray, List.getElem?_cons_zero, List.getElem?_cons_succ] at y5 y6
              have hs1 := Lib.grownBy_setB (World.grownBy.refl w4 (some sb)) 5 (.int .i64 (L.tail : Nat))
              have hs2 := Lib.grownBy_setB hs1 6 (.int .i64 (L.seq : Nat))
              have hb6 := (HB4.out.set_ 5 (.int .i64 (L.tail : Nat))).set_ 6 (.int .i64 (L.seq : Nat))
              have hk6 := HK4.out.far hs2 (fun q e => by cases e; exact fun ho => HP2.out.kp.o ho) (fun q e => by cases e; exact HP2.out.wb)
              have HPD := Lib.hid (HP2.out.dropped hk6 hb6 (Nat.le_trans HSZ4.out hs2.size))
              clear hs1 hs2 hb6 hk6 HK4 HB4 HSZ4
              go_wp2_with fail
              go_roundw
              case rel => exact ⟨j + 1, g, T, ow, L.drop, [], none, 0, ep, L.tail, L.seq, by omega, rfl, rfl, by go_num, HPD.out.step⟩
              case measure => simp [Go.RowKit.intOf]; omega
          · have hb1 : (kd == 1) = false := by simpa using hk1
            by_cases hk2 : kd = 2
            · subst hk2
              have HFL := Lib.hid (disk_flush_all HP1.out.k.l.s.d)
              by_cases hs : S.f3 = 1 ∨ S.left = 0
              · have he : flushE S = (12, { S with f3 := S.f3 - 1 }) := by unfold flushE; rw [if_pos hs]
                rw [he] at HFL
                clear he hs
                go_wp2_with fail
                refine HFL.out.mono ?_
                rintro e w2 ⟨rfl, hd2, ht2⟩
                have HP2 := Lib.hid (HP1.out.same hd2 ht2 rfl rfl rfl).step
                clear hd2 ht2 HFL HP1 HX1 e0 e1 e2 e3 e4 e5 e6
                go_wp2_with fail
                go_roundw
                case rel => exact ⟨j + 1, g, _, ow, L, ls, bad, sure, ep, hd, sq, by omega, rfl, rfl, by go_num, HP2.out⟩
                case measure => simp [Go.RowKit.intOf]; omega
              · have he : flushE S = (0, ({ S with f3 := S.f3 - 1 } : St).flush.done) := by unfold flushE; rw [if_neg hs]
                have hT1 : (({ S with f3 := S.f3 - 1 } : St).flush.done).dur = S.now := rfl
                have hT2 : ∀ p, (({ S with f3 := S.f3 - 1 } : St).flush.done).ver p = [] := fun _ => rfl
                have hT3 : (({ S with f3 := S.f3 - 1 } : St).flush.done).n = S.n := rfl
                rw [he] at HFL
                generalize ({ S with f3 := S.f3 - 1 } : St).flush.done = T at *
                have HT1 := Lib.hid hT1; have HT2 := Lib.hid hT2; have HT3 := Lib.hid hT3
                obtain ⟨Av, cv, rfl, _, _⟩ := HP1.out.kp.shape
                clear he hs hT1 hT2 hT3
                go_wp2_with fail
                refine HFL.out.mono ?_
                rintro e w2 ⟨rfl, hd2, ht2⟩
                have HP2 := Lib.hid (HP1.out.flush hd2 ht2 HT1.out HT2.out HT3.out).step
                clear hd2 ht2 HFL HP1 HX1 e0 e1 e2 e3 e4 e5 e6
                go_wp2_with fail
                go_roundw
                case rel => exact ⟨j + 1, g, _, ow, L, ls, bad, ls.length, ep, hd, sq, by omega, rfl, rfl, by go_num, HP2.out⟩
                case measure => simp [Go.RowKit.intOf]; omega
            · have hb2 : (kd == 2) = false := by simpa using hk2
              by_cases hk3 : kd = 3
              · subst hk3
                have ht1 := Int.tmod_lt_of_pos at_ (show (0 : Int) < 2 by omega)
                have ht2 := Int.lt_tmod_of_pos at_ (show (0 : Int) < 2 by omega)
                obtain ⟨tm, htm⟩ : ∃ tm : Int, at_.tmod 2 = tm := ⟨_, rfl⟩
                rw [htm] at ht1 ht2
                have hw : IntKind.i64.wrap (2 + tm) = 2 + tm := IntWalk.i64_in _ (by omega)
                have hw2 : IntKind.i64.wrap tm = tm := IntWalk.i64_in _ (by omega)
                have HFA := Lib.hid (disk_fail_all HP1.out.k.l.s.d (2 + tm) count)
                have HFE := Lib.hid (show (failE S (2 + tm) count).2.dur = S.dur ∧ (failE S (2 + tm) count).2.ver = S.ver ∧ (failE S (2 + tm) count).2.n = S.n from by
                  unfold failE
                  repeat' split
                  all_goals exact ⟨rfl, rfl, rfl⟩)
                go_wp2_with fail
                refine HFA.out.mono ?_
                rintro e w2 ⟨rfl, hd2, ht2⟩
                have HP2 := Lib.hid (HP1.out.same hd2 ht2 HFE.out.1 HFE.out.2.1 HFE.out.2.2).step
                clear hd2 ht2 HFA HP1 HX1 e0 e1 e2 e3 e4 e5 e6
                go_wp2_with fail
                go_roundw
                case rel => exact ⟨j + 1, g, _, ow, L, ls, bad, sure, ep, hd, sq, by omega, rfl, rfl, by go_num, HP2.out⟩
                case measure => simp [Go.RowKit.intOf]; omega
              · have hb3 : (kd == 3) = false := by simpa using hk3
                by_cases hk4 : kd = 4
                · subst hk4
                  have HFA := Lib.hid (disk_cut_all HP1.out.k.l.s.d count)
                  have HFE := Lib.hid (show (cutE S count).2.dur = S.dur ∧ (cutE S count).2.ver = S.ver ∧ (cutE S count).2.n = S.n from by
                    unfold cutE
                    split
                    all_goals exact ⟨rfl, rfl, rfl⟩)
                  go_wp2_with fail
                  refine HFA.out.mono ?_
                  rintro e w2 ⟨rfl, hd2, ht2⟩
                  have HP2 := Lib.hid (HP1.out.same hd2 ht2 HFE.out.1 HFE.out.2.1 HFE.out.2.2).step
                  clear hd2 ht2 HFA HP1 HX1 e0 e1 e2 e3 e4 e5 e6
                  go_wp2_with fail
                  go_roundw
                  case rel => exact ⟨j + 1, g, _, ow, L, ls, bad, sure, ep, hd, sq, by omega, rfl, rfl, by go_num, HP2.out⟩
                  case measure => simp [Go.RowKit.intOf]; omega
                · have hb4 : (kd == 4) = false := by simpa using hk4
                  by_cases hk5 : kd = 5
                  · subst hk5
                    obtain ⟨Av, cv, rfl, hlc, hcv⟩ := HP1.out.kp.shape
                    have HLC := Lib.hid hlc; have HCV := Lib.hid hcv
                    have hpk := PIn.picks (own := ow) HOK.out.picks HP1.out.k.below (fun i hi => HP1.out.k.low i (.inl (.inl hi)))
                    have HCR := Lib.hid (disk_crash_all HP1.out.k.l.s.d xA2 xn2 xc2 picks hpk (by have := HOK.out.n2; unfold maxLen at this; omega) (fun i => by have := HP1.out.ver i; have := HJ.out; omega))
                    have HFD := Lib.hid (HP1.out.found picks)
                    clear hpk hlc hcv
                    go_wp2_with fail
                    refine HCR.out.mono ?_
                    rintro e w2 ⟨rfl, hd2, ht2⟩
                    have HK2 := Lib.hid (HP1.out.k.disk hd2 ht2 rfl)
                    have HKP2 := Lib.hid (HP1.out.kp.turn (turn_own2 ht2))
                    have HSZ2 := Lib.hid ht2.size
                    obtain ⟨m, hm1, hm2, hop, htl, hsqj⟩ := HFD.out
                    have HM1 := Lib.hid hm1; have HM2 := Lib.hid hm2; have HTL := Lib.hid htl; have HSQ := Lib.hid hsqj
                    have HOPR := Lib.hid (show openR (S.crash picks) (Lg.new 1 ep 16 18 64 hd sq).ln (Lg.new 1 ep 16 18 64 hd sq) = (recsOf (sq : Int) (ls.take m), passes (base5 ep hd sq) (ls.take m)) from hop)
                    have s0 := HKP2.out.b.cell 0; have s1 := HKP2.out.b.cell 1; have s2 := HKP2.out.b.cell 2; have s3 := HKP2.out.b.cell 3; have s4 := HKP2.out.b.cell 4; have s5 := HKP2.out.b.cell 5; have s6 := HKP2.out.b.cell 6
                    simp only [List.getElem?_toArray, List.getElem?_cons_zero, List.getElem?_cons_succ] at s0 s1 s2 s3 s4 s5 s6
                    have hlow := HP1.out.low; have hsq1 := HP1.out.seq; have hlep := HP1.out.lep
                    have HSQJ := Lib.hid (show sq ≤ j from by omega)
                    have hmay := may_prefix (ep := ep) (hd := hd) (sq := sq) HP1.out.lhd (by have := HJ.out; omega) (by have := HJ.out; omega)
                    have hopn := log_open HK2.out.l.s HK2.out.r rfl 1 16 ep 18 64 hd sq (by rw [show (S.crash picks).n = 100 from HP1.out.n]; exact hmay) (by have := HJ.out; omega)
                    rw [show Opened5 w2 B b tb (S.crash picks) ow (Lg.new 1 ep 16 18 64 hd sq) = fun e w' => Opened5 w2 B b tb (S.crash picks) ow (Lg.new 1 ep 16 18 64 hd sq) e w' from rfl] at hopn
                    unfold supA Opened5 at hopn
                    rw [HOPR.out] at hopn
                    have HOPN := Lib.hid hopn
                    clear hm1 hm2 hop htl hsqj hlow hsq1 hlep hmay hopn hd2 ht2 HCR HFD e0 e1 e2 e3 e4 e5 e6
                    go_wp2_with fail
                    refine HOPN.out.mono ?_
                    rintro e w3 ⟨g2, A2, n2, c2, rfl, hnc2, hge2, hla3, hr3, hrec3, ht3⟩
                    try dsimp only at hla3 hrec3
                    have hn2 := hrec3.len
                    rw [recsOf_len, List.length_take] at hn2
                    obtain rfl : m = n2 := by have := HM2.out; omega
                    have ht3' : Turn w2 w3 (With2 ow tb g) (With2 ow tb g) := turn_own2 ht3
                    have hal := HKP2.out.recs.take HM2.out
                    rw [recsOf_take] at hal
                    have hall := HP1.out.r.all
                    have hlsl : ls.length ≤ 64 := by have := total_ge ls; have e : (base5 ep hd sq).ln = 64 := rfl; omega
                    have HEQ := Lib.hid (records_eq A2 Av m c2 cv (recsOf (sq : Int) (ls.take m)) hrec3 (hal.turn ht3') (by have := HM2.out; omega) (by rw [← recsOf_take]; exact small_take (small_fit _ HP1.out.r.fit) m))
                    have HLK3 := Lib.hid (HK2.out.turn (HK2.out.l.disk hla3.s.d ht3 rfl) ht3' hr3)
                    have HKP3 := Lib.hid (HKP2.out.turn ht3')
                    have HLB3 := Lib.hid hla3.l
                    have HSZ3 := Lib.hid (Nat.le_trans HSZ2.out ht3.size)
                    have HGE := Lib.hid hge2
                    clear hge2 hla3 hr3 hrec3 ht3 ht3' hal hall s0 s1 s2 s3 s4 s5 s6 HOPN HK2 HKP2 HSZ2 hn2
                    have g2' : ¬ ((m : Int) < (sure : Int)) := by have := HM1.out; omega
                    have g3 : ¬ ((ls.length : Int) < (m : Int)) := by have := HM2.out; omega
                    have g4 : (m : Int) ≤ (ls.length : Int) := by have := HM2.out; omega
                    have g5 : (sure : Int) ≤ (m : Int) := by have := HM1.out; omega
                    have g6 : m ≤ cv := by have := HM2.out; have := HLC.out; omega
                    have g7 : (m : Int) ≤ (cv : Int) := by omega
                    go_wp2_with fail
                    refine HEQ.out.mono ?_
                    rintro e w4 ⟨rfl, hg4⟩
                    have HLK4 := Lib.hid (HLK3.out.quiet hg4); have HKP4 := Lib.hid (HKP3.out.quiet hg4); have HLB4 := Lib.hid (HLB3.out.grown hg4 (by simp)); have HSZ4 := Lib.hid (Nat.le_trans HSZ3.out hg4.size)
                    clear hg4 HEQ HLK3 HKP3 HLB3 HSZ3 g2' g3 g4 g5 g6 g7
                    have HT4 := Lib.hid (log_tail HLB4.out)
                    go_wp2_with fail
                    refine HT4.out.mono ?_
                    rintro e w5 ⟨rfl, m5, rfl⟩
                    have hg5 := grown_drewN (World.grownBy.refl w4 none) m5
                    have HLK5 := Lib.hid (HLK4.out.quiet hg5); have HKP5 := Lib.hid (HKP4.out.quiet hg5); have HSZ5 := Lib.hid (Nat.le_trans HSZ4.out hg5.size)
                    clear hg5 HT4 HLK4 HKP4 HLB4 HSZ4
                    generalize w4.drewN m5 = w5 at *
                    generalize (passes (base5 ep hd sq) (ls.take m)).tail = hd' at *
                    generalize (passes (base5 ep hd sq) (ls.take m)).seq = sq' at *
                    obtain ⟨ep', hep'⟩ : ∃ e : Nat, e = ep + 1 := ⟨_, rfl⟩
                    have HEP := Lib.hid hep'
                    have hwr : IntKind.i64.wrap ((ep : Int) + 1) = (ep' : Int) := by
                      rw [hep']; have := HP1.out.lep; have := HJ.out
                      exact IntWalk.i64_in _ (by omega)
                    clear hep'
                    have f5 := HKP5.out.b.frozen 5; have f6 := HKP5.out.b.frozen 6
                    have y5 := HKP5.out.b.cell 5; have y6 := HKP5.out.b.cell 6
                    simp only [List.getElem?_toArray, List.getElem?_cons_zero, List.getElem?_cons_succ] at y5 y6
                    have hs1 := Lib.grownBy_setB (World.grownBy.refl w5 (some sb)) 5 (.int .i64 (hd' : Nat))
                    have hs2 := Lib.grownBy_setB hs1 6 (.int .i64 (sq' : Nat))
                    have hb6 := (HKP5.out.b.set_ 5 (.int .i64 (hd' : Nat))).set_ 6 (.int .i64 (sq' : Nat))
                    have HG6 := Lib.hid hs2
                    have HB6 := Lib.hid (show Blk ((w5.setCell ⟨sb, 5, none⟩ (.int .i64 (hd' : Nat))).setCell ⟨sb, 6, none⟩ (.int .i64 (sq' : Nat))) sb 49 #[.int .i64 1, .int .i64 (ep : Nat), .int .i64 16, .int .i64 18, .int .i64 64, .int .i64 (hd' : Nat), .int .i64 (sq' : Nat)] from hb6)
                    clear hs1 hs2 hb6
                    go_upto_region 46 with fail
                    generalize (w5.setCell ⟨sb, 5, none⟩ (.int .i64 (hd' : Nat))).setCell ⟨sb, 6, none⟩ (.int .i64 (sq' : Nat)) = w6 at *
                    have x1 := HB6.out.cell 1; have f1 := HB6.out.frozen 1
                    simp only [List.getElem?_toArray, List.getElem?_cons_zero, List.getElem?_cons_succ] at x1
                    have hs7 := Lib.grownBy_setB (World.grownBy.refl w6 (some sb)) 1 (.int .i64 (ep' : Nat))
                    have HG7 := Lib.hid (show w5.grownBy (w6.setCell ⟨sb, 1, none⟩ (.int .i64 (ep' : Nat))) (some sb) from HG6.out.trans hs7)
                    have HB7 := Lib.hid (show Blk (w6.setCell ⟨sb, 1, none⟩ (.int .i64 (ep' : Nat))) sb 49 #[.int .i64 1, .int .i64 (ep' : Nat), .int .i64 16, .int .i64 18, .int .i64 64, .int .i64 (hd' : Nat), .int .i64 (sq' : Nat)] from HB6.out.set_ 1 (.int .i64 (ep' : Nat)))
                    clear hs7 HG6 HB6
                    go_upto_region 47 with fail
                    generalize w6.setCell ⟨sb, 1, none⟩ (.int .i64 (ep' : Nat)) = w7 at *
                    clear x1 f1 f5 f6 y5 y6
                    have s0 := HB7.out.cell 0; have s1 := HB7.out.cell 1; have s2 := HB7.out.cell 2; have s3 := HB7.out.cell 3; have s4 := HB7.out.cell 4; have s5 := HB7.out.cell 5; have s6 := HB7.out.cell 6
                    simp only [List.getElem?_toArray, List.getElem?_cons_zero, List.getElem?_cons_succ] at s0 s1 s2 s3 s4 s5 s6
                    have HLK7 := Lib.hid (HLK5.out.far HG7.out (fun q e => by cases e; exact fun ho => HP1.out.kp.o ho) (fun q e => by cases e; exact HP1.out.wb))
                    have HSZ7 := Lib.hid (Nat.le_trans HSZ5.out HG7.out.size)
                    have hmay := may_prefix (ep := ep') (hd := hd') (sq := sq') HTL.out (by have := HEP.out; have := HP1.out.lep; have := HJ.out; omega) (by have := HSQ.out; have := HJ.out; omega)
                    have hnw := log_new HLK7.out.l.s 1 16 ep' 18 64 hd' sq' (by rw [show (S.crash picks).n = 100 from HP1.out.n]; exact hmay)
                    unfold supA at hnw
                    have HNW := Lib.hid hnw
                    clear hmay hnw HG7 HLK5 HKP5 HSZ5 hwr
                    go_wp2_with fail
                    refine HNW.out.mono ?_
                    rintro e w8 ⟨g', rfl, hge8, hla8, hg8⟩
                    have HPN := Lib.hid (HP1.out.crashed picks HTL.out HSQ.out HEP.out (HLK7.out.newlog hla8 hg8 hge8) (HB7.out.grown hg8 (by simp)) (Nat.le_trans HSZ7.out hg8.size) (by have := HB7.out.lt; omega))
                    clear hge8 hla8 hg8 HNW s0 s1 s2 s3 s4 s5 s6
                    go_wp2_with fail
                    go_roundw
                    case rel => exact ⟨j + 1, g', _, ow, _, [], none, 0, ep', hd', sq', by omega, rfl, rfl, by go_num, HPN.out⟩
                    case measure => simp [Go.RowKit.intOf]; omega
                  · have hb5 : (kd == 5) = false := by simpa using hk5
                    have HP2 := Lib.hid HP1.out.step
                    go_wp2_with fail
                    go_roundw
                    case rel => exact ⟨j + 1, g, _, ow, L, ls, bad, sure, ep, hd, sq, by omega, rfl, rfl, by go_num, HP2.out⟩
                    case measure => simp [Go.RowKit.intOf]; omega
      · obtain rfl : j = n := by omega
        go_wp2_with fail
        go_ret
        exact ⟨rfl, HP.out.k.below⟩
end Go.Proofs.YtboccfficmaoaaaGreat.LogPrefixUpto
