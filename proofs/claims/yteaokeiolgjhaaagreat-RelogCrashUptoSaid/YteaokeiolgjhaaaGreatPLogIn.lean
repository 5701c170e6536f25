/- Texts of this seat's proofs: LogIn, LogScript, StoScript, RelScript. -/
import Derived.Test.YteaokeiolgjhaaaGreatPLogImgs
import Derived.Test.YteaokeiolgjhaaaGreatPOpenOps
/- Arguments of the log's laws, opened. -/
namespace Go.Proofs.YteaokeiolgjhaaaGreat.Log
open Go.ChangeShapes Go.WideShapes Go.RowKit CrcMath CodecMath Mem Crc Codec DiskSpec Dsk Sup

set_option maxRecDepth 100000 in
theorem open_counts {H : Type} {enc : TypeId × Value → H} {W : World} {base : Nat} {v : Value} {d : DataW H} {p : List MemPlace} (o : Value.okWide Tryz.prog W .any base 32 v) (h : DataW.Trod enc Tryz.prog W 0 (fun _ => true) true 32 v d p) :
    ∃ A n c l, v = .slice A n c ∧ PIn W A n l ∧ (n = 0 ∨ ∃ el sp, d = .slice el sp ∧ el.length = n) := by
  obtain ⟨A, n, c, rfl⟩ := okWide_slice Tryz.underlying32 o
  obtain ⟨fuel, hf⟩ := h
  rcases open_ints Tryz.underlying32 Tryz.underlying3 (by kernel_rfl) hf with ⟨hcs, _⟩ | ⟨x, l, c', zs, hcs, _, hl, hm, hz, hx, hcell, hwz⟩
  · simp [Value.cells] at hcs
    obtain ⟨rfl, rfl, rfl⟩ := hcs
    exact ⟨_, _, _, [], rfl, ⟨rfl, by simp, by omega⟩, .inl rfl⟩
  · simp [Value.cells] at hcs
    obtain ⟨rfl, rfl, rfl⟩ := hcs
    simp only [Prod.mk.injEq] at hx
    obtain ⟨rfl, _⟩ := hx
    have hz' : zs.length = c := by simpa using hz
    refine ⟨_, _, _, zs.take n, rfl, ⟨by simp; omega, fun y hy => bounds_i64 (hwz y (List.mem_of_mem_take hy)), fun hn => ?_⟩, .inr ⟨_, _, rfl, by simp [lits]; omega⟩⟩
    obtain ⟨g, o2, sp⟩ := x
    have h0 := hcell 0 (by omega)
    have hsp : sp = none := by simpa [Addr.add] using World.cell?_spot h0
    subst hsp
    have hlt : g < W.heap.size := by have := World.block_lt_of_cell? W _ h0; simpa [Addr.add] using this
    refine ⟨g, o2, rfl, hlt, fun j hj => ?_⟩
    have h1 := hcell j (by omega)
    rw [Addr.add_mid] at h1
    rw [h1]
    congr 2
    simp [List.getD_eq_getElem?_getD, hj]
theorem PIn.at_ {W w : World} {A : Option Addr} {n : Nat} {l : List Int} (h : PIn W A n l) (hb : Below W.heap.size W w) {j : Nat} (hj : j < n) : ∃ g o, A = some ⟨g, o, none⟩ ∧ w.cell? ⟨g, o + j, none⟩ = some (.int .i64 (l.getD j 0)) ∧ -9223372036854775808 ≤ l.getD j 0 ∧ l.getD j 0 ≤ 9223372036854775807 := by
  obtain ⟨g, o, rfl, hlt, hc⟩ := h.2.2 (by omega)
  have hm : l.getD j 0 ∈ l := by rw [List.getD_eq_getElem?_getD, List.getElem?_eq_getElem (by rw [h.1]; omega)]; exact List.getElem_mem _
  exact ⟨g, o, rfl, by rw [World.cell?_of_block (a := ⟨g, o + j, none⟩) (hb.block g hlt)]; exact hc j hj, h.2.1 _ hm⟩

/-! ### Where the laws stand -/
/-- A law's log: since W nothing that was there has turned. -/
structure LK (W w : World) (B b tb g : Nat) (S : St) (own : Nat → Prop) (L : Lg) : Prop where
  l : LAt w B b tb g S own L
  r : Ready w tb
  b : W.grownBy w none
  lo : W.heap.size ≤ tb ∧ W.heap.size ≤ B ∧ W.heap.size ≤ g
section
variable {W w w' : World} {B b tb g : Nat} {S T : St} {own own' : Nat → Prop} {L M : Lg}
theorem LK.quiet (h : LK W w B b tb g S own L) (hg : w.grownBy w' none) : LK W w' B b tb g S own L := ⟨h.l.quiet hg, h.r.keep hg (by simp), h.b.trans hg, h.lo⟩
theorem LK.low (h : LK W w B b tb g S own L) : ∀ i, With2 own tb g i → W.heap.size ≤ i := fun i hi => by
  rcases hi with (hi | hi) | hi
  · exact Nat.le_trans h.lo.2.1 (h.l.s.low hi)
  · rw [hi]; exact h.lo.1
  · rw [hi]; exact h.lo.2.2
theorem LK.turn (h : LK W w B b tb g S own L) (hl : LAt w' B b tb g T own' M) (ht : Turn w w' (With2 own tb g) (With2 own' tb g)) (hr : Ready w' tb) : LK W w' B b tb g T own' M :=
  ⟨hl, hr, ⟨ht.os.trans h.b.os, ht.tape.trans h.b.tape, ht.output.trans h.b.output, Nat.le_trans h.b.size ht.size, fun i hi _ => (ht.block i (Nat.lt_of_lt_of_le hi h.b.size) (fun hp => by have := h.low i hp; omega)).trans (h.b.block i hi (by simp))⟩, h.lo⟩
theorem LK.below (h : LK W w B b tb g S own L) : Below W.heap.size W w := below_of_grown h.b (Nat.le_refl _) (fun _ e => by cases e)
/-- The log's own cells are written. -/
theorem LK.log (h : LK W w B b tb g S own L) (hg : w.grownBy w' (some g)) (hl : LBlk w' g M b tb) (hk : M.ok S.n) : LK W w' B b tb g S own M :=
  h.turn (h.l.log hg hl hk) (turn_logblk hg) (h.r.keep hg (by have := h.l.ne; simp; omega))
end
end Go.Proofs.YteaokeiolgjhaaaGreat.Log
/- Scripts of the log's laws that came in, opened. -/
namespace Go.Proofs.YteaokeiolgjhaaaGreat.Log
open Go.ChangeShapes Go.WideShapes Go.RowKit CrcMath CodecMath Mem Crc Codec DiskSpec Dsk Sup

theorem bulk_one {H : Type} : ∀ d : DataW H, 1 ≤ Rows.uptoBulk d := by
  intro d
  cases d with
  | lit l => cases l <;> simp [Rows.uptoBulk]
  | _ => simp [Rows.uptoBulk]
theorem bulk_all {H : Type} : ∀ l : List (DataW H), l.length ≤ Rows.uptoBulkAll l
  | [] => by simp [Rows.uptoBulkAll]
  | x :: r => by have := bulk_one x; have := bulk_all r; simp only [Rows.uptoBulkAll, List.length_cons]; omega
theorem bulk_mem {H : Type} {d : DataW H} : ∀ {l : List (DataW H)}, d ∈ l → Rows.uptoBulk d ≤ Rows.uptoBulkAll l
  | [], h => by cases h
  | x :: r, h => by
    simp only [Rows.uptoBulkAll]
    rcases List.mem_cons.1 h with rfl | h
    · omega
    · have := bulk_mem h; omega
set_option maxRecDepth 100000 in
theorem bulk_bound {H : Type} {ds : List (DataW H)} {d : DataW H} (hk : Rows.uptoSmall H ds = true) (hd : d ∈ ds) : Rows.uptoBulk d ≤ 1048576 := by
  unfold Rows.uptoSmall at hk
  rw [decide_eq_true_eq] at hk
  exact Nat.le_trans (bulk_mem hd) hk
section
variable {H : Type} {enc : TypeId × Value → H} {w : World} {fuel : Nat} {cs : List Value} {x : DataW H × List MemPlace}
theorem open_struct_b {P : Program} {t : TypeId} {fs : Array Field} (hs : P.underlying t = some (.struct fs)) (h : DataW.trod enc P w 0 (fun _ => true) true fuel t cs = some x) :
    ∃ (n : Nat) (xs : List (DataW H × List MemPlace)), x.1 = .agg (xs.map (·.1)) ∧ cs.length = P.cellsOf t ∧ ∀ (i o : Nat) (ft : TypeId), (fs[i]?).map (fun f => (f.offset, f.type)) = some (o, ft) → ∃ y, xs[i]? = some y ∧ DataW.trod enc P w 0 (fun _ => true) true n ft ((cs.drop o).take (P.cellsOf ft)) = some y := by
  obtain ⟨xs, n, _, hx, hl, hlen, hg⟩ := DataW.trod_struct hs h
  refine ⟨n, xs, by rw [hx], hl, fun i o ft hi' => ?_⟩
  obtain ⟨f, hi, hf'⟩ := Option.map_eq_some_iff.1 hi'
  simp only [Prod.mk.injEq] at hf'
  obtain ⟨rfl, rfl⟩ := hf'
  have hlt : i < fs.size := (Array.getElem?_eq_some_iff.1 hi).1
  refine ⟨xs[i]'(by omega), List.getElem?_eq_getElem (by omega), ?_⟩
  have h1 := hg i f hi
  rw [List.getElem?_eq_getElem (by omega)] at h1
  exact h1
theorem ints_came_b (h : DataW.trod enc Tryz.prog w 0 (fun _ => true) true fuel 32 cs = some x) :
    ∃ A n c l, cs = [.slice A n c] ∧ PIn w A n l ∧ n ≤ c ∧ c ≤ maxLen ∧ n ≤ Rows.uptoBulk x.1 := by
  rcases open_ints Tryz.underlying32 Tryz.underlying3 (by kernel_rfl) h with ⟨hcs, rfl⟩ | ⟨a, l, c, zs, hcs, _, hl, hm, hz, hx, hcell, hwz⟩
  · exact ⟨_, _, _, [], hcs, ⟨rfl, by simp, by omega⟩, Nat.le_refl _, by simp [maxLen], Nat.zero_le _⟩
  · have hz' : zs.length = c := by simpa using hz
    refine ⟨_, _, _, zs.take l, hcs, ⟨by simp; omega, fun y hy => bounds_i64 (hwz y (List.mem_of_mem_take hy)), fun hn => ?_⟩, hl, hm, ?_⟩
    · obtain ⟨g, o, sp⟩ := a
      have h0 := hcell 0 (by omega)
      have hsp : sp = none := by simpa [Addr.add] using World.cell?_spot h0
      subst hsp
      have hlt : g < w.heap.size := by have := World.block_lt_of_cell? w _ h0; simpa [Addr.add] using this
      refine ⟨g, o, rfl, hlt, fun j hj => ?_⟩
      have h1 := hcell j (by omega)
      rw [Addr.add_mid] at h1
      rw [h1]
      congr 2
      simp [List.getD_eq_getElem?_getD, hj]
    · rw [hx]
      have h1 := bulk_all (lits (H := H) IntKind.i64 (zs.take l))
      have h2 : (lits (H := H) IntKind.i64 (zs.take l)).length = l := by simp [lits]; omega
      simp only [Rows.uptoBulk]
      omega
end
/-- A step. -/
structure OpL where
  kind : Int
  A : Option Addr
  n : Nat
  c : Nat
  pages : List Int
  page : Int
  fill : Int
  at_ : Int
  count : Int
  A2 : Option Addr
  n2 : Nat
  c2 : Nat
  picks : List Int
def OpL.cells (x : OpL) : List Value := [.int .i64 x.kind, .slice x.A x.n x.c, .int .i64 x.page, .int .i64 x.fill, .int .i64 x.at_, .int .i64 x.count, .slice x.A2 x.n2 x.c2]
structure OpL.ok (w : World) (x : OpL) : Prop where
  pages : PIn w x.A x.n x.pages
  picks : PIn w x.A2 x.n2 x.picks
  n2 : x.n2 ≤ maxLen
  at_ : -9223372036854775808 ≤ x.at_ ∧ x.at_ ≤ 9223372036854775807
  count : -9223372036854775808 ≤ x.count ∧ x.count ≤ 9223372036854775807
section
variable {H : Type} {enc : TypeId × Value → H} {w : World} {fuel : Nat} {cs : List Value} {x : DataW H × List MemPlace}
end
/-- A script that came in. -/
def Script5 (w : World) (A : Option Addr) (n : Nat) (ops : List OpL) : Prop :=
  ops.length = n ∧ (∀ x ∈ ops, x.ok w ∧ x.n ≤ 1048576) ∧ (0 < n → ∃ g o, A = some ⟨g, o, none⟩ ∧ g < w.heap.size ∧ ∀ j x, ops[j]? = some x → ∀ q u, x.cells[q]? = some u → w.cell? ⟨g, o + j * 7 + q, none⟩ = some u)
section
variable {H : Type} {enc : TypeId × Value → H} {W : World} {base : Nat} {v : Value} {d : DataW H} {p : List MemPlace}
end
/-- A step of a script, as the law finds it. -/
theorem Script5.at_ {W w : World} {A : Option Addr} {n : Nat} {ops : List OpL} (h : Script5 W A n ops) (hb : Below W.heap.size W w) {j : Nat} (hj : j < n) : ∃ g o x, A = some ⟨g, o, none⟩ ∧ ops[j]? = some x ∧ x.ok W ∧ x.n ≤ 1048576 ∧
    w.cell? ⟨g, o + j * 7, none⟩ = some (.int .i64 x.kind) ∧ w.cell? ⟨g, o + j * 7 + 1, none⟩ = some (.slice x.A x.n x.c) ∧ w.cell? ⟨g, o + j * 7 + 2, none⟩ = some (.int .i64 x.page) ∧ w.cell? ⟨g, o + j * 7 + 3, none⟩ = some (.int .i64 x.fill) ∧
    w.cell? ⟨g, o + j * 7 + 4, none⟩ = some (.int .i64 x.at_) ∧ w.cell? ⟨g, o + j * 7 + 5, none⟩ = some (.int .i64 x.count) ∧ w.cell? ⟨g, o + j * 7 + 6, none⟩ = some (.slice x.A2 x.n2 x.c2) := by
  obtain ⟨g, o, rfl, hlt, hc⟩ := h.2.2 (by omega)
  have hx : ops[j]? = some (ops[j]'(by rw [h.1]; exact hj)) := List.getElem?_eq_getElem (by rw [h.1]; exact hj)
  have hm := h.2.1 _ (List.mem_of_getElem? hx)
  have hcc : ∀ q u, (ops[j]'(by rw [h.1]; exact hj)).cells[q]? = some u → w.cell? ⟨g, o + j * 7 + q, none⟩ = some u := fun q u hu => by
    rw [World.cell?_of_block (a := ⟨g, o + j * 7 + q, none⟩) (hb.block g hlt)]
    exact hc j _ hx q u hu
  exact ⟨g, o, _, rfl, hx, hm.1, hm.2, hcc 0 _ rfl, hcc 1 _ rfl, hcc 2 _ rfl, hcc 3 _ rfl, hcc 4 _ rfl, hcc 5 _ rfl, hcc 6 _ rfl⟩
theorem PIn.ints {W w : World} {A : Option Addr} {n : Nat} {l : List Int} (h : PIn W A n l) (hb : Below W.heap.size W w) : Ints w w.heap.size A n l := by
  refine ⟨h.1, h.2.1, fun hn => ?_⟩
  obtain ⟨g, o, rfl, hlt, hc⟩ := h.2.2 hn
  exact ⟨g, o, rfl, Nat.lt_of_lt_of_le hlt hb.size, by have := hb.size; omega, fun j hj => by rw [World.cell?_of_block (a := ⟨g, o + j, none⟩) (hb.block g hlt)]; exact hc j hj⟩
end Go.Proofs.YteaokeiolgjhaaaGreat.Log
/- Deeds of the store's laws that came in, opened. -/
namespace Go.Proofs.YteaokeiolgjhaaaGreat.Sto
open Go.ChangeShapes Go.WideShapes Go.RowKit CrcMath CodecMath Mem Crc Codec DiskSpec Dsk Sup Log

/-- A deed. -/
structure Dd where
  kind : Int
  page : Int
  what : Int
  fill : Int
  num : Int
  len : Int
  A : Option Addr
  n : Nat
  c : Nat
  picks : List Int
def Dd.cells (x : Dd) : List Value := [.int .i64 x.kind, .int .i64 x.page, .int .i64 x.what, .int .i64 x.fill, .int .i64 x.num, .int .i64 x.len, .slice x.A x.n x.c]
def In64 (x : Int) : Prop := -9223372036854775808 ≤ x ∧ x ≤ 9223372036854775807
structure Dd.ok (w : World) (x : Dd) : Prop where
  picks : PIn w x.A x.n x.picks
  n : x.n ≤ maxLen
  kind : In64 x.kind
  page : In64 x.page
  fill : In64 x.fill
  num : In64 x.num
  len : In64 x.len
section
variable {H : Type} {enc : TypeId × Value → H} {w : World} {fuel : Nat} {cs : List Value} {x : DataW H × List MemPlace}
set_option maxRecDepth 100000 in
theorem dd_came (h : DataW.trod enc Tryz.prog w 0 (fun _ => true) true fuel 34 cs = some x) : ∃ y : Dd, cs = y.cells ∧ y.ok w := by
  obtain ⟨n, xs, hx, hl, hf⟩ := open_struct_b Tryz.underlying34 h
  rw [show Tryz.prog.cellsOf 34 = 7 from by kernel_rfl] at hl
  match cs, hl with
  | [c0, c1, c2, c3, c4, c5, c6], _ =>
    have k1 : Tryz.prog.cellsOf 3 = 1 := by kernel_rfl
    have k3 : Tryz.prog.cellsOf 32 = 1 := by kernel_rfl
    obtain ⟨_, _, h0⟩ := hf 0 0 3 rfl
    obtain ⟨_, _, h1⟩ := hf 1 1 3 rfl
    obtain ⟨_, _, h2⟩ := hf 2 2 3 rfl
    obtain ⟨_, _, h3⟩ := hf 3 3 3 rfl
    obtain ⟨_, _, h4⟩ := hf 4 4 3 rfl
    obtain ⟨_, _, h5⟩ := hf 5 5 3 rfl
    obtain ⟨_, _, h6⟩ := hf 6 6 32 rfl
    rw [k1] at h0 h1 h2 h3 h4 h5
    rw [k3] at h6
    obtain ⟨a0, e0, b0⟩ := int_came h0
    obtain ⟨a1, e1, b1⟩ := int_came h1
    obtain ⟨a2, e2, b2⟩ := int_came h2
    obtain ⟨a3, e3, b3⟩ := int_came h3
    obtain ⟨a4, e4, b4⟩ := int_came h4
    obtain ⟨a5, e5, b5⟩ := int_came h5
    obtain ⟨A2, m2, c2', l2, e6, hp2, hm2, hc2, _⟩ := ints_came_b h6
    simp at e0 e1 e2 e3 e4 e5 e6
    subst e0 e1 e2 e3 e4 e5 e6
    exact ⟨⟨a0, a1, a2, a3, a4, a5, A2, m2, c2', l2⟩, rfl, hp2, Nat.le_trans hm2 hc2, b0, b1, b3, b4, b5⟩
end
/-- A script that came in. -/
def Script6 (w : World) (A : Option Addr) (n : Nat) (ops : List Dd) : Prop :=
  ops.length = n ∧ (∀ x ∈ ops, x.ok w) ∧ (0 < n → ∃ g o, A = some ⟨g, o, none⟩ ∧ g < w.heap.size ∧ ∀ j x, ops[j]? = some x → ∀ q u, x.cells[q]? = some u → w.cell? ⟨g, o + j * 7 + q, none⟩ = some u)
section
variable {H : Type} {enc : TypeId × Value → H} {W : World} {base : Nat} {v : Value} {d : DataW H} {p : List MemPlace}
set_option maxRecDepth 100000 in
theorem open_script6 (o : Value.okWide Tryz.prog W .any base 22 v) (h : DataW.Trod enc Tryz.prog W 0 (fun _ => true) true 22 v d p) {ds : List (DataW H)} (hk : Rows.uptoSmall H ds = true) (hd : d ∈ ds) :
    ∃ A n c ops, v = .slice A n c ∧ Script6 W A n ops ∧ n ≤ 1048576 := by
  have hbd := bulk_bound hk hd
  obtain ⟨A, n, c, rfl⟩ := okWide_slice Tryz.underlying22 o
  obtain ⟨fuel, hf⟩ := h
  rcases DataW.trod_slice Tryz.underlying22 hf with ⟨hcs, _⟩ | ⟨a, len, cap, elems, rest, m, _, hcs, hx, _, hl, hm, hlen, hel, _, _⟩
  · simp [Value.cells] at hcs
    obtain ⟨rfl, rfl, rfl⟩ := hcs
    exact ⟨_, _, _, [], rfl, ⟨rfl, by simp, by omega⟩, by omega⟩
  · simp [Value.cells] at hcs
    obtain ⟨rfl, rfl, rfl⟩ := hcs
    rw [show Tryz.prog.cellsOf 34 = 7 from by kernel_rfl] at hel
    have hd2 : d = DataW.slice (elems.map (·.1)) (rest.map (·.1)) := congrArg Prod.fst hx
    have hall : Rows.uptoBulkAll (elems.map (·.1)) ≤ 1048576 := by
      rw [hd2] at hbd
      simp only [Rows.uptoBulk] at hbd
      omega
    have hne : n ≤ 1048576 := by
      have := bulk_all (elems.map (·.1))
      rw [List.length_map, hlen] at this
      omega
    have each : ∀ j, j < n → ∃ y : Dd, y.ok W ∧ ∀ q u, y.cells[q]? = some u → W.cell? (a.add (j * 7 + q)) = some u := by
      intro j hj
      have h1 := hel j hj
      have hje : elems[j]? = some (elems[j]'(by omega)) := List.getElem?_eq_getElem (by omega)
      rw [hje, Option.bind_eq_some_iff] at h1
      obtain ⟨ds, hds, hy⟩ := h1
      obtain ⟨y, rfl, hok⟩ := dd_came hy
      refine ⟨y, hok, fun q u hq => ?_⟩
      have hq7 : q < 7 := (List.getElem?_eq_some_iff.1 hq).1
      have h2 := (World.cells?_some hds).2.2 q hq7
      rw [hq] at h2
      have e : (a.add (j * 7)).add q = a.add (j * 7 + q) := by
        unfold Addr.add
        split <;> split <;> (try split) <;> simp_all <;> omega
      rw [← e]; exact h2
    obtain ⟨ops, ho1, ho2⟩ := choose_list (p := fun j (y : Dd) => y.ok W ∧ ∀ q u, y.cells[q]? = some u → W.cell? (a.add (j * 7 + q)) = some u) n each
    refine ⟨_, _, _, ops, rfl, ⟨ho1, fun x hx => ?_, fun hn => ?_⟩, hne⟩
    · obtain ⟨j, hj, e⟩ := List.getElem_of_mem hx
      exact (ho2 j x (by rw [← e, List.getElem?_eq_getElem hj])).1
    · obtain ⟨g, off, sp⟩ := a
      have h0 := (ho2 0 (ops[0]'(by omega)) (List.getElem?_eq_getElem (by omega))).2 0 _ rfl
      have hsp : sp = none := by simpa [Addr.add] using World.cell?_spot h0
      subst hsp
      have hlt : g < W.heap.size := by have := World.block_lt_of_cell? W _ h0; simpa [Addr.add] using this
      refine ⟨g, off, rfl, hlt, fun j x hj q u hq => ?_⟩
      have h1 := (ho2 j x hj).2 q u hq
      rw [Addr.add_mid, ← Nat.add_assoc] at h1
      exact h1
end
/-- A deed of a script, as the law finds it. -/
theorem Script6.at_ {W w : World} {A : Option Addr} {n : Nat} {ops : List Dd} (h : Script6 W A n ops) (hg : W.grownBy w none) {j : Nat} (hj : j < n) : ∃ g o x, A = some ⟨g, o, none⟩ ∧ ops[j]? = some x ∧ x.ok W ∧
    w.cell? ⟨g, o + j * 7, none⟩ = some (.int .i64 x.kind) ∧ w.cell? ⟨g, o + j * 7 + 1, none⟩ = some (.int .i64 x.page) ∧ w.cell? ⟨g, o + j * 7 + 2, none⟩ = some (.int .i64 x.what) ∧ w.cell? ⟨g, o + j * 7 + 3, none⟩ = some (.int .i64 x.fill) ∧
    w.cell? ⟨g, o + j * 7 + 4, none⟩ = some (.int .i64 x.num) ∧ w.cell? ⟨g, o + j * 7 + 5, none⟩ = some (.int .i64 x.len) ∧ w.cell? ⟨g, o + j * 7 + 6, none⟩ = some (.slice x.A x.n x.c) := by
  obtain ⟨g, o, rfl, hlt, hc⟩ := h.2.2 (by omega)
  have hx : ops[j]? = some (ops[j]'(by rw [h.1]; exact hj)) := List.getElem?_eq_getElem (by rw [h.1]; exact hj)
  have hm := h.2.1 _ (List.mem_of_getElem? hx)
  have hcc : ∀ q u, (ops[j]'(by rw [h.1]; exact hj)).cells[q]? = some u → w.cell? ⟨g, o + j * 7 + q, none⟩ = some u := fun q u hu => by
    rw [World.cell?_of_block (a := ⟨g, o + j * 7 + q, none⟩) (hg.block g hlt (by simp))]
    exact hc j _ hx q u hu
  exact ⟨g, o, _, rfl, hx, hm, hcc 0 _ rfl, hcc 1 _ rfl, hcc 2 _ rfl, hcc 3 _ rfl, hcc 4 _ rfl, hcc 5 _ rfl, hcc 6 _ rfl⟩
theorem PIn.picks_ {W w : World} {A : Option Addr} {n : Nat} {l : List Int} {own : Nat → Prop} (h : PIn W A n l) (hg : W.grownBy w none) (ho : ∀ i, own i → W.heap.size ≤ i) : Picks w own A n l := by
  refine ⟨h.1, h.2.1, fun hn => ?_⟩
  obtain ⟨g, o, rfl, hlt, hc⟩ := h.2.2 hn
  exact ⟨g, o, rfl, Nat.lt_of_lt_of_le hlt hg.size, fun e => by have := ho g e; omega, fun j hj => by rw [World.cell?_of_block (a := ⟨g, o + j, none⟩) (hg.block g hlt (by simp))]; exact hc j hj⟩
end Go.Proofs.YteaokeiolgjhaaaGreat.Sto
/- Steps of the relog's laws that came in, opened. -/
namespace Go.Proofs.YteaokeiolgjhaaaGreat.Sto
open Go.ChangeShapes Go.WideShapes Go.RowKit CrcMath CodecMath Mem Crc Codec DiskSpec Dsk Sup Log

/-- A step. -/
structure O7 where
  kind : Int
  start : Int
  len : Int
  page : Int
  fill : Int
  left : Bool
  A : Option Addr
  n : Nat
  c : Nat
  picks : List Int
def O7.cells (x : O7) : List Value := [.int .i64 x.kind, .int .i64 x.start, .int .i64 x.len, .int .i64 x.page, .int .i64 x.fill, .bool x.left, .slice x.A x.n x.c]
structure O7.ok (w : World) (x : O7) : Prop where
  picks : PIn w x.A x.n x.picks
  n : x.n ≤ maxLen
  kind : In64 x.kind
  start : In64 x.start
  len : In64 x.len
  page : In64 x.page
  fill : In64 x.fill
section
variable {H : Type} {enc : TypeId × Value → H} {w : World} {fuel : Nat} {cs : List Value} {x : DataW H × List MemPlace}
set_option maxRecDepth 100000 in
theorem o7_came (h : DataW.trod enc Tryz.prog w 0 (fun _ => true) true fuel 74 cs = some x) : ∃ y : O7, cs = y.cells ∧ y.ok w := by
  obtain ⟨n, xs, hx, hl, hf⟩ := open_struct_b Tryz.underlying74 h
  rw [show Tryz.prog.cellsOf 74 = 7 from by kernel_rfl] at hl
  match cs, hl with
  | [c0, c1, c2, c3, c4, c5, c6], _ =>
    have k1 : Tryz.prog.cellsOf 3 = 1 := by kernel_rfl
    have k2 : Tryz.prog.cellsOf 4 = 1 := by kernel_rfl
    have k3 : Tryz.prog.cellsOf 32 = 1 := by kernel_rfl
    obtain ⟨_, _, h0⟩ := hf 0 0 3 rfl
    obtain ⟨_, _, h1⟩ := hf 1 1 3 rfl
    obtain ⟨_, _, h2⟩ := hf 2 2 3 rfl
    obtain ⟨_, _, h3⟩ := hf 3 3 3 rfl
    obtain ⟨_, _, h4⟩ := hf 4 4 3 rfl
    obtain ⟨_, _, h5⟩ := hf 5 5 4 rfl
    obtain ⟨_, _, h6⟩ := hf 6 6 32 rfl
    rw [k1] at h0 h1 h2 h3 h4
    rw [k2] at h5
    rw [k3] at h6
    obtain ⟨a0, e0, b0⟩ := int_came h0
    obtain ⟨a1, e1, b1⟩ := int_came h1
    obtain ⟨a2, e2, b2⟩ := int_came h2
    obtain ⟨a3, e3, b3⟩ := int_came h3
    obtain ⟨a4, e4, b4⟩ := int_came h4
    obtain ⟨a5, e5⟩ := bool_came h5
    obtain ⟨A2, m2, c2', l2, e6, hp2, hm2, hc2, _⟩ := ints_came_b h6
    simp at e0 e1 e2 e3 e4 e5 e6
    subst e0 e1 e2 e3 e4 e5 e6
    exact ⟨⟨a0, a1, a2, a3, a4, a5, A2, m2, c2', l2⟩, rfl, hp2, Nat.le_trans hm2 hc2, b0, b1, b2, b3, b4⟩
end
/-- A script that came in. -/
def Script7 (w : World) (A : Option Addr) (n : Nat) (ops : List O7) : Prop :=
  ops.length = n ∧ (∀ x ∈ ops, x.ok w) ∧ (0 < n → ∃ g o, A = some ⟨g, o, none⟩ ∧ g < w.heap.size ∧ ∀ j x, ops[j]? = some x → ∀ q u, x.cells[q]? = some u → w.cell? ⟨g, o + j * 7 + q, none⟩ = some u)
section
variable {H : Type} {enc : TypeId × Value → H} {W : World} {base : Nat} {v : Value} {d : DataW H} {p : List MemPlace}
set_option maxRecDepth 100000 in
theorem open_script7 (o : Value.okWide Tryz.prog W .any base 54 v) (h : DataW.Trod enc Tryz.prog W 0 (fun _ => true) true 54 v d p) {ds : List (DataW H)} (hk : Rows.uptoSmall H ds = true) (hd : d ∈ ds) :
    ∃ A n c ops, v = .slice A n c ∧ Script7 W A n ops ∧ n ≤ 1048576 := by
  have hbd := bulk_bound hk hd
  obtain ⟨A, n, c, rfl⟩ := okWide_slice Tryz.underlying54 o
  obtain ⟨fuel, hf⟩ := h
  rcases DataW.trod_slice Tryz.underlying54 hf with ⟨hcs, _⟩ | ⟨a, len, cap, elems, rest, m, _, hcs, hx, _, hl, hm, hlen, hel, _, _⟩
  · simp [Value.cells] at hcs
    obtain ⟨rfl, rfl, rfl⟩ := hcs
    exact ⟨_, _, _, [], rfl, ⟨rfl, by simp, by omega⟩, by omega⟩
  · simp [Value.cells] at hcs
    obtain ⟨rfl, rfl, rfl⟩ := hcs
    rw [show Tryz.prog.cellsOf 74 = 7 from by kernel_rfl] at hel
    have hd2 : d = DataW.slice (elems.map (·.1)) (rest.map (·.1)) := congrArg Prod.fst hx
    have hall : Rows.uptoBulkAll (elems.map (·.1)) ≤ 1048576 := by
      rw [hd2] at hbd
      simp only [Rows.uptoBulk] at hbd
      omega
    have hne : n ≤ 1048576 := by
      have := bulk_all (elems.map (·.1))
      rw [List.length_map, hlen] at this
      omega
    have each : ∀ j, j < n → ∃ y : O7, y.ok W ∧ ∀ q u, y.cells[q]? = some u → W.cell? (a.add (j * 7 + q)) = some u := by
      intro j hj
      have h1 := hel j hj
      have hje : elems[j]? = some (elems[j]'(by omega)) := List.getElem?_eq_getElem (by omega)
      rw [hje, Option.bind_eq_some_iff] at h1
      obtain ⟨ds, hds, hy⟩ := h1
      obtain ⟨y, rfl, hok⟩ := o7_came hy
      refine ⟨y, hok, fun q u hq => ?_⟩
      have hq7 : q < 7 := (List.getElem?_eq_some_iff.1 hq).1
      have h2 := (World.cells?_some hds).2.2 q hq7
      rw [hq] at h2
      have e : (a.add (j * 7)).add q = a.add (j * 7 + q) := by
        unfold Addr.add
        split <;> split <;> (try split) <;> simp_all <;> omega
      rw [← e]; exact h2
    obtain ⟨ops, ho1, ho2⟩ := choose_list (p := fun j (y : O7) => y.ok W ∧ ∀ q u, y.cells[q]? = some u → W.cell? (a.add (j * 7 + q)) = some u) n each
    refine ⟨_, _, _, ops, rfl, ⟨ho1, fun x hx => ?_, fun hn => ?_⟩, hne⟩
    · obtain ⟨j, hj, e⟩ := List.getElem_of_mem hx
      exact (ho2 j x (by rw [← e, List.getElem?_eq_getElem hj])).1
    · obtain ⟨g, off, sp⟩ := a
      have h0 := (ho2 0 (ops[0]'(by omega)) (List.getElem?_eq_getElem (by omega))).2 0 _ rfl
      have hsp : sp = none := by simpa [Addr.add] using World.cell?_spot h0
      subst hsp
      have hlt : g < W.heap.size := by have := World.block_lt_of_cell? W _ h0; simpa [Addr.add] using this
      refine ⟨g, off, rfl, hlt, fun j x hj q u hq => ?_⟩
      have h1 := (ho2 j x hj).2 q u hq
      rw [Addr.add_mid, ← Nat.add_assoc] at h1
      exact h1
end
/-- A step of a script, as the law finds it. -/
theorem Script7.at_ {W w : World} {A : Option Addr} {n : Nat} {ops : List O7} (h : Script7 W A n ops) (hg : W.grownBy w none) {j : Nat} (hj : j < n) : ∃ g o x, A = some ⟨g, o, none⟩ ∧ ops[j]? = some x ∧ x.ok W ∧
    w.cell? ⟨g, o + j * 7, none⟩ = some (.int .i64 x.kind) ∧ w.cell? ⟨g, o + j * 7 + 1, none⟩ = some (.int .i64 x.start) ∧ w.cell? ⟨g, o + j * 7 + 2, none⟩ = some (.int .i64 x.len) ∧ w.cell? ⟨g, o + j * 7 + 3, none⟩ = some (.int .i64 x.page) ∧
    w.cell? ⟨g, o + j * 7 + 4, none⟩ = some (.int .i64 x.fill) ∧ w.cell? ⟨g, o + j * 7 + 5, none⟩ = some (.bool x.left) ∧ w.cell? ⟨g, o + j * 7 + 6, none⟩ = some (.slice x.A x.n x.c) := by
  obtain ⟨g, o, rfl, hlt, hc⟩ := h.2.2 (by omega)
  have hx : ops[j]? = some (ops[j]'(by rw [h.1]; exact hj)) := List.getElem?_eq_getElem (by rw [h.1]; exact hj)
  have hm := h.2.1 _ (List.mem_of_getElem? hx)
  have hcc : ∀ q u, (ops[j]'(by rw [h.1]; exact hj)).cells[q]? = some u → w.cell? ⟨g, o + j * 7 + q, none⟩ = some u := fun q u hu => by
    rw [World.cell?_of_block (a := ⟨g, o + j * 7 + q, none⟩) (hg.block g hlt (by simp))]
    exact hc j _ hx q u hu
  exact ⟨g, o, _, rfl, hx, hm, hcc 0 _ rfl, hcc 1 _ rfl, hcc 2 _ rfl, hcc 3 _ rfl, hcc 4 _ rfl, hcc 5 _ rfl, hcc 6 _ rfl⟩
end Go.Proofs.YteaokeiolgjhaaaGreat.Sto
