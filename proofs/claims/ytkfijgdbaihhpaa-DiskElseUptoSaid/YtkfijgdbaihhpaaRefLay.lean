/- How the document's own disk lies in memory; what each small step leaves of it. -/
import Derived.Test.YtkfijgdbaihhpaaDiskLay
import Derived.WalkKit
import Derived.LoopTactic
import Derived.Lib.Hide
import Derived.ProofKit
namespace Go.Proofs.Ytkfijgdbaihhpaa.Dsk
open Go.RowKit Mem Crc DiskSpec

/-- The value v is a slice of 256 bytes of the disk's own, which read as x. -/
def BytesAt (w : World) (own : Nat → Prop) (v : Value) (x : List Nat) : Prop :=
  ∃ g c cs fz, v = .slice (some ⟨g, 0, none⟩) 256 c ∧ 256 ≤ c ∧ c ≤ maxLen ∧ own g ∧ w.heap[g]? = some (.cells cs 5 fz) ∧ Sec x ∧ ∀ j, j < 256 → cs[j]? = some (.int .u8 (x.getD j 0 : Nat))
section
variable {w w1 w' : World} {own own' : Nat → Prop} {B r bl c : Nat} {S T : St} {dv vv : Nat → Value} {vs : Nat → List Value} {v : Value} {x : List Nat}
theorem BytesAt.keep (h : BytesAt w own v x) (ho : ∀ i, own i → own' i) (hk : ∀ g cs fz, own g → w.heap[g]? = some (.cells cs 5 fz) → w'.heap[g]? = w.heap[g]?) : BytesAt w' own' v x := by
  obtain ⟨g, c, cs, fz, e, h1, h2, h3, h4, h5⟩ := h
  exact ⟨g, c, cs, fz, e, h1, h2, ho g h3, (hk g cs fz h3 h4).trans h4, h5⟩
theorem BytesAt.of_own {base : Nat} (h : Own w base 5 1 v 256 (u8s x)) (hx : Sec x) (ho : ∀ g, v.ownBlock = some g → own g) : BytesAt w own v x := by
  have hat : ∀ j, j < 256 → (u8s x)[j]? = some (.int .u8 (x.getD j 0 : Nat)) := fun j hj => u8s_at x j (by rw [hx.1]; exact hj)
  rcases h with h | ⟨g, cur, fz, rfl, hb, hh, hm, hcu, hl⟩
  · rcases h.2 with ⟨_, h0⟩ | ⟨g, cap, cur, rfl, hb, hh, h1, h2, _, ht⟩
    · omega
    · refine ⟨g, cap, cur, _, rfl, h1, h2, ho g rfl, hh, hx, fun j hj => ?_⟩
      rw [← hat j hj, ← ht, List.getElem?_take_of_lt (by omega), Array.getElem?_toList]
  · refine ⟨g, 256, cur, fz, rfl, Nat.le_refl _, hm, ho g rfl, hh, hx, fun j hj => ?_⟩
    rw [← hat j hj, ← hcu, Array.getElem?_toList]
theorem BytesAt.reads (h : BytesAt w own v x) : ∃ g c, v = .slice (some ⟨g, 0, none⟩) 256 c ∧ g < w.heap.size ∧ 256 ≤ c ∧ c ≤ maxLen ∧ ∀ j u, (u8s x)[j]? = some u → w.cell? ⟨g, j, none⟩ = some u := by
  obtain ⟨g, c, cs, fz, e, h1, h2, h3, h4, h5, h6⟩ := h
  refine ⟨g, c, e, (Array.getElem?_eq_some_iff.1 h4).1, h1, h2, fun j u hu => ?_⟩
  have hj : j < 256 := by have := (List.getElem?_eq_some_iff.1 hu).1; rw [u8s_length, h5.1] at this; exact this
  rw [cell_of_row w g j cs _ fz h4, h6 j hj, ← hu, u8s_at x j (by rw [h5.1]; exact hj)]

/-- One sector's part: its durable bytes, its versions. -/
structure Part (w : World) (own : Nat → Prop) (dvi vvi : Value) (vsi : List Value) (d : List Nat) (ver : List (List Nat)) : Prop where
  dur : BytesAt w own dvi d
  row : Own w 0 43 1 vvi ver.length vsi
  mine : ∀ g, vvi.ownBlock = some g → own g
  vers : ∀ (k : Nat) (y : List Nat), ver[k]? = some y → ∃ u : Value, vsi[k]? = some u ∧ BytesAt w own u y
/-- Block r is the document's disk that is as S says; its cells lie in block bl. -/
structure RLay (w : World) (B r bl c : Nat) (dv vv : Nat → Value) (vs : Nat → List Value) (S : St) (own : Nat → Prop) : Prop where
  ok : S.ok
  blk : Blk w r 40 #[.slice (some ⟨bl, 0, none⟩) S.n c, .int .i64 0, .int .i64 (S.f1 : Nat), .int .i64 (S.f2 : Nat), .int .i64 (S.f3 : Nat), .int .i64 S.left]
  cells : ∃ cs, Blk w bl 65 cs ∧ ∀ i, i < S.n → cs[i * 2]? = some (dv i) ∧ cs[i * 2 + 1]? = some (vv i)
  part : ∀ i, i < S.n → Part w own (dv i) (vv i) (vs i) (S.dur i) (S.ver i)
  apart : ∀ i j g, i < S.n → j < S.n → i ≠ j → (vv i).ownBlock = some g → (vv j).ownBlock ≠ some g
  cap : S.n ≤ c ∧ c ≤ maxLen
  ownR : own r
  ownL : own bl
  low : ∀ i, own i → B ≤ i
  lt : ∀ i, own i → i < w.heap.size

theorem types_ne {g g' : Nat} {t t' : TypeId} {cs cs' : Array Value} {fz fz' : Nat × Nat} (h : w.heap[g]? = some (.cells cs t fz)) (h' : w.heap[g']? = some (.cells cs' t' fz')) (ht : t ≠ t') : g ≠ g' := fun e => by
  subst e
  rw [h] at h'
  simp only [Option.some.injEq, Obj.cells.injEq] at h'
  exact ht h'.2.1
theorem RLay.ne (h : RLay w B r bl c dv vv vs S own) : r ≠ bl := by
  obtain ⟨cs, hb, _⟩ := h.cells
  exact types_ne h.blk hb (by decide)
theorem RLay.row_type (h : RLay w B r bl c dv vv vs S own) {i g : Nat} (hi : i < S.n) (hg : (vv i).ownBlock = some g) : ∃ cur fz, w.heap[g]? = some (.cells cur 43 fz) := by
  rcases (h.part i hi).row with h1 | ⟨g', cur, fz, e, _, hh, _⟩
  · rcases h1.2 with ⟨e, _⟩ | ⟨g', cap, cur, e, _, hh, _⟩
    · rw [e] at hg; cases hg
    · rw [e] at hg; cases hg; exact ⟨cur, _, hh⟩
  · rw [e] at hg; cases hg; exact ⟨cur, fz, hh⟩
theorem RLay.rc (h : RLay w B r bl c dv vv vs S own) : w.cell? ⟨r, 0, none⟩ = some (.slice (some ⟨bl, 0, none⟩) S.n c) := by rw [h.blk.cell]; rfl
theorem RLay.r2 (h : RLay w B r bl c dv vv vs S own) : w.cell? ⟨r, 2, none⟩ = some (.int .i64 (S.f1 : Nat)) := by rw [h.blk.cell]; rfl
theorem RLay.r3 (h : RLay w B r bl c dv vv vs S own) : w.cell? ⟨r, 3, none⟩ = some (.int .i64 (S.f2 : Nat)) := by rw [h.blk.cell]; rfl
theorem RLay.r4 (h : RLay w B r bl c dv vv vs S own) : w.cell? ⟨r, 4, none⟩ = some (.int .i64 (S.f3 : Nat)) := by rw [h.blk.cell]; rfl
theorem RLay.r5 (h : RLay w B r bl c dv vv vs S own) : w.cell? ⟨r, 5, none⟩ = some (.int .i64 S.left) := by rw [h.blk.cell]; rfl
theorem RLay.rfz (h : RLay w B r bl c dv vv vs S own) (j : Nat) : w.frozen? ⟨r, j, none⟩ = false := h.blk.frozen j
theorem RLay.cd (h : RLay w B r bl c dv vv vs S own) {i : Nat} (hi : i < S.n) : w.cell? ⟨bl, i * 2, none⟩ = some (dv i) := by obtain ⟨cs, hb, hc⟩ := h.cells; rw [hb.cell]; exact (hc i hi).1
theorem RLay.cv (h : RLay w B r bl c dv vv vs S own) {i : Nat} (hi : i < S.n) : w.cell? ⟨bl, i * 2 + 1, none⟩ = some (vv i) := by obtain ⟨cs, hb, hc⟩ := h.cells; rw [hb.cell]; exact (hc i hi).2
theorem RLay.lfz (h : RLay w B r bl c dv vv vs S own) (j : Nat) : w.frozen? ⟨bl, j, none⟩ = false := by obtain ⟨cs, hb, _⟩ := h.cells; exact hb.frozen j

theorem Part.keep {dvi vvi : Value} {vsi : List Value} {d : List Nat} {ver : List (List Nat)} (h : Part w own dvi vvi vsi d ver) (ho : ∀ i, own i → own' i)
    (hk : ∀ g cs fz, own g → w.heap[g]? = some (.cells cs 5 fz) → w'.heap[g]? = w.heap[g]?) (hv : ∀ g, vvi.ownBlock = some g → w'.heap[g]? = w.heap[g]?) : Part w' own' dvi vvi vsi d ver :=
  ⟨h.dur.keep ho hk, own_of_block h.row hv, fun g hg => ho g (h.mine g hg), fun k y hy => by obtain ⟨u, h1, h2⟩ := h.vers k y hy; exact ⟨u, h1, h2.keep ho hk⟩⟩
theorem RLay.keep (h : RLay w B r bl c dv vv vs S own) (hs : w.heap.size ≤ w'.heap.size) (hk : ∀ i, own i → w'.heap[i]? = w.heap[i]?) : RLay w' B r bl c dv vv vs S own :=
  { h with
    blk := blk_of_block h.blk (hk r h.ownR)
    cells := by obtain ⟨cs, hb, hc⟩ := h.cells; exact ⟨cs, blk_of_block hb (hk bl h.ownL), hc⟩
    part := fun i hi => (h.part i hi).keep (fun _ h => h) (fun g _ _ hg _ => hk g hg) (fun g hg => hk g ((h.part i hi).mine g hg))
    lt := fun i hi => Nat.lt_of_lt_of_le (h.lt i hi) hs }
theorem RLay.grown {row : Option Nat} (h : RLay w B r bl c dv vv vs S own) (hg : w.grownBy w' row) (hr : ∀ j, row = some j → ¬ own j) : RLay w' B r bl c dv vv vs S own :=
  h.keep hg.size (fun i hi => hg.block i (h.lt i hi) (fun e => hr i e.symm hi))
theorem RLay.turn {o1 o2 : Nat → Prop} (h : RLay w B r bl c dv vv vs S own) (ht : Turn w w' o1 o2) (hd : ∀ i, own i → ¬ o1 i) : RLay w' B r bl c dv vv vs S own :=
  h.keep ht.size (fun i hi => ht.block i (h.lt i hi) (hd i hi))
theorem Lay.turn {b bd bm : Nat} {f : Nat → Option Value} {o1 o2 : Nat → Prop} (h : Lay w B b bd bm f S own) (ht : Turn w w' o1 o2) (hd : ∀ i, own i → ¬ o1 i) : Lay w' B b bd bm f S own :=
  h.keep ht.size (fun i hi => ht.block i (h.lt i hi) (hd i hi))
theorem RLay.alloc (h : RLay w B r bl c dv vv vs S own) (o : Obj) : RLay (w.alloc o) B r bl c dv vv vs S own := h.grown (World.grownBy_alloc w o none) (fun _ h => by cases h)
theorem RLay.drew (h : RLay w B r bl c dv vv vs S own) : RLay w.drew B r bl c dv vv vs S own := h.keep (Nat.le_refl _) (fun _ _ => rfl)
/-- One of the numbers in the disk's own block is written. -/
theorem RLay.struct (h : RLay w B r bl c dv vv vs S own) (hg : w.grownBy w' (some r)) (hT : T.ok) (hn : T.n = S.n) (hd : T.dur = S.dur) (hv : T.ver = S.ver)
    (hb : Blk w' r 40 #[.slice (some ⟨bl, 0, none⟩) T.n c, .int .i64 0, .int .i64 (T.f1 : Nat), .int .i64 (T.f2 : Nat), .int .i64 (T.f3 : Nat), .int .i64 T.left]) : RLay w' B r bl c dv vv vs T own where
  ok := hT
  blk := hb
  cells := by
    obtain ⟨cs, hb', hc⟩ := h.cells
    rw [hn]
    exact ⟨cs, blk_of_block hb' (hg.block bl (h.lt bl h.ownL) (by simpa using fun e => h.ne e.symm)), hc⟩
  part i hi := by
    rw [hd, hv]
    have hi' : i < S.n := by omega
    refine (h.part i hi').keep (fun _ h => h) (fun g cs fz ho hh => hg.block g (h.lt g ho) ?_) (fun g hgo => ?_)
    · simpa using types_ne hh h.blk (by decide)
    · obtain ⟨cur, fz, hh⟩ := h.row_type hi' hgo
      exact hg.block g (h.lt g ((h.part i hi').mine g hgo)) (by simpa using types_ne hh h.blk (by decide))
  apart i j g hi hj := h.apart i j g (by omega) (by omega)
  cap := by rw [hn]; exact h.cap
  ownR := h.ownR
  ownL := h.ownL
  low := h.low
  lt i hi := Nat.lt_of_lt_of_le (h.lt i hi) hg.size
/-- A sector's cell is written anew: durable bytes, and no versions. -/
theorem RLay.settle (h : RLay w B r bl c dv vv vs S own) {i : Nat} (hi : i < S.n) {u : Value} {y : List Nat} (hu : BytesAt w own u y) :
    RLay ((w.setCell ⟨bl, i * 2, none⟩ u).setCell ⟨bl, i * 2 + 1, none⟩ (.slice none 0 0)) B r bl c (upd dv i u) (upd vv i (.slice none 0 0)) (upd vs i []) { S with dur := upd S.dur i y, ver := upd S.ver i [] } own := by
  have hg : w.grownBy ((w.setCell ⟨bl, i * 2, none⟩ u).setCell ⟨bl, i * 2 + 1, none⟩ (.slice none 0 0)) (some bl) := Lib.grownBy_setB (Lib.grownBy_setB (World.grownBy.refl w _) _ u) _ _
  obtain ⟨cs, hb, hc⟩ := h.cells
  have hbk := (hb.set_ (i * 2) u).set_ (i * 2 + 1) (.slice none 0 0)
  have hsec : Sec y := by obtain ⟨_, _, _, _, _, _, _, _, _, h5, _⟩ := hu; exact h5
  generalize (w.setCell ⟨bl, i * 2, none⟩ u).setCell ⟨bl, i * 2 + 1, none⟩ (.slice none 0 0) = w' at *
  have hsz : ∀ q, q < S.n → q * 2 + 1 < cs.size := fun q hq => (Array.getElem?_eq_some_iff.1 (hc q hq).2).1
  have hk : ∀ g cs fz, own g → w.heap[g]? = some (.cells cs 5 fz) → w'.heap[g]? = w.heap[g]? := fun g cs fz ho hh => hg.block g (h.lt g ho) (by simpa using types_ne hh hb (by decide))
  exact {
    ok := { h.ok with
      dur := fun j => by show Sec (upd S.dur i y j); unfold upd; split; exact hsec; exact h.ok.dur j
      ver := fun j v hv => by
        have hv' : v ∈ upd S.ver i [] j := hv
        unfold upd at hv'; split at hv'
        · cases hv'
        · exact h.ok.ver j v hv'
      out := fun j hj => by
        show upd S.ver i [] j = []
        unfold upd; split
        · rfl
        · exact h.ok.out j hj }
    blk := blk_of_block h.blk (hg.block r (h.lt r h.ownR) (by simpa using h.ne))
    cells := ⟨_, hbk, fun q hq => by
      have hq' : q < S.n := hq
      have h1 := hsz q hq'; have h2 := hsz i hi
      by_cases e : q = i
      · subst e
        simp [upd, Array.getElem?_setIfInBounds]
        constructor <;> omega
      · rw [upd_ne _ _ e, upd_ne _ _ e]
        rw [Array.getElem?_setIfInBounds_ne (by omega), Array.getElem?_setIfInBounds_ne (by omega), Array.getElem?_setIfInBounds_ne (by omega), Array.getElem?_setIfInBounds_ne (by omega)]
        exact hc q hq'⟩
    part := fun q hq => by
      have hq' : q < S.n := hq
      show Part w' own (upd dv i u q) (upd vv i (.slice none 0 0) q) (upd vs i [] q) (upd S.dur i y q) (upd S.ver i [] q)
      by_cases e : q = i
      · subst e
        rw [upd_same, upd_same, upd_same, upd_same, upd_same]
        exact ⟨hu.keep (fun _ h => h) hk, Own.nil _ _ _ _, fun g hg => (by cases hg), fun k z hz => (by simp at hz)⟩
      · rw [upd_ne _ _ e, upd_ne _ _ e, upd_ne _ _ e, upd_ne _ _ e, upd_ne _ _ e]
        refine (h.part q hq').keep (fun _ h => h) hk (fun g hgo => ?_)
        obtain ⟨cur, fz, hh⟩ := h.row_type hq' hgo
        exact hg.block g (h.lt g ((h.part q hq').mine g hgo)) (by simpa using types_ne hh hb (by decide))
    apart := fun p q g hp hq hne hv => by
      by_cases e : p = i
      · rw [e, upd_same] at hv; cases hv
      · rw [upd_ne _ _ e] at hv
        by_cases e' : q = i
        · rw [e', upd_same]; simp [Value.ownBlock]
        · rw [upd_ne _ _ e']; exact h.apart p q g hp hq hne hv
    cap := h.cap
    ownR := h.ownR
    ownL := h.ownL
    low := h.low
    lt := fun q hq => Nat.lt_of_lt_of_le (h.lt q hq) hg.size }
/-- A sector has one version more: its row has grown, and its cell has it. -/
theorem RLay.add (h : RLay w B r bl c dv vv vs S own) {i : Nat} (hi : i < S.n) {u v' : Value} {y : List Nat} (hu : BytesAt w own u y) (hgr : Grew w w1 (vv i) v')
    (hown : Own w1 0 43 1 v' ((S.ver i).length + 1) (vs i ++ [u])) (hB : B ≤ w.heap.size) :
    ∃ own', RLay (w1.setCell ⟨bl, i * 2 + 1, none⟩ v') B r bl c dv (upd vv i v') (upd vs i (vs i ++ [u])) (S.add i y) own' ∧ Turn w (w1.setCell ⟨bl, i * 2 + 1, none⟩ v') own own' ∧ ∀ q, own q → own' q := by
  obtain ⟨cs, hb, hc⟩ := h.cells
  have hsec : Sec y := by obtain ⟨_, _, _, _, _, _, _, _, _, h5, _⟩ := hu; exact h5
  obtain ⟨g, hg1⟩ : ∃ g, v'.ownBlock = some g := by obtain ⟨g, c, rfl, _⟩ := hown.reads (by omega); exact ⟨g, rfl⟩
  have hrow : ∀ q cur t fz, own q → w.heap[q]? = some (.cells cur t fz) → t ≠ 43 → w1.heap[q]? = w.heap[q]? := fun q cur t fz ho hh ht => hgr.1.block q (h.lt q ho) (fun e => by
    obtain ⟨cur', fz', hh'⟩ := h.row_type hi e.symm
    exact types_ne hh hh' ht rfl)
  have hb1 : Blk w1 bl 65 cs := (hrow bl _ _ _ h.ownL hb (by decide)).trans hb
  have hbk := hb1.set_ (i * 2 + 1) v'
  have hg2 : w1.grownBy (w1.setCell ⟨bl, i * 2 + 1, none⟩ v') (some bl) := Lib.grownBy_setB (World.grownBy.refl w1 _) _ _
  have hgl : own g ∨ w.heap.size ≤ g := (hgr.2 g hg1).imp (fun e => (h.part i hi).mine g e) id
  have hglt : g < w1.heap.size := (hown.base_ g hg1).2
  have hgbl : g ≠ bl := by
    rcases hown with h1 | ⟨g', cur, fz, e, _, hh, _⟩
    · rcases h1.2 with ⟨e, _⟩ | ⟨g', cap, cur, e, _, hh, _⟩
      · rw [e] at hg1; cases hg1
      · rw [e] at hg1; cases hg1; exact types_ne hh hb1 (by decide)
    · rw [e] at hg1; cases hg1; exact types_ne hh hb1 (by decide)
  generalize w1.setCell ⟨bl, i * 2 + 1, none⟩ v' = w' at *
  have hsz : ∀ q, q < S.n → q * 2 + 1 < cs.size := fun q hq => (Array.getElem?_eq_some_iff.1 (hc q hq).2).1
  have hk : ∀ q cs' fz, own q → w.heap[q]? = some (.cells cs' 5 fz) → w'.heap[q]? = w.heap[q]? := fun q cs' fz ho hh =>
    (hg2.block q (Nat.lt_of_lt_of_le (h.lt q ho) hgr.1.size) (by simpa using types_ne hh hb (by decide))).trans (hrow q _ _ _ ho hh (by decide))
  have hother : ∀ q g', q < S.n → q ≠ i → (vv q).ownBlock = some g' → w'.heap[g']? = w.heap[g']? := fun q g' hq hne hgo => by
    obtain ⟨cur, fz, hh⟩ := h.row_type hq hgo
    have hlt := h.lt g' ((h.part q hq).mine g' hgo)
    exact (hg2.block g' (Nat.lt_of_lt_of_le hlt hgr.1.size) (by simpa using types_ne hh hb (by decide))).trans (hgr.1.block g' hlt (fun e => h.apart q i g' hq hi hne hgo e.symm))
  refine ⟨fun q => own q ∨ q = g, ?_, ?_, fun q hq => .inl hq⟩
  · exact {
      ok := h.ok.add hi hsec
      blk := blk_of_block h.blk ((hg2.block r (Nat.lt_of_lt_of_le (h.lt r h.ownR) hgr.1.size) (by simpa using h.ne)).trans (hrow r _ _ _ h.ownR h.blk (by decide)))
      cells := ⟨_, hbk, fun q hq => by
        have hq' : q < S.n := hq
        have h1 := hsz q hq'; have h2 := hsz i hi
        by_cases e : q = i
        · subst e
          refine ⟨?_, ?_⟩
          · rw [Array.getElem?_setIfInBounds_ne (by omega)]; exact (hc q hq').1
          · rw [upd_same, Array.getElem?_setIfInBounds_self_of_lt h2]
        · rw [upd_ne _ _ e, Array.getElem?_setIfInBounds_ne (by omega), Array.getElem?_setIfInBounds_ne (by omega)]
          exact hc q hq'⟩
      part := fun q hq => by
        have hq' : q < S.n := hq
        show Part w' _ (dv q) (upd vv i v' q) (upd vs i (vs i ++ [u]) q) (S.dur q) (upd S.ver i (S.ver i ++ [y]) q)
        by_cases e : q = i
        · subst e
          rw [upd_same, upd_same, upd_same]
          have hp := h.part q hq'
          have hvl : (vs q).length = (S.ver q).length := by have := hp.row.len; omega
          refine ⟨hp.dur.keep (fun _ h => .inl h) hk, ?_, fun g' hg' => by rw [hg1] at hg'; cases hg'; exact .inr rfl, fun k z hz => ?_⟩
          · rw [List.length_append, List.length_singleton]
            exact own_of_block hown (fun g' hg' => by rw [hg1] at hg'; cases hg'; exact hg2.block g hglt (by simpa using hgbl))
          · by_cases hkl : k < (S.ver q).length
            · rw [List.getElem?_append_left hkl] at hz
              obtain ⟨u', h1, h2⟩ := hp.vers k z hz
              exact ⟨u', by rw [List.getElem?_append_left (by omega)]; exact h1, h2.keep (fun _ h => .inl h) hk⟩
            · rw [List.getElem?_append_right (by omega)] at hz
              have hk0 : k - (S.ver q).length = 0 := by
                rcases Nat.eq_zero_or_pos (k - (S.ver q).length) with h0 | h0
                · exact h0
                · rw [List.getElem?_eq_none (by simp; omega)] at hz; cases hz
              rw [hk0] at hz
              simp at hz
              subst hz
              refine ⟨u, ?_, hu.keep (fun _ h => .inl h) hk⟩
              rw [List.getElem?_append_right (by omega), hvl, hk0]; rfl
        · rw [upd_ne _ _ e, upd_ne _ _ e, upd_ne _ _ e]
          exact (h.part q hq').keep (fun _ h => .inl h) hk (fun g' hg' => hother q g' hq' e hg')
      apart := fun p q g' hp hq hne hv => by
        have hp' : p < S.n := hp
        have hq' : q < S.n := hq
        by_cases e : p = i
        · subst e
          rw [upd_same, hg1] at hv
          cases hv
          rw [upd_ne _ _ (fun e => hne e.symm)]
          intro hv2
          rcases hgr.2 g hg1 with h3 | h3
          · exact h.apart p q g hp' hq' hne h3 hv2
          · have := h.lt g ((h.part q hq').mine g hv2); omega
        · rw [upd_ne _ _ e] at hv
          by_cases e' : q = i
          · subst e'
            rw [upd_same, hg1]
            intro e2
            cases e2
            rcases hgr.2 g hg1 with h3 | h3
            · exact h.apart p q g hp' hq' hne hv h3
            · have := h.lt g ((h.part p hp').mine g hv); omega
          · rw [upd_ne _ _ e']; exact h.apart p q g' hp' hq' hne hv
      cap := h.cap
      ownR := .inl h.ownR
      ownL := .inl h.ownL
      low := fun q hq => by
        rcases hq with hq | rfl
        · exact h.low q hq
        · rcases hgl with h1 | h1
          · exact h.low _ h1
          · omega
      lt := fun q hq => by
        rcases hq with hq | rfl
        · exact Nat.lt_of_lt_of_le (h.lt q hq) (Nat.le_trans hgr.1.size hg2.size)
        · exact Nat.lt_of_lt_of_le hglt hg2.size }
  · refine ⟨hg2.os.trans hgr.1.os, hg2.tape.trans hgr.1.tape, hg2.output.trans hgr.1.output, Nat.le_trans hgr.1.size hg2.size, fun q hq hn => ?_, fun q hq => ?_⟩
    · refine (hg2.block q (Nat.lt_of_lt_of_le hq hgr.1.size) (fun e => ?_)).trans (hgr.1.block q hq (fun e => ?_))
      · cases e; exact hn h.ownL
      · exact hn ((h.part i hi).mine q e.symm)
    · rcases hq with hq | rfl
      · exact .inl hq
      · exact hgl
end
end Go.Proofs.Ytkfijgdbaihhpaa.Dsk
