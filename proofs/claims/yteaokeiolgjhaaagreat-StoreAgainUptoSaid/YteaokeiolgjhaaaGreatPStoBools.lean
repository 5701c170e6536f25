/- Texts of this seat's proofs: StoBools, StoFar, StoOld, StoreAgainWalk. -/
import Derived.Test.YteaokeiolgjhaaaGreatPStoUse
import Derived.Test.YteaokeiolgjhaaaGreatPLogIn
import Derived.Deep.DeepCutAuto
import Derived.Deep.RegionHeld3
/- A law's own row of bools beside a store. -/
namespace Go.Proofs.YteaokeiolgjhaaaGreat.Sto
open Go.RowKit Go.Maps Go.Shelf CrcMath CodecMath Mem Crc Codec DiskSpec Dsk Sup Log

/-- Cells that are bools. -/
def Bools (cs : Array Value) : Prop := ∀ (i : Nat) (v : Value), cs[i]? = some v → ∃ b, v = .bool b
section
variable {lv : Value} {w w' : World} {P : Nat → Prop} {q : Nat} {t : TypeId} {cs : Array Value}
theorem data_bools {A : Option Addr} {n : Nat} {l : List Nat} (h : Dsk.Data w P A n l) (hg : w.grownBy w' (some q)) (hb : Blk w q t cs) (hc : Bools cs) : Dsk.Data w' P A n l := by
  refine ⟨h.1, h.2.1, fun hn => ?_⟩
  obtain ⟨g, o, e, hlt, hno, hcell⟩ := h.2.2 hn
  have hne : g ≠ q := fun e2 => by
    subst e2
    have h1 := hcell 0 hn
    rw [Blk.cell hb] at h1
    obtain ⟨b, h2⟩ := hc _ _ h1
    cases h2
  refine ⟨g, o, e, Nat.lt_of_lt_of_le hlt hg.size, hno, fun j hj => ?_⟩
  rw [World.cell?_of_block (a := ⟨g, o + j, none⟩) (hg.block g hlt (fun e2 => hne (by cases e2; rfl)))]
  exact hcell j hj
theorem pmap_bools {bm : Nat} {D : Pgs} (h : PMap w P bm D) (hg : w.grownBy w' (some q)) (hb : Blk w q t cs) (hc : Bools cs) (hne : bm ≠ q) : PMap w' P bm D := by
  obtain ⟨f, h1, h2⟩ := h.m
  refine ⟨⟨f, h1.of_block (hg.block bm h1.lt (fun e => hne (by cases e; rfl))), fun k => ?_⟩, h.ok⟩
  rcases h2 k with a | ⟨p, v, a, b, bv, e, A, n, c, e2, hnc, hd⟩
  · exact .inl a
  · exact .inr ⟨p, v, a, b, bv, e, A, n, c, e2, hnc, data_bools hd hg hb hc⟩
variable {B b tb g sb dm : Nat} {wm : Option Nat} {own : Nat → Prop} {s : Sto}
theorem StoAtG.bools (h : StoAtG lv w B b tb g sb dm wm own s) (hg : w.grownBy w' (some q)) (hb : Blk w q t cs) (hc : Bools cs) (hq : ¬ Foot own tb g sb dm wm q) : StoAtG lv w' B b tb g sb dm wm own s where
  l := h.l.far hg (fun j e ho => hq (.inl (by cases e; exact ho)))
  r := h.r.keep hg (fun e => hq (.inl (.inl (.inr (by cases e; rfl)))))
  c := h.c.grown hg (fun e => hq (.inr (.inl (by cases e; rfl))))
  d := pmap_bools h.d hg hb hc (fun e => hq (.inr (.inr (.inl e.symm))))
  u := fun U hU => by
    obtain ⟨m, e, hm⟩ := h.u U hU
    exact ⟨m, e, pmap_bools hm hg hb hc (fun e2 => hq (.inr (.inr (.inr (by rw [e, e2])))))⟩
  n := h.n
  may := h.may
  osb := h.osb
  odm := h.odm
  owm := h.owm
  low := h.low
end
/-- Which pages there are. -/
def wrC (C : Pgs) : Array Value := ((List.range 20).map fun k => Value.bool (C k).isSome).toArray
theorem wrC_bools (C : Pgs) : Bools (wrC C) := fun i v h => by
  unfold wrC at h
  rw [List.getElem?_toArray, List.getElem?_map] at h
  cases hr : (List.range 20)[i]? with
  | none => rw [hr] at h; cases h
  | some k => rw [hr] at h; cases h; exact ⟨_, rfl⟩
theorem wrC_at (C : Pgs) {k : Nat} (hk : k < 20) : (wrC C)[k]? = some (.bool (C k).isSome) := by
  unfold wrC
  rw [List.getElem?_toArray, List.getElem?_map, List.getElem?_range hk]
  rfl
theorem wrC_size (C : Pgs) : (wrC C).size = 20 := by simp [wrC]
theorem wrC_set (C : Pgs) {k : Nat} (q : Pg) : (wrC C).setIfInBounds k (.bool true) = wrC (upd C k (some q)) := by
  apply Array.ext_getElem?
  intro i
  rw [Array.getElem?_setIfInBounds]
  by_cases hi : i < 20
  · rw [wrC_at _ hi]
    by_cases e : k = i
    · subst e
      rw [if_pos rfl, if_pos (by rw [wrC_size]; exact hi), wrC_at _ hi, upd_same]; rfl
    · rw [if_neg e, wrC_at _ hi, upd_ne _ _ (fun e2 => e e2.symm)]
  · have h1 : (wrC C)[i]? = none := Array.getElem?_eq_none (by rw [wrC_size]; omega)
    have h2 : (wrC (upd C k (some q)))[i]? = none := Array.getElem?_eq_none (by rw [wrC_size]; omega)
    rw [h1, h2]
    split
    · rename_i e
      rw [if_neg (by rw [wrC_size]; omega)]
    · rfl
theorem over_one (C : Pgs) (k : Nat) (q : Pg) : over C (upd noPgs k (some q)) = upd C k (some q) := by
  funext j
  unfold over
  by_cases e : j = k
  · subst e; rw [upd_same, upd_same]
  · rw [upd_ne _ _ e, upd_ne _ _ e]; rfl
end Go.Proofs.YteaokeiolgjhaaaGreat.Sto
/- A law's own row beside a store: it may be written over. Calls of a store, told for rows beside it. -/
namespace Go.Proofs.YteaokeiolgjhaaaGreat.Sto
open Go.RowKit Go.Maps Go.Shelf CrcMath CodecMath Mem Crc Codec DiskSpec Dsk Sup Log

section
variable {W w w' : World} {N pg b tb g sb dm : Nat} {wm : Option Nat} {own own' : Nat → Prop} {s s' : Sto} {C : Pgs} {o : Option Pgs} {q : Nat}
theorem use_begin_g (h : Use W w N pg b tb g sb dm wm own s C none) : Calls Tryz.prog 14 #[.pointer (some ⟨sb, 0, none⟩)] w fun e w' =>
    e = .returned (.int .i64 0) ∧ ∃ wm', Use W w' N pg b tb g sb dm wm' own { s with W := some noPgs } C (some noPgs) ∧ Turn w w' (Foot own tb g sb dm wm) (Foot own tb g sb dm wm') ∧ w.grownBy w' (some sb) := by
  have hb : beginE s = (0, { s with W := some noPgs }) := by
    unfold beginE
    rw [h.w]
    rfl
  have h1 := sto_begin_g h.at_
  rw [hb] at h1
  refine h1.mono ?_
  rintro e w1 ⟨rfl, wm', h2, ht, hgb⟩
  obtain ⟨ls, sure, hg⟩ := h.gd
  exact ⟨rfl, wm', ⟨h2, h.out ht, ⟨ls, sure, hg.begun (UOk.none_ pg)⟩, rfl, h.sees⟩, ht, hgb⟩
theorem use_write_g {U : Pgs} (h : Use W w N pg b tb g sb dm wm own s C (some U)) {k : Nat} (hk : k < pg) {v : Value} {q : Pg} (hv : PgV w (Foot own tb g sb dm wm) v q) (hq : pageOk (k : Int) q.1 q.2 = true) (hl : (keys U).length < 40) :
    Calls Tryz.prog 15 #[.pointer (some ⟨sb, 0, none⟩), .int .i64 (k : Nat), v] w fun e w' => e = .returned (.int .i64 0) ∧ ∃ m, wm = some m ∧ Use W w' N pg b tb g sb dm (some m) own { s with W := some (upd U k (some q)) } C (some (upd U k (some q))) ∧
      w.grownBy w' (some m) ∧ ∀ Q : Nat → Prop, (∀ i, Q i → i < w.heap.size) → Q m → PMap w Q m U → PMap w' Q m (upd U k (some q)) := by
  have hb : writePE s (k : Int) q = (0, { s with W := some (upd U k (some q)) }) := by
    have hw := h.w
    unfold writePE
    rw [hw]
    simp only
    rw [if_neg (by rw [h.has_ hk]; simp), if_neg (by rw [hq]; simp), if_neg (by omega), show (k : Int).toNat = k by omega]
  have h1 := sto_write_g h.at_ (k : Int) hv h.w (h.has_ hk)
  rw [hb] at h1
  refine h1.mono ?_
  rintro e w1 ⟨m, rfl, rfl, h2, hgb, hQ⟩
  obtain ⟨ls, sure, hg⟩ := h.gd
  have ht : Turn w w1 (Foot own tb g sb dm (some m)) (Foot own tb g sb dm (some m)) := .of_grown hgb (fun j e => by cases e; exact .inr (.inr (.inr rfl)))
  exact ⟨rfl, m, rfl, ⟨h2, h.out ht, ⟨ls, sure, hg.begun ((hg.w U h.w).put hk hq hl)⟩, rfl, h.sees⟩, hgb, fun Q h1 h2 h3 => hQ Q h1 h2 h3 _ rfl⟩
theorem use_read_g (h : Use W w N pg b tb g sb dm wm own s C o) {k : Nat} (hk : k < pg) :
    Calls Tryz.prog 19 #[.pointer (some ⟨sb, 0, none⟩), .int .i64 (k : Nat)] w fun e w' => ∃ v, e = .returned (.tuple #[v, .int .i64 0]) ∧ PgV w' (fun i => i < w.heap.size) v ((seen C o k).getD (0, [])) ∧
      Use W w' N pg b tb g sb dm wm own s C o ∧ Turn w w' own own := by
  obtain ⟨ls, sure, hg⟩ := h.gd
  have e1 := hg.read h.sees k hk
  rw [h.w] at e1
  have h1 := sto_read_g h.at_ (k : Int) (h.has_ hk)
  rw [e1] at h1
  refine h1.mono ?_
  rintro e w1 ⟨v, rfl, hv, h2, ht⟩
  exact ⟨v, rfl, hv, ⟨h2, h.out (turnD ht), ⟨ls, sure, hg⟩, h.w, h.sees⟩, ht⟩
/-- A store, and a row of the law's own that is no page's body. -/
structure Far (W w : World) (N pg b tb g sb dm : Nat) (wm : Option Nat) (own : Nat → Prop) (s : Sto) (C : Pgs) (o : Option Pgs) (q : Nat) : Prop where
  u : Use W w N pg b tb g sb dm wm own s C o
  d : PMap w (fun i => Foot own tb g sb dm wm i ∨ i = q) dm s.D
  m : ∀ U m, s.W = some U → wm = some m → PMap w (fun i => Foot own tb g sb dm wm i ∨ i = q) m U
  nq : ¬ Foot own tb g sb dm wm q
  lo : W.heap.size ≤ q
theorem Far.step (h : Far W w N pg b tb g sb dm wm own s C o q) (hg : w.grownBy w' (some q)) : Far W w' N pg b tb g sb dm wm own s C o q := by
  have ht : Turn w w' (fun i => Foot own tb g sb dm wm i ∨ i = q) (fun i => Foot own tb g sb dm wm i ∨ i = q) := .of_grown hg (fun j e => by cases e; exact .inr rfl)
  have hnd : dm ≠ q := fun e => h.nq (.inr (.inr (.inl e.symm)))
  have hd := h.d.turn ht (hg.block dm h.d.lt (fun e => hnd (by cases e; rfl)))
  have hm : ∀ U m, s.W = some U → wm = some m → PMap w' (fun i => Foot own tb g sb dm wm i ∨ i = q) m U := fun U m hU hm => by
    have h1 := h.m U m hU hm
    exact h1.turn ht (hg.block m h1.lt (fun e => h.nq (.inr (.inr (.inr (by rw [hm]; cases e; rfl))))))
  have ha := h.u.at_
  refine ⟨⟨⟨ha.l.far hg (fun j e ho => h.nq (.inl (by cases e; exact ho))), ha.r.keep hg (fun e => h.nq (.inl (.inl (.inr (by cases e; rfl))))), ha.c.grown hg (fun e => h.nq (.inr (.inl (by cases e; rfl)))), hd.weak (fun i _ hi => .inl hi), fun U hU => ?_, ha.n, ha.may, ha.osb, ha.odm, ha.owm, ha.low⟩,
    h.u.gr.andThen hg (fun j hj => .inl (by cases hj; exact h.lo)), h.u.gd, h.u.w, h.u.sees⟩, hd, hm, h.nq, h.lo⟩
  obtain ⟨m, e, _⟩ := ha.u U hU
  exact ⟨m, e, (hm U m hU e).weak (fun i _ hi => .inl hi)⟩
theorem Far.quiet (h : Far W w N pg b tb g sb dm wm own s C o q) (hg : w.grownBy w' none) : Far W w' N pg b tb g sb dm wm own s C o q := h.step (grown_any hg _)
/-- A row that is newer than all that the store has. -/
theorem Use.far (h : Use W w N pg b tb g sb dm wm own s C o) (hg : w.grownBy w' none) (hq : w.heap.size ≤ q) : Far W w' N pg b tb g sb dm wm own s C o q := by
  have hw : ∀ i, i < w.heap.size → (Foot own tb g sb dm wm i ∨ i = q) → Foot own tb g sb dm wm i := fun i hi he => by
    rcases he with he | he
    · exact he
    · omega
  refine ⟨h.quiet hg, (h.at_.d.weak hw).turn (Turn.none_ hg) (hg.block dm h.at_.d.lt (by simp)), fun U m hU hm => ?_, fun e => by have := h.foot_lt e; omega, Nat.le_trans h.gr.size hq⟩
  obtain ⟨m', e, hm'⟩ := h.at_.u U hU
  rw [hm] at e
  cases e
  exact (hm'.weak hw).turn (Turn.none_ hg) (hg.block m hm'.lt (by simp))
theorem Far.read (h : Use W w N pg b tb g sb dm wm own s C o) (h2 : Use W w' N pg b tb g sb dm wm own s C o) (ht : Turn w w' own own) (hq : w.heap.size ≤ q) : Far W w' N pg b tb g sb dm wm own s C o q := by
  have hw : ∀ i, i < w.heap.size → (Foot own tb g sb dm wm i ∨ i = q) → Foot own tb g sb dm wm i := fun i hi he => by
    rcases he with he | he
    · exact he
    · omega
  have ht2 : Turn w w' (fun i => Foot own tb g sb dm wm i ∨ i = q) (fun i => Foot own tb g sb dm wm i ∨ i = q) :=
    ⟨ht.os, ht.tape, ht.output, ht.size, fun i hi hn => ht.block i hi (fun e => hn (.inl (.inl (.inl (.inl e))))), fun i hi => .inl hi⟩
  refine ⟨h2, (h.at_.d.weak hw).turn ht2 (ht.block dm h.at_.d.lt (fun e => h.at_.odm.1 (.inl (.inl e)))), fun U m hU hm => ?_, fun e => by have := h.foot_lt e; omega, Nat.le_trans h.gr.size hq⟩
  obtain ⟨m', e, hm'⟩ := h.at_.u U hU
  rw [hm] at e
  cases e
  exact (hm'.weak hw).turn ht2 (ht.block m hm'.lt (fun e => (h.at_.owm m hm).1 (.inl (.inl e))))
end
end Go.Proofs.YteaokeiolgjhaaaGreat.Sto
/- A store whose disk another one has been opened on: what it reads. -/
namespace Go.Proofs.YteaokeiolgjhaaaGreat.Sto
open Go.RowKit Go.Maps Go.Shelf CrcMath CodecMath Mem Crc Codec DiskSpec Dsk Sup Log

theorem read_plain6 {s : Sto} {N pg : Nat} {C : Pgs} (hq : Quiet6 s.S) (hn : s.S.n = N) (hN : 2 + pg ≤ N) (hp : s.x.pg = pg) (hD : s.D = noPgs) (hW : s.W = none) (hC : Sees pg s C) (k : Nat) (hk : k < pg) : readPE s (k : Int) = (0, (C k).getD (0, []), s) := by
  have hhas : s.has (k : Int) = true := by
    simp [Sto.has]
    omega
  have h1 := hq.c.f1
  have hrd : readE s.S (2 + (k : Int)) 1 = (0, s.S) := by
    unfold readE
    rw [if_neg (by simp [St.has]; omega), if_neg (by omega), show s.S.f1 - 1 = s.S.f1 by omega]
  have hrl : readL s.S (2 + (k : Int)) 1 = s.S.now (2 + k) := by
    unfold readL
    rw [if_neg (by simp [St.has]; omega), if_neg (by omega), show (2 + (k : Int)).toNat = 2 + k by omega]
    show St.reads _ _ 1 = _
    simp [St.reads]
  have hhome : readHE s (k : Int) = (0, (C k).getD (0, [])) := by
    have h2 := hC k hk
    rw [hD] at h2
    unfold readHE
    rw [hrd, if_pos rfl, hrl]
    rcases h2 with ⟨h2, h3⟩ | ⟨q, h2, h3, h4⟩
    · rw [h2, h3]
      rw [show pageR DiskSpec.zeros (k : Int) = some (0, []) from pageR_zero _]
      rfl
    · rw [h2, h4, show pageR (pgF k q) (k : Int) = some (q.1, q.2) from pageR_of (by rw [pageW, h3]; rfl)]
      rfl
  have hkt : (k : Int).toNat = k := by omega
  have hkp : s.kept k = none := by unfold Sto.kept; rw [hW]; simp only; rw [hD]; rfl
  have hdisk : s.disk (readE s.S (2 + (k : Int)) 1).2 = s := by rw [hrd]; rfl
  unfold readPE
  rw [if_neg (by rw [hhas]; simp), hkt, hkp]
  simp only
  rw [hhome, hdisk]
theorem sees_any {N pg ep : Nat} {S : St} (hd : DiskG N pg ep S) (D : Pgs) (L : Lg) (x : Sb) (W : Option Pgs) : ∃ C, Sees pg ⟨S, L, x, D, W⟩ C := by
  have h : ∀ k : Nat, ∃ r : Option Pg, k < pg → match D k with | some q => r = some q | none => (r = none ∧ S.now (2 + k) = DiskSpec.zeros) ∨ ∃ q, r = some q ∧ pageOk (k : Int) q.1 q.2 = true ∧ S.now (2 + k) = pgF k q := by
    intro k
    by_cases hk : k < pg
    · cases hD : D k with
      | some q => exact ⟨some q, fun _ => rfl⟩
      | none =>
        rcases hd.homes k hk _ (cand_now S (2 + k)) with h1 | ⟨q, h1, h2⟩
        · exact ⟨none, fun _ => .inl ⟨rfl, h1⟩⟩
        · exact ⟨some q, fun _ => .inr ⟨q, rfl, h1, h2⟩⟩
    · exact ⟨none, fun h => absurd h hk⟩
  obtain ⟨C, hC⟩ := Classical.axiomOfChoice h
  exact ⟨C, fun k hk => hC k hk⟩
/-- A store whose disk has gone on. -/
structure Old (W w : World) (pg b tb g sb dm : Nat) (own : Nat → Prop) (s : Sto) (S : St) : Prop where
  at_ : StoAt w W.heap.size b tb g sb dm none own { s with S := S }
  w : s.W = none
  ds : s.D = noPgs
  pgs : s.x.pg = pg
section
variable {W w w' : World} {N pg ep b tb g sb dm : Nat} {own own' : Nat → Prop} {s : Sto} {S T : St} {C : Pgs}
theorem Old.quiet (h : Old W w pg b tb g sb dm own s S) (hg : w.grownBy w' none) : Old W w' pg b tb g sb dm own s S := ⟨h.at_.quiet hg, h.w, h.ds, h.pgs⟩
theorem Old.move (h : Old W w pg b tb g sb dm own s S) (hd : DAt w' W.heap.size b T own') (ht : Turn w w' own own') (hn : T.n = S.n) : Old W w' pg b tb g sb dm own' s T := ⟨h.at_.disk hd ht hn, h.w, h.ds, h.pgs⟩
theorem old_read (h : Old W w pg b tb g sb dm own s S) (hq : Quiet6 S) (hN : 2 + pg ≤ S.n) {L : Lg} {x : Sb} {Wt : Option Pgs} (hC : Sees pg ⟨S, L, x, noPgs, Wt⟩ C) {k : Nat} (hk : k < pg) :
    Calls Tryz.prog 19 #[.pointer (some ⟨sb, 0, none⟩), .int .i64 (k : Nat)] w fun e w' => ∃ v, e = .returned (.tuple #[v, .int .i64 0]) ∧ PgV w' (fun i => i < w.heap.size) v ((C k).getD (0, [])) ∧
      Old W w' pg b tb g sb dm own s S ∧ Turn w w' own own := by
  have hp := h.pgs
  have hhas : ({ s with S := S } : Sto).has (k : Int) = true := by
    show (decide (0 ≤ (k : Int)) && decide ((k : Int) < (s.x.pg : Int))) = true
    simp
    omega
  have hs : Sees pg { s with S := S } C := fun j hj => by
    have h1 := hC j hj
    show match s.D j with | some q => C j = some q | none => (C j = none ∧ S.now (2 + j) = DiskSpec.zeros) ∨ ∃ q, C j = some q ∧ pageOk (j : Int) q.1 q.2 = true ∧ S.now (2 + j) = pgF j q
    rw [h.ds]
    exact h1
  have e1 := read_plain6 (s := { s with S := S }) (N := S.n) hq rfl hN hp h.ds h.w hs k hk
  have h1 := sto_read_g h.at_ (k : Int) hhas
  rw [e1] at h1
  refine h1.mono ?_
  rintro e w1 ⟨v, rfl, hv, h2, ht⟩
  exact ⟨v, rfl, hv, ⟨h2, h.w, h.ds, h.pgs⟩, ht⟩
/-- The disk has been read by another. -/
theorem Use.moved {o : Option Pgs} (h : Use W w N pg b tb g sb dm none own s C o) (hd : DAt w' W.heap.size b s.S own) (ht : Turn w w' own own) : Use W w' N pg b tb g sb dm none own s C o :=
  ⟨h.at_.disk hd ht rfl, h.out (turnD ht), h.gd, h.w, h.sees⟩
end
end Go.Proofs.YteaokeiolgjhaaaGreat.Sto
/- The walk over the law StoreAgain. -/
namespace Go.Proofs.YteaokeiolgjhaaaGreat.StoreAgainUpto
open Go.ChangeShapes Go.WideShapes Go.ChangeAt Go.RowKit Go.Maps Go.Shelf
open Crc CrcMath Mem CodecMath Codec DiskSpec Dsk Sup Log Sto

/-- What stays true from deed to deed. -/
structure Ag (W wr : World) (b tb g sb dm : Nat) (own : Nat → Prop) (s : Sto) (C : Pgs) (j : Nat) : Prop where
  u : Use W wr 200 20 b tb g sb dm none own s C none
  gn : s.x.gn ≤ 3 + 2 * j
  ep : s.x.ep = 2
  sq : s.L.seq ≤ 1 + 2 * j
  ver : ∀ i, (s.S.ver i).length ≤ 2 * j
theorem Ag.quiet {W wr w' : World} {b tb g sb dm : Nat} {own : Nat → Prop} {s : Sto} {C : Pgs} {j : Nat} (h : Ag W wr b tb g sb dm own s C j) (hg : wr.grownBy w' none) : Ag W w' b tb g sb dm own s C j :=
  ⟨h.u.quiet hg, h.gn, h.ep, h.sq, h.ver⟩
theorem apart_may : mayB (fmtSb 1 20 30 100).l ((200 : Nat) : Int) = true := may_mk (x := fmtSb 1 20 30 100) (by decide) (by decide) (by decide) (by decide) (by decide) (by decide) (by decide)
theorem foot_out {w w' : World} {F F' : Nat → Prop} (ht : Turn w w' F F') {i : Nat} (hi : i < w.heap.size) (hn : ¬ F i) : ¬ F' i := fun e => by
  rcases ht.fresh i e with h1 | h1
  · exact hn h1
  · omega
theorem in64_wrap (z : Int) : In64 (IntKind.i64.wrap z) := by
  unfold In64
  rw [IntKind.wrap_i64]
  omega
/-- A deed in the law's variable. -/
structure DV (w : World) (F : Nat → Prop) (xb : Nat) (kd pa wh fi nu le : Int) (pk : Value) : Prop where
  b : Blk w xb 34 #[.int .i64 kd, .int .i64 pa, .int .i64 wh, .int .i64 fi, .int .i64 nu, .int .i64 le, pk]
  n : ¬ F xb
theorem DV.turn {w w' : World} {F F' : Nat → Prop} {xb : Nat} {kd pa wh fi nu le : Int} {pk : Value} (h : DV w F xb kd pa wh fi nu le pk) (ht : Turn w w' F F') : DV w' F' xb kd pa wh fi nu le pk :=
  ⟨blk_of_block h.b (ht.block xb h.b.lt h.n), foot_out ht h.b.lt h.n⟩
theorem DV.quiet {w w' : World} {F : Nat → Prop} {xb : Nat} {kd pa wh fi nu le : Int} {pk : Value} (h : DV w F xb kd pa wh fi nu le pk) (hg : w.grownBy w' none) : DV w' F xb kd pa wh fi nu le pk := h.turn (Turn.none_ hg)
theorem DV.cells {w : World} {F : Nat → Prop} {xb : Nat} {kd pa wh fi nu le : Int} {pk : Value} (h : DV w F xb kd pa wh fi nu le pk) : w.cell? ⟨xb, 0, none⟩ = some (.int .i64 kd) ∧ w.cell? ⟨xb, 1, none⟩ = some (.int .i64 pa) ∧ w.cell? ⟨xb, 3, none⟩ = some (.int .i64 fi) ∧ w.cell? ⟨xb, 4, none⟩ = some (.int .i64 nu) :=
  ⟨by rw [h.b.cell]; rfl, by rw [h.b.cell]; rfl, by rw [h.b.cell]; rfl, by rw [h.b.cell]; rfl⟩
theorem gen_field (a0 a1 a2 a3 a4 a5 a6 : Int) (w : World) : (Instr.field 49 (.agg #[.int .i64 a0, .int .i64 a1, .int .i64 a2, .int .i64 a3, .int .i64 a4, .int .i64 a5, .int .i64 a6]) 0).run Tryz.prog w = .ok (.int .i64 a0) w := by kernel_rfl
/-- Two stores on one disk: an old one, and the one that was opened last. -/
structure Ro (W w : World) (b tb g sb dm : Nat) (ow : Nat → Prop) (s : Sto) (tb' g' sb' dm' : Nat) (cur : Sto) (C : Pgs) (r : Nat) : Prop where
  u : Use W w 200 20 b tb' g' sb' dm' none ow cur C none
  old : Old W w 20 b tb g sb dm ow s cur.S
  gn : cur.x.gn = s.x.gn + r
  ep : cur.x.ep ≤ 3 + r
  sq : cur.x.sq = 1
  ds : cur.D = noPgs
  ver : ∀ i, cur.S.ver i = []
theorem Ro.quiet {W w w' : World} {b tb g sb dm : Nat} {ow : Nat → Prop} {s : Sto} {tb' g' sb' dm' : Nat} {cur : Sto} {C : Pgs} {r : Nat} (h : Ro W w b tb g sb dm ow s tb' g' sb' dm' cur C r) (hg : w.grownBy w' none) : Ro W w' b tb g sb dm ow s tb' g' sb' dm' cur C r :=
  ⟨h.u.quiet hg, h.old.quiet hg, h.gn, h.ep, h.sq, h.ds, h.ver⟩
theorem Ro.q {W w : World} {b tb g sb dm : Nat} {ow : Nat → Prop} {s : Sto} {tb' g' sb' dm' : Nat} {cur : Sto} {C : Pgs} {r : Nat} (h : Ro W w b tb g sb dm ow s tb' g' sb' dm' cur C r) : Quiet6 cur.S ∧ cur.S.n = 200 ∧ Sees 20 ⟨cur.S, cur.L, cur.x, noPgs, cur.W⟩ C := by
  obtain ⟨ls, sure, hg⟩ := h.u.gd
  refine ⟨hg.d.q, hg.d.n, fun k hk => ?_⟩
  have h1 := h.u.sees k hk
  rw [h.ds] at h1
  exact h1
theorem turn_narrow {w w' : World} {own own' : Nat → Prop} {tb g sb dm : Nat} (h : Turn w w' own (Foot own' tb g sb dm none)) : Turn w w' own own' := ⟨h.os, h.tape, h.output, h.size, h.block, fun i hi => h.fresh i (.inl (.inl (.inl hi)))⟩
theorem super_is {w : World} {B b tb g sb dm : Nat} {wm : Option Nat} {own : Nat → Prop} {s : Sto} (h : StoAt w B b tb g sb dm wm own s) : Calls Tryz.prog 24 #[.pointer (some ⟨sb, 0, none⟩)] w fun e w' =>
    e = .returned (.agg #[.int .i64 (s.x.gn : Nat), .int .i64 (s.x.ep : Nat), .int .i64 (s.x.pg : Nat), .int .i64 (s.x.st : Nat), .int .i64 (s.x.ln : Nat), .int .i64 (s.x.hd : Nat), .int .i64 (s.x.sq : Nat)]) ∧ w.grownBy w' none := sto_super h
set_option maxRecDepth 100000 in
set_option maxHeartbeats 6400000 in
theorem walk {H : Type} {enc : TypeId × Value → H} (W : World) (base : Nat) (v0 v1 : Value) (d0 d1 : DataW H) (p0 p1 : List MemPlace)
    (o0 : Value.okWide Tryz.prog W .any base 22 v0)
    (o1 : Value.okWide Tryz.prog W .any base 32 v1)
    (h0 : DataW.Trod enc Tryz.prog W 0 (fun _ => true) true 22 v0 d0 p0)
    (h1 : DataW.Trod enc Tryz.prog W 0 (fun _ => true) true 32 v1 d1 p1)
    (_hsz : (DataW.weightsEach Tryz.prog [22, 32] [d0, d1]).all (· ≤ reachBytes) = true) (hk : Rows.uptoSmall H [d0, d1] = true) :
    Calls Tryz.prog 5 #[v0, v1] W fun e W' => e = .returned (.bool true) ∧ Below W.heap.size W W' := by
  obtain ⟨A, n, c, ops, rfl, hsc, hn⟩ := open_script6 o0 h0 hk (List.mem_cons_self ..)
  obtain ⟨A1, n1, c1, picks, rfl, hpk, hn1, hc1⟩ := open_picks o1 h1
  have HN1 := Lib.hid (show n1 ≤ 9223372036854775807 from Nat.le_trans hn1 (Nat.le_trans hc1 (by unfold maxLen; omega)))
  clear hn1 hc1
  have HSC := Lib.hid hsc
  have HPI := Lib.hid hpk
  clear o0 h0 o1 h1 hk hsc hpk
  have HN := Lib.hid (show Calls Tryz.prog 10 #[.int .i64 200] W fun e w' => ∃ b bd bm f own, e = .returned (.tuple #[.pointer (some ⟨b, 0, none⟩), .int .i64 0]) ∧ Lay w' W.heap.size b bd bm f (St.new 200) own ∧ W.grownBy w' none from disk_new 200 _ (by omega) (by omega))
  go_enter Tryz.func5, Tryz.ntmps5
  go_wp2_with fail
  refine HN.out.mono ?_
  rintro e w1 ⟨b, bd, bm, f, own, rfl, hl, hg1⟩
  have hf : Calls Tryz.prog 11 #[.pointer (some ⟨b, 0, none⟩), .int .i64 20, .int .i64 30, .int .i64 100] w1 fun e w' => e = .returned (.int .i64 0) ∧ ∃ own' dF, Fmt W w' 200 20 30 100 b own' dF :=
    use_format (W := W) (pg := 20) (st := 30) (ln := 100) (N := 200) ⟨bd, bm, f, hl⟩ hg1 (by omega) apart_may
  have HF := Lib.hid hf
  clear hl hg1 hf HN
  go_wp2_with fail
  refine HF.out.mono ?_
  rintro e w2 ⟨rfl, own2, dF, hfm⟩
  have HO := Lib.hid (use_open_fmt hfm (by omega))
  clear hfm HF
  go_wp2_with fail
  refine HO.out.mono ?_
  rintro e w3 ⟨tb, g, sb, dm, own3, s3, rfl, hb3⟩
  have HA3 := Lib.hid (show Ag W w3 b tb g sb dm own3 s3 noPgs 0 from
    ⟨hb3.u, by rw [hb3.xs]; exact Nat.le_refl _, by rw [hb3.xs]; rfl, by rw [hb3.ls]; exact Nat.le_refl _, fun i => by rw [hb3.ver i]; exact Nat.le_refl _⟩)
  clear hb3 HO
  go_wp2_with fail
  go_loopw [8, 9, 10] (fun i _ _ wr => ∃ (j : Nat) (ow : Nat → Prop) (s : Sto) (C : Pgs), j ≤ n ∧ i = .int .i64 j ∧ Ag W wr b tb g sb dm ow s C j) (fun i _ _ _ => n - (Go.RowKit.intOf i).toNat)
  case atStart => exact ⟨0, _, _, _, Nat.zero_le _, rfl, HA3.out⟩
  case round =>
    clear HA3
    obtain ⟨j, ow, s, C, hj, rfl, ha⟩ := hrel
    have HA := Lib.hid ha
    clear ha
    by_cases hlt : j < n
    · have hjn : (j : Int) < (n : Int) := by omega
      obtain ⟨gc, oc, x, rfl, hx, hxok, e0, e1, e2, e3, e4, e5, e6⟩ := HSC.out.at_ HA.out.u.gr hlt
      have HOK := Lib.hid hxok
      obtain ⟨kd, pa, wh, fi, nu, le, xA, xn, xc, pks⟩ := x
      dsimp only at *
      have hga := World.grownBy_alloc wr (.cells #[.int .i64 kd, .int .i64 pa, .int .i64 wh, .int .i64 fi, .int .i64 nu, .int .i64 le, .slice xA xn xc] 34) none
      have HA1 := Lib.hid (HA.out.quiet hga)
      have HX1 := Lib.hid (show DV (wr.alloc (.cells #[.int .i64 kd, .int .i64 pa, .int .i64 wh, .int .i64 fi, .int .i64 nu, .int .i64 le, .slice xA xn xc] 34)) (Foot ow tb g sb dm none) wr.heap.size kd pa wh fi nu le (.slice xA xn xc) from ⟨Blk.new wr _ _, fun e => by have := HA.out.u.foot_lt e; omega⟩)
      have HBG := Lib.hid (use_begin HA1.out.u)
      clear hx hxok hga HA
      go_wp2_with fail
      generalize wr.alloc (.cells #[.int .i64 kd, .int .i64 pa, .int .i64 wh, .int .i64 fi, .int .i64 nu, .int .i64 le, .slice xA xn xc] 34) = wb at *
      generalize wr.heap.size = xb at *
      refine HBG.out.mono ?_
      rintro e w3 ⟨rfl, wm3, hu3, ht3⟩
      have HU3 := Lib.hid hu3
      have HX3 := Lib.hid (HX1.out.turn ht3)
      have hk0 : (keys noPgs).length ≤ 0 := by rw [(keys_nil PgsOk.none_).2 rfl]; simp
      have HK0 := Lib.hid hk0
      clear hu3 ht3 HBG HX1 e0 e1 e2 e3 e4 e5 e6 hk0
      go_wp2_with fail
      go_loopw [10] (fun i wx => ∃ (k : Nat) (oy : Nat → Prop) (U : Pgs), k ≤ 4 ∧ i = .int .i64 k ∧ Use W wx 200 20 b tb g sb dm wm3 oy { s with W := some U } C (some U) ∧ (keys U).length ≤ k ∧ DV wx (Foot oy tb g sb dm wm3) xb kd pa wh fi nu le (.slice xA xn xc)) (fun i _ => 5 - (Go.RowKit.intOf i).toNat)
      case atStart => exact ⟨0, _, _, by omega, rfl, HU3.out, HK0.out, HX3.out⟩
      case round =>
        clear HU3 HX3 HK0
        obtain ⟨k, oy, U, hk, rfl, hu, hku, hxv⟩ := hrel
        have HU := Lib.hid hu
        have HKU := Lib.hid hku
        have HX := Lib.hid hxv
        clear hu hku hxv
        obtain ⟨y0, y1, y3, y4⟩ := HX.out.cells
        have HPK := Lib.hid (fun wx => show Calls Tryz.prog 13 #[.int .i64 nu, .int .i64 4] wx fun e w' => (∃ k : Nat, k < 4 ∧ e = .returned (.int .i64 (k : Nat))) ∧ w' = wx from pick_call nu HOK.out.num 4 (by omega) wx)
        go_wp2_with fail
        refine (HPK.out _).mono ?_
        rintro e w4 ⟨⟨m, hm, rfl⟩, rfl⟩
        by_cases hkm : k ≤ m
        · have hki : (k : Int) ≤ (m : Int) := by omega
          have hw3 : IntKind.i64.wrap (3 * (k : Int)) = 3 * (k : Int) := IntWalk.i64_in _ (by omega)
          obtain ⟨c2, hc2⟩ : ∃ c2, IntKind.i64.wrap (pa + 3 * (k : Int)) = c2 := ⟨_, rfl⟩
          obtain ⟨f2, hf2⟩ : ∃ f2, IntKind.i64.wrap (fi + (k : Int)) = f2 := ⟨_, rfl⟩
          have hc2b : In64 c2 := by rw [← hc2]; exact in64_wrap _
          have HP2 := Lib.hid (fun wx => show Calls Tryz.prog 13 #[.int .i64 c2, .int .i64 20] wx fun e w' => (∃ k : Nat, k < 20 ∧ e = .returned (.int .i64 (k : Nat))) ∧ w' = wx from pick_call c2 hc2b 20 (by omega) wx)
          clear HPK hc2b y0 y4
          go_wp2_with fail
          have HD0 := Lib.hid (grown_drew w4 none)
          have HU0 := Lib.hid (HU.out.quiet HD0.out)
          have HX0 := Lib.hid (HX.out.quiet HD0.out)
          have HPC := Lib.hid (page_call 0 0 5 f2 0 0 (.slice none 0 0) ⟨none, 0, 0, rfl⟩ (by decide) w4.drew)
          have HWR := Lib.hid (fun (wp : World) (gp : Nat) (hgp : w4.drew.heap.size ≤ gp) (hbp : Blk wp gp 5 (u8s (bodyOne f2)).toArray) (hgq : w4.drew.grownBy wp none) (kk : Nat) (hkk : kk < 20) =>
            show Calls Tryz.prog 15 #[.pointer (some ⟨sb, 0, none⟩), .int .i64 (kk : Nat), .agg #[.int .i64 5, .slice (some ⟨gp, 0, none⟩) 240 240]] wp _ from use_write (HU0.out.quiet hgq) hkk (q := ((5 : Int), bodyOne f2)) ⟨_, rfl, _, _, _, rfl, Nat.le_refl _, by
              have h9 := data_of_blk (own := Foot oy tb g sb dm wm3) hbp (bodyOne_lt f2) (fun e => by have := HU0.out.foot_lt e; omega)
              rw [bodyOne_len] at h9
              exact h9⟩ (one_ok kk (by omega) f2) (by have := HKU.out; omega))
          have HKEEP := Lib.hid (show ∀ (wz : World) (F : Nat → Prop), DV wz F xb kd pa wh fi nu le (.slice xA xn xc) → wz.cell? ⟨xb, 1, none⟩ = some (.int .i64 pa) ∧ wz.cell? ⟨xb, 3, none⟩ = some (.int .i64 fi) from fun wz F h => ⟨h.cells.2.1, h.cells.2.2.1⟩)
          clear y1 y3
          go_region_held3 (fun wz => wz.cell? ⟨xb, 1, none⟩ = some (.int .i64 pa) ∧ wz.cell? ⟨xb, 3, none⟩ = some (.int .i64 fi))
            (first
              | exact HKEEP.out _ _ HX0.out
              | exact HKEEP.out _ _ HX5.out
              | exact HKEEP.out _ _ HX6.out)
            (first
              | (go_at_call 13
                 (with_reducible refine (HP2.out _).mono ?_)
                 rintro e w5 ⟨⟨kk, hkk, rfl⟩, rfl⟩
                 have HKK := Lib.hid hkk
                 clear hkk)
              | (go_at_call 16
                 (with_reducible refine HPC.out.mono ?_)
                 rintro e w5 ⟨gp, rfl, hgp, hbp, hgq⟩
                 have HGP := Lib.hid hgp; have HBP := Lib.hid hbp; have HGQ := Lib.hid hgq
                 have HX5 := Lib.hid (HX0.out.quiet hgq)
                 clear hgp hbp hgq)
              | (go_at_call 15
                 (with_reducible refine (HWR.out _ gp HGP.out HBP.out HGQ.out kk HKK.out).mono ?_)
                 rintro e w6 ⟨rfl, own6, hu6, ht6⟩
                 have HU6 := Lib.hid hu6
                 have HX6 := Lib.hid (HX5.out.turn ht6)
                 have HKU6 := Lib.hid (keys_upd U kk (some ((5 : Int), bodyOne f2)))
                 clear hu6 ht6))
          go_wp2_with fail
          go_roundw
          case rel => exact ⟨k + 1, own6, _, by omega, by first | rfl | simp, HU6.out, by have h1 := HKU.out; have h2 := HKU6.out; omega, HX6.out⟩
          case measure => simp [Go.RowKit.intOf]; omega
        · have hki : ¬ ((k : Int) ≤ (m : Int)) := by omega
          have HCM := Lib.hid (use_commit HU.out (by have := HA1.out.gn; show s.x.gn < _; omega) (by have := HA1.out.ep; show s.x.ep ≤ _; omega) (by have := HA1.out.sq; show s.L.seq ≤ _; omega) (fun i => by have := HA1.out.ver i; show (s.S.ver i).length < _; omega))
          clear HPK y0 y1 y3 y4
          go_wp2_with fail
          refine HCM.out.mono ?_
          rintro e w5 ⟨rfl, own5, s5, hu5, hn5, ht5⟩
          have HU5 := Lib.hid hu5
          have HX5 := Lib.hid (HX.out.turn ht5)
          have HA5 := Lib.hid (show Ag W w5 b tb g sb dm own5 s5 (over C U) (j + 1) ∧ s5.x.gn ≤ 3 + 2 * j + 1 ∧ s5.L.seq ≤ 1 + 2 * j + 1 ∧ ∀ i, (s5.S.ver i).length ≤ 2 * j + 1 from by
            have g1 : s5.x.gn ≤ s.x.gn + 1 := hn5.gn.2
            have g2 : s5.L.seq ≤ s.L.seq + 1 := hn5.seq.2
            have g3 : ∀ i, (s5.S.ver i).length ≤ (s.S.ver i).length + 1 := hn5.ver
            have g4 := HA1.out.gn; have g5 := HA1.out.sq; have g6 := HA1.out.ver
            exact ⟨⟨hu5, by omega, hn5.ep.trans HA1.out.ep, by omega, fun i => by have := g3 i; have := g6 i; omega⟩, by omega, by omega, fun i => by have := g3 i; have := g6 i; omega⟩)
          have hep5 : s5.x.ep = 2 := HA5.out.1.ep
          obtain ⟨y0, y1, y3, y4⟩ := HX5.out.cells
          have HPK := Lib.hid (fun wx => show Calls Tryz.prog 13 #[.int .i64 kd, .int .i64 6] wx fun e w' => (∃ k : Nat, k < 6 ∧ e = .returned (.int .i64 (k : Nat))) ∧ w' = wx from pick_call kd HOK.out.kind 6 (by omega) wx)
          clear hu5 hn5 ht5 HCM HU HX HKU
          go_wp2_with fail
          refine (HPK.out _).mono ?_
          rintro e w6 ⟨⟨m6, hm6, rfl⟩, rfl⟩
          by_cases h6 : m6 = 0
          · have h6b : ((m6 : Int) == 0) = true := by simp; omega
            have h6i : (m6 : Int) = 0 := by omega
            have HCK := Lib.hid (use_checkpoint HU5.out (by have := HA5.out.2.1; omega) (by have := HA5.out.2.2.1; omega) (fun i => by have := HA5.out.2.2.2 i; omega))
            clear HPK y0 y1 y3 y4
            go_wp2_with fail
            refine HCK.out.mono ?_
            rintro e w7 ⟨rfl, own7, s7, hu7, hn7, ht7, _⟩
            have HA7 := Lib.hid (show Ag W w7 b tb g sb dm own7 s7 (over C U) (j + 1) from by
              have g1 := hn7.gn.2; have g2 := hn7.seq.2
              obtain ⟨_, g4, g5, g6⟩ := HA5.out
              exact ⟨hu7, by omega, hn7.ep.trans hep5, by omega, fun i => by have := hn7.ver i; have := g6 i; omega⟩)
            clear hu7 hn7 ht7 HCK HU5 HA5 HX5
            go_wp2_with fail
            go_roundw
            case rel => exact ⟨j + 1, own7, s7, _, by omega, by first | rfl | simp, HA7.out⟩
            case measure => simp [Go.RowKit.intOf]; omega
          · have h6b : ((m6 : Int) == 0) = false := by simp; omega
            have h6i : ¬ ((m6 : Int) = 0) := by omega
            clear HPK y0 y1 y3 y4
            go_wp2_with fail
            go_roundw
            case rel => exact ⟨j + 1, own5, s5, _, by omega, by first | rfl | simp, HA5.out.1⟩
            case measure => simp [Go.RowKit.intOf]; omega
    · have hje : j = n := by omega
      have hjn : ¬ ((j : Int) < (n : Int)) := by omega
      have HCR := Lib.hid (use_crash HA.out.u A1 n1 c1 picks (PIn.picks_ HPI.out HA.out.u.gr (fun i hi => HA.out.u.at_.foot_low (.inl (.inl (.inl hi))))) HN1.out (fun i => by have := HA.out.ver i; omega))
      clear HSC
      go_wp2_with fail
      refine HCR.out.mono ?_
      rintro e w4 ⟨rfl, ht4, dur, ls4, M4, hfl, _⟩
      obtain ⟨C4, hC4⟩ := sees_any hfl.d (latestOf (recsOf (s.x.sq : Int) ls4)) M4 s.x none
      have hsq : s.x.sq ≤ 1 + 2 * j := by
        obtain ⟨ls, sure, hg⟩ := HA.out.u.gd
        have h1 := hg.seq
        have h2 := HA.out.sq
        omega
      have HOP := Lib.hid (use_open hfl.at_ hfl.gr s.x hfl.d hfl.sup hfl.pgs hfl.top hfl.rec_ (by have := HA.out.gn; omega) (by have := HA.out.ep; omega) (by omega) hfl.op hC4)
      have HGN := Lib.hid HA.out.gn
      have HEP := Lib.hid HA.out.ep
      clear ht4 hfl hC4 hsq HCR HA
      go_wp2_with fail
      refine HOP.out.mono ?_
      rintro e w5 ⟨tb5, g5, sb5, dm5, own5, s5, rfl, hb5, ht5⟩
      have HR5 := Lib.hid (show Ro W w5 b tb5 g5 sb5 dm5 own5 s5 tb5 g5 sb5 dm5 s5 C4 0 from
        ⟨hb5.u, ⟨hb5.u.at_, hb5.u.w, hb5.ds, hb5.u.pg_⟩, rfl, by rw [hb5.xs]; have := HEP.out; show s.x.ep + 1 ≤ _; omega, by rw [hb5.xs]; rfl, hb5.ds, hb5.ver⟩)
      have HG5 := Lib.hid (show s5.x.gn ≤ 4 + 2 * j from by rw [hb5.xs]; have := HGN.out; show s.x.gn + 1 ≤ _; omega)
      clear hb5 ht5 HOP HGN HEP
      go_wp2_with fail
      go_loopw [11, 12, 13, 14, 15, 16, 17, 18, 19] (fun i _ _ _ _ _ _ _ _ wr => ∃ (r : Nat) (ow : Nat → Prop) (tb' g' sb' dm' : Nat) (cur : Sto) (C : Pgs), r ≤ 3 ∧ i = .int .i64 r ∧ Ro W wr b tb5 g5 sb5 dm5 ow s5 tb' g' sb' dm' cur C r) (fun i _ _ _ _ _ _ _ _ _ => 3 - (Go.RowKit.intOf i).toNat)
      case atStart => exact ⟨0, _, _, _, _, _, _, _, by omega, rfl, HR5.out⟩
      case round =>
        clear HR5
        obtain ⟨r, ow2, tb', g', sb', dm', cur, C5, hr, rfl, hro⟩ := hrel
        have HR := Lib.hid hro
        clear hro
        by_cases hr3 : r < 3
        · have hrn : (r : Int) < 3 := by omega
          have HCR := Lib.hid (use_crash HR.out.u A1 n1 c1 picks (PIn.picks_ HPI.out HR.out.u.gr (fun i hi => HR.out.u.at_.foot_low (.inl (.inl (.inl hi))))) HN1.out (fun i => by rw [HR.out.ver i]; simp))
          go_wp2_with fail
          refine HCR.out.mono ?_
          rintro e w6 ⟨rfl, ht6, dur6, ls6, M6, hfl, _⟩
          obtain ⟨C6, hC6⟩ := sees_any hfl.d (latestOf (recsOf (cur.x.sq : Int) ls6)) M6 cur.x none
          have HO6 := Lib.hid (HR.out.old.move (T := plain 200 dur6) hfl.at_ ht6 (by rw [HR.out.q.2.1]; rfl))
          have HOP := Lib.hid (use_open hfl.at_ hfl.gr cur.x hfl.d hfl.sup hfl.pgs hfl.top hfl.rec_ (by have h1 := HR.out.gn; have h2 := HG5.out; omega) (by have := HR.out.ep; omega) (by have := HR.out.sq; omega) hfl.op hC6)
          have HGG := Lib.hid HR.out.gn
          have HEE := Lib.hid HR.out.ep
          clear ht6 hfl hC6 HCR HR
          go_wp2_with fail
          refine HOP.out.mono ?_
          rintro e w7 ⟨tb7, g7, sb7, dm7, own7, s7, rfl, hb7, ht7⟩
          have ho7 := HO6.out.move hb7.u.at_.l.s.d (turn_narrow ht7) (by
            obtain ⟨ls, sure, hg⟩ := hb7.u.gd
            exact hg.d.n)
          have HR7 := Lib.hid (show Ro W w7 b tb5 g5 sb5 dm5 own7 s5 tb7 g7 sb7 dm7 s7 C6 (r + 1) from
            ⟨hb7.u, ho7, by rw [hb7.xs]; have := HGG.out; show cur.x.gn + 1 = _; omega, by rw [hb7.xs]; have := HEE.out; show cur.x.ep + 1 ≤ _; omega, by rw [hb7.xs]; rfl, hb7.ds, hb7.ver⟩)
          have HS1 := Lib.hid (super_is HR7.out.u.at_)
          clear hb7 ht7 ho7 HOP HO6 HGG HEE
          have hfld := gen_field
          have hle : ¬ ((s7.x.gn : Int) ≤ (s5.x.gn : Int)) := by have := HR7.out.gn; omega
          go_wp2_with fail
          refine HS1.out.mono ?_
          rintro e w8 ⟨rfl, hg8⟩
          have HS2 := Lib.hid (super_is (HR7.out.old.quiet hg8).at_)
          have HR8 := Lib.hid (HR7.out.quiet hg8)
          clear hg8 HS1 HR7
          go_wp2_with fail
          refine HS2.out.mono ?_
          rintro e w9 ⟨rfl, hg9⟩
          have HR9 := Lib.hid (HR8.out.quiet hg9)
          clear hg9 HS2 HR8
          dsimp only
          go_wp2_with fail
          have hdf : decide (s7.x.gn ≤ s5.x.gn) = false := by have := HR9.out.gn; simp; omega
          simp only [hdf]
          clear hle hdf
          go_loopw [14, 15, 16, 17, 18, 19] (fun i _ _ _ _ _ wx => ∃ q : Nat, q ≤ 20 ∧ i = .int .i64 q ∧ Ro W wx b tb5 g5 sb5 dm5 own7 s5 tb7 g7 sb7 dm7 s7 C6 (r + 1)) (fun i _ _ _ _ _ _ => 20 - (Go.RowKit.intOf i).toNat)
          case atStart => exact ⟨0, by omega, rfl, HR9.out⟩
          case round =>
            clear HR9
            obtain ⟨q, hq, rfl, hro⟩ := hrel
            have HR := Lib.hid hro
            clear hro
            by_cases hlq : q < 20
            · have hqn : (q : Int) < 20 := by omega
              obtain ⟨q1, q2, q3⟩ := HR.out.q
              have HRD := Lib.hid (old_read HR.out.old q1 (by omega) q3 hlq)
              clear q1 q2 q3
              go_wp2_with fail
              refine HRD.out.mono ?_
              rintro e w10 ⟨v1, rfl, hv1, ho10, ht10⟩
              obtain ⟨pq, hpq⟩ : ∃ pq, (C6 q).getD (0, []) = pq := ⟨_, rfl⟩
              rw [hpq] at hv1
              have hlo : ∀ i, own7 i → i < wr.heap.size := fun i hi => HR.out.u.foot_lt (.inl (.inl (.inl hi)))
              have hu10 := HR.out.u.moved ho10.at_.l.s.d ht10
              have hv1w : PgV w10 own7 v1 pq := hv1.weak (fun i _ hi => hlo i hi)
              obtain ⟨_, rfl, Ax, nx, cx, rfl, hncx, hdx⟩ := hv1w
              have hga := World.grownBy_alloc w10 (.cells #[.int .i64 pq.1, .slice Ax nx cx] 40) none
              have HU11 := Lib.hid (hu10.quiet hga)
              have HO11 := Lib.hid (ho10.quiet hga)
              have HB11 := Lib.hid (Blk.new w10 40 #[.int .i64 pq.1, .slice Ax nx cx])
              have HV11 := Lib.hid (show PgV (w10.alloc (.cells #[.int .i64 pq.1, .slice Ax nx cx] 40)) own7 (.agg #[.int .i64 pq.1, .slice Ax nx cx]) pq from ⟨_, rfl, Ax, nx, cx, rfl, hncx, Dsk.Data.turn hdx (Turn.none_ hga)⟩)
              have HNX := Lib.hid (show ¬ own7 w10.heap.size from fun e => by have := hlo _ e; have := ht10.size; omega)
              have HOB := Lib.hid (show own7 b from by obtain ⟨_, _, _, hd⟩ := hu10.at_.l.s.d; exact hd.ownB)
              have HRB := Lib.hid HR.out.gn; have HRC := Lib.hid HR.out.ep; have HRE := Lib.hid HR.out.sq; have HRF := Lib.hid HR.out.ds; have HRG := Lib.hid HR.out.ver
              have HR2 := Lib.hid (use_read_g HU11.out hlq)
              clear hv1 ho10 ht10 hlo hu10 hncx hdx hga HRD HR
              go_wp2_with fail
              generalize w10.alloc (.cells #[.int .i64 pq.1, .slice Ax nx cx] 40) = w11 at *
              generalize w10.heap.size = xb at *
              refine HR2.out.mono ?_
              rintro e w12 ⟨v2, rfl, hv2, hu12, ht12⟩
              have hv2e : PgV w12 (fun i => i < w11.heap.size) v2 pq := by rw [← hpq]; exact hv2
              have hlo : ∀ i, own7 i → i < w11.heap.size := fun i hi => HU11.out.foot_lt (.inl (.inl (.inl hi)))
              have hv2w : PgV w12 own7 v2 pq := hv2e.weak (fun i _ hi => hlo i hi)
              obtain ⟨_, rfl, Ay, ny, cy, rfl, hncy, hdy⟩ := hv2w
              have hga := World.grownBy_alloc w12 (.cells #[.int .i64 pq.1, .slice Ay ny cy] 40) none
              have HR13 := Lib.hid (show Ro W (w12.alloc (.cells #[.int .i64 pq.1, .slice Ay ny cy] 40)) b tb5 g5 sb5 dm5 own7 s5 tb7 g7 sb7 dm7 s7 C6 (r + 1) from
                ⟨hu12.quiet hga, (HO11.out.move hu12.at_.l.s.d ht12 rfl).quiet hga, HRB.out, HRC.out, HRE.out, HRF.out, HRG.out⟩)
              have HX13 := Lib.hid (show PgV (w12.alloc (.cells #[.int .i64 pq.1, .slice Ay ny cy] 40)) own7 (.agg #[.int .i64 pq.1, .slice Ax nx cx]) pq from (HV11.out.turn ht12).turn (Turn.none_ hga))
              have HY13 := Lib.hid (show PgV (w12.alloc (.cells #[.int .i64 pq.1, .slice Ay ny cy] 40)) own7 (.agg #[.int .i64 pq.1, .slice Ay ny cy]) pq from ⟨_, rfl, Ay, ny, cy, rfl, hncy, Dsk.Data.turn hdy (Turn.none_ hga)⟩)
              have hbx := (blk_of_block HB11.out (ht12.block xb HB11.out.lt HNX.out)).grown hga (by simp)
              have x0 := hbx.cell 0; have x1 := hbx.cell 1
              simp only [List.getElem?_toArray, List.getElem?_cons_zero, List.getElem?_cons_succ] at x0 x1
              have HSM := Lib.hid (same_call HX13.out HY13.out HOB.out)
              clear hv2 hu12 ht12 hv2e hlo hncy hdy hga hbx HR2 HU11 HO11 HV11 HB11 hpq
              go_wp2_with fail
              refine HSM.out.mono ?_
              rintro e w14 ⟨rfl, hg14⟩
              have HR14 := Lib.hid (HR13.out.quiet hg14)
              clear hg14 HSM HR13 HX13 HY13 x0 x1
              go_wp2_with fail
              go_roundw
              case rel => exact ⟨q + 1, by omega, by first | rfl | simp, HR14.out⟩
              case measure => simp [Go.RowKit.intOf]; omega
            · have hqe : q = 20 := by omega
              have hqn : ¬ ((q : Int) < 20) := by omega
              go_wp2_with fail
              go_roundw
              case rel => exact ⟨r + 1, _, _, _, _, _, _, _, by omega, by first | rfl | simp, HR.out⟩
              case measure => simp [Go.RowKit.intOf]; omega
        · have hre : r = 3 := by omega
          have hrn : ¬ ((r : Int) < 3) := by omega
          have HLV := Lib.hid (lives_call wr)
          go_wp2_with fail
          refine HLV.out.mono ?_
          rintro e w6 ⟨rfl, hg6⟩
          have HE := Lib.hid (HR.out.u.gr.trans hg6)
          clear hg6 HLV
          go_wp2_with fail
          go_ret
          exact ⟨rfl, below_of_grown HE.out (Nat.le_refl _) (fun _ e => by cases e)⟩
end Go.Proofs.YteaokeiolgjhaaaGreat.StoreAgainUpto
