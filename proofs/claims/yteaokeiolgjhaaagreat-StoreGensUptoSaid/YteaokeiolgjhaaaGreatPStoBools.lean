/- Texts of this seat's proofs: StoBools, StoFar, StoOld, StoGens. -/
import Derived.Test.YteaokeiolgjhaaaGreatPStoUse
import Derived.Test.YteaokeiolgjhaaaGreatPLogIn
/- A law's own row of bools beside a store. -/
namespace Go.Proofs.YteaokeiolgjhaaaGreat.Sto
open Go.RowKit Go.Maps Go.Shelf CrcMath CodecMath Mem Crc Codec DiskSpec Dsk Sup Log

/-- Cells that are bools. -/
def Bools (cs : Array Value) : Prop := ∀ (i : Nat) (v : Value), cs[i]? = some v → ∃ b, v = .bool b
section
variable {lv : Value} {w w' : World} {P : Nat → Prop} {q : Nat} {t : TypeId} {cs : Array Value}
theorem data_bools {A : Option Addr} {n : Nat} {l : List Nat} (h : Dsk.Data w P A n l) (hg : w.grownBy w' (some q)) (hb : Blk w q t cs) (hc : Bools cs) : Dsk.Data w' P A n l := by
  refine ⟨h.1, h.2.1, fun hn => ?_⟩
  obtain ⟨g, o, e, hlt, hno, hcell⟩ := h.2.2 hn
  have hne : g ≠ q := fun e2 => by
    subst e2
    have h1 := hcell 0 hn
    rw [Blk.cell hb] at h1
    obtain ⟨b, h2⟩ := hc _ _ h1
    cases h2
  refine ⟨g, o, e, Nat.lt_of_lt_of_le hlt hg.size, hno, fun j hj => ?_⟩
  rw [World.cell?_of_block (a := ⟨g, o + j, none⟩) (hg.block g hlt (fun e2 => hne (by cases e2; rfl)))]
  exact hcell j hj
theorem pmap_bools {bm : Nat} {D : Pgs} (h : PMap w P bm D) (hg : w.grownBy w' (some q)) (hb : Blk w q t cs) (hc : Bools cs) (hne : bm ≠ q) : PMap w' P bm D := by
  obtain ⟨f, h1, h2⟩ := h.m
  refine ⟨⟨f, h1.of_block (hg.block bm h1.lt (fun e => hne (by cases e; rfl))), fun k => ?_⟩, h.ok⟩
  rcases h2 k with a | ⟨p, v, a, b, bv, e, A, n, c, e2, hnc, hd⟩
  · exact .inl a
  · exact .inr ⟨p, v, a, b, bv, e, A, n, c, e2, hnc, data_bools hd hg hb hc⟩
variable {B b tb g sb dm : Nat} {wm : Option Nat} {own : Nat → Prop} {s : Sto}
theorem StoAtG.bools (h : StoAtG lv w B b tb g sb dm wm own s) (hg : w.grownBy w' (some q)) (hb : Blk w q t cs) (hc : Bools cs) (hq : ¬ Foot own tb g sb dm wm q) : StoAtG lv w' B b tb g sb dm wm own s where
  l := h.l.far hg (fun j e ho => hq (.inl (by cases e; exact ho)))
  r := h.r.keep hg (fun e => hq (.inl (.inl (.inr (by cases e; rfl)))))
  c := h.c.grown hg (fun e => hq (.inr (.inl (by cases e; rfl))))
  d := pmap_bools h.d hg hb hc (fun e => hq (.inr (.inr (.inl e.symm))))
  u := fun U hU => by
    obtain ⟨m, e, hm⟩ := h.u U hU
    exact ⟨m, e, pmap_bools hm hg hb hc (fun e2 => hq (.inr (.inr (.inr (by rw [e, e2])))))⟩
  n := h.n
  may := h.may
  osb := h.osb
  odm := h.odm
  owm := h.owm
  low := h.low
end
/-- Which pages there are. -/
def wrC (C : Pgs) : Array Value := ((List.range 20).map fun k => Value.bool (C k).isSome).toArray
theorem wrC_bools (C : Pgs) : Bools (wrC C) := fun i v h => by
  unfold wrC at h
  rw [List.getElem?_toArray, List.getElem?_map] at h
  cases hr : (List.range 20)[i]? with
  | none => rw [hr] at h; cases h
  | some k => rw [hr] at h; cases h; exact ⟨_, rfl⟩
theorem wrC_at (C : Pgs) {k : Nat} (hk : k < 20) : (wrC C)[k]? = some (.bool (C k).isSome) := by
  unfold wrC
  rw [List.getElem?_toArray, List.getElem?_map, List.getElem?_range hk]
  rfl
theorem wrC_size (C : Pgs) : (wrC C).size = 20 := by simp [wrC]
theorem wrC_set (C : Pgs) {k : Nat} (q : Pg) : (wrC C).setIfInBounds k (.bool true) = wrC (upd C k (some q)) := by
  apply Array.ext_getElem?
  intro i
  rw [Array.getElem?_setIfInBounds]
  by_cases hi : i < 20
  · rw [wrC_at _ hi]
    by_cases e : k = i
    · subst e
      rw [if_pos rfl, if_pos (by rw [wrC_size]; exact hi), wrC_at _ hi, upd_same]; rfl
    · rw [if_neg e, wrC_at _ hi, upd_ne _ _ (fun e2 => e e2.symm)]
  · have h1 : (wrC C)[i]? = none := Array.getElem?_eq_none (by rw [wrC_size]; omega)
    have h2 : (wrC (upd C k (some q)))[i]? = none := Array.getElem?_eq_none (by rw [wrC_size]; omega)
    rw [h1, h2]
    split
    · rename_i e
      rw [if_neg (by rw [wrC_size]; omega)]
    · rfl
theorem over_one (C : Pgs) (k : Nat) (q : Pg) : over C (upd noPgs k (some q)) = upd C k (some q) := by
  funext j
  unfold over
  by_cases e : j = k
  · subst e; rw [upd_same, upd_same]
  · rw [upd_ne _ _ e, upd_ne _ _ e]; rfl
end Go.Proofs.YteaokeiolgjhaaaGreat.Sto
/- A law's own row beside a store: it may be written over. Calls of a store, told for rows beside it. -/
namespace Go.Proofs.YteaokeiolgjhaaaGreat.Sto
open Go.RowKit Go.Maps Go.Shelf CrcMath CodecMath Mem Crc Codec DiskSpec Dsk Sup Log

section
variable {W w w' : World} {N pg b tb g sb dm : Nat} {wm : Option Nat} {own own' : Nat → Prop} {s s' : Sto} {C : Pgs} {o : Option Pgs} {q : Nat}
theorem use_begin_g (h : Use W w N pg b tb g sb dm wm own s C none) : Calls Tryz.prog 14 #[.pointer (some ⟨sb, 0, none⟩)] w fun e w' =>
    e = .returned (.int .i64 0) ∧ ∃ wm', Use W w' N pg b tb g sb dm wm' own { s with W := some noPgs } C (some noPgs) ∧ Turn w w' (Foot own tb g sb dm wm) (Foot own tb g sb dm wm') ∧ w.grownBy w' (some sb) := by
  have hb : beginE s = (0, { s with W := some noPgs }) := by
    unfold beginE
    rw [h.w]
    rfl
  have h1 := sto_begin_g h.at_
  rw [hb] at h1
  refine h1.mono ?_
  rintro e w1 ⟨rfl, wm', h2, ht, hgb⟩
  obtain ⟨ls, sure, hg⟩ := h.gd
  exact ⟨rfl, wm', ⟨h2, h.out ht, ⟨ls, sure, hg.begun (UOk.none_ pg)⟩, rfl, h.sees⟩, ht, hgb⟩
theorem use_write_g {U : Pgs} (h : Use W w N pg b tb g sb dm wm own s C (some U)) {k : Nat} (hk : k < pg) {v : Value} {q : Pg} (hv : PgV w (Foot own tb g sb dm wm) v q) (hq : pageOk (k : Int) q.1 q.2 = true) (hl : (keys U).length < 40) :
    Calls Tryz.prog 15 #[.pointer (some ⟨sb, 0, none⟩), .int .i64 (k : Nat), v] w fun e w' => e = .returned (.int .i64 0) ∧ ∃ m, wm = some m ∧ Use W w' N pg b tb g sb dm (some m) own { s with W := some (upd U k (some q)) } C (some (upd U k (some q))) ∧
      w.grownBy w' (some m) ∧ ∀ Q : Nat → Prop, (∀ i, Q i → i < w.heap.size) → Q m → PMap w Q m U → PMap w' Q m (upd U k (some q)) := by
  have hb : writePE s (k : Int) q = (0, { s with W := some (upd U k (some q)) }) := by
    have hw := h.w
    unfold writePE
    rw [hw]
    simp only
    rw [if_neg (by rw [h.has_ hk]; simp), if_neg (by rw [hq]; simp), if_neg (by omega), show (k : Int).toNat = k by omega]
  have h1 := sto_write_g h.at_ (k : Int) hv h.w (h.has_ hk)
  rw [hb] at h1
  refine h1.mono ?_
  rintro e w1 ⟨m, rfl, rfl, h2, hgb, hQ⟩
  obtain ⟨ls, sure, hg⟩ := h.gd
  have ht : Turn w w1 (Foot own tb g sb dm (some m)) (Foot own tb g sb dm (some m)) := .of_grown hgb (fun j e => by cases e; exact .inr (.inr (.inr rfl)))
  exact ⟨rfl, m, rfl, ⟨h2, h.out ht, ⟨ls, sure, hg.begun ((hg.w U h.w).put hk hq hl)⟩, rfl, h.sees⟩, hgb, fun Q h1 h2 h3 => hQ Q h1 h2 h3 _ rfl⟩
theorem use_read_g (h : Use W w N pg b tb g sb dm wm own s C o) {k : Nat} (hk : k < pg) :
    Calls Tryz.prog 19 #[.pointer (some ⟨sb, 0, none⟩), .int .i64 (k : Nat)] w fun e w' => ∃ v, e = .returned (.tuple #[v, .int .i64 0]) ∧ PgV w' (fun i => i < w.heap.size) v ((seen C o k).getD (0, [])) ∧
      Use W w' N pg b tb g sb dm wm own s C o ∧ Turn w w' own own := by
  obtain ⟨ls, sure, hg⟩ := h.gd
  have e1 := hg.read h.sees k hk
  rw [h.w] at e1
  have h1 := sto_read_g h.at_ (k : Int) (h.has_ hk)
  rw [e1] at h1
  refine h1.mono ?_
  rintro e w1 ⟨v, rfl, hv, h2, ht⟩
  exact ⟨v, rfl, hv, ⟨h2, h.out (turnD ht), ⟨ls, sure, hg⟩, h.w, h.sees⟩, ht⟩
/-- A store, and a row of the law's own that is no page's body. -/
structure Far (W w : World) (N pg b tb g sb dm : Nat) (wm : Option Nat) (own : Nat → Prop) (s : Sto) (C : Pgs) (o : Option Pgs) (q : Nat) : Prop where
  u : Use W w N pg b tb g sb dm wm own s C o
  d : PMap w (fun i => Foot own tb g sb dm wm i ∨ i = q) dm s.D
  m : ∀ U m, s.W = some U → wm = some m → PMap w (fun i => Foot own tb g sb dm wm i ∨ i = q) m U
  nq : ¬ Foot own tb g sb dm wm q
  lo : W.heap.size ≤ q
theorem Far.step (h : Far W w N pg b tb g sb dm wm own s C o q) (hg : w.grownBy w' (some q)) : Far W w' N pg b tb g sb dm wm own s C o q := by
  have ht : Turn w w' (fun i => Foot own tb g sb dm wm i ∨ i = q) (fun i => Foot own tb g sb dm wm i ∨ i = q) := .of_grown hg (fun j e => by cases e; exact .inr rfl)
  have hnd : dm ≠ q := fun e => h.nq (.inr (.inr (.inl e.symm)))
  have hd := h.d.turn ht (hg.block dm h.d.lt (fun e => hnd (by cases e; rfl)))
  have hm : ∀ U m, s.W = some U → wm = some m → PMap w' (fun i => Foot own tb g sb dm wm i ∨ i = q) m U := fun U m hU hm => by
    have h1 := h.m U m hU hm
    exact h1.turn ht (hg.block m h1.lt (fun e => h.nq (.inr (.inr (.inr (by rw [hm]; cases e; rfl))))))
  have ha := h.u.at_
  refine ⟨⟨⟨ha.l.far hg (fun j e ho => h.nq (.inl (by cases e; exact ho))), ha.r.keep hg (fun e => h.nq (.inl (.inl (.inr (by cases e; rfl))))), ha.c.grown hg (fun e => h.nq (.inr (.inl (by cases e; rfl)))), hd.weak (fun i _ hi => .inl hi), fun U hU => ?_, ha.n, ha.may, ha.osb, ha.odm, ha.owm, ha.low⟩,
    h.u.gr.andThen hg (fun j hj => .inl (by cases hj; exact h.lo)), h.u.gd, h.u.w, h.u.sees⟩, hd, hm, h.nq, h.lo⟩
  obtain ⟨m, e, _⟩ := ha.u U hU
  exact ⟨m, e, (hm U m hU e).weak (fun i _ hi => .inl hi)⟩
theorem Far.quiet (h : Far W w N pg b tb g sb dm wm own s C o q) (hg : w.grownBy w' none) : Far W w' N pg b tb g sb dm wm own s C o q := h.step (grown_any hg _)
/-- A row that is newer than all that the store has. -/
theorem Use.far (h : Use W w N pg b tb g sb dm wm own s C o) (hg : w.grownBy w' none) (hq : w.heap.size ≤ q) : Far W w' N pg b tb g sb dm wm own s C o q := by
  have hw : ∀ i, i < w.heap.size → (Foot own tb g sb dm wm i ∨ i = q) → Foot own tb g sb dm wm i := fun i hi he => by
    rcases he with he | he
    · exact he
    · omega
  refine ⟨h.quiet hg, (h.at_.d.weak hw).turn (Turn.none_ hg) (hg.block dm h.at_.d.lt (by simp)), fun U m hU hm => ?_, fun e => by have := h.foot_lt e; omega, Nat.le_trans h.gr.size hq⟩
  obtain ⟨m', e, hm'⟩ := h.at_.u U hU
  rw [hm] at e
  cases e
  exact (hm'.weak hw).turn (Turn.none_ hg) (hg.block m hm'.lt (by simp))
theorem Far.read (h : Use W w N pg b tb g sb dm wm own s C o) (h2 : Use W w' N pg b tb g sb dm wm own s C o) (ht : Turn w w' own own) (hq : w.heap.size ≤ q) : Far W w' N pg b tb g sb dm wm own s C o q := by
  have hw : ∀ i, i < w.heap.size → (Foot own tb g sb dm wm i ∨ i = q) → Foot own tb g sb dm wm i := fun i hi he => by
    rcases he with he | he
    · exact he
    · omega
  have ht2 : Turn w w' (fun i => Foot own tb g sb dm wm i ∨ i = q) (fun i => Foot own tb g sb dm wm i ∨ i = q) :=
    ⟨ht.os, ht.tape, ht.output, ht.size, fun i hi hn => ht.block i hi (fun e => hn (.inl (.inl (.inl (.inl e))))), fun i hi => .inl hi⟩
  refine ⟨h2, (h.at_.d.weak hw).turn ht2 (ht.block dm h.at_.d.lt (fun e => h.at_.odm.1 (.inl (.inl e)))), fun U m hU hm => ?_, fun e => by have := h.foot_lt e; omega, Nat.le_trans h.gr.size hq⟩
  obtain ⟨m', e, hm'⟩ := h.at_.u U hU
  rw [hm] at e
  cases e
  exact (hm'.weak hw).turn ht2 (ht.block m hm'.lt (fun e => (h.at_.owm m hm).1 (.inl (.inl e))))
end
end Go.Proofs.YteaokeiolgjhaaaGreat.Sto
/- A store whose disk another one has been opened on: what it reads. -/
namespace Go.Proofs.YteaokeiolgjhaaaGreat.Sto
open Go.RowKit Go.Maps Go.Shelf CrcMath CodecMath Mem Crc Codec DiskSpec Dsk Sup Log

theorem read_plain6 {s : Sto} {N pg : Nat} {C : Pgs} (hq : Quiet6 s.S) (hn : s.S.n = N) (hN : 2 + pg ≤ N) (hp : s.x.pg = pg) (hD : s.D = noPgs) (hW : s.W = none) (hC : Sees pg s C) (k : Nat) (hk : k < pg) : readPE s (k : Int) = (0, (C k).getD (0, []), s) := by
  have hhas : s.has (k : Int) = true := by
    simp [Sto.has]
    omega
  have h1 := hq.c.f1
  have hrd : readE s.S (2 + (k : Int)) 1 = (0, s.S) := by
    unfold readE
    rw [if_neg (by simp [St.has]; omega), if_neg (by omega), show s.S.f1 - 1 = s.S.f1 by omega]
  have hrl : readL s.S (2 + (k : Int)) 1 = s.S.now (2 + k) := by
    unfold readL
    rw [if_neg (by simp [St.has]; omega), if_neg (by omega), show (2 + (k : Int)).toNat = 2 + k by omega]
    show St.reads _ _ 1 = _
    simp [St.reads]
  have hhome : readHE s (k : Int) = (0, (C k).getD (0, [])) := by
    have h2 := hC k hk
    rw [hD] at h2
    unfold readHE
    rw [hrd, if_pos rfl, hrl]
    rcases h2 with ⟨h2, h3⟩ | ⟨q, h2, h3, h4⟩
    · rw [h2, h3]
      rw [show pageR DiskSpec.zeros (k : Int) = some (0, []) from pageR_zero _]
      rfl
    · rw [h2, h4, show pageR (pgF k q) (k : Int) = some (q.1, q.2) from pageR_of (by rw [pageW, h3]; rfl)]
      rfl
  have hkt : (k : Int).toNat = k := by omega
  have hkp : s.kept k = none := by unfold Sto.kept; rw [hW]; simp only; rw [hD]; rfl
  have hdisk : s.disk (readE s.S (2 + (k : Int)) 1).2 = s := by rw [hrd]; rfl
  unfold readPE
  rw [if_neg (by rw [hhas]; simp), hkt, hkp]
  simp only
  rw [hhome, hdisk]
theorem sees_any {N pg ep : Nat} {S : St} (hd : DiskG N pg ep S) (D : Pgs) (L : Lg) (x : Sb) (W : Option Pgs) : ∃ C, Sees pg ⟨S, L, x, D, W⟩ C := by
  have h : ∀ k : Nat, ∃ r : Option Pg, k < pg → match D k with | some q => r = some q | none => (r = none ∧ S.now (2 + k) = DiskSpec.zeros) ∨ ∃ q, r = some q ∧ pageOk (k : Int) q.1 q.2 = true ∧ S.now (2 + k) = pgF k q := by
    intro k
    by_cases hk : k < pg
    · cases hD : D k with
      | some q => exact ⟨some q, fun _ => rfl⟩
      | none =>
        rcases hd.homes k hk _ (cand_now S (2 + k)) with h1 | ⟨q, h1, h2⟩
        · exact ⟨none, fun _ => .inl ⟨rfl, h1⟩⟩
        · exact ⟨some q, fun _ => .inr ⟨q, rfl, h1, h2⟩⟩
    · exact ⟨none, fun h => absurd h hk⟩
  obtain ⟨C, hC⟩ := Classical.axiomOfChoice h
  exact ⟨C, fun k hk => hC k hk⟩
/-- A store whose disk has gone on. -/
structure Old (W w : World) (pg b tb g sb dm : Nat) (own : Nat → Prop) (s : Sto) (S : St) : Prop where
  at_ : StoAt w W.heap.size b tb g sb dm none own { s with S := S }
  w : s.W = none
  ds : s.D = noPgs
  pgs : s.x.pg = pg
section
variable {W w w' : World} {N pg ep b tb g sb dm : Nat} {own own' : Nat → Prop} {s : Sto} {S T : St} {C : Pgs}
theorem Old.quiet (h : Old W w pg b tb g sb dm own s S) (hg : w.grownBy w' none) : Old W w' pg b tb g sb dm own s S := ⟨h.at_.quiet hg, h.w, h.ds, h.pgs⟩
theorem Old.move (h : Old W w pg b tb g sb dm own s S) (hd : DAt w' W.heap.size b T own') (ht : Turn w w' own own') (hn : T.n = S.n) : Old W w' pg b tb g sb dm own' s T := ⟨h.at_.disk hd ht hn, h.w, h.ds, h.pgs⟩
theorem old_read (h : Old W w pg b tb g sb dm own s S) (hq : Quiet6 S) (hN : 2 + pg ≤ S.n) {L : Lg} {x : Sb} {Wt : Option Pgs} (hC : Sees pg ⟨S, L, x, noPgs, Wt⟩ C) {k : Nat} (hk : k < pg) :
    Calls Tryz.prog 19 #[.pointer (some ⟨sb, 0, none⟩), .int .i64 (k : Nat)] w fun e w' => ∃ v, e = .returned (.tuple #[v, .int .i64 0]) ∧ PgV w' (fun i => i < w.heap.size) v ((C k).getD (0, [])) ∧
      Old W w' pg b tb g sb dm own s S ∧ Turn w w' own own := by
  have hp := h.pgs
  have hhas : ({ s with S := S } : Sto).has (k : Int) = true := by
    show (decide (0 ≤ (k : Int)) && decide ((k : Int) < (s.x.pg : Int))) = true
    simp
    omega
  have hs : Sees pg { s with S := S } C := fun j hj => by
    have h1 := hC j hj
    show match s.D j with | some q => C j = some q | none => (C j = none ∧ S.now (2 + j) = DiskSpec.zeros) ∨ ∃ q, C j = some q ∧ pageOk (j : Int) q.1 q.2 = true ∧ S.now (2 + j) = pgF j q
    rw [h.ds]
    exact h1
  have e1 := read_plain6 (s := { s with S := S }) (N := S.n) hq rfl hN hp h.ds h.w hs k hk
  have h1 := sto_read_g h.at_ (k : Int) hhas
  rw [e1] at h1
  refine h1.mono ?_
  rintro e w1 ⟨v, rfl, hv, h2, ht⟩
  exact ⟨v, rfl, hv, ⟨h2, h.w, h.ds, h.pgs⟩, ht⟩
/-- The disk has been read by another. -/
theorem Use.moved {o : Option Pgs} (h : Use W w N pg b tb g sb dm none own s C o) (hd : DAt w' W.heap.size b s.S own) (ht : Turn w w' own own) : Use W w' N pg b tb g sb dm none own s C o :=
  ⟨h.at_.disk hd ht rfl, h.out (turnD ht), h.gd, h.w, h.sees⟩
end
end Go.Proofs.YteaokeiolgjhaaaGreat.Sto
/- A log is switched, on a disk that does not fail; superblocks as a law has them. -/
namespace Go.Proofs.YteaokeiolgjhaaaGreat.Sto
open Go.RowKit Go.Maps Go.Shelf CrcMath CodecMath Mem Crc Codec DiskSpec Dsk Sup Log

/-- The superblock behind a switch. -/
def Sb.moved (x : Sb) (st ln : Nat) : Sb := { x with gn := x.gn + 1, ep := x.ep + 1, st := st, ln := ln, hd := 0, sq := 1 }
theorem moved_l (x : Sb) (st ln : Nat) : [((x.gn : Nat) : Int) + 1, ((x.ep : Nat) : Int) + 1, ((x.pg : Nat) : Int), ((st : Nat) : Int), ((ln : Nat) : Int), 0, 1] = (x.moved st ln).l := by simp [Sb.l, Sb.moved]
section
variable {N pg : Nat} {s : Sto} {ls : List (List Img)} {sure : Nat} {C : Pgs}
theorem GoodS.switch (h : GoodS N pg s ls sure) (hk : keys s.D = []) {st ln : Nat} (h1 : 2 + pg ≤ st) (h2 : 64 ≤ ln) (h3 : st + ln ≤ N) (hgn : s.x.gn < 1099511627776) (hep : s.x.ep < 1099511627776) (hC : Sees pg s C) :
    ∃ T, saveE s.S (s.x.moved st ln).l = (0, T) ∧ GoodS N pg { s with S := T, x := s.x.moved st ln, L := (s.x.moved st ln).log } [] 0 ∧ Sees pg { s with S := T, x := s.x.moved st ln, L := (s.x.moved st ln).log } C ∧ T.ver = s.S.ver := by
  have hm := may_facts h.may
  have hp := h.pgs
  have hD : s.D = noPgs := (keys_nil h.dok).1 hk
  have hmay : mayB (s.x.moved st ln).l (N : Int) = true := may_mk (x := s.x.moved st ln) ⟨hm.1, hm.2.1⟩ (show 2 + s.x.pg ≤ st by omega) h2 h3 (show 0 < ln by omega) ⟨(show s.x.gn + 1 ≤ _ by omega), (show s.x.ep + 1 ≤ _ by omega), (show 1 ≤ _ by omega)⟩ h.top
  have hg0 : 0 ≤ gen (s.x.moved st ln).l := by rw [gen_l]; omega
  have hpl := (place_is hg0).2
  have e1 := save_quiet h.d.q (s := (s.x.moved st ln).l) rfl (by have := h.d.n; rw [this]; exact hmay) (h.d.vp _ hg0)
  have hd0 := h.d.sup hpl (frame (superB (s.x.moved st ln).l))
  have hdn := hd0.later
  have hsn := h.sup.next (t := (s.x.moved st ln).l) rfl hmay (by rw [gen_l, gen_l]; show ((s.x.gn + 1 : Nat) : Int) = (s.x.gn : Int) + 1; omega)
  refine ⟨_, e1, ?_, fun k hk2 => ?_, rfl⟩
  · exact {
      d := hdn
      pgs := h.pgs
      top := h.top
      sup := hsn
      ring := Ring.new (B := (s.x.moved st ln).log) ⟨rfl, rfl, show 0 < ln by omega⟩ (fun o c _ hc => (hd0.far _ (by have := sec_ge (s.x.moved st ln).log o; have h9 : (s.x.moved st ln).log.st = st := rfl; omega) c hc).more (.inr ⟨rfl, Nat.zero_le _⟩)) rfl rfl rfl rfl rfl rfl rfl
      sound := rfl
      ok := ⟨h3, show 1 ≤ ln by omega, show 0 < ln by omega, Nat.zero_le _, show s.x.ep + 1 ≤ _ by omega, show 1 ≤ 2199023255552 by omega⟩
      dok := h.dok
      dlt := h.dlt
      dls := hD
      emp := fun _ => rfl
      nums := fun l hl => by cases hl
      w := h.w }
  · have h4 := hC k hk2
    have h5 : (St.sup s.S (placeOf (s.x.moved st ln).l) (frame (superB (s.x.moved st ln).l))).now (2 + k) = s.S.now (2 + k) := now_sup (by omega)
    show match s.D k with | some q => C k = some q | none => (C k = none ∧ (St.sup s.S (placeOf (s.x.moved st ln).l) (frame (superB (s.x.moved st ln).l))).now (2 + k) = DiskSpec.zeros) ∨ ∃ q, C k = some q ∧ pageOk (k : Int) q.1 q.2 = true ∧ (St.sup s.S (placeOf (s.x.moved st ln).l) (frame (superB (s.x.moved st ln).l))).now (2 + k) = pgF k q
    rw [h5]
    exact h4
end
section
variable {W w w' : World} {N pg b tb g sb dm : Nat} {wm : Option Nat} {own own' : Nat → Prop} {s s' : Sto} {C : Pgs} {o : Option Pgs}
theorem use_switch (h : Use W w N pg b tb g sb dm none own s C none) (hk : keys s.D = []) {st ln : Nat} (h1 : 2 + pg ≤ st) (h2 : 64 ≤ ln) (h3 : st + ln ≤ N) (hgn : s.x.gn < 1099511627776) (hep : s.x.ep < 1099511627776) (hv : ∀ i, (s.S.ver i).length < 549755813888) :
    Calls Tryz.prog 26 #[.pointer (some ⟨sb, 0, none⟩), .int .i64 (st : Nat), .int .i64 (ln : Nat)] w fun e w' => e = .returned (.int .i64 0) ∧ ∃ own' g' s', Use W w' N pg b tb g' sb dm none own' s' C none ∧ Turn w w' (Foot own tb g sb dm none) (Foot own' tb g' sb dm none) ∧
      s'.x = s.x.moved st ln ∧ s'.L.seq = 1 ∧ s'.D = s.D ∧ ∀ i, (s'.S.ver i).length = (s.S.ver i).length := by
  obtain ⟨ls, sure, hg⟩ := h.gd
  obtain ⟨T, e1, hg1, hs1, hv1⟩ := hg.switch hk h1 h2 h3 hgn hep h.sees
  have hc := sto_switch h.at_ (st : Nat) (ln : Nat) (by rw [h.w]; rfl) hk hv
  unfold Restarted at hc
  rw [moved_l, e1] at hc
  refine hc.mono ?_
  rintro e w1 ⟨rfl, own', g', ht, ⟨_, x', hx', h4⟩ | ⟨hne, _⟩⟩
  · have hxx := Sb.l_inj hx'
    subst hxx
    exact ⟨rfl, own', g', _, ⟨h4, h.out ht, ⟨[], 0, hg1⟩, h.w, hs1⟩, ht, rfl, rfl, rfl, fun i => by show (T.ver i).length = _; rw [hv1]⟩
  · exact absurd rfl hne
theorem use_dirty (h : Use W w N pg b tb g sb dm wm own s C o) :
    Calls Tryz.prog 22 #[.pointer (some ⟨sb, 0, none⟩)] w fun e w' => (∃ A c, e = .returned (.slice A (keys s.D).length c)) ∧ w.grownBy w' none := by
  have h0 := sto_dirty h.at_
  generalize keys s.D = ks at *
  refine h0.mono ?_
  rintro e w1 ⟨v, rfl, hr, hg⟩
  obtain ⟨A, c, rfl⟩ : ∃ A c, v = .slice A ks.length c := by
    rcases hr.2 with ⟨hv, hz⟩ | ⟨g, cap, cur, hv, _⟩
    · exact ⟨none, 0, by rw [hv, hz]⟩
    · exact ⟨_, _, hv⟩
  exact ⟨⟨A, c, rfl⟩, hg⟩
/-- A superblock in a law's variable. -/
structure WV (w : World) (F : Nat → Prop) (wb : Nat) (a0 a1 a2 a3 a4 a5 a6 : Int) : Prop where
  b : Blk w wb 49 #[.int .i64 a0, .int .i64 a1, .int .i64 a2, .int .i64 a3, .int .i64 a4, .int .i64 a5, .int .i64 a6]
  n : ¬ F wb
section
variable {F F' : Nat → Prop} {wb : Nat} {a0 a1 a2 a3 a4 a5 a6 : Int}
theorem WV.turn (h : WV w F wb a0 a1 a2 a3 a4 a5 a6) (ht : Turn w w' F F') : WV w' F' wb a0 a1 a2 a3 a4 a5 a6 :=
  ⟨blk_of_block h.b (ht.block wb h.b.lt h.n), fun e => by
    rcases ht.fresh wb e with h1 | h1
    · exact h.n h1
    · have := h.b.lt; omega⟩
theorem WV.quiet (h : WV w F wb a0 a1 a2 a3 a4 a5 a6) (hg : w.grownBy w' none) : WV w' F wb a0 a1 a2 a3 a4 a5 a6 := h.turn (Turn.none_ hg)
theorem WV.cells (h : WV w F wb a0 a1 a2 a3 a4 a5 a6) : w.cell? ⟨wb, 0, none⟩ = some (.int .i64 a0) ∧ w.cell? ⟨wb, 1, none⟩ = some (.int .i64 a1) ∧ w.cell? ⟨wb, 2, none⟩ = some (.int .i64 a2) ∧ w.cell? ⟨wb, 3, none⟩ = some (.int .i64 a3) ∧ w.cell? ⟨wb, 4, none⟩ = some (.int .i64 a4) ∧ w.cell? ⟨wb, 5, none⟩ = some (.int .i64 a5) ∧ w.cell? ⟨wb, 6, none⟩ = some (.int .i64 a6) :=
  ⟨by rw [h.b.cell]; rfl, by rw [h.b.cell]; rfl, by rw [h.b.cell]; rfl, by rw [h.b.cell]; rfl, by rw [h.b.cell]; rfl, by rw [h.b.cell]; rfl, by rw [h.b.cell]; rfl⟩
end
/-- No cell is a byte. -/
def NoU8 (cs : Array Value) : Prop := ∀ (i : Nat) (x : Int), cs[i]? ≠ some (.int .u8 x)
theorem sup_nou8 (a0 a1 a2 a3 a4 a5 a6 : Int) : NoU8 #[.int .i64 a0, .int .i64 a1, .int .i64 a2, .int .i64 a3, .int .i64 a4, .int .i64 a5, .int .i64 a6] := fun i x h => by
  have h2 := (Array.getElem?_eq_some_iff.1 h).1
  simp at h2
  have : i = 0 ∨ i = 1 ∨ i = 2 ∨ i = 3 ∨ i = 4 ∨ i = 5 ∨ i = 6 := by omega
  rcases this with rfl | rfl | rfl | rfl | rfl | rfl | rfl <;> simp at h
theorem data_nou8 {P : Nat → Prop} {q : Nat} {t : TypeId} {cs : Array Value} {A : Option Addr} {n : Nat} {l : List Nat} (h : Dsk.Data w P A n l) (hg : w.grownBy w' (some q)) (hb : Blk w q t cs) (hc : NoU8 cs) : Dsk.Data w' P A n l := by
  refine ⟨h.1, h.2.1, fun hn => ?_⟩
  obtain ⟨g, o, e, hlt, hno, hcell⟩ := h.2.2 hn
  have hne : g ≠ q := fun e2 => by
    subst e2
    have h1 := hcell 0 hn
    rw [Blk.cell hb] at h1
    exact hc _ _ h1
  refine ⟨g, o, e, Nat.lt_of_lt_of_le hlt hg.size, hno, fun j hj => ?_⟩
  rw [World.cell?_of_block (a := ⟨g, o + j, none⟩) (hg.block g hlt (fun e2 => hne (by cases e2; rfl)))]
  exact hcell j hj
theorem pmap_nou8 {P : Nat → Prop} {q : Nat} {t : TypeId} {cs : Array Value} {bm : Nat} {D : Pgs} (h : PMap w P bm D) (hg : w.grownBy w' (some q)) (hb : Blk w q t cs) (hc : NoU8 cs) (hne : bm ≠ q) : PMap w' P bm D := by
  obtain ⟨f, h1, h2⟩ := h.m
  refine ⟨⟨f, h1.of_block (hg.block bm h1.lt (fun e => hne (by cases e; rfl))), fun k => ?_⟩, h.ok⟩
  rcases h2 k with a | ⟨p, v, a, b, bv, e, A, n, c, e2, hnc, hd⟩
  · exact .inl a
  · exact .inr ⟨p, v, a, b, bv, e, A, n, c, e2, hnc, data_nou8 hd hg hb hc⟩
theorem Use.nou8 {q : Nat} {t : TypeId} {cs : Array Value} (h : Use W w N pg b tb g sb dm wm own s C o) (hg : w.grownBy w' (some q)) (hb : Blk w q t cs) (hc : NoU8 cs) (hq : ¬ Foot own tb g sb dm wm q) (hlo : W.heap.size ≤ q) : Use W w' N pg b tb g sb dm wm own s C o :=
  have ha := h.at_
  ⟨⟨ha.l.far hg (fun j e ho => hq (.inl (by cases e; exact ho))), ha.r.keep hg (fun e => hq (.inl (.inl (.inr (by cases e; rfl))))), ha.c.grown hg (fun e => hq (.inr (.inl (by cases e; rfl)))), pmap_nou8 ha.d hg hb hc (fun e => hq (.inr (.inr (.inl e.symm)))),
    fun U hU => by
      obtain ⟨m, e, hm⟩ := ha.u U hU
      exact ⟨m, e, pmap_nou8 hm hg hb hc (fun e2 => hq (.inr (.inr (.inr (by rw [e, e2])))))⟩, ha.n, ha.may, ha.osb, ha.odm, ha.owm, ha.low⟩, h.gr.andThen hg (fun j hj => .inl (by cases hj; exact hlo)), h.gd, h.w, h.sees⟩
end
end Go.Proofs.YteaokeiolgjhaaaGreat.Sto
