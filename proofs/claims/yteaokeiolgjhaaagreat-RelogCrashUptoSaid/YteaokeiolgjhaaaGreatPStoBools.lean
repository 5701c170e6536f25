/- Texts of this seat's proofs: StoBools, StoFar, StoOld, StoGens, RelCut, RelMem, RelAsk, RelUse, RelLaw, RelBits, RelHeld. -/
import Derived.Test.YteaokeiolgjhaaaGreatPStoUse
import Derived.Test.YteaokeiolgjhaaaGreatPLogIn
import Derived.Test.YteaokeiolgjhaaaGreatPCodecBits2
import Derived.Deep.RegionHeld3
/- A law's own row of bools beside a store. -/
namespace Go.Proofs.YteaokeiolgjhaaaGreat.Sto
open Go.RowKit Go.Maps Go.Shelf CrcMath CodecMath Mem Crc Codec DiskSpec Dsk Sup Log

/-- Cells that are bools. -/
def Bools (cs : Array Value) : Prop := ∀ (i : Nat) (v : Value), cs[i]? = some v → ∃ b, v = .bool b
section
variable {lv : Value} {w w' : World} {P : Nat → Prop} {q : Nat} {t : TypeId} {cs : Array Value}
theorem data_bools {A : Option Addr} {n : Nat} {l : List Nat} (h : Dsk.Data w P A n l) (hg : w.grownBy w' (some q)) (hb : Blk w q t cs) (hc : Bools cs) : Dsk.Data w' P A n l := by
  refine ⟨h.1, h.2.1, fun hn => ?_⟩
  obtain ⟨g, o, e, hlt, hno, hcell⟩ := h.2.2 hn
  have hne : g ≠ q := fun e2 => by
    subst e2
    have h1 := hcell 0 hn
    rw [Blk.cell hb] at h1
    obtain ⟨b, h2⟩ := hc _ _ h1
    cases h2
  refine ⟨g, o, e, Nat.lt_of_lt_of_le hlt hg.size, hno, fun j hj => ?_⟩
  rw [World.cell?_of_block (a := ⟨g, o + j, none⟩) (hg.block g hlt (fun e2 => hne (by cases e2; rfl)))]
  exact hcell j hj
theorem pmap_bools {bm : Nat} {D : Pgs} (h : PMap w P bm D) (hg : w.grownBy w' (some q)) (hb : Blk w q t cs) (hc : Bools cs) (hne : bm ≠ q) : PMap w' P bm D := by
  obtain ⟨f, h1, h2⟩ := h.m
  refine ⟨⟨f, h1.of_block (hg.block bm h1.lt (fun e => hne (by cases e; rfl))), fun k => ?_⟩, h.ok⟩
  rcases h2 k with a | ⟨p, v, a, b, bv, e, A, n, c, e2, hnc, hd⟩
  · exact .inl a
  · exact .inr ⟨p, v, a, b, bv, e, A, n, c, e2, hnc, data_bools hd hg hb hc⟩
variable {B b tb g sb dm : Nat} {wm : Option Nat} {own : Nat → Prop} {s : Sto}
theorem StoAtG.bools (h : StoAtG lv w B b tb g sb dm wm own s) (hg : w.grownBy w' (some q)) (hb : Blk w q t cs) (hc : Bools cs) (hq : ¬ Foot own tb g sb dm wm q) : StoAtG lv w' B b tb g sb dm wm own s where
  l := h.l.far hg (fun j e ho => hq (.inl (by cases e; exact ho)))
  r := h.r.keep hg (fun e => hq (.inl (.inl (.inr (by cases e; rfl)))))
  c := h.c.grown hg (fun e => hq (.inr (.inl (by cases e; rfl))))
  d := pmap_bools h.d hg hb hc (fun e => hq (.inr (.inr (.inl e.symm))))
  u := fun U hU => by
    obtain ⟨m, e, hm⟩ := h.u U hU
    exact ⟨m, e, pmap_bools hm hg hb hc (fun e2 => hq (.inr (.inr (.inr (by rw [e, e2])))))⟩
  n := h.n
  may := h.may
  osb := h.osb
  odm := h.odm
  owm := h.owm
  low := h.low
end
/-- Which pages there are. -/
def wrC (C : Pgs) : Array Value := ((List.range 20).map fun k => Value.bool (C k).isSome).toArray
theorem wrC_bools (C : Pgs) : Bools (wrC C) := fun i v h => by
  unfold wrC at h
  rw [List.getElem?_toArray, List.getElem?_map] at h
  cases hr : (List.range 20)[i]? with
  | none => rw [hr] at h; cases h
  | some k => rw [hr] at h; cases h; exact ⟨_, rfl⟩
theorem wrC_at (C : Pgs) {k : Nat} (hk : k < 20) : (wrC C)[k]? = some (.bool (C k).isSome) := by
  unfold wrC
  rw [List.getElem?_toArray, List.getElem?_map, List.getElem?_range hk]
  rfl
theorem wrC_size (C : Pgs) : (wrC C).size = 20 := by simp [wrC]
theorem wrC_set (C : Pgs) {k : Nat} (q : Pg) : (wrC C).setIfInBounds k (.bool true) = wrC (upd C k (some q)) := by
  apply Array.ext_getElem?
  intro i
  rw [Array.getElem?_setIfInBounds]
  by_cases hi : i < 20
  · rw [wrC_at _ hi]
    by_cases e : k = i
    · subst e
      rw [if_pos rfl, if_pos (by rw [wrC_size]; exact hi), wrC_at _ hi, upd_same]; rfl
    · rw [if_neg e, wrC_at _ hi, upd_ne _ _ (fun e2 => e e2.symm)]
  · have h1 : (wrC C)[i]? = none := Array.getElem?_eq_none (by rw [wrC_size]; omega)
    have h2 : (wrC (upd C k (some q)))[i]? = none := Array.getElem?_eq_none (by rw [wrC_size]; omega)
    rw [h1, h2]
    split
    · rename_i e
      rw [if_neg (by rw [wrC_size]; omega)]
    · rfl
theorem over_one (C : Pgs) (k : Nat) (q : Pg) : over C (upd noPgs k (some q)) = upd C k (some q) := by
  funext j
  unfold over
  by_cases e : j = k
  · subst e; rw [upd_same, upd_same]
  · rw [upd_ne _ _ e, upd_ne _ _ e]; rfl
end Go.Proofs.YteaokeiolgjhaaaGreat.Sto
/- A law's own row beside a store: it may be written over. Calls of a store, told for rows beside it. -/
namespace Go.Proofs.YteaokeiolgjhaaaGreat.Sto
open Go.RowKit Go.Maps Go.Shelf CrcMath CodecMath Mem Crc Codec DiskSpec Dsk Sup Log

section
variable {W w w' : World} {N pg b tb g sb dm : Nat} {wm : Option Nat} {own own' : Nat → Prop} {s s' : Sto} {C : Pgs} {o : Option Pgs} {q : Nat}
theorem use_begin_g (h : Use W w N pg b tb g sb dm wm own s C none) : Calls Tryz.prog 14 #[.pointer (some ⟨sb, 0, none⟩)] w fun e w' =>
    e = .returned (.int .i64 0) ∧ ∃ wm', Use W w' N pg b tb g sb dm wm' own { s with W := some noPgs } C (some noPgs) ∧ Turn w w' (Foot own tb g sb dm wm) (Foot own tb g sb dm wm') ∧ w.grownBy w' (some sb) := by
  have hb : beginE s = (0, { s with W := some noPgs }) := by
    unfold beginE
    rw [h.w]
    rfl
  have h1 := sto_begin_g h.at_
  rw [hb] at h1
  refine h1.mono ?_
  rintro e w1 ⟨rfl, wm', h2, ht, hgb⟩
  obtain ⟨ls, sure, hg⟩ := h.gd
  exact ⟨rfl, wm', ⟨h2, h.out ht, ⟨ls, sure, hg.begun (UOk.none_ pg)⟩, rfl, h.sees⟩, ht, hgb⟩
theorem use_write_g {U : Pgs} (h : Use W w N pg b tb g sb dm wm own s C (some U)) {k : Nat} (hk : k < pg) {v : Value} {q : Pg} (hv : PgV w (Foot own tb g sb dm wm) v q) (hq : pageOk (k : Int) q.1 q.2 = true) (hl : (keys U).length < 40) :
    Calls Tryz.prog 15 #[.pointer (some ⟨sb, 0, none⟩), .int .i64 (k : Nat), v] w fun e w' => e = .returned (.int .i64 0) ∧ ∃ m, wm = some m ∧ Use W w' N pg b tb g sb dm (some m) own { s with W := some (upd U k (some q)) } C (some (upd U k (some q))) ∧
      w.grownBy w' (some m) ∧ ∀ Q : Nat → Prop, (∀ i, Q i → i < w.heap.size) → Q m → PMap w Q m U → PMap w' Q m (upd U k (some q)) := by
  have hb : writePE s (k : Int) q = (0, { s with W := some (upd U k (some q)) }) := by
    have hw := h.w
    unfold writePE
    rw [hw]
    simp only
    rw [if_neg (by rw [h.has_ hk]; simp), if_neg (by rw [hq]; simp), if_neg (by omega), show (k : Int).toNat = k by omega]
  have h1 := sto_write_g h.at_ (k : Int) hv h.w (h.has_ hk)
  rw [hb] at h1
  refine h1.mono ?_
  rintro e w1 ⟨m, rfl, rfl, h2, hgb, hQ⟩
  obtain ⟨ls, sure, hg⟩ := h.gd
  have ht : Turn w w1 (Foot own tb g sb dm (some m)) (Foot own tb g sb dm (some m)) := .of_grown hgb (fun j e => by cases e; exact .inr (.inr (.inr rfl)))
  exact ⟨rfl, m, rfl, ⟨h2, h.out ht, ⟨ls, sure, hg.begun ((hg.w U h.w).put hk hq hl)⟩, rfl, h.sees⟩, hgb, fun Q h1 h2 h3 => hQ Q h1 h2 h3 _ rfl⟩
theorem use_read_g (h : Use W w N pg b tb g sb dm wm own s C o) {k : Nat} (hk : k < pg) :
    Calls Tryz.prog 19 #[.pointer (some ⟨sb, 0, none⟩), .int .i64 (k : Nat)] w fun e w' => ∃ v, e = .returned (.tuple #[v, .int .i64 0]) ∧ PgV w' (fun i => i < w.heap.size) v ((seen C o k).getD (0, [])) ∧
      Use W w' N pg b tb g sb dm wm own s C o ∧ Turn w w' own own := by
  obtain ⟨ls, sure, hg⟩ := h.gd
  have e1 := hg.read h.sees k hk
  rw [h.w] at e1
  have h1 := sto_read_g h.at_ (k : Int) (h.has_ hk)
  rw [e1] at h1
  refine h1.mono ?_
  rintro e w1 ⟨v, rfl, hv, h2, ht⟩
  exact ⟨v, rfl, hv, ⟨h2, h.out (turnD ht), ⟨ls, sure, hg⟩, h.w, h.sees⟩, ht⟩
/-- A store, and a row of the law's own that is no page's body. -/
structure Far (W w : World) (N pg b tb g sb dm : Nat) (wm : Option Nat) (own : Nat → Prop) (s : Sto) (C : Pgs) (o : Option Pgs) (q : Nat) : Prop where
  u : Use W w N pg b tb g sb dm wm own s C o
  d : PMap w (fun i => Foot own tb g sb dm wm i ∨ i = q) dm s.D
  m : ∀ U m, s.W = some U → wm = some m → PMap w (fun i => Foot own tb g sb dm wm i ∨ i = q) m U
  nq : ¬ Foot own tb g sb dm wm q
  lo : W.heap.size ≤ q
theorem Far.step (h : Far W w N pg b tb g sb dm wm own s C o q) (hg : w.grownBy w' (some q)) : Far W w' N pg b tb g sb dm wm own s C o q := by
  have ht : Turn w w' (fun i => Foot own tb g sb dm wm i ∨ i = q) (fun i => Foot own tb g sb dm wm i ∨ i = q) := .of_grown hg (fun j e => by cases e; exact .inr rfl)
  have hnd : dm ≠ q := fun e => h.nq (.inr (.inr (.inl e.symm)))
  have hd := h.d.turn ht (hg.block dm h.d.lt (fun e => hnd (by cases e; rfl)))
  have hm : ∀ U m, s.W = some U → wm = some m → PMap w' (fun i => Foot own tb g sb dm wm i ∨ i = q) m U := fun U m hU hm => by
    have h1 := h.m U m hU hm
    exact h1.turn ht (hg.block m h1.lt (fun e => h.nq (.inr (.inr (.inr (by rw [hm]; cases e; rfl))))))
  have ha := h.u.at_
  refine ⟨⟨⟨ha.l.far hg (fun j e ho => h.nq (.inl (by cases e; exact ho))), ha.r.keep hg (fun e => h.nq (.inl (.inl (.inr (by cases e; rfl))))), ha.c.grown hg (fun e => h.nq (.inr (.inl (by cases e; rfl)))), hd.weak (fun i _ hi => .inl hi), fun U hU => ?_, ha.n, ha.may, ha.osb, ha.odm, ha.owm, ha.low⟩,
    h.u.gr.andThen hg (fun j hj => .inl (by cases hj; exact h.lo)), h.u.gd, h.u.w, h.u.sees⟩, hd, hm, h.nq, h.lo⟩
  obtain ⟨m, e, _⟩ := ha.u U hU
  exact ⟨m, e, (hm U m hU e).weak (fun i _ hi => .inl hi)⟩
theorem Far.quiet (h : Far W w N pg b tb g sb dm wm own s C o q) (hg : w.grownBy w' none) : Far W w' N pg b tb g sb dm wm own s C o q := h.step (grown_any hg _)
/-- A row that is newer than all that the store has. -/
theorem Use.far (h : Use W w N pg b tb g sb dm wm own s C o) (hg : w.grownBy w' none) (hq : w.heap.size ≤ q) : Far W w' N pg b tb g sb dm wm own s C o q := by
  have hw : ∀ i, i < w.heap.size → (Foot own tb g sb dm wm i ∨ i = q) → Foot own tb g sb dm wm i := fun i hi he => by
    rcases he with he | he
    · exact he
    · omega
  refine ⟨h.quiet hg, (h.at_.d.weak hw).turn (Turn.none_ hg) (hg.block dm h.at_.d.lt (by simp)), fun U m hU hm => ?_, fun e => by have := h.foot_lt e; omega, Nat.le_trans h.gr.size hq⟩
  obtain ⟨m', e, hm'⟩ := h.at_.u U hU
  rw [hm] at e
  cases e
  exact (hm'.weak hw).turn (Turn.none_ hg) (hg.block m hm'.lt (by simp))
theorem Far.read (h : Use W w N pg b tb g sb dm wm own s C o) (h2 : Use W w' N pg b tb g sb dm wm own s C o) (ht : Turn w w' own own) (hq : w.heap.size ≤ q) : Far W w' N pg b tb g sb dm wm own s C o q := by
  have hw : ∀ i, i < w.heap.size → (Foot own tb g sb dm wm i ∨ i = q) → Foot own tb g sb dm wm i := fun i hi he => by
    rcases he with he | he
    · exact he
    · omega
  have ht2 : Turn w w' (fun i => Foot own tb g sb dm wm i ∨ i = q) (fun i => Foot own tb g sb dm wm i ∨ i = q) :=
    ⟨ht.os, ht.tape, ht.output, ht.size, fun i hi hn => ht.block i hi (fun e => hn (.inl (.inl (.inl (.inl e))))), fun i hi => .inl hi⟩
  refine ⟨h2, (h.at_.d.weak hw).turn ht2 (ht.block dm h.at_.d.lt (fun e => h.at_.odm.1 (.inl (.inl e)))), fun U m hU hm => ?_, fun e => by have := h.foot_lt e; omega, Nat.le_trans h.gr.size hq⟩
  obtain ⟨m', e, hm'⟩ := h.at_.u U hU
  rw [hm] at e
  cases e
  exact (hm'.weak hw).turn ht2 (ht.block m hm'.lt (fun e => (h.at_.owm m hm).1 (.inl (.inl e))))
end
end Go.Proofs.YteaokeiolgjhaaaGreat.Sto
/- A store whose disk another one has been opened on: what it reads. -/
namespace Go.Proofs.YteaokeiolgjhaaaGreat.Sto
open Go.RowKit Go.Maps Go.Shelf CrcMath CodecMath Mem Crc Codec DiskSpec Dsk Sup Log

theorem read_plain6 {s : Sto} {N pg : Nat} {C : Pgs} (hq : Quiet6 s.S) (hn : s.S.n = N) (hN : 2 + pg ≤ N) (hp : s.x.pg = pg) (hD : s.D = noPgs) (hW : s.W = none) (hC : Sees pg s C) (k : Nat) (hk : k < pg) : readPE s (k : Int) = (0, (C k).getD (0, []), s) := by
  have hhas : s.has (k : Int) = true := by
    simp [Sto.has]
    omega
  have h1 := hq.c.f1
  have hrd : readE s.S (2 + (k : Int)) 1 = (0, s.S) := by
    unfold readE
    rw [if_neg (by simp [St.has]; omega), if_neg (by omega), show s.S.f1 - 1 = s.S.f1 by omega]
  have hrl : readL s.S (2 + (k : Int)) 1 = s.S.now (2 + k) := by
    unfold readL
    rw [if_neg (by simp [St.has]; omega), if_neg (by omega), show (2 + (k : Int)).toNat = 2 + k by omega]
    show St.reads _ _ 1 = _
    simp [St.reads]
  have hhome : readHE s (k : Int) = (0, (C k).getD (0, [])) := by
    have h2 := hC k hk
    rw [hD] at h2
    unfold readHE
    rw [hrd, if_pos rfl, hrl]
    rcases h2 with ⟨h2, h3⟩ | ⟨q, h2, h3, h4⟩
    · rw [h2, h3]
      rw [show pageR DiskSpec.zeros (k : Int) = some (0, []) from pageR_zero _]
      rfl
    · rw [h2, h4, show pageR (pgF k q) (k : Int) = some (q.1, q.2) from pageR_of (by rw [pageW, h3]; rfl)]
      rfl
  have hkt : (k : Int).toNat = k := by omega
  have hkp : s.kept k = none := by unfold Sto.kept; rw [hW]; simp only; rw [hD]; rfl
  have hdisk : s.disk (readE s.S (2 + (k : Int)) 1).2 = s := by rw [hrd]; rfl
  unfold readPE
  rw [if_neg (by rw [hhas]; simp), hkt, hkp]
  simp only
  rw [hhome, hdisk]
theorem sees_any {N pg ep : Nat} {S : St} (hd : DiskG N pg ep S) (D : Pgs) (L : Lg) (x : Sb) (W : Option Pgs) : ∃ C, Sees pg ⟨S, L, x, D, W⟩ C := by
  have h : ∀ k : Nat, ∃ r : Option Pg, k < pg → match D k with | some q => r = some q | none => (r = none ∧ S.now (2 + k) = DiskSpec.zeros) ∨ ∃ q, r = some q ∧ pageOk (k : Int) q.1 q.2 = true ∧ S.now (2 + k) = pgF k q := by
    intro k
    by_cases hk : k < pg
    · cases hD : D k with
      | some q => exact ⟨some q, fun _ => rfl⟩
      | none =>
        rcases hd.homes k hk _ (cand_now S (2 + k)) with h1 | ⟨q, h1, h2⟩
        · exact ⟨none, fun _ => .inl ⟨rfl, h1⟩⟩
        · exact ⟨some q, fun _ => .inr ⟨q, rfl, h1, h2⟩⟩
    · exact ⟨none, fun h => absurd h hk⟩
  obtain ⟨C, hC⟩ := Classical.axiomOfChoice h
  exact ⟨C, fun k hk => hC k hk⟩
/-- A store whose disk has gone on. -/
structure Old (W w : World) (pg b tb g sb dm : Nat) (own : Nat → Prop) (s : Sto) (S : St) : Prop where
  at_ : StoAt w W.heap.size b tb g sb dm none own { s with S := S }
  w : s.W = none
  ds : s.D = noPgs
  pgs : s.x.pg = pg
section
variable {W w w' : World} {N pg ep b tb g sb dm : Nat} {own own' : Nat → Prop} {s : Sto} {S T : St} {C : Pgs}
theorem Old.quiet (h : Old W w pg b tb g sb dm own s S) (hg : w.grownBy w' none) : Old W w' pg b tb g sb dm own s S := ⟨h.at_.quiet hg, h.w, h.ds, h.pgs⟩
theorem Old.move (h : Old W w pg b tb g sb dm own s S) (hd : DAt w' W.heap.size b T own') (ht : Turn w w' own own') (hn : T.n = S.n) : Old W w' pg b tb g sb dm own' s T := ⟨h.at_.disk hd ht hn, h.w, h.ds, h.pgs⟩
theorem old_read (h : Old W w pg b tb g sb dm own s S) (hq : Quiet6 S) (hN : 2 + pg ≤ S.n) {L : Lg} {x : Sb} {Wt : Option Pgs} (hC : Sees pg ⟨S, L, x, noPgs, Wt⟩ C) {k : Nat} (hk : k < pg) :
    Calls Tryz.prog 19 #[.pointer (some ⟨sb, 0, none⟩), .int .i64 (k : Nat)] w fun e w' => ∃ v, e = .returned (.tuple #[v, .int .i64 0]) ∧ PgV w' (fun i => i < w.heap.size) v ((C k).getD (0, [])) ∧
      Old W w' pg b tb g sb dm own s S ∧ Turn w w' own own := by
  have hp := h.pgs
  have hhas : ({ s with S := S } : Sto).has (k : Int) = true := by
    show (decide (0 ≤ (k : Int)) && decide ((k : Int) < (s.x.pg : Int))) = true
    simp
    omega
  have hs : Sees pg { s with S := S } C := fun j hj => by
    have h1 := hC j hj
    show match s.D j with | some q => C j = some q | none => (C j = none ∧ S.now (2 + j) = DiskSpec.zeros) ∨ ∃ q, C j = some q ∧ pageOk (j : Int) q.1 q.2 = true ∧ S.now (2 + j) = pgF j q
    rw [h.ds]
    exact h1
  have e1 := read_plain6 (s := { s with S := S }) (N := S.n) hq rfl hN hp h.ds h.w hs k hk
  have h1 := sto_read_g h.at_ (k : Int) hhas
  rw [e1] at h1
  refine h1.mono ?_
  rintro e w1 ⟨v, rfl, hv, h2, ht⟩
  exact ⟨v, rfl, hv, ⟨h2, h.w, h.ds, h.pgs⟩, ht⟩
/-- The disk has been read by another. -/
theorem Use.moved {o : Option Pgs} (h : Use W w N pg b tb g sb dm none own s C o) (hd : DAt w' W.heap.size b s.S own) (ht : Turn w w' own own) : Use W w' N pg b tb g sb dm none own s C o :=
  ⟨h.at_.disk hd ht rfl, h.out (turnD ht), h.gd, h.w, h.sees⟩
end
end Go.Proofs.YteaokeiolgjhaaaGreat.Sto
/- A log is switched, on a disk that does not fail; superblocks as a law has them. -/
namespace Go.Proofs.YteaokeiolgjhaaaGreat.Sto
open Go.RowKit Go.Maps Go.Shelf CrcMath CodecMath Mem Crc Codec DiskSpec Dsk Sup Log

/-- The superblock behind a switch. -/
def Sb.moved (x : Sb) (st ln : Nat) : Sb := { x with gn := x.gn + 1, ep := x.ep + 1, st := st, ln := ln, hd := 0, sq := 1 }
theorem moved_l (x : Sb) (st ln : Nat) : [((x.gn : Nat) : Int) + 1, ((x.ep : Nat) : Int) + 1, ((x.pg : Nat) : Int), ((st : Nat) : Int), ((ln : Nat) : Int), 0, 1] = (x.moved st ln).l := by simp [Sb.l, Sb.moved]
section
variable {N pg : Nat} {s : Sto} {ls : List (List Img)} {sure : Nat} {C : Pgs}
theorem GoodS.switch (h : GoodS N pg s ls sure) (hk : keys s.D = []) {st ln : Nat} (h1 : 2 + pg ≤ st) (h2 : 64 ≤ ln) (h3 : st + ln ≤ N) (hgn : s.x.gn < 1099511627776) (hep : s.x.ep < 1099511627776) (hC : Sees pg s C) :
    ∃ T, saveE s.S (s.x.moved st ln).l = (0, T) ∧ GoodS N pg { s with S := T, x := s.x.moved st ln, L := (s.x.moved st ln).log } [] 0 ∧ Sees pg { s with S := T, x := s.x.moved st ln, L := (s.x.moved st ln).log } C ∧ T.ver = s.S.ver := by
  have hm := may_facts h.may
  have hp := h.pgs
  have hD : s.D = noPgs := (keys_nil h.dok).1 hk
  have hmay : mayB (s.x.moved st ln).l (N : Int) = true := may_mk (x := s.x.moved st ln) ⟨hm.1, hm.2.1⟩ (show 2 + s.x.pg ≤ st by omega) h2 h3 (show 0 < ln by omega) ⟨(show s.x.gn + 1 ≤ _ by omega), (show s.x.ep + 1 ≤ _ by omega), (show 1 ≤ _ by omega)⟩ h.top
  have hg0 : 0 ≤ gen (s.x.moved st ln).l := by rw [gen_l]; omega
  have hpl := (place_is hg0).2
  have e1 := save_quiet h.d.q (s := (s.x.moved st ln).l) rfl (by have := h.d.n; rw [this]; exact hmay) (h.d.vp _ hg0)
  have hd0 := h.d.sup hpl (frame (superB (s.x.moved st ln).l))
  have hdn := hd0.later
  have hsn := h.sup.next (t := (s.x.moved st ln).l) rfl hmay (by rw [gen_l, gen_l]; show ((s.x.gn + 1 : Nat) : Int) = (s.x.gn : Int) + 1; omega)
  refine ⟨_, e1, ?_, fun k hk2 => ?_, rfl⟩
  · exact {
      d := hdn
      pgs := h.pgs
      top := h.top
      sup := hsn
      ring := Ring.new (B := (s.x.moved st ln).log) ⟨rfl, rfl, show 0 < ln by omega⟩ (fun o c _ hc => (hd0.far _ (by have := sec_ge (s.x.moved st ln).log o; have h9 : (s.x.moved st ln).log.st = st := rfl; omega) c hc).more (.inr ⟨rfl, Nat.zero_le _⟩)) rfl rfl rfl rfl rfl rfl rfl
      sound := rfl
      ok := ⟨h3, show 1 ≤ ln by omega, show 0 < ln by omega, Nat.zero_le _, show s.x.ep + 1 ≤ _ by omega, show 1 ≤ 2199023255552 by omega⟩
      dok := h.dok
      dlt := h.dlt
      dls := hD
      emp := fun _ => rfl
      nums := fun l hl => by cases hl
      w := h.w }
  · have h4 := hC k hk2
    have h5 : (St.sup s.S (placeOf (s.x.moved st ln).l) (frame (superB (s.x.moved st ln).l))).now (2 + k) = s.S.now (2 + k) := now_sup (by omega)
    show match s.D k with | some q => C k = some q | none => (C k = none ∧ (St.sup s.S (placeOf (s.x.moved st ln).l) (frame (superB (s.x.moved st ln).l))).now (2 + k) = DiskSpec.zeros) ∨ ∃ q, C k = some q ∧ pageOk (k : Int) q.1 q.2 = true ∧ (St.sup s.S (placeOf (s.x.moved st ln).l) (frame (superB (s.x.moved st ln).l))).now (2 + k) = pgF k q
    rw [h5]
    exact h4
end
section
variable {W w w' : World} {N pg b tb g sb dm : Nat} {wm : Option Nat} {own own' : Nat → Prop} {s s' : Sto} {C : Pgs} {o : Option Pgs}
theorem use_switch (h : Use W w N pg b tb g sb dm none own s C none) (hk : keys s.D = []) {st ln : Nat} (h1 : 2 + pg ≤ st) (h2 : 64 ≤ ln) (h3 : st + ln ≤ N) (hgn : s.x.gn < 1099511627776) (hep : s.x.ep < 1099511627776) (hv : ∀ i, (s.S.ver i).length < 549755813888) :
    Calls Tryz.prog 26 #[.pointer (some ⟨sb, 0, none⟩), .int .i64 (st : Nat), .int .i64 (ln : Nat)] w fun e w' => e = .returned (.int .i64 0) ∧ ∃ own' g' s', Use W w' N pg b tb g' sb dm none own' s' C none ∧ Turn w w' (Foot own tb g sb dm none) (Foot own' tb g' sb dm none) ∧
      s'.x = s.x.moved st ln ∧ s'.L.seq = 1 ∧ s'.D = s.D ∧ ∀ i, (s'.S.ver i).length = (s.S.ver i).length := by
  obtain ⟨ls, sure, hg⟩ := h.gd
  obtain ⟨T, e1, hg1, hs1, hv1⟩ := hg.switch hk h1 h2 h3 hgn hep h.sees
  have hc := sto_switch h.at_ (st : Nat) (ln : Nat) (by rw [h.w]; rfl) hk hv
  unfold Restarted at hc
  rw [moved_l, e1] at hc
  refine hc.mono ?_
  rintro e w1 ⟨rfl, own', g', ht, ⟨_, x', hx', h4⟩ | ⟨hne, _⟩⟩
  · have hxx := Sb.l_inj hx'
    subst hxx
    exact ⟨rfl, own', g', _, ⟨h4, h.out ht, ⟨[], 0, hg1⟩, h.w, hs1⟩, ht, rfl, rfl, rfl, fun i => by show (T.ver i).length = _; rw [hv1]⟩
  · exact absurd rfl hne
theorem use_dirty (h : Use W w N pg b tb g sb dm wm own s C o) :
    Calls Tryz.prog 22 #[.pointer (some ⟨sb, 0, none⟩)] w fun e w' => (∃ A c, e = .returned (.slice A (keys s.D).length c)) ∧ w.grownBy w' none := by
  have h0 := sto_dirty h.at_
  generalize keys s.D = ks at *
  refine h0.mono ?_
  rintro e w1 ⟨v, rfl, hr, hg⟩
  obtain ⟨A, c, rfl⟩ : ∃ A c, v = .slice A ks.length c := by
    rcases hr.2 with ⟨hv, hz⟩ | ⟨g, cap, cur, hv, _⟩
    · exact ⟨none, 0, by rw [hv, hz]⟩
    · exact ⟨_, _, hv⟩
  exact ⟨⟨A, c, rfl⟩, hg⟩
/-- A superblock in a law's variable. -/
structure WV (w : World) (F : Nat → Prop) (wb : Nat) (a0 a1 a2 a3 a4 a5 a6 : Int) : Prop where
  b : Blk w wb 49 #[.int .i64 a0, .int .i64 a1, .int .i64 a2, .int .i64 a3, .int .i64 a4, .int .i64 a5, .int .i64 a6]
  n : ¬ F wb
section
variable {F F' : Nat → Prop} {wb : Nat} {a0 a1 a2 a3 a4 a5 a6 : Int}
theorem WV.turn (h : WV w F wb a0 a1 a2 a3 a4 a5 a6) (ht : Turn w w' F F') : WV w' F' wb a0 a1 a2 a3 a4 a5 a6 :=
  ⟨blk_of_block h.b (ht.block wb h.b.lt h.n), fun e => by
    rcases ht.fresh wb e with h1 | h1
    · exact h.n h1
    · have := h.b.lt; omega⟩
theorem WV.quiet (h : WV w F wb a0 a1 a2 a3 a4 a5 a6) (hg : w.grownBy w' none) : WV w' F wb a0 a1 a2 a3 a4 a5 a6 := h.turn (Turn.none_ hg)
theorem WV.cells (h : WV w F wb a0 a1 a2 a3 a4 a5 a6) : w.cell? ⟨wb, 0, none⟩ = some (.int .i64 a0) ∧ w.cell? ⟨wb, 1, none⟩ = some (.int .i64 a1) ∧ w.cell? ⟨wb, 2, none⟩ = some (.int .i64 a2) ∧ w.cell? ⟨wb, 3, none⟩ = some (.int .i64 a3) ∧ w.cell? ⟨wb, 4, none⟩ = some (.int .i64 a4) ∧ w.cell? ⟨wb, 5, none⟩ = some (.int .i64 a5) ∧ w.cell? ⟨wb, 6, none⟩ = some (.int .i64 a6) :=
  ⟨by rw [h.b.cell]; rfl, by rw [h.b.cell]; rfl, by rw [h.b.cell]; rfl, by rw [h.b.cell]; rfl, by rw [h.b.cell]; rfl, by rw [h.b.cell]; rfl, by rw [h.b.cell]; rfl⟩
end
/-- No cell is a byte. -/
def NoU8 (cs : Array Value) : Prop := ∀ (i : Nat) (x : Int), cs[i]? ≠ some (.int .u8 x)
theorem sup_nou8 (a0 a1 a2 a3 a4 a5 a6 : Int) : NoU8 #[.int .i64 a0, .int .i64 a1, .int .i64 a2, .int .i64 a3, .int .i64 a4, .int .i64 a5, .int .i64 a6] := fun i x h => by
  have h2 := (Array.getElem?_eq_some_iff.1 h).1
  simp at h2
  have : i = 0 ∨ i = 1 ∨ i = 2 ∨ i = 3 ∨ i = 4 ∨ i = 5 ∨ i = 6 := by omega
  rcases this with rfl | rfl | rfl | rfl | rfl | rfl | rfl <;> simp at h
theorem data_nou8 {P : Nat → Prop} {q : Nat} {t : TypeId} {cs : Array Value} {A : Option Addr} {n : Nat} {l : List Nat} (h : Dsk.Data w P A n l) (hg : w.grownBy w' (some q)) (hb : Blk w q t cs) (hc : NoU8 cs) : Dsk.Data w' P A n l := by
  refine ⟨h.1, h.2.1, fun hn => ?_⟩
  obtain ⟨g, o, e, hlt, hno, hcell⟩ := h.2.2 hn
  have hne : g ≠ q := fun e2 => by
    subst e2
    have h1 := hcell 0 hn
    rw [Blk.cell hb] at h1
    exact hc _ _ h1
  refine ⟨g, o, e, Nat.lt_of_lt_of_le hlt hg.size, hno, fun j hj => ?_⟩
  rw [World.cell?_of_block (a := ⟨g, o + j, none⟩) (hg.block g hlt (fun e2 => hne (by cases e2; rfl)))]
  exact hcell j hj
theorem pmap_nou8 {P : Nat → Prop} {q : Nat} {t : TypeId} {cs : Array Value} {bm : Nat} {D : Pgs} (h : PMap w P bm D) (hg : w.grownBy w' (some q)) (hb : Blk w q t cs) (hc : NoU8 cs) (hne : bm ≠ q) : PMap w' P bm D := by
  obtain ⟨f, h1, h2⟩ := h.m
  refine ⟨⟨f, h1.of_block (hg.block bm h1.lt (fun e => hne (by cases e; rfl))), fun k => ?_⟩, h.ok⟩
  rcases h2 k with a | ⟨p, v, a, b, bv, e, A, n, c, e2, hnc, hd⟩
  · exact .inl a
  · exact .inr ⟨p, v, a, b, bv, e, A, n, c, e2, hnc, data_nou8 hd hg hb hc⟩
theorem Use.nou8 {q : Nat} {t : TypeId} {cs : Array Value} (h : Use W w N pg b tb g sb dm wm own s C o) (hg : w.grownBy w' (some q)) (hb : Blk w q t cs) (hc : NoU8 cs) (hq : ¬ Foot own tb g sb dm wm q) (hlo : W.heap.size ≤ q) : Use W w' N pg b tb g sb dm wm own s C o :=
  have ha := h.at_
  ⟨⟨ha.l.far hg (fun j e ho => hq (.inl (by cases e; exact ho))), ha.r.keep hg (fun e => hq (.inl (.inl (.inr (by cases e; rfl))))), ha.c.grown hg (fun e => hq (.inr (.inl (by cases e; rfl)))), pmap_nou8 ha.d hg hb hc (fun e => hq (.inr (.inr (.inl e.symm)))),
    fun U hU => by
      obtain ⟨m, e, hm⟩ := ha.u U hU
      exact ⟨m, e, pmap_nou8 hm hg hb hc (fun e2 => hq (.inr (.inr (.inr (by rw [e, e2])))))⟩, ha.n, ha.may, ha.osb, ha.odm, ha.owm, ha.low⟩, h.gr.andThen hg (fun j hj => .inl (by cases hj; exact hlo)), h.gd, h.w, h.sees⟩
end
end Go.Proofs.YteaokeiolgjhaaaGreat.Sto
/- A store on a disk that may be cut, in plain words: whatever a checkpoint or a switch answers, behind a crash all that was synced is there. -/
namespace Go.Proofs.YteaokeiolgjhaaaGreat.Sto
open Go.RowKit CrcMath CodecMath Codec DiskSpec Dsk Sup Log

/-- The same disk, uncut. -/
def St.un (S : St) : St := { S with left := -1 }
/-- Nothing is to fail, but it may be cut. -/
structure Mild (S : St) : Prop where
  f1 : S.f1 = 0
  f2 : S.f2 = 0
  f3 : S.f3 = 0
theorem Mild.of {S : St} (h : Quiet6 (St.un S)) : Mild S := ⟨h.c.f1, h.c.f2, h.f3⟩
theorem flush_cut {S : St} (h : Mild S) : flushE S = (0, S.flush.done) ∨ flushE S = (12, S) := by
  obtain ⟨n, dur, ver, f1, f2, f3, left⟩ := S
  obtain ⟨h1, h2, h3⟩ := h
  simp only at h1 h2 h3
  subst h1 h2 h3
  unfold flushE
  by_cases hl : left = 0
  · rw [if_pos (.inr hl)]; exact .inr rfl
  · rw [if_neg (by simp [hl])]; exact .inl rfl
theorem write_cut {S : St} (h : Mild S) {a : Nat} (ha : a < S.n) {l : List Nat} (hl : l.length = 256) : writeE S false (a : Nat) l = (0, (S.add a l).done) ∨ writeE S false (a : Nat) l = (11, S) := by
  obtain ⟨n, dur, ver, f1, f2, f3, left⟩ := S
  obtain ⟨h1, h2, h3⟩ := h
  simp only at h1 h2 h3 ha
  subst h1 h2 h3
  unfold writeE
  rw [if_neg (by omega), hl, if_neg (by simp [St.has]; omega)]
  by_cases hl0 : left = 0
  · rw [if_pos (.inr hl0)]; exact .inr rfl
  · rw [if_neg (by simp [hl0])]
    have hsec : sec l 0 = l := by
      show (l.drop (256 * 0)).take 256 = l
      rw [Nat.mul_zero, List.drop_zero, List.take_of_length_le (by omega)]
    refine .inl ?_
    show (0, St.done (St.add _ (a + 0) (sec l 0))) = _
    rw [hsec, Nat.add_zero]
    rfl
theorem save_cut {S : St} (h : Mild S) {s : List Int} (hl : s.length = 7) (hm : mayB s S.n = true) (hv : S.ver (placeOf s) = []) : saveE S s = (0, (St.sup S (placeOf s) (frame (superB s))).done) ∨ saveE S s = (11, S) := by
  have hg := may_gen hl hm
  obtain ⟨hp, hp2⟩ := place_is hg.1
  have hn := may_n hl hm
  have hlen := superW_len hl (superW_may hm)
  unfold saveE
  rw [hm, if_pos rfl, hp]
  generalize frame (superB s) = l at *
  generalize placeOf s = a at *
  obtain ⟨n, dur, ver, f1, f2, f3, left⟩ := S
  obtain ⟨h1, h2, h3⟩ := h
  simp only at h1 h2 h3 hv hn
  subst h1 h2 h3
  unfold writeE
  rw [if_neg (by omega), hlen, if_neg (by simp [St.has]; omega)]
  by_cases hl0 : left = 0
  · rw [if_pos (.inr hl0)]; exact .inr rfl
  · rw [if_neg (by simp [hl0])]
    have hsec : sec l 0 = l := by
      show (l.drop (256 * 0)).take 256 = l
      rw [Nat.mul_zero, List.drop_zero, List.take_of_length_le (by omega)]
    refine .inl ?_
    show (0, St.done (St.settle (St.add _ (a + 0) (sec l 0)) (a + 0))) = _
    rw [hsec, Nat.add_zero]
    congr 1
    have e1 : upd (upd ver a (ver a ++ [l])) a [] = ver := by
      funext i; unfold upd; split
      · rename_i e; subst e; exact hv.symm
      · rfl
    have e2 : St.now { n := n, dur := dur, ver := upd ver a (ver a ++ [l]), f1 := 0, f2 := 0 - 1, f3 := 0, left := left } a = l := by simp [St.now, upd]
    show ({ n := n, dur := upd dur a (St.now { n := n, dur := dur, ver := upd ver a (ver a ++ [l]), f1 := 0, f2 := 0 - 1, f3 := 0, left := left } a), ver := upd (upd ver a (ver a ++ [l])) a [], f1 := 0, f2 := 0 - 1, f3 := 0, left := tick left } : St) = _
    rw [e1, e2]
    rfl
theorem homes_cut {D : Pgs} (hD : PgsOk D) : ∀ {ks : List Nat} {S : St}, Mild S → (∀ k ∈ ks, 2 + k < S.n ∧ (D k).isSome = true) →
    ∃ m, m ≤ ks.length ∧ St.un (homesE S (ks.map fun k => imgOf k ((D k).getD (0, [])))).2 = addH D (St.un S) (ks.take m) ∧ Mild (homesE S (ks.map fun k => imgOf k ((D k).getD (0, [])))).2 ∧
      ((homesE S (ks.map fun k => imgOf k ((D k).getD (0, [])))).1 = 0 → m = ks.length)
  | [], S, hm, _ => ⟨0, Nat.le_refl _, rfl, hm, fun _ => rfl⟩
  | k :: r, S, hm, h => by
    obtain ⟨h1, h2⟩ := h k (List.mem_cons_self ..)
    obtain ⟨q, hq⟩ := Option.isSome_iff_exists.1 h2
    have hw : homeE S (imgOf k ((D k).getD (0, []))) = (0, (S.add (2 + k) (pgF k ((D k).getD (0, [])))).done) ∨ homeE S (imgOf k ((D k).getD (0, []))) = (11, S) := by
      show writeE S false (2 + (k : Int)) (pgF k ((D k).getD (0, []))) = _ ∨ writeE S false (2 + (k : Int)) (pgF k ((D k).getD (0, []))) = _
      rw [show (2 : Int) + (k : Int) = ((2 + k : Nat) : Int) by omega]
      exact write_cut hm h1 (by rw [hq]; exact pgF_len (hD k q hq))
    have hE : homesE S ((k :: r).map fun k => imgOf k ((D k).getD (0, []))) = if (homeE S (imgOf k ((D k).getD (0, [])))).1 = 0 then homesE (homeE S (imgOf k ((D k).getD (0, [])))).2 (r.map fun k => imgOf k ((D k).getD (0, []))) else homeE S (imgOf k ((D k).getD (0, []))) := rfl
    rw [hE]
    rcases hw with hw | hw
    · rw [hw, if_pos rfl]
      obtain ⟨m, m1, m2, m3, m4⟩ := homes_cut hD (ks := r) (S := (S.add (2 + k) (pgF k ((D k).getD (0, [])))).done) ⟨hm.f1, hm.f2, hm.f3⟩ (fun j hj => h j (List.mem_cons_of_mem _ hj))
      exact ⟨m + 1, by simp; omega, m2, m3, fun e => by simp [m4 e]⟩
    · rw [hw]
      dsimp only
      rw [if_neg (show ¬ ((11 : Int) = 0) from by decide)]
      exact ⟨0, Nat.zero_le _, rfl, hm, fun e => absurd (show (11 : Int) = 0 from e) (by decide)⟩

section
variable {N pg : Nat} {s s' : Sto} {ls : List (List Img)} {sure : Nat} {C : Pgs}
/-- What is dirty is brought home in part. -/
theorem GoodS.part (h : GoodS N pg s ls sure) (m : Nat) : GoodS N pg { s with S := addH s.D s.S ((keys s.D).take m) } ls sure := by
  have hm := may_facts h.may
  have hp := h.pgs
  have hks : ∀ k ∈ (keys s.D).take m, k < pg ∧ (s.D k).isSome = true := fun k hk => by
    have hk := List.mem_of_mem_take hk
    exact ⟨h.dlt k (mem_keys.1 hk).2, (mem_keys.1 hk).2⟩
  exact { h with
    d := h.d.addH h.dok hks
    sup := h.sup.same (T := addH s.D s.S ((keys s.D).take m)) (by rw [addH_n.2]) (by rw [addH_n.2])
    ring := ring_addH (D := s.D) h.ring (show 2 + pg ≤ s.x.st by omega) (fun k hk => (hks k hk).1) }
theorem GoodS.past_may (h : GoodS N pg s ls sure) (hgn : s.x.gn < 1099511627776) (hsq : s.L.seq ≤ 1099511627776) : mayB s.past.l (N : Int) = true := by
  have hm := may_facts h.may
  have htl := h.ok.tail
  have hln : s.L.ln = s.x.ln := h.ring.ln
  exact may_mk (x := s.past) ⟨hm.1, hm.2.1⟩ hm.2.2.1 hm.2.2.2.1 hm.2.2.2.2.1 (show s.L.tail < s.x.ln by omega) ⟨(show s.x.gn + 1 ≤ _ by omega), hm.2.2.2.2.2.2.2.1, hsq⟩ h.top
/-- The superblock behind a checkpoint is saved. -/
theorem GoodS.past (h : GoodS N pg s ls sure) (hgn : s.x.gn < 1099511627776) (hsq : s.L.seq ≤ 1099511627776) :
    GoodS N pg { s with S := St.sup s.S (placeOf s.past.l) (frame (superB s.past.l)), L := s.L.drop, x := s.past, D := noPgs } [] 0 := by
  have hm := may_facts h.may
  have htl := h.ok.tail
  have hln : s.L.ln = s.x.ln := h.ring.ln
  have hmay := h.past_may hgn hsq
  have hg0 : 0 ≤ gen s.past.l := by rw [gen_l]; omega
  have hpl := (place_is hg0).2
  have hr := ring_sup h.ring (show 2 ≤ s.x.st by omega) hpl (frame (superB s.past.l))
  exact {
    d := h.d.sup hpl _
    pgs := h.pgs
    top := h.top
    sup := h.sup.next rfl hmay (by rw [gen_l, gen_l]; show ((s.x.gn + 1 : Nat) : Int) = (s.x.gn : Int) + 1; omega)
    ring := hr.drop (fun _ _ hc => hc) (C := s.past.log) ⟨rfl, rfl, show s.L.tail < s.x.ln by omega⟩ rfl rfl rfl rfl rfl
    sound := rfl
    ok := ⟨h.ok.fit, h.ok.low, h.ok.tail, Nat.zero_le _, h.ok.ep, h.ok.seq⟩
    dok := PgsOk.none_
    dlt := fun k hk => by cases hk
    dls := rfl
    emp := fun _ => rfl
    nums := fun l hl => by cases hl
    w := h.w }
/-- Whatever of a disk persists, pages are C. -/
def SeesAll (pg : Nat) (D : Pgs) (S : St) (C : Pgs) : Prop := ∀ k, k < pg → match D k with
  | some q => C k = some q
  | none => ∀ c, Cand S (2 + k) c → (C k = none ∧ c = DiskSpec.zeros) ∨ ∃ q, C k = some q ∧ pageOk (k : Int) q.1 q.2 = true ∧ c = pgF k q
theorem SeesAll.sub {D : Pgs} {S T : St} (h : SeesAll pg D S C) (hc : ∀ k, k < pg → D k = none → ∀ c, Cand T (2 + k) c → Cand S (2 + k) c) : SeesAll pg D T C := fun k hk => by
  have h1 := h k hk
  cases hq : D k with
  | some q => rw [hq] at h1; exact h1
  | none => rw [hq] at h1; exact fun c hcc => h1 c (hc k hk hq c hcc)
/-- What a store holds, behind whatever a cut disk refused: all that was committed was synced. -/
structure Held (N pg : Nat) (s : Sto) (ls : List (List Img)) (C : Pgs) : Prop where
  g : GoodS N pg { s with S := St.un s.S } ls ls.length
  see : SeesAll pg s.D s.S C
  w : s.W = none
theorem Held.start (h : GoodS N pg s ls ls.length) (hw : s.W = none) (hv : s.S.ver = fun _ => []) (hC : Sees pg s C) (n : Int) : Held N pg { s with S := { s.S with left := n } } ls C := by
  have e : St.un { s.S with left := n } = s.S := by
    have := h.d.q.c.left
    cases hS : s.S with
    | mk a b c d e f g => rw [hS] at this; simp only at this; subst this; rfl
  refine ⟨by show GoodS N pg { s with S := St.un { s.S with left := n } } ls ls.length; rw [e]; exact h, fun k hk => ?_, hw⟩
  have h1 := hC k hk
  show match s.D k with | some q => C k = some q | none => ∀ c, Cand s.S (2 + k) c → _
  cases hq : s.D k with
  | some q => rw [hq] at h1; exact h1
  | none =>
    rw [hq] at h1
    intro c hc
    have e : c = s.S.now (2 + k) := by
      rw [St.now_nil (by rw [hv])]
      rcases hc with hc | hc
      · exact hc
      · rw [hv] at hc; cases hc
    rw [e]
    exact h1
/-- How a store may have changed. -/
structure Gone (s s' : Sto) : Prop where
  w : s'.W = none
  ep : s'.x.ep = s.x.ep
  gn : s.x.gn ≤ s'.x.gn ∧ s'.x.gn ≤ s.x.gn + 1
  seq : s'.L.seq = s.L.seq
  pl : s'.x.st = s.x.st ∧ s'.x.ln = s.x.ln
theorem Held.ckpt (h : Held N pg s ls C) (hgn : s.x.gn < 1099511627776) (hsq : s.L.seq ≤ 1099511627776) : ∃ ls', Held N pg (ckptE s).2 ls' C ∧ Gone s (ckptE s).2 := by
  have hm := may_facts (x := s.x) (N := N) h.g.may
  have hp : s.x.pg = pg := h.g.pgs
  have hN : s.S.n = N := h.g.d.n
  have stay : ∀ {T : St}, St.un T = St.un s.S → Held N pg (s.disk T) ls C := fun {T} e =>
    ⟨by show GoodS N pg { s with S := St.un T } ls ls.length; rw [e]; exact h.g, h.see.sub (fun k _ _ c hc => by
      have hd := congrArg St.dur e
      have hv := congrArg St.ver e
      have hd2 : T.dur = s.S.dur := hd
      have hv2 : T.ver = s.S.ver := hv
      have hc2 : Cand T (2 + k) c := hc
      unfold Cand at *; rw [hd2, hv2] at hc2; exact hc2), h.w⟩
  have gone : ∀ T, Gone s (s.disk T) := fun T => ⟨h.w, rfl, ⟨Nat.le_refl _, Nat.le_succ _⟩, rfl, ⟨rfl, rfl⟩⟩
  have hmild : Mild s.S := Mild.of h.g.d.q
  unfold ckptE
  by_cases hk : keys s.D = [] ∧ 0 < s.L.room
  · rw [if_pos hk]; exact ⟨ls, h, ⟨h.w, rfl, ⟨Nat.le_refl _, Nat.le_succ _⟩, rfl, ⟨rfl, rfl⟩⟩⟩
  · rw [if_neg hk, if_neg (by omega)]
    rcases flush_cut hmild with e1 | e1
    · rw [e1, if_pos rfl]
      have g1 := h.g.flush
      dsimp only at g1
      have see1 : SeesAll pg s.D s.S.flush C := h.see.sub (fun k _ _ c hc => by
        rw [cand_flushed (S := s.S) rfl (fun _ => rfl) hc]; exact cand_now s.S _)
      have hks : ∀ k ∈ keys s.D, 2 + k < s.S.flush.done.n ∧ (s.D k).isSome = true := fun k hk => by
        have h2 := (mem_keys.1 hk).2
        have h3 : k < pg := h.g.dlt k h2
        exact ⟨by show 2 + k < s.S.n; omega, h2⟩
      obtain ⟨m, m1, m2, m3, m4⟩ := homes_cut (D := s.D) h.g.dok (ks := keys s.D) (S := s.S.flush.done) ⟨hmild.f1, hmild.f2, hmild.f3⟩ hks
      have m2' : St.un (homesE s.S.flush.done (rising s.D)).2 = addH s.D (St.un s.S).flush ((keys s.D).take m) := m2
      have m3' : Mild (homesE s.S.flush.done (rising s.D)).2 := m3
      have m4' : (homesE s.S.flush.done (rising s.D)).1 = 0 → m = (keys s.D).length := m4
      clear m2 m3 m4
      have g2 := g1.part m
      dsimp only at g2
      unfold ckBring bringE
      generalize homesE s.S.flush.done (rising s.D) = R at *
      obtain ⟨e2, T2⟩ := R
      dsimp only at *
      rw [← m2'] at g2
      have see2 : SeesAll pg s.D T2 C := see1.sub (fun k hk hD c hc => by
        have hc2 : Cand (addH s.D (St.un s.S).flush ((keys s.D).take m)) (2 + k) c := by rw [← m2']; exact hc
        rcases addH_cand hc2 with hc3 | ⟨j, hj, h1, _⟩
        · exact hc3
        · have h3 := (mem_keys.1 (List.mem_of_mem_take hj)).2
          rw [show j = k by omega, hD] at h3
          cases h3)
      by_cases he2 : e2 = 0
      · rw [if_pos he2]
        have hm4 := m4' he2
        have htk : (keys s.D).take m = keys s.D := List.take_of_length_le (Nat.le_of_eq hm4.symm)
        rcases flush_cut m3' with e3 | e3
        · rw [e3, if_pos rfl]
          have g3 := g2.flush
          dsimp only at g3
          have hnow : ∀ k, k < pg → T2.now (2 + k) = (match s.D k with | some q => pgF k q | none => s.S.flush.now (2 + k)) := fun k hk2 => by
            have hn2 : T2.now (2 + k) = (addH s.D (St.un s.S).flush ((keys s.D).take m)).now (2 + k) := by rw [← m2']; rfl
            rw [hn2, htk]
            cases hq : s.D k with
            | some q =>
              have hmk : k ∈ keys s.D := mem_keys.2 ⟨h.g.dok.lt hq, by rw [hq]; rfl⟩
              rw [addH_now hmk, hq]; rfl
            | none =>
              have hmk : k ∉ keys s.D := fun hx => by
                have := (mem_keys.1 hx).2
                rw [hq] at this; cases this
              exact now_far (S := (St.un s.S).flush) addH_n.2 (addH_far (p := 2 + k) (fun j hj e => hmk (by rw [show k = j by omega]; exact hj)))
          have see3 : SeesAll pg s.D T2.flush.done C := see2.sub (fun k _ _ c hc => by
            rw [cand_flushed (S := T2) (T := T2.flush.done) rfl (fun _ => rfl) hc]; exact cand_now T2 _)
          unfold ckSave
          have hmay : mayB s.past.l (T2.flush.done.n : Int) = true := by
            have := g3.past_may hgn hsq
            have hn : T2.n = N := g2.d.n
            show mayB s.past.l (T2.n : Int) = true
            rw [hn]; exact this
          have hpl := g3.past hgn hsq
          dsimp only at hpl
          rcases save_cut (S := T2.flush.done) ⟨m3'.f1, m3'.f2, m3'.f3⟩ (s := s.past.l) rfl hmay rfl with e4 | e4
          · rw [e4, if_pos rfl]
            refine ⟨[], ⟨hpl, fun k hk => ?_, h.w⟩, ⟨h.w, rfl, ⟨Nat.le_succ _, Nat.le_refl _⟩, rfl, ⟨rfl, rfl⟩⟩⟩
            show ∀ c, Cand (St.sup T2.flush.done (placeOf s.past.l) (frame (superB s.past.l))).done (2 + k) c → _
            intro c hc
            have hg0 : 0 ≤ gen s.past.l := by rw [gen_l]; omega
            have hpl2 := (place_is hg0).2
            have hc2 : Cand T2.flush.done (2 + k) c := cand_sup (by omega) hc
            rw [cand_flushed (S := T2) (T := T2.flush.done) rfl (fun _ => rfl) hc2, hnow k hk]
            have h1 := see1 k hk
            cases hq : s.D k with
            | some q => rw [hq] at h1; exact .inr ⟨q, h1, h.g.dok k q hq, rfl⟩
            | none => rw [hq] at h1; exact h1 _ (cand_now s.S.flush _)
          · rw [e4]
            dsimp only
            rw [if_neg (show ¬ ((11 : Int) = 0) from by decide)]
            exact ⟨ls, ⟨g3, see3, h.w⟩, gone _⟩
        · rw [e3]
          dsimp only
          rw [if_neg (show ¬ ((12 : Int) = 0) from by decide)]
          exact ⟨ls, ⟨g2, see2, h.w⟩, gone _⟩
      · rw [if_neg he2, if_neg he2]
        exact ⟨ls, ⟨g2, see2, h.w⟩, gone _⟩
    · rw [e1]
      dsimp only
      rw [if_neg (show ¬ ((12 : Int) = 0) from by decide)]
      exact ⟨ls, stay rfl, gone _⟩
theorem Held.crash (h : Held N pg s ls C) (hok : s.S.ok) (picks : List Int) :
    ∃ dur ls' M, s.S.crash picks = plain N dur ∧ DiskG N pg s.x.ep (plain N dur) ∧ SupG N (plain N dur) s.x.l ∧ openR (plain N dur) s.x.log.ln s.x.log = (recsOf (s.x.sq : Int) ls', M) ∧ RecsG pg ls' ∧
      Sees pg ⟨plain N dur, M, s.x, latestOf (recsOf (s.x.sq : Int) ls'), none⟩ C := by
  have hm := may_facts (x := s.x) (N := N) h.g.may
  have hok2 : (St.un s.S).ok := { hok with l0 := Int.le_refl _, l1 := by show (-1 : Int) ≤ _; omega }
  obtain ⟨⟨m, m1, m2, hO⟩, _⟩ := h.g.ring.crash hok2 picks
  have hall := h.g.ring.all
  have htg := total_ge ls
  have e0 : (St.un s.S).crash picks = s.S.crash picks := rfl
  rw [e0] at hO
  have e1 : s.S.crash picks = plain N (s.S.crash picks).dur := by
    have := crash_plain6 s.S picks
    rw [show s.S.n = N from h.g.d.n] at this
    exact this
  have hdc := h.g.d.crash picks
  rw [show ({ s with S := St.un s.S } : Sto).S = St.un s.S from rfl, e0] at hdc
  have hs0 : ∀ a, s.S.ver a = [] → (s.S.crash picks).dur a = s.S.dur a := fun a ha => by
    show pickOf (s.S.dur a) (s.S.ver a) _ = _
    rw [ha]; exact pickOf_nil _ _
  have hsc := h.g.sup.same (T := s.S.crash picks) (hs0 0 h.g.d.v0) (hs0 1 h.g.d.v1)
  have hm2 : m = ls.length := by omega
  subst hm2
  rw [List.take_length] at hO
  refine ⟨(s.S.crash picks).dur, ls, _, e1, by rw [← e1]; exact hdc, by rw [← e1]; exact hsc, by rw [← e1]; exact hO, ⟨?_, fun l hl => ?_⟩, fun k hk => ?_⟩
  · have h9 : ({ s with S := St.un s.S } : Sto).x.log.ln = s.x.ln := rfl
    have := h.g.top
    have h10 : s.x.st + s.x.ln ≤ N := hm.2.2.2.2.1
    omega
  · have hf := fitAll_mem h.g.ring.fit l hl
    exact ⟨hf.1, fun y hy => ⟨hf.2 y hy, h.g.nums l hl y hy⟩⟩
  · have h1 := h.see k hk
    have hd : s.D = latestOf (recsOf (s.x.sq : Int) ls) := h.g.dls
    rw [hd] at h1
    rw [← e1]
    show match latestOf (recsOf (s.x.sq : Int) ls) k with | some q => C k = some q | none => (C k = none ∧ (s.S.crash picks).now (2 + k) = DiskSpec.zeros) ∨ ∃ q, C k = some q ∧ pageOk (k : Int) q.1 q.2 = true ∧ (s.S.crash picks).now (2 + k) = pgF k q
    cases hq : latestOf (recsOf (s.x.sq : Int) ls) k with
    | some q => rw [hq] at h1; exact h1
    | none => rw [hq] at h1; exact h1 _ (cand_crash s.S picks _)
/-- A switch, whatever it answers. -/
theorem Held.switch (h : Held N pg s ls C) (hk : keys s.D = []) {st ln : Nat} (h1 : 2 + pg ≤ st) (h2 : 64 ≤ ln) (h3 : st + ln ≤ N) (hgn : s.x.gn < 1099511627776) (hep : s.x.ep < 1099511627776) :
    (∃ T, saveE s.S (s.x.moved st ln).l = (0, T) ∧ Held N pg { s with S := T, x := s.x.moved st ln, L := (s.x.moved st ln).log } [] C) ∨ saveE s.S (s.x.moved st ln).l = (11, s.S) := by
  have hmild : Mild s.S := Mild.of h.g.d.q
  have hD : s.D = noPgs := (keys_nil h.g.dok).1 hk
  have hm := may_facts (x := s.x) (N := N) h.g.may
  have hp : s.x.pg = pg := h.g.pgs
  have hSees : Sees pg { s with S := St.un s.S } C := fun k hk => by
    have h4 := h.see k hk
    show match s.D k with | some q => C k = some q | none => (C k = none ∧ s.S.now (2 + k) = DiskSpec.zeros) ∨ ∃ q, C k = some q ∧ pageOk (k : Int) q.1 q.2 = true ∧ s.S.now (2 + k) = pgF k q
    cases hq : s.D k with
    | some q => rw [hq] at h4; exact h4
    | none => rw [hq] at h4; exact h4 _ (cand_now s.S _)
  obtain ⟨T, e1, g1, _, _⟩ := h.g.switch hk h1 h2 h3 hgn hep hSees
  dsimp only at e1 g1
  have hmay : mayB (s.x.moved st ln).l (s.S.n : Int) = true := by
    have := g1.may
    rw [show s.S.n = N from h.g.d.n]
    exact this
  have hg0 : 0 ≤ gen (s.x.moved st ln).l := by rw [gen_l]; omega
  have hvp : s.S.ver (placeOf (s.x.moved st ln).l) = [] := h.g.d.vp _ hg0
  have e2 := save_quiet h.g.d.q (s := (s.x.moved st ln).l) rfl hmay hvp
  dsimp only at e2
  rw [e1] at e2
  have hT : T = St.sup (St.un s.S) (placeOf (s.x.moved st ln).l) (frame (superB (s.x.moved st ln).l)) := (Prod.mk.inj e2).2
  rcases save_cut hmild (s := (s.x.moved st ln).l) rfl hmay hvp with e3 | e3
  · refine .inl ⟨_, e3, by rw [hT] at g1; exact g1, fun k hk2 => ?_, h.w⟩
    have h4 := h.see k hk2
    have hpl := (place_is hg0).2
    rw [hD] at h4
    show match s.D k with | some q => C k = some q | none => ∀ c, Cand (St.sup s.S (placeOf (s.x.moved st ln).l) (frame (superB (s.x.moved st ln).l))).done (2 + k) c → _
    rw [hD]
    exact fun c hc => h4 c (cand_sup (by omega) hc)
  · exact .inr e3
end
end Go.Proofs.YteaokeiolgjhaaaGreat.Sto
/- A mover in memory, and its small calls: New, Busy, Cancel, moved. -/
namespace Go.Proofs.YteaokeiolgjhaaaGreat.Sto
open Go.RowKit Go.Maps Go.Shelf CrcMath CodecMath Mem Crc Codec DiskSpec Dsk Sup Log

/-- A mover, and where its log is asked to. -/
def MovAt (w : World) (F : Nat → Prop) (B mb sb : Nat) (n : Int) (tg : Option (Int × Int)) : Prop :=
  ¬ F mb ∧ B ≤ mb ∧ match tg with
    | none => Blk w mb 138 #[.pointer (some ⟨sb, 0, none⟩), .int .i64 n, .pointer none]
    | some q => ∃ g, Blk w mb 138 #[.pointer (some ⟨sb, 0, none⟩), .int .i64 n, .pointer (some ⟨g, 0, none⟩)] ∧ Blk w g 141 #[.int .i64 q.1, .int .i64 q.2] ∧ ¬ F g ∧ g ≠ mb
section
variable {w w' : World} {F F' : Nat → Prop} {B mb sb : Nat} {n : Int} {tg : Option (Int × Int)}
theorem turn_out (ht : Turn w w' F F') {i : Nat} (hi : i < w.heap.size) (hn : ¬ F i) : ¬ F' i := fun e => by
  rcases ht.fresh i e with h1 | h1
  · exact hn h1
  · omega
theorem MovAt.turn (h : MovAt w F B mb sb n tg) (ht : Turn w w' F F') : MovAt w' F' B mb sb n tg := by
  obtain ⟨h1, h0, h2⟩ := h
  cases tg with
  | none => exact ⟨turn_out ht (Blk.lt h2) h1, h0, blk_of_block h2 (ht.block mb (Blk.lt h2) h1)⟩
  | some q =>
    obtain ⟨g, h3, h4, h5, h6⟩ := h2
    exact ⟨turn_out ht h3.lt h1, h0, g, blk_of_block h3 (ht.block mb h3.lt h1), blk_of_block h4 (ht.block g h4.lt h5), turn_out ht h4.lt h5, h6⟩
theorem MovAt.quiet (h : MovAt w F B mb sb n tg) (hg : w.grownBy w' none) : MovAt w' F B mb sb n tg := h.turn (Turn.none_ hg)
/-- The mover's own block, as it is told. -/
theorem MovAt.blk (h : MovAt w F B mb sb n tg) : ∃ p : Option Addr, Blk w mb 138 #[.pointer (some ⟨sb, 0, none⟩), .int .i64 n, .pointer p] ∧ p.isSome = tg.isSome := by
  obtain ⟨_, _, h2⟩ := h
  cases tg with
  | none => exact ⟨none, h2, rfl⟩
  | some q =>
    obtain ⟨g, h3, _⟩ := h2
    exact ⟨some ⟨g, 0, none⟩, h3, rfl⟩
set_option maxRecDepth 100000 in
set_option maxHeartbeats 400000 in
theorem rel_busy (h : MovAt w F B mb sb n tg) : Calls Tryz.prog 34 #[.pointer (some ⟨mb, 0, none⟩)] w fun e w' => e = .returned (.bool tg.isSome) ∧ w' = w := by
  obtain ⟨p, hb, hp⟩ := h.blk
  have c2 := hb.cell 2
  simp only [List.getElem?_toArray, List.getElem?_cons_zero, List.getElem?_cons_succ] at c2
  clear h hb
  cases p with
  | none =>
    rw [← hp]
    clear hp
    go_enter Tryz.func34, Tryz.ntmps34
    go_wp2
    go_ret
    exact ⟨rfl, rfl⟩
  | some a =>
    rw [← hp]
    clear hp
    go_enter Tryz.func34, Tryz.ntmps34
    go_wp2
    go_ret
    exact ⟨rfl, rfl⟩
set_option maxRecDepth 100000 in
set_option maxHeartbeats 400000 in
theorem rel_cancel (h : MovAt w F B mb sb n tg) : Calls Tryz.prog 37 #[.pointer (some ⟨mb, 0, none⟩)] w fun e w' => e = .returned (.tuple #[]) ∧ MovAt w' F B mb sb n none ∧ w.grownBy w' (some mb) := by
  obtain ⟨p, hb, _⟩ := h.blk
  have c2 := hb.cell 2; have f2 := hb.frozen 2
  simp only [List.getElem?_toArray, List.getElem?_cons_zero, List.getElem?_cons_succ] at c2
  have hgs := Lib.grownBy_setB (World.grownBy.refl w (some mb)) 2 (.pointer none)
  have HR := Lib.hid (show MovAt (w.setCell ⟨mb, 2, none⟩ (.pointer none)) F B mb sb n none ∧ w.grownBy (w.setCell ⟨mb, 2, none⟩ (.pointer none)) (some mb) from ⟨⟨h.1, h.2.1, hb.set_ 2 (.pointer none)⟩, hgs⟩)
  clear h hb hgs
  go_enter Tryz.func37, Tryz.ntmps37
  go_wp2
  go_end0
  exact ⟨rfl, HR.out.1, HR.out.2⟩
set_option maxRecDepth 100000 in
set_option maxHeartbeats 400000 in
theorem rel_new (w : World) (n : Int) : Calls Tryz.prog 32 #[.pointer (some ⟨sb, 0, none⟩), .int .i64 n] w fun e w' => e = .returned (.pointer (some ⟨w.heap.size, 0, none⟩)) ∧ w' = w.alloc (.cells #[.pointer (some ⟨sb, 0, none⟩), .int .i64 n, .pointer none] 138) := by
  go_enter Tryz.func32, Tryz.ntmps32
  go_wp2
  go_ret
  exact ⟨rfl, rfl⟩
theorem rel_new_at {W : World} {N pg b tb g dm : Nat} {wm : Option Nat} {own : Nat → Prop} {s : Sto} {C : Pgs} {o : Option Pgs} (h : Use W w N pg b tb g sb dm wm own s C o) (n : Int) :
    Calls Tryz.prog 32 #[.pointer (some ⟨sb, 0, none⟩), .int .i64 n] w fun e w' => ∃ mb, e = .returned (.pointer (some ⟨mb, 0, none⟩)) ∧ Use W w' N pg b tb g sb dm wm own s C o ∧ MovAt w' (Foot own tb g sb dm wm) W.heap.size mb sb n none ∧ w.grownBy w' none := by
  refine (rel_new w n).mono ?_
  rintro e w1 ⟨rfl, rfl⟩
  have hg := World.grownBy_alloc w (.cells #[.pointer (some ⟨sb, 0, none⟩), .int .i64 n, .pointer none] 138) none
  exact ⟨_, rfl, h.quiet hg, ⟨fun e => by have := h.foot_lt e; omega, h.gr.size, Blk.new w _ _⟩, hg⟩
set_option maxRecDepth 100000 in
set_option maxHeartbeats 400000 in
theorem rel_new_nil (w : World) (n : Int) : Calls Tryz.prog 32 #[.pointer none, .int .i64 n] w fun e w' => e = .returned (.pointer none) ∧ w' = w := by
  go_enter Tryz.func32, Tryz.ntmps32
  go_wp2
  go_ret
  exact ⟨rfl, rfl⟩
end
end Go.Proofs.YteaokeiolgjhaaaGreat.Sto
/- A move of a log: Ask and Step, whatever is asked and whatever the disk answers. -/
namespace Go.Proofs.YteaokeiolgjhaaaGreat.Sto
open Go.RowKit Go.Maps Go.Shelf CrcMath CodecMath Mem Crc Codec DiskSpec Dsk Sup Log

/-- The superblock that a move to q would save. -/
def mvL (s : Sto) (q : Int × Int) : List Int := [((s.x.gn : Nat) : Int) + 1, ((s.x.ep : Nat) : Int) + 1, ((s.x.pg : Nat) : Int), q.1, q.2, 0, 1]
/-- What Ask answers, and where a move is under way to behind it. -/
def askE (s : Sto) (n : Int) (tg : Option (Int × Int)) (q : Int × Int) : Int × Option (Int × Int) :=
  match tg with
  | some p => (17, some p)
  | none => if mayB (mvL s q) n then (0, some q) else (1, none)
/-- What Step does. -/
inductive StepR (s : Sto) : Option (Int × Int) → Bool → Int → Sto → Option (Int × Int) → Prop
  | idle : StepR s none false 18 s none
  | ckpt (q : Int × Int) : keys s.D ≠ [] → StepR s (some q) false (checkpointE s).1 (checkpointE s).2 (some q)
  | busy (q : Int × Int) : keys s.D = [] → s.W.isSome = true → StepR s (some q) false 17 s (some q)
  | fail (q : Int × Int) : keys s.D = [] → s.W = none → (saveE s.S (mvL s q)).1 ≠ 0 → StepR s (some q) false (saveE s.S (mvL s q)).1 (s.disk (saveE s.S (mvL s q)).2) (some q)
  | done (q : Int × Int) (x' : Sb) : keys s.D = [] → s.W = none → (saveE s.S (mvL s q)).1 = 0 → x'.l = mvL s q → StepR s (some q) true 0 { s with S := (saveE s.S (mvL s q)).2, x := x', L := x'.log } none
theorem mov_nou8 (a : Value) (n : Int) (c : Value) (ha : ∀ x, a ≠ .int .u8 x) (hc : ∀ x, c ≠ .int .u8 x) : NoU8 #[a, .int .i64 n, c] := fun i x h => by
  have h2 := (Array.getElem?_eq_some_iff.1 h).1
  simp at h2
  have : i = 0 ∨ i = 1 ∨ i = 2 := by omega
  rcases this with rfl | rfl | rfl <;> simp at h
  · exact ha x h
  · exact hc x h
section
variable {lv : Value} {w w' : World} {B b tb g sb dm mb : Nat} {wm : Option Nat} {own own' : Nat → Prop} {s : Sto} {n : Int} {tg : Option (Int × Int)}
theorem StoAtG.nou8 {q : Nat} {t : TypeId} {cs : Array Value} (ha : StoAtG lv w B b tb g sb dm wm own s) (hg : w.grownBy w' (some q)) (hb : Blk w q t cs) (hc : NoU8 cs) (hq : ¬ Foot own tb g sb dm wm q) : StoAtG lv w' B b tb g sb dm wm own s :=
  ⟨ha.l.far hg (fun j e ho => hq (.inl (by cases e; exact ho))), ha.r.keep hg (fun e => hq (.inl (.inl (.inr (by cases e; rfl))))), ha.c.grown hg (fun e => hq (.inr (.inl (by cases e; rfl)))), pmap_nou8 ha.d hg hb hc (fun e => hq (.inr (.inr (.inl e.symm)))),
    fun U hU => by
      obtain ⟨m, e, hm⟩ := ha.u U hU
      exact ⟨m, e, pmap_nou8 hm hg hb hc (fun e2 => hq (.inr (.inr (.inr (by rw [e, e2])))))⟩, ha.n, ha.may, ha.osb, ha.odm, ha.owm, ha.low⟩
/-- The mover's block is written. -/
theorem StoAtG.mover (h : StoAtG lv w B b tb g sb dm wm own s) (hm : MovAt w (Foot own tb g sb dm wm) B mb sb n tg) (hg : w.grownBy w' (some mb)) : StoAtG lv w' B b tb g sb dm wm own s := by
  obtain ⟨p, hb, _⟩ := hm.blk
  exact h.nou8 hg hb (mov_nou8 _ _ _ (fun x e => by cases e) (fun x e => by cases e)) hm.1
theorem turn_mb {F F' : Nat → Prop} (ht : Turn w w' F F') : Turn w w' (fun i => F i ∨ i = mb) (fun i => F' i ∨ i = mb) :=
  ⟨ht.os, ht.tape, ht.output, ht.size, fun i hi hn => ht.block i hi (fun e => hn (.inl e)), fun i hi => by
    rcases hi with hi | hi
    · rcases ht.fresh i hi with h1 | h1
      · exact .inl (.inl h1)
      · exact .inr h1
    · exact .inl (.inr hi)⟩
theorem turn_gmb {F : Nat → Prop} (hg : w.grownBy w' (some mb)) : Turn w w' (fun i => F i ∨ i = mb) (fun i => F i ∨ i = mb) := .of_grown hg (fun j e => by cases e; exact .inr rfl)
theorem super_is7 (h : StoAt w B b tb g sb dm wm own s) : Calls Tryz.prog 24 #[.pointer (some ⟨sb, 0, none⟩)] w fun e w' =>
    e = .returned (.agg #[.int .i64 (s.x.gn : Nat), .int .i64 (s.x.ep : Nat), .int .i64 (s.x.pg : Nat), .int .i64 (s.x.st : Nat), .int .i64 (s.x.ln : Nat), .int .i64 (s.x.hd : Nat), .int .i64 (s.x.sq : Nat)]) ∧ w.grownBy w' none := sto_super h
set_option maxRecDepth 100000 in
set_option maxHeartbeats 800000 in
/-- The superblock of a move. -/
theorem rel_moved (x : Sb) (hg : x.gn ≤ 1099511627776) (he : x.ep ≤ 1099511627776) (st ln : Int) (w : World) :
    Calls Tryz.prog 84 #[.agg #[.int .i64 (x.gn : Nat), .int .i64 (x.ep : Nat), .int .i64 (x.pg : Nat), .int .i64 (x.st : Nat), .int .i64 (x.ln : Nat), .int .i64 (x.hd : Nat), .int .i64 (x.sq : Nat)], .int .i64 st, .int .i64 ln] w fun e w' => e = .returned (.agg #[.int .i64 (((x.gn : Nat) : Int) + 1), .int .i64 (((x.ep : Nat) : Int) + 1), .int .i64 (x.pg : Nat), .int .i64 st, .int .i64 ln, .int .i64 0, .int .i64 1]) ∧ w.grownBy w' none := by
  have hw1 : IntKind.i64.wrap (((x.gn : Nat) : Int) + 1) = ((x.gn : Nat) : Int) + 1 := IntWalk.i64_in _ (by omega)
  have hw2 : IntKind.i64.wrap (((x.ep : Nat) : Int) + 1) = ((x.ep : Nat) : Int) + 1 := IntWalk.i64_in _ (by omega)
  have hbn := Blk.new (w.alloc (.cells #[.int .i64 (((x.gn : Nat) : Int) + 1), .int .i64 (((x.ep : Nat) : Int) + 1), .int .i64 (x.pg : Nat), .int .i64 st, .int .i64 ln, .int .i64 0, .int .i64 1] 49)) 49 #[.int .i64 (((x.gn : Nat) : Int) + 1), .int .i64 (((x.ep : Nat) : Int) + 1), .int .i64 (x.pg : Nat), .int .i64 st, .int .i64 ln, .int .i64 0, .int .i64 1]
  rw [show (w.alloc (.cells #[.int .i64 (((x.gn : Nat) : Int) + 1), .int .i64 (((x.ep : Nat) : Int) + 1), .int .i64 (x.pg : Nat), .int .i64 st, .int .i64 ln, .int .i64 0, .int .i64 1] 49)).heap.size = w.heap.size + 1 from by simp] at hbn
  have HBN := Lib.hid hbn
  clear hbn
  go_enter Tryz.func84, Tryz.ntmps84
  go_wp2
  refine ret_row1 rfl (w.heap.size + 1) 49 #[.int .i64 (((x.gn : Nat) : Int) + 1), .int .i64 (((x.ep : Nat) : Int) + 1), .int .i64 (x.pg : Nat), .int .i64 st, .int .i64 ln, .int .i64 0, .int .i64 1] _ rfl HBN.out Tryz.underlying49 rfl (by kernel_rfl) rfl ?_
  exact ⟨rfl, (World.grownBy_alloc w _ none).trans (World.grownBy_alloc _ _ none)⟩
set_option maxRecDepth 100000 in
set_option maxHeartbeats 1600000 in
theorem rel_ask (h : StoAt w B b tb g sb dm wm own s) (hm : MovAt w (Foot own tb g sb dm wm) B mb sb n tg) (st ln : Int) :
    Calls Tryz.prog 35 #[.pointer (some ⟨mb, 0, none⟩), .int .i64 st, .int .i64 ln] w fun e w' => e = .returned (.int .i64 (askE s n tg (st, ln)).1) ∧ StoAt w' B b tb g sb dm wm own s ∧
      MovAt w' (Foot own tb g sb dm wm) B mb sb n (askE s n tg (st, ln)).2 ∧ w.grownBy w' (some mb) := by
  have HB := Lib.hid (rel_busy hm)
  cases tg with
  | some p =>
    have HH := Lib.hid h; have HM := Lib.hid hm
    clear h hm
    go_enter Tryz.func35, Tryz.ntmps35
    go_wp2_with fail
    refine HB.out.mono ?_
    rintro e w1 ⟨rfl, rfl⟩
    simp only [Option.isSome_some]
    go_wp2_with fail
    go_ret
    exact ⟨rfl, HH.out, HM.out, World.grownBy.refl w1 _⟩
  | none =>
    obtain ⟨R, hR⟩ : ∃ r, askE s n none (st, ln) = r := ⟨_, rfl⟩
    rw [hR]
    have HA := Lib.hid (show (if mayB (mvL s (st, ln)) n then ((0 : Int), some (st, ln)) else (1, none)) = R from hR)
    have HC := Lib.hid (show checkE [((s.x.gn : Nat) : Int) + 1, ((s.x.ep : Nat) : Int) + 1, ((s.x.pg : Nat) : Int), st, ln, 0, 1] n = if mayB (mvL s (st, ln)) n then 0 else 1 from rfl)
    clear hR
    have hmay := mayB_ok h.may
    have hgx := (superOk_at hmay 0 (by simp [Sb.l])).2
    have hex := (superOk_at hmay 1 (by simp [Sb.l])).2
    simp [Sb.l] at hgx hex
    have HG0 := Lib.hid (grown_drew w none)
    have HH := Lib.hid (h.quiet HG0.out); have HM := Lib.hid (hm.quiet HG0.out)
    have HSU := Lib.hid (super_is7 HH.out)
    have HMV := Lib.hid (fun wx => rel_moved s.x (by omega) (by omega) st ln wx)
    have HCK := Lib.hid (fun wx => check_any (((s.x.gn : Nat) : Int) + 1) (((s.x.ep : Nat) : Int) + 1) ((s.x.pg : Nat) : Int) st ln 0 1 n wx)
    have HKEEP := Lib.hid (show ∀ wx, w.drew.grownBy wx none → wx.cell? ⟨mb, 0, none⟩ = some (.pointer (some ⟨sb, 0, none⟩)) ∧ wx.cell? ⟨mb, 1, none⟩ = some (.int .i64 n) from fun wx hg => by
      obtain ⟨p, hb, _⟩ := HM.out.blk
      have hb2 := hb.grown hg (by simp)
      exact ⟨by rw [hb2.cell]; rfl, by rw [hb2.cell]; rfl⟩)
    have HR0 := Lib.hid (World.grownBy.refl w.drew none)
    clear h hm hmay hgx hex
    go_enter Tryz.func35, Tryz.ntmps35
    go_wp2_with fail
    refine HB.out.mono ?_
    rintro e w1 ⟨rfl, rfl⟩
    simp only [Option.isSome_none]
    go_wp2_with fail
    go_region_held3 (fun wx => wx.cell? ⟨mb, 0, none⟩ = some (.pointer (some ⟨sb, 0, none⟩)) ∧ wx.cell? ⟨mb, 1, none⟩ = some (.int .i64 n))
      (first
        | exact HKEEP.out _ HR0.out
        | exact HKEEP.out _ HR1.out
        | exact HKEEP.out _ HR2.out
        | exact HKEEP.out _ HR3.out)
      (first
        | (go_at_call 24
           (with_reducible refine HSU.out.mono ?_)
           rintro e w2 ⟨rfl, hg2⟩
           have HR1 := Lib.hid hg2
           clear hg2)
        | (go_at_call 84
           (with_reducible refine (HMV.out _).mono ?_)
           rintro e w3 ⟨rfl, hg3⟩
           have HR2 := Lib.hid (HR1.out.trans hg3)
           clear hg3)
        | (go_at_call 41
           (with_reducible refine (HCK.out _).mono ?_)
           rintro e w4 ⟨rfl, hg4⟩
           have HR3 := Lib.hid (HR2.out.trans hg4)
           clear hg4))
    rw [HC.out]
    clear HC
    cases hmb : mayB (mvL s (st, ln)) n with
    | false =>
      rw [hmb] at HA
      have HA2 := Lib.hid (show (1, none) = R from HA.out)
      simp only [Bool.false_eq_true, if_false]
      go_wp2_with fail
      go_ret
      rw [← HA2.out]
      exact ⟨rfl, HH.out.quiet HR3.out, HM.out.quiet HR3.out, grown_any (HG0.out.trans HR3.out) _⟩
    | true =>
      rw [hmb] at HA
      have HA2 := Lib.hid (show (0, some (st, ln)) = R from HA.out)
      simp only [if_true]
      have hM4 := HM.out.quiet HR3.out
      obtain ⟨hnf, hlo, hb4⟩ := hM4
      have hga := World.grownBy_alloc w4 (.cells #[.int .i64 st, .int .i64 ln] 141) none
      have hb5 := Blk.grown hb4 hga (by simp)
      have c2 := hb5.cell 2; have f2 := hb5.frozen 2
      simp only [List.getElem?_toArray, List.getElem?_cons_zero, List.getElem?_cons_succ] at c2
      have hgs := Lib.grownBy_setB (World.grownBy.refl (w4.alloc (.cells #[.int .i64 st, .int .i64 ln] 141)) (some mb)) 2 (.pointer (some ⟨w4.heap.size, 0, none⟩))
      have hbp := Blk.new w4 141 #[.int .i64 st, .int .i64 ln]
      have hlt : mb < w4.heap.size := Blk.lt hb4
      have hH4 := HH.out.quiet HR3.out
      have hH5 := hH4.quiet hga
      have HE := Lib.hid (show StoAt ((w4.alloc (.cells #[.int .i64 st, .int .i64 ln] 141)).setCell ⟨mb, 2, none⟩ (.pointer (some ⟨w4.heap.size, 0, none⟩))) B b tb g sb dm wm own s ∧
          MovAt ((w4.alloc (.cells #[.int .i64 st, .int .i64 ln] 141)).setCell ⟨mb, 2, none⟩ (.pointer (some ⟨w4.heap.size, 0, none⟩))) (Foot own tb g sb dm wm) B mb sb n (some (st, ln)) ∧
          w1.grownBy ((w4.alloc (.cells #[.int .i64 st, .int .i64 ln] 141)).setCell ⟨mb, 2, none⟩ (.pointer (some ⟨w4.heap.size, 0, none⟩))) (some mb) from
        ⟨hH5.nou8 hgs hb5 (mov_nou8 _ _ _ (fun x e => by cases e) (fun x e => by cases e)) hnf,
          ⟨hnf, hlo, w4.heap.size, hb5.set_ 2 _, hbp.grown hgs (fun e => by cases e; omega), fun e => by have := hH4.foot_lt e; omega, by omega⟩,
          (grown_any ((HG0.out.trans HR3.out).trans hga) (some mb)).trans hgs⟩)
      clear hnf hlo hb4 hga hb5 hgs hbp hlt hH4 hH5
      go_wp2_with fail
      go_ret
      rw [← HA2.out]
      exact ⟨rfl, HE.out.1, HE.out.2.1, HE.out.2.2⟩
theorem sto_dirty_len (h : StoAt w B b tb g sb dm wm own s) : Calls Tryz.prog 22 #[.pointer (some ⟨sb, 0, none⟩)] w fun e w' => (∃ A c, e = .returned (.slice A (keys s.D).length c)) ∧ w.grownBy w' none := by
  have h0 := sto_dirty h
  generalize keys s.D = ks at *
  refine h0.mono ?_
  rintro e w1 ⟨v, rfl, hr, hg⟩
  obtain ⟨A, c, rfl⟩ : ∃ A c, v = .slice A ks.length c := by
    rcases hr.2 with ⟨hv, hz⟩ | ⟨g, cap, cur, hv, _⟩
    · exact ⟨none, 0, by rw [hv, hz]⟩
    · exact ⟨_, _, hv⟩
  exact ⟨⟨A, c, rfl⟩, hg⟩
/-- What Step answers and leaves. -/
def Stepped (w : World) (B b tb g sb dm : Nat) (wm : Option Nat) (own : Nat → Prop) (s : Sto) (mb : Nat) (n : Int) (tg : Option (Int × Int)) (e : Ending) (w' : World) : Prop :=
  ∃ dn er own' g' s' tg', e = .returned (.tuple #[.bool dn, .int .i64 er]) ∧ StepR s tg dn er s' tg' ∧ StoAt w' B b tb g' sb dm wm own' s' ∧ MovAt w' (Foot own' tb g' sb dm wm) B mb sb n tg' ∧
    Turn w w' (fun i => Foot own tb g sb dm wm i ∨ i = mb) (fun i => Foot own' tb g' sb dm wm i ∨ i = mb)
set_option maxRecDepth 100000 in
set_option maxHeartbeats 3200000 in
theorem rel_step (h : StoAt w B b tb g sb dm wm own s) (hm : MovAt w (Foot own tb g sb dm wm) B mb sb n tg) (hroom : ∀ i, (s.S.ver i).length < 549755700000) :
    Calls Tryz.prog 36 #[.pointer (some ⟨mb, 0, none⟩)] w (Stepped w B b tb g sb dm wm own s mb n tg) := by
  have HB := Lib.hid (rel_busy hm)
  unfold Stepped
  cases tg with
  | none =>
    have HH := Lib.hid h; have HM := Lib.hid hm
    clear h hm hroom
    go_enter Tryz.func36, Tryz.ntmps36
    go_wp2_with fail
    refine HB.out.mono ?_
    rintro e w1 ⟨rfl, rfl⟩
    simp only [Option.isSome_none]
    go_wp2_with fail
    go_ret2
    exact ⟨false, 18, own, g, s, none, rfl, .idle, HH.out, HM.out, Turn.none_ (World.grownBy.refl w1 none)⟩
  | some q =>
    obtain ⟨a, c⟩ := q
    have HD := Lib.hid (sto_dirty_len h)
    have HH := Lib.hid h; have HM := Lib.hid hm; have HROOM := Lib.hid hroom
    have HC0 := Lib.hid (show ∀ wx, w.grownBy wx none → wx.cell? ⟨mb, 0, none⟩ = some (.pointer (some ⟨sb, 0, none⟩)) from fun wx hg => by
      obtain ⟨p, hb, _⟩ := HM.out.blk
      rw [(hb.grown hg (by simp)).cell]; rfl)
    have HKN := Lib.hid (show (keys s.D).length = 0 ↔ keys s.D = [] from List.length_eq_zero_iff)
    have c0 := HC0.out w (World.grownBy.refl w none)
    clear h hm hroom
    generalize hK : (keys s.D).length = K at *
    go_enter Tryz.func36, Tryz.ntmps36
    go_wp2_with fail
    refine HB.out.mono ?_
    rintro e w1 ⟨rfl, rfl⟩
    simp only [Option.isSome_some]
    go_wp2_with fail
    refine HD.out.mono ?_
    rintro e w2 ⟨⟨Ad, cd, rfl⟩, hg2⟩
    have HG2 := Lib.hid hg2
    have HH2 := Lib.hid (HH.out.quiet hg2); have HM2 := Lib.hid (HM.out.quiet hg2)
    clear hg2 HD HB c0
    by_cases hk0 : K = 0
    · have hki : ¬ ((0 : Int) < (K : Int)) := by omega
      have HKE := Lib.hid (HKN.out.1 hk0)
      have HG3 := Lib.hid (grown_drew w2 none)
      have HH3 := Lib.hid (HH2.out.quiet HG3.out); have HM3 := Lib.hid (HM2.out.quiet HG3.out)
      obtain ⟨hnf3, hlo3, gq, hb3, hp3, hnp3, hne3⟩ := HM3.out
      have HC3 := Lib.hid (show ∀ wx, w2.drew.grownBy wx none → wx.cell? ⟨mb, 0, none⟩ = some (.pointer (some ⟨sb, 0, none⟩)) ∧ wx.cell? ⟨mb, 2, none⟩ = some (.pointer (some ⟨gq, 0, none⟩)) ∧ wx.cell? ⟨gq, 0, none⟩ = some (.int .i64 a) ∧ wx.cell? ⟨gq, 1, none⟩ = some (.int .i64 c) from fun wx hg => by
        have hb4 := hb3.grown hg (by simp)
        have hp4 := hp3.grown hg (by simp)
        exact ⟨by rw [hb4.cell]; rfl, by rw [hb4.cell]; rfl, by rw [hp4.cell]; rfl, by rw [hp4.cell]; rfl⟩)
      have HKF := Lib.hid (show ∀ (wx : World) (P' : Nat → Prop), Turn w2.drew wx (Foot own tb g sb dm wm) P' → wx.cell? ⟨mb, 0, none⟩ = some (.pointer (some ⟨sb, 0, none⟩)) ∧ wx.cell? ⟨mb, 2, none⟩ = some (.pointer (some ⟨gq, 0, none⟩)) ∧ wx.cell? ⟨gq, 0, none⟩ = some (.int .i64 a) ∧ wx.cell? ⟨gq, 1, none⟩ = some (.int .i64 c) from fun wx P' ht => by
        have hb4 := blk_of_block hb3 (ht.block mb hb3.lt hnf3)
        have hp4 := blk_of_block hp3 (ht.block gq hp3.lt hnp3)
        exact ⟨by rw [hb4.cell]; rfl, by rw [hb4.cell]; rfl, by rw [hp4.cell]; rfl, by rw [hp4.cell]; rfl⟩)
      have HM3' := Lib.hid (show MovAt w2.drew (Foot own tb g sb dm wm) B mb sb n (some (a, c)) from ⟨hnf3, hlo3, gq, hb3, hp3, hnp3, hne3⟩)
      have HT3 := Lib.hid (Turn.none_ (own := fun i => Foot own tb g sb dm wm i ∨ i = mb) (HG2.out.trans HG3.out))
      clear hnf3 hlo3 hb3 hp3 hnp3 hne3 HM3 HM2 HH2
      by_cases hW : s.W.isSome = true
      · have HSW := Lib.hid (sto_switch_busy HH3.out a c (.inl hW))
        have HWW := Lib.hid hW
        clear hW
        go_wp2_with fail
        go_region_held3 (fun wx => wx.cell? ⟨mb, 0, none⟩ = some (.pointer (some ⟨sb, 0, none⟩)) ∧ wx.cell? ⟨mb, 2, none⟩ = some (.pointer (some ⟨gq, 0, none⟩)) ∧ wx.cell? ⟨gq, 0, none⟩ = some (.int .i64 a) ∧ wx.cell? ⟨gq, 1, none⟩ = some (.int .i64 c))
          (first
            | exact HC3.out _ (World.grownBy.refl _ _))
          (first
            | (go_at_call 26
               (with_reducible refine HSW.out.mono ?_)
               rintro e w4 ⟨rfl, rfl⟩))
        go_wp2_with fail
        go_ret2
        exact ⟨false, 17, own, g, s, some (a, c), rfl, .busy _ HKE.out HWW.out, HH3.out, HM3'.out, HT3.out⟩
      · rw [Bool.not_eq_true] at hW
        have HWN := Lib.hid (show s.W = none from by cases hx : s.W with | none => rfl | some U => rw [hx] at hW; cases hW)
        have hsw := sto_switch HH3.out a c hW HKE.out (fun i => by have := HROOM.out i; omega)
        unfold Restarted at hsw
        obtain ⟨R0, hR0⟩ : ∃ r, saveE s.S (mvL s (a, c)) = r := ⟨_, rfl⟩
        have HR0 := Lib.hid hR0
        unfold mvL at hR0
        rw [hR0] at hsw
        obtain ⟨er, T⟩ := R0
        dsimp only at hsw
        have HSW := Lib.hid hsw
        clear hW hsw hR0
        go_wp2_with fail
        go_region_held3 (fun wx => wx.cell? ⟨mb, 0, none⟩ = some (.pointer (some ⟨sb, 0, none⟩)) ∧ wx.cell? ⟨mb, 2, none⟩ = some (.pointer (some ⟨gq, 0, none⟩)) ∧ wx.cell? ⟨gq, 0, none⟩ = some (.int .i64 a) ∧ wx.cell? ⟨gq, 1, none⟩ = some (.int .i64 c))
          (first
            | exact HC3.out _ (World.grownBy.refl _ _)
            | exact HK4.out)
          (first
            | (go_at_call 26
               (with_reducible refine HSW.out.mono ?_)
               rintro e w4 ⟨rfl, own4, g4, ht4, h4⟩
               have HT4 := Lib.hid ht4
               have H4 := Lib.hid h4
               have HM4 := Lib.hid (HM3'.out.turn ht4)
               have HK4 := Lib.hid (HKF.out _ _ ht4)
               clear ht4 h4))
        have HT5 := Lib.hid (HT3.out.trans (turn_mb HT4.out))
        rcases H4.out with ⟨he, x', hx', h5⟩ | ⟨he, hgg, h5⟩
        · have heb : (er == 0) = true := by rw [he]; rfl
          have HX := Lib.hid hx'
          have HS5 := Lib.hid h5
          have HCN := Lib.hid (rel_cancel HM4.out)
          have HE := Lib.hid he
          subst he
          clear hx' h5 H4
          go_wp2_with fail
          refine HCN.out.mono ?_
          rintro e w5 ⟨rfl, hm5, hg5⟩
          have HS6 := Lib.hid (HS5.out.mover HM4.out hg5)
          have HM6 := Lib.hid hm5
          have HT6 := Lib.hid (HT5.out.trans (turn_gmb hg5))
          clear hm5 hg5 HCN
          go_wp2_with fail
          go_ret2
          have hR : (saveE s.S (mvL s (a, c))).2 = T := by rw [HR0.out]
          have hS := StepR.done (a, c) x' HKE.out HWN.out (by rw [HR0.out]) HX.out
          rw [hR] at hS
          exact ⟨true, 0, own4, g4, _, none, rfl, hS, HS6.out, HM6.out, HT6.out⟩
        · have heb : (er == 0) = false := by simpa using he
          have HE := Lib.hid he
          have HS5 := Lib.hid h5
          have HGG := Lib.hid hgg
          clear hgg
          have hR1 : (saveE s.S (mvL s (a, c))).1 = er := by rw [HR0.out]
          have hR : (saveE s.S (mvL s (a, c))).2 = T := by rw [HR0.out]
          have hS := StepR.fail (a, c) HKE.out HWN.out (by rw [hR1]; exact HE.out)
          rw [hR, hR1] at hS
          have HSF := Lib.hid hS
          clear he h5 H4 hK hk0 hki HKN HC0 hR hR1 hS HKE HR0 HWN
          go_wp2_with fail
          go_ret2
          exact ⟨false, er, own4, g4, _, some (a, c), rfl, HSF.out, HGG.out ▸ HS5.out, HM4.out, HT5.out⟩
    · have hki : (0 : Int) < (K : Int) := by omega
      have HKE := Lib.hid (show keys s.D ≠ [] from fun e => hk0 (HKN.out.2 e))
      have hcp := sto_checkpoint HH2.out HROOM.out
      unfold Stood at hcp
      obtain ⟨R0, hR0⟩ : ∃ r, checkpointE s = r := ⟨_, rfl⟩
      have HS := Lib.hid (StepR.ckpt (a, c) HKE.out)
      rw [hR0] at hcp HS
      clear hR0
      obtain ⟨er, s3⟩ := R0
      dsimp only at hcp HS
      have HCP := Lib.hid hcp
      clear hcp
      have c0 := HC0.out w2 HG2.out
      go_wp2_with fail
      refine HCP.out.mono ?_
      rintro e w3 ⟨rfl, own3, h3, ht3⟩
      have HH3 := Lib.hid h3
      have HT3 := Lib.hid ((Turn.none_ (own := fun i => Foot own tb g sb dm wm i ∨ i = mb) HG2.out).trans (turn_mb ht3))
      have HM3 := Lib.hid (HM2.out.turn ht3)
      clear h3 ht3 HCP c0
      go_wp2_with fail
      go_ret2
      exact ⟨false, er, own3, g, s3, some (a, c), rfl, HS.out, HH3.out, HM3.out, HT3.out⟩
end
end Go.Proofs.YteaokeiolgjhaaaGreat.Sto
/- A move of a log as a law uses it: on a disk that does not fail. -/
namespace Go.Proofs.YteaokeiolgjhaaaGreat.Sto
open Go.RowKit Go.Maps Go.Shelf CrcMath CodecMath Mem Crc Codec DiskSpec Dsk Sup Log

theorem commit_dirty {s s' : Sto} {U : Pgs} (hW : s.W = some U) (hk : keys U ≠ []) (e : commitE s = (0, s')) : keys s'.D ≠ [] := by
  unfold commitE at e
  rw [hW] at e
  simp only at e
  rw [if_neg hk] at e
  generalize appendWE s (rising U) = r at e
  unfold doneE at e
  by_cases h0 : r.1 = 0
  · rw [if_pos h0] at e
    have e2 := (Prod.mk.inj e).2
    rw [← e2]
    exact over_keys hk
  · rw [if_neg h0] at e
    exact absurd (Prod.mk.inj e).1 h0
/-- Where a log may be moved to. -/
structure MayGo (N pg : Nat) (q : Int × Int) (st ln : Nat) : Prop where
  e1 : q.1 = (st : Int)
  e2 : q.2 = (ln : Int)
  k1 : 2 + pg ≤ st
  k2 : 64 ≤ ln
  k3 : st + ln ≤ N
theorem may_mv {s : Sto} {q : Int × Int} {N : Nat} (h : mayB (mvL s q) (N : Int) = true) : ∃ st ln, MayGo N s.x.pg q st ln := by
  obtain ⟨a, c⟩ := q
  have ho := mayB_ok h
  have k3 := (superOk_at ho 3 (by simp [mvL])).1; have k4 := (superOk_at ho 4 (by simp [mvL])).1
  simp [mvL] at k3 k4
  obtain ⟨st, rfl⟩ : ∃ st : Nat, a = (st : Int) := ⟨a.toNat, by omega⟩
  obtain ⟨ln, rfl⟩ : ∃ ln : Nat, c = (ln : Int) := ⟨c.toNat, by omega⟩
  have e : mvL s ((st : Int), (ln : Int)) = (s.x.moved st ln).l := moved_l s.x st ln
  rw [e] at h
  have hf := may_facts h
  exact ⟨st, ln, rfl, rfl, hf.2.2.1, hf.2.2.2.1, hf.2.2.2.2.1⟩
theorem mv_l (s : Sto) {q : Int × Int} {st ln N pg : Nat} (h : MayGo N pg q st ln) : mvL s q = (s.x.moved st ln).l := by
  obtain ⟨a, c⟩ := q
  have e1 := h.e1; have e2 := h.e2
  simp only at e1 e2
  subst e1 e2
  exact moved_l s.x st ln
section
variable {W w w' : World} {N pg b tb g sb dm mb : Nat} {wm : Option Nat} {own own' : Nat → Prop} {s s' : Sto} {C : Pgs} {o : Option Pgs} {n : Int} {tg : Option (Int × Int)}
theorem use_commit_d {U : Pgs} (h : Use W w N pg b tb g sb dm wm own s C (some U)) (hk : keys U ≠ []) (hgn : s.x.gn < 1099511627776) (he : s.x.ep ≤ 4294967295) (hs : s.L.seq ≤ 1099511627775) (hv : ∀ i, (s.S.ver i).length < 549755600000) :
    Calls Tryz.prog 18 #[.pointer (some ⟨sb, 0, none⟩)] w fun e w' => e = .returned (.int .i64 0) ∧ ∃ own' s', Use W w' N pg b tb g sb dm none own' s' (over C U) none ∧ Near s s' ∧
      Turn w w' (Foot own tb g sb dm wm) (Foot own' tb g sb dm none) ∧ keys s'.D ≠ [] := by
  obtain ⟨ls, sure, hg⟩ := h.gd
  obtain ⟨s', ls', sure', e1, hg', hC', hW', hn⟩ := hg.commit h.w h.sees hgn he hs
  have h1 := sto_commit h.at_ hv
  have hkd := commit_dirty h.w hk e1
  rw [e1] at h1
  refine h1.mono ?_
  rintro e w1 ⟨rfl, own', h2, ht⟩
  exact ⟨rfl, own', s', ⟨h2, h.out ht, ⟨ls', sure', hg'⟩, hW', hC'⟩, hn, ht, hkd⟩
/-- A page that there is not. -/
theorem use_write_bad {U : Pgs} (h : Use W w N pg b tb g sb dm wm own s C (some U)) {p : Int} (hp : (decide (0 ≤ p) && decide (p < (pg : Int))) = false) {v : Value} {q : Pg} (hv : PgV w (Foot own tb g sb dm wm) v q) :
    Calls Tryz.prog 15 #[.pointer (some ⟨sb, 0, none⟩), .int .i64 p, v] w fun e w' => e = .returned (.int .i64 2) ∧ ∃ own', Use W w' N pg b tb g sb dm wm own' s C (some U) ∧ Turn w w' (Foot own tb g sb dm wm) (Foot own' tb g sb dm wm) := by
  have hh : s.has p = false := by
    unfold Sto.has
    rw [h.pg_]
    exact hp
  have hb : writePE s p q = (2, s) := by
    have hw := h.w
    unfold writePE
    rw [hw]
    simp only
    rw [if_pos hh]
  have h1 := sto_write_small h.at_ p hv (.inr hh)
  rw [hb] at h1
  refine h1.mono ?_
  rintro e w1 ⟨rfl, own', h2, ht⟩
  exact ⟨rfl, own', ⟨h2, h.out ht, h.gd, h.w, h.sees⟩, ht⟩
theorem use_out_mb (h : Use W w N pg b tb g sb dm wm own s C o) (hlo : W.heap.size ≤ mb) {P' : Nat → Prop} (ht : Turn w w' (fun i => Foot own tb g sb dm wm i ∨ i = mb) P') : W.grownBy w' none :=
  grown_foot h.gr ht (fun i hi => by
    rcases hi with hi | hi
    · exact h.at_.foot_low hi
    · rw [hi]; exact hlo)
theorem use_ask (h : Use W w N pg b tb g sb dm wm own s C o) (hm : MovAt w (Foot own tb g sb dm wm) W.heap.size mb sb (N : Int) tg) (a c : Int) :
    Calls Tryz.prog 35 #[.pointer (some ⟨mb, 0, none⟩), .int .i64 a, .int .i64 c] w fun e w' => Use W w' N pg b tb g sb dm wm own s C o ∧ w.grownBy w' (some mb) ∧
      ((e = .returned (.int .i64 0) ∧ tg = none ∧ MovAt w' (Foot own tb g sb dm wm) W.heap.size mb sb (N : Int) (some (a, c)) ∧ ∃ st ln, MayGo N pg (a, c) st ln) ∨
        (∃ z : Int, z ≠ 0 ∧ e = .returned (.int .i64 z) ∧ MovAt w' (Foot own tb g sb dm wm) W.heap.size mb sb (N : Int) tg)) := by
  refine (rel_ask h.at_ hm a c).mono ?_
  rintro e w1 ⟨rfl, h1, hm1, hg⟩
  have hu : Use W w1 N pg b tb g sb dm wm own s C o := ⟨h1, use_out_mb h hm.2.1 (turn_gmb hg), h.gd, h.w, h.sees⟩
  refine ⟨hu, hg, ?_⟩
  cases tg with
  | some p => exact .inr ⟨17, by decide, rfl, hm1⟩
  | none =>
    have hA : askE s (N : Int) none (a, c) = if mayB (mvL s (a, c)) (N : Int) then (0, some (a, c)) else (1, none) := rfl
    cases hmb : mayB (mvL s (a, c)) (N : Int) with
    | true =>
      rw [hmb] at hA
      rw [hA] at hm1 ⊢
      have hf := may_mv hmb
      rw [h.pg_] at hf
      exact .inl ⟨rfl, rfl, hm1, hf⟩
    | false =>
      rw [hmb] at hA
      rw [hA] at hm1 ⊢
      exact .inr ⟨1, by decide, rfl, hm1⟩
/-- What a step on a disk that does not fail is. -/
inductive Went (s s' : Sto) : Option (Int × Int) → Bool → Int → Option (Int × Int) → Prop
  | idle : s' = s → Went s s' none false 18 none
  | home (q : Int × Int) : keys s.D ≠ [] → keys s'.D = [] → s'.x.st = s.x.st ∧ s'.x.ln = s.x.ln → Went s s' (some q) false 0 (some q)
  | done (q : Int × Int) : keys s.D = [] → (s'.x.st : Int) = q.1 ∧ (s'.x.ln : Int) = q.2 → Went s s' (some q) true 0 none
/-- How far it may have gone. -/
structure Far7 (s s' : Sto) : Prop where
  gn : s'.x.gn ≤ s.x.gn + 1
  ep : s'.x.ep ≤ s.x.ep + 1
  sq : s'.L.seq ≤ s.L.seq + 1
  ver : ∀ i, (s'.S.ver i).length ≤ (s.S.ver i).length + 1
  one : 1 ≤ s'.L.seq
theorem use_step (h : Use W w N pg b tb g sb dm none own s C none) (hm : MovAt w (Foot own tb g sb dm none) W.heap.size mb sb n tg) (hq : ∀ q, tg = some q → ∃ st ln, MayGo N pg q st ln)
    (hgn : s.x.gn < 1099511627776) (hep : s.x.ep < 1099511627776) (hsq : 1 ≤ s.L.seq ∧ s.L.seq ≤ 1099511627776) (hv : ∀ i, (s.S.ver i).length < 549755600000) :
    Calls Tryz.prog 36 #[.pointer (some ⟨mb, 0, none⟩)] w fun e w' => ∃ dn er own' g' s' tg', e = .returned (.tuple #[.bool dn, .int .i64 er]) ∧ Use W w' N pg b tb g' sb dm none own' s' C none ∧
      MovAt w' (Foot own' tb g' sb dm none) W.heap.size mb sb n tg' ∧ Turn w w' (fun i => Foot own tb g sb dm none i ∨ i = mb) (fun i => Foot own' tb g' sb dm none i ∨ i = mb) ∧ Far7 s s' ∧ Went s s' tg dn er tg' := by
  have hc := rel_step h.at_ hm (fun i => by have := hv i; omega)
  unfold Stepped at hc
  refine hc.mono ?_
  rintro e w1 ⟨dn, er, own1, g1, s1, tg1, rfl, hR, h1, hm1, ht⟩
  have hout := use_out_mb h hm.2.1 ht
  obtain ⟨ls, sure, hg⟩ := h.gd
  refine ⟨dn, er, own1, g1, s1, tg1, rfl, ?_⟩
  cases hR with
  | idle => exact ⟨⟨h1, hout, ⟨ls, sure, hg⟩, h.w, h.sees⟩, hm1, ht, ⟨Nat.le_succ _, Nat.le_succ _, Nat.le_succ _, fun _ => Nat.le_succ _, hsq.1⟩, .idle rfl⟩
  | ckpt q hk =>
    obtain ⟨s', ls', sure', e1, hg', hC', hW', hn, hkd, hx, hsame⟩ := hg.checkpoint h.w h.sees hgn hsq.2
    rw [e1] at h1 ⊢
    exact ⟨⟨h1, hout, ⟨ls', sure', hg'⟩, hW', hC'⟩, hm1, ht, ⟨hn.gn.2, by rw [hn.ep]; exact Nat.le_succ _, hn.seq.2, hn.ver, by have := hn.seq.1; show 1 ≤ s'.L.seq; omega⟩, .home q hk hkd hn.pl⟩
  | busy q hk hW => rw [h.w] at hW; cases hW
  | fail q hk hW hne =>
    obtain ⟨st, ln, hf⟩ := hq q rfl
    obtain ⟨T, e1, hg1, hs1, hv1⟩ := hg.switch hk hf.k1 hf.k2 hf.k3 hgn hep h.sees
    rw [mv_l s hf, e1] at hne
    exact absurd rfl hne
  | done q x' hk hW he hx =>
    obtain ⟨st, ln, hf⟩ := hq q rfl
    obtain ⟨T, e1, hg1, hs1, hv1⟩ := hg.switch hk hf.k1 hf.k2 hf.k3 hgn hep h.sees
    rw [mv_l s hf] at hx
    have hxx := Sb.l_inj hx
    subst hxx
    rw [mv_l s hf, e1] at h1 ⊢
    exact ⟨⟨h1, hout, ⟨[], 0, hg1⟩, h.w, hs1⟩, hm1, ht, ⟨Nat.le_refl _, Nat.le_refl _, by show 1 ≤ _; omega, fun i => by show (T.ver i).length ≤ _; rw [hv1]; exact Nat.le_succ _, Nat.le_refl _⟩, .done q hk ⟨hf.e1.symm, hf.e2.symm⟩⟩
end
end Go.Proofs.YteaokeiolgjhaaaGreat.Sto
/- The laws' own small functions: a page that has one byte throughout; a disk that is formatted and opened; a log that moves in two steps. -/
namespace Go.Proofs.YteaokeiolgjhaaaGreat.Sto
open Go.RowKit Go.Maps Go.Shelf CrcMath CodecMath Mem Crc Codec DiskSpec Dsk Sup Log

set_option maxRecDepth 100000 in
set_option maxHeartbeats 1600000 in
theorem page7_call (f : Int) (w : World) :
    Calls Tryz.prog 38 #[.int .i64 f] w fun e w' =>
      ∃ g, e = .returned (.agg #[.int .i64 5, .slice (some ⟨g, 0, none⟩) 240 240]) ∧ w.heap.size ≤ g ∧ Blk w' g 5 (u8s (bodyOne f)).toArray ∧ w.grownBy w' none := by
  have hfb : f % 256 = ((fillB f 0 : Nat) : Int) := by unfold fillB; omega
  have hmk := make_body
  rw [body_cells (fillB f 0)] at hmk
  have hb2 := Blk.new w 40 #[.int .i64 0, .slice none 0 0]
  have hg2 := World.grownBy_alloc w (.cells #[.int .i64 0, .slice none 0 0] 40) none
  have hs2 : (w.alloc (.cells #[.int .i64 0, .slice none 0 0] 40)).heap.size = w.heap.size + 1 := by simp
  have HB2 := Lib.hid hb2
  have HG := Lib.hid hg2
  clear hb2 hg2
  go_enter Tryz.func38, Tryz.ntmps38
  go_wp2
  generalize w.alloc (.cells #[.int .i64 0, .slice none 0 0] 40) = w2 at *
  have hb3 := Blk.new w2 5 (u8s (fillTo (fillB f 0) 0)).toArray
  rw [hs2] at hb3
  have HB3 := Lib.hid hb3
  have HG3 := Lib.hid (World.grownBy_alloc w2 (.cells (u8s (fillTo (fillB f 0) 0)).toArray 5) none)
  have HS2 := Lib.hid hs2
  clear hb3 hs2
  go_loopw [4] (fun i wr => ∃ j : Nat, j ≤ 240 ∧ i = .int .i64 j ∧ w2.grownBy wr none ∧ Blk wr (w.heap.size + 1) 5 (u8s (fillTo (fillB f 0) j)).toArray) (fun i _ => 240 - (Go.RowKit.intOf i).toNat)
  case atStart => exact ⟨0, by omega, rfl, HG3.out, HB3.out⟩
  case round =>
    clear HB3 HG3 hmk
    obtain ⟨j, hj, rfl, hgr, hbr⟩ := hrel
    have hx2 := HB2.out.grown hgr (by simp)
    have HGR := Lib.hid hgr; have HBR := Lib.hid hbr; have HX2 := Lib.hid hx2
    by_cases hlt : j < 240
    · have hjn : (j : Int) < 240 := by omega
      have hc := hbr.cell j
      rw [fillTo_at _ hlt] at hc
      have hf := hbr.frozen j
      have HB4 := Lib.hid (show Blk (wr.setCell ⟨w.heap.size + 1, j, none⟩ (.int .u8 ((fillB f 0 : Nat) : Int))) (w.heap.size + 1) 5 (u8s (fillTo (fillB f 0) (j + 1))).toArray from by
        rw [← fillTo_step _ hlt]
        exact hbr.set_ j _)
      have HG4 := Lib.hid (hgr.andThen (Lib.grownBy_setB (World.grownBy.refl wr (some (w.heap.size + 1))) j (.int .u8 ((fillB f 0 : Nat) : Int))) (fun q hq => .inl (by have := HS2.out; cases hq; omega)))
      clear hgr hbr hx2
      go_wp2
      go_roundw
      case rel => exact ⟨j + 1, by omega, by first | rfl | simp, HG4.out, HB4.out⟩
      case measure => simp [Go.RowKit.intOf]; omega
    · have hje : j = 240 := by omega
      have hjn : ¬ ((j : Int) < 240) := by omega
      have HBF := Lib.hid (show Blk wr (w.heap.size + 1) 5 (u8s (bodyOne f)).toArray from by rw [← fillTo_all, ← hje]; exact hbr)
      have r0 := hx2.cell 0; have r1 := hx2.cell 1; have f0 := hx2.frozen 0; have f1 := hx2.frozen 1
      simp only [List.getElem?_toArray, List.getElem?_cons_zero, List.getElem?_cons_succ] at r0 r1
      have HBX := Lib.hid (show Blk ((wr.setCell ⟨w.heap.size, 0, none⟩ (.int .i64 5)).setCell ⟨w.heap.size, 1, none⟩ (.slice (some ⟨w.heap.size + 1, 0, none⟩) 240 240)) w.heap.size 40 #[.int .i64 5, .slice (some ⟨w.heap.size + 1, 0, none⟩) 240 240] from (hx2.set_ 0 (.int .i64 5)).set_ 1 (.slice (some ⟨w.heap.size + 1, 0, none⟩) 240 240))
      have hgs := Lib.grownBy_setB (Lib.grownBy_setB (World.grownBy.refl wr (some w.heap.size)) 0 (.int .i64 5)) 1 (.slice (some ⟨w.heap.size + 1, 0, none⟩) 240 240)
      have HBY := Lib.hid (HBF.out.grown hgs (by simp))
      have HGS := Lib.hid ((HG.out.trans hgr).andThen hgs (fun q hq => .inl (by cases hq; omega)))
      clear hgr hbr hx2 hgs
      go_wp2
      refine ret_row1 rfl w.heap.size 40 #[.int .i64 5, .slice (some ⟨w.heap.size + 1, 0, none⟩) 240 240] _ rfl HBX.out Tryz.underlying40 rfl (by kernel_rfl) rfl ?_
      exact ⟨_, rfl, by omega, HBY.out, HGS.out⟩
theorem rel_may : mayB (fmtSb 1 16 18 64).l ((400 : Nat) : Int) = true := may_mk (x := fmtSb 1 16 18 64) (by decide) (by decide) (by decide) (by decide) (by decide) (by decide) (by decide)
set_option maxRecDepth 100000 in
set_option maxHeartbeats 1600000 in
theorem formatted_call (W : World) : Calls Tryz.prog 27 #[] W fun e w' => ∃ b tb g sb dm own s, e = .returned (.tuple #[.pointer (some ⟨b, 0, none⟩), .pointer (some ⟨sb, 0, none⟩)]) ∧ Began W w' 400 16 b tb g sb dm own s noPgs (fmtSb 2 16 18 64) := by
  have HN := Lib.hid (show Calls Tryz.prog 10 #[.int .i64 400] W fun e w' => ∃ b bd bm f own, e = .returned (.tuple #[.pointer (some ⟨b, 0, none⟩), .int .i64 0]) ∧ Lay w' W.heap.size b bd bm f (St.new 400) own ∧ W.grownBy w' none from disk_new 400 _ (by omega) (by omega))
  go_enter Tryz.func27, Tryz.ntmps27
  go_wp2_with fail
  refine HN.out.mono ?_
  rintro e w1 ⟨b, bd, bm, f, own, rfl, hl, hg1⟩
  have hf : Calls Tryz.prog 11 #[.pointer (some ⟨b, 0, none⟩), .int .i64 16, .int .i64 18, .int .i64 64] w1 fun e w' => e = .returned (.int .i64 0) ∧ ∃ own' dF, Fmt W w' 400 16 18 64 b own' dF :=
    use_format (W := W) (pg := 16) (st := 18) (ln := 64) (N := 400) ⟨bd, bm, f, hl⟩ hg1 (by omega) rel_may
  have HF := Lib.hid hf
  clear hl hg1 hf HN
  go_wp2_with fail
  refine HF.out.mono ?_
  rintro e w2 ⟨rfl, own2, dF, hfm⟩
  have HO := Lib.hid (use_open_fmt hfm (by omega))
  clear hfm HF
  go_wp2_with fail
  refine HO.out.mono ?_
  rintro e w3 ⟨tb, g, sb, dm, own3, s3, rfl, hb3⟩
  have HB3 := Lib.hid hb3
  clear hb3 HO
  go_wp2_with fail
  go_ret2
  exact ⟨b, tb, g, sb, dm, own3, s3, rfl, HB3.out⟩
/-- What a law has of a page that it made. -/
theorem page7_val {w : World} {g : Nat} {f : Int} (hb : Blk w g 5 (u8s (bodyOne f)).toArray) {F : Nat → Prop} (hn : ¬ F g) : PgV w F (.agg #[.int .i64 5, .slice (some ⟨g, 0, none⟩) 240 240]) ((5 : Int), bodyOne f) := by
  have hd := data_of_blk (own := F) hb (bodyOne_lt f) hn
  rw [bodyOne_len] at hd
  exact ⟨_, rfl, _, _, _, rfl, Nat.le_refl _, hd⟩
set_option maxRecDepth 100000 in
set_option maxHeartbeats 6400000 in
theorem known7_call (w : World) : Calls Tryz.prog 29 #[] w fun e w' => e = .returned (.bool true) ∧ w.grownBy w' none := by
  have HFM := Lib.hid (formatted_call w)
  go_enter Tryz.func29, Tryz.ntmps29
  go_wp2_with fail
  refine HFM.out.mono ?_
  rintro e w1 ⟨b, tb, g, sb, dm, own, s, rfl, hb1⟩
  have HB1 := Lib.hid hb1
  have HNN := Lib.hid (rel_new_nil w1 400)
  clear hb1 HFM
  go_wp2_with fail
  refine HNN.out.mono ?_
  rintro e w2 ⟨rfl, rfl⟩
  have HNW := Lib.hid (rel_new_at HB1.out.u 400)
  clear HNN
  go_wp2_with fail
  refine HNW.out.mono ?_
  rintro e w2 ⟨mb, rfl, hu2, hm2, hg2⟩
  have HU2 := Lib.hid hu2; have HM2 := Lib.hid hm2
  have HBG := Lib.hid (use_begin hu2)
  have HXX := Lib.hid HB1.out.xs
  have HLL := Lib.hid HB1.out.ls
  have HVV := Lib.hid HB1.out.ver
  clear hu2 hm2 hg2 HNW HB1
  go_wp2_with fail
  refine HBG.out.mono ?_
  rintro e w3 ⟨rfl, wm3, hu3, ht3⟩
  have HU3 := Lib.hid hu3
  have HM3 := Lib.hid (HM2.out.turn ht3)
  have HPC := Lib.hid (page7_call 7 w3)
  clear hu3 ht3 HBG HU2 HM2
  go_wp2_with fail
  refine HPC.out.mono ?_
  rintro e w4 ⟨gp, rfl, hgp, hbp, hg4⟩
  have HU4 := Lib.hid (HU3.out.quiet hg4)
  have HM4 := Lib.hid (HM3.out.quiet hg4)
  have hval := page7_val (F := Foot own tb g sb dm wm3) hbp (fun e => by have := HU3.out.foot_lt e; omega)
  have hlen0 : (keys noPgs).length < 40 := by rw [(keys_nil PgsOk.none_).2 rfl]; simp
  have HWR := Lib.hid (show Calls Tryz.prog 15 #[.pointer (some ⟨sb, 0, none⟩), .int .i64 3, .agg #[.int .i64 5, .slice (some ⟨gp, 0, none⟩) 240 240]] w4 _ from use_write HU4.out (k := 3) (by omega) hval (one_ok 3 (by omega) 7) hlen0)
  clear hgp hbp hg4 hval hlen0 HPC HU3 HM3
  go_wp2_with fail
  refine HWR.out.mono ?_
  rintro e w5 ⟨rfl, own5, hu5, ht5⟩
  have HU5 := Lib.hid hu5
  have HM5 := Lib.hid (HM4.out.turn ht5)
  clear hu5 ht5 HWR HU4 HM4
  have hkn : keys (upd noPgs 3 (some ((5 : Int), bodyOne 7))) ≠ [] := fun e => by
    have : 3 ∈ keys (upd noPgs 3 (some ((5 : Int), bodyOne 7))) := mem_keys.2 ⟨by omega, by rw [upd_same]; rfl⟩
    rw [e] at this; cases this
  have HCM := Lib.hid (use_commit_d HU5.out hkn (by show s.x.gn < _; rw [HXX.out]; show 2 + 1 < _; omega) (by show s.x.ep ≤ _; rw [HXX.out]; show 1 + 1 ≤ _; omega) (by show s.L.seq ≤ _; rw [HLL.out]; show 1 ≤ _; omega) (fun i => by show (s.S.ver i).length < _; rw [HVV.out i]; simp))
  clear hkn
  go_wp2_with fail
  refine HCM.out.mono ?_
  rintro e w6 ⟨rfl, own6, s6, hu6, hn6, ht6, hk6⟩
  have HU6 := Lib.hid hu6
  have HM6 := Lib.hid (HM5.out.turn ht6)
  have HK6 := Lib.hid hk6
  have HXN := Lib.hid (show s6.x.gn ≤ 4 ∧ s6.x.ep ≤ 2 ∧ (1 ≤ s6.L.seq ∧ s6.L.seq ≤ 2) ∧ ∀ i, (s6.S.ver i).length ≤ 1 from by
    have h1 := hn6.gn.2; have h2 := hn6.ep; have h5 := hn6.seq
    have h3 : s6.x.gn ≤ s.x.gn + 1 := h1
    have h4 : s6.x.ep = s.x.ep := h2
    have h6 : s.L.seq ≤ s6.L.seq ∧ s6.L.seq ≤ s.L.seq + 1 := h5
    rw [HXX.out] at h3 h4
    rw [HLL.out] at h6
    have h7 : (fmtSb 2 16 18 64).next.gn = 3 := rfl
    have h8 : (fmtSb 2 16 18 64).next.ep = 2 := rfl
    have h9 : (fmtSb 2 16 18 64).next.log.seq = 1 := rfl
    refine ⟨by omega, by omega, by omega, fun i => ?_⟩
    have h10 : (s6.S.ver i).length ≤ (s.S.ver i).length + 1 := hn6.ver i
    rw [HVV.out i] at h10
    simpa using h10)
  clear hu6 hn6 ht6 hk6 HCM HU5 HM5 HXX HLL HVV
  have HAS := Lib.hid (show Calls Tryz.prog 35 #[.pointer (some ⟨mb, 0, none⟩), .int .i64 100, .int .i64 70] w6 _ from use_ask (N := 400) HU6.out HM6.out 100 70)
  have hmay : mayB (mvL s6 ((100 : Int), (70 : Int))) ((400 : Nat) : Int) = true := by
    have h1 := HXN.out
    have e : mvL s6 (((100 : Nat) : Int), ((70 : Nat) : Int)) = (s6.x.moved 100 70).l := moved_l s6.x 100 70
    have hpg := HU6.out.pg_
    show mayB (mvL s6 (((100 : Nat) : Int), ((70 : Nat) : Int))) ((400 : Nat) : Int) = true
    rw [e]
    exact may_mk (x := s6.x.moved 100 70) (show 16 ≤ s6.x.pg ∧ s6.x.pg ≤ 1024 by omega) (show 2 + s6.x.pg ≤ 100 by omega) (show 64 ≤ 70 by omega) (show 100 + 70 ≤ 400 by omega) (show 0 < 70 by omega) ⟨show s6.x.gn + 1 ≤ _ by omega, show s6.x.ep + 1 ≤ _ by omega, show 1 ≤ 1099511627776 by omega⟩ (by omega)
  have HAK := Lib.hid (rel_ask HU6.out.at_ HM6.out 100 70)
  have hae : askE s6 ((400 : Nat) : Int) none (100, 70) = (0, some (100, 70)) := by
    show (if mayB (mvL s6 ((100 : Int), (70 : Int))) ((400 : Nat) : Int) then ((0 : Int), some ((100 : Int), (70 : Int))) else (1, none)) = _
    rw [hmay]; rfl
  have hak := HAK.out
  rw [show (400 : Int) = ((400 : Nat) : Int) from rfl, hae] at hak
  have HAQ := Lib.hid hak
  clear hmay hae hak HAK HAS
  go_wp2_with fail
  refine HAQ.out.mono ?_
  rintro e w7 ⟨rfl, h7, hm7, hg7⟩
  have HU7 := Lib.hid (show Use w w7 400 16 b tb g sb dm none own6 s6 _ none from ⟨h7, use_out_mb HU6.out HM6.out.2.1 (turn_gmb hg7), HU6.out.gd, HU6.out.w, HU6.out.sees⟩)
  have HM7 := Lib.hid hm7
  clear h7 hm7 hg7 HAQ HU6 HM6
  have hgo : ∀ q : Int × Int, some ((100 : Int), (70 : Int)) = some q → ∃ st ln, MayGo 400 16 q st ln := fun q e => by
    cases e
    exact ⟨100, 70, rfl, rfl, by omega, by omega, by omega⟩
  have HS1 := Lib.hid (use_step HU7.out HM7.out hgo (by have := HXN.out; omega) (by have := HXN.out; omega) (by have := HXN.out; omega) (fun i => by have := HXN.out.2.2.2 i; omega))
  go_wp2_with fail
  refine HS1.out.mono ?_
  rintro e w8 ⟨dn, er, own8, g8, s8, tg8, rfl, hu8, hm8, ht8, hf8, hw8⟩
  have hw8' : dn = false ∧ er = 0 ∧ tg8 = some (100, 70) ∧ keys s8.D = [] := by
    cases hw8 with
    | home q h1 h2 h3 => exact ⟨rfl, rfl, rfl, h2⟩
    | done q h1 h2 => exact absurd h1 HK6.out
  obtain ⟨rfl, rfl, rfl, hk8⟩ := hw8'
  have HU8 := Lib.hid hu8; have HM8 := Lib.hid hm8; have HK8 := Lib.hid hk8
  have HX8 := Lib.hid (show s8.x.gn ≤ 5 ∧ s8.x.ep ≤ 3 ∧ s8.L.seq ≤ 3 ∧ ∀ i, (s8.S.ver i).length ≤ 2 from by
    have h1 := HXN.out
    have h2 := hf8.gn; have h3 := hf8.ep; have h4 := hf8.sq
    refine ⟨by omega, by omega, by omega, fun i => ?_⟩
    have := hf8.ver i; have := h1.2.2.2 i
    omega)
  have HQ8 := Lib.hid hf8.one
  clear hu8 hm8 ht8 hf8 hw8 hk8 HS1 HU7 HM7
  have HS2 := Lib.hid (use_step HU8.out HM8.out hgo (by have := HX8.out; omega) (by have := HX8.out; omega) ⟨HQ8.out, by have := HX8.out; omega⟩ (fun i => by have := HX8.out.2.2.2 i; omega))
  clear hgo
  go_wp2_with fail
  refine HS2.out.mono ?_
  rintro e w9 ⟨dn, er, own9, g9, s9, tg9, rfl, hu9, hm9, ht9, hf9, hw9⟩
  have hw9' : dn = true ∧ er = 0 ∧ tg9 = none ∧ (s9.x.st : Int) = 100 ∧ (s9.x.ln : Int) = 70 := by
    cases hw9 with
    | home q h1 h2 h3 => exact absurd HK8.out h1
    | done q h1 h2 => exact ⟨rfl, rfl, rfl, h2.1, h2.2⟩
  obtain ⟨rfl, rfl, rfl, hst9, hln9⟩ := hw9'
  have hb3 : (((s9.x.st : Nat) : Int) == 100) = true := by rw [hst9]; rfl
  have hb4 : (((s9.x.ln : Nat) : Int) == 70) = true := by rw [hln9]; rfl
  clear hst9 hln9
  have HU9 := Lib.hid hu9; have HM9 := Lib.hid hm9
  have HSU := Lib.hid (super_is7 HU9.out.at_)
  clear hu9 hm9 ht9 hf9 hw9 HS2 HU8 HM8
  go_wp2_with fail
  refine HSU.out.mono ?_
  rintro e w10 ⟨rfl, hg10⟩
  have hga := World.grownBy_alloc w10 (.cells #[.int .i64 (s9.x.gn : Nat), .int .i64 (s9.x.ep : Nat), .int .i64 (s9.x.pg : Nat), .int .i64 (s9.x.st : Nat), .int .i64 (s9.x.ln : Nat), .int .i64 (s9.x.hd : Nat), .int .i64 (s9.x.sq : Nat)] 49) none
  have HM10 := Lib.hid ((HM9.out.quiet hg10).quiet hga)
  have HG10 := Lib.hid ((HU9.out.gr.trans hg10).trans hga)
  have HBS := Lib.hid (rel_busy HM10.out)
  have hbx := Blk.new w10 49 #[.int .i64 (s9.x.gn : Nat), .int .i64 (s9.x.ep : Nat), .int .i64 (s9.x.pg : Nat), .int .i64 (s9.x.st : Nat), .int .i64 (s9.x.ln : Nat), .int .i64 (s9.x.hd : Nat), .int .i64 (s9.x.sq : Nat)]
  have x3 := hbx.cell 3; have x4 := hbx.cell 4
  simp only [List.getElem?_toArray, List.getElem?_cons_zero, List.getElem?_cons_succ] at x3 x4
  clear hg10 hga hbx HSU HU9 HM9
  go_wp2_with fail
  refine HBS.out.mono ?_
  rintro e w11 ⟨rfl, rfl⟩
  go_wp2_with fail
  go_ret
  exact ⟨by simp, HG10.out⟩
end Go.Proofs.YteaokeiolgjhaaaGreat.Sto
/- Rows of the relog's laws beside a store and a mover. -/
namespace Go.Proofs.YteaokeiolgjhaaaGreat.Sto
open Go.RowKit Go.Maps Go.Shelf CrcMath CodecMath Mem Crc Codec DiskSpec Dsk Sup Log

/-- A block of a law's own. -/
structure Kb (w : World) (F : Nat → Prop) (q : Nat) (t : TypeId) (cs : Array Value) : Prop where
  b : Blk w q t cs
  n : ¬ F q
/-- All that may turn beside a mover. -/
abbrev FM (own : Nat → Prop) (tb g sb dm : Nat) (wm : Option Nat) (mb : Nat) : Nat → Prop := fun i => Foot own tb g sb dm wm i ∨ i = mb
section
variable {w w' : World} {F F' : Nat → Prop} {q p B mb sb : Nat} {n : Int} {t t' : TypeId} {cs cs' : Array Value} {tg : Option (Int × Int)}
theorem Kb.turn (h : Kb w F q t cs) (ht : Turn w w' F F') : Kb w' F' q t cs := ⟨blk_of_block h.b (ht.block q h.b.lt h.n), turn_out ht h.b.lt h.n⟩
theorem Kb.quiet (h : Kb w F q t cs) (hg : w.grownBy w' none) : Kb w' F q t cs := h.turn (Turn.none_ hg)
theorem Kb.far (h : Kb w F q t cs) (hg : w.grownBy w' (some p)) (hne : q ≠ p) : Kb w' F q t cs := ⟨h.b.grown hg (fun e => hne (by cases e; rfl)), h.n⟩
theorem Kb.set (h : Kb w F q t cs) (i : Nat) (u : Value) : Kb (w.setCell ⟨q, i, none⟩ u) F q t (cs.setIfInBounds i u) := ⟨h.b.set_ i u, h.n⟩
theorem Kb.weak (h : Kb w F q t cs) (hq : ∀ i, F' i → F i) : Kb w F' q t cs := ⟨h.b, fun e => h.n (hq _ e)⟩
theorem blk_ne (h : Blk w q t cs) (h2 : Blk w p t' cs') (ht : t ≠ t') : q ≠ p := fun e => by
  subst e
  unfold Blk at h h2
  rw [h] at h2
  simp only [Option.some.injEq, Obj.cells.injEq] at h2
  exact ht h2.2.1
/-- A block of another kind is written. -/
theorem MovAt.far (h : MovAt w F B mb sb n tg) (hb : Blk w q t cs) (hg : w.grownBy w' (some q)) (h1 : t ≠ 138) (h2 : t ≠ 141) : MovAt w' F B mb sb n tg := by
  obtain ⟨k1, k0, k2⟩ := h
  cases tg with
  | none => exact ⟨k1, k0, Blk.grown k2 hg (fun e => blk_ne hb k2 h1 (by cases e; rfl))⟩
  | some p =>
    obtain ⟨g, h3, h4, h5, h6⟩ := k2
    exact ⟨k1, k0, g, h3.grown hg (fun e => blk_ne hb h3 h1 (by cases e; rfl)), h4.grown hg (fun e => blk_ne hb h4 h2 (by cases e; rfl)), h5, h6⟩
theorem MovAt.lt (h : MovAt w F B mb sb n tg) : mb < w.heap.size := by
  obtain ⟨p, hb, _⟩ := h.blk
  exact hb.lt
end
/-- What the law's row has for a page. -/
def flV (o : Option Pg) : Int := match o with | none => -1 | some q => ((q.2.getD 0 0 : Nat) : Int)
def flC (C : Pgs) : Array Value := ((List.range 16).map fun k => Value.int .i64 (flV (C k))).toArray
theorem flC_at (C : Pgs) {k : Nat} (hk : k < 16) : (flC C)[k]? = some (.int .i64 (flV (C k))) := by
  unfold flC
  rw [List.getElem?_toArray, List.getElem?_map, List.getElem?_range hk]
  rfl
theorem flC_size (C : Pgs) : (flC C).size = 16 := by simp [flC]
theorem flC_nou8 (C : Pgs) : NoU8 (flC C) := fun i x h => by
  have h2 := (Array.getElem?_eq_some_iff.1 h).1
  rw [flC_size] at h2
  rw [flC_at C h2] at h
  cases h
theorem flC_set (C : Pgs) {k : Nat} (q : Pg) : (flC C).setIfInBounds k (.int .i64 (flV (some q))) = flC (upd C k (some q)) := by
  apply Array.ext_getElem?
  intro i
  rw [Array.getElem?_setIfInBounds]
  by_cases hi : i < 16
  · rw [flC_at _ hi]
    by_cases e : k = i
    · subst e
      rw [if_pos rfl, if_pos (by rw [flC_size]; exact hi), flC_at _ hi, upd_same]
    · rw [if_neg e, flC_at _ hi, upd_ne _ _ (fun e2 => e e2.symm)]
  · have h1 : (flC C)[i]? = none := Array.getElem?_eq_none (by rw [flC_size]; omega)
    have h2 : (flC (upd C k (some q)))[i]? = none := Array.getElem?_eq_none (by rw [flC_size]; omega)
    rw [h1, h2]
    split
    · rw [if_neg (by rw [flC_size]; omega)]
    · rfl
theorem flV_one (f : Int) : flV (some ((5 : Int), bodyOne f)) = ((fillB f 0 : Nat) : Int) := by
  unfold flV bodyOne
  generalize fillB f 0 = c
  rw [show (List.replicate 240 c) = c :: List.replicate 239 c from List.replicate_succ (n := 239)]
  rfl
/-- The row as far as it was filled. -/
def fl0 (j : Nat) : Array Value := (List.replicate j (Value.int .i64 (-1)) ++ List.replicate (16 - j) (Value.int .i64 0)).toArray
theorem fl0_at {j : Nat} (hj : j < 16) : (fl0 j)[j]? = some (.int .i64 0) := by
  have e : 16 - j = (16 - (j + 1)) + 1 := by omega
  unfold fl0
  rw [List.getElem?_toArray, List.getElem?_append_right (by simp), List.length_replicate, Nat.sub_self, e, List.replicate_succ]
  rfl
theorem fl0_step {j : Nat} (hj : j < 16) : (fl0 j).setIfInBounds j (.int .i64 (-1)) = fl0 (j + 1) := by
  apply Array.ext'
  rw [Array.toList_setIfInBounds]
  have e : 16 - j = (16 - (j + 1)) + 1 := by omega
  unfold fl0
  show (List.replicate j _ ++ List.replicate (16 - j) _).set j _ = _
  rw [List.set_append_right _ _ (by simp), List.length_replicate, Nat.sub_self, e, List.replicate_succ (n := 16 - (j + 1)), List.set_cons_zero]
  show _ = List.replicate (j + 1) _ ++ _
  rw [List.replicate_succ' (n := j), List.append_assoc]
  rfl
theorem fl0_all : fl0 16 = flC noPgs := by rfl
theorem zero16 (w : World) : (zeroValue 80).run Tryz.prog w = .ok (.agg (fl0 0)) w := by kernel_rfl
end Go.Proofs.YteaokeiolgjhaaaGreat.Sto
/- A step of a move on a disk that may be cut, and what is there behind a crash. -/
namespace Go.Proofs.YteaokeiolgjhaaaGreat.Sto
open Go.RowKit Go.Maps Go.Shelf CrcMath CodecMath Mem Crc Codec DiskSpec Dsk Sup Log

/-- How far a step may have gone. -/
structure Far8 (s s' : Sto) : Prop where
  gn : s'.x.gn ≤ s.x.gn + 1
  ep : s'.x.ep ≤ s.x.ep + 1
  sq : s'.L.seq ≤ s.L.seq + 1
  ver : ∀ i, (s'.S.ver i).length ≤ (s.S.ver i).length + 1025
theorem Far8.refl (s : Sto) : Far8 s s := ⟨Nat.le_succ _, Nat.le_succ _, Nat.le_succ _, fun _ => Nat.le_add_right _ _⟩
theorem held_step {N pg : Nat} {s s' : Sto} {ls : List (List Img)} {C : Pgs} {tg tg' : Option (Int × Int)} {dn : Bool} {er : Int} (h : Held N pg s ls C) (hR : StepR s tg dn er s' tg') (hq : ∀ q, tg = some q → ∃ st ln, MayGo N pg q st ln)
    (hgn : s.x.gn < 1099511627776) (hep : s.x.ep < 1099511627776) (hsq : s.L.seq ≤ 1099511627776) :
    ∃ ls', Held N pg s' ls' C ∧ Far8 s s' ∧ ((s'.x.st = s.x.st ∧ s'.x.ln = s.x.ln) ∨ ∃ q, tg = some q ∧ (s'.x.st : Int) = q.1 ∧ (s'.x.ln : Int) = q.2) ∧ (∀ q, tg' = some q → tg = some q) := by
  cases hR with
  | idle => exact ⟨ls, h, .refl s, .inl ⟨rfl, rfl⟩, fun q e => e⟩
  | ckpt q hk =>
    have hE : checkpointE s = ckptE s := by
      unfold checkpointE
      rw [h.w]
      exact if_neg (by simp)
    obtain ⟨ls', h1, h2⟩ := h.ckpt hgn hsq
    have hv := fun i => ckptE_ver6 (s := s) h.g.dok i
    rw [hE]
    exact ⟨ls', h1, ⟨h2.gn.2, by rw [h2.ep]; exact Nat.le_succ _, by rw [h2.seq]; exact Nat.le_succ _, hv⟩, .inl h2.pl, fun q e => e⟩
  | busy q hk hW => rw [h.w] at hW; cases hW
  | fail q hk hW hne =>
    obtain ⟨st, ln, hf⟩ := hq q rfl
    have hm := mv_l s hf
    rcases h.switch hk hf.k1 hf.k2 hf.k3 hgn hep with ⟨T, e1, _⟩ | e1
    · rw [hm, e1] at hne
      exact absurd rfl hne
    · rw [hm, e1]
      exact ⟨ls, h, .refl s, .inl ⟨rfl, rfl⟩, fun q e => e⟩
  | done q x' hk hW he hx =>
    obtain ⟨st, ln, hf⟩ := hq q rfl
    have hm := mv_l s hf
    rw [hm] at hx
    have hxx := Sb.l_inj hx
    subst hxx
    have hv := fun i => saveE_ver6 s.S (s.x.moved st ln) i
    rcases h.switch hk hf.k1 hf.k2 hf.k3 hgn hep with ⟨T, e1, h1⟩ | e1
    · rw [hm, e1]
      rw [e1] at hv
      exact ⟨[], h1, ⟨Nat.le_refl _, Nat.le_refl _, by show 1 ≤ _; omega, fun i => by have := hv i; show (T.ver i).length ≤ _; have h9 : (T.ver i).length ≤ (s.S.ver i).length + 1 := this; omega⟩, .inr ⟨q, rfl, hf.e1.symm, hf.e2.symm⟩, fun q e => by cases e⟩
    · rw [hm, e1] at he
      exact absurd (show (11 : Int) = 0 from he) (by decide)
section
variable {W w w' : World} {b tb g sb dm : Nat} {wm : Option Nat} {own : Nat → Prop} {s : Sto} {N pg : Nat} {ls : List (List Img)} {C : Pgs}
theorem held_crash (h : StoAt w W.heap.size b tb g sb dm wm own s) (hg : W.grownBy w none) (hh : Held N pg s ls C) (A : Option Addr) (n cc : Nat) (picks : List Int) (hp : Picks w own A n picks) (hnm : n ≤ 9223372036854775807) (hroom : ∀ i, (s.S.ver i).length < 549755813888) :
    Calls Tryz.prog 23 #[.pointer (some ⟨b, 0, none⟩), .slice A n cc] w fun e w' => e = .returned (.tuple #[]) ∧ Turn w w' own own ∧ ∃ dur ls' M, Fell W w' N pg b own dur s.x ls' M ∧
      Sees pg ⟨plain N dur, M, s.x, latestOf (recsOf (s.x.sq : Int) ls'), none⟩ C := by
  have hok := h.l.s.ok
  have hlow : ∀ i, own i → W.heap.size ≤ i := fun i hi => h.foot_low (.inl (.inl (.inl hi)))
  refine (disk_crash_all h.l.s.d A n cc picks hp hnm hroom).mono ?_
  rintro e w1 ⟨rfl, hd, ht⟩
  obtain ⟨dur, ls', M, e1, h1, h2, h3, h4, h5⟩ := hh.crash hok picks
  rw [e1] at hd
  exact ⟨rfl, ht, dur, ls', M, ⟨hd, grown_foot hg ht hlow, h1, h2, hh.g.pgs, hh.g.top, h4, h3⟩, h5⟩
end
/-- Which pages there are, as a law has them. -/
def laC (C : Pgs) : Array Value := ((List.range 16).map fun k => Value.bool (C k).isSome).toArray
theorem laC_at (C : Pgs) {k : Nat} (hk : k < 16) : (laC C)[k]? = some (.bool (C k).isSome) := by
  unfold laC
  rw [List.getElem?_toArray, List.getElem?_map, List.getElem?_range hk]
  rfl
theorem laC_size (C : Pgs) : (laC C).size = 16 := by simp [laC]
theorem laC_nou8 (C : Pgs) : NoU8 (laC C) := fun i x h => by
  have h2 := (Array.getElem?_eq_some_iff.1 h).1
  rw [laC_size] at h2
  rw [laC_at C h2] at h
  cases h
theorem laC_set (C : Pgs) {k : Nat} (q : Pg) : (laC C).setIfInBounds k (.bool true) = laC (upd C k (some q)) := by
  apply Array.ext_getElem?
  intro i
  rw [Array.getElem?_setIfInBounds]
  by_cases hi : i < 16
  · rw [laC_at _ hi]
    by_cases e : k = i
    · subst e
      rw [if_pos rfl, if_pos (by rw [laC_size]; exact hi), laC_at _ hi, upd_same]; rfl
    · rw [if_neg e, laC_at _ hi, upd_ne _ _ (fun e2 => e e2.symm)]
  · have h1 : (laC C)[i]? = none := Array.getElem?_eq_none (by rw [laC_size]; omega)
    have h2 : (laC (upd C k (some q)))[i]? = none := Array.getElem?_eq_none (by rw [laC_size]; omega)
    rw [h1, h2]
    split
    · rw [if_neg (by rw [laC_size]; omega)]
    · rfl
theorem zero16b (w : World) : (zeroValue 85).run Tryz.prog w = .ok (.agg (laC noPgs)) w := by kernel_rfl
end Go.Proofs.YteaokeiolgjhaaaGreat.Sto
