/- Texts of this seat's proofs: StoBools, StoFar, StoMine, StoreOwnsWalk. -/
import Derived.Test.YteaokeiolgjhaaaGreatPStoUse
import Derived.Test.YteaokeiolgjhaaaGreatPLogIn
import Derived.Deep.DeepCutAuto
import Derived.Deep.RegionHeld3
/- A law's own row of bools beside a store. -/
namespace Go.Proofs.YteaokeiolgjhaaaGreat.Sto
open Go.RowKit Go.Maps Go.Shelf CrcMath CodecMath Mem Crc Codec DiskSpec Dsk Sup Log

/-- Cells that are bools. -/
def Bools (cs : Array Value) : Prop := ∀ (i : Nat) (v : Value), cs[i]? = some v → ∃ b, v = .bool b
section
variable {lv : Value} {w w' : World} {P : Nat → Prop} {q : Nat} {t : TypeId} {cs : Array Value}
theorem data_bools {A : Option Addr} {n : Nat} {l : List Nat} (h : Dsk.Data w P A n l) (hg : w.grownBy w' (some q)) (hb : Blk w q t cs) (hc : Bools cs) : Dsk.Data w' P A n l := by
  refine ⟨h.1, h.2.1, fun hn => ?_⟩
  obtain ⟨g, o, e, hlt, hno, hcell⟩ := h.2.2 hn
  have hne : g ≠ q := fun e2 => by
    subst e2
    have h1 := hcell 0 hn
    rw [Blk.cell hb] at h1
    obtain ⟨b, h2⟩ := hc _ _ h1
    cases h2
  refine ⟨g, o, e, Nat.lt_of_lt_of_le hlt hg.size, hno, fun j hj => ?_⟩
  rw [World.cell?_of_block (a := ⟨g, o + j, none⟩) (hg.block g hlt (fun e2 => hne (by cases e2; rfl)))]
  exact hcell j hj
theorem pmap_bools {bm : Nat} {D : Pgs} (h : PMap w P bm D) (hg : w.grownBy w' (some q)) (hb : Blk w q t cs) (hc : Bools cs) (hne : bm ≠ q) : PMap w' P bm D := by
  obtain ⟨f, h1, h2⟩ := h.m
  refine ⟨⟨f, h1.of_block (hg.block bm h1.lt (fun e => hne (by cases e; rfl))), fun k => ?_⟩, h.ok⟩
  rcases h2 k with a | ⟨p, v, a, b, bv, e, A, n, c, e2, hnc, hd⟩
  · exact .inl a
  · exact .inr ⟨p, v, a, b, bv, e, A, n, c, e2, hnc, data_bools hd hg hb hc⟩
variable {B b tb g sb dm : Nat} {wm : Option Nat} {own : Nat → Prop} {s : Sto}
theorem StoAtG.bools (h : StoAtG lv w B b tb g sb dm wm own s) (hg : w.grownBy w' (some q)) (hb : Blk w q t cs) (hc : Bools cs) (hq : ¬ Foot own tb g sb dm wm q) : StoAtG lv w' B b tb g sb dm wm own s where
  l := h.l.far hg (fun j e ho => hq (.inl (by cases e; exact ho)))
  r := h.r.keep hg (fun e => hq (.inl (.inl (.inr (by cases e; rfl)))))
  c := h.c.grown hg (fun e => hq (.inr (.inl (by cases e; rfl))))
  d := pmap_bools h.d hg hb hc (fun e => hq (.inr (.inr (.inl e.symm))))
  u := fun U hU => by
    obtain ⟨m, e, hm⟩ := h.u U hU
    exact ⟨m, e, pmap_bools hm hg hb hc (fun e2 => hq (.inr (.inr (.inr (by rw [e, e2])))))⟩
  n := h.n
  may := h.may
  osb := h.osb
  odm := h.odm
  owm := h.owm
  low := h.low
end
/-- Which pages there are. -/
def wrC (C : Pgs) : Array Value := ((List.range 20).map fun k => Value.bool (C k).isSome).toArray
theorem wrC_bools (C : Pgs) : Bools (wrC C) := fun i v h => by
  unfold wrC at h
  rw [List.getElem?_toArray, List.getElem?_map] at h
  cases hr : (List.range 20)[i]? with
  | none => rw [hr] at h; cases h
  | some k => rw [hr] at h; cases h; exact ⟨_, rfl⟩
theorem wrC_at (C : Pgs) {k : Nat} (hk : k < 20) : (wrC C)[k]? = some (.bool (C k).isSome) := by
  unfold wrC
  rw [List.getElem?_toArray, List.getElem?_map, List.getElem?_range hk]
  rfl
theorem wrC_size (C : Pgs) : (wrC C).size = 20 := by simp [wrC]
theorem wrC_set (C : Pgs) {k : Nat} (q : Pg) : (wrC C).setIfInBounds k (.bool true) = wrC (upd C k (some q)) := by
  apply Array.ext_getElem?
  intro i
  rw [Array.getElem?_setIfInBounds]
  by_cases hi : i < 20
  · rw [wrC_at _ hi]
    by_cases e : k = i
    · subst e
      rw [if_pos rfl, if_pos (by rw [wrC_size]; exact hi), wrC_at _ hi, upd_same]; rfl
    · rw [if_neg e, wrC_at _ hi, upd_ne _ _ (fun e2 => e e2.symm)]
  · have h1 : (wrC C)[i]? = none := Array.getElem?_eq_none (by rw [wrC_size]; omega)
    have h2 : (wrC (upd C k (some q)))[i]? = none := Array.getElem?_eq_none (by rw [wrC_size]; omega)
    rw [h1, h2]
    split
    · rename_i e
      rw [if_neg (by rw [wrC_size]; omega)]
    · rfl
theorem over_one (C : Pgs) (k : Nat) (q : Pg) : over C (upd noPgs k (some q)) = upd C k (some q) := by
  funext j
  unfold over
  by_cases e : j = k
  · subst e; rw [upd_same, upd_same]
  · rw [upd_ne _ _ e, upd_ne _ _ e]; rfl
end Go.Proofs.YteaokeiolgjhaaaGreat.Sto
/- A law's own row beside a store: it may be written over. Calls of a store, told for rows beside it. -/
namespace Go.Proofs.YteaokeiolgjhaaaGreat.Sto
open Go.RowKit Go.Maps Go.Shelf CrcMath CodecMath Mem Crc Codec DiskSpec Dsk Sup Log

section
variable {W w w' : World} {N pg b tb g sb dm : Nat} {wm : Option Nat} {own own' : Nat → Prop} {s s' : Sto} {C : Pgs} {o : Option Pgs} {q : Nat}
theorem use_begin_g (h : Use W w N pg b tb g sb dm wm own s C none) : Calls Tryz.prog 14 #[.pointer (some ⟨sb, 0, none⟩)] w fun e w' =>
    e = .returned (.int .i64 0) ∧ ∃ wm', Use W w' N pg b tb g sb dm wm' own { s with W := some noPgs } C (some noPgs) ∧ Turn w w' (Foot own tb g sb dm wm) (Foot own tb g sb dm wm') ∧ w.grownBy w' (some sb) := by
  have hb : beginE s = (0, { s with W := some noPgs }) := by
    unfold beginE
    rw [h.w]
    rfl
  have h1 := sto_begin_g h.at_
  rw [hb] at h1
  refine h1.mono ?_
  rintro e w1 ⟨rfl, wm', h2, ht, hgb⟩
  obtain ⟨ls, sure, hg⟩ := h.gd
  exact ⟨rfl, wm', ⟨h2, h.out ht, ⟨ls, sure, hg.begun (UOk.none_ pg)⟩, rfl, h.sees⟩, ht, hgb⟩
theorem use_write_g {U : Pgs} (h : Use W w N pg b tb g sb dm wm own s C (some U)) {k : Nat} (hk : k < pg) {v : Value} {q : Pg} (hv : PgV w (Foot own tb g sb dm wm) v q) (hq : pageOk (k : Int) q.1 q.2 = true) (hl : (keys U).length < 40) :
    Calls Tryz.prog 15 #[.pointer (some ⟨sb, 0, none⟩), .int .i64 (k : Nat), v] w fun e w' => e = .returned (.int .i64 0) ∧ ∃ m, wm = some m ∧ Use W w' N pg b tb g sb dm (some m) own { s with W := some (upd U k (some q)) } C (some (upd U k (some q))) ∧
      w.grownBy w' (some m) ∧ ∀ Q : Nat → Prop, (∀ i, Q i → i < w.heap.size) → Q m → PMap w Q m U → PMap w' Q m (upd U k (some q)) := by
  have hb : writePE s (k : Int) q = (0, { s with W := some (upd U k (some q)) }) := by
    have hw := h.w
    unfold writePE
    rw [hw]
    simp only
    rw [if_neg (by rw [h.has_ hk]; simp), if_neg (by rw [hq]; simp), if_neg (by omega), show (k : Int).toNat = k by omega]
  have h1 := sto_write_g h.at_ (k : Int) hv h.w (h.has_ hk)
  rw [hb] at h1
  refine h1.mono ?_
  rintro e w1 ⟨m, rfl, rfl, h2, hgb, hQ⟩
  obtain ⟨ls, sure, hg⟩ := h.gd
  have ht : Turn w w1 (Foot own tb g sb dm (some m)) (Foot own tb g sb dm (some m)) := .of_grown hgb (fun j e => by cases e; exact .inr (.inr (.inr rfl)))
  exact ⟨rfl, m, rfl, ⟨h2, h.out ht, ⟨ls, sure, hg.begun ((hg.w U h.w).put hk hq hl)⟩, rfl, h.sees⟩, hgb, fun Q h1 h2 h3 => hQ Q h1 h2 h3 _ rfl⟩
theorem use_read_g (h : Use W w N pg b tb g sb dm wm own s C o) {k : Nat} (hk : k < pg) :
    Calls Tryz.prog 19 #[.pointer (some ⟨sb, 0, none⟩), .int .i64 (k : Nat)] w fun e w' => ∃ v, e = .returned (.tuple #[v, .int .i64 0]) ∧ PgV w' (fun i => i < w.heap.size) v ((seen C o k).getD (0, [])) ∧
      Use W w' N pg b tb g sb dm wm own s C o ∧ Turn w w' own own := by
  obtain ⟨ls, sure, hg⟩ := h.gd
  have e1 := hg.read h.sees k hk
  rw [h.w] at e1
  have h1 := sto_read_g h.at_ (k : Int) (h.has_ hk)
  rw [e1] at h1
  refine h1.mono ?_
  rintro e w1 ⟨v, rfl, hv, h2, ht⟩
  exact ⟨v, rfl, hv, ⟨h2, h.out (turnD ht), ⟨ls, sure, hg⟩, h.w, h.sees⟩, ht⟩
/-- A store, and a row of the law's own that is no page's body. -/
structure Far (W w : World) (N pg b tb g sb dm : Nat) (wm : Option Nat) (own : Nat → Prop) (s : Sto) (C : Pgs) (o : Option Pgs) (q : Nat) : Prop where
  u : Use W w N pg b tb g sb dm wm own s C o
  d : PMap w (fun i => Foot own tb g sb dm wm i ∨ i = q) dm s.D
  m : ∀ U m, s.W = some U → wm = some m → PMap w (fun i => Foot own tb g sb dm wm i ∨ i = q) m U
  nq : ¬ Foot own tb g sb dm wm q
  lo : W.heap.size ≤ q
theorem Far.step (h : Far W w N pg b tb g sb dm wm own s C o q) (hg : w.grownBy w' (some q)) : Far W w' N pg b tb g sb dm wm own s C o q := by
  have ht : Turn w w' (fun i => Foot own tb g sb dm wm i ∨ i = q) (fun i => Foot own tb g sb dm wm i ∨ i = q) := .of_grown hg (fun j e => by cases e; exact .inr rfl)
  have hnd : dm ≠ q := fun e => h.nq (.inr (.inr (.inl e.symm)))
  have hd := h.d.turn ht (hg.block dm h.d.lt (fun e => hnd (by cases e; rfl)))
  have hm : ∀ U m, s.W = some U → wm = some m → PMap w' (fun i => Foot own tb g sb dm wm i ∨ i = q) m U := fun U m hU hm => by
    have h1 := h.m U m hU hm
    exact h1.turn ht (hg.block m h1.lt (fun e => h.nq (.inr (.inr (.inr (by rw [hm]; cases e; rfl))))))
  have ha := h.u.at_
  refine ⟨⟨⟨ha.l.far hg (fun j e ho => h.nq (.inl (by cases e; exact ho))), ha.r.keep hg (fun e => h.nq (.inl (.inl (.inr (by cases e; rfl))))), ha.c.grown hg (fun e => h.nq (.inr (.inl (by cases e; rfl)))), hd.weak (fun i _ hi => .inl hi), fun U hU => ?_, ha.n, ha.may, ha.osb, ha.odm, ha.owm, ha.low⟩,
    h.u.gr.andThen hg (fun j hj => .inl (by cases hj; exact h.lo)), h.u.gd, h.u.w, h.u.sees⟩, hd, hm, h.nq, h.lo⟩
  obtain ⟨m, e, _⟩ := ha.u U hU
  exact ⟨m, e, (hm U m hU e).weak (fun i _ hi => .inl hi)⟩
theorem Far.quiet (h : Far W w N pg b tb g sb dm wm own s C o q) (hg : w.grownBy w' none) : Far W w' N pg b tb g sb dm wm own s C o q := h.step (grown_any hg _)
/-- A row that is newer than all that the store has. -/
theorem Use.far (h : Use W w N pg b tb g sb dm wm own s C o) (hg : w.grownBy w' none) (hq : w.heap.size ≤ q) : Far W w' N pg b tb g sb dm wm own s C o q := by
  have hw : ∀ i, i < w.heap.size → (Foot own tb g sb dm wm i ∨ i = q) → Foot own tb g sb dm wm i := fun i hi he => by
    rcases he with he | he
    · exact he
    · omega
  refine ⟨h.quiet hg, (h.at_.d.weak hw).turn (Turn.none_ hg) (hg.block dm h.at_.d.lt (by simp)), fun U m hU hm => ?_, fun e => by have := h.foot_lt e; omega, Nat.le_trans h.gr.size hq⟩
  obtain ⟨m', e, hm'⟩ := h.at_.u U hU
  rw [hm] at e
  cases e
  exact (hm'.weak hw).turn (Turn.none_ hg) (hg.block m hm'.lt (by simp))
theorem Far.read (h : Use W w N pg b tb g sb dm wm own s C o) (h2 : Use W w' N pg b tb g sb dm wm own s C o) (ht : Turn w w' own own) (hq : w.heap.size ≤ q) : Far W w' N pg b tb g sb dm wm own s C o q := by
  have hw : ∀ i, i < w.heap.size → (Foot own tb g sb dm wm i ∨ i = q) → Foot own tb g sb dm wm i := fun i hi he => by
    rcases he with he | he
    · exact he
    · omega
  have ht2 : Turn w w' (fun i => Foot own tb g sb dm wm i ∨ i = q) (fun i => Foot own tb g sb dm wm i ∨ i = q) :=
    ⟨ht.os, ht.tape, ht.output, ht.size, fun i hi hn => ht.block i hi (fun e => hn (.inl (.inl (.inl (.inl e))))), fun i hi => .inl hi⟩
  refine ⟨h2, (h.at_.d.weak hw).turn ht2 (ht.block dm h.at_.d.lt (fun e => h.at_.odm.1 (.inl (.inl e)))), fun U m hU hm => ?_, fun e => by have := h.foot_lt e; omega, Nat.le_trans h.gr.size hq⟩
  obtain ⟨m', e, hm'⟩ := h.at_.u U hU
  rw [hm] at e
  cases e
  exact (hm'.weak hw).turn ht2 (ht.block m hm'.lt (fun e => (h.at_.owm m hm).1 (.inl (.inl e))))
end
end Go.Proofs.YteaokeiolgjhaaaGreat.Sto
/- What a store answers is the caller's: the row of a page's body is whole, and not frozen. -/
namespace Go.Proofs.YteaokeiolgjhaaaGreat.Sto
open Go.RowKit Go.Maps Go.Shelf CrcMath CodecMath Mem Crc Codec DiskSpec Dsk Sup Log

/-- A slice whose row may be written over; no block of it is below base. -/
def Mine (w : World) (base : Nat) (v : Value) : Prop := ∀ A n c, v = .slice A n c → 0 < n → ∃ g o t L, A = some ⟨g, o, none⟩ ∧ base ≤ g ∧ Blk w g t L ∧ o + n ≤ L.size
section
variable {w w' : World} {base : Nat} {v : Value}
theorem Mine.keep {row : Option Nat} (h : Mine w base v) (hg : w.grownBy w' row) (hr : ∀ g, base ≤ g → some g ≠ row) : Mine w' base v := by
  intro A n c e hn
  obtain ⟨g, o, t, L, h1, h2, h3, h4⟩ := h A n c e hn
  exact ⟨g, o, t, L, h1, h2, h3.grown hg (hr g h2), h4⟩
theorem Mine.low {b : Nat} (h : Mine w base v) (hb : b ≤ base) : Mine w b v := by
  intro A n c e hn
  obtain ⟨g, o, t, L, h1, h2, h3, h4⟩ := h A n c e hn
  exact ⟨g, o, t, L, h1, Nat.le_trans hb h2, h3, h4⟩
theorem Mine.nil (w : World) (base : Nat) (A : Option Addr) (c : Nat) : Mine w base (.slice A 0 c) := by
  intro A n c e hn
  cases e
  omega
theorem mine_row {t : TypeId} {n : Nat} {xs : List Value} (h : w.ownsRow base t 1 v n xs) : Mine w base v := by
  intro A m c e hn
  rcases h.2 with ⟨hv, _⟩ | ⟨g, cap, cur, hv, hb, hh, h1, h2, h3, _⟩
  · rw [hv] at e
    cases e
    omega
  · rw [hv] at e
    cases e
    exact ⟨g, 0, _, cur, rfl, hb, hh, by omega⟩
theorem mine_lies {l : List Nat} (h : Lies w base v l) : Mine w base v := by
  obtain ⟨A, c, rfl, hc, hx, hl⟩ := h
  intro A' n' c' e hn
  cases e
  obtain ⟨g, off, t, L, rfl, hg, hb, hf, _⟩ := hl hn
  exact ⟨g, off, t, _, rfl, hg, hb, by rw [List.size_toArray, u8s_length]; exact hf⟩
/-- .. of a page. -/
def MineP (w : World) (base : Nat) (v : Value) : Prop := ∀ k bv, v = .agg #[k, bv] → Mine w base bv
theorem MineP.of {k bv : Value} (h : Mine w base bv) : MineP w base (.agg #[k, bv]) := fun k' bv' e => by
  simp only [Value.agg.injEq] at e
  have e2 := congrArg (fun a : Array Value => a[1]?) e
  simp at e2
  rw [← e2]
  exact h
theorem MineP.get {k bv : Value} (h : MineP w base (.agg #[k, bv])) : Mine w base bv := h k bv rfl
theorem MineP.zero (w : World) (base : Nat) : MineP w base (.agg #[.int .i64 0, .slice none 0 0]) := .of (Mine.nil w base none 0)
end
set_option maxRecDepth 100000 in
set_option maxHeartbeats 800000 in
theorem clone_mine {w : World} {P : Nat → Prop} {v : Value} {l : List Nat} (h : BodyAt w P v l) (hn : 0 < l.length) (hm : l.length ≤ 1099511627776) :
    Calls Tryz.prog 104 #[v] w fun e w' => ∃ v', e = .returned v' ∧ BodyAt w' (fun i => i < w.heap.size) v' l ∧ Mine w' w.heap.size v' ∧ w.grownBy w' none := by
  obtain ⟨A, n, c, rfl, hc, hd⟩ := h
  have hlen := hd.1
  obtain ⟨g, o, rfl, hg, _, hcells⟩ := hd.2.2 (by omega)
  obtain ⟨i0, hi0, hz0, hz1, hz2⟩ := info_parts byte_info
  have hi := Lib.hid hi0; have z0 := Lib.hid hz0; have z1 := Lib.hid hz1; have z2 := Lib.hid hz2
  have HLT := Lib.hid hd.2.1
  have hq := eqSlice ⟨g, o, none⟩ n c w
  have hrl : (u8s l).length = n * 1 := by rw [u8s_length]; omega
  have hrc : ∀ j u, (u8s l)[j]? = some u → (w.alloc (.cells #[] 5)).cell? ((⟨g, o, none⟩ : Addr).add j) = some u := fun j u hu => by
    have hj : j < l.length := by have := (List.getElem?_eq_some_iff.1 hu).1; rwa [u8s_length] at this
    rw [u8s_at l j hj] at hu
    cases hu
    rw [Addr.add_mid]
    rw [World.cell?_of_block (a := ⟨g, o + j, none⟩) (Below.heap_alloc w _ _ hg)]
    exact hcells j (by omega)
  have hown : (w.alloc (.cells #[] 5)).ownsRow w.heap.size 5 1 (.slice (some ⟨w.heap.size, 0, none⟩) 0 0) 0 [] := by
    refine ⟨rfl, .inr ⟨w.heap.size, 0, #[], rfl, Nat.le_refl _, ?_, ?_⟩⟩
    · exact heap_alloc_new w _
    · simp [maxLen]
  have HRL := Lib.hid hrl; have HRC := Lib.hid hrc; have HO := Lib.hid hown; have HLEN := Lib.hid hlen
  clear hrl hrc hown hi0 hz0 hz1 hz2 hd hcells
  go_enter Tryz.func104, Tryz.ntmps104
  go_wp2_with (at_builtin
               refine wpList_append_own _ rfl (.tmp 5) (.tmp 6) _ rfl w.heap.size 5 i0 _ 1 1 Tryz.underlying38 hi.out z0.out z1.out z2.out rfl (by omega) _ 0 _ rfl HO.out
                 ⟨g, o, none⟩ n _ _ rfl HRL.out HRC.out (fun u hu => u8s_one l u hu) (by simp only [maxLen]; omega) (by omega) (by simp) ?_
               intro v' w' hown' hgr' _
               have HO' := Lib.hid hown'; have HG' := Lib.hid hgr'; clear hown' hgr')
  go_ret
  have ho := HO'.out
  rw [Nat.zero_add, List.nil_append] at ho
  obtain ⟨A', c', e, hc', hd'⟩ := data_of_own6 (own := fun i => i < w.heap.size) (Own.of ho) (fun _ hi => hi) HLT.out
  refine ⟨_, rfl, ⟨A', n, c', e, hc', by have := HLEN.out; exact hd'⟩, (show Mine w' w.heap.size v' from mine_row ho), ?_⟩
  exact (World.grownBy_alloc w _ none).andThen HG'.out (fun j hj => by cases hj; exact .inl (Nat.le_refl _))
set_option maxRecDepth 100000 in
set_option maxHeartbeats 800000 in
/-- A copy of a page. -/
theorem copied_mine {w : World} {P : Nat → Prop} {v : Value} {p : Pg} (h : PgV w P v p) (hn : 0 < p.2.length) (hm : p.2.length ≤ 1099511627776) :
    Calls Tryz.prog 54 #[v] w fun e w' => ∃ v', e = .returned v' ∧ PgV w' (fun i => i < w.heap.size) v' p ∧ MineP w' w.heap.size v' ∧ w.grownBy w' none := by
  obtain ⟨bv, rfl, hb⟩ := h
  obtain ⟨k, l⟩ := p
  dsimp only at *
  have HG0 := Lib.hid ((World.grownBy_alloc w (.cells #[.int .i64 k, bv] 40) none).trans (World.grownBy_alloc _ (.cells #[.int .i64 0, .slice none 0 0] 40) none))
  have HB0 := Lib.hid ((Blk.new w 40 #[.int .i64 k, bv]).alloc (.cells #[.int .i64 0, .slice none 0 0] 40))
  have HR0 := Lib.hid (show Blk ((w.alloc (.cells #[.int .i64 k, bv] 40)).alloc (.cells #[.int .i64 0, .slice none 0 0] 40)) (w.heap.size + 1) 40 #[.int .i64 0, .slice none 0 0] from by
    have := Blk.new (w.alloc (.cells #[.int .i64 k, bv] 40)) 40 #[.int .i64 0, .slice none 0 0]
    rwa [show (w.alloc (.cells #[.int .i64 k, bv] 40)).heap.size = w.heap.size + 1 from by simp] at this)
  have hb2 := hb.turn (Turn.none_ HG0.out)
  have HC := Lib.hid (clone_mine hb2 hn hm)
  obtain ⟨A, n, c, rfl, _, _⟩ := hb
  clear hb2
  go_enter Tryz.func54, Tryz.ntmps54
  go_wp2_with fail
  refine HC.out.mono ?_
  rintro e w1 ⟨v', rfl, hb', hm', hg1⟩
  have HM1 := Lib.hid (show Mine w1 (w.heap.size + 2) v' from by
    rw [show ((w.alloc (.cells #[.int .i64 k, .slice A n c] 40)).alloc (.cells #[.int .i64 0, .slice none 0 0] 40)).heap.size = w.heap.size + 2 from by simp] at hm'
    exact hm')
  have HB1 := Lib.hid (HB0.out.grown hg1 (by simp)); have HR1 := Lib.hid (HR0.out.grown hg1 (by simp))
  have HG1 := Lib.hid (HG0.out.trans hg1)
  have HBV := Lib.hid (show BodyAt w1 (fun i => i < w.heap.size + 2) v' l from by
    rw [show ((w.alloc (.cells #[.int .i64 k, .slice A n c] 40)).alloc (.cells #[.int .i64 0, .slice none 0 0] 40)).heap.size = w.heap.size + 2 from by simp] at hb'
    exact hb')
  have hne : w.heap.size ≠ w.heap.size + 1 := by omega
  clear hb' hm' hg1 HC HB0 HR0
  obtain ⟨A', n', c', rfl, _, _⟩ := HBV.out
  have b0 := HB1.out.cell 0; have b1 := HB1.out.cell 1; have fb1 := HB1.out.frozen 1
  simp only [List.getElem?_toArray, List.getElem?_cons_zero, List.getElem?_cons_succ] at b0 b1
  go_upto_region 2 with fail
  have HB2 := Lib.hid (show Blk (w1.setCell ⟨w.heap.size, 1, none⟩ (.slice A' n' c')) w.heap.size 40 #[.int .i64 k, .slice A' n' c'] from HB1.out.set_ 1 (.slice A' n' c'))
  have HR2 := Lib.hid (HR1.out.far (p := ⟨w.heap.size, 1, none⟩) hne.symm (.slice A' n' c'))
  have hs := Lib.grownBy_setB (World.grownBy.refl w1 (some w.heap.size)) 1 (.slice A' n' c')
  have HG2 := Lib.hid (show w.grownBy (w1.setCell ⟨w.heap.size, 1, none⟩ (.slice A' n' c')) none from HG1.out.andThen hs (fun j e => by cases e; exact .inl (Nat.le_refl _)))
  have HBV2 := Lib.hid (show BodyAt (w1.setCell ⟨w.heap.size, 1, none⟩ (.slice A' n' c')) (fun i => i < w.heap.size + 2) (.slice A' n' c') l from
    HBV.out.turn (.of_grown hs (fun j e => by cases e; show w.heap.size < w.heap.size + 2; omega)))
  have HM2 := Lib.hid (HM1.out.keep hs (fun g hg e => by cases e; omega))
  clear b0 b1 fb1 hs HB1 HR1 HBV HG1 HM1
  generalize w1.setCell ⟨w.heap.size, 1, none⟩ (.slice A' n' c') = w2 at *
  have b0 := HB2.out.cell 0; have b1 := HB2.out.cell 1
  have r0 := HR2.out.cell 0; have r1 := HR2.out.cell 1; have fr0 := HR2.out.frozen 0; have fr1 := HR2.out.frozen 1
  simp only [List.getElem?_toArray, List.getElem?_cons_zero, List.getElem?_cons_succ] at b0 b1 r0 r1
  go_wp2
  have hs1 := Lib.grownBy_setB (World.grownBy.refl w2 (some (w.heap.size + 1))) 0 (.int .i64 k)
  have hs2 := Lib.grownBy_setB hs1 1 (.slice A' n' c')
  refine ret_row1 rfl (w.heap.size + 1) 40 #[.int .i64 k, .slice A' n' c'] _ rfl (Blk.set2 HR2.out) Tryz.underlying40 rfl (by kernel_rfl) rfl ?_
  refine ⟨_, rfl, ⟨_, rfl, ?_⟩, .of ((HM2.out.keep hs2 (fun g hg e => by cases e; omega)).low (by omega)), ?_⟩
  · exact (HBV2.out.turn (.of_grown hs2 (fun j e => by cases e; show w.heap.size + 1 < w.heap.size + 2; omega))).weak (fun i _ hi => by show i < w.heap.size + 2; omega)
  · exact HG2.out.andThen hs2 (fun j e => by cases e; exact .inl (by omega))
section
variable {w w' w1 wr : World} {B b tb g g' sb dm : Nat} {wm : Option Nat} {own own' own2 : Nat → Prop} {s : Sto}
set_option maxRecDepth 100000 in
set_option maxHeartbeats 1600000 in
theorem home_mine (h : StoAt w B b tb g sb dm wm own s) (p : Int) (hp : -9223372036854775808 ≤ p ∧ p ≤ 9223372036854775800) :
    Calls Tryz.prog 57 #[.pointer (some ⟨sb, 0, none⟩), .int .i64 p] w fun e w' => ∃ v, e = .returned (.tuple #[v, .int .i64 (readHE s p).1]) ∧ PgV w' (fun i => i < w.heap.size) v (readHE s p).2 ∧ MineP w' (w.heap.size + 1) v ∧
      StoAt w' B b tb g sb dm wm own (s.disk (readE s.S (2 + p) 1).2) ∧ Turn w w' own own := by
  have hga := World.grownBy_alloc w (.cells #[.int .i64 0, .slice none 0 0] 40) none
  have HZ1 := Lib.hid (Blk.new w 40 #[.int .i64 0, .slice none 0 0])
  have HIX := Lib.hid (show ¬ Foot own tb g sb dm wm w.heap.size from fun hi => by have := h.foot_lt hi; omega)
  have HD1 := Lib.hid (grown_drew (w.alloc (.cells #[.int .i64 0, .slice none 0 0] 40)) none)
  have H1 := Lib.hid ((h.quiet hga).quiet HD1.out)
  have HB1 := Lib.hid (HZ1.out.grown HD1.out (by simp))
  have HT1 := Lib.hid (Turn.none_ (own := Foot own tb g sb dm wm) (hga.trans HD1.out))
  have HSZ := Lib.hid (show w.heap.size < (w.alloc (.cells #[.int .i64 0, .slice none 0 0] 40)).drew.heap.size from HB1.out.lt)
  have HRD := Lib.hid (disk_read_all H1.out.l.s.d (2 + p) 1 (by omega) (by omega))
  have HHM := Lib.hid (fun wx => home_any p wx hp)
  have HRN := Lib.hid (readE_n s.S (2 + p) 1)
  obtain ⟨R0, hR0⟩ : ∃ r, readHE s p = r := ⟨_, rfl⟩
  rw [hR0]
  unfold readHE at hR0
  have HR0 := Lib.hid hR0.symm
  have H0 := Lib.hid h
  have HTD := Lib.hid (Turn.none_ (own := own) (hga.trans HD1.out))
  have HTB := Lib.hid (show tb < w.heap.size from h.foot_lt (.inl (.inl (.inr rfl))))
  have hlt0 := hga.size
  have HLR := Lib.hid (readL_lt' h.l.s.ok (2 + p) 1)
  clear hga h hp hR0 HZ1
  generalize readL s.S (2 + p) 1 = l at *
  generalize readE s.S (2 + p) 1 = R at *
  obtain ⟨er, T⟩ := R
  dsimp only at *
  go_enter Tryz.func57, Tryz.ntmps57
  go_wp2_with fail
  generalize w.alloc (.cells #[.int .i64 0, .slice none 0 0] 40) = wq at *
  have hkeep : ∀ (wx : World) (t : Sto), StoAt wx B b tb g sb dm wm own t → wx.cell? ⟨sb, 0, none⟩ = some (.pointer (some ⟨b, 0, none⟩)) ∧ wx.cell? ⟨sb, 1, none⟩ = some (.pointer (some ⟨tb, 0, none⟩)) := fun wx t hs => by
    obtain ⟨c0, c1, _⟩ := hs.cells
    exact ⟨c0, c1⟩
  have HKEEP := Lib.hid hkeep
  clear hkeep
  go_region_held3 (fun wx => wx.cell? ⟨sb, 0, none⟩ = some (.pointer (some ⟨b, 0, none⟩)) ∧ wx.cell? ⟨sb, 1, none⟩ = some (.pointer (some ⟨tb, 0, none⟩)))
    (first
      | exact HKEEP.out _ _ H1.out
      | exact HKEEP.out _ _ H2.out)
    (first
      | (go_at_call 44
         (with_reducible refine (HHM.out _).mono ?_)
         rintro e w4 ⟨rfl, rfl⟩)
      | (go_at_call 106
         (with_reducible refine HRD.out.mono ?_)
         rintro e w2 ⟨vr, rfl, hgv, hd2, ht2⟩
         have H2 := Lib.hid (H1.out.disk hd2 ht2 HRN.out)
         have HT2 := Lib.hid (HT1.out.trans (turnD (tb := tb) (g := g) (sb := sb) (dm := dm) (wm := wm) ht2))
         have HB2 := Lib.hid (blk_of_block HB1.out (ht2.block w.heap.size HB1.out.lt (fun ho => HIX.out (.inl (.inl (.inl ho))))))
         have HGV := Lib.hid hgv
         have HDD := Lib.hid hd2
         have HTW := Lib.hid (HTD.out.trans ht2)
         clear hd2 ht2 hgv))
  have b0 := HB2.out.frozen 0; have b1 := HB2.out.frozen 1
  have y0 := HB2.out.cell 0; have y1 := HB2.out.cell 1
  simp only [List.getElem?_toArray, List.getElem?_cons_zero, List.getElem?_cons_succ] at y0 y1
  clear HRD HHM
  by_cases he : er = 0
  · subst he
    have HE := Lib.hid (show R0 = homeQ (pageR l p) from HR0.out.trans (if_pos rfl))
    clear HR0
    obtain ⟨A, n, c, rfl⟩ : ∃ A n c, vr = .slice A n c := by
      rcases HGV.out with ⟨rfl, _⟩ | ⟨_, _, rfl, _⟩ <;> exact ⟨_, _, _, rfl⟩
    have HBY := Lib.hid (bytes_gave (tb := tb) HGV.out HLR.out (by have := HTB.out; have := HSZ.out; omega))
    have HGP := Lib.hid (codec_get_page tb tb A n c l p w2 H2.out.r HBY.out)
    obtain ⟨_, c1, _⟩ := H2.out.cells
    have hs2 : w.heap.size < w2.heap.size := HB2.out.lt
    clear y0 y1 b0 b1 HGV
    generalize pageR l p = o at *
    go_wp2_with fail
    refine HGP.out.mono ?_
    rintro e w3 ⟨hg3, ⟨kind, body, v, ho, rfl, hly⟩ | ⟨ho, rfl⟩⟩
    · subst ho
      have HBO := Lib.hid (body_lies (P := fun i => i < w.heap.size + 1) hly (fun i hi => by omega))
      have HMN := Lib.hid ((mine_lies hly).low (show w.heap.size + 1 ≤ _ from hs2))
      obtain ⟨A2, c2, rfl, _⟩ := hly
      have HG4 := Lib.hid (hg3.trans (World.grownBy_alloc w3 (.cells #[.int .i64 kind, .slice A2 body.length c2] 40) none))
      have HB4 := Lib.hid (HB2.out.grown HG4.out (by simp))
      have hbk := Blk.new w3 40 #[.int .i64 kind, .slice A2 body.length c2]
      have y0 := HB4.out.cell 0; have y1 := HB4.out.cell 1; have f0 := HB4.out.frozen 0; have f1 := HB4.out.frozen 1
      have z0 := hbk.cell 0; have z1 := hbk.cell 1
      simp only [List.getElem?_toArray, List.getElem?_cons_zero, List.getElem?_cons_succ] at y0 y1 z0 z1
      clear hbk hg3
      go_wp2_with fail
      have hs := Lib.grownBy_setB (Lib.grownBy_setB (World.grownBy.refl (w3.alloc (.cells #[.int .i64 kind, .slice A2 body.length c2] 40)) (some w.heap.size)) 0 (.int .i64 kind)) 1 (.slice A2 body.length c2)
      refine ret_row2 rfl w.heap.size 40 _ _ rfl (Blk.set2 HB4.out) Tryz.underlying40 rfl (by kernel_rfl) rfl ?_
      rw [HE.out]
      have h9 := H0.out.read_ HDD.out HTW.out HRN.out ((grown_any_row HG4.out _).trans hs) (Nat.le_refl _)
      refine ⟨_, rfl, ⟨_, rfl, ?_⟩, .of ((HMN.out.keep (World.grownBy_alloc w3 _ none) (by simp)).keep hs (fun g hg e => by cases e; omega)), h9.1, h9.2⟩
      exact ((HBO.out.turn (Turn.none_ (World.grownBy_alloc w3 _ none))).turn (.of_grown hs (fun j e => by cases e; show w.heap.size < w.heap.size + 1; omega))).weak (fun i _ hi => by show i < w.heap.size + 1; have : i < w.heap.size := hi; omega)
    · subst ho
      have HG4 := Lib.hid (hg3.trans (World.grownBy_alloc w3 (.cells #[.int .i64 0, .slice none 0 0] 40) none))
      have HB4 := Lib.hid (HB2.out.grown HG4.out (by simp))
      have y0 := HB4.out.cell 0; have y1 := HB4.out.cell 1; have f0 := HB4.out.frozen 0; have f1 := HB4.out.frozen 1
      simp only [List.getElem?_toArray, List.getElem?_cons_zero, List.getElem?_cons_succ] at y0 y1
      clear hg3
      go_wp2_with fail
      have hs := Lib.grownBy_setB (Lib.grownBy_setB (World.grownBy.refl (w3.alloc (.cells #[.int .i64 0, .slice none 0 0] 40)) (some w.heap.size)) 0 (.int .i64 0)) 1 (.slice none 0 0)
      refine ret_row2 rfl w.heap.size 40 _ _ rfl (Blk.set2 HB4.out) Tryz.underlying40 rfl (by kernel_rfl) rfl ?_
      rw [HE.out]
      have h9 := H0.out.read_ HDD.out HTW.out HRN.out ((grown_any_row HG4.out _).trans hs) (Nat.le_refl _)
      exact ⟨_, rfl, PgV.zero _ _, MineP.zero _ _, h9.1, h9.2⟩
  · have heb : (er == 0) = false := by simpa using he
    have HE := Lib.hid (HR0.out.trans (if_neg he))
    clear HR0 he
    go_wp2_with fail
    have hg3 := Lib.grownBy_setB (Lib.grownBy_setB (World.grownBy.refl w2 (some w.heap.size)) 0 (.int .i64 0)) 1 (.slice none 0 0)
    refine ret_row2 rfl w.heap.size 40 _ _ rfl (Blk.set2 HB2.out) Tryz.underlying40 rfl (by kernel_rfl) rfl ?_
    rw [HE.out]
    have h9 := H0.out.read_ HDD.out HTW.out HRN.out hg3 (Nat.le_refl _)
    exact ⟨_, rfl, PgV.zero _ _, MineP.zero _ _, h9.1, h9.2⟩
set_option maxRecDepth 100000 in
set_option maxHeartbeats 3200000 in
theorem read_mine (h : StoAt w B b tb g sb dm wm own s) (p : Int) (hp : s.has p = true) :
    Calls Tryz.prog 19 #[.pointer (some ⟨sb, 0, none⟩), .int .i64 p] w fun e w' => ∃ v, e = .returned (.tuple #[v, .int .i64 (readPE s p).1]) ∧ PgV w' (fun i => i < w.heap.size) v (readPE s p).2.1 ∧ MineP w' w.heap.size v ∧
      StoAt w' B b tb g sb dm wm own (readPE s p).2.2 ∧ Turn w w' own own := by
  have hga := World.grownBy_alloc w (.cells #[.int .i64 0, .slice none 0 0] 40) none
  have hpr : 0 ≤ p ∧ p < (s.x.pg : Int) := by simpa [Sto.has] using hp
  have hpg := (superOk_at (mayB_ok h.may) 2 (by simp [Sb.l])).2
  simp [Sb.l] at hpg
  obtain ⟨k, rfl⟩ : ∃ k : Nat, p = (k : Int) := ⟨p.toNat, by omega⟩
  have hk : k < 9223372036854775808 := by omega
  have hk2 : -9223372036854775808 ≤ (k : Int) ∧ (k : Int) ≤ 9223372036854775800 := by omega
  have HH := Lib.hid (sto_has (h.quiet hga) (k : Int))
  rw [hp] at HH
  have HE := Lib.hid (show readPE s (k : Int) = match s.kept k with | some q => (0, q, s) | none => ((readHE s (k : Int)).1, (readHE s (k : Int)).2, s.disk (readE s.S (2 + (k : Int)) 1).2) from by
    unfold readPE
    rw [if_neg (by rw [hp]; simp)]
    rfl)
  obtain ⟨R0, hR0⟩ : ∃ r, readPE s (k : Int) = r := ⟨_, rfl⟩
  rw [hR0] at HE ⊢
  have HGA := Lib.hid hga
  have H0 := Lib.hid h
  have HZ1 := Lib.hid (Blk.new w 40 #[.int .i64 0, .slice none 0 0])
  have HWD := Lib.hid (show w.heap.size < (w.alloc (.cells #[.int .i64 0, .slice none 0 0] 40)).heap.size from by simp)
  clear hga h hp hpr hpg hR0
  go_enter Tryz.func19, Tryz.ntmps19
  go_wp2_with fail
  refine HH.out.mono ?_
  rintro e w2 ⟨rfl, rfl⟩
  clear HH
  obtain ⟨_, _, _, _, _, _, _, _, _, _, c10, c11⟩ := (H0.out.quiet HGA.out).cells
  go_wp2_with fail
  generalize w.alloc (.cells #[.int .i64 0, .slice none 0 0] 40) = wq at *
  go_quiet (fail)
  clear c10 c11
  have HR0 := Lib.hid (World.grownBy.refl wq none)
  go_wp2_with fail
  go_loopw [7, 8, 9, 24] (fun _ _ _ i wr => ∃ j : Nat, j ≤ 2 ∧ i = .int .i64 j ∧ (1 ≤ j → (s.W.getD noPgs) k = none) ∧ (2 ≤ j → s.D k = none) ∧ wq.grownBy wr none) (fun _ _ _ i _ => 2 - (Go.RowKit.intOf i).toNat)
  case atStart => exact ⟨0, by omega, rfl, fun h => by omega, fun h => by omega, by first | exact HR0.out | exact grown_drewN (World.grownBy.refl _ _) _⟩
  case round =>
    obtain ⟨j, hj, rfl, hj1, hj2, hgr⟩ := hrel
    have HG := Lib.hid (HGA.out.trans hgr)
    have HGQ := Lib.hid hgr
    have HJ1 := Lib.hid hj1; have HJ2 := Lib.hid hj2
    have H := Lib.hid (H0.out.quiet (HGA.out.trans hgr))
    have HZ := Lib.hid (HZ1.out.grown hgr (by simp))
    clear hj1 hj2 hgr
    have hjc : j = 0 ∨ j = 1 ∨ j = 2 := by omega
    have hi0 := fun c wx => idx0 (wm := wm) c wx
    have hi1 := fun a d wx => idx1 a d wx
    rcases hjc with hjj | hjj | hjj
    · subst hjj
      obtain ⟨k0, A, n, c, hlook, hpv⟩ := H.out.lookW k hk
      cases hx : (s.W.getD noPgs) k with
      | some q =>
        rw [hx] at hlook
        have hso : (some q).isSome = true := rfl
        rw [hso] at hlook
        have HQ := Lib.hid (HE.out.trans (by rw [show s.kept k = some q from kept_first hx]))
        have hlq : q.2.length = 240 := wk_len H.out hx
        have hga4 := World.grownBy_alloc wr (.cells #[.int .i64 k0, .slice A n c] 40) none
        have HG4 := Lib.hid hga4
        have HPV := Lib.hid ((hpv q hx).turn (Turn.none_ hga4))
        have HCP := Lib.hid (copied_mine HPV.out (by omega) (by omega))
        have HZ4 := Lib.hid (HZ.out.grown hga4 (by simp))
        clear hx hso hga4 hlq hpv
        go_wp2_with fail
        refine HCP.out.mono ?_
        rintro e w5 ⟨v', rfl, hv', hm', hg5⟩
        have HV5 := Lib.hid hv'
        obtain ⟨bv, rfl, A5, n5, c5, rfl, _⟩ := hv'
        have HG5 := Lib.hid hg5
        have HM5 := Lib.hid hm'.get
        clear hm'
        have HZ5 := Lib.hid (HZ4.out.grown hg5 (by simp))
        have y0 := HZ5.out.cell 0; have y1 := HZ5.out.cell 1; have f0 := HZ5.out.frozen 0; have f1 := HZ5.out.frozen 1
        simp only [List.getElem?_toArray, List.getElem?_cons_zero, List.getElem?_cons_succ] at y0 y1
        clear hg5 HCP hlook
        go_wp2_with fail
        have hs := Lib.grownBy_setB (Lib.grownBy_setB (World.grownBy.refl w5 (some w.heap.size)) 0 (.int .i64 q.1)) 1 (.slice A5 n5 c5)
        refine ret_row2 rfl w.heap.size 40 _ _ rfl (Blk.set2 HZ5.out) Tryz.underlying40 rfl (by kernel_rfl) rfl ?_
        have hgz := grownBy_new (HG.out.trans (HG4.out.trans HG5.out)) hs (fun j e => by cases e; exact Nat.le_refl _)
        have hlt : w.heap.size < (wr.alloc (.cells #[.int .i64 k0, .slice A n c] 40)).heap.size := HZ4.out.lt
        rw [HQ.out]
        refine ⟨_, rfl, ?_, .of ((HM5.out.keep hs (fun g hg e => by cases e; omega)).low (by omega)), H0.out.quiet hgz, Turn.none_ hgz⟩
        exact (HV5.out.turn (.of_grown hs (fun j e => by cases e; exact hlt))).weak (fun i _ hi => Nat.lt_trans hi hlt)
      | none =>
        rw [hx] at hlook
        have hso : (none : Option Pg).isSome = false := rfl
        rw [hso] at hlook
        have HX := Lib.hid hx
        have HG4 := Lib.hid (HGQ.out.trans (World.grownBy_alloc wr (.cells #[.int .i64 k0, .slice A n c] 40) none))
        clear hx hso hpv
        go_wp2_with fail
        refine ⟨⟨1, by omega, by go_num, fun _ => by first | trivial | exact HX.out, fun h => by omega, HG4.out⟩, ?_⟩
        simp [Go.RowKit.intOf]
    · subst hjj
      obtain ⟨k0, A, n, c, hlook, hpv⟩ := H.out.d.lookPg k hk
      cases hx : s.D k with
      | some q =>
        rw [hx] at hlook
        have hso : (some q).isSome = true := rfl
        rw [hso] at hlook
        have HQ := Lib.hid (HE.out.trans (by rw [show s.kept k = some q from (kept_then (HJ1.out (by omega))).trans hx]))
        have hlq : q.2.length = 240 := (pageOk_iff (H.out.d.ok k q hx)).2.2.1
        have hga4 := World.grownBy_alloc wr (.cells #[.int .i64 k0, .slice A n c] 40) none
        have HG4 := Lib.hid hga4
        have HPV := Lib.hid ((hpv q hx).turn (Turn.none_ hga4))
        have HCP := Lib.hid (copied_mine HPV.out (by omega) (by omega))
        have HZ4 := Lib.hid (HZ.out.grown hga4 (by simp))
        clear hx hso hga4 hlq hpv
        go_wp2_with fail
        refine HCP.out.mono ?_
        rintro e w5 ⟨v', rfl, hv', hm', hg5⟩
        have HV5 := Lib.hid hv'
        obtain ⟨bv, rfl, A5, n5, c5, rfl, _⟩ := hv'
        have HG5 := Lib.hid hg5
        have HM5 := Lib.hid hm'.get
        clear hm'
        have HZ5 := Lib.hid (HZ4.out.grown hg5 (by simp))
        have y0 := HZ5.out.cell 0; have y1 := HZ5.out.cell 1; have f0 := HZ5.out.frozen 0; have f1 := HZ5.out.frozen 1
        simp only [List.getElem?_toArray, List.getElem?_cons_zero, List.getElem?_cons_succ] at y0 y1
        clear hg5 HCP hlook
        go_wp2_with fail
        have hs := Lib.grownBy_setB (Lib.grownBy_setB (World.grownBy.refl w5 (some w.heap.size)) 0 (.int .i64 q.1)) 1 (.slice A5 n5 c5)
        refine ret_row2 rfl w.heap.size 40 _ _ rfl (Blk.set2 HZ5.out) Tryz.underlying40 rfl (by kernel_rfl) rfl ?_
        have hgz := grownBy_new (HG.out.trans (HG4.out.trans HG5.out)) hs (fun j e => by cases e; exact Nat.le_refl _)
        have hlt : w.heap.size < (wr.alloc (.cells #[.int .i64 k0, .slice A n c] 40)).heap.size := HZ4.out.lt
        rw [HQ.out]
        refine ⟨_, rfl, ?_, .of ((HM5.out.keep hs (fun g hg e => by cases e; omega)).low (by omega)), H0.out.quiet hgz, Turn.none_ hgz⟩
        exact (HV5.out.turn (.of_grown hs (fun j e => by cases e; exact hlt))).weak (fun i _ hi => Nat.lt_trans hi hlt)
      | none =>
        rw [hx] at hlook
        have hso : (none : Option Pg).isSome = false := rfl
        rw [hso] at hlook
        have HX := Lib.hid hx
        have HG4 := Lib.hid (HGQ.out.trans (World.grownBy_alloc wr (.cells #[.int .i64 k0, .slice A n c] 40) none))
        clear hx hso hpv
        go_wp2_with fail
        refine ⟨⟨2, by omega, by go_num, fun _ => HJ1.out (by omega), fun _ => by first | trivial | exact HX.out, HG4.out⟩, ?_⟩
        simp [Go.RowKit.intOf]
    · have hnb : ¬ ((j : Int) < 2) := by omega
      have HQ := Lib.hid (HE.out.trans (by rw [show s.kept k = none from (kept_then (HJ1.out (by omega))).trans (HJ2.out (by omega))]))
      have HRH := Lib.hid (home_mine H.out (k : Int) hk2)
      clear hjj
      go_wp2_with fail
      refine HRH.out.mono ?_
      rintro e w5 ⟨v', rfl, hv', hm', h5, ht5⟩
      have HV5 := Lib.hid hv'
      obtain ⟨bv, rfl, A5, n5, c5, rfl, _⟩ := hv'
      have H5 := Lib.hid h5; have HT5 := Lib.hid ht5
      have HM5 := Lib.hid hm'.get
      have hzl := HZ.out.lt
      clear hm'
      have HNW := Lib.hid (show ¬ own w.heap.size from fun ho => by have := H0.out.l.own_lt (.inl (.inl ho)); omega)
      have HZ5 := Lib.hid (blk_of_block HZ.out (ht5.block w.heap.size HZ.out.lt HNW.out))
      have y0 := HZ5.out.cell 0; have y1 := HZ5.out.cell 1; have f0 := HZ5.out.frozen 0; have f1 := HZ5.out.frozen 1
      simp only [List.getElem?_toArray, List.getElem?_cons_zero, List.getElem?_cons_succ] at y0 y1
      clear h5 ht5 HRH
      go_wp2_with fail
      have hs := Lib.grownBy_setB (Lib.grownBy_setB (World.grownBy.refl w5 (some w.heap.size)) 0 (.int .i64 (readHE s (k : Int)).2.1)) 1 (.slice A5 n5 c5)
      refine ret_row2 rfl w.heap.size 40 _ _ rfl (Blk.set2 HZ5.out) Tryz.underlying40 rfl (by kernel_rfl) rfl ?_
      have h9 := H0.out.read_ H5.out.l.s.d ((Turn.none_ (own := own) HG.out).trans HT5.out) (readE_n _ _ _) hs (Nat.le_refl _)
      rw [HQ.out]
      refine ⟨_, rfl, ?_, .of ((HM5.out.keep hs (fun g hg e => by cases e; omega)).low (by omega)), h9.1, h9.2⟩
      exact (HV5.out.turn (.of_grown hs (fun j e => by cases e; exact HZ.out.lt))).weak (fun i _ hi => Nat.lt_trans hi HZ.out.lt)
end
section
variable {W w w' : World} {N pg b tb g sb dm : Nat} {wm : Option Nat} {own own' : Nat → Prop} {s s' : Sto} {C : Pgs} {o : Option Pgs} {q : Nat}
theorem use_read_m (h : Use W w N pg b tb g sb dm wm own s C o) {k : Nat} (hk : k < pg) :
    Calls Tryz.prog 19 #[.pointer (some ⟨sb, 0, none⟩), .int .i64 (k : Nat)] w fun e w' => ∃ v, e = .returned (.tuple #[v, .int .i64 0]) ∧ PgV w' (fun i => i < w.heap.size) v ((seen C o k).getD (0, [])) ∧ MineP w' w.heap.size v ∧
      Use W w' N pg b tb g sb dm wm own s C o ∧ Turn w w' own own := by
  obtain ⟨ls, sure, hg⟩ := h.gd
  have e1 := hg.read h.sees k hk
  rw [h.w] at e1
  have h1 := read_mine h.at_ (k : Int) (h.has_ hk)
  rw [e1] at h1
  refine h1.mono ?_
  rintro e w1 ⟨v, rfl, hv, hm, h2, ht⟩
  exact ⟨v, rfl, hv, hm, ⟨h2, h.out (turnD ht), ⟨ls, sure, hg⟩, h.w, h.sees⟩, ht⟩
theorem use_dirty_m (h : Use W w N pg b tb g sb dm wm own s C o) :
    Calls Tryz.prog 22 #[.pointer (some ⟨sb, 0, none⟩)] w fun e w' => (∃ A c, e = .returned (.slice A (keys s.D).length c) ∧ Mine w' w.heap.size (.slice A (keys s.D).length c)) ∧ w.grownBy w' none := by
  have h0 := sto_dirty h.at_
  generalize keys s.D = ks at *
  refine h0.mono ?_
  rintro e w1 ⟨v, rfl, hr, hg⟩
  have hm := mine_row hr
  obtain ⟨A, c, rfl⟩ : ∃ A c, v = .slice A ks.length c := by
    rcases hr.2 with ⟨hv, hz⟩ | ⟨g, cap, cur, hv, _⟩
    · exact ⟨none, 0, by rw [hv, hz]⟩
    · exact ⟨_, _, hv⟩
  exact ⟨⟨A, c, rfl, hm⟩, hg⟩
theorem PMap.any {P Q : Nat → Prop} {m : Nat} (h : PMap w P m noPgs) : PMap w Q m noPgs := by
  obtain ⟨f, h1, h2⟩ := h.m
  refine ⟨⟨f, h1, fun k => .inl ?_⟩, h.ok⟩
  rcases h2 k with h3 | ⟨p, v, h3, _⟩
  · exact h3
  · cases h3
theorem Far.begin (h : Far W w N pg b tb g sb dm wm own s C none q) (hq : q < w.heap.size) : Calls Tryz.prog 14 #[.pointer (some ⟨sb, 0, none⟩)] w fun e w' =>
    e = .returned (.int .i64 0) ∧ ∃ wm', Far W w' N pg b tb g sb dm wm' own { s with W := some noPgs } C (some noPgs) q ∧ Turn w w' (Foot own tb g sb dm wm) (Foot own tb g sb dm wm') ∧ w.grownBy w' (some sb) := by
  refine (use_begin_g h.u).mono ?_
  rintro e w1 ⟨rfl, wm', h2, ht, hgb⟩
  have ht2 : Turn w w1 (fun i => Foot own tb g sb dm wm i ∨ i = q) (fun i => Foot own tb g sb dm wm' i ∨ i = q) :=
    ⟨ht.os, ht.tape, ht.output, ht.size, fun i hi hn => ht.block i hi (fun e => hn (.inl e)), fun i hi => by
      rcases hi with hi | hi
      · rcases ht.fresh i hi with h1 | h1
        · exact .inl (.inl h1)
        · exact .inr h1
      · exact .inl (.inr hi)⟩
  have hdn : dm ≠ sb := h.u.at_.odm.2
  refine ⟨rfl, wm', ⟨h2, h.d.turn ht2 (hgb.block dm h.d.lt (fun e => hdn (by cases e; rfl))), fun U m hU hm => ?_, fun e => ?_, h.lo⟩, ht, hgb⟩
  · obtain ⟨m', e, hm'⟩ := h2.at_.u U hU
    rw [hm] at e
    cases e
    cases hU
    exact hm'.any
  · rcases ht.fresh q e with h1 | h1
    · exact h.nq h1
    · omega
theorem Far.write {U : Pgs} (h : Far W w N pg b tb g sb dm wm own s C (some U) q) (hq : q < w.heap.size) {k : Nat} (hk : k < pg) {v : Value} {p : Pg} (hv : PgV w (Foot own tb g sb dm wm) v p) (hp : pageOk (k : Int) p.1 p.2 = true) (hl : (keys U).length < 40) :
    Calls Tryz.prog 15 #[.pointer (some ⟨sb, 0, none⟩), .int .i64 (k : Nat), v] w fun e w' => e = .returned (.int .i64 0) ∧ ∃ m, wm = some m ∧ Far W w' N pg b tb g sb dm (some m) own { s with W := some (upd U k (some p)) } C (some (upd U k (some p))) q ∧
      w.grownBy w' (some m) := by
  refine (use_write_g h.u hk hv hp hl).mono ?_
  rintro e w1 ⟨rfl, m, rfl, h2, hgb, hQ⟩
  have hm : dm ≠ m := fun e => (h.u.at_.owm m rfl).2.2 e.symm
  have ht : Turn w w1 (fun i => Foot own tb g sb dm (some m) i ∨ i = q) (fun i => Foot own tb g sb dm (some m) i ∨ i = q) := .of_grown hgb (fun j e => by cases e; exact .inl (.inr (.inr (.inr rfl))))
  refine ⟨rfl, m, rfl, ⟨h2, h.d.turn ht (hgb.block dm h.d.lt (fun e => hm (by cases e; rfl))), fun V m' hV hm' => ?_, h.nq, h.lo⟩, hgb⟩
  cases hm'
  cases hV
  refine hQ _ (fun i hi => ?_) (.inl (.inr (.inr (.inr rfl)))) (h.m U m h.u.w rfl)
  rcases hi with hi | hi
  · exact h.u.foot_lt hi
  · rw [hi]; exact hq
end
end Go.Proofs.YteaokeiolgjhaaaGreat.Sto
/- The walk over the law StoreOwns. -/
namespace Go.Proofs.YteaokeiolgjhaaaGreat.StoreOwnsUpto
open Go.ChangeShapes Go.WideShapes Go.ChangeAt Go.RowKit Go.Maps Go.Shelf
open Crc CrcMath Mem CodecMath Codec DiskSpec Dsk Sup Log Sto

/-- What stays true from deed to deed. -/
structure Ow (W wr : World) (b tb g sb dm : Nat) (own : Nat → Prop) (s : Sto) (C : Pgs) (j : Nat) : Prop where
  u : Use W wr 200 20 b tb g sb dm none own s C none
  gn : s.x.gn ≤ 3 + 2 * j
  ep : s.x.ep = 2
  sq : s.L.seq ≤ 1 + 2 * j
  ver : ∀ i, (s.S.ver i).length ≤ 2 * j
theorem len_filter (n : Nat) (p : Nat → Bool) : ((List.range n).filter p).length ≤ n := Nat.le_trans (List.length_filter_le _ _) (Nat.le_of_eq List.length_range)
theorem keys_le (D : Pgs) : (keys D).length ≤ 1024 := len_filter 1024 _
/-- .. from reading to reading: page k holds q. -/
structure On (W wr : World) (b tb g sb dm : Nat) (wm : Option Nat) (own : Nat → Prop) (s : Sto) (C : Pgs) (o : Option Pgs) (k : Nat) (q : Pg) (j r : Nat) : Prop where
  u : Use W wr 200 20 b tb g sb dm wm own s C o
  sn : Sto.seen C o k = some q
  one : (r = 0 ∧ o = some (upd noPgs k (some q))) ∨ (1 ≤ r ∧ o = none ∧ wm = none)
  gn : s.x.gn ≤ 3 + 2 * j + r ∧ s.x.gn ≤ 3 + 2 * j + 2
  ep : s.x.ep = 2
  sq : s.L.seq ≤ 1 + 2 * j + r ∧ s.L.seq ≤ 1 + 2 * j + 2
  ver : ∀ i, (s.S.ver i).length ≤ 2 * j + r ∧ (s.S.ver i).length ≤ 2 * j + 2
theorem On.to {W wr w' : World} {b tb g sb dm : Nat} {wm : Option Nat} {own : Nat → Prop} {s : Sto} {C : Pgs} {o : Option Pgs} {k : Nat} {q : Pg} {j r : Nat} (h : On W wr b tb g sb dm wm own s C o k q j r) (hu : Use W w' 200 20 b tb g sb dm wm own s C o) : On W w' b tb g sb dm wm own s C o k q j r :=
  ⟨hu, h.sn, h.one, h.gn, h.ep, h.sq, h.ver⟩
theorem On.next {W wr : World} {b tb g sb dm : Nat} {own : Nat → Prop} {s : Sto} {C : Pgs} {k : Nat} {q : Pg} {j r : Nat} (h : On W wr b tb g sb dm none own s C none k q j r) : On W wr b tb g sb dm none own s C none k q j (r + 1) :=
  ⟨h.u, h.sn, .inr ⟨by omega, rfl, rfl⟩, ⟨by have := h.gn.1; omega, h.gn.2⟩, h.ep, ⟨by have := h.sq.1; omega, h.sq.2⟩, fun i => ⟨by have := (h.ver i).1; omega, (h.ver i).2⟩⟩
theorem apart_may : mayB (fmtSb 1 20 30 100).l ((200 : Nat) : Int) = true := may_mk (x := fmtSb 1 20 30 100) (by decide) (by decide) (by decide) (by decide) (by decide) (by decide) (by decide)
theorem foot_out {w w' : World} {F F' : Nat → Prop} (ht : Turn w w' F F') {i : Nat} (hi : i < w.heap.size) (hn : ¬ F i) : ¬ F' i := fun e => by
  rcases ht.fresh i e with h1 | h1
  · exact hn h1
  · omega
theorem in64_wrap (z : Int) : In64 (IntKind.i64.wrap z) := by
  unfold In64
  rw [IntKind.wrap_i64]
  omega
set_option maxRecDepth 100000 in
set_option maxHeartbeats 6400000 in
theorem walk {H : Type} {enc : TypeId × Value → H} (W : World) (base : Nat) (v0 : Value) (d0 : DataW H) (p0 : List MemPlace)
    (o0 : Value.okWide Tryz.prog W .any base 22 v0)
    (h0 : DataW.Trod enc Tryz.prog W 0 (fun _ => true) true 22 v0 d0 p0)
    (_hsz : (DataW.weightsEach Tryz.prog [22] [d0]).all (· ≤ reachBytes) = true) (hk : Rows.uptoSmall H [d0] = true) :
    Calls Tryz.prog 4 #[v0] W fun e W' => e = .returned (.bool true) ∧ Below W.heap.size W W' := by
  obtain ⟨A, n, c, ops, rfl, hsc, hn⟩ := open_script6 o0 h0 hk (List.mem_cons_self ..)
  have HSC := Lib.hid hsc
  clear o0 h0 hk hsc
  have HN := Lib.hid (show Calls Tryz.prog 10 #[.int .i64 200] W fun e w' => ∃ b bd bm f own, e = .returned (.tuple #[.pointer (some ⟨b, 0, none⟩), .int .i64 0]) ∧ Lay w' W.heap.size b bd bm f (St.new 200) own ∧ W.grownBy w' none from disk_new 200 _ (by omega) (by omega))
  go_enter Tryz.func4, Tryz.ntmps4
  go_wp2_with fail
  refine HN.out.mono ?_
  rintro e w1 ⟨b, bd, bm, f, own, rfl, hl, hg1⟩
  have hf : Calls Tryz.prog 11 #[.pointer (some ⟨b, 0, none⟩), .int .i64 20, .int .i64 30, .int .i64 100] w1 fun e w' => e = .returned (.int .i64 0) ∧ ∃ own' dF, Fmt W w' 200 20 30 100 b own' dF :=
    use_format (W := W) (pg := 20) (st := 30) (ln := 100) (N := 200) ⟨bd, bm, f, hl⟩ hg1 (by omega) apart_may
  have HF := Lib.hid hf
  clear hl hg1 hf HN
  go_wp2_with fail
  refine HF.out.mono ?_
  rintro e w2 ⟨rfl, own2, dF, hfm⟩
  have HO := Lib.hid (use_open_fmt hfm (by omega))
  clear hfm HF
  go_wp2_with fail
  refine HO.out.mono ?_
  rintro e w3 ⟨tb, g, sb, dm, own3, s3, rfl, hb3⟩
  have HA3 := Lib.hid (show Ow W w3 b tb g sb dm own3 s3 noPgs 0 from
    ⟨hb3.u, by rw [hb3.xs]; exact Nat.le_refl _, by rw [hb3.xs]; rfl, by rw [hb3.ls]; exact Nat.le_refl _, fun i => by rw [hb3.ver i]; exact Nat.le_refl _⟩)
  clear hb3 HO
  go_wp2_with fail
  go_loopw [6, 7, 8, 9, 10, 11, 12, 13, 14, 15, 16] (fun i _ _ _ _ _ _ _ _ _ _ wr => ∃ (j : Nat) (ow : Nat → Prop) (s : Sto) (C : Pgs), j ≤ n ∧ i = .int .i64 j ∧ Ow W wr b tb g sb dm ow s C j) (fun i _ _ _ _ _ _ _ _ _ _ _ => n - (Go.RowKit.intOf i).toNat)
  case atStart => exact ⟨0, _, _, _, Nat.zero_le _, rfl, HA3.out⟩
  case round =>
    clear HA3
    obtain ⟨j, ow, s, C, hj, rfl, ha⟩ := hrel
    have HA := Lib.hid ha
    clear ha
    by_cases hlt : j < n
    · have hjn : (j : Int) < (n : Int) := by omega
      obtain ⟨gc, oc, x, rfl, hx, hxok, e0, e1, e2, e3, e4, e5, e6⟩ := HSC.out.at_ HA.out.u.gr hlt
      have HOK := Lib.hid hxok
      have HDN := Lib.hid (show ∀ wx : World, W.grownBy wx none → wx.cell? ⟨gc, oc + j * 7 + 4, none⟩ = some (.int .i64 x.num) from fun wx hg => by
        obtain ⟨g2, o2, x2, e, hx2, _, _, _, _, _, f4, _⟩ := HSC.out.at_ hg hlt
        cases e
        rw [hx] at hx2
        cases hx2
        exact f4)
      obtain ⟨kd, pa, wh, fi, nu, le, xA, xn, xc, picks⟩ := x
      dsimp only at *
      have HPK := Lib.hid (fun wx => show Calls Tryz.prog 13 #[.int .i64 pa, .int .i64 20] wx fun e w' => (∃ k : Nat, k < 20 ∧ e = .returned (.int .i64 (k : Nat))) ∧ w' = wx from pick_call pa HOK.out.page 20 (by omega) wx)
      have HPC := Lib.hid (page_call 0 0 5 fi 0 0 (.slice none 0 0) ⟨none, 0, 0, rfl⟩ (by decide) wr)
      clear hx hxok e0 e2 e4 e5 e6
      go_wp2_with fail
      refine (HPK.out _).mono ?_
      rintro e w2 ⟨⟨k, hk, rfl⟩, rfl⟩
      have HKK := Lib.hid hk
      clear HPK
      go_wp2_with fail
      refine HPC.out.mono ?_
      rintro e w4 ⟨gp, rfl, hgp, hbp, hg4⟩
      have hga := World.grownBy_alloc w4 (.cells #[.int .i64 5, .slice (some ⟨gp, 0, none⟩) 240 240] 40) none
      have hf5 := HA.out.u.far (hg4.trans hga) hgp
      have hb5 := hbp.alloc (.cells #[.int .i64 5, .slice (some ⟨gp, 0, none⟩) 240 240] 40)
      have HX5 := Lib.hid (Blk.new w4 40 #[.int .i64 5, .slice (some ⟨gp, 0, none⟩) 240 240])
      have HNX5 := Lib.hid (show ¬ Foot ow tb g sb dm none w4.heap.size from fun e => by have := HA.out.u.foot_lt e; have := hg4.size; omega)
      have hnp := hbp.lt
      have HXP := Lib.hid (show w4.heap.size ≠ gp by omega)
      have hdp := data_of_blk (own := Foot ow tb g sb dm none) hb5 (bodyOne_lt fi) hf5.nq
      rw [bodyOne_len] at hdp
      have hstr := run_str (data_bytes hdp (show Foot ow tb g sb dm none tb from .inl (.inl (.inr rfl)))) 240
      obtain ⟨ST, hST⟩ : ∃ ST, strOfNums ((bodyOne fi).map fun x : Nat => (x : Int)) = ST := ⟨_, rfl⟩
      rw [hST] at hstr
      have HST := Lib.hid hST
      have HF5 := Lib.hid hf5; have HB5 := Lib.hid hb5
      have HBG := Lib.hid (Far.begin HF5.out HB5.out.lt)
      have z1 := HX5.out.cell 1
      simp only [List.getElem?_toArray, List.getElem?_cons_zero, List.getElem?_cons_succ] at z1
      clear hga hf5 hb5 hgp hbp hg4 hnp hdp hST HPC e1 e3
      go_wp2_with fail
      generalize w4.alloc (.cells #[.int .i64 5, .slice (some ⟨gp, 0, none⟩) 240 240] 40) = w5 at *
      generalize w4.heap.size = xb at *
      clear hstr z1
      refine HBG.out.mono ?_
      rintro e w6 ⟨rfl, wm6, hf6, ht6, hg6⟩
      have HF6 := Lib.hid hf6
      have HX6 := Lib.hid (blk_of_block HX5.out (ht6.block xb HX5.out.lt HNX5.out))
      have HNX6 := Lib.hid (foot_out ht6 HX5.out.lt HNX5.out)
      have HB6 := Lib.hid (blk_of_block HB5.out (ht6.block gp HB5.out.lt HF5.out.nq))
      have hdp := data_of_blk (own := Foot ow tb g sb dm wm6) HB6.out (bodyOne_lt fi) hf6.nq
      rw [bodyOne_len] at hdp
      have HWR := Lib.hid (Far.write HF6.out HB6.out.lt HKK.out (v := .agg #[.int .i64 5, .slice (some ⟨gp, 0, none⟩) 240 240]) (p := ((5 : Int), bodyOne fi)) ⟨_, rfl, _, _, _, rfl, Nat.le_refl _, hdp⟩ (one_ok k (by have := HKK.out; omega) fi) (by rw [(keys_nil PgsOk.none_).2 rfl]; simp))
      have z0 := HX6.out.cell 0; have z1 := HX6.out.cell 1
      simp only [List.getElem?_toArray, List.getElem?_cons_zero, List.getElem?_cons_succ] at z0 z1
      clear hf6 ht6 hg6 hdp HBG HF5 HX5 HNX5 HB5
      go_wp2_with fail
      refine HWR.out.mono ?_
      rintro e w7 ⟨rfl, m7, rfl, hf7, hg7⟩
      have HF7 := Lib.hid hf7
      have HX7 := Lib.hid (HX6.out.grown hg7 (fun e => HNX6.out (.inr (.inr (.inr e.symm)))))
      have HB7 := Lib.hid (show ∃ cs : Array Value, cs.size = 240 ∧ Blk w7 gp 5 cs from ⟨_, by rw [List.size_toArray, u8s_length, bodyOne_len], HB6.out.grown hg7 (fun e => HF6.out.nq (.inr (.inr (.inr e.symm))))⟩)
      clear hf7 hg7 z0 z1 HWR HF6 HX6 HB6
      go_wp2_with fail
      go_loopw [10] (fun i wx => ∃ q : Nat, q ≤ 240 ∧ i = .int .i64 q ∧ Far W wx 200 20 b tb g sb dm (some m7) ow { s with W := some (upd noPgs k (some ((5 : Int), bodyOne fi))) } C (some (upd noPgs k (some ((5 : Int), bodyOne fi)))) gp ∧
        Blk wx xb 40 #[.int .i64 5, .slice (some ⟨gp, 0, none⟩) 240 240] ∧ ∃ cs : Array Value, cs.size = 240 ∧ Blk wx gp 5 cs) (fun i _ => 240 - (Go.RowKit.intOf i).toNat)
      case atStart => exact ⟨0, by omega, rfl, HF7.out, HX7.out, HB7.out⟩
      case round =>
        clear HF7 HX7 HB7
        obtain ⟨q, hq, rfl, hf8, hx8, cs, hcs, hb8⟩ := hrel
        have HF8 := Lib.hid hf8; have HX8 := Lib.hid hx8; have HB8 := Lib.hid hb8
        have z1 := HX8.out.cell 1
        simp only [List.getElem?_toArray, List.getElem?_cons_zero, List.getElem?_cons_succ] at z1
        clear hf8 hx8 hb8
        by_cases hlq : q < 240
        · have hqn : (q : Int) < 240 := by omega
          have zc := HB8.out.cell q
          rw [Array.getElem?_eq_getElem (by omega : q < cs.size)] at zc
          have zf := HB8.out.frozen q
          have hgs := Lib.grownBy_setB (World.grownBy.refl wr (some gp)) q (.int .u8 99)
          have HF9 := Lib.hid (HF8.out.step hgs)
          have HX9 := Lib.hid (HX8.out.grown hgs (fun e => HXP.out (by cases e; rfl)))
          have HB9 := Lib.hid (show ∃ cs : Array Value, cs.size = 240 ∧ Blk (wr.setCell ⟨gp, q, none⟩ (.int .u8 99)) gp 5 cs from ⟨_, by rw [Array.size_setIfInBounds]; exact hcs, HB8.out.set_ q _⟩)
          clear hgs HF8 HX8 HB8
          go_wp2_with fail
          go_roundw
          case rel => exact ⟨q + 1, by omega, by first | rfl | simp, HF9.out, HX9.out, HB9.out⟩
          case measure => simp [Go.RowKit.intOf]; omega
        · have hqn : ¬ ((q : Int) < 240) := by omega
          have HO8 := Lib.hid (show On W wr b tb g sb dm (some m7) ow { s with W := some (upd noPgs k (some ((5 : Int), bodyOne fi))) } C (some (upd noPgs k (some ((5 : Int), bodyOne fi)))) k ((5 : Int), bodyOne fi) j 0 from
            ⟨HF8.out.u, by show over C (upd noPgs k (some ((5 : Int), bodyOne fi))) k = _; rw [over_one, upd_same], .inl ⟨rfl, rfl⟩, ⟨by have := HA.out.gn; show s.x.gn ≤ _; omega, by have := HA.out.gn; show s.x.gn ≤ _; omega⟩, HA.out.ep,
              ⟨by have := HA.out.sq; show s.L.seq ≤ _; omega, by have := HA.out.sq; show s.L.seq ≤ _; omega⟩, fun i => ⟨by have := HA.out.ver i; show (s.S.ver i).length ≤ _; omega, by have := HA.out.ver i; show (s.S.ver i).length ≤ _; omega⟩⟩)
          clear HF8 HX8 HB8 HA HXP HNX6
          go_wp2_with fail
          clear z1
          go_loopw [11, 12, 13, 14] (fun i _ _ _ wy => ∃ (r : Nat) (wm : Option Nat) (ow : Nat → Prop) (s : Sto) (C : Pgs) (o : Option Pgs), r ≤ 3 ∧ i = .int .i64 r ∧ On W wy b tb g sb dm wm ow s C o k ((5 : Int), bodyOne fi) j r) (fun i _ _ _ _ => 3 - (Go.RowKit.intOf i).toNat)
          case atStart => exact ⟨0, _, _, _, _, _, by omega, rfl, HO8.out⟩
          case round =>
            clear HO8
            obtain ⟨r, wm8, ow8, s8, C8, o8, hr, rfl, ho8⟩ := hrel
            have HO := Lib.hid ho8
            clear ho8
            by_cases hr3 : r < 3
            · have hrn : (r : Int) < 3 := by omega
              have HRD := Lib.hid (use_read_m HO.out.u HKK.out)
              go_wp2_with fail
              refine HRD.out.mono ?_
              rintro e w9 ⟨v, rfl, hv, hmv, hu9, ht9⟩
              rw [show (Sto.seen C8 o8 k).getD (0, []) = ((5 : Int), bodyOne fi) from by rw [HO.out.sn]; rfl] at hv
              obtain ⟨_, rfl, Ay, ny, cy, rfl, hny, hdy⟩ := hv
              dsimp only at hdy hmv
              have hny2 : ny = 240 := by have := hdy.1; rw [bodyOne_len] at this; omega
              subst hny2
              obtain ⟨gy, oy, ty, Ly, rfl, hgy, hby, hsz⟩ := hmv.get _ _ _ rfl (by omega)
              have hfy := Far.read HO.out.u hu9 ht9 hgy
              have hga := World.grownBy_alloc w9 (.cells #[.int .i64 5, .slice (some ⟨gy, oy, none⟩) 240 cy] 40) none
              have HFY := Lib.hid (hfy.quiet hga)
              have HBY := Lib.hid (hby.alloc (.cells #[.int .i64 5, .slice (some ⟨gy, oy, none⟩) 240 cy] 40))
              have HXY := Lib.hid (Blk.new w9 40 #[.int .i64 5, .slice (some ⟨gy, oy, none⟩) 240 cy])
              have hyl := hby.lt
              have HNE := Lib.hid (show w9.heap.size ≠ gy by omega)
              have hstr := run_str (data_bytes (Dsk.Data.turn hdy (Turn.none_ hga)) (show (fun i => i < wr.heap.size) tb from HO.out.u.foot_lt (.inl (.inl (.inr rfl))))) cy
              rw [HST.out] at hstr
              have z1 := HXY.out.cell 1
              simp only [List.getElem?_toArray, List.getElem?_cons_zero, List.getElem?_cons_succ] at z1
              have HSZ := Lib.hid hsz
              clear hga hfy hby hyl hdy hmv hu9 ht9 hgy hsz hny HRD
              go_wp2_with fail
              generalize w9.alloc (.cells #[.int .i64 5, .slice (some ⟨gy, oy, none⟩) 240 cy] 40) = wz at *
              generalize w9.heap.size = yb at *
              clear hstr z1
              go_loopw [14] (fun i wy => ∃ q : Nat, q ≤ 240 ∧ i = .int .i64 q ∧ Far W wy 200 20 b tb g sb dm wm8 ow8 s8 C8 o8 gy ∧ Blk wy yb 40 #[.int .i64 5, .slice (some ⟨gy, oy, none⟩) 240 cy] ∧ ∃ cs : Array Value, oy + 240 ≤ cs.size ∧ Blk wy gy ty cs) (fun i _ => 240 - (Go.RowKit.intOf i).toNat)
              case atStart => exact ⟨0, by omega, rfl, HFY.out, HXY.out, _, HSZ.out, HBY.out⟩
              case round =>
                clear HFY HXY HBY HSZ
                obtain ⟨q, hq, rfl, hf9, hx9, cs, hcs, hb9⟩ := hrel
                have HF9 := Lib.hid hf9; have HX9 := Lib.hid hx9; have HB9 := Lib.hid hb9
                have z1 := HX9.out.cell 1
                simp only [List.getElem?_toArray, List.getElem?_cons_zero, List.getElem?_cons_succ] at z1
                clear hf9 hx9 hb9
                by_cases hlq : q < 240
                · have hqn : (q : Int) < 240 := by omega
                  have zc := HB9.out.cell (oy + q)
                  rw [Array.getElem?_eq_getElem (by omega : oy + q < cs.size)] at zc
                  have zf := HB9.out.frozen (oy + q)
                  have hgs := Lib.grownBy_setB (World.grownBy.refl wr (some gy)) (oy + q) (.int .u8 98)
                  have HF10 := Lib.hid (HF9.out.step hgs)
                  have HX10 := Lib.hid (HX9.out.grown hgs (fun e => HNE.out (by cases e; rfl)))
                  have HB10 := Lib.hid (show ∃ cs : Array Value, oy + 240 ≤ cs.size ∧ Blk (wr.setCell ⟨gy, oy + q, none⟩ (.int .u8 98)) gy ty cs from ⟨_, by rw [Array.size_setIfInBounds]; exact hcs, HB9.out.set_ (oy + q) _⟩)
                  clear hgs HF9 HX9 HB9
                  go_wp2_with fail
                  go_roundw
                  case rel => exact ⟨q + 1, by omega, by first | rfl | simp, HF10.out, HX10.out, HB10.out⟩
                  case measure => simp [Go.RowKit.intOf]; omega
                · have hqn : ¬ ((q : Int) < 240) := by omega
                  have HOY := Lib.hid (HO.out.to HF9.out.u)
                  clear HF9 HX9 HB9 HO HNE
                  have hrc : r = 0 ∨ r = 1 ∨ r = 2 := by omega
                  rcases hrc with hr0 | hr1 | hr2
                  · have tb0 : ((r : Int) == 0) = true := by simp; omega
                    have tb1 : ((r : Int) == 1) = false := by simp; omega
                    have HR0 := Lib.hid hr0
                    obtain rfl : o8 = some (upd noPgs k (some ((5 : Int), bodyOne fi))) := by
                      rcases HOY.out.one with ⟨_, h⟩ | ⟨h, _⟩
                      · exact h
                      · omega
                    have HCM := Lib.hid (use_commit HOY.out.u (by have := HOY.out.gn.1; omega) (by have := HOY.out.ep; omega) (by have := HOY.out.sq.1; omega) (fun i => by have := (HOY.out.ver i).1; omega))
                    clear hr0
                    go_wp2_with fail
                    refine HCM.out.mono ?_
                    rintro e w10 ⟨rfl, own10, s10, hu10, hn10, ht10⟩
                    have HO10 := Lib.hid (show On W w10 b tb g sb dm none own10 s10 (over C8 (upd noPgs k (some ((5 : Int), bodyOne fi)))) none k ((5 : Int), bodyOne fi) j (r + 1) from
                      ⟨hu10, by show over C8 _ k = _; rw [over_one, upd_same], .inr ⟨by omega, rfl, rfl⟩,
                        by have h1 := hn10.gn.2; have h2 := HOY.out.gn.1; have := HR0.out; omega, hn10.ep.trans HOY.out.ep,
                        by have h1 := hn10.seq.2; have h2 := HOY.out.sq.1; have := HR0.out; omega, fun i => by have h1 := hn10.ver i; have h2 := (HOY.out.ver i).1; have := HR0.out; omega⟩)
                    clear hu10 hn10 ht10 HCM HOY
                    go_wp2_with fail
                    go_roundw
                    case rel => exact ⟨r + 1, _, _, _, _, _, by omega, by first | rfl | simp, HO10.out⟩
                    case measure => simp [Go.RowKit.intOf]; omega
                  · have tb0 : ((r : Int) == 0) = false := by simp; omega
                    have tb1 : ((r : Int) == 1) = true := by simp; omega
                    have HR1 := Lib.hid hr1
                    obtain ⟨rfl, rfl⟩ : o8 = none ∧ wm8 = none := by
                      rcases HOY.out.one with ⟨h, _⟩ | ⟨_, h⟩
                      · omega
                      · exact h
                    clear hr1
                    have e4 := HDN.out wr HOY.out.u.gr
                    obtain ⟨tm, htm⟩ : ∃ tm, nu.tmod 2 = tm := ⟨_, rfl⟩
                    by_cases h0 : tm = 0
                    · have h0b : (tm == 0) = true := by simp [h0]
                      have HCK := Lib.hid (use_checkpoint HOY.out.u (by have := HOY.out.gn.1; omega) (by have := HOY.out.sq.1; omega) (fun i => by have := (HOY.out.ver i).1; omega))
                      go_wp2_with fail
                      refine HCK.out.mono ?_
                      rintro e w10 ⟨rfl, own10, s10, hu10, hn10, ht10, _⟩
                      have HO10 := Lib.hid (show On W w10 b tb g sb dm none own10 s10 C8 none k ((5 : Int), bodyOne fi) j (r + 1) from
                        ⟨hu10, HOY.out.sn, .inr ⟨by omega, rfl, rfl⟩,
                          by have h1 := hn10.gn.2; have h2 := HOY.out.gn.1; have := HR1.out; omega, hn10.ep.trans HOY.out.ep,
                          by have h1 := hn10.seq.2; have h2 := HOY.out.sq.1; have := HR1.out; omega, fun i => by have h1 := hn10.ver i; have h2 := (HOY.out.ver i).1; have := HR1.out; omega⟩)
                      clear hu10 hn10 ht10 HCK HOY e4
                      go_wp2_with fail
                      go_roundw
                      case rel => exact ⟨r + 1, _, _, _, _, _, by omega, by first | rfl | simp, HO10.out⟩
                      case measure => simp [Go.RowKit.intOf]; omega
                    · have h0b : (tm == 0) = false := by simpa using h0
                      have HO10 := Lib.hid HOY.out.next
                      clear HOY
                      go_wp2_with fail
                      go_roundw
                      case rel => exact ⟨r + 1, _, _, _, _, _, by omega, by first | rfl | simp, HO10.out⟩
                      case measure => simp [Go.RowKit.intOf]; omega
                  · have tb0 : ((r : Int) == 0) = false := by simp; omega
                    have tb1 : ((r : Int) == 1) = false := by simp; omega
                    obtain ⟨rfl, rfl⟩ : o8 = none ∧ wm8 = none := by
                      rcases HOY.out.one with ⟨h, _⟩ | ⟨_, h⟩
                      · omega
                      · exact h
                    clear hr2
                    have HO10 := Lib.hid HOY.out.next
                    clear HOY
                    go_wp2_with fail
                    go_roundw
                    case rel => exact ⟨r + 1, _, _, _, _, _, by omega, by first | rfl | simp, HO10.out⟩
                    case measure => simp [Go.RowKit.intOf]; omega
            · have hre : r = 3 := by omega
              have hrn : ¬ ((r : Int) < 3) := by omega
              obtain ⟨rfl, rfl⟩ : o8 = none ∧ wm8 = none := by
                rcases HO.out.one with ⟨h, _⟩ | ⟨_, h⟩
                · omega
                · exact h
              have HDT := Lib.hid (use_dirty_m HO.out.u)
              have HKB := Lib.hid (show (keys s8.D).length ≤ 1024 from keys_le _)
              generalize (keys s8.D).length = K at *
              have hKB := HKB.out
              go_wp2_with fail
              refine HDT.out.mono ?_
              rintro e w9 ⟨⟨Al, cl, rfl, hml⟩, hg9⟩
              have HU9 := Lib.hid (HO.out.u.quiet hg9)
              have HL9 := Lib.hid (show 0 < K → ∃ (gl ol : Nat) (tl : TypeId) (cs : Array Value), Al = some ⟨gl, ol, none⟩ ∧ Far W w9 200 20 b tb g sb dm none ow8 s8 C8 none gl ∧ Blk w9 gl tl cs ∧ ol + K ≤ cs.size from fun h => by
                obtain ⟨gl, ol, tl, cs, e, hgl, hb, hs⟩ := hml _ _ _ rfl h
                exact ⟨gl, ol, tl, cs, e, HO.out.u.far hg9 hgl, hb, hs⟩)
              have HBD := Lib.hid (show s8.x.gn ≤ 3 + 2 * (j + 1) ∧ s8.x.ep = 2 ∧ s8.L.seq ≤ 1 + 2 * (j + 1) ∧ ∀ i, (s8.S.ver i).length ≤ 2 * (j + 1) from
                ⟨by have := HO.out.gn.2; omega, HO.out.ep, by have := HO.out.sq.2; omega, fun i => by have := (HO.out.ver i).2; omega⟩)
              clear hml hg9 HDT HO HST HDN HKK
              go_wp2_with fail
              go_loopw [16] (fun i wy => ∃ q : Nat, q ≤ K ∧ i = .int .i64 q ∧ Use W wy 200 20 b tb g sb dm none ow8 s8 C8 none ∧ (0 < K → ∃ (gl ol : Nat) (tl : TypeId) (cs : Array Value), Al = some ⟨gl, ol, none⟩ ∧ Far W wy 200 20 b tb g sb dm none ow8 s8 C8 none gl ∧ Blk wy gl tl cs ∧ ol + K ≤ cs.size)) (fun i _ => K - (Go.RowKit.intOf i).toNat)
              case atStart => exact ⟨0, by omega, rfl, HU9.out, HL9.out⟩
              case round =>
                clear HU9 HL9
                obtain ⟨q, hq, rfl, hu9, hl9⟩ := hrel
                have HU9 := Lib.hid hu9
                have HL9 := Lib.hid hl9
                clear hu9 hl9
                by_cases hlq : q < K
                · have hqn : (q : Int) < (K : Int) := by omega
                  obtain ⟨gl, ol, tl, cs, rfl, hf, hb, hs⟩ := HL9.out (by omega)
                  have zc := hb.cell (ol + q)
                  rw [Array.getElem?_eq_getElem (by omega : ol + q < cs.size)] at zc
                  have zf := hb.frozen (ol + q)
                  have hgs := Lib.grownBy_setB (World.grownBy.refl wr (some gl)) (ol + q) (.int .i64 (-1))
                  have hf2 := hf.step hgs
                  have hb2 := hb.set_ (ol + q) (.int .i64 (-1))
                  have HU10 := Lib.hid hf2.u
                  have HL10 := Lib.hid (show 0 < K → ∃ (g2 o2 : Nat) (t2 : TypeId) (cs : Array Value), some (⟨gl, ol, none⟩ : Addr) = some ⟨g2, o2, none⟩ ∧ Far W (wr.setCell ⟨gl, ol + q, none⟩ (.int .i64 (-1))) 200 20 b tb g sb dm none ow8 s8 C8 none g2 ∧ Blk (wr.setCell ⟨gl, ol + q, none⟩ (.int .i64 (-1))) g2 t2 cs ∧ o2 + K ≤ cs.size from
                    fun _ => ⟨gl, ol, tl, _, rfl, hf2, hb2, by rw [Array.size_setIfInBounds]; exact hs⟩)
                  clear hf hb hgs hf2 hb2 HU9 HL9
                  go_wp2_with fail
                  go_roundw
                  case rel => exact ⟨q + 1, by omega, by first | rfl | simp, HU10.out, HL10.out⟩
                  case measure => simp [Go.RowKit.intOf]; omega
                · have hqn : ¬ ((q : Int) < (K : Int)) := by omega
                  clear HL9
                  go_wp2_with fail
                  go_roundw
                  case rel => exact ⟨j + 1, _, _, _, by omega, by first | rfl | simp, HU9.out, HBD.out.1, HBD.out.2.1, HBD.out.2.2.1, HBD.out.2.2.2⟩
                  case measure => simp [Go.RowKit.intOf]; omega
    · have hje : j = n := by omega
      have hjn : ¬ ((j : Int) < (n : Int)) := by omega
      have HLV := Lib.hid (lives_call wr)
      clear HSC
      go_wp2_with fail
      refine HLV.out.mono ?_
      rintro e w2 ⟨rfl, hg2⟩
      have HE := Lib.hid (HA.out.u.gr.trans hg2)
      clear hg2 HLV
      go_wp2_with fail
      go_ret
      exact ⟨rfl, below_of_grown HE.out (Nat.le_refl _) (fun _ e => by cases e)⟩
end Go.Proofs.YteaokeiolgjhaaaGreat.StoreOwnsUpto
