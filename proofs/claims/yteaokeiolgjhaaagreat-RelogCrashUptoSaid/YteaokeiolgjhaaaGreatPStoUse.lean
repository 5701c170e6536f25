/- Texts of this seat's proofs: StoUse, StoLives. -/
import Derived.Test.YteaokeiolgjhaaaGreatPStoLatest
import Derived.Test.YteaokeiolgjhaaaGreatPStoCommit
import Derived.Test.YteaokeiolgjhaaaGreatPStoGood3
/- A store as a law uses it: each call on a disk that does not fail. -/
namespace Go.Proofs.YteaokeiolgjhaaaGreat.Sto
open Go.RowKit Go.Maps Go.Shelf CrcMath CodecMath Mem Crc Codec DiskSpec Dsk Sup Log

theorem filter_upd (U : Pgs) (k : Nat) (v : Option Pg) : ∀ (R : List Nat), R.Nodup → (R.filter fun j => (upd U k v j).isSome).length ≤ (R.filter fun j => (U j).isSome).length + 1
  | [], _ => by simp
  | a :: r, h => by
    rw [List.nodup_cons] at h
    have ih := filter_upd U k v r h.2
    by_cases e : a = k
    · subst e
      have hr : (r.filter fun j => (upd U a v j).isSome) = r.filter fun j => (U j).isSome := by
        refine List.filter_congr fun j hj => ?_
        rw [upd_ne _ _ (fun e => h.1 (by rw [← e]; exact hj))]
      simp only [List.filter_cons]
      rw [hr]
      split <;> split <;> (try simp only [List.length_cons]) <;> omega
    · have ha : upd U k v a = U a := upd_ne _ _ e
      simp only [List.filter_cons, ha]
      split <;> (try simp only [List.length_cons]) <;> omega
theorem keys_upd (U : Pgs) (k : Nat) (v : Option Pg) : (keys (upd U k v)).length ≤ (keys U).length + 1 := filter_upd U k v _ List.nodup_range
theorem UOk.none_ (pg : Nat) : UOk pg noPgs := ⟨PgsOk.none_, fun k hk => (by cases hk), by rw [(keys_nil PgsOk.none_).2 rfl]; exact Nat.zero_le _⟩
theorem UOk.put {pg : Nat} {U : Pgs} (h : UOk pg U) {k : Nat} {q : Pg} (hk : k < pg) (hq : pageOk (k : Int) q.1 q.2 = true) (hl : (keys U).length < 40) : UOk pg (upd U k (some q)) := by
  refine ⟨h.ok.upd hq, fun j hj => ?_, Nat.le_trans (keys_upd U k (some q)) (by omega)⟩
  by_cases e : j = k
  · omega
  · rw [upd_ne _ _ e] at hj; exact h.lt j hj
/-- A store in a law. -/
structure Use (W wr : World) (N pg b tb g sb dm : Nat) (wm : Option Nat) (own : Nat → Prop) (s : Sto) (C : Pgs) (o : Option Pgs) : Prop where
  at_ : StoAt wr W.heap.size b tb g sb dm wm own s
  gr : W.grownBy wr none
  gd : ∃ ls sure, GoodS N pg s ls sure
  w : s.W = o
  sees : Sees pg s C
theorem grown_foot {W w w' : World} {P P' : Nat → Prop} (hg : W.grownBy w none) (ht : Turn w w' P P') (hP : ∀ i, P i → W.heap.size ≤ i) : W.grownBy w' none :=
  ⟨ht.os.trans hg.os, ht.tape.trans hg.tape, ht.output.trans hg.output, Nat.le_trans hg.size ht.size, fun i hi _ => (ht.block i (Nat.lt_of_lt_of_le hi hg.size) (fun h => by have := hP i h; omega)).trans (hg.block i hi (by simp))⟩
section
variable {W w w' : World} {N pg b tb g sb dm : Nat} {wm : Option Nat} {own own' : Nat → Prop} {s s' : Sto} {C : Pgs} {o : Option Pgs}
theorem Use.quiet (h : Use W w N pg b tb g sb dm wm own s C o) (hg : w.grownBy w' none) : Use W w' N pg b tb g sb dm wm own s C o := ⟨h.at_.quiet hg, h.gr.trans hg, h.gd, h.w, h.sees⟩
theorem Use.foot_lt (h : Use W w N pg b tb g sb dm wm own s C o) {i : Nat} (hi : Foot own tb g sb dm wm i) : i < w.heap.size := h.at_.foot_lt hi
theorem Use.out (h : Use W w N pg b tb g sb dm wm own s C o) {P' : Nat → Prop} (ht : Turn w w' (Foot own tb g sb dm wm) P') : W.grownBy w' none := grown_foot h.gr ht (fun _ hi => h.at_.foot_low hi)
theorem Use.pg_ (h : Use W w N pg b tb g sb dm wm own s C o) : s.x.pg = pg := by obtain ⟨ls, sure, hg⟩ := h.gd; exact hg.pgs
theorem Use.has_ (h : Use W w N pg b tb g sb dm wm own s C o) {k : Nat} (hk : k < pg) : s.has (k : Int) = true := by
  have := h.pg_
  simp [Sto.has]
  omega
theorem use_begin (h : Use W w N pg b tb g sb dm wm own s C none) : Calls Tryz.prog 14 #[.pointer (some ⟨sb, 0, none⟩)] w fun e w' =>
    e = .returned (.int .i64 0) ∧ ∃ wm', Use W w' N pg b tb g sb dm wm' own { s with W := some noPgs } C (some noPgs) ∧ Turn w w' (Foot own tb g sb dm wm) (Foot own tb g sb dm wm') := by
  have hb : beginE s = (0, { s with W := some noPgs }) := by
    unfold beginE
    rw [h.w]
    rfl
  have h1 := sto_begin h.at_
  rw [hb] at h1
  refine h1.mono ?_
  rintro e w1 ⟨rfl, wm', h2, ht⟩
  obtain ⟨ls, sure, hg⟩ := h.gd
  exact ⟨rfl, wm', ⟨h2, h.out ht, ⟨ls, sure, hg.begun (UOk.none_ pg)⟩, rfl, h.sees⟩, ht⟩
theorem use_write {U : Pgs} (h : Use W w N pg b tb g sb dm wm own s C (some U)) {k : Nat} (hk : k < pg) {v : Value} {q : Pg} (hv : PgV w (Foot own tb g sb dm wm) v q) (hq : pageOk (k : Int) q.1 q.2 = true) (hl : (keys U).length < 40) :
    Calls Tryz.prog 15 #[.pointer (some ⟨sb, 0, none⟩), .int .i64 (k : Nat), v] w fun e w' => e = .returned (.int .i64 0) ∧ ∃ own', Use W w' N pg b tb g sb dm wm own' { s with W := some (upd U k (some q)) } C (some (upd U k (some q))) ∧
      Turn w w' (Foot own tb g sb dm wm) (Foot own' tb g sb dm wm) := by
  have hb : writePE s (k : Int) q = (0, { s with W := some (upd U k (some q)) }) := by
    have hw := h.w
    unfold writePE
    rw [hw]
    simp only
    rw [if_neg (by rw [h.has_ hk]; simp), if_neg (by rw [hq]; simp), if_neg (by omega), show (k : Int).toNat = k by omega]
  have h1 := sto_write h.at_ (k : Int) hv h.w (h.has_ hk)
  rw [hb] at h1
  refine h1.mono ?_
  rintro e w1 ⟨rfl, own', h2, ht⟩
  obtain ⟨ls, sure, hg⟩ := h.gd
  exact ⟨rfl, own', ⟨h2, h.out ht, ⟨ls, sure, hg.begun ((hg.w U h.w).put hk hq hl)⟩, rfl, h.sees⟩, ht⟩
theorem use_abort {U : Option Pgs} (h : Use W w N pg b tb g sb dm wm own s C U) : Calls Tryz.prog 17 #[.pointer (some ⟨sb, 0, none⟩)] w fun e w' =>
    e = .returned (.tuple #[]) ∧ Use W w' N pg b tb g sb dm none own s.idle C none ∧ Turn w w' (Foot own tb g sb dm wm) (Foot own tb g sb dm none) := by
  refine (sto_abort h.at_).mono ?_
  rintro e w1 ⟨rfl, h2, ht⟩
  obtain ⟨ls, sure, hg⟩ := h.gd
  exact ⟨rfl, ⟨h2, h.out ht, ⟨ls, sure, hg.idle⟩, rfl, h.sees⟩, ht⟩
theorem use_commit {U : Pgs} (h : Use W w N pg b tb g sb dm wm own s C (some U)) (hgn : s.x.gn < 1099511627776) (he : s.x.ep ≤ 4294967295) (hs : s.L.seq ≤ 1099511627775) (hv : ∀ i, (s.S.ver i).length < 549755600000) :
    Calls Tryz.prog 18 #[.pointer (some ⟨sb, 0, none⟩)] w fun e w' => e = .returned (.int .i64 0) ∧ ∃ own' s', Use W w' N pg b tb g sb dm none own' s' (over C U) none ∧ Near s s' ∧
      Turn w w' (Foot own tb g sb dm wm) (Foot own' tb g sb dm none) := by
  obtain ⟨ls, sure, hg⟩ := h.gd
  obtain ⟨s', ls', sure', e1, hg', hC', hW', hn⟩ := hg.commit h.w h.sees hgn he hs
  have h1 := sto_commit h.at_ hv
  rw [e1] at h1
  refine h1.mono ?_
  rintro e w1 ⟨rfl, own', h2, ht⟩
  exact ⟨rfl, own', s', ⟨h2, h.out ht, ⟨ls', sure', hg'⟩, hW', hC'⟩, hn, ht⟩
theorem use_checkpoint (h : Use W w N pg b tb g sb dm wm own s C none) (hgn : s.x.gn < 1099511627776) (hs : s.L.seq ≤ 1099511627776) (hv : ∀ i, (s.S.ver i).length < 549755600000) :
    Calls Tryz.prog 21 #[.pointer (some ⟨sb, 0, none⟩)] w fun e w' => e = .returned (.int .i64 0) ∧ ∃ own' s', Use W w' N pg b tb g sb dm wm own' s' C none ∧ Near s s' ∧
      Turn w w' (Foot own tb g sb dm wm) (Foot own' tb g sb dm wm) ∧ keys s'.D = [] ∧ s'.x.gn = s.x.gn + (if keys s.D = [] then 0 else 1) ∧ (keys s.D = [] → s' = s) := by
  obtain ⟨ls, sure, hg⟩ := h.gd
  obtain ⟨s', ls', sure', e1, hg', hC', hW', hn, hk, hx, hsame⟩ := hg.checkpoint h.w h.sees hgn hs
  have h1 := sto_checkpoint h.at_ (fun i => by have := hv i; omega)
  rw [e1] at h1
  refine h1.mono ?_
  rintro e w1 ⟨rfl, own', h2, ht⟩
  exact ⟨rfl, own', s', ⟨h2, h.out ht, ⟨ls', sure', hg'⟩, hW', hC'⟩, hn, ht, hk, hx, hsame⟩
theorem use_sync (h : Use W w N pg b tb g sb dm wm own s C none) :
    Calls Tryz.prog 39 #[.pointer (some ⟨sb, 0, none⟩)] w fun e w' => e = .returned (.int .i64 0) ∧ ∃ own', Use W w' N pg b tb g sb dm wm own' { s with S := s.S.flush } C none ∧
      Turn w w' (Foot own tb g sb dm wm) (Foot own' tb g sb dm wm) ∧ ∃ ls, GoodS N pg { s with S := s.S.flush } ls ls.length := by
  obtain ⟨ls, sure, hg⟩ := h.gd
  have e1 : syncE s = (0, { s with S := s.S.flush }) := by
    unfold syncE
    rw [if_neg (by rw [h.w]; simp), flush_quiet hg.d.q]
    rfl
  have h1 := sto_sync h.at_
  rw [e1] at h1
  refine h1.mono ?_
  rintro e w1 ⟨rfl, own', h2, ht⟩
  have hf : Sees pg { s with S := s.S.flush } C := fun k hk => by
    have := h.sees k hk
    have e : s.S.flush.now (2 + k) = s.S.now (2 + k) := St.now_nil (S := s.S.flush) rfl
    show match s.D k with | some q => C k = some q | none => (C k = none ∧ s.S.flush.now (2 + k) = DiskSpec.zeros) ∨ ∃ q, C k = some q ∧ pageOk (k : Int) q.1 q.2 = true ∧ s.S.flush.now (2 + k) = pgF k q
    rw [e]
    exact this
  exact ⟨rfl, own', ⟨h2, h.out ht, ⟨ls, _, hg.flush⟩, h.w, hf⟩, ht, ls, hg.flush⟩
/-- What a page reads as. -/
def seen (C : Pgs) (o : Option Pgs) : Pgs := match o with | some U => over C U | none => C
theorem use_read (h : Use W w N pg b tb g sb dm wm own s C o) {k : Nat} (hk : k < pg) :
    Calls Tryz.prog 19 #[.pointer (some ⟨sb, 0, none⟩), .int .i64 (k : Nat)] w fun e w' => ∃ v, e = .returned (.tuple #[v, .int .i64 0]) ∧ PgV w' (fun i => i < w.heap.size) v ((seen C o k).getD (0, [])) ∧
      Use W w' N pg b tb g sb dm wm own s C o ∧ Turn w w' (Foot own tb g sb dm wm) (Foot own tb g sb dm wm) := by
  obtain ⟨ls, sure, hg⟩ := h.gd
  have e1 := hg.read h.sees k hk
  rw [h.w] at e1
  have h1 := sto_read h.at_ (k : Int) (h.has_ hk)
  rw [e1] at h1
  refine h1.mono ?_
  rintro e w1 ⟨v, rfl, hv, h2, ht⟩
  exact ⟨v, rfl, hv, ⟨h2, h.out ht, ⟨ls, sure, hg⟩, h.w, h.sees⟩, ht⟩
/-- A disk of a law, behind Format. -/
structure Fmt (W w : World) (N pg st ln b : Nat) (own : Nat → Prop) (dF : Nat → List Nat) : Prop where
  at_ : DAt w W.heap.size b (plain N dF) own
  gr : W.grownBy w none
  sup : SupG N (plain N dF) (fmtSb 2 pg st ln).l
  z : ∀ i, 2 ≤ i → dF i = DiskSpec.zeros
theorem use_format {st ln : Nat} (h : DAt w W.heap.size b (St.new N) own) (hg : W.grownBy w none) (hN : N ≤ 4096) (hm : mayB (fmtSb 1 pg st ln).l (N : Int) = true) :
    Calls Tryz.prog 11 #[.pointer (some ⟨b, 0, none⟩), .int .i64 (pg : Nat), .int .i64 (st : Nat), .int .i64 (ln : Nat)] w fun e w' => e = .returned (.int .i64 0) ∧ ∃ own' dF, Fmt W w' N pg st ln b own' dF := by
  have hlow : ∀ i, own i → W.heap.size ≤ i := fun i hi => by obtain ⟨_, _, _, hd⟩ := h; exact hd.low i hi
  obtain ⟨dF, e1, hs, hz⟩ := format_good hN hm
  have h1 := format_yes h hg.size (pg : Nat) (st : Nat) (ln : Nat) hm (fun i => by show ([] : List (List Nat)).length < _; simp)
  rw [show formatE (St.new N) (pg : Nat) (st : Nat) (ln : Nat) = (0, plain N dF) from e1] at h1
  refine h1.mono ?_
  rintro e w1 ⟨rfl, own', hd, ht⟩
  exact ⟨rfl, own', dF, hd, grown_foot hg ht hlow, hs, hz⟩
/-- A store that is opened. -/
structure Began (W w : World) (N pg b tb g sb dm : Nat) (own : Nat → Prop) (s : Sto) (C : Pgs) (x : Sb) : Prop where
  u : Use W w N pg b tb g sb dm none own s C none
  xs : s.x = x.next
  ls : s.L = x.next.log
  ds : s.D = noPgs
  ver : ∀ i, s.S.ver i = []
theorem use_open {dur : Nat → List Nat} (h : DAt w W.heap.size b (plain N dur) own) (hg : W.grownBy w none) (x : Sb) {ls : List (List Img)} {M : Lg} (hd : DiskG N pg x.ep (plain N dur)) (hs : SupG N (plain N dur) x.l) (hpg : x.pg = pg) (htop : N ≤ 4096) (hR : RecsG pg ls)
    (hgn : x.gn < 1099511627776) (hep : x.ep < 1099511627776) (hsq : x.sq ≤ 1099511000000) (hO : openR (plain N dur) x.log.ln x.log = (recsOf (x.sq : Int) ls, M)) {C : Pgs} (hC : Sees pg ⟨plain N dur, M, x, latestOf (recsOf (x.sq : Int) ls), none⟩ C) :
    Calls Tryz.prog 12 #[.pointer (some ⟨b, 0, none⟩)] w fun e w' => ∃ tb g sb dm own' s', e = .returned (.tuple #[.pointer (some ⟨sb, 0, none⟩), .int .i64 0]) ∧ Began W w' N pg b tb g sb dm own' s' C x ∧ Turn w w' own (Foot own' tb g sb dm none) := by
  have hlow : ∀ i, own i → W.heap.size ≤ i := fun i hi => by obtain ⟨_, _, _, hd⟩ := h; exact hd.low i hi
  obtain ⟨S2, d3, hbr, hsv, hgd, hsees⟩ := open_good (M := M) hd hs hpg htop hR hgn hep
  refine (sto_open h hg.size x hs.best hs.may hgn hep hsq hO (by rw [recsOf_len]; have := hR.1; omega) (fun r hr => ?_) hbr hsv).mono ?_
  · have h9 := hR.2 _ (recsOf_mem hr)
    exact ⟨h9.1, fun y hy => (h9.2 y hy).1⟩
  · rintro e w1 ⟨tb, g, sb, dm, own', rfl, h2, ht⟩
    exact ⟨tb, g, sb, dm, own', _, rfl, ⟨⟨h2, grown_foot hg ht hlow, ⟨[], 0, hgd⟩, rfl, hsees C hC⟩, rfl, rfl, rfl, fun _ => rfl⟩, ht⟩
theorem use_open_fmt {st ln : Nat} {dF : Nat → List Nat} (h : Fmt W w N pg st ln b own dF) (hN : N ≤ 4096) :
    Calls Tryz.prog 12 #[.pointer (some ⟨b, 0, none⟩)] w fun e w' => ∃ tb g sb dm own' s', e = .returned (.tuple #[.pointer (some ⟨sb, 0, none⟩), .int .i64 0]) ∧ Began W w' N pg b tb g sb dm own' s' noPgs (fmtSb 2 pg st ln) := by
  have hok : (plain N dF).ok := by obtain ⟨_, _, _, hd⟩ := h.at_; exact hd.ok
  refine (use_open h.at_ h.gr (fmtSb 2 pg st ln) (ls := []) (M := (fmtSb 2 pg st ln).log) (format_disk h.z) h.sup rfl hN ⟨by simp, fun l hl => by cases hl⟩ (by show 2 < _; omega) (by show 1 < _; omega) (by show 1 ≤ _; omega) (format_open h.sup h.z hok) (format_sees h.z _ _)).mono ?_
  rintro e w1 ⟨tb, g, sb, dm, own', s', rfl, hb, _⟩
  exact ⟨tb, g, sb, dm, own', s', rfl, hb⟩
/-- A disk of a law, behind a crash. -/
structure Fell (W w : World) (N pg b : Nat) (own : Nat → Prop) (dur : Nat → List Nat) (x : Sb) (ls : List (List Img)) (M : Lg) : Prop where
  at_ : DAt w W.heap.size b (plain N dur) own
  gr : W.grownBy w none
  d : DiskG N pg x.ep (plain N dur)
  sup : SupG N (plain N dur) x.l
  pgs : x.pg = pg
  top : N ≤ 4096
  rec_ : RecsG pg ls
  op : openR (plain N dur) x.log.ln x.log = (recsOf (x.sq : Int) ls, M)
theorem use_crash (h : Use W w N pg b tb g sb dm wm own s C o) (A : Option Addr) (n cc : Nat) (picks : List Int) (hp : Picks w own A n picks) (hnm : n ≤ 9223372036854775807) (hroom : ∀ i, (s.S.ver i).length < 549755813888) :
    Calls Tryz.prog 23 #[.pointer (some ⟨b, 0, none⟩), .slice A n cc] w fun e w' => e = .returned (.tuple #[]) ∧ Turn w w' own own ∧ ∃ dur ls' M, Fell W w' N pg b own dur s.x ls' M ∧
      ((∃ ls, GoodS N pg s ls ls.length) → s.S.ver = (fun _ => []) → Sees pg ⟨plain N dur, M, s.x, latestOf (recsOf (s.x.sq : Int) ls'), none⟩ C) := by
  have hok := h.at_.l.s.ok
  have hlow : ∀ i, own i → W.heap.size ≤ i := fun i hi => h.at_.foot_low (.inl (.inl (.inl hi)))
  refine (disk_crash_all h.at_.l.s.d A n cc picks hp hnm hroom).mono ?_
  rintro e w1 ⟨rfl, hd, ht⟩
  by_cases hx : ∃ ls, GoodS N pg s ls ls.length
  · obtain ⟨ls, hg⟩ := hx
    obtain ⟨dur, ls', M, e1, h1, h2, h3, h4, h5⟩ := hg.crash hok picks
    rw [e1] at hd
    exact ⟨rfl, ht, dur, ls', M, ⟨hd, grown_foot h.gr ht hlow, h1, h2, hg.pgs, hg.top, h4, h3⟩, fun _ hv => h5 rfl hv C h.sees⟩
  · obtain ⟨ls, sure, hg⟩ := h.gd
    obtain ⟨dur, ls', M, e1, h1, h2, h3, h4, h5⟩ := hg.crash hok picks
    rw [e1] at hd
    exact ⟨rfl, ht, dur, ls', M, ⟨hd, grown_foot h.gr ht hlow, h1, h2, hg.pgs, hg.top, h4, h3⟩, fun hy => absurd hy hx⟩
end
end Go.Proofs.YteaokeiolgjhaaaGreat.Sto
/- The laws' small living whole: a page that was committed and synced is there behind a crash. -/
namespace Go.Proofs.YteaokeiolgjhaaaGreat.Sto
open Go.RowKit Go.Maps Go.Shelf CrcMath CodecMath Mem Crc Codec DiskSpec Dsk Sup Log

/-- A page that a law has in a variable. -/
structure KeepX (w : World) (F : Nat → Prop) (xb gp : Nat) (k : Int) (l : List Nat) : Prop where
  v : Blk w xb 40 #[.int .i64 k, .slice (some ⟨gp, 0, none⟩) 240 240]
  b : Blk w gp 5 (u8s l).toArray
  nv : ¬ F xb
  nb : ¬ F gp
  len : l.length = 240
  lt : ∀ x ∈ l, x < 256
section
variable {w w' : World} {F F' : Nat → Prop} {xb gp : Nat} {k : Int} {l : List Nat}
theorem KeepX.turn (h : KeepX w F xb gp k l) (ht : Turn w w' F F') : KeepX w' F' xb gp k l :=
  ⟨blk_of_block h.v (ht.block xb h.v.lt h.nv), blk_of_block h.b (ht.block gp h.b.lt h.nb), fun e => by
    rcases ht.fresh _ e with h1 | h1
    · exact h.nv h1
    · have := h.v.lt; omega, fun e => by
    rcases ht.fresh _ e with h1 | h1
    · exact h.nb h1
    · have := h.b.lt; omega, h.len, h.lt⟩
theorem KeepX.quiet (h : KeepX w F xb gp k l) (hg : w.grownBy w' none) : KeepX w' F xb gp k l := h.turn (Turn.none_ hg)
theorem KeepX.weak (h : KeepX w F xb gp k l) (hq : ∀ i, F' i → F i) : KeepX w F' xb gp k l := ⟨h.v, h.b, fun e => h.nv (hq _ e), fun e => h.nb (hq _ e), h.len, h.lt⟩
theorem KeepX.val (h : KeepX w F xb gp k l) : PgV w F (.agg #[.int .i64 k, .slice (some ⟨gp, 0, none⟩) 240 240]) (k, l) := by
  have hd := data_of_blk (own := F) h.b h.lt h.nb
  rw [h.len] at hd
  exact ⟨_, rfl, _, _, _, rfl, Nat.le_refl _, hd⟩
theorem KeepX.cells (h : KeepX w F xb gp k l) : w.cell? ⟨xb, 0, none⟩ = some (.int .i64 k) ∧ w.cell? ⟨xb, 1, none⟩ = some (.slice (some ⟨gp, 0, none⟩) 240 240) := ⟨by rw [h.v.cell]; rfl, by rw [h.v.cell]; rfl⟩
end
theorem one_ok (k : Nat) (hk : k < 1024) (f : Int) : pageOk (k : Int) (5 : Int) (bodyOne f) = true := by
  unfold pageOk
  rw [bodyOne_len]
  simp [inB]
  refine ⟨by omega, fun x hx => ?_⟩
  have := bodyOne_lt f x hx
  omega
theorem lives_may : mayB (fmtSb 1 16 18 64).l ((128 : Nat) : Int) = true := may_mk (x := fmtSb 1 16 18 64) (by decide) (by decide) (by decide) (by decide) (by decide) (by decide) (by decide)
set_option maxRecDepth 100000 in
set_option maxHeartbeats 3200000 in
theorem lives_call (w : World) : Calls Tryz.prog 20 #[] w fun e w' => e = .returned (.bool true) ∧ w.grownBy w' none := by
  have HN := Lib.hid (show Calls Tryz.prog 10 #[.int .i64 128] w fun e w' => ∃ b bd bm f own, e = .returned (.tuple #[.pointer (some ⟨b, 0, none⟩), .int .i64 0]) ∧ Lay w' w.heap.size b bd bm f (St.new 128) own ∧ w.grownBy w' none from disk_new 128 _ (by omega) (by omega))
  go_enter Tryz.func20, Tryz.ntmps20
  go_wp2_with fail
  refine HN.out.mono ?_
  rintro e w1 ⟨b, bd, bm, f, own, rfl, hl, hg1⟩
  have hf : Calls Tryz.prog 11 #[.pointer (some ⟨b, 0, none⟩), .int .i64 16, .int .i64 18, .int .i64 64] w1 fun e w' => e = .returned (.int .i64 0) ∧ ∃ own' dF, Fmt w w' 128 16 18 64 b own' dF :=
    use_format (W := w) (pg := 16) (st := 18) (ln := 64) (N := 128) ⟨bd, bm, f, hl⟩ hg1 (by omega) lives_may
  have HF := Lib.hid hf
  clear hl hg1 hf HN
  go_wp2_with fail
  refine HF.out.mono ?_
  rintro e w2 ⟨rfl, own2, dF, hfm⟩
  have HO := Lib.hid (use_open_fmt hfm (by omega))
  clear hfm HF
  go_wp2_with fail
  refine HO.out.mono ?_
  rintro e w3 ⟨tb, g, sb, dm, own3, s3, rfl, hb3⟩
  have HB3 := Lib.hid hb3
  have HPC := Lib.hid (page_call 0 0 5 7 0 0 (.slice none 0 0) ⟨none, 0, 0, rfl⟩ (by decide) w3)
  clear hb3 HO
  go_wp2_with fail
  refine HPC.out.mono ?_
  rintro e w4 ⟨gp, rfl, hgp, hbp, hg4⟩
  have hga := World.grownBy_alloc w4 (.cells #[.int .i64 5, .slice (some ⟨gp, 0, none⟩) 240 240] 40) none
  have hnx : ¬ Foot own3 tb g sb dm none w4.heap.size := fun e => by have := HB3.out.u.foot_lt e; have := hg4.size; omega
  have hng : ¬ Foot own3 tb g sb dm none gp := fun e => by have := HB3.out.u.foot_lt e; omega
  have HX5 := Lib.hid (show KeepX (w4.alloc (.cells #[.int .i64 5, .slice (some ⟨gp, 0, none⟩) 240 240] 40)) (Foot own3 tb g sb dm none) w4.heap.size gp 5 (bodyOne 7) from ⟨Blk.new w4 _ _, hbp.grown hga (by simp), hnx, hng, bodyOne_len 7, bodyOne_lt 7⟩)
  have HU5 := Lib.hid ((HB3.out.u.quiet hg4).quiet hga)
  have HBG := Lib.hid (use_begin HU5.out)
  have HXX := Lib.hid HB3.out.xs
  have HLL := Lib.hid HB3.out.ls
  have HVV := Lib.hid HB3.out.ver
  clear hga hnx hng hgp hbp hg4 HPC HB3
  go_wp2_with fail
  generalize w4.heap.size = xb at *
  refine HBG.out.mono ?_
  rintro e w5 ⟨rfl, wm5, hu5, ht5⟩
  have HU6 := Lib.hid hu5
  have HX6 := Lib.hid (HX5.out.turn ht5)
  clear hu5 ht5 HBG HU5 HX5
  obtain ⟨x0, x1⟩ := HX6.out.cells
  have hlen0 : (keys noPgs).length < 40 := by rw [(keys_nil PgsOk.none_).2 rfl]; simp
  have HWR := Lib.hid (show Calls Tryz.prog 15 #[.pointer (some ⟨sb, 0, none⟩), .int .i64 3, .agg #[.int .i64 5, .slice (some ⟨gp, 0, none⟩) 240 240]] w5 _ from use_write HU6.out (k := 3) (by omega) HX6.out.val (one_ok 3 (by omega) 7) hlen0)
  clear hlen0
  go_wp2_with fail
  refine HWR.out.mono ?_
  rintro e w6 ⟨rfl, own6, hu6, ht6⟩
  have HU7 := Lib.hid hu6
  have HX7 := Lib.hid (HX6.out.turn ht6)
  clear hu6 ht6 HWR HU6 HX6 x0 x1
  have HCM := Lib.hid (use_commit HU7.out (by show s3.x.gn < _; rw [HXX.out]; show 2 + 1 < _; omega) (by show s3.x.ep ≤ _; rw [HXX.out]; show 1 + 1 ≤ _; omega) (by show s3.L.seq ≤ _; rw [HLL.out]; show 1 ≤ _; omega) (fun i => by show (s3.S.ver i).length < _; rw [HVV.out i]; simp))
  go_wp2_with fail
  refine HCM.out.mono ?_
  rintro e w7 ⟨rfl, own7, s7, hu7, hn7, ht7⟩
  have HU8 := Lib.hid hu7
  have HX8 := Lib.hid (HX7.out.turn ht7)
  have HXN := Lib.hid (show s7.x.gn ≤ 5 ∧ s7.x.ep ≤ 5 from by
    have h1 := hn7.gn; have h2 := hn7.ep
    have h3 : s7.x.gn ≤ s3.x.gn + 1 := h1.2
    have h4 : s7.x.ep = s3.x.ep := h2
    rw [HXX.out] at h3 h4
    have h5 : (fmtSb 2 16 18 64).next.gn = 3 := rfl
    have h6 : (fmtSb 2 16 18 64).next.ep = 2 := rfl
    omega)
  have HSQ := Lib.hid (show s7.x.sq ≤ 100 from by
    obtain ⟨ls, sure, hg⟩ := hu7.gd
    have h1 := hg.seq
    have h2 : s7.L.seq ≤ s3.L.seq + 1 := hn7.seq.2
    rw [HLL.out] at h2
    have h3 : (fmtSb 2 16 18 64).next.log.seq = 1 := rfl
    omega)
  clear hu7 ht7 hn7 HCM HU7 HX7
  have HSY := Lib.hid (use_sync HU8.out)
  go_wp2_with fail
  refine HSY.out.mono ?_
  rintro e w8 ⟨rfl, own8, hu8, ht8, hgs8⟩
  have HU9 := Lib.hid hu8
  have HX9 := Lib.hid ((HX8.out.turn ht8).weak (F' := own8) (fun i hi => .inl (.inl (.inl hi))))
  have HGS := Lib.hid hgs8
  clear hu8 ht8 hgs8 HSY HU8 HX8
  have HCR := Lib.hid (use_crash HU9.out none 0 0 [] (Picks.nil _ _) (by omega) (fun i => by show ([] : List (List Nat)).length < _; simp))
  go_wp2_with fail
  refine HCR.out.mono ?_
  rintro e w9 ⟨rfl, ht9, dur, ls9, M, hfl, hsee⟩
  have HX10 := Lib.hid (HX9.out.turn ht9)
  have hop := use_open hfl.at_ hfl.gr s7.x hfl.d hfl.sup hfl.pgs hfl.top hfl.rec_ (by have := HXN.out; omega) (by have := HXN.out; omega) (by have := HSQ.out; omega) hfl.op (hsee HGS.out rfl)
  have HOP := Lib.hid hop
  clear ht9 hfl hsee HCR HX9 HU9 HGS hop
  go_wp2_with fail
  refine HOP.out.mono ?_
  rintro e w10 ⟨tb', g', sb', dm', own10, s10, rfl, hb10, ht10⟩
  have HU11 := Lib.hid hb10.u
  have HX11 := Lib.hid (HX10.out.turn ht10)
  clear hb10 ht10 HOP HX10
  have HRD := Lib.hid (show Calls Tryz.prog 19 #[.pointer (some ⟨sb', 0, none⟩), .int .i64 3] w10 _ from use_read HU11.out (k := 3) (by omega))
  go_wp2_with fail
  refine HRD.out.mono ?_
  rintro e w11 ⟨v, rfl, hv, hu11, ht11⟩
  have hsn : ((seen (over noPgs (upd noPgs 3 (some ((5 : Int), bodyOne 7)))) none) 3).getD (0, []) = ((5 : Int), bodyOne 7) := rfl
  rw [hsn] at hv
  have hsb : sb' < w10.heap.size := HU11.out.foot_lt (.inr (.inl rfl))
  have hv2 : PgV w11 (fun i => i = sb') v ((5 : Int), bodyOne 7) := hv.weak (fun i _ e => by omega)
  have HX12 := Lib.hid ((HX11.out.turn ht11).weak (F' := fun i => i = sb') (fun i e => .inr (.inl e)))
  have HG := Lib.hid hu11.gr
  obtain ⟨_, rfl, Av, nv, cv, rfl, hnc, hdv⟩ := hv2
  have hga := World.grownBy_alloc w11 (.cells #[.int .i64 5, .slice Av nv cv] 40) none
  have HX13 := Lib.hid (HX12.out.quiet hga)
  have HV13 := Lib.hid (show PgV (w11.alloc (.cells #[.int .i64 5, .slice Av nv cv] 40)) (fun i => i = sb') (.agg #[.int .i64 5, .slice Av nv cv]) ((5 : Int), bodyOne 7) from ⟨_, rfl, Av, nv, cv, rfl, hnc, Dsk.Data.turn hdv (Turn.none_ hga)⟩)
  have HGA := Lib.hid (HG.out.trans hga)
  have HSM := Lib.hid (same_call HX13.out.val HV13.out rfl)
  obtain ⟨x0, x1⟩ := HX13.out.cells
  clear hv hu11 ht11 hsn hsb hdv hnc hga HRD HX11 HU11 HX12
  go_wp2_with fail
  refine HSM.out.mono ?_
  rintro e w12 ⟨rfl, hg12⟩
  have HG12 := Lib.hid (HGA.out.trans hg12)
  clear hg12 HSM
  go_wp2_with fail
  go_ret
  exact ⟨by simp, HG12.out⟩
end Go.Proofs.YteaokeiolgjhaaaGreat.Sto
