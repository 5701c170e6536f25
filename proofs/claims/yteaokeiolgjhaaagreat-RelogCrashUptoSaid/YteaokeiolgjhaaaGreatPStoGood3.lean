/- Texts of this seat's proofs: StoGood3, StoGood4. -/
import Derived.Test.YteaokeiolgjhaaaGreatPFrameSum
import Derived.Test.YteaokeiolgjhaaaGreatPStoLatest
/- A store on a disk that does not fail, in plain words: what is committed, what is read. -/
namespace Go.Proofs.YteaokeiolgjhaaaGreat.Sto
open Go.RowKit CrcMath CodecMath Codec DiskSpec Dsk Sup Log

section
variable {N pg : Nat} {s s' : Sto} {ls : List (List Img)} {sure : Nat} {C : Pgs}
/-- What a call may have changed. -/
structure Near (s s' : Sto) : Prop where
  ep : s'.x.ep = s.x.ep
  gn : s.x.gn ≤ s'.x.gn ∧ s'.x.gn ≤ s.x.gn + 1
  seq : s.L.seq ≤ s'.L.seq ∧ s'.L.seq ≤ s.L.seq + 1
  pl : s'.x.st = s.x.st ∧ s'.x.ln = s.x.ln
  ver : ∀ i, (s'.S.ver i).length ≤ (s.S.ver i).length + 1
theorem Near.refl (s : Sto) : Near s s := ⟨rfl, ⟨Nat.le_refl _, Nat.le_succ _⟩, ⟨Nat.le_refl _, Nat.le_succ _⟩, ⟨rfl, rfl⟩, fun _ => Nat.le_succ _⟩
theorem Near.idle_ (s : Sto) : Near s s.idle := ⟨rfl, ⟨Nat.le_refl _, Nat.le_succ _⟩, ⟨Nat.le_refl _, Nat.le_succ _⟩, ⟨rfl, rfl⟩, fun _ => Nat.le_succ _⟩
theorem Sees.ckpt (h : GoodS N pg s ls sure) (hC : Sees pg s C) {T : St} (hT : ∀ k, k < pg → T.now (2 + k) = (match s.D k with | some q => pgF k q | none => s.S.now (2 + k))) {L : Lg} {x : Sb} {W : Option Pgs} : Sees pg ⟨T, L, x, noPgs, W⟩ C := fun k hk => by
  have h1 := hC k hk
  have h2 := hT k hk
  show (C k = none ∧ T.now (2 + k) = _) ∨ ∃ q, C k = some q ∧ pageOk (k : Int) q.1 q.2 = true ∧ T.now (2 + k) = pgF k q
  cases hq : s.D k with
  | some q =>
    rw [hq] at h1 h2
    exact .inr ⟨q, h1, h.dok k q hq, h2⟩
  | none =>
    rw [hq] at h1 h2
    simp only at h1 h2
    rw [h2]
    exact h1
theorem Sees.log (hC : Sees pg s C) {U : Pgs} {T : St} (hT : ∀ k, k < pg → T.now (2 + k) = s.S.now (2 + k)) {L : Lg} {x : Sb} {W : Option Pgs} : Sees pg ⟨T, L, x, over s.D U, W⟩ (over C U) := fun k hk => by
  have h1 := hC k hk
  have h2 := hT k hk
  show match over s.D U k with | some q => over C U k = some q | none => (over C U k = none ∧ T.now (2 + k) = _) ∨ ∃ q, over C U k = some q ∧ pageOk (k : Int) q.1 q.2 = true ∧ T.now (2 + k) = pgF k q
  unfold over
  cases hu : U k with
  | some q => rfl
  | none =>
    simp only
    cases hq : s.D k with
    | some q => rw [hq] at h1; exact h1
    | none =>
      rw [hq] at h1
      rw [h2]
      exact h1
theorem over_none {D U : Pgs} (h : PgsOk U) (hk : keys U = []) : over D U = D := by
  have := (keys_nil h).1 hk
  subst this
  rfl
theorem GoodS.commit (h : GoodS N pg s ls sure) {U : Pgs} (hW : s.W = some U) (hC : Sees pg s C) (hgn : s.x.gn < 1099511627776) (he : s.x.ep ≤ 4294967295) (hs : s.L.seq ≤ 1099511627775) :
    ∃ s' ls' sure', commitE s = (0, s') ∧ GoodS N pg s' ls' sure' ∧ Sees pg s' (over C U) ∧ s'.W = none ∧ Near s s' := by
  have hU := h.w U hW
  by_cases hk : keys U = []
  · refine ⟨s.idle, ls, sure, ?_, h.idle, ?_, rfl, Near.idle_ s⟩
    · unfold commitE
      rw [hW]
      simp only
      rw [if_pos hk]
    · rw [over_none hU.ok hk]; exact hC
  · have hE : commitE s = doneE U (appendWE s (rising U)) := by
      unfold commitE
      rw [hW]
      simp only
      rw [if_neg hk]
    rw [hE]
    have hm := may_facts h.may
    have hlen := rising_len U
    have h40 : (rising U).length ≤ 40 := by rw [hlen]; exact hU.most
    have h1 : 1 ≤ (rising U).length := by
      rw [hlen]
      cases hku : keys U with
      | nil => exact absurd hku hk
      | cons a r => simp
    have hdone : ∀ (T : St) (L : Lg) (x : Sb) (D : Pgs) (W : Option Pgs), doneE U (0, ⟨T, L, x, D, W⟩) = (0, ⟨T, L, x, over D U, none⟩) := fun _ _ _ _ _ => rfl
    have hap : ∀ (r : Int × Sto), logE s (rising U) = r → r.1 = 0 → appendWE s (rising U) = r := fun r e e0 => by
      unfold appendWE
      rw [e, if_neg (by omega)]
    have hap2 : ∀ (r1 r2 r3 : Int × Sto), logE s (rising U) = r1 → r1.1 = 15 → ckptE r1.2 = r2 → r2.1 = 0 → logE r2.2 (rising U) = r3 → appendWE s (rising U) = r3 := fun r1 r2 r3 e1 e15 e2 e0 e3 => by
      unfold appendWE
      rw [e1, if_pos e15, e2]
      unfold retryE
      rw [if_neg (by omega), if_pos e0, e3]
    by_cases hr : 1 + (keys U).length ≤ s.L.room
    · obtain ⟨T, e, hg, hn, hv⟩ := h.log hU hk he hs hr
      refine ⟨_, _, _, ?_, hg.idle, Sees.log hC hn, rfl, ⟨rfl, ⟨Nat.le_refl _, Nat.le_succ _⟩, ⟨Nat.le_succ _, Nat.le_refl _⟩, ⟨rfl, rfl⟩, hv⟩⟩
      rw [hap _ e rfl]
      rfl
    · have hnr := h.room
      have hkd : ¬ (keys s.D = [] ∧ 0 < s.L.room) := fun ⟨hd, _⟩ => by
        have := h.emp hd
        subst this
        have : total ([] : List (List Img)) = 0 := rfl
        have := hU.most
        omega
      obtain ⟨T2, e2, hg2, hv2, hn2⟩ := h.ckpt hgn (by omega) hkd
      have hC2 := Sees.ckpt h hC hn2 (L := s.L.drop) (x := s.past) (W := s.W)
      have hroom2 := hg2.room
      have h41 := hU.most
      have hfull : logE s (rising U) = (15, s) := by
        unfold logE
        rw [append_full h40 h1 (rising_may hU.ok) (.inl (by rw [hlen]; omega))]
      generalize hs2 : ({ s with S := T2, L := s.L.drop, x := s.past, D := noPgs } : Sto) = s2 at *
      have z1 : s2.x = s.past := by rw [← hs2]
      have z2 : s2.L.seq = s.L.seq := by rw [← hs2]; rfl
      have z3 : s2.S = T2 := by rw [← hs2]
      obtain ⟨T, e, hg, hn, hv⟩ := hg2.log hU hk (by rw [z1]; exact he) (by omega) (by
        rw [hroom2, z1]
        show 1 + (keys U).length ≤ s.x.ln - 0
        omega)
      refine ⟨_, _, _, ?_, hg.idle, Sees.log hC2 hn, rfl, ⟨?_, ?_, ?_, ?_, fun i => ?_⟩⟩
      · rw [hap2 _ _ _ hfull rfl e2 rfl e]
        rfl
      · show s2.x.ep = _
        rw [z1]; rfl
      · show s.x.gn ≤ s2.x.gn ∧ s2.x.gn ≤ _
        rw [z1]
        exact ⟨Nat.le_succ _, Nat.le_refl _⟩
      · show s.L.seq ≤ s2.L.seq + 1 ∧ s2.L.seq + 1 ≤ _
        omega
      · show s2.x.st = _ ∧ s2.x.ln = _
        rw [z1]
        exact ⟨rfl, rfl⟩
      · have := hv i
        rw [z3, hv2] at this
        simp only [List.length_nil] at this
        show (T.ver i).length ≤ _
        omega
/-- A checkpoint. -/
theorem GoodS.checkpoint (h : GoodS N pg s ls sure) (hW : s.W = none) (hC : Sees pg s C) (hgn : s.x.gn < 1099511627776) (hs : s.L.seq ≤ 1099511627776) :
    ∃ s' ls' sure', checkpointE s = (0, s') ∧ GoodS N pg s' ls' sure' ∧ Sees pg s' C ∧ s'.W = none ∧ Near s s' ∧ keys s'.D = [] ∧
      s'.x.gn = s.x.gn + (if keys s.D = [] then 0 else 1) ∧ (keys s.D = [] → s' = s) := by
  have hE : checkpointE s = ckptE s := by
    unfold checkpointE
    rw [hW]
    exact if_neg (by simp)
  rw [hE]
  have hm := may_facts h.may
  by_cases hk : keys s.D = [] ∧ 0 < s.L.room
  · refine ⟨s, ls, sure, ?_, h, hC, hW, Near.refl s, hk.1, by rw [if_pos hk.1]; rfl, fun _ => rfl⟩
    unfold ckptE
    rw [if_pos hk]
  · have hkd : keys s.D ≠ [] := fun hd => hk ⟨hd, by
      have h1 := h.room
      have := h.emp hd
      subst this
      have : total ([] : List (List Img)) = 0 := rfl
      omega⟩
    obtain ⟨T2, e2, hg2, hv2, hn2⟩ := h.ckpt hgn hs hk
    have hC2 := Sees.ckpt h hC hn2 (L := s.L.drop) (x := s.past) (W := s.W)
    generalize hs2 : ({ s with S := T2, L := s.L.drop, x := s.past, D := noPgs } : Sto) = s2 at *
    have z1 : s2.x = s.past := by rw [← hs2]
    have z2 : s2.L.seq = s.L.seq := by rw [← hs2]; rfl
    have z3 : s2.S = T2 := by rw [← hs2]
    have z4 : s2.W = s.W := by rw [← hs2]
    have z5 : s2.D = noPgs := by rw [← hs2]
    have z6 : s2.x.gn = s.x.gn + 1 := by rw [z1]; rfl
    refine ⟨s2, _, _, e2, hg2, hC2, z4.trans hW, ⟨by rw [z1]; rfl, by omega, by omega, by rw [z1]; exact ⟨rfl, rfl⟩, fun i => ?_⟩, by rw [z5]; exact (keys_nil PgsOk.none_).2 rfl, by rw [if_neg hkd]; exact z6, fun hd => absurd hd hkd⟩
    rw [z3, hv2]
    exact Nat.zero_le _
/-- A page is read. -/
theorem GoodS.read (h : GoodS N pg s ls sure) (hC : Sees pg s C) (k : Nat) (hk : k < pg) : readPE s (k : Int) = (0, ((match s.W with | some U => over C U | none => C) k).getD (0, []), s) := by
  have hm := may_facts h.may
  have hp := h.pgs
  have hhas : s.has (k : Int) = true := by
    simp [Sto.has]
    omega
  have hrd : readE s.S (2 + (k : Int)) 1 = (0, s.S) := by
    have h1 := h.d.q.c.f1
    have h2 := h.d.n
    unfold readE
    rw [if_neg (by simp [St.has]; omega), if_neg (by omega), show s.S.f1 - 1 = s.S.f1 by omega]
  have hrl : readL s.S (2 + (k : Int)) 1 = s.S.now (2 + k) := by
    have h1 := h.d.q.c.f1
    have h2 := h.d.n
    unfold readL
    rw [if_neg (by simp [St.has]; omega), if_neg (by omega), show (2 + (k : Int)).toNat = 2 + k by omega]
    show St.reads _ _ 1 = _
    simp [St.reads]
  have hhome : s.D k = none → readHE s (k : Int) = (0, (C k).getD (0, [])) := fun hd => by
    have h1 := hC k hk
    rw [hd] at h1
    unfold readHE
    rw [hrd, if_pos rfl, hrl]
    rcases h1 with ⟨h1, h2⟩ | ⟨q, h1, h2, h3⟩
    · rw [h1, h2]
      rw [show pageR DiskSpec.zeros (k : Int) = some (0, []) from pageR_zero _]
      rfl
    · rw [h1, h3, pageR_of (kind := q.1) (body := q.2) (by rw [pageW, h2]; rfl)]
      rfl
  have hdisk : s.disk (readE s.S (2 + (k : Int)) 1).2 = s := by rw [hrd]; rfl
  have hkt : (k : Int).toNat = k := by omega
  have hE : readPE s (k : Int) = match s.kept k with | some q => (0, q, s) | none => ((readHE s (k : Int)).1, (readHE s (k : Int)).2, s.disk (readE s.S (2 + (k : Int)) 1).2) := by
    unfold readPE
    rw [if_neg (by rw [hhas]; simp), hkt]
    rfl
  rw [hE, hdisk]
  have h1 := hC k hk
  cases hW : s.W with
  | none =>
    have hkp : s.kept k = s.D k := by unfold Sto.kept; rw [hW]
    rw [hkp]
    cases hd : s.D k with
    | some q => rw [hd] at h1; simp only at h1; simp only [h1, Option.getD_some]
    | none => simp only [hhome hd]
  | some U =>
    have hkp : s.kept k = over s.D U k := by unfold Sto.kept; rw [hW]
    rw [hkp]
    show _ = (0, (over C U k).getD (0, []), s)
    cases hu : U k with
    | some q =>
      have e1 : over s.D U k = some q := by unfold over; rw [hu]
      have e2 : over C U k = some q := by unfold over; rw [hu]
      rw [e1, e2]
      rfl
    | none =>
      have e1 : over s.D U k = s.D k := by unfold over; rw [hu]
      have e2 : over C U k = C k := by unfold over; rw [hu]
      rw [e1, e2]
      cases hd : s.D k with
      | some q => rw [hd] at h1; simp only at h1; rw [h1]; rfl
      | none => simp only [hhome hd]
end
end Go.Proofs.YteaokeiolgjhaaaGreat.Sto
/- A store on a disk that does not fail, in plain words: Format, a crash, Open. -/
namespace Go.Proofs.YteaokeiolgjhaaaGreat.Sto
open Go.RowKit CrcMath CodecMath Codec DiskSpec Dsk Sup Log

/-! ### Format -/
structure WipedTo (N n : Nat) (T : St) : Prop where
  n : T.n = N
  q : Quiet6 T
  dur : T.dur = fun _ => DiskSpec.zeros
  ver : ∀ i, ∀ c ∈ T.ver i, c = DiskSpec.zeros
theorem wipe_to {N : Nat} : ∀ n, 2 + n ≤ N → (wipeE n (plain N fun _ => DiskSpec.zeros)).1 = 0 ∧ WipedTo N n (wipeE n (plain N fun _ => DiskSpec.zeros)).2
  | 0, _ => ⟨rfl, ⟨rfl, quiet_plain _ _, rfl, fun _ c hc => by cases hc⟩⟩
  | n + 1, h => by
    obtain ⟨h1, h2⟩ := wipe_to (N := N) n (by omega)
    rw [wipeE, if_pos h1]
    generalize (wipeE n (plain N fun _ => DiskSpec.zeros)).2 = T at *
    have hw : writeE T false (2 + (n : Int)) nilSec = (0, T.add (2 + n) nilSec) := by
      rw [show (2 : Int) + (n : Int) = ((2 + n : Nat) : Int) by omega]
      exact write_one h2.q.c (by have := h2.n; omega) List.length_replicate
    rw [hw]
    refine ⟨rfl, ⟨h2.n, h2.q.add _ _, h2.dur, fun i c hc => ?_⟩⟩
    have hc' : c ∈ upd T.ver (2 + n) (T.ver (2 + n) ++ [nilSec]) i := hc
    unfold upd at hc'
    split at hc'
    · rcases List.mem_append.1 hc' with h3 | h3
      · exact h2.ver _ c h3
      · rw [List.mem_singleton] at h3; exact h3
    · exact h2.ver i c hc'
theorem wiped_now {N n : Nat} {T : St} (h : WipedTo N n T) : T.now = fun _ => DiskSpec.zeros := by
  funext i
  rcases cand_now T i with hc | hc
  · rw [hc, h.dur]
  · exact h.ver i _ hc
/-- A superblock that Format saves. -/
def fmtSb (g pg st ln : Nat) : Sb := ⟨g, 1, pg, st, ln, 0, 1⟩
theorem fmt_may {pg st ln N : Nat} (hN : N ≤ 4096) (h : mayB (fmtSb 1 pg st ln).l (N : Int) = true) : mayB (fmtSb 2 pg st ln).l (N : Int) = true := by
  have hm := may_facts h
  exact may_mk (x := fmtSb 2 pg st ln) ⟨hm.1, hm.2.1⟩ hm.2.2.1 hm.2.2.2.1 hm.2.2.2.2.1 hm.2.2.2.2.2.1 ⟨by show 2 ≤ _; omega, by show 1 ≤ _; omega, by show 1 ≤ _; omega⟩ hN
theorem format_good {pg st ln N : Nat} (hN : N ≤ 4096) (h : mayB (fmtSb 1 pg st ln).l (N : Int) = true) :
    ∃ dF, formatE (plain N fun _ => DiskSpec.zeros) (pg : Nat) (st : Nat) (ln : Nat) = (0, plain N dF) ∧ SupG N (plain N dF) (fmtSb 2 pg st ln).l ∧ ∀ i, 2 ≤ i → dF i = DiskSpec.zeros := by
  have hm := may_facts h
  have h2 := fmt_may hN h
  obtain ⟨w1, w2⟩ := wipe_to (N := N) pg (by
    have h3 : 2 + pg ≤ st := hm.2.2.1
    have h4 : st + ln ≤ N := hm.2.2.2.2.1
    omega)
  have hfl : flushE (wipeE pg (plain N fun _ => DiskSpec.zeros)).2 = (0, plain N fun _ => DiskSpec.zeros) := by
    rw [flush_quiet w2.q, flush_plain w2.q, w2.n, wiped_now w2]
  have hs1 := plain_save (n := N) (dur := fun _ => DiskSpec.zeros) (s := (fmtSb 1 pg st ln).l) rfl h
  have hs2 := plain_save (n := N) (dur := upd (fun _ => DiskSpec.zeros) (placeOf (fmtSb 1 pg st ln).l) (frame (superB (fmtSb 1 pg st ln).l))) (s := (fmtSb 2 pg st ln).l) rfl h2
  have p1 : placeOf (fmtSb 1 pg st ln).l = 1 := rfl
  have p2 : placeOf (fmtSb 2 pg st ln).l = 0 := by show (((2 : Nat) : Int).tmod 2).toNat = 0; decide
  refine ⟨upd (upd (fun _ => DiskSpec.zeros) (placeOf (fmtSb 1 pg st ln).l) (frame (superB (fmtSb 1 pg st ln).l))) (placeOf (fmtSb 2 pg st ln).l) (frame (superB (fmtSb 2 pg st ln).l)), ?_, ⟨rfl, h2, upd_same _ _ _, fun p hp => ?_⟩, fun i hi => ?_⟩
  · have hb : bothE (plain N fun _ => DiskSpec.zeros) 1 1 (pg : Nat) (st : Nat) (ln : Nat) 0 1 = saveE (plain N (upd (fun _ => DiskSpec.zeros) (placeOf (fmtSb 1 pg st ln).l) (frame (superB (fmtSb 1 pg st ln).l)))) (fmtSb 2 pg st ln).l := by
      unfold bothE
      rw [show saveE (plain N fun _ => DiskSpec.zeros) [1, 1, (pg : Int), (st : Int), (ln : Int), 0, 1] = _ from hs1, if_pos rfl]
      rfl
    unfold formatE
    rw [show mayB [1, 1, (pg : Int), (st : Int), (ln : Int), 0, 1] ((plain N fun _ => DiskSpec.zeros).n : Nat) = true from h, if_pos rfl, show ((pg : Int)).toNat = pg by omega, if_pos w1]
    unfold formatB
    rw [hfl, if_pos rfl, hb]
    exact hs2
  · rw [p2, p1] at hp
    have e : (plain N (upd (upd (fun _ => DiskSpec.zeros) 1 (frame (superB (fmtSb 1 pg st ln).l))) 0 (frame (superB (fmtSb 2 pg st ln).l)))).dur (1 - 0) = frame (superB (fmtSb 1 pg st ln).l) := rfl
    have e2 : sound (N : Int) ((1 - 0 : Nat) : Int) (frame (superB (fmtSb 1 pg st ln).l)) = some (fmtSb 1 pg st ln).l := sound_of rfl h (by show ((1 : Nat) : Int).tmod 2 = ((1 - 0 : Nat) : Int); decide)
    rw [e, e2] at hp
    cases hp
    show (1 : Int) < 2
    omega
  · rw [p1, p2, upd_ne _ _ (by omega), upd_ne _ _ (by omega)]
/-! ### Open -/
section
variable {N pg : Nat} {s s' : Sto} {ls : List (List Img)} {sure : Nat} {C : Pgs}
theorem latest_ok {R : List Rec} (h : ∀ r ∈ R, ∀ y ∈ r.2, imgOk y = true) : PgsOk (latestOf R) := by
  unfold latestOf
  have key : ∀ (R : List Rec) (D : Pgs), PgsOk D → (∀ r ∈ R, ∀ y ∈ r.2, imgOk y = true) → PgsOk (R.foldl (fun D r => putImgs D r.2) D) := by
    intro R
    induction R with
    | nil => intro D h _; exact h
    | cons r R ih => intro D hD hr; exact ih _ (putImgs_ok hD (hr r (List.mem_cons_self ..))) (fun q hq => hr q (List.mem_cons_of_mem _ hq))
  exact key R _ PgsOk.none_ h
theorem putImgs_lt {pg : Nat} : ∀ {l : List Img} {D : Pgs}, (∀ k, (D k).isSome = true → k < pg) → (∀ y ∈ l, 0 ≤ y.1 ∧ y.1 < (pg : Int)) → ∀ k, (putImgs D l k).isSome = true → k < pg
  | [], D, h, _ => h
  | x :: r, D, h, hx => by
    refine putImgs_lt (D := upd D x.1.toNat (some (x.2.1, x.2.2))) (fun k hk => ?_) (fun y hy => hx y (List.mem_cons_of_mem _ hy))
    by_cases e : k = x.1.toNat
    · have := hx x (List.mem_cons_self ..); omega
    · rw [upd_ne _ _ e] at hk; exact h k hk
theorem latest_lt {pg : Nat} {R : List Rec} (h : ∀ r ∈ R, ∀ y ∈ r.2, 0 ≤ y.1 ∧ y.1 < (pg : Int)) : ∀ k, (latestOf R k).isSome = true → k < pg := by
  unfold latestOf
  have key : ∀ (R : List Rec) (D : Pgs), (∀ k, (D k).isSome = true → k < pg) → (∀ r ∈ R, ∀ y ∈ r.2, 0 ≤ y.1 ∧ y.1 < (pg : Int)) → ∀ k, (R.foldl (fun D r => putImgs D r.2) D k).isSome = true → k < pg := by
    intro R
    induction R with
    | nil => intro D h _; exact h
    | cons r R ih => intro D hD hr; exact ih _ (putImgs_lt hD (hr r (List.mem_cons_self ..))) (fun q hq => hr q (List.mem_cons_of_mem _ hq))
  exact key R _ (fun k hk => by cases hk) h
theorem recsOf_mem {r : Rec} : ∀ {q : Int} {ls : List (List Img)}, r ∈ recsOf q ls → r.2 ∈ ls
  | _, [], h => by cases h
  | q, l :: ls, h => by
    rcases List.mem_cons.1 h with h | h
    · rw [h]; exact List.mem_cons_self ..
    · exact List.mem_cons_of_mem _ (recsOf_mem h)
/-- Records that are read. -/
def RecsG (pg : Nat) (ls : List (List Img)) : Prop := ls.length ≤ 4096 ∧ ∀ l ∈ ls, l.length ≤ 40 ∧ ∀ y ∈ l, imgOk y = true ∧ y.1 < (pg : Int)
theorem open_good {dur : Nat → List Nat} {x : Sb} {ls : List (List Img)} {M : Lg} (hd : DiskG N pg x.ep (plain N dur)) (hs : SupG N (plain N dur) x.l) (hpg : x.pg = pg) (htop : N ≤ 4096) (hR : RecsG pg ls) (hgn : x.gn < 1099511627776) (hep : x.ep < 1099511627776) :
    ∃ S2 d3, bringE (plain N dur) (latestOf (recsOf (x.sq : Int) ls)) = (0, S2) ∧ saveE S2 x.next.l = (0, plain N d3) ∧ GoodS N pg ⟨plain N d3, x.next.log, x.next, noPgs, none⟩ [] 0 ∧
      ∀ C, Sees pg ⟨plain N dur, M, x, latestOf (recsOf (x.sq : Int) ls), none⟩ C → Sees pg ⟨plain N d3, x.next.log, x.next, noPgs, none⟩ C := by
  have hm := may_facts hs.may
  have hokD : PgsOk (latestOf (recsOf (x.sq : Int) ls)) := latest_ok (fun r hr y hy => ((hR.2 _ (recsOf_mem hr)).2 y hy).1)
  have hltD : ∀ k, (latestOf (recsOf (x.sq : Int) ls) k).isSome = true → k < pg := latest_lt (fun r hr y hy => by
    have h1 := (hR.2 _ (recsOf_mem hr)).2 y hy
    have h2 := (imgOk_iff h1.1).2.1
    exact ⟨h2.1, h1.2⟩)
  generalize latestOf (recsOf (x.sq : Int) ls) = D at *
  have hks : ∀ k ∈ keys D, k < pg ∧ (D k).isSome = true := fun k hk => ⟨hltD k (mem_keys.1 hk).2, (mem_keys.1 hk).2⟩
  have hda := hd.addH hokD hks
  have e : homesE (plain N dur) (rising D) = (0, addH D (plain N dur) (keys D)) := homes_quiet hokD hd.q.c (fun k hk => ⟨by have := (hks k hk).1; show 2 + k < N; omega, (hks k hk).2⟩)
  have hq : Quiet6 (addH D (plain N dur) (keys D)) := addH_quiet hd.q
  have hsa := hs.same (T := addH D (plain N dur) (keys D)) (by rw [addH_n.2]) (by rw [addH_n.2])
  have hhome : ∀ k, k < pg → (addH D (plain N dur) (keys D)).now (2 + k) = (match D k with | some q => pgF k q | none => (plain N dur).now (2 + k)) := fun k hk2 => by
    cases hq : D k with
    | some q =>
      have hmk : k ∈ keys D := mem_keys.2 ⟨hokD.lt hq, by rw [hq]; rfl⟩
      rw [addH_now hmk, hq]; rfl
    | none =>
      have hmk : k ∉ keys D := fun hx => by
        have := (mem_keys.1 hx).2
        rw [hq] at this; cases this
      exact now_far addH_n.2 (addH_far (p := 2 + k) (fun j hj e => hmk (by rw [show k = j by omega]; exact hj)))
  generalize addH D (plain N dur) (keys D) = T0 at *
  have hbr : bringE (plain N dur) D = (0, T0.flush) := by
    have key : ∀ (T : St) (R : Int × St), R = (0, T) → (if R.1 = 0 then flushE R.2 else R) = flushE T := by rintro T R rfl; rfl
    unfold bringE
    exact (key _ _ e).trans (flush_quiet hq)
  have hfl : T0.flush = plain N T0.now := by rw [flush_plain hq, hda.n]
  have hmay : mayB x.next.l (N : Int) = true := may_mk (x := x.next) ⟨hm.1, hm.2.1⟩ hm.2.2.1 hm.2.2.2.1 hm.2.2.2.2.1 (show 0 < x.ln by omega) ⟨(show x.gn + 1 ≤ _ by omega), (show x.ep + 1 ≤ _ by omega), (show 1 ≤ _ by omega)⟩ htop
  have hsv := plain_save (n := N) (dur := T0.now) (s := x.next.l) rfl hmay
  have hg0 : 0 ≤ gen x.next.l := by rw [gen_l]; omega
  have hpl := (place_is hg0).2
  have hdf := hda.flush
  have hsf : SupG N T0.flush x.l := hsa.same (St.now_nil hda.v0) (St.now_nil hda.v1)
  have hsn := hsf.next (t := x.next.l) rfl hmay (by rw [gen_l, gen_l]; show ((x.gn + 1 : Nat) : Int) = (x.gn : Int) + 1; omega)
  have heq : St.sup T0.flush (placeOf x.next.l) (frame (superB x.next.l)) = plain N (upd T0.now (placeOf x.next.l) (frame (superB x.next.l))) := by rw [hfl]; rfl
  rw [heq] at hsn
  have hd0 := hdf.sup hpl (frame (superB x.next.l))
  rw [heq] at hd0
  have hdn := hd0.later
  refine ⟨T0.flush, _, hbr, by rw [hfl]; exact hsv, ?_, fun C hC k hk => ?_⟩
  · exact {
      d := hdn
      pgs := hpg
      top := htop
      sup := hsn
      ring := Ring.new (B := x.next.log) ⟨rfl, rfl, show 0 < x.ln by omega⟩ (fun o c _ hc => (hd0.far _ (by have := sec_ge x.next.log o; have h9 : x.next.log.st = x.st := rfl; omega) c hc).more (.inr ⟨rfl, Nat.zero_le _⟩)) rfl rfl rfl rfl rfl rfl rfl
      sound := rfl
      ok := ⟨hm.2.2.2.2.1, show 1 ≤ x.ln by omega, show 0 < x.ln by omega, Nat.zero_le _, show x.ep + 1 ≤ _ by omega, show 1 ≤ 2199023255552 by omega⟩
      dok := PgsOk.none_
      dlt := fun k hk => by cases hk
      dls := rfl
      emp := fun _ => rfl
      nums := fun l hl => by cases hl
      w := fun U hU => by cases hU }
  · have h1 := hC k hk
    have h2 := hhome k hk
    have h3 : (plain N (upd T0.now (placeOf x.next.l) (frame (superB x.next.l)))).now (2 + k) = T0.now (2 + k) := upd_ne _ _ (by omega)
    show (C k = none ∧ _ = _) ∨ ∃ q, C k = some q ∧ _ ∧ _ = _
    rw [h3]
    show (C k = none ∧ T0.now (2 + k) = DiskSpec.zeros) ∨ ∃ q, C k = some q ∧ pageOk (k : Int) q.1 q.2 = true ∧ T0.now (2 + k) = pgF k q
    cases hq2 : D k with
    | some q =>
      simp only [hq2] at h1 h2
      exact .inr ⟨q, h1, hokD k q hq2, h2⟩
    | none =>
      simp only [hq2] at h1 h2
      rw [h2]
      exact h1
/-- Behind Format. -/
theorem format_disk {dF : Nat → List Nat} (h : ∀ i, 2 ≤ i → dF i = DiskSpec.zeros) : DiskG N pg 1 (plain N dF) := by
  have hc : ∀ p c, 2 ≤ p → Cand (plain N dF) p c → c = DiskSpec.zeros := fun p c hp hc => by
    rcases hc with hc | hc
    · rw [hc]; exact h p hp
    · cases hc
  refine ⟨rfl, quiet_plain _ _, rfl, rfl, fun k _ c hcc => .inl (hc _ _ (by omega) hcc), fun i hi c hcc => ?_⟩
  rw [hc i c (by omega) hcc]
  exact old_zeros _ _
theorem format_open {pg st ln : Nat} {dF : Nat → List Nat} (hs : SupG N (plain N dF) (fmtSb 2 pg st ln).l) (h : ∀ i, 2 ≤ i → dF i = DiskSpec.zeros) (hok : (plain N dF).ok) :
    openR (plain N dF) (fmtSb 2 pg st ln).log.ln (fmtSb 2 pg st ln).log = (recsOf ((fmtSb 2 pg st ln).sq : Int) [], (fmtSb 2 pg st ln).log) := by
  have hm := may_facts hs.may
  refine openR_all hok (ls := []) (L := (fmtSb 2 pg st ln).log) trivial (Nat.zero_le _) (.inr (findR_old ?_))
  have h1 : (plain N dF).now ((fmtSb 2 pg st ln).log.sec 0) = DiskSpec.zeros := h _ (by
    have h2 := sec_ge (fmtSb 2 pg st ln).log 0
    have h3 : (fmtSb 2 pg st ln).log.st = st := rfl
    have h4 : 2 + pg ≤ st := hm.2.2.1
    omega)
  show Old _ _ ((plain N dF).now ((fmtSb 2 pg st ln).log.sec 0))
  rw [h1]
  exact old_zeros _ _
theorem format_sees {dF : Nat → List Nat} (h : ∀ i, 2 ≤ i → dF i = DiskSpec.zeros) (M : Lg) (x : Sb) : Sees pg ⟨plain N dF, M, x, latestOf (recsOf (x.sq : Int) []), none⟩ noPgs := fun k _ => .inl ⟨rfl, h _ (by omega)⟩
/-! ### A crash -/
theorem fitAll_mem : ∀ {L : Lg} {ls : List (List Img)}, FitAll L ls → ∀ l ∈ ls, l.length ≤ 40 ∧ ∀ x ∈ l, imgOk x = true
  | _, [], _, l, hl => by cases hl
  | L, a :: r, h, l, hl => by
    obtain ⟨h1, _, h3⟩ := h
    rcases List.mem_cons.1 hl with e | hl
    · subst e; exact ⟨h1.most, h1.ok⟩
    · exact fitAll_mem h3 l hl
theorem crash_plain6 (S : St) (picks : List Int) : S.crash picks = plain S.n (S.crash picks).dur := rfl
theorem GoodS.crash (h : GoodS N pg s ls sure) (hok : s.S.ok) (picks : List Int) :
    ∃ dur ls' M, s.S.crash picks = plain N dur ∧ DiskG N pg s.x.ep (plain N dur) ∧ SupG N (plain N dur) s.x.l ∧ openR (plain N dur) s.x.log.ln s.x.log = (recsOf (s.x.sq : Int) ls', M) ∧ RecsG pg ls' ∧
      (sure = ls.length → s.S.ver = (fun _ => []) → ∀ C, Sees pg s C → Sees pg ⟨plain N dur, M, s.x, latestOf (recsOf (s.x.sq : Int) ls'), none⟩ C) := by
  obtain ⟨⟨m, m1, m2, hO⟩, _⟩ := h.ring.crash hok picks
  have hm := may_facts h.may
  have hall := h.ring.all
  have htg := total_ge ls
  have e1 : s.S.crash picks = plain N (s.S.crash picks).dur := by
    have := crash_plain6 s.S picks
    rw [h.d.n] at this
    exact this
  have hdc := h.d.crash picks
  have hs0 : ∀ a, s.S.ver a = [] → (s.S.crash picks).dur a = s.S.dur a := fun a ha => by
    show pickOf (s.S.dur a) (s.S.ver a) _ = _
    rw [ha]; exact pickOf_nil _ _
  have hsc := h.sup.same (T := s.S.crash picks) (hs0 0 h.d.v0) (hs0 1 h.d.v1)
  refine ⟨(s.S.crash picks).dur, ls.take m, _, e1, by rw [← e1]; exact hdc, by rw [← e1]; exact hsc, by rw [← e1]; exact hO, ⟨?_, fun l hl => ?_⟩, fun e2 e3 C hC => ?_⟩
  · have h9 : s.x.log.ln = s.x.ln := rfl
    have := h.top
    rw [List.length_take]; omega
  · have hl2 := List.mem_of_mem_take hl
    have hf := fitAll_mem h.ring.fit l hl2
    exact ⟨hf.1, fun y hy => ⟨hf.2 y hy, h.nums l hl2 y hy⟩⟩
  · have hm2 : m = ls.length := by omega
    rw [hm2, List.take_length]
    intro k hk
    have h1 := hC k hk
    rw [h.dls] at h1
    have h2 : (plain N (s.S.crash picks).dur).now (2 + k) = s.S.now (2 + k) := by
      rw [← e1]
      show (s.S.crash picks).dur (2 + k) = _
      rw [hs0 _ (by rw [e3]), St.now_nil (by rw [e3])]
    rw [h2]
    exact h1
end
end Go.Proofs.YteaokeiolgjhaaaGreat.Sto
