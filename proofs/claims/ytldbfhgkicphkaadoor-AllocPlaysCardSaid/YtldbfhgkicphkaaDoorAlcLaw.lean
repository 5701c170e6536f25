/- The laws' small functions: what is known; a step; one Alloc, one beside the document's, two. -/
import Derived.Test.YtldbfhgkicphkaaDoorAlcEnt
namespace Go.Proofs.YtldbfhgkicphkaaDoor.Alc
open Go.RowKit Mem AlcBits
set_option linter.unusedVariables false
set_option linter.unusedSimpArgs false

/-- What is free, dropped, settled. -/
structure P3 where
  F : Nat → Bool
  D : Nat → Bool
  S : Nat → Bool
def fresh (n : Nat) : P3 := ⟨fun p => decide (p < n), fun _ => false, fun p => decide (p < n)⟩
/-- The least page taken out. -/
def takeF (F : Nat → Bool) : Nat → Bool := fun p => F p && decide (0 < cnt F p)
theorem cnt_pos {F : Nat → Bool} : ∀ {k}, 0 < cnt F k → ∃ q, q < k ∧ F q = true
  | 0, h => by simp [cnt] at h
  | k + 1, h => by
    simp only [cnt] at h
    by_cases hF : F k = true
    · exact ⟨k, by omega, hF⟩
    · have hF' : F k = false := by simpa using hF
      rw [hF'] at h
      obtain ⟨q, h1, h2⟩ := cnt_pos (show 0 < cnt F k by simpa using h)
      exact ⟨q, by omega, h2⟩
theorem cnt_pos_of {F : Nat → Bool} {q : Nat} : ∀ {k}, q < k → F q = true → 0 < cnt F k
  | 0, h, _ => by omega
  | k + 1, h, hF => by
    simp only [cnt]
    by_cases hk : q = k
    · subst hk; rw [hF]; simp
    · have := cnt_pos_of (show q < k by omega) hF
      omega
theorem least_take {F : Nat → Bool} {n r : Nat} {ok : Bool} (h : Least F n r ok) (ho : ∀ p, n ≤ p → F p = false) : (if ok then del F r else F) = takeF F := by
  funext p
  rcases h with ⟨rfl, h1, h2, h3⟩ | ⟨rfl, rfl, h1⟩
  · rw [if_pos rfl]
    simp only [del, takeF]
    by_cases hp : p = r
    · subst hp
      rw [show cnt F p = 0 from cnt_none h3]
      simp
    · rw [show (p == r) = false from by simpa using hp]
      by_cases hF : F p = true
      · have : r < p := by
          rcases Nat.lt_or_ge p r with h | h
          · rw [h3 p h] at hF; cases hF
          · omega
        rw [decide_eq_true (cnt_pos_of this h2), hF]; rfl
      · have hF' : F p = false := by simpa using hF
        rw [hF']; rfl
  · have hF : F p = false := by
      rcases Nat.lt_or_ge p n with h | h
      · exact h1 p h
      · exact ho p h
    simp [takeF, hF]
theorem least_one {F : Nat → Bool} {n r r' : Nat} {ok ok' : Bool} (h : Least F n r ok) (h' : Least F n r' ok') : r = r' ∧ ok = ok' := by
  rcases h with ⟨rfl, h1, h2, h3⟩ | ⟨rfl, rfl, h1⟩ <;> rcases h' with ⟨rfl, h1', h2', h3'⟩ | ⟨rfl, rfl, h1'⟩
  · refine ⟨?_, rfl⟩
    rcases Nat.lt_trichotomy r r' with h | h | h
    · rw [h3' r h] at h2; cases h2
    · exact h
    · rw [h3 r' h] at h2'; cases h2'
  · rw [h1' r h1] at h2; cases h2
  · rw [h1 r' h1'] at h2'; cases h2'
  · exact ⟨rfl, rfl⟩
def P3.mark (x : P3) (n : Nat) (p : Int) : P3 := ⟨delI x.F n p, x.D, x.S⟩
def P3.take (x : P3) : P3 := ⟨takeF x.F, x.D, x.S⟩
def P3.drop (x : P3) (n : Nat) (p : Int) : P3 := ⟨x.F, insI x.F x.D n p, x.S⟩
def P3.settle (x : P3) : P3 := ⟨fun p => x.F p || x.D p, fun _ => false, fun p => x.F p || x.D p⟩
def P3.undo (x : P3) : P3 := ⟨x.S, fun _ => false, x.S⟩
/-- A step of a script. -/
def stepE (n : Nat) (x : P3) (kind page : Int) : P3 :=
  if kind = 0 then x.mark n page else if kind = 1 then x.take else if kind = 2 then x.drop n page else if kind = 3 then x.settle else if kind = 4 then x.undo else x

theorem grown_turn {W w w' : World} {own own' : Nat → Prop} (hg : W.grownBy w none) (ht : Turn w w' own own') (ho : ∀ i, own i → W.heap.size ≤ i) : W.grownBy w' none :=
  ⟨ht.os.trans hg.os, ht.tape.trans hg.tape, ht.output.trans hg.output, Nat.le_trans hg.size ht.size, fun i hi hn => (ht.block i (Nat.lt_of_lt_of_le hi hg.size) (fun e => by have := ho i e; omega)).trans (hg.block i hi hn)⟩
theorem Tab.grown {W w : World} (h : Tab W) (hg : W.grownBy w none) : Tab w := h.keep (hg.block 0 h.pos (by simp))

/-- An Alloc in a law: where it is asked by the pointer q, its pages, what is free .. -/
def One (W w : World) (q n : Nat) (x : P3) (own : Nat → Prop) : Prop :=
  ∃ a b s m B, Al w B q a b s n m x.F x.D x.S ∧ W.heap.size ≤ B ∧ own = own4 q a b s
theorem One.low {W w : World} {q n : Nat} {x : P3} {own : Nat → Prop} (h : One W w q n x own) : ∀ i, own i → W.heap.size ≤ i := by
  obtain ⟨a, b, s, m, B, h, hB, rfl⟩ := h
  intro i hi
  have := h.Bq; have := h.Ba; have := h.Bb; have := h.Bs
  rcases hi with rfl | rfl | rfl | rfl <;> omega
theorem One.lt {W w : World} {q n : Nat} {x : P3} {own : Nat → Prop} (h : One W w q n x own) : ∀ i, own i → i < w.heap.size := by
  obtain ⟨a, b, s, m, B, h, hB, rfl⟩ := h
  intro i hi
  have h1 := h.hq.lt; have h2 : a < w.heap.size := Blk.lt h.hF; have h3 : b < w.heap.size := Blk.lt h.hD; have h4 : s < w.heap.size := Blk.lt h.hS
  rcases hi with rfl | rfl | rfl | rfl <;> assumption
theorem One.size {W w : World} {q n : Nat} {x : P3} {own : Nat → Prop} (h : One W w q n x own) : 1 ≤ n ∧ n ≤ 1024 := by
  obtain ⟨a, b, s, m, B, h, hB, rfl⟩ := h
  exact ⟨h.one, h.most⟩
theorem One.out {W w : World} {q n : Nat} {x : P3} {own : Nat → Prop} (h : One W w q n x own) : ∀ p, n ≤ p → x.F p = false ∧ x.D p = false ∧ x.S p = false := by
  obtain ⟨a, b, s, m, B, h, hB, rfl⟩ := h
  exact fun p hp => ⟨h.outF p hp, h.outD p hp, h.outS p hp⟩
theorem One.far {W w w' : World} {q n : Nat} {x : P3} {own o o' : Nat → Prop} (h : One W w q n x own) (ht : Turn w w' o o') (hn : ∀ i, o i → ¬ own i) (h1 : ∀ i, o i → 1 ≤ i) : One W w' q n x own := by
  obtain ⟨a, b, s, m, B, h, hB, rfl⟩ := h
  exact ⟨a, b, s, m, B, h.far ht (fun i hi => ⟨hn i hi, h1 i hi⟩), hB, rfl⟩
theorem One.grown {W w w' : World} {q n : Nat} {x : P3} {own : Nat → Prop} (h : One W w q n x own) (hg : w.grownBy w' none) : One W w' q n x own :=
  h.far (Turn.none_ (own := fun _ => False) hg) (fun _ e => e.elim) (fun _ e => e.elim)

section
variable {W w : World} {q n : Nat} {x : P3} {own : Nat → Prop}
theorem one_isFree (h : One W w q n x own) (p : Int) (hp : In64 p) : Calls Tryd.prog 22 #[.pointer (some ⟨q, 0, none⟩), .int .i64 p] w fun e w' => e = .returned (.bool (isF x.F n p)) ∧ ∃ k, w' = w.drewN k := by
  obtain ⟨a, b, s, m, B, h, hB, rfl⟩ := h
  exact isFree_call h p hp
theorem one_free (h : One W w q n x own) : Calls Tryd.prog 20 #[.pointer (some ⟨q, 0, none⟩)] w fun e w' => e = .returned (.int .i64 ((cnt x.F n : Nat) : Int)) ∧ w' = w := by
  obtain ⟨a, b, s, m, B, h, hB, rfl⟩ := h
  exact free_call h
theorem one_runs (h : One W w q n x own) : Calls Tryd.prog 25 #[.pointer (some ⟨q, 0, none⟩)] w fun e w' => ∃ v, e = .returned v ∧ w'.ownsRow w.heap.size 40 2 v (runsUp x.F n).length (enCs (runsUp x.F n)) ∧ w.grownBy w' none := by
  obtain ⟨a, b, s, m, B, h, hB, rfl⟩ := h
  exact runs_call h
theorem one_mark (h : One W w q n x own) (p : Int) (hp : In64 p) : Calls Tryd.prog 10 #[.pointer (some ⟨q, 0, none⟩), .int .i64 p] w fun e w' => e = .returned (.bool (isF x.F n p)) ∧ One W w' q n (x.mark n p) own ∧ Turn w w' own own := by
  obtain ⟨a, b, s, m, B, h, hB, rfl⟩ := h
  exact (mark_call h p hp).mono fun e w' ⟨h1, h2, h3⟩ => ⟨h1, ⟨a, b, s, m, B, h2, hB, rfl⟩, h3⟩
theorem one_take (h : One W w q n x own) : Calls Tryd.prog 12 #[.pointer (some ⟨q, 0, none⟩)] w fun e w' => ∃ r ok, e = .returned (.tuple #[.int .i64 (r : Nat), .bool ok]) ∧ Least x.F n r ok ∧ One W w' q n x.take own ∧ Turn w w' own own := by
  obtain ⟨a, b, s, m, B, h, hB, rfl⟩ := h
  exact (take_call h).mono fun e w' ⟨r, ok, h1, h2, h3, h4⟩ => ⟨r, ok, h1, h2, ⟨a, b, s, m, B, by rw [P3.take, ← least_take h2 h.outF]; exact h3, hB, rfl⟩, h4⟩
theorem one_drop (h : One W w q n x own) (p : Int) (hp : In64 p) : Calls Tryd.prog 14 #[.pointer (some ⟨q, 0, none⟩), .int .i64 p] w fun e w' => e = .returned (.bool (isT x.F x.D n p)) ∧ One W w' q n (x.drop n p) own ∧ Turn w w' own own := by
  obtain ⟨a, b, s, m, B, h, hB, rfl⟩ := h
  exact (drop_call h p hp).mono fun e w' ⟨h1, h2, h3⟩ => ⟨h1, ⟨a, b, s, m, B, h2, hB, rfl⟩, h3⟩
theorem one_settle (h : One W w q n x own) : Calls Tryd.prog 16 #[.pointer (some ⟨q, 0, none⟩)] w fun e w' => e = .returned (.tuple #[]) ∧ One W w' q n x.settle own ∧ Turn w w' own own := by
  obtain ⟨a, b, s, m, B, h, hB, rfl⟩ := h
  exact (settle_call h).mono fun e w' ⟨h1, h2, h3⟩ => ⟨h1, ⟨a, b, s, m, B, h2, hB, rfl⟩, h3⟩
theorem one_undo (h : One W w q n x own) : Calls Tryd.prog 18 #[.pointer (some ⟨q, 0, none⟩)] w fun e w' => e = .returned (.tuple #[]) ∧ One W w' q n x.undo own ∧ Turn w w' own own := by
  obtain ⟨a, b, s, m, B, h, hB, rfl⟩ := h
  exact (undo_call h).mono fun e w' ⟨h1, h2, h3⟩ => ⟨h1, ⟨a, b, s, m, B, h2, hB, rfl⟩, h3⟩
end
theorem one_new {W w : World} (hT : Tab W) (hg : W.grownBy w none) (n : Nat) (h1 : 1 ≤ n) (h2 : n ≤ 1024) :
    Calls Tryd.prog 7 #[.int .i64 n] w fun e w' => ∃ q own, e = .returned (.pointer (some ⟨q, 0, none⟩)) ∧ One W w' q n (fresh n) own ∧ w.grownBy w' none ∧ ∀ i, own i → w.heap.size ≤ i := by
  refine (new_call n w h1 h2 (hT.grown hg)).mono fun e w' ⟨q, a, b, s, m, he, hal, hg2⟩ => ?_
  refine ⟨q, _, he, ⟨a, b, s, m, w.heap.size, hal, hg.size, rfl⟩, hg2, fun i hi => ?_⟩
  have := hal.Bq; have := hal.Ba; have := hal.Bb; have := hal.Bs
  rcases hi with rfl | rfl | rfl | rfl <;> omega
set_option maxHeartbeats 4000000 in
theorem known8_call {W w : World} (hT : Tab W) (hg : W.grownBy w none) :
    Calls Tryd.prog 9 #[] w fun e w' => e = .returned (.bool true) ∧ w.grownBy w' none := by
  have HN := Lib.hid (one_new (W := w) (w := w) (hT.grown hg) (World.grownBy.refl _ _) 5 (by omega) (by omega))
  rw [show ((5 : Nat) : Int) = 5 from rfl] at HN
  have L1 : ∀ r ok, Least (fresh 5).F 5 r ok → r = 0 ∧ ok = true := fun _ _ h => least_one h (.inl ⟨rfl, by omega, rfl, fun q hq => by omega⟩)
  have L2 : ∀ r ok, Least (fresh 5).take.F 5 r ok → r = 1 ∧ ok = true := fun _ _ h => least_one h (.inl ⟨rfl, by omega, rfl, fun q hq => by
    obtain rfl : q = 0 := by omega
    rfl⟩)
  have F3 : isF (fresh 5).take.take.F 5 3 = true := rfl
  have C4 : cnt ((fresh 5).take.take.mark 5 3).F 5 = 2 := rfl
  have I4 : isF ((fresh 5).take.take.mark 5 3).F 5 4 = true := rfl
  have I3 : isF ((fresh 5).take.take.mark 5 3).F 5 3 = false := rfl
  have HL1 := Lib.hid L1; have HL2 := Lib.hid L2; have H3 := Lib.hid F3; have H4 := Lib.hid C4; have H5 := Lib.hid I4; have H6 := Lib.hid I3
  clear L1 L2 F3 C4 I4 I3 hT
  go_enter Tryd.func9, Tryd.ntmps9
  go_wp2_with (first
    | (go_at_call 7
       refine HN.out.mono ?_
       rintro e w1 ⟨q, own, rfl, h1, hg1, hlo⟩
       have HLO := Lib.hid hlo
       have H1 := Lib.hid h1; have HG1 := Lib.hid hg1; clear h1 hg1 hlo)
    | (go_at_call 12
       refine (one_take HB1.out).mono ?_
       rintro e w3 ⟨r2, ok2, rfl, hl2, h3, ht3⟩
       obtain ⟨rfl, rfl⟩ := HL2.out _ _ hl2
       have HB2 := Lib.hid h3; have HG3 := Lib.hid (grown_turn HG2.out ht3 HLO.out)
       have HM := Lib.hid (one_mark h3 3 ⟨by omega, by omega⟩)
       rw [H3.out] at HM
       clear h3 ht3 hl2)
    | (go_at_call 12
       refine (one_take H1.out).mono ?_
       rintro e w2 ⟨r1, ok1, rfl, hl1, h2, ht2⟩
       obtain ⟨rfl, rfl⟩ := HL1.out _ _ hl1
       have HB1 := Lib.hid h2; have HG2 := Lib.hid (grown_turn HG1.out ht2 HLO.out); clear h2 ht2 hl1)
    | (go_at_call 10
       refine HM.out.mono ?_
       rintro e w4 ⟨rfl, h4, ht4⟩
       have HB4 := Lib.hid h4; have HG4 := Lib.hid (grown_turn HG3.out ht4 HLO.out)
       have HF4 := Lib.hid (one_free h4)
       rw [H4.out] at HF4
       have HI4 := Lib.hid (one_isFree h4 4 ⟨by omega, by omega⟩)
       rw [H5.out] at HI4
       clear h4 ht4)
    | (go_at_call 20
       refine HF4.out.mono ?_
       rintro e w5 ⟨rfl, rfl⟩)
    | (go_at_call_of 22 (Value.int IntKind.i64 4)
       refine HI4.out.mono ?_
       rintro e w6 ⟨rfl, k6, rfl⟩
       have HI3 := Lib.hid (one_isFree (HB4.out.grown (w' := World.drewN _ k6) ⟨rfl, rfl, rfl, Nat.le_refl _, fun _ _ _ => rfl⟩) 3 ⟨by omega, by omega⟩)
       rw [H6.out] at HI3)
    | (go_at_call_of 22 (Value.int IntKind.i64 3)
       refine HI3.out.mono ?_
       rintro e w7 ⟨rfl, k7, rfl⟩))
  go_ret
  exact ⟨rfl, grown_trans_none HG4.out ⟨rfl, rfl, rfl, Nat.le_refl _, fun _ _ _ => rfl⟩⟩
set_option maxHeartbeats 4000000 in
theorem play_call {W w : World} {q n : Nat} {x : P3} {own : Nat → Prop} (h : One W w q n x own) (kind page : Int) (hp : In64 page) :
    Calls Tryd.prog 27 #[.pointer (some ⟨q, 0, none⟩), .agg #[.int .i64 kind, .int .i64 page]] w fun e w' => e = .returned (.tuple #[]) ∧ One W w' q n (stepE n x kind page) own ∧ Turn w w' own own := by
  have HO := Lib.hid h; have HP := Lib.hid hp
  clear h hp
  by_cases k0 : kind = 0
  · subst k0
    rw [show stepE n x 0 page = x.mark n page from rfl]
    go_enter Tryd.func27, Tryd.ntmps27
    go_wp2_with (go_at_call 10
                 refine (one_mark (HO.out.grown (World.grownBy_alloc _ _ none)) page HP.out).mono ?_
                 rintro e w2 ⟨rfl, h2, ht2⟩
                 have H2 := Lib.hid h2; have HT2 := Lib.hid ht2; clear h2 ht2)
    go_end0
    exact ⟨rfl, H2.out, Turn.trans (Turn.none_ (World.grownBy_alloc _ _ none)) HT2.out⟩
  by_cases k1 : kind = 1
  · subst k1
    rw [show stepE n x 1 page = x.take from rfl]
    go_enter Tryd.func27, Tryd.ntmps27
    go_wp2_with (go_at_call 12
                 refine (one_take (HO.out.grown (World.grownBy_alloc _ _ none))).mono ?_
                 rintro e w2 ⟨r1, ok1, rfl, hl1, h2, ht2⟩
                 have H2 := Lib.hid h2; have HT2 := Lib.hid ht2; clear h2 ht2)
    go_end0
    exact ⟨rfl, H2.out, Turn.trans (Turn.none_ (World.grownBy_alloc _ _ none)) HT2.out⟩
  by_cases k2 : kind = 2
  · subst k2
    rw [show stepE n x 2 page = x.drop n page from rfl]
    go_enter Tryd.func27, Tryd.ntmps27
    go_wp2_with (go_at_call 14
                 refine (one_drop (HO.out.grown (World.grownBy_alloc _ _ none)) page HP.out).mono ?_
                 rintro e w2 ⟨rfl, h2, ht2⟩
                 have H2 := Lib.hid h2; have HT2 := Lib.hid ht2; clear h2 ht2)
    go_end0
    exact ⟨rfl, H2.out, Turn.trans (Turn.none_ (World.grownBy_alloc _ _ none)) HT2.out⟩
  by_cases k3 : kind = 3
  · subst k3
    rw [show stepE n x 3 page = x.settle from rfl]
    go_enter Tryd.func27, Tryd.ntmps27
    go_wp2_with (go_at_call 16
                 refine (one_settle (HO.out.grown (World.grownBy_alloc _ _ none))).mono ?_
                 rintro e w2 ⟨rfl, h2, ht2⟩
                 have H2 := Lib.hid h2; have HT2 := Lib.hid ht2; clear h2 ht2)
    go_end0
    exact ⟨rfl, H2.out, Turn.trans (Turn.none_ (World.grownBy_alloc _ _ none)) HT2.out⟩
  by_cases k4 : kind = 4
  · subst k4
    rw [show stepE n x 4 page = x.undo from rfl]
    go_enter Tryd.func27, Tryd.ntmps27
    go_wp2_with (go_at_call 18
                 refine (one_undo (HO.out.grown (World.grownBy_alloc _ _ none))).mono ?_
                 rintro e w2 ⟨rfl, h2, ht2⟩
                 have H2 := Lib.hid h2; have HT2 := Lib.hid ht2; clear h2 ht2)
    go_end0
    exact ⟨rfl, H2.out, Turn.trans (Turn.none_ (World.grownBy_alloc _ _ none)) HT2.out⟩
  have hs : stepE n x kind page = x := by
    unfold stepE
    rw [if_neg k0, if_neg k1, if_neg k2, if_neg k3, if_neg k4]
  rw [hs]
  have b0 : (kind == 0) = false := by simpa using k0
  have b1 : (kind == 1) = false := by simpa using k1
  have b2 : (kind == 2) = false := by simpa using k2
  have b3 : (kind == 3) = false := by simpa using k3
  have b4 : (kind == 4) = false := by simpa using k4
  clear k0 k1 k2 k3 k4 hs
  go_enter Tryd.func27, Tryd.ntmps27
  go_wp2_with fail
  go_end0
  exact ⟨rfl, HO.out.grown (World.grownBy_alloc _ _ none), Turn.none_ (World.grownBy_alloc _ _ none)⟩
end Go.Proofs.YtldbfhgkicphkaaDoor.Alc
