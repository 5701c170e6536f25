/- The document's own Alloc in memory; its calls. -/
import Derived.Test.YtldbfhgkicphkaaDoorAlcRuns
namespace Go.Proofs.YtldbfhgkicphkaaDoor.Alc
open Go.RowKit Mem AlcBits
set_option linter.unusedVariables false
set_option linter.unusedSimpArgs false

/-- A page's state, as the document numbers it. -/
def stL (F D : Nat → Bool) (p : Nat) : Int := if F p then 0 else if D p then 2 else 1
theorem stL_zero (F D : Nat → Bool) (p : Nat) : (stL F D p == 0) = F p := by unfold stL; cases F p <;> cases D p <;> rfl
theorem stL_one (F D : Nat → Bool) (p : Nat) : (stL F D p == 1) = (!F p && !D p) := by unfold stL; cases F p <;> cases D p <;> rfl
theorem stL_two {F D : Nat → Bool} {p : Nat} (h : F p = true → D p = false) : (stL F D p == 2) = D p := by
  unfold stL; cases hf : F p <;> cases hd : D p <;> first | rfl | (have := h hf; rw [hd] at this; cases this)
theorem stL_le (F D : Nat → Bool) (p : Nat) : 0 ≤ stL F D p ∧ stL F D p ≤ 2 := by unfold stL; split <;> (try split) <;> omega
def ls (F D : Nat → Bool) (n : Nat) : List Value := (List.range n).map fun p => .int .i64 (stL F D p)
theorem ls_at {F D : Nat → Bool} {n k : Nat} (h : k < n) : (ls F D n)[k]? = some (.int .i64 (stL F D k)) := by simp [ls, h]
theorem ls_len (F D : Nat → Bool) (n : Nat) : (ls F D n).length = n := by simp [ls]
theorem ls_set {F D F' D' : Nat → Bool} {n k : Nat} (hk : k < n) (h : ∀ p, p < n → p ≠ k → stL F D p = stL F' D' p) : (ls F D n).set k (.int .i64 (stL F' D' k)) = ls F' D' n := by
  apply List.ext_getElem?
  intro i
  by_cases hi : i = k
  · subst hi
    rw [List.getElem?_set_self (by rw [ls_len]; exact hk), ls_at hk]
  · rw [List.getElem?_set_ne (by omega)]
    by_cases hn : i < n
    · rw [ls_at hn, ls_at hn, h i hn hi]
    · rw [List.getElem?_eq_none (by rw [ls_len]; omega), List.getElem?_eq_none (by rw [ls_len]; omega)]
theorem ls_congr {F D F' D' : Nat → Bool} {n : Nat} (h : ∀ p, p < n → stL F D p = stL F' D' p) : ls F D n = ls F' D' n := by
  unfold ls
  exact List.map_congr_left fun i hi => by rw [h i (by simpa using hi)]

/-- A row of whole numbers of the call's own: block g. -/
def RowAt (w : World) (g c n : Nat) (xs : List Value) : Prop := ∃ cur, Blk w g 3 cur ∧ cur.size = c ∧ n ≤ c ∧ c ≤ maxLen ∧ cur.toList.take n = xs
section
variable {w w' : World} {g c n k : Nat} {xs : List Value}
theorem RowAt.cell (h : RowAt w g c n xs) (hk : k < n) : w.cell? ⟨g, k, none⟩ = xs[k]? := by
  obtain ⟨cur, hb, _, _, _, rfl⟩ := h
  rw [hb.cell, List.getElem?_take_of_lt hk, Array.getElem?_toList]
theorem RowAt.fz (h : RowAt w g c n xs) (k : Nat) : w.frozen? ⟨g, k, none⟩ = false := by
  obtain ⟨cur, hb, _⟩ := h
  exact hb.frozen k
theorem RowAt.set_ (h : RowAt w g c n xs) (hk : k < n) (v : Value) : RowAt (w.setCell ⟨g, k, none⟩ v) g c n (xs.set k v) := by
  obtain ⟨cur, hb, h1, h2, h3, rfl⟩ := h
  exact ⟨_, hb.set_ k v, by simpa using h1, h2, h3, by simp [List.take_set]⟩
theorem RowAt.lt (h : RowAt w g c n xs) : g < w.heap.size := by obtain ⟨cur, hb, _⟩ := h; exact hb.lt
theorem RowAt.keep (h : RowAt w g c n xs) (hh : w'.heap[g]? = w.heap[g]?) : RowAt w' g c n xs := by
  obtain ⟨cur, hb, h1⟩ := h
  exact ⟨cur, hh.trans hb, h1⟩
theorem RowAt.grown {row : Option Nat} (h : RowAt w g c n xs) (hg : w.grownBy w' row) (hne : row ≠ some g) : RowAt w' g c n xs := h.keep (hg.block g h.lt (fun e => hne e.symm))
theorem RowAt.owns {B : Nat} (h : RowAt w g c n xs) (hB : B ≤ g) (hl : xs.length = n) : w.ownsRow B 3 1 (.slice (some ⟨g, 0, none⟩) n c) n xs := by
  obtain ⟨cur, hb, h1, h2, h3, h4⟩ := h
  exact ⟨by omega, .inr ⟨g, c, cur, rfl, hB, hb, h2, h3, by omega, by rw [Nat.mul_one]; exact h4⟩⟩
theorem rowAt_of_owns {B : Nat} {v : Value} (h : w.ownsRow B 3 1 v n xs) (hn : 0 < n) : ∃ g c, v = .slice (some ⟨g, 0, none⟩) n c ∧ B ≤ g ∧ RowAt w g c n xs := by
  obtain ⟨h1, h2 | ⟨g, cap, cur, rfl, hb, hh, h3, h4, h5, h6⟩⟩ := h
  · omega
  · exact ⟨g, cap, rfl, hb, cur, hh, by omega, h3, h4, by rw [Nat.mul_one] at h6; exact h6⟩
end

/-- The document's Alloc in memory. -/
structure Rf (w : World) (B r gl cl gs cs n : Nat) (F D S : Nat → Bool) : Prop where
  hr : Blk w r 51 #[.slice (some ⟨gl, 0, none⟩) n cl, .slice (some ⟨gs, 0, none⟩) n cs]
  hl : RowAt w gl cl n (ls F D n)
  hs : RowAt w gs cs n (ls S (fun _ => false) n)
  ne : gl ≠ gs
  one : 1 ≤ n
  most : n ≤ 1024
  dis : ∀ p, F p = true → D p = false
  Br : B ≤ r
  Bl : B ≤ gl
  Bs : B ≤ gs
def own3 (r gl gs : Nat) : Nat → Prop := fun i => i = r ∨ i = gl ∨ i = gs
theorem ref_ne : 51 ≠ 3 := by decide
section
variable {w : World} {B r gl cl gs cs n : Nat} {F D S : Nat → Bool}
theorem Rf.rl (h : Rf w B r gl cl gs cs n F D S) : r ≠ gl := by obtain ⟨cur, hb, _⟩ := h.hl; exact blk_ne h.hr hb ref_ne
theorem Rf.rs (h : Rf w B r gl cl gs cs n F D S) : r ≠ gs := by obtain ⟨cur, hb, _⟩ := h.hs; exact blk_ne h.hr hb ref_ne
theorem Rf.cells (h : Rf w B r gl cl gs cs n F D S) : w.cell? ⟨r, 0, none⟩ = some (.slice (some ⟨gl, 0, none⟩) n cl) ∧ w.cell? ⟨r, 1, none⟩ = some (.slice (some ⟨gs, 0, none⟩) n cs) := ⟨h.hr.cell 0, h.hr.cell 1⟩
theorem Rf.far {w' : World} {own own' : Nat → Prop} (h : Rf w B r gl cl gs cs n F D S) (hg : Turn w w' own own') (hn : ∀ i, own i → ¬ own3 r gl gs i) : Rf w' B r gl cl gs cs n F D S :=
  { h with hr := hg.blk h.hr (fun e => hn _ e (.inl rfl)), hl := h.hl.keep (hg.block gl h.hl.lt (fun e => hn _ e (.inr (.inl rfl)))), hs := h.hs.keep (hg.block gs h.hs.lt (fun e => hn _ e (.inr (.inr rfl)))) }
theorem Rf.grown {w' : World} (h : Rf w B r gl cl gs cs n F D S) (hg : w.grownBy w' none) : Rf w' B r gl cl gs cs n F D S := h.far (Turn.none_ (own := fun _ => False) hg) (fun _ e => e.elim)
/-- A page's state set. -/
theorem Rf.put {F' D' : Nat → Bool} {k : Nat} (h : Rf w B r gl cl gs cs n F D S) (hk : k < n) (x : Int) (hx : x = stL F' D' k) (he : ∀ p, p < n → p ≠ k → stL F D p = stL F' D' p) (hd : ∀ p, F' p = true → D' p = false) :
    Rf (w.setCell ⟨gl, k, none⟩ (.int .i64 x)) B r gl cl gs cs n F' D' S ∧ Turn w (w.setCell ⟨gl, k, none⟩ (.int .i64 x)) (own3 r gl gs) (own3 r gl gs) := by
  have hg : w.grownBy (w.setCell ⟨gl, k, none⟩ (.int .i64 x)) (some gl) := only_set (World.grownBy.refl _ _) _ _
  refine ⟨{ h with hr := h.hr.grown hg (by simpa using h.rl), hl := ?_, hs := h.hs.grown hg (by simpa using h.ne), dis := hd }, .of_grown hg (fun j hj => by cases hj; exact .inr (.inl rfl))⟩
  have := h.hl.set_ hk (.int .i64 x)
  rwa [hx, ls_set hk he, ← hx] at this

set_option maxHeartbeats 2000000 in
theorem r_is (h : Rf w B r gl cl gs cs n F D S) (p st : Int) (hp : In64 p) :
    Calls Tryd.prog 31 #[.pointer (some ⟨r, 0, none⟩), .int .i64 p, .int .i64 st] w fun e w' => e = .returned (.bool (isP n p && (stL F D p.toNat == st))) ∧ w' = w := by
  obtain ⟨c0, _⟩ := h.cells
  by_cases hpg : isP n p = true
  · obtain ⟨k, rfl, hk⟩ := isP_nat hpg
    have hc := (h.hl.cell hk).trans (ls_at hk)
    rw [hpg, Bool.true_and, Int.toNat_natCast]
    have h0 : (0 : Int) ≤ k := by omega
    have h1 : (k : Int) < n := by omega
    generalize stL F D k = x at hc ⊢
    clear h hpg
    go_enter Tryd.func31, Tryd.ntmps31
    go_wp2
    all_goals go_ret
    all_goals first | exact ⟨rfl, rfl⟩ | (simp_all; done) | trace_state
  · have hpf : isP n p = false := by simpa using hpg
    rw [hpf, Bool.false_and]
    clear h hpg
    by_cases h0 : 0 ≤ p
    · have h1 : ¬ p < n := by intro h; simp [isP] at hpf; omega
      clear hpf
      go_enter Tryd.func31, Tryd.ntmps31
      go_wp2
      all_goals go_ret
      all_goals first | exact ⟨rfl, rfl⟩ | (simp_all; done) | trace_state
    · clear hpf
      go_enter Tryd.func31, Tryd.ntmps31
      go_wp2
      all_goals go_ret
      all_goals first | exact ⟨rfl, rfl⟩ | (simp_all; done) | trace_state
set_option maxHeartbeats 1000000 in
theorem r_isFree (h : Rf w B r gl cl gs cs n F D S) (p : Int) (hp : In64 p) :
    Calls Tryd.prog 23 #[.pointer (some ⟨r, 0, none⟩), .int .i64 p] w fun e w' => e = .returned (.bool (isF F n p)) ∧ w' = w := by
  have HI := Lib.hid (r_is h p 0 hp)
  rw [stL_zero] at HI
  rw [isF]
  clear h
  generalize (isP n p && F p.toNat) = x at HI ⊢
  go_enter Tryd.func23, Tryd.ntmps23
  go_wp2_with (go_at_call 31; refine HI.out.mono ?_; rintro e w' ⟨rfl, rfl⟩)
  go_ret
  exact ⟨rfl, rfl⟩
set_option maxHeartbeats 1000000 in
theorem r_mark (h : Rf w B r gl cl gs cs n F D S) (p : Int) (hp : In64 p) :
    Calls Tryd.prog 11 #[.pointer (some ⟨r, 0, none⟩), .int .i64 p] w fun e w' => e = .returned (.bool (isF F n p)) ∧ Rf w' B r gl cl gs cs n (delI F n p) D S ∧ Turn w w' (own3 r gl gs) (own3 r gl gs) := by
  have HI := Lib.hid (r_is h p 0 hp)
  rw [stL_zero] at HI
  have hif : isF F n p = (isP n p && F p.toNat) := rfl
  rw [← hif] at HI
  have HA := Lib.hid h
  by_cases hf : isF F n p = true
  · obtain ⟨k, rfl, hk⟩ := isP_nat (show isP n p = true by simp [isF] at hf; exact hf.1)
    have hFk : F k = true := by rwa [isF_nat hk] at hf
    have HP := Lib.hid (h.put (F' := del F k) (D' := D) hk 1 (by simp [stL, del, h.dis k hFk]) (fun q _ hq => by simp [stL, del, hq]) (fun q hq => h.dis q (by simp [del] at hq; exact hq.2)))
    have hc := (h.hl.cell hk).trans (ls_at hk)
    have hfz := h.hl.fz k
    rw [show delI F n (k : Int) = del F k from by rw [delI, if_pos hf]; rfl]
    rw [hf] at HI ⊢
    have c0 := h.cells.1
    have h0 : (0 : Int) ≤ k := by omega
    have h1 : (k : Int) < n := by omega
    clear h hf hif hFk
    go_enter Tryd.func11, Tryd.ntmps11
    go_wp2_with (go_at_call 31; refine HI.out.mono ?_; rintro e w' ⟨rfl, rfl⟩)
    go_ret
    exact ⟨rfl, HP.out⟩
  · have hf' : isF F n p = false := by simpa using hf
    rw [show delI F n p = F from if_neg hf]
    rw [hf'] at HI ⊢
    clear h hf hf' hif
    go_enter Tryd.func11, Tryd.ntmps11
    go_wp2_with (go_at_call 31; refine HI.out.mono ?_; rintro e w' ⟨rfl, rfl⟩)
    go_ret
    exact ⟨rfl, HA.out, Turn.refl _ _⟩
set_option maxHeartbeats 1000000 in
theorem r_drop (h : Rf w B r gl cl gs cs n F D S) (p : Int) (hp : In64 p) :
    Calls Tryd.prog 15 #[.pointer (some ⟨r, 0, none⟩), .int .i64 p] w fun e w' => e = .returned (.bool (isT F D n p)) ∧ Rf w' B r gl cl gs cs n F (insI F D n p) S ∧ Turn w w' (own3 r gl gs) (own3 r gl gs) := by
  have HI := Lib.hid (r_is h p 1 hp)
  rw [stL_one] at HI
  have hif : isT F D n p = (isP n p && (!F p.toNat && !D p.toNat)) := rfl
  rw [← hif] at HI
  have HA := Lib.hid h
  by_cases hf : isT F D n p = true
  · obtain ⟨k, rfl, hk⟩ := isP_nat (show isP n p = true by simp [isT] at hf; exact hf.1)
    have hFk : F k = false := by simp [isT] at hf; exact hf.2.1
    have HP := Lib.hid (h.put (F' := F) (D' := ins D k) hk 2 (by simp [stL, ins, hFk]) (fun q _ hq => by simp [stL, ins, hq]) (fun q hq => by
      have := h.dis q hq
      simp only [ins, this, Bool.or_false]
      rw [beq_eq_false_iff_ne]
      rintro rfl
      rw [hFk] at hq; cases hq))
    have hc := (h.hl.cell hk).trans (ls_at hk)
    have hfz := h.hl.fz k
    rw [show insI F D n (k : Int) = ins D k from by rw [insI, if_pos hf]; rfl]
    rw [hf] at HI ⊢
    have c0 := h.cells.1
    have h0 : (0 : Int) ≤ k := by omega
    have h1 : (k : Int) < n := by omega
    clear h hf hif hFk
    go_enter Tryd.func15, Tryd.ntmps15
    go_wp2_with (go_at_call 31; refine HI.out.mono ?_; rintro e w' ⟨rfl, rfl⟩)
    go_ret
    exact ⟨rfl, HP.out⟩
  · have hf' : isT F D n p = false := by simpa using hf
    rw [show insI F D n p = D from if_neg hf]
    rw [hf'] at HI ⊢
    clear h hf hf' hif
    go_enter Tryd.func15, Tryd.ntmps15
    go_wp2_with (go_at_call 31; refine HI.out.mono ?_; rintro e w' ⟨rfl, rfl⟩)
    go_ret
    exact ⟨rfl, HA.out, Turn.refl _ _⟩
end
end Go.Proofs.YtldbfhgkicphkaaDoor.Alc
