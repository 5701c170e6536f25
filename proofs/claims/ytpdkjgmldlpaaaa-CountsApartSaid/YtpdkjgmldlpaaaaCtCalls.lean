/- The project's counts: New, Many, Get, Add, Touched, Settle, Undo. -/
import Derived.Test.YtpdkjgmldlpaaaaCtMem
import Derived.Maps.RangeWalk
namespace Go.Proofs.Ytpdkjgmldlpaaaa.Cts
open Go.RowKit Go.Maps Go.ChangeMaps Go.MapKept CrcMath CodecMath Mem Crc Codec
set_option linter.unusedVariables false
set_option linter.unusedSimpArgs false

def mb (n : Int) : Bool := decide (16 ≤ n) && decide (n ≤ 1024)
set_option maxHeartbeats 1000000 in
theorem mayBe_call (w : World) (n : Int) : Calls Try.prog 27 #[.int .i64 n] w fun e w' => e = .returned (.bool (mb n)) ∧ w' = w := by
  by_cases h0 : 16 ≤ n
  · have hd0 : decide (16 ≤ n) = true := decide_eq_true h0
    rw [mb, hd0, Bool.true_and]
    go_enter Try.func27, Try.ntmps27
    go_wp2
    all_goals go_ret
    all_goals first | exact ⟨rfl, rfl⟩ | (simp_all; done) | trace_state
  · have hd0 : decide (16 ≤ n) = false := decide_eq_false h0
    rw [mb, hd0, Bool.false_and]
    go_enter Try.func27, Try.ntmps27
    go_wp2
    all_goals go_ret
    all_goals first | exact ⟨rfl, rfl⟩ | (simp_all; done) | trace_state
theorem mb_nat {n : Int} (h : mb n = true) : ∃ k : Nat, n = (k : Int) ∧ 16 ≤ k ∧ k ≤ 1024 := by
  simp [mb] at h
  exact ⟨n.toNat, by omega, by omega, by omega⟩
theorem mb_of {n : Nat} (h1 : 16 ≤ n) (h2 : n ≤ 1024) : mb (n : Int) = true := by simp [mb]; omega
/-- How many pages of counts there are, of any number of pages. -/
def manyI (n : Int) : Nat := if mb n then manyN n.toNat else 0
theorem manyI_nat {n : Nat} (h1 : 16 ≤ n) (h2 : n ≤ 1024) : manyI (n : Int) = manyN n := by rw [manyI, mb_of h1 h2]; rfl
set_option maxHeartbeats 1000000 in
theorem many_call (w : World) (n : Int) : Calls Try.prog 8 #[.int .i64 n] w fun e w' => e = .returned (.int .i64 ((manyI n : Nat) : Int)) ∧ w' = w := by
  have HM := fun w => Lib.hid (mayBe_call w n)
  cases hb : mb n with
  | true =>
    obtain ⟨k, rfl, h1, h2⟩ := mb_nat hb
    rw [manyI_nat h1 h2]
    rw [hb] at HM
    clear hb
    go_enter Try.func8, Try.ntmps8
    go_wp2_with (go_at_call 27; refine (HM _).out.mono ?_; rintro e w' ⟨rfl, rfl⟩)
    go_ret
    have e : ((k : Int) + 120 - 1) / 120 = ((manyN k : Nat) : Int) := by unfold manyN; omega
    rw [← e]
    exact ⟨rfl, rfl⟩
  | false =>
    rw [show manyI n = 0 from by rw [manyI, hb]; rfl]
    rw [hb] at HM
    clear hb
    go_enter Try.func8, Try.ntmps8
    go_wp2_with (go_at_call 27; refine (HM _).out.mono ?_; rintro e w' ⟨rfl, rfl⟩)
    go_ret
    exact ⟨rfl, rfl⟩
section
variable {w : World} {B q rb mb_ n : Nat} {x : Ct}
set_option maxHeartbeats 1000000 in
theorem isPage_call (h : CtAt w B q rb mb_ n x) (p : Int) :
    Calls Try.prog 28 #[.pointer (some ⟨q, 0, none⟩), .int .i64 p] w fun e w' => e = .returned (.bool (isP n p)) ∧ w' = w := by
  obtain ⟨c0, _⟩ := h.cells
  clear h
  have he : isP n p = (decide (0 ≤ p) && decide (p < n)) := rfl
  by_cases h0 : 0 ≤ p
  · have hd0 : decide (0 ≤ p) = true := decide_eq_true h0
    rw [he, hd0, Bool.true_and]
    go_enter Try.func28, Try.ntmps28
    go_wp2
    all_goals go_ret
    all_goals first | exact ⟨rfl, rfl⟩ | (simp_all; done) | trace_state
  · have hd0 : decide (0 ≤ p) = false := decide_eq_false h0
    rw [he, hd0, Bool.false_and]
    go_enter Try.func28, Try.ntmps28
    go_wp2
    all_goals go_ret
    all_goals first | exact ⟨rfl, rfl⟩ | (simp_all; done) | trace_state
set_option maxHeartbeats 1000000 in
theorem get_call (h : CtAt w B q rb mb_ n x) (p : Int) :
    Calls Try.prog 22 #[.pointer (some ⟨q, 0, none⟩), .int .i64 p] w fun e w' => e = .returned (.int .i64 (getE n x p)) ∧ w' = w := by
  have HP := Lib.hid (isPage_call h p)
  cases hp : isP n p with
  | true =>
    obtain ⟨k, rfl, hk⟩ := isP_nat hp
    rw [getE_nat x hk]
    rw [hp] at HP
    obtain ⟨c0, _⟩ := h.cells
    have c1 := h.hr.at_ hk
    have hn := h.b64
    clear hp h
    generalize x.N k = u at *
    go_enter Try.func22, Try.ntmps22
    go_wp2_with (go_at_call 28; refine HP.out.mono ?_; rintro e w' ⟨rfl, rfl⟩)
    go_ret
    exact ⟨rfl, rfl⟩
  | false =>
    rw [getE_no x hp]
    rw [hp] at HP
    clear hp h
    go_enter Try.func22, Try.ntmps22
    go_wp2_with (go_at_call 28; refine HP.out.mono ?_; rintro e w' ⟨rfl, rfl⟩)
    go_ret
    exact ⟨rfl, rfl⟩
/-- A Settle's or an Undo's map is clear. -/
theorem tells_clear (n : Nat) (f : Nat → Int) : Tells n ⟨f, f⟩ (fun _ => none) := ⟨fun _ => rfl, fun _ _ => rfl⟩
set_option maxHeartbeats 1000000 in
theorem settle_call (h : CtAt w B q rb mb_ n x) :
    Calls Try.prog 16 #[.pointer (some ⟨q, 0, none⟩)] w fun e w' => e = .returned (.tuple #[]) ∧ CtAt w' B q rb mb_ n (settleE x) ∧ Turn w w' (own3 q rb mb_) (own3 q rb mb_) := by
  obtain ⟨F, hF, hT⟩ := h.hm
  obtain ⟨_, c1⟩ := h.cells
  obtain ⟨w2, hr2, hc2, hg2⟩ := hF.clear 0
  have HA := Lib.hid h; have HG := Lib.hid hg2; have HC := Lib.hid hc2
  clear h hF hT hg2 hc2
  go_enter Try.func16, Try.ntmps16
  go_wp2
  go_end0
  have hA := HA.out
  exact ⟨rfl, ⟨hA.hq.grown HG.out (by simpa using hA.qm), Blk.grown hA.hr HG.out (by simpa using hA.rm), ⟨_, HC.out, tells_clear n x.N⟩, hA.ok.settle, hA.Bq, hA.Br, hA.Bm⟩, .of_grown HG.out (fun j hj => by cases hj; exact .inr (.inr rfl))⟩
set_option maxHeartbeats 1000000 in
theorem isPart_call (h : CtAt w B q rb mb_ n x) (p : Int) :
    Calls Try.prog 29 #[.pointer (some ⟨q, 0, none⟩), .int .i64 p] w fun e w' => e = .returned (.bool (isI n p)) ∧ w' = w := by
  obtain ⟨c0, _⟩ := h.cells
  have HM := fun w => Lib.hid (many_call w (n : Int))
  rw [manyI_nat h.ok.one h.ok.most] at HM
  have hn := h.ok.most
  have he : isI n p = (decide (0 ≤ p) && decide (p < manyN n)) := rfl
  rw [he]
  clear h he
  generalize manyN n = m at *
  by_cases h0 : 0 ≤ p
  · have hd0 : decide (0 ≤ p) = true := decide_eq_true h0
    rw [hd0, Bool.true_and]
    go_enter Try.func29, Try.ntmps29
    go_wp2_with (go_at_call 8; refine (HM _).out.mono ?_; rintro e w' ⟨rfl, rfl⟩)
    all_goals go_ret
    all_goals first | exact ⟨rfl, rfl⟩ | (simp_all; done) | trace_state
  · have hd0 : decide (0 ≤ p) = false := decide_eq_false h0
    rw [hd0, Bool.false_and]
    go_enter Try.func29, Try.ntmps29
    go_wp2_with (go_at_call 8; refine (HM _).out.mono ?_; rintro e w' ⟨rfl, rfl⟩)
    all_goals go_ret
    all_goals first | exact ⟨rfl, rfl⟩ | (simp_all; done) | trace_state
/-- A map's element put. -/
theorem step_update {P : Program} {ops : Array Oper} {o : Oper} {a : Act} {w w' : World} {K : Act → World → Prop} {Q : Exit → Act → World → Prop} {E : Prop} (hgd : o.guard = none) (m x y : Operand) (t : TypeId)
    (ho : o.op = .mapUpdate t m x y) (u u' u'' : Value) (hs : a.eval m = u) (hx : a.eval x = u') (hy : a.eval y = u'') (hrun : (Instr.mapUpdate t u u' u'').run P w = .ok () w') (h : K (a.put o.dst undef) w') :
    if Region.wanted o (yielded ops a.tmps) = true then Oper.wp P o a w K Q else E := by
  have hw : Region.wanted o (yielded ops a.tmps) = true := by simp [Region.wanted, hgd]
  rw [if_pos hw]
  unfold Oper.wp
  simp [execOp, ho, hs, hx, hy, hrun, Result.andThen]
  exact h
theorem tells_add {F : Nat → Option Int} {k : Nat} {v : Int} (hT : Tells n x F) (hk : k < n) (hF : F k = none) : Tells n ⟨upd x.N k v, x.W⟩ (fun j => if j = k then some (x.N k) else F j) := by
  refine ⟨fun p => ?_, fun p hp => ?_⟩
  · by_cases e : p = k
    · subst e
      rw [hT.get p, hF]; simp
    · simp only [if_neg e, upd_ne _ _ e]; exact hT.get p
  · simp only [if_neg (show p ≠ k by omega)]; exact hT.out p hp
theorem tells_add' {F : Nat → Option Int} {k : Nat} {v u : Int} (hT : Tells n x F) (hF : F k = some u) : Tells n ⟨upd x.N k v, x.W⟩ F := by
  refine ⟨fun p => ?_, hT.out⟩
  by_cases e : p = k
  · subst e
    rw [hT.get p, hF]; rfl
  · simp only [upd_ne _ _ e]; exact hT.get p
set_option maxHeartbeats 2000000 in
theorem add_call (h : CtAt w B q rb mb_ n x) (p b : Int) (hb : In64 b) :
    Calls Try.prog 12 #[.pointer (some ⟨q, 0, none⟩), .int .i64 p, .int .i64 b] w fun e w' => e = .returned (.int .i64 (addE n x p b).1) ∧ CtAt w' B q rb mb_ n (addE n x p b).2 ∧ Turn w w' (own3 q rb mb_) (own3 q rb mb_) := by
  have HP := Lib.hid (isPage_call h p)
  have HA := Lib.hid h
  obtain ⟨hb1, hb2⟩ := hb
  cases hp : isP n p with
  | false =>
    rw [addE_no hp]
    rw [hp] at HP
    clear hp h
    go_enter Try.func12, Try.ntmps12
    go_wp2_with (go_at_call 28; refine HP.out.mono ?_; rintro e w' ⟨rfl, rfl⟩)
    go_ret
    exact ⟨rfl, HA.out, Turn.refl _ _⟩
  | true =>
    obtain ⟨k, rfl, hk⟩ := isP_nat hp
    rw [hp] at HP
    obtain ⟨c0, c1⟩ := h.cells
    have c2 := h.hr.at_ hk
    have hn := h.b64
    obtain ⟨hx0, hx1⟩ := h.ok.bN k
    cases hf : fits (x.N k) b with
    | false =>
      rw [addE_bad hk hf]
      have hf' : b < -x.N k ∨ 1000 - x.N k < b := by simp [fits] at hf; omega
      clear hp h hf
      generalize x.N k = u at *
      have hneg : (-u : Int) = -u := rfl
      by_cases hlo : b < -u
      · go_enter Try.func12, Try.ntmps12
        go_wp2_with (go_at_call 28; refine HP.out.mono ?_; rintro e w' ⟨rfl, rfl⟩)
        go_ret
        exact ⟨rfl, HA.out, Turn.refl _ _⟩
      · have hhi : 1000 - u < b := by omega
        go_enter Try.func12, Try.ntmps12
        go_wp2_with (go_at_call 28; refine HP.out.mono ?_; rintro e w' ⟨rfl, rfl⟩)
        go_ret
        exact ⟨rfl, HA.out, Turn.refl _ _⟩
    | true =>
      rw [addE_yes hk hf]
      have hok := HA.out.ok.add (k : Int) b
      rw [addE_yes hk hf] at hok
      have HOK := Lib.hid hok; clear hok
      have hf1 : ¬ b < -x.N k := by simp [fits] at hf; omega
      have hf2 : ¬ 1000 - x.N k < b := by simp [fits] at hf; omega
      obtain ⟨F, hF, hT⟩ := h.hm
      have HT := Lib.hid hT
      have hlook := hF.lookOk k (by omega)
      have hnq := h.qr; have hnm := h.qm; have hrm := h.rm
      cases hFk : F k with
      | some v =>
        rw [hFk] at hlook
        have HFK := Lib.hid hFk
        have fz := Blk.frozen h.hr k
        have HF := Lib.hid hF
        clear hp h hf hT hFk hF
        obtain ⟨u, hu⟩ : ∃ u, x.N k = u := ⟨_, rfl⟩
        rw [hu] at c2 hx0 hx1 hf1 hf2 HOK ⊢
        have HU := Lib.hid hu; clear hu
        go_enter Try.func12, Try.ntmps12
        go_wp2_with (go_at_call 28; refine HP.out.mono ?_; rintro e w' ⟨rfl, rfl⟩)
        go_ret
        have hA := HA.out
        have hg := only_set (World.grownBy.refl w' (some rb)) k (.int .i64 (u + b))
        exact ⟨rfl, ⟨hA.hq.grown hg (by simpa using hnq), hA.hr.put k _, ⟨F, HF.out.of_block (hg.block _ HF.out.lt (by simpa using hrm.symm)), tells_add' HT.out HFK.out⟩, HOK.out, hA.Bq, hA.Br, hA.Bm⟩, .of_grown hg (fun j hj => by cases hj; exact .inr (.inl rfl))⟩
      | none =>
        rw [hFk] at hlook
        have HFK := Lib.hid hFk
        obtain ⟨w2, hrun, hm2, hg2'⟩ := (show CMap w.drew mb_ F from hF.of_block rfl).store (k := k) (by omega) (x.N k)
        have hg2 : w.grownBy w2 (some mb_) := (grown_drew w _).trans hg2'
        clear hg2'
        have hq2 := h.hq.grown hg2 (by simpa using hnm)
        have hr2 : RowAt w2 rb n x.N := Blk.grown h.hr hg2 (by simpa using hrm)
        have d0 := hq2.cell 0; have d1 := hq2.cell 1
        simp at d0 d1
        have d2 := hr2.at_ hk
        have fz := Blk.frozen hr2 k
        have HM2 := Lib.hid hm2; have HG2 := Lib.hid hg2; have HQ2 := Lib.hid hq2; have HR2 := Lib.hid hr2
        clear hp h hf hT hFk hF hm2 hg2 hq2 hr2
        obtain ⟨u, hu⟩ : ∃ u, x.N k = u := ⟨_, rfl⟩
        rw [hu] at c2 d2 hx0 hx1 hf1 hf2 hrun HOK ⊢
        have HU := Lib.hid hu; clear hu
        go_enter Try.func12, Try.ntmps12
        go_wp2_with (go_at_call 28; refine HP.out.mono ?_; rintro e w' ⟨rfl, rfl⟩)
        go_region
        go_wp2
        go_ret
        have hA := HA.out
        have hg := only_set (World.grownBy.refl w2 (some rb)) k (.int .i64 (u + b))
        have ht := tells_add (v := u + b) HT.out hk HFK.out
        have hm3 := HM2.out
        rw [HU.out] at ht hm3
        exact ⟨rfl, ⟨HQ2.out.grown hg (by simpa using hnq), HR2.out.put k _, ⟨_, hm3.of_block (hg.block _ hm3.lt (by simpa using hrm.symm)), ht⟩, HOK.out, hA.Bq, hA.Br, hA.Bm⟩,
          (Turn.of_grown HG2.out (fun j hj => by cases hj; exact .inr (.inr rfl))).trans (.of_grown hg (fun j hj => by cases hj; exact .inr (.inl rfl)))⟩
end
end Go.Proofs.Ytpdkjgmldlpaaaa.Cts
