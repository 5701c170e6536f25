/- The law AllocRuns: runs tell just the free pages, in order, with a page that is not free between any two. -/
import Derived.Test.YtldbfhgkicphkaaDoorAlcScript
import Derived.Deep.DeepCutAuto
import Derived.Deep.CutBlock
namespace Go.Proofs.YtldbfhgkicphkaaDoor.AllocRuns
open Go.ChangeShapes Go.WideShapes Go.RowKit Mem AlcBits Alc
set_option linter.unusedVariables false
set_option linter.unusedSimpArgs false

/-- What the runs of the pages below n are. -/
structure RunsOK (F : Nat → Bool) (n : Nat) (l : List (Nat × Nat)) : Prop where
  each : ∀ (i : Nat) (x : Nat × Nat), l[i]? = some x → 1 ≤ x.2 ∧ x.1 + x.2 ≤ n ∧ (∀ k, k < x.2 → F (x.1 + k) = true) ∧ (x.1 = 0 ∨ F (x.1 - 1) = false) ∧ (x.1 + x.2 = n ∨ F (x.1 + x.2) = false)
  gap : ∀ (i : Nat) (x y : Nat × Nat), l[i]? = some x → l[i + 1]? = some y → x.1 + x.2 < y.1
  sum : (l.map (·.2)).sum = cnt F n
  last : 0 < n → F (n - 1) = true → ∃ l' x, l = l' ++ [x] ∧ x.1 + x.2 = n
theorem snoc_at {α : Type} {l : List α} {x y : α} {i : Nat} (h : (l ++ [x])[i]? = some y) : (i < l.length ∧ l[i]? = some y) ∨ (i = l.length ∧ y = x) := by
  rcases Nat.lt_trichotomy i l.length with hi | hi | hi
  · rw [List.getElem?_append_left hi] at h; exact .inl ⟨hi, h⟩
  · subst hi; simp at h; exact .inr ⟨rfl, h.symm⟩
  · rw [List.getElem?_eq_none (by simp; omega)] at h; cases h
theorem runs_ok (F : Nat → Bool) : ∀ n, RunsOK F n (runsUp F n)
  | 0 => ⟨fun i x h => by simp [runsUp] at h, fun i x y h => by simp [runsUp] at h, rfl, fun h => by omega⟩
  | p + 1 => by
    have ih := runs_ok F p
    by_cases hF : F p = true
    · by_cases hb : 0 < p ∧ F (p - 1) = true
      · obtain ⟨l', x, hl, hx⟩ := ih.last hb.1 hb.2
        have hr : runsUp F (p + 1) = l' ++ [(x.1, x.2 + 1)] := by
          simp only [runsUp]
          rw [if_pos hF, if_pos hb, hl]
          obtain ⟨a, b⟩ := x
          exact bump_snoc l' a b
        have hxm : (runsUp F p)[l'.length]? = some x := by rw [hl]; simp
        rw [hr]
        refine ⟨fun i y h => ?_, fun i y z h1 h2 => ?_, ?_, fun _ _ => ⟨l', _, rfl, by simp; omega⟩⟩
        · rcases snoc_at h with ⟨hi, h⟩ | ⟨rfl, rfl⟩
          · have hm : (runsUp F p)[i]? = some y := by rw [hl, List.getElem?_append_left hi]; exact h
            have e := ih.each i y hm
            refine ⟨e.1, by omega, e.2.2.1, e.2.2.2.1, ?_⟩
            rcases e.2.2.2.2 with h5 | h5
            · exfalso
              rcases Nat.lt_or_ge (i + 1) l'.length with h6 | h6
              · obtain ⟨z, hz⟩ : ∃ z, (runsUp F p)[i + 1]? = some z := ⟨_, List.getElem?_eq_getElem (by rw [hl]; simp; omega)⟩
                have := ih.gap i y z hm hz
                have := (ih.each _ z hz)
                omega
              · have hil : i + 1 = l'.length := by omega
                have := ih.gap i y x hm (by rw [hil]; exact hxm)
                omega
            · exact .inr h5
          · have e := ih.each _ x hxm
            refine ⟨by simp, by simp; omega, fun k hk => ?_, e.2.2.2.1, .inl (by simp; omega)⟩
            simp at hk ⊢
            by_cases hkx : k = x.2
            · rw [hkx, hx]; exact hF
            · exact e.2.2.1 k (by omega)
        · rcases snoc_at h1 with ⟨hi, h1⟩ | ⟨rfl, rfl⟩
          · have hm : (runsUp F p)[i]? = some y := by rw [hl, List.getElem?_append_left hi]; exact h1
            rcases snoc_at h2 with ⟨hi2, h2⟩ | ⟨hi2, rfl⟩
            · exact ih.gap i y z hm (by rw [hl, List.getElem?_append_left hi2]; exact h2)
            · exact ih.gap i y x hm (by rw [hi2]; exact hxm)
          · rw [List.getElem?_eq_none (by simp)] at h2; cases h2
        · have := ih.sum
          rw [hl] at this
          simp only [List.map_append, List.sum_append, List.map_cons, List.map_nil, List.sum_cons, List.sum_nil, cnt] at this ⊢
          rw [hF]
          simp; omega
      · have hr : runsUp F (p + 1) = runsUp F p ++ [(p, 1)] := by simp only [runsUp]; rw [if_pos hF, if_neg hb]
        have hprev : p = 0 ∨ F (p - 1) = false := by
          by_cases h : p = 0
          · exact .inl h
          · exact .inr (by simpa using fun e => hb ⟨by omega, e⟩)
        have hstrict : ∀ (i : Nat) (y : Nat × Nat), (runsUp F p)[i]? = some y → y.1 + y.2 < p := by
          intro i y h
          have e := ih.each i y h
          rcases Nat.lt_or_ge (y.1 + y.2) p with h1 | h1
          · exact h1
          · exfalso
            have hp : y.1 + y.2 = p := by omega
            have h2 := e.2.2.1 (y.2 - 1) (by omega)
            rw [show y.1 + (y.2 - 1) = p - 1 by omega] at h2
            rcases hprev with h3 | h3
            · omega
            · rw [h3] at h2; cases h2
        rw [hr]
        refine ⟨fun i y h => ?_, fun i y z h1 h2 => ?_, ?_, fun _ _ => ⟨_, _, rfl, by simp⟩⟩
        · rcases snoc_at h with ⟨hi, h⟩ | ⟨rfl, rfl⟩
          · have e := ih.each i y h
            have := hstrict i y h
            exact ⟨e.1, by omega, e.2.2.1, e.2.2.2.1, .inr (by rcases e.2.2.2.2 with h5 | h5; omega; exact h5)⟩
          · exact ⟨by simp, by simp, fun k hk => by simp at hk; subst hk; exact hF, hprev, .inl (by simp)⟩
        · rcases snoc_at h1 with ⟨hi, h1⟩ | ⟨rfl, rfl⟩
          · rcases snoc_at h2 with ⟨hi2, h2⟩ | ⟨hi2, rfl⟩
            · exact ih.gap i y z h1 h2
            · exact hstrict i y h1
          · rw [List.getElem?_eq_none (by simp)] at h2; cases h2
        · have := ih.sum
          simp only [List.map_append, List.sum_append, List.map_cons, List.map_nil, List.sum_cons, List.sum_nil, cnt]
          rw [hF, this]
          rfl
    · have hF' : F p = false := by simpa using hF
      have hr : runsUp F (p + 1) = runsUp F p := by simp only [runsUp]; rw [if_neg hF]
      rw [hr]
      refine ⟨fun i y h => ?_, ih.gap, ?_, fun _ h => by simp at h; rw [hF'] at h; cases h⟩
      · have e := ih.each i y h
        refine ⟨e.1, by omega, e.2.2.1, e.2.2.2.1, .inr ?_⟩
        rcases e.2.2.2.2 with h5 | h5
        · rw [h5]; exact hF'
        · exact h5
      · rw [ih.sum]; simp only [cnt]; rw [hF']; rfl
theorem owns_shape {w : World} {b m : Nat} {v : Value} {xs : List Value} (h : w.ownsRow b 40 2 v m xs) : ∃ A c, v = .slice A m c := by
  obtain ⟨h1, h2 | ⟨g, cap, cur, rfl, hb, hh, h3⟩⟩ := h
  · obtain ⟨rfl, rfl⟩ := h2; exact ⟨_, _, rfl⟩
  · exact ⟨_, _, rfl⟩
/-- The end of the run ahead of the i-th; how many the first i have. -/
def endI (l : List (Nat × Nat)) : Nat → Int
  | 0 => -1
  | i + 1 => match l[i]? with | some x => ((x.1 + x.2 : Nat) : Int) | none => 0
def sumUp (l : List (Nat × Nat)) (i : Nat) : Nat := ((l.take i).map (·.2)).sum
theorem sumUp_succ {l : List (Nat × Nat)} {i : Nat} {x : Nat × Nat} (h : l[i]? = some x) : sumUp l (i + 1) = sumUp l i + x.2 := by
  unfold sumUp
  rw [List.take_add_one, h]
  simp
theorem endI_succ {l : List (Nat × Nat)} {i : Nat} {x : Nat × Nat} (h : l[i]? = some x) : endI l (i + 1) = ((x.1 + x.2 : Nat) : Int) := by
  simp only [endI, h]
theorem endI_lt {F : Nat → Bool} {n : Nat} {l : List (Nat × Nat)} (hr : RunsOK F n l) {i : Nat} {x : Nat × Nat} (h : l[i]? = some x) : -1 ≤ endI l i ∧ endI l i < (x.1 : Int) := by
  cases i with
  | zero => simp [endI]; omega
  | succ i =>
    obtain ⟨y, hy⟩ : ∃ y, l[i]? = some y := by
      have := (List.getElem?_eq_some_iff.1 h).1
      exact ⟨_, List.getElem?_eq_getElem (by omega)⟩
    rw [endI_succ hy]
    have := hr.gap i y x hy h
    omega
theorem sumUp_le {F : Nat → Bool} {n : Nat} {l : List (Nat × Nat)} (hr : RunsOK F n l) : ∀ i, sumUp l i ≤ n := by
  intro i
  have h1 : sumUp l i ≤ (l.map (·.2)).sum := by
    unfold sumUp
    conv => rhs; rw [← List.take_append_drop i l]
    rw [List.map_append, List.sum_append]
    omega
  have := hr.sum
  have := cnt_le F n
  omega
set_option maxRecDepth 100000 in
set_option maxHeartbeats 8000000 in
theorem walk {H : Type} {enc : TypeId × Value → H} (W : World) (base : Nat) (v0 v1 : Value) (d0 d1 : DataW H) (p0 p1 : List MemPlace)
    (o0 : Value.okWide Tryd.prog W .any base 3 v0)
    (o1 : Value.okWide Tryd.prog W .any base 22 v1)
    (h0 : DataW.Trod enc Tryd.prog W 0 (fun _ => true) true 3 v0 d0 p0)
    (h1 : DataW.Trod enc Tryd.prog W 0 (fun _ => true) true 22 v1 d1 p1)
    (hL : laidMetH Tryd.prog Rows.allocRunsRow.laid W) :
    Calls Tryd.prog 4 #[v0, v1] W fun e W' => e = .returned (.bool true) ∧ Below W.heap.size W W' := by
  have hT := tab_of hL
  obtain ⟨n, rfl, _, _, hn⟩ := open_int Tryd.underlying3 o0 h0
  obtain ⟨A, M, cM, ops, rfl, hsc, hM⟩ := open_script8 o1 h1
  have hn := bounds_i64 hn
  have HSC := Lib.hid hsc
  clear o0 o1 h0 h1 hL hsc
  have HT := Lib.hid hT
  clear hT
  by_cases hout : n < 1 ∨ 1024 < n
  · have HN := Lib.hid (new_none n W hout)
    have HK := Lib.hid (known8_call HT.out (World.grownBy.refl W none))
    have hd : (decide (n < 1) || decide (1024 < n)) = true := by simpa using hout
    clear hout
    go_enter Tryd.func4, Tryd.ntmps4
    go_wp2_with (first
      | (go_at_call 7; refine HN.out.mono ?_; rintro e w1 ⟨rfl, rfl⟩)
      | (go_at_call 9; refine HK.out.mono ?_; rintro e w2 ⟨rfl, hg⟩; have HG := Lib.hid hg; clear hg))
    all_goals go_ret
    all_goals exact ⟨rfl, below_of_grown HG.out (Nat.le_refl _) (by simp)⟩
  · obtain ⟨N, rfl⟩ : ∃ N : Nat, n = N := ⟨n.toNat, by omega⟩
    have hN1 : 1 ≤ N := by omega
    have hN2 : N ≤ 1024 := by omega
    have hd1 : decide ((N : Int) < 1) = false := decide_eq_false (by omega)
    have hd2 : decide (1024 < (N : Int)) = false := decide_eq_false (by omega)
    have HNW := Lib.hid (one_new HT.out (World.grownBy.refl W none) N hN1 hN2)
    clear hout hn
    go_enter Tryd.func4, Tryd.ntmps4
    go_wp2_with (first
      | (go_at_call 7
         refine HNW.out.mono ?_
         rintro e w1 ⟨q, own, rfl, h1, hg1, _⟩
         have H1 := Lib.hid h1; have HG1 := Lib.hid hg1
         have HK := Lib.hid (known8_call HT.out hg1)
         clear h1 hg1)
      | (go_at_call 9
         refine HK.out.mono ?_
         rintro e w2 ⟨rfl, hg⟩
         have HG2 := Lib.hid (grown_trans_none HG1.out hg)
         have H2 := Lib.hid (H1.out.grown hg)
         clear hg))
    have HLW := Lib.hid H1.out.low
    clear H1 HK HNW HG1
    go_loopw [6] (fun i wr => ∃ k : Nat, k ≤ M ∧ i = .int .i64 k ∧ ∃ x, One W wr q N x own ∧ W.grownBy wr none) (fun i _ => M - (intOf i).toNat)
    case atStart => exact ⟨0, by omega, rfl, _, H2.out, HG2.out⟩
    case round =>
      obtain ⟨k, hk, rfl, x, ho, hg⟩ := hrel
      have HO := Lib.hid ho; have HG := Lib.hid hg
      clear ho hg
      by_cases hlt : k < M
      · have h1 : (k : Int) < M := by omega
        have h0 : (0 : Int) ≤ k := by omega
        have hw1 : IntKind.i64.wrap ((k : Int) + 1) = ((k + 1 : Nat) : Int) := wrap_i64n (n := k + 1) (by omega)
        obtain ⟨ga, oa, y, rfl, _, hy, c1, c2⟩ := HSC.out.at_ HG.out hlt
        have HPL := Lib.hid (play_call HO.out y.kind y.page hy.2)
        generalize stepE N x y.kind y.page = x' at HPL
        generalize y.kind = kind at HPL c1
        generalize y.page = page at HPL c2
        clear hy
        go_wp2_with (go_at_call 27
                     refine HPL.out.mono ?_
                     rintro e w3 ⟨rfl, h3, ht3⟩
                     have HO3 := Lib.hid h3; have HG3 := Lib.hid (grown_turn HG.out ht3 HLW.out)
                     clear h3 ht3)
        exact ⟨⟨k + 1, by omega, by first | rfl | go_num, _, HO3.out, HG3.out⟩, by simp [intOf]; omega⟩
      · have hkn : ¬ ((k : Int) < M) := by omega
        have HRN := Lib.hid (one_runs HO.out)
        obtain ⟨L, hL⟩ : ∃ L, runsUp x.F N = L := ⟨_, rfl⟩
        have hok := runs_ok x.F N
        rw [hL] at hok HRN
        have hLn : L.length ≤ N := by rw [← hL]; exact runsUp_len _ _
        obtain ⟨m, hm⟩ : ∃ m, L.length = m := ⟨_, rfl⟩
        have HM := Lib.hid hm
        rw [hm] at HRN hLn
        have HOK := Lib.hid hok
        clear hok hL hm
        go_wp2_with (go_at_call 25
                     refine HRN.out.mono ?_
                     rintro e w4 ⟨v, rfl, hrow, hg4⟩
                     obtain ⟨A4, c4, rfl⟩ : ∃ A c, v = .slice A m c := owns_shape hrow
                     have HROW := Lib.hid hrow
                     have HG4 := Lib.hid (grown_trans_none HG.out hg4)
                     have HO4 := Lib.hid (HO.out.grown hg4)
                     clear hrow hg4)
        go_loopw [8, 9, 10, 11] (fun f e i _ wr => ∃ j : Nat, j ≤ m ∧ i = .int .i64 j ∧ f = .int .i64 (sumUp L j : Nat) ∧ e = .int .i64 (endI L j) ∧ w4.grownBy wr none) (fun _ _ i _ _ => m - (intOf i).toNat)
        case atStart => exact ⟨0, by omega, rfl, rfl, rfl, World.grownBy.refl _ _⟩
        case round =>
          obtain ⟨j, hj, rfl, rfl, rfl, hg5⟩ := hrel
          have HG5 := Lib.hid hg5; clear hg5
          by_cases hlt2 : j < m
          · obtain ⟨y, hy⟩ : ∃ y, L[j]? = some y := ⟨_, List.getElem?_eq_getElem (by rw [HM.out]; exact hlt2)⟩
            obtain ⟨g, cap, cur, hv, _, hbg, _, _, hsz, htk⟩ := owns_some HROW.out (by omega)
            injection hv with hv1 hv2 hv3
            subst hv1
            subst hv3
            clear hv2
            obtain ⟨e1, e2⟩ := enCs_at L j y hy
            have hbg := hbg.grown HG5.out (by simp)
            have a1 : wr.cell? ⟨g, j * 2, none⟩ = some (.int .i64 (y.1 : Nat)) := by rw [hbg.cell, take_at htk (by omega), e1]
            have a2 : wr.cell? ⟨g, j * 2 + 1, none⟩ = some (.int .i64 (y.2 : Nat)) := by rw [hbg.cell, take_at htk (by omega), e2]
            have hea := HOK.out.each j y hy
            have hel := endI_lt HOK.out hy
            have hsl := sumUp_le HOK.out (j + 1)
            have HES := Lib.hid (endI_succ hy)
            have HSS := Lib.hid (sumUp_succ hy)
            rw [HSS.out] at hsl
            obtain ⟨ya, yb⟩ := y
            simp only at a1 a2 hea hel HES HSS hsl
            have hp1 : isF x.F N ((ya : Int) - 1) = false := by
              by_cases h : ya = 0
              · subst h; simp [isF, isP]
              · rw [show (ya : Int) - 1 = ((ya - 1 : Nat) : Int) by omega, isF_nat (by omega)]
                rcases hea.2.2.2.1 with h2 | h2
                · omega
                · exact h2
            have hp2 : isF x.F N (((ya + yb : Nat)) : Int) = false := by
              by_cases h : ya + yb = N
              · rw [h]; simp [isF, isP]
              · rw [isF_nat (by omega)]
                rcases hea.2.2.2.2 with h2 | h2
                · omega
                · exact h2
            have HI1 := fun u => Lib.hid (one_isFree ((HO4.out.grown HG5.out).grown (w' := wr.drewN u) ⟨rfl, rfl, rfl, Nat.le_refl _, fun _ _ _ => rfl⟩) ((ya : Int) - 1) ⟨by omega, by omega⟩)
            have HI2 := fun u => Lib.hid (one_isFree ((HO4.out.grown HG5.out).grown (w' := wr.drewN u) ⟨rfl, rfl, rfl, Nat.le_refl _, fun _ _ _ => rfl⟩) ((ya + yb : Nat) : Int) ⟨by omega, by omega⟩)
            simp only [hp1] at HI1
            simp only [hp2] at HI2
            have hd3 : decide ((ya : Int) ≤ endI L j) = false := decide_eq_false (by omega)
            have hd4 : decide ((yb : Int) < 1) = false := decide_eq_false (by omega)
            have hw0 : IntKind.i64.wrap ((N : Int) - (ya : Int)) = ((N - ya : Nat) : Int) := by rw [← wrap_i64n (n := N - ya) (by omega)]; congr 1; omega
            have hd5 : decide (((N - ya : Nat) : Int) < (yb : Int)) = false := decide_eq_false (by omega)
            have hw1 : IntKind.i64.wrap ((ya : Int) - 1) = (ya : Int) - 1 := IntWalk.i64_in _ (by omega)
            have hw2 : IntKind.i64.wrap ((ya : Int) + (yb : Int)) = ((ya + yb : Nat) : Int) := wrap_i64n (n := ya + yb) (by omega)
            have hw3 : IntKind.i64.wrap ((j : Int) + 1) = ((j + 1 : Nat) : Int) := wrap_i64n (n := j + 1) (by omega)
            have hw4 : IntKind.i64.wrap (((sumUp L j : Nat) : Int) + (yb : Int)) = ((sumUp L j + yb : Nat) : Int) := wrap_i64n (n := sumUp L j + yb) (by omega)
            have h1 : (j : Int) < m := by omega
            have h0 : (0 : Int) ≤ j := by omega
            obtain ⟨P1, hP1⟩ : ∃ P1 : Int, (ya : Int) - 1 = P1 := ⟨_, rfl⟩
            obtain ⟨P2, hP2⟩ : ∃ P2 : Int, ((ya + yb : Nat) : Int) = P2 := ⟨_, rfl⟩
            replace hw1 := hw1.trans hP1
            replace hw2 := hw2.trans hP2
            rw [hP2] at HES
            simp only [hP1] at HI1
            simp only [hP2] at HI2
            have HP2 := Lib.hid hP2
            have HF := Lib.hid hea.2.2.1
            have hab := hea.2.1
            clear hP1 hP2
            have hd6 : yb ≤ N - ya := by omega
            have hglt := hbg.lt
            clear hea hel hbg htk e1 e2 hy hp1 hp2 hsz
            go_wp2_with fail
            go_quiet (first
              | (go_at_call_of 22 (Value.int IntKind.i64 P1); exact Calls.quiet_of (HI1 _).out)
              | (go_at_call_of 22 (Value.int IntKind.i64 P2); exact Calls.quiet_of (HI2 _).out))
            go_wp2_with fail
            have hd7 : decide (N - ya < yb) = false := decide_eq_false (by omega)
            simp only [hd7]
            clear hd7
            go_loopw [11] (fun i wx => ∃ kk : Nat, kk ≤ yb ∧ i = .int .i64 kk ∧ wr.grownBy wx none) (fun i _ => yb - (intOf i).toNat)
            case atStart => exact ⟨0, by omega, rfl, ⟨rfl, rfl, rfl, Nat.le_refl _, fun _ _ _ => rfl⟩⟩
            case round =>
              obtain ⟨kk, hkk, rfl, hg6⟩ := hrel
              have b1 := hg6.block g hglt (by simp)
              have c1 : wr.cell? ⟨g, j * 2, none⟩ = some (.int .i64 (ya : Nat)) := by rw [World.cell?_of_block (a := ⟨g, j * 2, none⟩) b1]; exact a1
              have c2 : wr.cell? ⟨g, j * 2 + 1, none⟩ = some (.int .i64 (yb : Nat)) := by rw [World.cell?_of_block (a := ⟨g, j * 2 + 1, none⟩) b1]; exact a2
              have HG6 := Lib.hid hg6
              clear hg6 b1
              by_cases hlt3 : kk < yb
              · have h3 : (kk : Int) < yb := by omega
                have hp3 : isF x.F N ((ya + kk : Nat) : Int) = true := by rw [isF_nat (by omega)]; exact HF.out kk hlt3
                have HI3 := Lib.hid (one_isFree ((HO4.out.grown HG5.out).grown HG6.out) ((ya + kk : Nat) : Int) ⟨by omega, by omega⟩)
                rw [hp3] at HI3
                have hw5 : IntKind.i64.wrap ((ya : Int) + (kk : Int)) = ((ya + kk : Nat) : Int) := wrap_i64n (n := ya + kk) (by omega)
                have hw6 : IntKind.i64.wrap ((kk : Int) + 1) = ((kk + 1 : Nat) : Int) := wrap_i64n (n := kk + 1) (by omega)
                clear hp3
                go_wp2_with (go_at_call 22
                             refine HI3.out.mono ?_
                             rintro e w7 ⟨rfl, k7, rfl⟩)
                go_roundw
                case rel => exact ⟨kk + 1, by omega, by first | rfl | go_num, grown_trans_none HG6.out ⟨rfl, rfl, rfl, Nat.le_refl _, fun _ _ _ => rfl⟩⟩
                case measure => simp [intOf]; omega
              · have h3 : ¬ ((kk : Int) < yb) := by omega
                go_wp2_with fail
                go_quiet (fail)
                go_wp2_with fail
                go_roundw
                case rel => exact ⟨j + 1, by omega, by first | rfl | go_num, by rw [HSS.out]; first | rfl | go_num, by rw [HES.out], grown_trans_none (grown_trans_none HG5.out HG6.out) ⟨rfl, rfl, rfl, Nat.le_refl _, fun _ _ _ => rfl⟩⟩
                case measure => simp [intOf]; omega
          · have hjm : j = m := by omega
            have hnl : ¬ ((j : Int) < m) := by omega
            have HFR := Lib.hid (one_free (HO4.out.grown HG5.out))
            have hsum : sumUp L j = cnt x.F N := by
              rw [← HOK.out.sum, hjm, ← HM.out]
              unfold sumUp
              rw [List.take_length]
            rw [hsum]
            obtain ⟨cc, hcc⟩ : ∃ cc, cnt x.F N = cc := ⟨_, rfl⟩
            rw [hcc] at HFR ⊢
            have hb : ((cc : Int) == (cc : Int)) = true := by simp
            clear hsum hcc hjm
            go_wp2_with (go_at_call 20
                         refine HFR.out.mono ?_
                         rintro e w7 ⟨rfl, rfl⟩)
            go_ret
            exact ⟨rfl, below_of_grown (grown_trans_none HG4.out HG5.out) (Nat.le_refl _) (by simp)⟩
end Go.Proofs.YtldbfhgkicphkaaDoor.AllocRuns
