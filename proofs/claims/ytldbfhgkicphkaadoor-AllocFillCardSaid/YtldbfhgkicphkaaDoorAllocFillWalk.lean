/- The law AllocFill: of a new one all pages are taken, the least first; dropped in any order, all are free again, as one run. -/
import Derived.Test.YtldbfhgkicphkaaDoorAlcScript
import Derived.Deep.DeepCutAuto
import Derived.Deep.CutBlock
namespace Go.Proofs.YtldbfhgkicphkaaDoor.AllocFill
open Go.ChangeShapes Go.WideShapes Go.RowKit Mem AlcBits Alc
set_option linter.unusedVariables false
set_option linter.unusedSimpArgs false

/-- The pages from k on. -/
def fillF (n k : Nat) : Nat → Bool := fun p => decide (k ≤ p) && decide (p < n)
theorem fill_zero (n : Nat) : fillF n 0 = fun p => decide (p < n) := by funext p; simp [fillF]
theorem fill_least {n k : Nat} (h : k < n) : Least (fillF n k) n k true := .inl ⟨rfl, h, by simp [fillF, h], fun q hq => by simp [fillF]; omega⟩
theorem fill_cnt {n k : Nat} (h : k ≤ n) : cnt (fillF n k) n = n - k := by
  obtain ⟨d, rfl⟩ : ∃ d, n = k + d := ⟨n - k, by omega⟩
  rw [cnt_add, cnt_none (fun j hj => by simp [fillF]; omega), cnt_all (fun j hj => by simp [fillF]; omega)]
  omega
theorem fill_take {n k : Nat} (h : k < n) : takeF (fillF n k) = fillF n (k + 1) := by
  rw [← least_take (fill_least h) (fun p hp => by simp [fillF]; omega), if_pos rfl]
  funext p
  simp only [del, fillF]
  by_cases hp : p = k
  · subst hp; simp; omega
  · rw [show (p == k) = false from by simpa using hp, show decide (k ≤ p) = decide (k + 1 ≤ p) from decide_eq_decide.2 (by omega)]; rfl
theorem fill_end (n : Nat) : fillF n n = fun _ => false := by funext p; simp [fillF]
theorem owns_none {w : World} {b : Nat} {v : Value} (h : w.ownsRow b 40 2 v 0 (enCs [])) : ∃ A c, v = .slice A 0 c := by
  obtain ⟨h1, h2 | ⟨g, cap, cur, rfl, hb, hh, h3⟩⟩ := h
  · exact ⟨_, _, h2.1⟩
  · exact ⟨_, _, rfl⟩
/-- The place of a page behind k, all around. -/
def idx (k n p : Nat) : Nat := if k ≤ p then p - k else p + n - k
def rot (n k i : Nat) : Nat → Bool := fun p => decide (p < n) && decide (idx k n p < i)
theorem modv {n k i : Nat} (hk : k < n) (hi : i < n) : (k + i) % n = if k + i < n then k + i else k + i - n := by
  split
  next h => exact Nat.mod_eq_of_lt h
  next h => rw [Nat.mod_eq_sub_mod (by omega)]; exact Nat.mod_eq_of_lt (by omega)
theorem idx_at {n k i : Nat} (hk : k < n) (hi : i < n) : idx k n ((k + i) % n) = i := by
  rw [modv hk hi]; unfold idx; split <;> split <;> omega
theorem at_idx {n k p : Nat} (hk : k < n) (hp : p < n) : (k + idx k n p) % n = p := by
  have : idx k n p < n := by unfold idx; split <;> omega
  rw [modv hk this]; unfold idx; split <;> split <;> omega
theorem rot_zero (n k : Nat) : rot n k 0 = fun _ => false := by funext p; simp [rot]
theorem rot_all {n k : Nat} (hk : k < n) : rot n k n = fun p => decide (p < n) := by
  funext p
  by_cases hp : p < n
  · have : idx k n p < n := by unfold idx; split <;> omega
    simp [rot, hp, this]
  · simp [rot, hp]
theorem rot_isT {n k i : Nat} (hk : k < n) (hi : i < n) : isT (fun _ => false) (rot n k i) n (((k + i) % n : Nat) : Int) = true := by
  have hp : (k + i) % n < n := Nat.mod_lt _ (by omega)
  simp only [isT, isP_of hp, Int.toNat_natCast, rot, idx_at hk hi]
  simp
theorem rot_ins {n k i : Nat} (hk : k < n) (hi : i < n) : insI (fun _ => false) (rot n k i) n (((k + i) % n : Nat) : Int) = rot n k (i + 1) := by
  rw [insI, if_pos (rot_isT hk hi), Int.toNat_natCast]
  funext p
  simp only [ins, rot]
  by_cases hp : p = (k + i) % n
  · rw [hp, idx_at hk hi]
    have hp : (k + i) % n < n := Nat.mod_lt _ (by omega)
    simp [hp]
  · rw [show (p == (k + i) % n) = false from by simpa using hp, Bool.false_or]
    by_cases hpn : p < n
    · have : idx k n p ≠ i := fun e => hp (by rw [← e, at_idx hk hpn])
      rw [show decide (idx k n p < i) = decide (idx k n p < i + 1) from decide_eq_decide.2 (by omega)]
    · simp [hpn]
theorem runs_full {n : Nat} (h : 1 ≤ n) : runsUp (fun p => decide (p < n)) n = [(0, n)] := by
  obtain ⟨d, rfl⟩ : ∃ d, n = 0 + (d + 1) := ⟨n - 1, by omega⟩
  rw [runsUp_all _ 0 (.inl rfl) d (fun q h1 h2 => by simp; omega)]
  simp [runsUp]
theorem runs_none (n : Nat) : runsUp (fun _ => false) n = [] := by
  have := runsUp_none (fun _ => false) 0 n (fun _ _ _ => rfl)
  rw [Nat.zero_add] at this
  exact this

set_option maxRecDepth 100000 in
set_option maxHeartbeats 8000000 in
theorem walk {H : Type} {enc : TypeId × Value → H} (W : World) (base : Nat) (v0 v1 : Value) (d0 d1 : DataW H) (p0 p1 : List MemPlace)
    (o0 : Value.okWide Tryd.prog W .any base 3 v0)
    (o1 : Value.okWide Tryd.prog W .any base 3 v1)
    (h0 : DataW.Trod enc Tryd.prog W 0 (fun _ => true) true 3 v0 d0 p0)
    (h1 : DataW.Trod enc Tryd.prog W 0 (fun _ => true) true 3 v1 d1 p1)
    (hL : laidMetH Tryd.prog Rows.allocFillRow.laid W) :
    Calls Tryd.prog 6 #[v0, v1] W fun e W' => e = .returned (.bool true) ∧ Below W.heap.size W W' := by
  have hT := tab_of hL
  obtain ⟨n, rfl, _, _, hn⟩ := open_int Tryd.underlying3 o0 h0
  obtain ⟨from_, rfl, _, _, hfr⟩ := open_int Tryd.underlying3 o1 h1
  have hn := bounds_i64 hn
  have hfr := bounds_i64 hfr
  clear o0 o1 h0 h1 hL
  have HT := Lib.hid hT
  clear hT
  by_cases hout : n < 1 ∨ 1024 < n
  · have HN := Lib.hid (new_none n W hout)
    have HK := Lib.hid (known8_call HT.out (World.grownBy.refl W none))
    have hd : (decide (n < 1) || decide (1024 < n)) = true := by simpa using hout
    clear hout
    go_enter Tryd.func6, Tryd.ntmps6
    go_wp2_with (first
      | (go_at_call 7; refine HN.out.mono ?_; rintro e w1 ⟨rfl, rfl⟩)
      | (go_at_call 9; refine HK.out.mono ?_; rintro e w2 ⟨rfl, hg⟩; have HG := Lib.hid hg; clear hg))
    all_goals go_ret
    all_goals exact ⟨rfl, below_of_grown HG.out (Nat.le_refl _) (by simp)⟩
  · obtain ⟨N, rfl⟩ : ∃ N : Nat, n = N := ⟨n.toNat, by omega⟩
    have hN1 : 1 ≤ N := by omega
    have hN2 : N ≤ 1024 := by omega
    have hd1 : decide ((N : Int) < 1) = false := decide_eq_false (by omega)
    have hd2 : decide (1024 < (N : Int)) = false := decide_eq_false (by omega)
    have HNW := Lib.hid (one_new HT.out (World.grownBy.refl W none) N hN1 hN2)
    clear hout hn
    go_enter Tryd.func6, Tryd.ntmps6
    go_wp2_with (first
      | (go_at_call 7
         refine HNW.out.mono ?_
         rintro e w1 ⟨q, own, rfl, h1, hg1, _⟩
         have H1 := Lib.hid h1; have HG1 := Lib.hid hg1
         have HK := Lib.hid (known8_call HT.out hg1)
         clear h1 hg1)
      | (go_at_call 9
         refine HK.out.mono ?_
         rintro e w2 ⟨rfl, hg⟩
         have HG2 := Lib.hid (grown_trans_none HG1.out hg)
         have H2 := Lib.hid (H1.out.grown hg)
         clear hg))
    have HLW := Lib.hid H1.out.low
    have hfz := fill_zero N
    have HF0 := Lib.hid (show One W w2 q N ⟨fillF N 0, fun _ => false, fun p => decide (p < N)⟩ own from by rw [hfz]; exact H2.out)
    clear hfz H1 H2 HK HNW HG1
    go_loopw [6, 7, 8] (fun i _ _ wr => ∃ k : Nat, k ≤ N ∧ i = .int .i64 k ∧ One W wr q N ⟨fillF N k, fun _ => false, fun p => decide (p < N)⟩ own ∧ W.grownBy wr none) (fun i _ _ _ => N - (intOf i).toNat)
    case atStart => exact ⟨0, by omega, rfl, HF0.out, HG2.out⟩
    case round =>
      obtain ⟨k, hk, rfl, ho, hg⟩ := hrel
      have HO := Lib.hid ho; have HG := Lib.hid hg
      clear ho hg
      by_cases hlt : k < N
      · have h1 : (k : Int) < N := by omega
        have hw1 : IntKind.i64.wrap ((k : Int) + 1) = ((k + 1 : Nat) : Int) := wrap_i64n (n := k + 1) (by omega)
        have hw2 : IntKind.i64.wrap ((N : Int) - (k : Int)) = ((N - k : Nat) : Int) := by rw [← wrap_i64n (n := N - k) (by omega)]; congr 1; omega
        have hw3 : IntKind.i64.wrap (((N - k : Nat) : Int) - 1) = ((N - (k + 1) : Nat) : Int) := by rw [← wrap_i64n (n := N - (k + 1)) (by omega)]; congr 1; omega
        have hb : ((k : Int) != (k : Int)) = false := by simp
        have hb2 : (((N - (k + 1) : Nat) : Int) != ((N - (k + 1) : Nat) : Int)) = false := by simp
        have HTK := Lib.hid (fill_least hlt)
        have HX := Lib.hid (show (P3.take ⟨fillF N k, fun _ => false, fun p => decide (p < N)⟩ : P3) = ⟨fillF N (k + 1), fun _ => false, fun p => decide (p < N)⟩ from by simp only [P3.take, fill_take hlt])
        have HC := Lib.hid (fill_cnt (n := N) (k := k + 1) (by omega))
        go_wp2_with (first
          | (go_at_call 12
             refine (one_take HO.out).mono ?_
             rintro e w3 ⟨r1, ok1, rfl, hl1, h2, ht2⟩
             obtain ⟨rfl, rfl⟩ := least_one hl1 HTK.out
             rw [HX.out] at h2
             have HB1 := Lib.hid h2; have HG3 := Lib.hid (grown_turn HG.out ht2 HLW.out)
             have HFR := Lib.hid (one_free h2)
             rw [HC.out] at HFR
             clear h2 ht2 hl1)
          | (go_at_call 20
             refine HFR.out.mono ?_
             rintro e w5 ⟨rfl, rfl⟩))
        exact ⟨⟨r1 + 1, by omega, by first | rfl | go_num, HB1.out, HG3.out⟩, by simp [intOf]; omega⟩
      · obtain rfl : k = N := by omega
        have HE := Lib.hid (show fillF k k = fun _ => false from fill_end k)
        have ho := HO.out
        rw [HE.out] at ho
        have HO2 := Lib.hid ho
        have HL0 := Lib.hid (show Least (fun _ => false) k 0 false from .inr ⟨rfl, rfl, fun _ _ => rfl⟩)
        have HR0 := Lib.hid (runs_none k)
        have ht1 := Int.tmod_lt_of_pos from_ (show (0 : Int) < (k : Int) by omega)
        have ht2 := Int.lt_tmod_of_pos from_ (show (0 : Int) < (k : Int) by omega)
        obtain ⟨tm, htm⟩ : ∃ tm : Int, from_.tmod (k : Int) = tm := ⟨_, rfl⟩
        rw [htm] at ht1 ht2
        have HTM := Lib.hid (And.intro ht1 ht2)
        have hwt : IntKind.i64.wrap tm = tm := IntWalk.i64_in _ (by omega)
        have hnz : ((k : Int) == 0) = false := by simp; omega
        have hnz2 : ¬ ((k : Int) = 0) := by omega
        clear ho HE HO ht1 ht2 HF0
        go_upto_if 77 with (first
          | (go_at_call 12
             refine (one_take HO2.out).mono ?_
             rintro e w3 ⟨r1, ok1, rfl, hl1, h2, ht2⟩
             obtain ⟨rfl, rfl⟩ := least_one hl1 HL0.out
             have HB1 := Lib.hid (show One W w3 q k ⟨fun _ => false, fun _ => false, fun p => decide (p < k)⟩ own from h2)
             have HG3 := Lib.hid (grown_turn HG.out ht2 HLW.out)
             have HRU := Lib.hid (one_runs HB1.out)
             clear h2 ht2 hl1)
          | (go_at_call 25
             refine HRU.out.mono ?_
             rintro e w4 ⟨v, rfl, hrow, hg4⟩
             rw [HR0.out] at hrow
             obtain ⟨A1, c1, rfl⟩ := owns_none hrow
             have HG4 := Lib.hid (grown_trans_none HG3.out hg4)
             have HB4 := Lib.hid (HB1.out.grown hg4)
             clear hrow hg4))
        go_cut [11] (fun p wx => ∃ K : Nat, K < k ∧ p = .int .i64 (K : Nat) ∧ wx = w4)
        case first =>
          by_cases h0 : tm < 0
          · have hb0 : decide (tm < 0) = true := decide_eq_true h0
            have hw1 : IntKind.i64.wrap (tm + (k : Int)) = tm + (k : Int) := IntWalk.i64_in _ (by have := HTM.out; omega)
            obtain ⟨K, hkk⟩ : ∃ K : Nat, tm + (k : Int) = (K : Int) := ⟨(tm + (k : Int)).toNat, by have := HTM.out; omega⟩
            have HK := Lib.hid (show K < k by have := HTM.out; omega)
            have HKK := Lib.hid hkk
            clear hkk
            go_wp2_with fail
            go_meet
            exact ⟨K, HK.out, by rw [HKK.out], rfl⟩
          · have hb0 : decide (tm < 0) = false := decide_eq_false h0
            obtain ⟨K, hkk⟩ : ∃ K : Nat, tm = (K : Int) := ⟨tm.toNat, by omega⟩
            have HK := Lib.hid (show K < k by have := HTM.out; omega)
            have HKK := Lib.hid hkk
            clear hkk
            go_wp2_with fail
            go_meet
            exact ⟨K, HK.out, by rw [HKK.out], rfl⟩
        case rest =>
          obtain ⟨K, hK, rfl, rfl⟩ := hcut
          have HRZ := Lib.hid (rot_zero k K)
          clear htm HTM hwt
          go_wp2_with fail
          go_loopw [12] (fun i wr => ∃ j : Nat, j ≤ k ∧ i = .int .i64 j ∧ One W wr q k ⟨fun _ => false, rot k K j, fun p => decide (p < k)⟩ own ∧ W.grownBy wr none) (fun i _ => k - (intOf i).toNat)
          case atStart => exact ⟨0, by omega, rfl, by rw [HRZ.out]; exact HB4.out, HG4.out⟩
          case round =>
            obtain ⟨j, hj, rfl, ho, hg⟩ := hrel
            have HO := Lib.hid ho; have HGJ := Lib.hid hg
            clear ho hg
            by_cases hlt : j < k
            · have h1 : (j : Int) < k := by omega
              have hw1 : IntKind.i64.wrap ((j : Int) + 1) = ((j + 1 : Nat) : Int) := wrap_i64n (n := j + 1) (by omega)
              have hw2 : IntKind.i64.wrap ((K : Int) + (j : Int)) = ((K + j : Nat) : Int) := wrap_i64n (n := K + j) (by omega)
              obtain ⟨P, hP⟩ : ∃ P, (K + j) % k = P := ⟨_, rfl⟩
              have hPk : P < k := by rw [← hP]; exact Nat.mod_lt _ (by omega)
              have hm1 : (((K + j : Nat) : Int)).tmod (k : Int) = (P : Int) := by rw [← hP, Int.tmod_eq_emod_of_nonneg (by omega)]; exact (Int.natCast_emod _ _).symm
              have hm2 : (((K + j : Nat) : Int)) % (k : Int) = (P : Int) := by rw [← hP]; exact (Int.natCast_emod _ _).symm
              have hm3 : ((K : Int) + (j : Int)).tmod (k : Int) = (P : Int) := hm1
              have hm4 : ((K : Int) + (j : Int)) % (k : Int) = (P : Int) := hm2
              have hw3 : IntKind.i64.wrap (P : Int) = (P : Int) := wrap_i64n (by omega)
              have hisT := rot_isT hK hlt
              have hins := rot_ins hK hlt
              rw [hP] at hisT hins
              have HDR := Lib.hid (one_drop HO.out (P : Int) ⟨by omega, by omega⟩)
              rw [show isT (⟨fun _ => false, rot k K j, fun p => decide (p < k)⟩ : P3).F (⟨fun _ => false, rot k K j, fun p => decide (p < k)⟩ : P3).D k (P : Int) = true from hisT, show (P3.drop ⟨fun _ => false, rot k K j, fun p => decide (p < k)⟩ k (P : Int)) = ⟨fun _ => false, rot k K (j + 1), fun p => decide (p < k)⟩ from by simp only [P3.drop, hins]] at HDR
              have HC0 := Lib.hid (show cnt (fun _ => false) k = 0 from cnt_none fun _ _ => rfl)
              have HWJ := Lib.hid hw1
              clear hP hisT hins
              go_wp2_with (first
                | (go_at_call 14
                   refine HDR.out.mono ?_
                   rintro e w5 ⟨rfl, h5, ht5⟩
                   have HB5 := Lib.hid h5; have HG5 := Lib.hid (grown_turn HGJ.out ht5 HLW.out)
                   have HFR := Lib.hid (one_free h5)
                   rw [HC0.out] at HFR
                   clear h5 ht5)
                | (go_at_call 20
                   refine HFR.out.mono ?_
                   rintro e w6 ⟨rfl, rfl⟩))
              exact ⟨⟨j + 1, by omega, by first | rfl | go_num, HB5.out, HG5.out⟩, by simp [intOf]; omega⟩
            · obtain rfl : j = k := by omega
              have HRA := Lib.hid (rot_all hK)
              have HST := Lib.hid (one_settle HO.out)
              have hset : (P3.settle ⟨fun _ => false, rot j K j, fun p => decide (p < j)⟩ : P3) = ⟨fun p => decide (p < j), fun _ => false, fun p => decide (p < j)⟩ := by simp only [P3.settle, HRA.out, Bool.false_or]
              rw [hset] at HST
              have HRF := Lib.hid (runs_full hN1)
              have HCF := Lib.hid (show cnt (fun p => decide (p < j)) j = j from cnt_all fun x hx => by simpa using hx)
              have hq1 : ((j : Int) == (j : Int)) = true := by simp
              clear hset HRA
              go_wp2_with (first
                | (go_at_call 16
                   refine HST.out.mono ?_
                   rintro e w5 ⟨rfl, h5, ht5⟩
                   have HB5 := Lib.hid h5; have HG5 := Lib.hid (grown_turn HGJ.out ht5 HLW.out)
                   have HRN := Lib.hid (one_runs h5)
                   clear h5 ht5)
                | (go_at_call 25
                   refine HRN.out.mono ?_
                   rintro e w6 ⟨v, rfl, hrow, hg6⟩
                   rw [HRF.out] at hrow
                   obtain ⟨g, cap, cur, rfl, _, hbg, _, _, hsz, htk⟩ := owns_some hrow (by simp)
                   have e1 : w6.cell? ⟨g, 0, none⟩ = some (.int .i64 0) := by rw [hbg.cell, take_at htk (by simp)]; rfl
                   have e2 : w6.cell? ⟨g, 1, none⟩ = some (.int .i64 (j : Nat)) := by rw [hbg.cell, take_at htk (by simp)]; rfl
                   have HG6 := Lib.hid (grown_trans_none HG5.out hg6)
                   have HFR := Lib.hid (one_free (HB5.out.grown hg6))
                   rw [HCF.out] at HFR
                   clear hrow hg6 hbg hsz htk)
                | (go_at_call 20
                   refine HFR.out.mono ?_
                   rintro e w7 ⟨rfl, rfl⟩))
              all_goals go_ret
              exact ⟨rfl, below_of_grown HG6.out (Nat.le_refl _) (by simp)⟩
end Go.Proofs.YtldbfhgkicphkaaDoor.AllocFill
