/- The project's counts: Load. -/
import Derived.Test.YtpdkjgmldlpaaaaCtBody
namespace Go.Proofs.Ytpdkjgmldlpaaaa.Cts
open Go.RowKit CrcMath CodecMath Mem Crc Codec
set_option linter.unusedVariables false
set_option linter.unusedSimpArgs false

/-- What a Load's loop has deleted. -/
def cutF (F : Nat → Option Int) (a j : Nat) : Nat → Option Int := fun k => if a ≤ k ∧ k < j then none else F k
theorem cutF_start (F : Nat → Option Int) (a : Nat) : cutF F a a = F := by
  funext k
  unfold cutF
  rw [if_neg (by omega)]
theorem cutF_step (F : Nat → Option Int) {a j : Nat} (h : a ≤ j) : (fun k => if k = j then none else cutF F a j k) = cutF F a (j + 1) := by
  funext k
  unfold cutF
  by_cases e : k = j
  · rw [if_pos e, if_pos (by omega)]
  · rw [if_neg e]
    by_cases h2 : a ≤ k ∧ k < j
    · rw [if_pos h2, if_pos (by omega)]
    · rw [if_neg h2, if_neg (by omega)]
theorem tells_lay {n i : Nat} {x : Ct} {F : Nat → Option Int} {s : List Int} (h : Tells n x F) : Tells n ⟨lay n x.N i s, lay n x.W i s⟩ (cutF F (120 * i) (endN n i)) := by
  have he : endN n i = min (120 * i + 120) n := rfl
  refine ⟨fun p => ?_, fun p hp => ?_⟩
  · simp only [lay, cutF]
    by_cases hc : 120 * i ≤ p ∧ p < 120 * i + 120 ∧ p < n
    · rw [if_pos hc, if_pos hc]
      by_cases h2 : 120 * i ≤ p ∧ p < endN n i
      · rw [if_pos h2]; rfl
      · omega
    · rw [if_neg hc, if_neg hc, if_neg (by omega)]
      exact h.get p
  · simp only [cutF]
    rw [if_neg (by omega)]
    exact h.out p hp
theorem containsFunc_nil {w : World} {A : Option Addr} {m c : Nat} (hm : m = 0) :
    Calls Try.prog 32 #[.slice A m c, .func (.func 33) #[] #[]] w fun e w' => w' = w ∧ e = .returned (.bool false) := by
  subst hm
  exact containsFunc_call (b := 0) (l := []) ⟨rfl, fun y hy => by simp at hy, fun h0 => by omega⟩ (by omega)
section
variable {w : World} {B q rb mb_ n : Nat} {x : Ct}
set_option maxRecDepth 100000 in
set_option maxHeartbeats 4000000 in
theorem load_call (h : CtAt w B q rb mb_ n x) (p : Int) {b : Nat} {A : Option Addr} {m c : Nat} {l : List Nat} (hl : Bytes w b A m l) :
    Calls Try.prog 14 #[.pointer (some ⟨q, 0, none⟩), .int .i64 p, .slice A m c] w fun e w' => e = .returned (.int .i64 (loadE n x p l).1) ∧ CtAt w' B q rb mb_ n (loadE n x p l).2 ∧ Turn w w' (own3 q rb mb_) (own3 q rb mb_) := by
  have HP := Lib.hid (isPart_call h p)
  have HA := Lib.hid h
  cases hp : isI n p with
  | false =>
    rw [loadE_no hp]
    rw [hp] at HP
    clear hp h hl
    go_enter Try.func14, Try.ntmps14
    go_wp2_with (go_at_call 29; refine HP.out.mono ?_; rintro e w' ⟨rfl, rfl⟩)
    go_ret
    exact ⟨rfl, HA.out, Turn.refl _ _⟩
  | true =>
    rw [hp] at HP
    obtain ⟨i, rfl, hi⟩ := isI_nat hp
    have HGC := Lib.hid (codec_get_counts b A m c l w hl)
    cases hr : countsR l with
    | none =>
      rw [loadE_none hi hr]
      rw [hr] at HGC
      clear hp h hl hr
      go_enter Try.func14, Try.ntmps14
      go_wp2_with (first
        | (go_at_call 29; refine HP.out.mono ?_; rintro e w' ⟨rfl, rfl⟩)
        | (go_at_call 30
           refine HGC.out.mono ?_
           rintro e w1 ⟨hg1, ⟨s, v, ho, _⟩ | ⟨_, rfl⟩⟩
           · cases ho
           have HG1 := Lib.hid hg1; clear hg1))
      go_ret
      exact ⟨rfl, HA.out.grown HG1.out, .none_ HG1.out⟩
    | some s =>
      obtain ⟨hs, hb, _⟩ := countsR_some hr
      have HTA := Lib.hid (tail_any hi hs hb)
      rw [hr] at HGC
      have hi' : 120 * i < n := by unfold manyN at hi; omega
      have he : endN n i = min (120 * i + 120) n := rfl
      have hn := h.b64
      have s1 : (0 : Int) ≤ ((120 * i : Nat) : Int) := by omega
      have s2 : ((120 * i : Nat) : Int) ≤ ((endN n i : Nat) : Int) := by omega
      have s3 : ((endN n i : Nat) : Int) ≤ (n : Int) := by omega
      have s4 : 120 * i ≤ endN n i := by omega
      have s5 : endN n i ≤ n := by omega
      have s6 : endN n i - 120 * i ≤ 120 := by omega
      have t1 : (0 : Int) ≤ ((endN n i : Nat) : Int) - ((120 * i : Nat) : Int) := by omega
      have t2 : ((endN n i : Nat) : Int) - ((120 * i : Nat) : Int) ≤ 120 := by omega
      cases ht : tailOk n i s with
      | false =>
        rw [loadE_tail hi hr ht]
        rw [ht, Bool.not_false] at HTA
        have HS := Lib.hid hs; have HI := Lib.hid hi; have HR := Lib.hid hr
        have s7 : endN n i - 120 * i < 120 := by
          rcases Nat.lt_or_ge (endN n i - 120 * i) 120 with h7 | h7
          · exact h7
          · have : tailOk n i s = true := by
              rw [tailOk, List.all_eq_true]
              intro k hk
              simp only [List.mem_range] at hk
              simp only [Bool.or_eq_true, decide_eq_true_eq]
              exact .inl (by omega)
            rw [this] at ht; cases ht
        clear hp h hl hr ht hb he hs hi
        obtain ⟨en, hen⟩ : ∃ en, endN n i = en := ⟨_, rfl⟩
        rw [hen] at HTA s2 s3 s4 s5 s6 s7 t1 t2
        have HEN := Lib.hid hen; clear hen
        go_enter Try.func14, Try.ntmps14
        go_wp2_with (first
          | (go_at_call 29; refine HP.out.mono ?_; rintro e w' ⟨rfl, rfl⟩)
          | (go_at_call 30
             refine HGC.out.mono ?_
             rintro e w1 ⟨hg1, ⟨s', v, ho, rfl, hown, hrg⟩ | ⟨ho, _⟩⟩
             case inr => cases ho
             obtain rfl : s = s' := by injection ho
             rw [HS.out] at hown
             obtain ⟨A1, c1, rfl, hin, hc1, hm1⟩ := own_ints hown hrg
             obtain ⟨g1, o1, rfl, _, _, _⟩ := hin.2.2 (by omega)
             have hcc : ¬ c1 = en - 120 * i := by omega
             have HIN := Lib.hid hin
             have HPT := Lib.hid (part_call (HA.out.grown hg1) HI.out)
             rw [HEN.out] at HPT
             have HG1 := Lib.hid hg1
             clear hg1 ho hown hrg hin)
          | (go_at_call 31
             refine HPT.out.mono ?_
             rintro e w2 ⟨rfl, hw2⟩
             have hg2 : w1.grownBy w2 none := by rw [hw2]; exact grown_drew w1 none
             have HCF := Lib.hid (containsFunc_call (c := c1 - (en - 120 * i)) (ints_drop (ints_keep HIN.out hg2 (.inl rfl)) s6) (by omega))
             rw [HTA.out] at HCF
             have HG2 := Lib.hid (HG1.out.trans hg2)
             clear hw2 hg2)
          | (go_at_call 32
             refine HCF.out.mono ?_
             rintro e w3 ⟨rfl, rfl⟩))
        go_ret
        exact ⟨rfl, HA.out.grown HG2.out, .none_ HG2.out⟩
      | true =>
        rw [loadE_yes hi hr ht]
        rw [ht, Bool.not_true] at HTA
        have hst : (s.take (endN n i - 120 * i)).length = endN n i - 120 * i := by rw [List.length_take]; omega
        have hlay := lay_row (f := x.N) hi hs
        rw [hst] at hlay
        have HLAY := Lib.hid hlay; have HST := Lib.hid hst
        have HOK := Lib.hid (h.ok.lay (i := i) hs hb)
        have HS := Lib.hid hs; have HI := Lib.hid hi; have HR := Lib.hid hr
        clear hp h hl hr ht hb he hs hi hst hlay
        obtain ⟨en, hen⟩ : ∃ en, endN n i = en := ⟨_, rfl⟩
        rw [hen] at HTA s2 s3 s4 s5 s6 t1 t2 HLAY HST
        have HEN := Lib.hid hen; clear hen
        obtain ⟨F, hF, hT⟩ := HA.out.hm
        have HT := Lib.hid hT; have HF := Lib.hid hF
        clear hF hT
        go_enter Try.func14, Try.ntmps14
        go_wp2_with (first
          | (go_at_call 29; refine HP.out.mono ?_; rintro e w' ⟨rfl, rfl⟩)
          | (go_at_call 30
             refine HGC.out.mono ?_
             rintro e w1 ⟨hg1, ⟨s', v, ho, rfl, hown, hrg⟩ | ⟨ho, _⟩⟩
             case inr => cases ho
             obtain rfl : s = s' := by injection ho
             rw [HS.out] at hown
             obtain ⟨A1, c1, rfl, hin, hc1, hm1⟩ := own_ints hown hrg
             obtain ⟨g1, o1, rfl, _, _, _⟩ := hin.2.2 (by omega)
             have HIN := Lib.hid hin
             have HPT := Lib.hid (part_call (HA.out.grown hg1) HI.out)
             rw [HEN.out] at HPT
             have HG1 := Lib.hid hg1
             clear hg1 ho hown hrg hin
             rcases Decidable.em (c1 = en - 120 * i) with rfl | hcc)
          | (go_at_call 31
             refine HPT.out.mono ?_
             rintro e w2 ⟨rfl, hw2⟩
             have hg2 : w1.grownBy w2 none := by rw [hw2]; exact grown_drew w1 none
             have hin2 := ints_keep HIN.out hg2 (.inl rfl)
             have HIN2 := Lib.hid hin2
             have hG2 := HG1.out.trans hg2
             have hA2 := HA.out.grown hG2
             obtain ⟨d0, d1⟩ := hA2.cells
             have hst := HST.out
             have hs := HS.out
             have htk : ∀ j, j < en - 120 * i → (s.take (en - 120 * i)).getD j 0 = s.getD j 0 := fun j hj => by
               rw [List.getD_eq_getElem?_getD, List.getElem?_take_of_lt hj, ← List.getD_eq_getElem?_getD]
             obtain ⟨w4, hcp, hg4, hb4⟩ := copy_ints (o := 120 * i) (m := en - 120 * i) (dc := n - 120 * i) (gs := g1) (os := o1) (s := 120) (l := s.take (en - 120 * i)) hA2.hr
               (by rw [hst]; omega) (fun j hj => by
                 rw [hst] at hj
                 obtain ⟨g', o', e', _, _, hc'⟩ := hin2.2.2 (by omega)
                 cases e'
                 rw [hc' j (by omega), htk j hj]) (by rw [hst, row_length]; omega)
             rw [hst] at hcp hb4
             rw [HLAY.out] at hb4
             have hq4 := hA2.hq.grown hg4 (by simpa using hA2.qr)
             have e0 := hq4.cell 0
             have e1 := hq4.cell 1
             simp at e0 e1
             have HB4 := Lib.hid hb4; have HQ4 := Lib.hid hq4
             have hF4 : CMap w4 mb_ F := (HF.out.of_block (hG2.block _ HF.out.lt (by simp))).of_block (hg4.block _ (hA2.lt _ (.inr (.inr rfl))) (by simpa using hA2.rm.symm))
             have HF4 := Lib.hid hF4
             have HT4 := Lib.hid ((Turn.none_ (own := own3 q rb mb_) hG2).trans (.of_grown hg4 (fun j hj => by cases hj; exact .inr (.inl rfl))))
             clear hw2 hg2 hin2 hG2 hA2 hst hs htk hg4 hb4 hq4 hF4)
          | (go_at_call 32
             first
             | (refine (containsFunc_nil (by omega)).mono ?_
                rintro e w3 ⟨rfl, rfl⟩)
             | (refine (containsFunc_call (ints_drop HIN2.out s6) (by omega)).mono ?_
                rintro e w3 ⟨rfl, he⟩
                rw [HTA.out] at he
                subst he)))
        all_goals
          go_loopw [12] (fun k wr => ∃ j : Nat, 120 * i ≤ j ∧ j ≤ en ∧ k = .int .i64 j ∧ CMap wr mb_ (cutF F (120 * i) j) ∧ w4.grownBy wr (some mb_)) (fun k _ => en - (RowKit.intOf k).toNat)
          case atStart => exact ⟨120 * i, by omega, by omega, by simp, by rw [cutF_start]; exact HF4.out, World.grownBy.refl _ _⟩
          case round =>
            obtain ⟨j, hj1, hj2, rfl, hm, hg⟩ := hrel
            have hqr := HQ4.out.grown hg (by simpa using HA.out.qm)
            have f1 := hqr.cell 1
            simp at f1
            have HGR := Lib.hid hg; have HMR := Lib.hid hm
            clear hqr hg
            by_cases hlt : j < en
            · obtain ⟨w5, hdel, hm5, hg5⟩ := hm.drop j (by omega) 0
              rw [cutF_step F hj1] at hm5
              have HM5 := Lib.hid hm5; have HG5 := Lib.hid hg5
              clear hm hm5 hg5
              go_wp2_with fail
              go_roundw
              case rel => exact ⟨j + 1, by omega, by omega, by go_num, HM5.out, HGR.out.trans HG5.out⟩
              case measure => simp [RowKit.intOf]; omega
            · have hje : j = en := by omega
              subst hje
              clear hm
              go_wp2_with fail
              go_ret
              have hA := HA.out
              have hb := Blk.grown HB4.out HGR.out (by simpa using hA.rm)
              have hq := HQ4.out.grown HGR.out (by simpa using hA.qm)
              have ht := tells_lay (i := i) (s := s) HT.out
              rw [HEN.out] at ht
              exact ⟨rfl, ⟨hq, hb, ⟨_, HMR.out, ht⟩, HOK.out, hA.Bq, hA.Br, hA.Bm⟩, HT4.out.trans (.of_grown HGR.out (fun j hj => by cases hj; exact .inr (.inr rfl)))⟩
end
end Go.Proofs.Ytpdkjgmldlpaaaa.Cts
