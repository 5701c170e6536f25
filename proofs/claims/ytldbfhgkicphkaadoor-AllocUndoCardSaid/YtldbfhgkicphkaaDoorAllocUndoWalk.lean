/- The law AllocUndo: what is done between a Settle and an Undo leaves nothing behind. -/
import Derived.Test.YtldbfhgkicphkaaDoorAlcPair
import Derived.Deep.DeepCutAuto
import Derived.Deep.CutBlock
import Derived.Deep.RegionHeld3
namespace Go.Proofs.YtldbfhgkicphkaaDoor.AllocUndo
open Go.ChangeShapes Go.WideShapes Go.RowKit Mem AlcBits Alc
set_option linter.unusedVariables false
set_option linter.unusedSimpArgs false

theorem take_sub {F G : Nat → Bool} (h : ∀ p, F p = true → G p = true) : ∀ p, takeF F p = true → G p = true := fun p hp => h p (by simp [takeF] at hp; exact hp.1)
theorem del_sub {F G : Nat → Bool} {n : Nat} {q : Int} (h : ∀ p, F p = true → G p = true) : ∀ p, delI F n q p = true → G p = true := by
  intro p hp
  unfold delI at hp
  split at hp
  · simp [del] at hp; exact h p hp.2
  · exact h p hp
theorem isF_sub {F G : Nat → Bool} {n : Nat} {q : Int} (h : ∀ p, F p = true → G p = true) (hq : isF F n q = true) : isF G n q = true := by
  simp [isF] at hq ⊢
  exact ⟨hq.1, h _ hq.2⟩
/-- Where the steps behind the Settle stand. -/
def Mid (x : P3) (F0 : Nat → Bool) : Prop := x.S = F0 ∧ ∀ p, x.F p = true → F0 p = true

theorem mark_true {W w : World} {q n : Nat} {x : P3} {own : Nat → Prop} (h : One W w q n x own) (p : Int) (hp : In64 p) (hf : isF x.F n p = true) : Calls Tryd.prog 10 #[.pointer (some ⟨q, 0, none⟩), .int .i64 p] w fun e w' => e = .returned (.bool true) ∧ One W w' q n (x.mark n p) own ∧ Turn w w' own own := by
  have := one_mark h p hp
  rwa [hf] at this
theorem mark_false {W w : World} {q n : Nat} {x : P3} {own : Nat → Prop} (h : One W w q n x own) (p : Int) (hp : In64 p) (hf : isF x.F n p = false) : Calls Tryd.prog 10 #[.pointer (some ⟨q, 0, none⟩), .int .i64 p] w fun e w' => e = .returned (.bool false) ∧ One W w' q n (x.mark n p) own ∧ Turn w w' own own := by
  have := one_mark h p hp
  rwa [hf] at this
/-- A step's own block behind a call. -/
theorem new_op_cells {w w' : World} {own : Nat → Prop} {k p : Value} (ht : Turn (w.alloc (.cells #[k, p] 29)) w' own own) (ho : ∀ i, own i → i < w.heap.size) : w'.cell? ⟨w.heap.size, 0, none⟩ = some k ∧ w'.cell? ⟨w.heap.size, 1, none⟩ = some p := by
  have hb := ht.blk (Blk.new w 29 #[k, p]) (fun e => by have := ho _ e; omega)
  exact ⟨hb.cell 0, hb.cell 1⟩

set_option maxRecDepth 100000 in
set_option maxHeartbeats 16000000 in
theorem walk {H : Type} {enc : TypeId × Value → H} (W : World) (base : Nat) (v0 v1 v2 : Value) (d0 d1 d2 : DataW H) (p0 p1 p2 : List MemPlace)
    (o0 : Value.okWide Tryd.prog W .any base 3 v0)
    (o1 : Value.okWide Tryd.prog W .any base 22 v1)
    (o2 : Value.okWide Tryd.prog W .any base 22 v2)
    (h0 : DataW.Trod enc Tryd.prog W 0 (fun _ => true) true 3 v0 d0 p0)
    (h1 : DataW.Trod enc Tryd.prog W 0 (fun _ => true) true 22 v1 d1 p1)
    (h2 : DataW.Trod enc Tryd.prog W 0 (fun _ => true) true 22 v2 d2 p2)
    (hL : laidMetH Tryd.prog Rows.allocUndoRow.laid W) :
    Calls Tryd.prog 5 #[v0, v1, v2] W fun e W' => e = .returned (.bool true) ∧ Below W.heap.size W W' := by
  have hT := tab_of hL
  obtain ⟨n, rfl, _, _, hn⟩ := open_int Tryd.underlying3 o0 h0
  obtain ⟨A, M, cM, ops, rfl, hsc, hM⟩ := open_script8 o1 h1
  obtain ⟨A2, M2, cM2, ops2, rfl, hsc2, hM2⟩ := open_script8 o2 h2
  have hn := bounds_i64 hn
  have HSC := Lib.hid hsc
  have HSC2 := Lib.hid hsc2
  clear o0 o1 o2 h0 h1 h2 hL hsc hsc2
  have HT := Lib.hid hT
  clear hT
  by_cases hout : n < 1 ∨ 1024 < n
  · have HN := Lib.hid (new_none n W hout)
    have HK := Lib.hid (known8_call HT.out (World.grownBy.refl W none))
    have hd : (decide (n < 1) || decide (1024 < n)) = true := by simpa using hout
    clear hout
    go_enter Tryd.func5, Tryd.ntmps5
    go_wp2_with (first
      | (go_at_call 7; refine HN.out.mono ?_; rintro e w1 ⟨rfl, rfl⟩)
      | (go_at_call 9; refine HK.out.mono ?_; rintro e w2 ⟨rfl, hg⟩; have HG := Lib.hid hg; clear hg))
    all_goals go_ret
    all_goals exact ⟨rfl, below_of_grown HG.out (Nat.le_refl _) (by simp)⟩
  · obtain ⟨N, rfl⟩ : ∃ N : Nat, n = N := ⟨n.toNat, by omega⟩
    have hN1 : 1 ≤ N := by omega
    have hN2 : N ≤ 1024 := by omega
    have HNW := Lib.hid (one_new HT.out (World.grownBy.refl W none) N hN1 hN2)
    clear hout hn
    go_enter Tryd.func5, Tryd.ntmps5
    go_wp2_with (first
      | (go_at_call 7
         refine HNW2.out.mono ?_
         rintro e w2 ⟨q2, own2, rfl, h2, hg2, hl2⟩
         have HP := Lib.hid (show Pair W w2 q q2 N (fresh N) (fresh N) own own2 from ⟨H1.out.grown hg2, h2, fun i hi he => by have := H1.out.lt i hi; have := hl2 i he; omega, grown_trans_none HG1.out hg2, HT.out⟩)
         have HK := Lib.hid (known8_call HT.out HP.out.gr)
         clear h2 hg2 hl2)
      | (go_at_call 7
         refine HNW.out.mono ?_
         rintro e w1 ⟨q, own, rfl, h1, hg1, _⟩
         have H1 := Lib.hid h1; have HG1 := Lib.hid hg1
         have HNW2 := Lib.hid (one_new HT.out hg1 N hN1 hN2)
         clear h1 hg1)
      | (go_at_call 9
         refine HK.out.mono ?_
         rintro e w3 ⟨rfl, hg⟩
         have HP3 := Lib.hid (HP.out.grown hg)
         clear hg))
    clear H1 HG1 HK HNW HNW2 HP
    go_loopw [9] (fun i wr => ∃ k : Nat, k ≤ M ∧ i = .int .i64 k ∧ ∃ x, Pair W wr q q2 N x x own own2) (fun i _ => M - (intOf i).toNat)
    case atStart => exact ⟨0, by omega, rfl, _, HP3.out⟩
    case round =>
      obtain ⟨k, hk, rfl, x, ho⟩ := hrel
      have HO := Lib.hid ho
      clear ho
      by_cases hlt : k < M
      · have h1 : (k : Int) < M := by omega
        have h0 : (0 : Int) ≤ k := by omega
        have hw1 : IntKind.i64.wrap ((k : Int) + 1) = ((k + 1 : Nat) : Int) := wrap_i64n (n := k + 1) (by omega)
        obtain ⟨ga, oa, kind, page, rfl, hy, hcells⟩ := HSC.out.all hlt
        obtain ⟨c1, c2⟩ := hcells _ HO.out.gr
        have HC := Lib.hid hcells; have HY := Lib.hid hy
        clear hcells hy
        go_wp2_with (first
          | (go_at_call_of 27 (Value.pointer (some ⟨q, 0, none⟩))
             refine (play_call HO.out.a kind page HY.out).mono ?_
             rintro e w3 ⟨rfl, h3, ht3⟩
             have HO3 := Lib.hid (HO.out.ofA h3 ht3)
             obtain ⟨c1', c2'⟩ := HC.out _ HO3.out.gr
             clear h3 ht3)
          | (go_at_call_of 27 (Value.pointer (some ⟨q2, 0, none⟩))
             refine (play_call HO3.out.b kind page HY.out).mono ?_
             rintro e w4 ⟨rfl, h4, ht4⟩
             have HO4 := Lib.hid (HO3.out.ofB h4 ht4)
             clear h4 ht4))
        exact ⟨⟨k + 1, by omega, by first | rfl | go_num, _, HO4.out⟩, by simp [intOf]; omega⟩
      · have hkn : ¬ ((k : Int) < M) := by omega
        obtain ⟨y0, hy0⟩ : ∃ y0, x.settle = y0 := ⟨_, rfl⟩
        have HY0 := Lib.hid (show y0 = ⟨y0.F, fun _ => false, y0.F⟩ from by rw [← hy0]; rfl)
        go_wp2_with (first
          | (go_at_call_of 16 (Value.pointer (some ⟨q, 0, none⟩))
             refine (one_settle HO.out.a).mono ?_
             rintro e w5 ⟨rfl, h5, ht5⟩
             rw [hy0] at h5
             have HP5 := Lib.hid (HO.out.ofA h5 ht5)
             clear h5 ht5)
          | (go_at_call_of 16 (Value.pointer (some ⟨q2, 0, none⟩))
             refine (one_settle HP5.out.b).mono ?_
             rintro e w6 ⟨rfl, h6, ht6⟩
             rw [hy0] at h6
             have HP6 := Lib.hid (HP5.out.ofB h6 ht6)
             clear h6 ht6))
        clear hy0 HO HP5 HP3
        go_loopw [10, 11, 12, 13, 14] (fun i _ _ _ _ wr => ∃ j : Nat, j ≤ M2 ∧ i = .int .i64 j ∧ ∃ z, Mid z y0.F ∧ Pair W wr q q2 N z y0 own own2) (fun i _ _ _ _ _ => M2 - (intOf i).toNat)
        case atStart => exact ⟨0, by omega, rfl, y0, ⟨by rw [HY0.out], fun p hp => hp⟩, HP6.out⟩
        case round =>
          obtain ⟨j, hj, rfl, z, hmid, hz⟩ := hrel
          have HZ := Lib.hid hz; have HM := Lib.hid hmid
          clear hz hmid
          by_cases hlt2 : j < M2
          · have h1 : (j : Int) < M2 := by omega
            have h0 : (0 : Int) ≤ j := by omega
            have hw1 : IntKind.i64.wrap ((j : Int) + 1) = ((j + 1 : Nat) : Int) := wrap_i64n (n := j + 1) (by omega)
            obtain ⟨ga, oa, kind, page, rfl, hy, hcells⟩ := HSC2.out.all hlt2
            obtain ⟨c1, c2⟩ := hcells _ HZ.out.gr
            have HY := Lib.hid hy
            clear hcells hy
            by_cases k1 : kind = 1
            · subst k1
              obtain ⟨r, ok, hl⟩ := least_ex z.F N
              have HMT := Lib.hid (show Mid z.take y0.F from ⟨HM.out.1, take_sub HM.out.2⟩)
              cases ok
              · have HL := Lib.hid hl
                clear hl
                go_wp2_with (go_at_call 12
                             refine (one_take_at (HZ.out.grown (World.grownBy_alloc _ _ none)).a HL.out).mono ?_
                             rintro e w7 ⟨rfl, h7, ht7⟩
                             have HP7 := Lib.hid ((HZ.out.grown (World.grownBy_alloc _ _ none)).ofA h7 ht7)
                             clear h7 ht7)
                exact ⟨⟨j + 1, by omega, by first | rfl | go_num, _, HMT.out, HP7.out⟩, by simp [intOf]; omega⟩
              · have hr : r < N ∧ z.F r = true := by
                  rcases hl with ⟨_, h1, h2, _⟩ | ⟨h, _⟩
                  · exact ⟨h1, h2⟩
                  · cases h
                have hIs : isF y0.F N (r : Int) = true := by rw [isF_nat hr.1]; exact HM.out.2 _ hr.2
                have hr64 : In64 (r : Int) := ⟨by omega, by omega⟩
                have HL := Lib.hid hl; have HI := Lib.hid hIs; have HR := Lib.hid hr64
                clear hl hr hIs hr64
                go_wp2_with (first
                  | (go_at_call 12
                     refine (one_take_at (HZ.out.grown (World.grownBy_alloc _ _ none)).a HL.out).mono ?_
                     rintro e w7 ⟨rfl, h7, ht7⟩
                     have HP7 := Lib.hid ((HZ.out.grown (World.grownBy_alloc _ _ none)).ofA h7 ht7)
                     have HF := Lib.hid (one_isFree HP7.out.b (r : Int) HR.out)
                     rw [HI.out] at HF
                     clear h7 ht7)
                  | (go_at_call 22
                     refine HF.out.mono ?_
                     rintro e w8 ⟨rfl, k8, rfl⟩))
                exact ⟨⟨j + 1, by omega, by first | rfl | go_num, _, HMT.out, HP7.out.drewN _⟩, by simp [intOf]; omega⟩
            by_cases k0 : kind = 0
            · subst k0
              have HMT := Lib.hid (show Mid (z.mark N page) y0.F from ⟨HM.out.1, del_sub HM.out.2⟩)
              by_cases hf : isF z.F N page = true
              · have hIs : isF y0.F N page = true := isF_sub HM.out.2 hf
                have HFM := Lib.hid hf; have HI := Lib.hid hIs
                clear hf hIs
                go_wp2_with (first
                  | (go_at_call 10
                     refine (mark_true (HZ.out.grown (World.grownBy_alloc _ _ none)).a page HY.out HFM.out).mono ?_
                     rintro e w7 ⟨rfl, h7, ht7⟩
                     have HP7 := Lib.hid ((HZ.out.grown (World.grownBy_alloc _ _ none)).ofA h7 ht7)
                     have HF := Lib.hid (one_isFree HP7.out.b page HY.out)
                     rw [HI.out] at HF
                     obtain ⟨e1, e2⟩ := new_op_cells ht7 HZ.out.a.lt
                     clear h7 ht7)
                  | (go_at_call 22
                     refine HF.out.mono ?_
                     rintro e w8 ⟨rfl, k8, rfl⟩))
                exact ⟨⟨j + 1, by omega, by first | rfl | go_num, _, HMT.out, HP7.out.drewN _⟩, by simp [intOf]; omega⟩
              · have hf' : isF z.F N page = false := by simpa using hf
                have HFM := Lib.hid hf'
                clear hf hf'
                go_wp2_with (go_at_call 10
                             refine (mark_false (HZ.out.grown (World.grownBy_alloc _ _ none)).a page HY.out HFM.out).mono ?_
                             rintro e w7 ⟨rfl, h7, ht7⟩
                             have HP7 := Lib.hid ((HZ.out.grown (World.grownBy_alloc _ _ none)).ofA h7 ht7)
                             clear h7 ht7)
                exact ⟨⟨j + 1, by omega, by first | rfl | go_num, _, HMT.out, HP7.out⟩, by simp [intOf]; omega⟩
            by_cases k2 : kind = 2
            · subst k2
              have HMT := Lib.hid (show Mid (z.drop N page) y0.F from ⟨HM.out.1, HM.out.2⟩)
              go_wp2_with (go_at_call 14
                           refine (one_drop (HZ.out.grown (World.grownBy_alloc _ _ none)).a page HY.out).mono ?_
                           rintro e w7 ⟨rfl, h7, ht7⟩
                           have HP7 := Lib.hid ((HZ.out.grown (World.grownBy_alloc _ _ none)).ofA h7 ht7)
                           clear h7 ht7)
              exact ⟨⟨j + 1, by omega, by first | rfl | go_num, _, HMT.out, HP7.out⟩, by simp [intOf]; omega⟩
            by_cases k4 : kind = 4
            · subst k4
              have HMT := Lib.hid (show Mid z.undo y0.F from ⟨HM.out.1, fun p hp => by rw [← HM.out.1]; exact hp⟩)
              go_wp2_with (go_at_call 18
                           refine (one_undo (HZ.out.grown (World.grownBy_alloc _ _ none)).a).mono ?_
                           rintro e w7 ⟨rfl, h7, ht7⟩
                           have HP7 := Lib.hid ((HZ.out.grown (World.grownBy_alloc _ _ none)).ofA h7 ht7)
                           clear h7 ht7)
              exact ⟨⟨j + 1, by omega, by first | rfl | go_num, _, HMT.out, HP7.out⟩, by simp [intOf]; omega⟩
            have b0 : (kind == 0) = false := by simpa using k0
            have b1 : (kind == 1) = false := by simpa using k1
            have b2 : (kind == 2) = false := by simpa using k2
            have b4 : (kind == 4) = false := by simpa using k4
            clear k0 k1 k2 k4
            go_wp2_with fail
            exact ⟨⟨j + 1, by omega, by first | rfl | go_num, _, HM.out, HZ.out.grown (World.grownBy_alloc _ _ none)⟩, by simp [intOf]; omega⟩
          · have hjn : ¬ ((j : Int) < M2) := by omega
            have HUZ := Lib.hid (show z.undo = y0 from by rw [P3.undo, HM.out.1]; exact HY0.out.symm)
            obtain ⟨cc, hcc⟩ : ∃ cc, cnt y0.F N = cc := ⟨_, rfl⟩
            have hb : ((cc : Int) != (cc : Int)) = false := by simp
            have HFA := fun (w : World) (h : One W w q N y0 own) => Lib.hid (one_free h)
            have HFB := fun (w : World) (h : One W w q2 N y0 own2) => Lib.hid (one_free h)
            simp only [hcc] at HFA HFB
            clear hcc
            have HFA := Lib.hid HFA; have HFB := Lib.hid HFB
            have HRL := Lib.hid (show (runsUp y0.F N).length ≤ 1024 from Nat.le_trans (runsUp_len y0.F N) hN2)
            go_wp2_with (first
              | (go_at_call 18
                 refine (one_undo HZ.out.a).mono ?_
                 rintro e w7 ⟨rfl, h7, ht7⟩
                 rw [HUZ.out] at h7
                 have HP7 := Lib.hid (HZ.out.ofA h7 ht7)
                 clear h7 ht7)
              | (go_at_call_of 20 (Value.pointer (some ⟨q, 0, none⟩))
                 refine (HFA.out _ HP7.out.a).out.mono ?_
                 rintro e wf1 ⟨rfl, rfl⟩)
              | (go_at_call_of 20 (Value.pointer (some ⟨q2, 0, none⟩))
                 refine (HFB.out _ HP7.out.b).out.mono ?_
                 rintro e wf2 ⟨rfl, rfl⟩)
              | (go_at_call_of 25 (Value.pointer (some ⟨q, 0, none⟩))
                 refine (one_runs HP7.out.a).mono ?_
                 rintro e wr1 ⟨va, rfl, hra, hga⟩
                 have HRA := Lib.hid hra; have HGA := Lib.hid hga
                 clear hra hga)
              | (go_at_call_of 25 (Value.pointer (some ⟨q2, 0, none⟩))
                 refine (one_runs (HP7.out.grown HGA.out).b).mono ?_
                 rintro e wr2 ⟨vb, rfl, hrb, hgb⟩
                 have HRB := Lib.hid hrb; have HGB := Lib.hid hgb
                 clear hrb hgb)
              | (go_at_call 24
                 refine (entries_new HRA.out HGA.out HRB.out HGB.out HRL.out).mono ?_
                 rintro e wr3 ⟨rfl, hge⟩
                 have HP8 := Lib.hid (HP7.out.grown hge)
                 clear hge))
            clear HFA HFB HUZ HZ HM HP7 HP6 HRA HRB HGA HGB
            go_loopw [15] (fun i wr => ∃ l : Nat, l ≤ M2 ∧ i = .int .i64 l ∧ ∃ z, Pair W wr q q2 N z z own own2) (fun i _ => M2 - (intOf i).toNat)
            case atStart => exact ⟨0, by omega, rfl, _, HP8.out⟩
            case round =>
              obtain ⟨l, hl, rfl, z3, hz⟩ := hrel
              have HZ := Lib.hid hz
              clear hz
              by_cases hlt3 : l < M2
              · have h1 : (l : Int) < M2 := by omega
                have h0 : (0 : Int) ≤ l := by omega
                have hw1 : IntKind.i64.wrap ((l : Int) + 1) = ((l + 1 : Nat) : Int) := wrap_i64n (n := l + 1) (by omega)
                obtain ⟨ga, oa, kind, page, rfl, hy, hcells⟩ := HSC2.out.all hlt3
                obtain ⟨_, c2⟩ := hcells _ HZ.out.gr
                have HY := Lib.hid hy; have HC := Lib.hid hcells
                clear hcells hy
                obtain ⟨res, hres⟩ : ∃ res, isT z3.F z3.D N page = res := ⟨_, rfl⟩
                have HDA := Lib.hid (one_drop HZ.out.drew.a page HY.out)
                have HDB := fun (w : World) (h : One W w q2 N z3 own2) => Lib.hid (one_drop h page HY.out)
                simp only [hres] at HDA HDB
                have hbb : (res != res) = false := by simp
                have HDB := Lib.hid HDB
                clear hres
                go_wp2_with fail
                go_region_with (first
                  | (go_at_call_of 14 (Value.pointer (some ⟨q, 0, none⟩))
                     refine HDA.out.mono ?_
                     rintro e w7 ⟨rfl, h7, ht7⟩
                     have HP7 := Lib.hid (HZ.out.drew.ofA h7 ht7)
                     have c3 := (HC.out _ HP7.out.gr).2
                     clear h7 ht7)
                  | (go_at_call_of 14 (Value.pointer (some ⟨q2, 0, none⟩))
                     refine (HDB.out _ HP7.out.b).out.mono ?_
                     rintro e w8 ⟨rfl, h8, ht8⟩
                     have HP8 := Lib.hid (HP7.out.ofB h8 ht8)
                     clear h8 ht8))
                all_goals go_wp2_with fail
                all_goals exact ⟨⟨l + 1, by omega, by first | rfl | go_num, _, HP8.out⟩, by simp [intOf]; omega⟩
              · have hln : ¬ ((l : Int) < M2) := by omega
                have HRL3 := Lib.hid (show (runsUp z3.settle.F N).length ≤ 1024 from Nat.le_trans (runsUp_len z3.settle.F N) hN2)
                go_wp2_with (first
                  | (go_at_call_of 16 (Value.pointer (some ⟨q, 0, none⟩))
                     refine (one_settle HZ.out.a).mono ?_
                     rintro e w5 ⟨rfl, h5, ht5⟩
                     have HP5 := Lib.hid (HZ.out.ofA h5 ht5)
                     clear h5 ht5)
                  | (go_at_call_of 16 (Value.pointer (some ⟨q2, 0, none⟩))
                     refine (one_settle HP5.out.b).mono ?_
                     rintro e w6 ⟨rfl, h6, ht6⟩
                     have HP6 := Lib.hid (HP5.out.ofB h6 ht6)
                     clear h6 ht6)
                  | (go_at_call_of 25 (Value.pointer (some ⟨q, 0, none⟩))
                     refine (one_runs HP6.out.a).mono ?_
                     rintro e wr1 ⟨va, rfl, hra, hga⟩
                     have HRA := Lib.hid hra; have HGA := Lib.hid hga
                     clear hra hga)
                  | (go_at_call_of 25 (Value.pointer (some ⟨q2, 0, none⟩))
                     refine (one_runs (HP6.out.grown HGA.out).b).mono ?_
                     rintro e wr2 ⟨vb, rfl, hrb, hgb⟩
                     have HRB := Lib.hid hrb; have HGB := Lib.hid hgb
                     clear hrb hgb)
                  | (go_at_call 24
                     refine (entries_new HRA.out HGA.out HRB.out HGB.out HRL3.out).mono ?_
                     rintro e wr3 ⟨rfl, hge⟩
                     have HP7 := Lib.hid (HP6.out.grown hge)
                     clear hge))
                go_ret
                exact ⟨rfl, below_of_grown HP7.out.gr (Nat.le_refl _) (by simp)⟩
end Go.Proofs.YtldbfhgkicphkaaDoor.AllocUndo
