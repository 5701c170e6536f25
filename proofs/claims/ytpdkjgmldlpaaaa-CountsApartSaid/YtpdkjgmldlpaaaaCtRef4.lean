/- The document's counts: Load. -/
import Derived.Test.YtpdkjgmldlpaaaaCtRef3
namespace Go.Proofs.Ytpdkjgmldlpaaaa.Cts
open Go.RowKit CrcMath CodecMath Mem Crc Codec
set_option linter.unusedVariables false
set_option linter.unusedSimpArgs false

/-- The first j counts of part i laid. -/
def layK (f : Nat → Int) (i : Nat) (s : List Int) (j : Nat) : Nat → Int := fun q => if 120 * i ≤ q ∧ q < 120 * i + j then s.getD (q - 120 * i) 0 else f q
theorem layK_zero (f : Nat → Int) (i : Nat) (s : List Int) : layK f i s 0 = f := by
  funext q; unfold layK; rw [if_neg (by omega)]
theorem layK_step (f : Nat → Int) (i : Nat) (s : List Int) (j : Nat) : upd (layK f i s j) (120 * i + j) (s.getD j 0) = layK f i s (j + 1) := by
  funext q
  unfold upd layK
  by_cases h : q = 120 * i + j
  · subst h
    rw [if_pos rfl, if_pos (by omega), show 120 * i + j - 120 * i = j by omega]
  · rw [if_neg h]
    by_cases h2 : 120 * i ≤ q ∧ q < 120 * i + j
    · rw [if_pos h2, if_pos (by omega)]
    · rw [if_neg h2, if_neg (by omega)]
theorem layK_row {n i j : Nat} (f : Nat → Int) (s : List Int) (hj : j ≤ 120) (he : j = 120 ∨ n ≤ 120 * i + j) : row n (layK f i s j) = row n (lay n f i s) := by
  refine row_congr fun q hq => ?_
  unfold layK lay
  by_cases h2 : 120 * i ≤ q ∧ q < 120 * i + j
  · rw [if_pos h2, if_pos (by omega)]
  · rw [if_neg h2, if_neg (by omega)]
/-- The document's counts, but what they are. -/
structure RCtAt0 (w : World) (r nb wb n : Nat) (f g : Nat → Int) : Prop where
  hq : Blk w r 48 #[.slice (some ⟨nb, 0, none⟩) n n, .slice (some ⟨wb, 0, none⟩) n n]
  hN : RowAt w nb n f
  hW : RowAt w wb n g
theorem RCtAt0.cells {w : World} {r nb wb n : Nat} {f g : Nat → Int} (h : RCtAt0 w r nb wb n f g) : w.cell? ⟨r, 0, none⟩ = some (.slice (some ⟨nb, 0, none⟩) n n) ∧ w.cell? ⟨r, 1, none⟩ = some (.slice (some ⟨wb, 0, none⟩) n n) := ⟨h.hq.cell 0, h.hq.cell 1⟩
def own2 (nb wb : Nat) : Nat → Prop := fun i => i = nb ∨ i = wb
section
variable {w w' : World} {B r nb wb n : Nat} {x : Ct}
set_option maxRecDepth 100000 in
set_option maxHeartbeats 2000000 in
theorem r_load (h : RCtAt w B r nb wb n x) (p : Int) (hp64 : In64 p) {b : Nat} {A : Option Addr} {m c : Nat} {l : List Nat} (hl : Bytes w b A m l) (hm : m ≤ 9223372036854775807) :
    Calls Try.prog 15 #[.pointer (some ⟨r, 0, none⟩), .int .i64 p, .slice A m c] w fun e w' => e = .returned (.int .i64 (loadE n x p l).1) ∧ RCtAt w' B r nb wb n (loadE n x p l).2 ∧ Turn w w' (own3 r nb wb) (own3 r nb wb) := by
  have HM := fun w => Lib.hid (r_many w (n : Int))
  rw [manyI_nat h.ok.one h.ok.most] at HM
  obtain ⟨c0, _⟩ := h.cells
  have HA := Lib.hid h
  have hn := h.ok.most
  cases hp : isI n p with
  | false =>
    rw [loadE_no hp]
    have hp' := isI_no hp
    clear hp h hl
    obtain ⟨m, hm⟩ : ∃ m, manyN n = m := ⟨_, rfl⟩
    rw [hm] at HM hp'
    clear hm
    by_cases h0 : p < 0
    · go_enter Try.func15, Try.ntmps15
      go_wp2_with (go_at_call 9; refine (HM _).out.mono ?_; rintro e w' ⟨rfl, rfl⟩)
      go_ret
      exact ⟨rfl, HA.out, Turn.refl _ _⟩
    · have h1 : (m : Int) ≤ p := by omega
      go_enter Try.func15, Try.ntmps15
      go_wp2_with (go_at_call 9; refine (HM _).out.mono ?_; rintro e w' ⟨rfl, rfl⟩)
      go_ret
      exact ⟨rfl, HA.out, Turn.refl _ _⟩
  | true =>
    obtain ⟨i, rfl, hi⟩ := isI_nat hp
    have HGC := Lib.hid (ref_get_counts b A m c l w hl hm)
    have HI := Lib.hid hi
    have hi' : 120 * i < n := by unfold manyN at hi; omega
    have HMI := HM
    obtain ⟨mm, hmm⟩ : ∃ mm, manyN n = mm := ⟨_, rfl⟩
    rw [hmm] at HM hi
    clear hmm HMI
    have h1 : ¬ (mm : Int) ≤ (i : Int) := by omega
    cases hr : countsR l with
    | none =>
      rw [loadE_none HI.out hr]
      rw [hr] at HGC
      clear hp h hl hr
      go_enter Try.func15, Try.ntmps15
      go_wp2_with (first
        | (go_at_call 9; refine (HM _).out.mono ?_; rintro e w' ⟨rfl, rfl⟩)
        | (go_at_call 34
           refine HGC.out.mono ?_
           rintro e w1 ⟨hg1, ⟨s, v, ho, _⟩ | ⟨_, rfl⟩⟩
           · cases ho
           have HG1 := Lib.hid hg1; clear hg1))
      go_ret
      exact ⟨rfl, HA.out.grown HG1.out, .none_ HG1.out⟩
    | some s =>
      obtain ⟨hs, hb, _⟩ := countsR_some hr
      rw [hr] at HGC
      have HS := Lib.hid hs; have HR := Lib.hid hr
      have HBD := Lib.hid (fun j hj => allB_yes hb j (by rw [hs]; exact hj) : ∀ j, j < 120 → 0 ≤ s.getD j 0 ∧ s.getD j 0 ≤ 1000)
      have HOK := Lib.hid (h.ok.lay (i := i) hs hb)
      have HX := Lib.hid (show ∀ t, tailOk n i s = t → loadE n x (i : Int) l = if t then (0, ⟨lay n x.N i s, lay n x.W i s⟩) else (14, x) from fun t ht => by
        cases t
        · exact loadE_tail HI.out hr ht
        · exact loadE_yes HI.out hr ht)
      have hi9 : i ≤ 8 := by have := HI.out; unfold manyN at this; omega
      clear hp h hl hr hs hb
      obtain ⟨res, hres⟩ : ∃ res, loadE n x (i : Int) l = res := ⟨_, rfl⟩
      rw [hres] at HX ⊢
      clear hres
      go_enter Try.func15, Try.ntmps15
      go_wp2_with (first
        | (go_at_call 9; refine (HM _).out.mono ?_; rintro e w' ⟨rfl, rfl⟩)
        | (go_at_call 34
           refine HGC.out.mono ?_
           rintro e w1 ⟨hg1, ⟨s', v, ho, rfl, hown, hrg⟩ | ⟨ho, _⟩⟩
           case inr => cases ho
           obtain rfl : s = s' := by injection ho
           rw [HS.out] at hown
           have HOW := Lib.hid hown
           obtain ⟨g1, c1, rfl, hgl, hg1l, _, _, hcs⟩ := hown.reads (by omega)
           have HCS := Lib.hid hcs
           have HG1 := Lib.hid hg1
           have HA1 := Lib.hid (HA.out.grown hg1)
           have HGN := Lib.hid (show g1 ≠ nb ∧ g1 ≠ wb from ⟨fun e => by have := HA.out.lt nb (.inr (.inl rfl)); omega, fun e => by have := HA.out.lt wb (.inr (.inr rfl)); omega⟩)
           have HG1L := Lib.hid hg1l
           clear hg1 ho hown hrg hcs hgl hg1l))
      have hcell : ∀ j, j < 120 → w1.cell? ⟨g1, j, none⟩ = some (.int .i64 (s.getD j 0)) := fun j hj => HCS.out j _ (i64s_at s j (by rw [HS.out]; exact hj))
      have HCELL := Lib.hid hcell; clear hcell
      go_loopw [9] (fun k wr => ∃ j : Nat, j ≤ 120 ∧ k = .int .i64 j ∧ wr = w1 ∧ ∀ t, t < j → 120 * i + t < n ∨ s.getD t 0 = 0) (fun k _ => 120 - (RowKit.intOf k).toNat)
      case atStart => exact ⟨0, by omega, rfl, rfl, fun t ht => by omega⟩
      case round =>
        obtain ⟨j, hj, rfl, rfl, hall⟩ := hrel
        have HALL := Lib.hid hall; clear hall
        have d0 := HA1.out.cells.1
        by_cases hlt : j < 120
        · have hcj := HCELL.out j hlt
          obtain ⟨hu0, hu1⟩ := HBD.out j hlt
          obtain ⟨u, hu⟩ : ∃ u, s.getD j 0 = u := ⟨_, rfl⟩
          rw [hu] at hcj hu0 hu1
          have HU := Lib.hid hu; clear hu
          have q1 : ¬ u < 0 := by omega
          have q2 : ¬ 1000 < u := by omega
          by_cases hz : 0 < u
          · by_cases hin : 120 * i + j < n
            · have q3 : ¬ (n : Int) ≤ (i : Int) * 120 + (j : Int) := by omega
              go_wp2_with fail
              go_roundw
              case rel =>
                refine ⟨j + 1, by omega, by go_num, by first | exact rfl | trivial, ?_⟩
                intro t ht
                by_cases e : t = j
                · subst e; exact .inl hin
                · exact HALL.out t (by omega)
              case measure => simp [RowKit.intOf]; omega
            · have q3 : (n : Int) ≤ (i : Int) * 120 + (j : Int) := by omega
              have hbad : tailOk n i s = false := by
                rw [tailOk, List.all_eq_false]
                refine ⟨j, by simpa using hlt, ?_⟩
                have := HU.out
                simp only [Bool.or_eq_true, decide_eq_true_eq, not_or]
                omega
              have hres := HX.out false hbad
              simp only [Bool.false_eq_true, if_false] at hres
              clear HX hbad
              subst hres
              go_wp2_with fail
              go_ret
              exact ⟨rfl, HA1.out, .none_ HG1.out⟩
          · have hu2 : u = 0 := by omega
            subst hu2
            go_wp2_with fail
            go_roundw
            case rel =>
              refine ⟨j + 1, by omega, by go_num, by first | exact rfl | trivial, ?_⟩
              intro t ht
              by_cases e : t = j
              · subst e; exact .inr HU.out
              · exact HALL.out t (by omega)
            case measure => simp [RowKit.intOf]; omega
        · have hj120 : j = 120 := by omega
          subst hj120
          have hgood : tailOk n i s = true := by
            rw [tailOk, List.all_eq_true]
            intro t ht
            simp only [List.mem_range] at ht
            have := HALL.out t ht
            simp only [Bool.or_eq_true, decide_eq_true_eq]
            exact this
          have hres := HX.out true hgood
          simp only [if_true] at hres
          clear HX hgood
          subst hres
          go_wp2_with fail
          generalize wr = w1 at *
          clear HALL d0 hlt
          go_loopw [10] (fun k wr => ∃ j : Nat, j ≤ 120 ∧ 120 * i + j ≤ n ∧ k = .int .i64 j ∧ RCtAt0 wr r nb wb n (layK x.N i s j) (layK x.W i s j) ∧ Turn w1 wr (own2 nb wb) (own2 nb wb)) (fun k _ => 120 - (RowKit.intOf k).toNat)
          case atStart => exact ⟨0, by omega, by omega, rfl, ⟨HA1.out.hq, by rw [layK_zero]; exact HA1.out.hN, by rw [layK_zero]; exact HA1.out.hW⟩, Turn.refl _ _⟩
          case round =>
            obtain ⟨j, hj, hjn, rfl, hr0, ht⟩ := hrel
            have HT := Lib.hid ht; have HR0 := Lib.hid hr0; clear ht hr0
            obtain ⟨d0, d1⟩ := HR0.out.cells
            by_cases hend : j < 120 ∧ 120 * i + j < n
            · obtain ⟨hj1, hj2⟩ := hend
              have q1 : (i : Int) * 120 + (j : Int) < (n : Int) := by omega
              have d2 := HR0.out.hN.at_ hj2
              have f2 := Blk.frozen HR0.out.hN (120 * i + j)
              have hsrc : wr.cell? ⟨g1, j, none⟩ = some (.int .i64 (s.getD j 0)) := by
                rw [World.cell?_of_block (a := ⟨g1, j, none⟩) (HT.out.block g1 HG1L.out (by have := HGN.out; unfold own2; omega))]
                exact HCELL.out j hj1
              obtain ⟨u, hu⟩ : ∃ u, s.getD j 0 = u := ⟨_, rfl⟩
              rw [hu] at hsrc
              have HU := Lib.hid hu; clear hu
              rw [show 120 * i + j = i * 120 + j by omega] at d2 f2
              go_wp2_with fail
              go_region
              have hnw := HA1.out.nw
              have hg2 : wr.grownBy (wr.setCell ⟨nb, i * 120 + j, none⟩ (.int .i64 u)).drew (some nb) := only_drew (only_set (World.grownBy.refl wr (some nb)) _ _)
              have hN2 : RowAt (wr.setCell ⟨nb, i * 120 + j, none⟩ (.int .i64 u)).drew nb n (layK x.N i s (j + 1)) := by
                have h := HR0.out.hN.put (120 * i + j) (s.getD j 0)
                rw [layK_step, HU.out, show 120 * i + j = i * 120 + j by omega] at h
                exact h
              have hq2 := HR0.out.hq.grown hg2 (by simpa using HA1.out.rn)
              have hW2 : RowAt (wr.setCell ⟨nb, i * 120 + j, none⟩ (.int .i64 u)).drew wb n (layK x.W i s j) := Blk.grown HR0.out.hW hg2 (by simpa using hnw.symm)
              have hsrc2 : (wr.setCell ⟨nb, i * 120 + j, none⟩ (.int .i64 u)).drew.cell? ⟨g1, j, none⟩ = some (.int .i64 u) := by
                rw [World.cell?_of_block (a := ⟨g1, j, none⟩) (hg2.block g1 (Nat.lt_of_lt_of_le HG1L.out HT.out.size) (by simpa using HGN.out.1))]
                exact hsrc
              have ht2 := HT.out.trans (.of_grown hg2 (own := own2 nb wb) (fun t ht => by cases ht; exact .inl rfl))
              clear hsrc d0 d1 d2 f2
              generalize (wr.setCell ⟨nb, i * 120 + j, none⟩ (.int .i64 u)).drew = w2 at *
              have e0 := hq2.cell 0
              have e1 := hq2.cell 1
              simp at e0 e1
              have e2 := hW2.at_ hj2
              have e3 := Blk.frozen hW2 (120 * i + j)
              rw [show 120 * i + j = i * 120 + j by omega] at e2 e3
              have HG2 := Lib.hid hg2; have HN2 := Lib.hid hN2; have HW2 := Lib.hid hW2; have HQ2 := Lib.hid hq2; have HT2 := Lib.hid ht2
              clear hg2 hN2 hW2 hq2 ht2
              generalize layK x.W i s j (i * 120 + j) = y at *
              go_wp2_with fail
              go_region
              have hg3 : w2.grownBy (w2.setCell ⟨wb, i * 120 + j, none⟩ (.int .i64 u)).drew (some wb) := only_drew (only_set (World.grownBy.refl w2 (some wb)) _ _)
              have hW3 : RowAt (w2.setCell ⟨wb, i * 120 + j, none⟩ (.int .i64 u)).drew wb n (layK x.W i s (j + 1)) := by
                have h := HW2.out.put (120 * i + j) (s.getD j 0)
                rw [layK_step, HU.out, show 120 * i + j = i * 120 + j by omega] at h
                exact h
              have hN3 : RowAt (w2.setCell ⟨wb, i * 120 + j, none⟩ (.int .i64 u)).drew nb n (layK x.N i s (j + 1)) := Blk.grown HN2.out hg3 (by simpa using hnw)
              have hq3 := HQ2.out.grown hg3 (by simpa using HA1.out.rw_)
              have ht3 := HT2.out.trans (.of_grown hg3 (own := own2 nb wb) (fun t ht => by cases ht; exact .inr rfl))
              have HW3 := Lib.hid hW3; have HN3 := Lib.hid hN3; have HQ3 := Lib.hid hq3; have HT3 := Lib.hid ht3
              clear hg3 hW3 hN3 hq3 ht3 e0 e1 e2 e3
              go_wp2_with fail
              go_roundw
              case rel =>
                refine ⟨_, _, _, _, _, _, _, _, _, _, _, _, _, _, _, _, _, _, _, _, _, _, _, _, _, _, _, _, _, _, _, _, _, _, _, _, _, _, _, _, _, _, _, ⟨j + 1, by omega, by omega, ?_, ⟨HQ3.out, HN3.out, HW3.out⟩, HT3.out⟩, rfl⟩
                go_num
              case measure => simp [RowKit.intOf]; omega
            · have he : j = 120 ∨ n ≤ 120 * i + j := by omega
              have hr := HR0.out
              have hN := hr.hN
              have hW := hr.hW
              have HN := Lib.hid (show RowAt wr nb n (lay n x.N i s) by
                show Blk _ _ _ _
                rw [← layK_row x.N s hj he]; exact hN)
              have HW := Lib.hid (show RowAt wr wb n (lay n x.W i s) by
                show Blk _ _ _ _
                rw [← layK_row x.W s hj he]; exact hW)
              clear hr hN hW
              have HT2 := Lib.hid ((Turn.none_ (own := own3 r nb wb) HG1.out).trans (⟨HT.out.os, HT.out.tape, HT.out.output, HT.out.size, fun t ht hn => HT.out.block t ht (fun e => hn (by rcases e with e | e; exact .inr (.inl e); exact .inr (.inr e))), fun t ht => .inl ht⟩ : Turn w1 wr (own3 r nb wb) (own3 r nb wb)))
              by_cases h120 : j = 120
              · subst h120
                go_wp2_with fail
                go_ret
                have hA := HA1.out
                exact ⟨rfl, ⟨HR0.out.hq, HN.out, HW.out, hA.nw, HOK.out, hA.Bq, hA.Bn, hA.Bw⟩, HT2.out⟩
              · have q1 : ¬ (i : Int) * 120 + (j : Int) < (n : Int) := by omega
                have q0 : (j : Int) < 120 := by omega
                go_wp2_with fail
                go_ret
                have hA := HA1.out
                exact ⟨rfl, ⟨HR0.out.hq, HN.out, HW.out, hA.nw, HOK.out, hA.Bq, hA.Bn, hA.Bw⟩, HT2.out⟩
end
end Go.Proofs.Ytpdkjgmldlpaaaa.Cts
