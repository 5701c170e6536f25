/- Where a key stands, and which child it is below: the project's and the document's; two nodes that are the same. -/
import Derived.Test.YtlbadapcaooieaaNdRefMay
namespace Go.Proofs.Ytlbadapcaooieaa.Node
open Go.RowKit CrcMath Mem Crc Codec NdSpec
set_option linter.unusedVariables false
set_option linter.unusedSimpArgs false

set_option maxRecDepth 100000 in
set_option maxHeartbeats 800000 in
theorem find_call {w : World} {A A' : Option Addr} {n n' c c' : Nat} {ks vs : List Int} (lf : Bool) (key : Int) (h : NdAt w A A' n n' c c' ks vs) :
    Calls Try.prog 14 #[.agg #[.bool lf, .slice A n c, .slice A' n' c'], .int .i64 key] w fun e w' => e = .returned (.tuple #[.int .i64 (find ks key : Nat), .bool (isAt ks key)]) ∧ w.grownBy w' none := by
  have HG0 := Lib.hid (World.grownBy_alloc w (.cells #[.bool lf, .slice A n c, .slice A' n' c'] 24) none)
  have HB := Lib.hid (Blk.new w 24 #[.bool lf, .slice A n c, .slice A' n' c'])
  have HKL := Lib.hid h.klen; have H := Lib.hid h
  have hsm := h.small.1
  have HF := Lib.hid (find_of ks key); have HIS := Lib.hid (fun j => @isAt_of ks key j); have HIE := Lib.hid (@isAt_end ks key)
  clear h
  go_enter Try.func14, Try.ntmps14
  go_wp2_with fail
  go_loopw [10] (fun i wr => ∃ j : Nat, j ≤ n ∧ i = .int .i64 j ∧ (w.alloc (.cells #[.bool lf, .slice A n c, .slice A' n' c'] 24)).grownBy wr none ∧ (∀ q, q < j → ks.getD q 0 < key)) (fun i _ => n - (intOf i).toNat)
  case atStart => exact ⟨0, by omega, rfl, World.grownBy.refl _ _, fun q hq => by omega⟩
  case round =>
    obtain ⟨j, hj, rfl, hg, hin⟩ := hrel
    have HG := Lib.hid hg; have HIN := Lib.hid hin
    have hbx := HB.out.grown hg (by simp)
    have x1 := hbx.cell 1; have x2 := hbx.cell 2
    simp only [List.getElem?_toArray, List.getElem?_cons_zero, List.getElem?_cons_succ] at x1 x2
    clear hg hin hbx
    by_cases hlt : j < n
    · obtain ⟨g, o, rfl, _, hc⟩ := (H.out.keep (HG0.out.trans HG.out)).kc (by omega)
      have y1 := hc j hlt
      have j0 : (0 : Int) ≤ j := by omega
      have j1 : (j : Int) < n := by omega
      by_cases hxk : ks.getD j 0 < key
      · have HI1 := Lib.hid (show ∀ q, q < j + 1 → ks.getD q 0 < key from fun q hq => by
          by_cases e : q = j
          · subst e; exact hxk
          · exact HIN.out q (by omega))
        clear hc
        generalize ks.getD j 0 = x at *
        have hnk : ¬ (key ≤ x) := by omega
        go_wp2_with fail
        go_roundw
        case rel => exact ⟨j + 1, by omega, by go_num, HG.out, HI1.out⟩
        case measure => simp [intOf]; omega
      · have hfj := HF.out j (by rw [HKL.out]; exact hj) HIN.out (fun _ => by omega)
        have hia := HIS.out _ hfj (by rw [HKL.out]; exact hlt)
        have HFJ := Lib.hid hfj; have HIA := Lib.hid hia
        clear hc hfj hia
        generalize ks.getD j 0 = x at *
        have hnk : key ≤ x := by omega
        go_wp2_with fail
        go_region
        go_wp2_with fail
        go_ret2
        exact ⟨by rw [HFJ.out, HIA.out]; rfl, grown_trans_none (HG0.out.trans HG.out) ⟨rfl, rfl, rfl, Nat.le_refl _, fun _ _ _ => rfl⟩⟩
    · obtain rfl : j = n := by omega
      have hfj := HF.out j (by rw [HKL.out]; exact hj) HIN.out (fun hh => by rw [HKL.out] at hh; omega)
      have HIA := Lib.hid (HIE.out (by rw [hfj, HKL.out]))
      have HFJ := Lib.hid hfj
      clear hfj
      go_wp2_with fail
      go_ret2
      exact ⟨by rw [HFJ.out, HIA.out]; rfl, HG0.out.trans HG.out⟩

set_option maxRecDepth 100000 in
set_option maxHeartbeats 800000 in
theorem rfind_call {w : World} {A A' : Option Addr} {n n' c c' : Nat} {ks vs : List Int} (lf : Bool) (key : Int) (h : NdAt w A A' n n' c c' ks vs) :
    Calls Try.prog 15 #[.agg #[.bool lf, .slice A n c, .slice A' n' c'], .int .i64 key] w fun e w' => e = .returned (.tuple #[.int .i64 (find ks key : Nat), .bool (isAt ks key)]) ∧ w.grownBy w' none := by
  have HG0 := Lib.hid (World.grownBy_alloc w (.cells #[.bool lf, .slice A n c, .slice A' n' c'] 24) none)
  have HB := Lib.hid (Blk.new w 24 #[.bool lf, .slice A n c, .slice A' n' c'])
  have HKL := Lib.hid h.klen; have H := Lib.hid h
  have hsm := h.small.1
  have HF := Lib.hid (find_of ks key); have HIS := Lib.hid (fun j => @isAt_of ks key j); have HIE := Lib.hid (@isAt_end ks key)
  clear h
  go_enter Try.func15, Try.ntmps15
  go_wp2_with fail
  go_loopw [6] (fun i wr => ∃ j : Nat, j ≤ n ∧ i = .int .i64 j ∧ (w.alloc (.cells #[.bool lf, .slice A n c, .slice A' n' c'] 24)).grownBy wr none ∧ (∀ q, q < j → ks.getD q 0 < key)) (fun i _ => n - (intOf i).toNat)
  case atStart => exact ⟨0, by omega, rfl, World.grownBy.refl _ _, fun q hq => by omega⟩
  case round =>
    obtain ⟨j, hj, rfl, hg, hin⟩ := hrel
    have HG := Lib.hid hg; have HIN := Lib.hid hin
    have hbx := HB.out.grown hg (by simp)
    have x1 := hbx.cell 1; have x2 := hbx.cell 2
    simp only [List.getElem?_toArray, List.getElem?_cons_zero, List.getElem?_cons_succ] at x1 x2
    clear hg hin hbx
    by_cases hlt : j < n
    · obtain ⟨g, o, rfl, _, hc⟩ := (H.out.keep (HG0.out.trans HG.out)).kc (by omega)
      have y1 := hc j hlt
      have j0 : (0 : Int) ≤ j := by omega
      have j1 : (j : Int) < n := by omega
      by_cases hxk : ks.getD j 0 < key
      · have HI1 := Lib.hid (show ∀ q, q < j + 1 → ks.getD q 0 < key from fun q hq => by
          by_cases e : q = j
          · subst e; exact hxk
          · exact HIN.out q (by omega))
        clear hc
        generalize ks.getD j 0 = x at *
        have hnk : ¬ (key ≤ x) := by omega
        go_wp2_with fail
        go_roundw
        case rel => exact ⟨j + 1, by omega, by go_num, HG.out, HI1.out⟩
        case measure => simp [intOf]; omega
      · have hfj := HF.out j (by rw [HKL.out]; exact hj) HIN.out (fun _ => by omega)
        have hia := HIS.out _ hfj (by rw [HKL.out]; exact hlt)
        have HFJ := Lib.hid hfj; have HIA := Lib.hid hia
        clear hc hfj hia
        generalize ks.getD j 0 = x at *
        have hnk : key ≤ x := by omega
        go_wp2_with fail
        go_region
        go_wp2_with fail
        go_ret2
        exact ⟨by rw [HFJ.out, HIA.out]; rfl, grown_trans_none (HG0.out.trans HG.out) ⟨rfl, rfl, rfl, Nat.le_refl _, fun _ _ _ => rfl⟩⟩
    · obtain rfl : j = n := by omega
      have hfj := HF.out j (by rw [HKL.out]; exact hj) HIN.out (fun hh => by rw [HKL.out] at hh; omega)
      have HIA := Lib.hid (HIE.out (by rw [hfj, HKL.out]))
      have HFJ := Lib.hid hfj
      clear hfj
      go_wp2_with fail
      go_ret2
      exact ⟨by rw [HFJ.out, HIA.out]; rfl, HG0.out.trans HG.out⟩

set_option maxRecDepth 100000 in
set_option maxHeartbeats 800000 in
theorem child_call {w : World} {A A' : Option Addr} {n n' c c' : Nat} {ks vs : List Int} (lf : Bool) (key : Int) (h : NdAt w A A' n n' c c' ks vs) :
    Calls Try.prog 16 #[.agg #[.bool lf, .slice A n c, .slice A' n' c'], .int .i64 key] w fun e w' => e = .returned (.int .i64 ((upTo ks key - 1 : Nat) : Nat)) ∧ w.grownBy w' none := by
  have HG0 := Lib.hid (World.grownBy_alloc w (.cells #[.bool lf, .slice A n c, .slice A' n' c'] 24) none)
  have HB := Lib.hid (Blk.new w 24 #[.bool lf, .slice A n c, .slice A' n' c'])
  have HKL := Lib.hid h.klen; have H := Lib.hid h
  have hsm := h.small.1
  have HF := Lib.hid (upTo_of ks key)
  clear h
  go_enter Try.func16, Try.ntmps16
  go_wp2_with fail
  go_loopw [5, 10] (fun u i wr => ∃ j : Nat, j ≤ n ∧ i = .int .i64 j ∧ u = .int .i64 ((j - 1 : Nat) : Nat) ∧ (w.alloc (.cells #[.bool lf, .slice A n c, .slice A' n' c'] 24)).grownBy wr none ∧ (∀ q, q < j → ks.getD q 0 ≤ key)) (fun _ i _ => n - (intOf i).toNat)
  case atStart => exact ⟨0, by omega, rfl, rfl, World.grownBy.refl _ _, fun q hq => by omega⟩
  case round =>
    obtain ⟨j, hj, rfl, rfl, hg, hin⟩ := hrel
    have HG := Lib.hid hg; have HIN := Lib.hid hin
    have hbx := HB.out.grown hg (by simp)
    have x1 := hbx.cell 1; have x2 := hbx.cell 2
    simp only [List.getElem?_toArray, List.getElem?_cons_zero, List.getElem?_cons_succ] at x1 x2
    clear hg hin hbx
    obtain ⟨J, hJ⟩ : ∃ J, j - 1 = J := ⟨_, rfl⟩
    have HJ := Lib.hid hJ
    rw [hJ]
    clear hJ
    by_cases hlt : j < n
    · obtain ⟨g, o, rfl, _, hc⟩ := (H.out.keep (HG0.out.trans HG.out)).kc (by omega)
      have y1 := hc j hlt
      have j0 : (0 : Int) ≤ j := by omega
      have j1 : (j : Int) < n := by omega
      by_cases hxk : ks.getD j 0 ≤ key
      · have HI1 := Lib.hid (show ∀ q, q < j + 1 → ks.getD q 0 ≤ key from fun q hq => by
          by_cases e : q = j
          · subst e; exact hxk
          · exact HIN.out q (by omega))
        clear hc
        generalize ks.getD j 0 = x at *
        have hnk : ¬ (key < x) := by omega
        go_wp2_with fail
        go_roundw
        case rel => exact ⟨j + 1, by omega, by go_num, by rw [Nat.add_sub_cancel], HG.out, HI1.out⟩
        case measure => simp [intOf]; omega
      · have hfj := HF.out j (by rw [HKL.out]; exact hj) HIN.out (fun _ => by omega)
        have HFJ := Lib.hid (show upTo ks key - 1 = J by rw [hfj, HJ.out])
        clear hc hfj
        generalize ks.getD j 0 = x at *
        have hnk : key < x := by omega
        go_wp2_with fail
        go_ret
        exact ⟨by rw [HFJ.out]; rfl, HG0.out.trans HG.out⟩
    · obtain rfl : j = n := by omega
      have hfj := HF.out j (by rw [HKL.out]; exact hj) HIN.out (fun hh => by rw [HKL.out] at hh; omega)
      have HFJ := Lib.hid (show upTo ks key - 1 = J by rw [hfj, HJ.out])
      clear hfj
      go_wp2_with fail
      go_ret
      exact ⟨by rw [HFJ.out]; rfl, HG0.out.trans HG.out⟩

set_option maxRecDepth 100000 in
set_option maxHeartbeats 800000 in
theorem rchild_call {w : World} {A A' : Option Addr} {n n' c c' : Nat} {ks vs : List Int} (lf : Bool) (key : Int) (h : NdAt w A A' n n' c c' ks vs) :
    Calls Try.prog 17 #[.agg #[.bool lf, .slice A n c, .slice A' n' c'], .int .i64 key] w fun e w' => e = .returned (.int .i64 ((upTo ks key - 1 : Nat) : Nat)) ∧ w.grownBy w' none := by
  have HG0 := Lib.hid (World.grownBy_alloc w (.cells #[.bool lf, .slice A n c, .slice A' n' c'] 24) none)
  have HB := Lib.hid (Blk.new w 24 #[.bool lf, .slice A n c, .slice A' n' c'])
  have HKL := Lib.hid h.klen; have H := Lib.hid h
  have hsm := h.small.1
  have HF := Lib.hid (upTo_of ks key)
  clear h
  go_enter Try.func17, Try.ntmps17
  go_wp2_with fail
  go_loopw [5, 6] (fun u i wr => ∃ j : Nat, j ≤ n ∧ i = .int .i64 j ∧ u = .int .i64 ((j - 1 : Nat) : Nat) ∧ (w.alloc (.cells #[.bool lf, .slice A n c, .slice A' n' c'] 24)).grownBy wr none ∧ (∀ q, q < j → ks.getD q 0 ≤ key)) (fun _ i _ => n - (intOf i).toNat)
  case atStart => exact ⟨0, by omega, rfl, rfl, World.grownBy.refl _ _, fun q hq => by omega⟩
  case round =>
    obtain ⟨j, hj, rfl, rfl, hg, hin⟩ := hrel
    have HG := Lib.hid hg; have HIN := Lib.hid hin
    have hbx := HB.out.grown hg (by simp)
    have x1 := hbx.cell 1; have x2 := hbx.cell 2
    simp only [List.getElem?_toArray, List.getElem?_cons_zero, List.getElem?_cons_succ] at x1 x2
    clear hg hin hbx
    obtain ⟨J, hJ⟩ : ∃ J, j - 1 = J := ⟨_, rfl⟩
    have HJ := Lib.hid hJ
    rw [hJ]
    clear hJ
    by_cases hlt : j < n
    · obtain ⟨g, o, rfl, _, hc⟩ := (H.out.keep (HG0.out.trans HG.out)).kc (by omega)
      have y1 := hc j hlt
      have j0 : (0 : Int) ≤ j := by omega
      have j1 : (j : Int) < n := by omega
      by_cases hxk : ks.getD j 0 ≤ key
      · have HI1 := Lib.hid (show ∀ q, q < j + 1 → ks.getD q 0 ≤ key from fun q hq => by
          by_cases e : q = j
          · subst e; exact hxk
          · exact HIN.out q (by omega))
        clear hc
        generalize ks.getD j 0 = x at *
        have hnk : ¬ (key < x) := by omega
        go_wp2_with fail
        go_roundw
        case rel => exact ⟨j + 1, by omega, by go_num, by rw [Nat.add_sub_cancel], HG.out, HI1.out⟩
        case measure => simp [intOf]; omega
      · have hfj := HF.out j (by rw [HKL.out]; exact hj) HIN.out (fun _ => by omega)
        have HFJ := Lib.hid (show upTo ks key - 1 = J by rw [hfj, HJ.out])
        clear hc hfj
        generalize ks.getD j 0 = x at *
        have hnk : key < x := by omega
        go_wp2_with fail
        go_ret
        exact ⟨by rw [HFJ.out]; rfl, HG0.out.trans HG.out⟩
    · obtain rfl : j = n := by omega
      have hfj := HF.out j (by rw [HKL.out]; exact hj) HIN.out (fun hh => by rw [HKL.out] at hh; omega)
      have HFJ := Lib.hid (show upTo ks key - 1 = J by rw [hfj, HJ.out])
      clear hfj
      go_wp2_with fail
      go_ret
      exact ⟨by rw [HFJ.out]; rfl, HG0.out.trans HG.out⟩

set_option maxRecDepth 100000 in
set_option maxHeartbeats 1600000 in
theorem same_call {w : World} {A A' B B' : Option Addr} {n n' c c' m m' d d' : Nat} {ks vs : List Int} (lf : Bool) (h : NdAt w A A' n n' c c' ks vs) (h' : NdAt w B B' m m' d d' ks vs) :
    Calls Try.prog 20 #[.agg #[.bool lf, .slice A n c, .slice A' n' c'], .agg #[.bool lf, .slice B m d, .slice B' m' d']] w fun e w' => e = .returned (.bool true) ∧ w.grownBy w' none := by
  have e1 : m = n := by rw [← h.klen, ← h'.klen]
  have e2 : m' = n' := by rw [← h.vlen, ← h'.vlen]
  subst e1 e2
  have hg := (World.grownBy_alloc w (.cells #[.bool lf, .slice A m c, .slice A' m' c'] 24) none).trans (World.grownBy_alloc _ (.cells #[.bool lf, .slice B m d, .slice B' m' d'] 24) none)
  have hx1 := (Blk.new w 24 #[.bool lf, .slice A m c, .slice A' m' c']).alloc (.cells #[.bool lf, .slice B m d, .slice B' m' d'] 24)
  have hx2 := Blk.new (w.alloc (.cells #[.bool lf, .slice A m c, .slice A' m' c'] 24)) 24 #[.bool lf, .slice B m d, .slice B' m' d']
  rw [World.size_alloc] at hx2
  have HG0 := Lib.hid hg; have H := Lib.hid h; have H' := Lib.hid h'
  have HX1 := Lib.hid hx1; have HX2 := Lib.hid hx2
  have hsm := h.small.1; have hsm' := h.small.2
  have hll : (lf != lf) = false := by simp
  have hmm : (((m : Nat) : Int) != ((m : Nat) : Int)) = false := by simp
  have hmm' : (((m' : Nat) : Int) != ((m' : Nat) : Int)) = false := by simp
  clear hg h h' hx1 hx2
  go_enter Try.func20, Try.ntmps20
  go_wp2_with fail
  go_loopw [5] (fun i wr => ∃ j : Nat, j ≤ m ∧ i = .int .i64 j ∧ ((w.alloc (.cells #[.bool lf, .slice A m c, .slice A' m' c'] 24)).alloc (.cells #[.bool lf, .slice B m d, .slice B' m' d'] 24)).grownBy wr none) (fun i _ => m - (intOf i).toNat)
  case atStart => exact ⟨0, by omega, rfl, World.grownBy.refl _ _⟩
  case round =>
    obtain ⟨j, hj, rfl, hg⟩ := hrel
    have HG := Lib.hid hg
    have hb1 := HX1.out.grown hg (by simp); have hb2 := HX2.out.grown hg (by simp)
    have x1 := hb1.cell 1; have x2 := hb1.cell 2; have z1 := hb2.cell 1; have z2 := hb2.cell 2
    simp only [List.getElem?_toArray, List.getElem?_cons_zero, List.getElem?_cons_succ] at x1 x2 z1 z2
    clear hg hb1 hb2
    by_cases hlt : j < m
    · obtain ⟨g, o, rfl, _, hc⟩ := (H.out.keep (HG0.out.trans HG.out)).kc (by omega)
      obtain ⟨g', o', rfl, _, hc'⟩ := (H'.out.keep (HG0.out.trans HG.out)).kc (by omega)
      have y1 := hc j hlt; have y2 := hc' j hlt
      have j0 : (0 : Int) ≤ j := by omega
      have j1 : (j : Int) < m := by omega
      clear hc hc'
      generalize ks.getD j 0 = x at *
      have hxx : (x != x) = false := by simp
      go_wp2_with fail
      go_region
      go_wp2_with fail
      go_roundw
      case rel => exact ⟨j + 1, by omega, by go_num, grown_trans_none HG.out ⟨rfl, rfl, rfl, Nat.le_refl _, fun _ _ _ => rfl⟩⟩
      case measure => simp [intOf]; omega
    · obtain rfl : j = m := by omega
      clear hlt hj
      generalize wr = w1 at *
      go_wp2_with fail
      go_loopw [6] (fun i wr => ∃ j : Nat, j ≤ m' ∧ i = .int .i64 j ∧ ((w.alloc (.cells #[.bool lf, .slice A _ c, .slice A' m' c'] 24)).alloc (.cells #[.bool lf, .slice B _ d, .slice B' m' d'] 24)).grownBy wr none) (fun i _ => m' - (intOf i).toNat)
      case atStart => exact ⟨0, by omega, rfl, HG.out⟩
      case round =>
        obtain ⟨k, hk, rfl, hg⟩ := hrel
        have HGk := Lib.hid hg
        have hb1 := HX1.out.grown hg (by simp); have hb2 := HX2.out.grown hg (by simp)
        clear x1 x2 z1 z2
        have x1 := hb1.cell 1; have x2 := hb1.cell 2; have z1 := hb2.cell 1; have z2 := hb2.cell 2
        simp only [List.getElem?_toArray, List.getElem?_cons_zero, List.getElem?_cons_succ] at x1 x2 z1 z2
        clear hg hb1 hb2
        by_cases hlt : k < m'
        · obtain ⟨g, o, rfl, _, hc⟩ := (H.out.keep (HG0.out.trans HGk.out)).vc (by omega)
          obtain ⟨g', o', rfl, _, hc'⟩ := (H'.out.keep (HG0.out.trans HGk.out)).vc (by omega)
          have y1 := hc k hlt; have y2 := hc' k hlt
          have j0 : (0 : Int) ≤ k := by omega
          have j1 : (k : Int) < m' := by omega
          clear hc hc'
          generalize vs.getD k 0 = x at *
          have hxx : (x != x) = false := by simp
          go_wp2_with fail
          go_region
          go_wp2_with fail
          go_roundw
          case rel => exact ⟨k + 1, by omega, by go_num, grown_trans_none HGk.out ⟨rfl, rfl, rfl, Nat.le_refl _, fun _ _ _ => rfl⟩⟩
          case measure => simp [intOf]; omega
        · have hk1 : ¬ ((k : Int) < m') := by omega
          go_wp2_with fail
          go_ret
          exact ⟨rfl, HG0.out.trans HGk.out⟩
end Go.Proofs.Ytlbadapcaooieaa.Node
