/- The document's Load. -/
import Derived.Test.YtagikgejhckfbaaGreatMSupBoth
import Derived.Test.YtagikgejhckfbaaGreatMSupRefSave
import Derived.WalkLawsBesides
import Derived.Deep.RegionLaw
import Derived.Deep.DeepCutAuto
namespace Go.Proofs.YtagikgejhckfbaaGreat.Sup
open Go.RowKit CrcMath CodecMath Mem Crc Codec DiskSpec Dsk

def Sx (S : St) : Nat → St
  | 0 => S
  | 1 => (readE S 0 1).2
  | _ => loadS S
def Ex (S : St) : Nat → Int
  | 0 => (readE S 0 1).1
  | _ => (readE (readE S 0 1).2 1 1).1
def Lx (S : St) : Nat → List Nat
  | 0 => readL S 0 1
  | _ => readL (readE S 0 1).2 1 1
def fx (S : St) : Nat → Bool
  | 0 => false
  | 1 => decide ((readE S 0 1).1 ≠ 0)
  | _ => decide ((readE S 0 1).1 ≠ 0 ∨ (readE (readE S 0 1).2 1 1).1 ≠ 0)
theorem fx_succ (S : St) (j : Nat) (hj : j < 2) : fx S (j + 1) = (fx S j || decide (Ex S j ≠ 0)) := by
  obtain rfl | rfl : j = 0 ∨ j = 1 := by omega
  · simp [fx, Ex]
  · simp [fx, Ex, Bool.decide_or]
theorem Ex_two {S : St} (h : 2 ≤ S.n) (j : Nat) (hj : j < 2) : Ex S j = 0 ∨ Ex S j = 10 := by
  obtain rfl | rfl : j = 0 ∨ j = 1 := by omega
  · exact readE_two h 0 (by omega)
  · exact readE_two (S := (readE S 0 1).2) (by rw [readE_n]; exact h) 1 (by omega)
theorem Lx_lt {S : St} (h : S.ok) (j : Nat) : ∀ x ∈ Lx S j, x < 256 := by
  unfold Lx
  split
  · exact readL_lt' h 0 1
  · exact readL_lt' (readE_ok h 0 1) 1 1
theorem Sx_n (S : St) (j : Nat) : (Sx S j).n = S.n := by
  unfold Sx
  split
  · rfl
  · exact readE_n _ _ _
  · unfold loadS; rw [readE_n, readE_n]
theorem ref_read_x {w : World} {B r : Nat} {S : St} {own : Nat → Prop} (j : Nat) (hj : j < 2) (h : RAt w B r (Sx S j) own) :
    Calls Tryz.prog 27 #[.pointer (some ⟨r, 0, none⟩), .int .i64 (j : Nat), .int .i64 1] w fun e w' => ∃ v, e = .returned (.tuple #[v, .int .i64 (Ex S j)]) ∧ Own w' w.heap.size 5 1 v (Lx S j).length (u8s (Lx S j)) ∧ RAt w' B r (Sx S (j + 1)) own ∧ Turn w w' own own := by
  obtain rfl | rfl : j = 0 ∨ j = 1 := by omega
  · exact ref_read_all h 0 1 (by omega) (by omega)
  · exact ref_read_all h 1 1 (by omega) (by omega)
/-- Where the document's Load stands. -/
structure LR (w wr : World) (own : Nat → Prop) (B r : Nat) (S : St) : Prop where
  d : RAt wr B r S own
  t : Turn w wr own own
  rs : Blk wr w.heap.size 34 #[.int .i64 0, .int .i64 0, .int .i64 0, .int .i64 0, .int .i64 0, .int .i64 0, .int .i64 0]
section
variable {w wr w' : World} {own : Nat → Prop} {B r : Nat} {S S' : St}
theorem LR.quiet (h : LR w wr own B r S) (hg : wr.grownBy w' none) : LR w w' own B r S :=
  ⟨rat_grown h.d hg (fun _ e => by cases e), h.t.trans (Turn.none_ hg), h.rs.grown hg (by simp)⟩
theorem LR.read (h : LR w wr own B r S) (hl : ∀ i, own i → i < w.heap.size) (hd : RAt w' B r S' own) (ht : Turn wr w' own own) : LR w w' own B r S' :=
  ⟨hd, h.t.trans ht, blk_of_block h.rs (ht.block _ h.rs.lt (fun ho => by have := hl _ ho; omega))⟩
theorem LR.set_ (h : LR w wr own B r S) (hl : ∀ i, own i → i < w.heap.size) (i : Nat) (v : Value) : LR w (wr.setCell ⟨w.heap.size + 1, i, none⟩ v) own B r S := by
  have hg : wr.grownBy (wr.setCell ⟨w.heap.size + 1, i, none⟩ v) (some (w.heap.size + 1)) := Lib.grownBy_setB (World.grownBy.refl wr _) i v
  exact ⟨rat_grown h.d hg (fun j e => by cases e; exact fun ho => by have := hl _ ho; omega), turn_later h.t hg (by omega), h.rs.grown hg (by simp)⟩
theorem LR.set7 (h : LR w wr own B r S) (hl : ∀ i, own i → i < w.heap.size) {a0 a1 a2 a3 a4 a5 a6 : Value} :
    LR w (((((((wr.setCell ⟨w.heap.size + 1, 0, none⟩ a0).setCell ⟨w.heap.size + 1, 1, none⟩ a1).setCell ⟨w.heap.size + 1, 2, none⟩ a2).setCell ⟨w.heap.size + 1, 3, none⟩ a3).setCell ⟨w.heap.size + 1, 4, none⟩ a4).setCell ⟨w.heap.size + 1, 5, none⟩ a5).setCell ⟨w.heap.size + 1, 6, none⟩ a6) own B r S :=
  (((((((h.set_ hl 0 a0).set_ hl 1 a1).set_ hl 2 a2).set_ hl 3 a3).set_ hl 4 a4).set_ hl 5 a5).set_ hl 6 a6)
theorem rfin_set (hl : ∀ i, own i → i < w.heap.size) (h : RAt wr B r S own ∧ Turn w wr own own) (i : Nat) (v : Value) :
    RAt (wr.setCell ⟨w.heap.size, i, none⟩ v) B r S own ∧ Turn w (wr.setCell ⟨w.heap.size, i, none⟩ v) own own := by
  have hg : wr.grownBy (wr.setCell ⟨w.heap.size, i, none⟩ v) (some w.heap.size) := Lib.grownBy_setB (World.grownBy.refl wr _) i v
  exact ⟨rat_grown h.1 hg (fun j e => by cases e; exact fun ho => by have := hl _ ho; omega), turn_later h.2 hg (Nat.le_refl _)⟩
theorem rfin_set7 (hl : ∀ i, own i → i < w.heap.size) (h : RAt wr B r S own ∧ Turn w wr own own) {a0 a1 a2 a3 a4 a5 a6 : Value} :
    RAt (((((((wr.setCell ⟨w.heap.size, 0, none⟩ a0).setCell ⟨w.heap.size, 1, none⟩ a1).setCell ⟨w.heap.size, 2, none⟩ a2).setCell ⟨w.heap.size, 3, none⟩ a3).setCell ⟨w.heap.size, 4, none⟩ a4).setCell ⟨w.heap.size, 5, none⟩ a5).setCell ⟨w.heap.size, 6, none⟩ a6) B r S own ∧
    Turn w (((((((wr.setCell ⟨w.heap.size, 0, none⟩ a0).setCell ⟨w.heap.size, 1, none⟩ a1).setCell ⟨w.heap.size, 2, none⟩ a2).setCell ⟨w.heap.size, 3, none⟩ a3).setCell ⟨w.heap.size, 4, none⟩ a4).setCell ⟨w.heap.size, 5, none⟩ a5).setCell ⟨w.heap.size, 6, none⟩ a6) own own :=
  rfin_set hl (rfin_set hl (rfin_set hl (rfin_set hl (rfin_set hl (rfin_set hl (rfin_set hl h 0 a0) 1 a1) 2 a2) 3 a3) 4 a4) 5 a5) 6 a6
end

set_option maxRecDepth 100000 in
set_option maxHeartbeats 1600000 in
theorem ref_load_small {w : World} {B r : Nat} {S : St} {own : Nat → Prop} (h : RAt w B r S own) (h2 : S.n < 2) :
    Calls Tryz.prog 11 #[.pointer (some ⟨r, 0, none⟩)] w fun e w' =>
      e = .returned (.tuple #[supV (loadV S), .int .i64 (loadE S)]) ∧ RAt w' B r (loadT S) own ∧ Turn w w' own own := by
  obtain ⟨bl, c, dv, vv, vs, hRL⟩ := h
  have hg0 := World.grownBy_alloc w (.cells #[.int .i64 0, .int .i64 0, .int .i64 0, .int .i64 0, .int .i64 0, .int .i64 0, .int .i64 0] 34) none
  have hR := Blk.new w 34 #[.int .i64 0, .int .i64 0, .int .i64 0, .int .i64 0, .int .i64 0, .int .i64 0, .int .i64 0]
  have H0 := Lib.hid (show RAt (w.alloc (.cells #[.int .i64 0, .int .i64 0, .int .i64 0, .int .i64 0, .int .i64 0, .int .i64 0, .int .i64 0] 34)) B r S own from ⟨bl, c, dv, vv, vs, hRL.alloc _⟩)
  have HG0 := Lib.hid hg0
  have hrc := (hRL.alloc (.cells #[.int .i64 0, .int .i64 0, .int .i64 0, .int .i64 0, .int .i64 0, .int .i64 0, .int .i64 0] 34)).rc
  have HR := Lib.hid hR
  have HE := Lib.hid (show loadE S = 1 by unfold loadE; rw [if_pos h2])
  have HV := Lib.hid (show loadV S = zero7' by unfold loadV; rw [if_pos h2])
  have HTT := Lib.hid (show loadT S = S by unfold loadT; rw [if_pos h2])
  have x0 := hR.cell 0; have x1 := hR.cell 1; have x2 := hR.cell 2; have x3 := hR.cell 3; have x4 := hR.cell 4; have x5 := hR.cell 5; have x6 := hR.cell 6
  simp only [List.getElem?_toArray, List.getElem?_cons_zero, List.getElem?_cons_succ] at x0 x1 x2 x3 x4 x5 x6
  have f0 := hR.frozen 0; have f1 := hR.frozen 1; have f2 := hR.frozen 2; have f3 := hR.frozen 3; have f4 := hR.frozen 4; have f5 := hR.frozen 5; have f6 := hR.frozen 6
  have hd2 : decide ((S.n : Int) < 2) = true := by simp; omega
  have hd3 : (S.n : Int) < 2 := by omega
  clear hg0 hRL hR h2
  generalize S.n = n at *
  go_enter Tryz.func11, Tryz.ntmps11
  go_wp2_with fail
  refine ret_row2 rfl w.heap.size 34 _ _ rfl HR.out Tryz.underlying34 rfl (by kernel_rfl) rfl ⟨?_, ?_⟩
  · rw [HE.out, HV.out]; first | done | rfl
  · rw [HTT.out]; exact ⟨H0.out, Turn.none_ HG0.out⟩

set_option maxRecDepth 100000 in
set_option maxHeartbeats 6400000 in
theorem ref_load_big {w : World} {B r : Nat} {S : St} {own : Nat → Prop} (h : RAt w B r S own) (h2 : ¬ S.n < 2) :
    Calls Tryz.prog 11 #[.pointer (some ⟨r, 0, none⟩)] w fun e w' =>
      e = .returned (.tuple #[supV (loadV S), .int .i64 (loadE S)]) ∧ RAt w' B r (loadT S) own ∧ Turn w w' own own := by
  obtain ⟨hok, hl, _⟩ := rat_ok h
  have hn2 : 2 ≤ S.n := by omega
  have hg0 := (World.grownBy_alloc w (.cells #[.int .i64 0, .int .i64 0, .int .i64 0, .int .i64 0, .int .i64 0, .int .i64 0, .int .i64 0] 34) none).trans (World.grownBy_alloc (w.alloc (.cells #[.int .i64 0, .int .i64 0, .int .i64 0, .int .i64 0, .int .i64 0, .int .i64 0, .int .i64 0] 34)) (.cells #[.int .i64 0, .int .i64 0, .int .i64 0, .int .i64 0, .int .i64 0, .int .i64 0, .int .i64 0] 34) none)
  have HLR := Lib.hid (show LR w ((w.alloc (.cells #[.int .i64 0, .int .i64 0, .int .i64 0, .int .i64 0, .int .i64 0, .int .i64 0, .int .i64 0] 34)).alloc (.cells #[.int .i64 0, .int .i64 0, .int .i64 0, .int .i64 0, .int .i64 0, .int .i64 0, .int .i64 0] 34)) own B r (Sx S 0) from ⟨rat_grown h hg0 (fun _ e => by cases e), Turn.none_ hg0, (Blk.new w 34 #[.int .i64 0, .int .i64 0, .int .i64 0, .int .i64 0, .int .i64 0, .int .i64 0, .int .i64 0]).alloc _⟩)
  have HX := Lib.hid (show Blk ((w.alloc (.cells #[.int .i64 0, .int .i64 0, .int .i64 0, .int .i64 0, .int .i64 0, .int .i64 0, .int .i64 0] 34)).alloc (.cells #[.int .i64 0, .int .i64 0, .int .i64 0, .int .i64 0, .int .i64 0, .int .i64 0, .int .i64 0] 34)) (w.heap.size + 1) 34 (cells7 ((seen (S.n : Int) (Lx S 0) (Lx S 1) 0).getD zero7)) from (show Blk ((w.alloc (.cells #[.int .i64 0, .int .i64 0, .int .i64 0, .int .i64 0, .int .i64 0, .int .i64 0, .int .i64 0] 34)).alloc (.cells #[.int .i64 0, .int .i64 0, .int .i64 0, .int .i64 0, .int .i64 0, .int .i64 0, .int .i64 0] 34)) (w.heap.size + 1) 34 #[.int .i64 0, .int .i64 0, .int .i64 0, .int .i64 0, .int .i64 0, .int .i64 0, .int .i64 0] by simpa using Blk.new (w.alloc (.cells #[.int .i64 0, .int .i64 0, .int .i64 0, .int .i64 0, .int .i64 0, .int .i64 0, .int .i64 0] 34)) 34 #[.int .i64 0, .int .i64 0, .int .i64 0, .int .i64 0, .int .i64 0, .int .i64 0, .int .i64 0]))
  have hrc : (w.alloc (.cells #[.int .i64 0, .int .i64 0, .int .i64 0, .int .i64 0, .int .i64 0, .int .i64 0, .int .i64 0] 34)).cell? ⟨r, 0, none⟩ = some (.slice (some ⟨h.choose, 0, none⟩) S.n h.choose_spec.choose) := by
    obtain ⟨dv, vv, vs, hRL⟩ := h.choose_spec.choose_spec
    exact (hRL.alloc _).rc
  generalize h.choose_spec.choose = c0 at hrc
  generalize h.choose = bl0 at hrc
  have hd2 : decide ((S.n : Int) < 2) = false := by simp; omega
  have hd3 : ¬ ((S.n : Int) < 2) := by omega
  have HL := Lib.hid hl
  have HRD := Lib.hid (fun j (hj : j < 2) wx (hx : RAt wx B r (Sx S j) own) => ref_read_x j hj hx)
  have HFX := Lib.hid (fun j (hj : j < 2) => fx_succ S j hj)
  have HEX := Lib.hid (fun j (hj : j < 2) => Ex_two hn2 j hj)
  have HLX := Lib.hid (fun j => Lx_lt hok j)
  have HSN := Lib.hid (fun j => Sx_n S j)
  have hbst : seen (S.n : Int) (Lx S 0) (Lx S 1) 2 = bestOf S.n (readL S 0 1) (readL (readE S 0 1).2 1 1) := seen_two _ _ _
  have HEV := Lib.hid (show loadE S = if fx S 2 = true then 10 else if (seen (S.n : Int) (Lx S 0) (Lx S 1) 2).isSome then 0 else 14 by
    rw [hbst]; unfold loadE; rw [if_neg h2]; simp only [fx, decide_eq_true_eq])
  have HVV := Lib.hid (show loadV S = if fx S 2 = true then zero7' else (seen (S.n : Int) (Lx S 0) (Lx S 1) 2).getD zero7' by
    rw [hbst]; unfold loadV; rw [if_neg h2]; simp only [fx, decide_eq_true_eq])
  have HTT := Lib.hid (show loadT S = Sx S 2 by unfold loadT; rw [if_neg h2]; rfl)
  have HF0 := Lib.hid (show fx S 0 = false from rfl)
  clear hbst hok hl hg0 h h2 hn2
  have hll : ∀ j, j < 2 → (if j = 0 then Lx S 0 else Lx S 1) = Lx S j := by
    intro j hj
    obtain rfl | rfl : j = 0 ∨ j = 1 := by omega
    · rfl
    · rfl
  have HLL := Lib.hid hll
  clear hll
  generalize loadE S = LE at *
  generalize loadV S = LV at *
  generalize loadT S = LT at *
  generalize Sx S = SX at *
  generalize Ex S = EX at *
  generalize Lx S = LX at *
  generalize fx S = FX at *
  generalize S.n = n at *
  go_enter Tryz.func11, Tryz.ntmps11
  go_wp2_with fail
  clear hrc
  go_loopw [5, 6, 7, 8, 9, 10, 11] (fun fo fa i _ _ _ _ wr => ∃ j : Nat, j ≤ 2 ∧ i = .int .i64 j ∧ fo = .bool (seen (n : Int) (LX 0) (LX 1) j).isSome ∧ fa = .bool (FX j) ∧ LR w wr own B r (SX j) ∧ Blk wr (w.heap.size + 1) 34 (cells7 ((seen (n : Int) (LX 0) (LX 1) j).getD zero7))) (fun _ _ i _ _ _ _ _ => 2 - (Go.RowKit.intOf i).toNat)
  case atStart => exact ⟨0, by omega, rfl, rfl, by rw [HF0.out], HLR.out, HX.out⟩
  case round =>
    clear HLR HX
    obtain ⟨j, hj, rfl, rfl, rfl, hld, hx⟩ := hrel
    by_cases hlt : j < 2
    · have hstep := seen_succ (n : Int) (LX 0) (LX 1) j
      have hslen := seen_len (n : Int) (LX 0) (LX 1) j
      rw [HLL.out j hlt] at hstep
      have HSTEP := Lib.hid hstep; have HLD := Lib.hid hld; have HX := Lib.hid hx; have HSL := Lib.hid hslen
      have HRDJ := Lib.hid (HRD.out j hlt)
      have HFXJ := Lib.hid (HFX.out j hlt)
      have HEXJ := Lib.hid (HEX.out j hlt)
      have HLXJ := Lib.hid (HLX.out j)
      have HSNJ := Lib.hid (HSN.out (j + 1))
      clear hstep hld hx hslen
      generalize ho1 : seen (n : Int) (LX 0) (LX 1) (j + 1) = o' at *
      have HO1 := Lib.hid ho1; clear ho1
      generalize seen (n : Int) (LX 0) (LX 1) j = o at *
      go_wp2_with fail
      refine (HRDJ.out _ HLD.out.d).mono ?_
      rintro e w4 ⟨v, rfl, hov, hd, ht⟩
      have HLD4 := Lib.hid (HLD.out.read HL.out hd ht)
      have HX4 := Lib.hid (blk_of_block HX.out (ht.block _ HX.out.lt (fun ho => by have := HL.out _ ho; omega)))
      obtain ⟨A, m, rfl, hby, hmc, hmm⟩ := own_bytes hov HLXJ.out
      have HBY := Lib.hid hby
      have hml : (LX j).length ≤ 9223372036854775807 := by simp only [maxLen] at hmm; omega
      clear hov hd ht hby hmc hmm HLD HX
      generalize LX j = l at *
      generalize EX j = ej at *
      go_upto_region 10 with fail
      go_cut [6] (fun s6 wx => s6 = .bool (FX (j + 1)) ∧ wx = w4)
      case first =>
        generalize FX j = fj at *
        rcases HEXJ.out with he | he
        · subst he
          cases fj with
          | false =>
            go_wp2_with fail
            go_meet
            exact ⟨by rw [HFXJ.out]; first | done | rfl | simp, rfl⟩
          | true =>
            go_wp2_with fail
            go_meet
            exact ⟨by rw [HFXJ.out]; first | done | rfl | simp, rfl⟩
        · subst he
          cases fj with
          | false =>
            go_wp2_with fail
            go_meet
            exact ⟨by rw [HFXJ.out]; first | done | rfl | simp, rfl⟩
          | true =>
            go_wp2_with fail
            go_meet
            exact ⟨by rw [HFXJ.out]; first | done | rfl | simp, rfl⟩
      case rest =>
        obtain ⟨rfl, rfl⟩ := hcut
        go_wp2_with fail
        refine (ref_get_super _ A l.length m l _ HBY.out hml).mono ?_
        rintro e w5 ⟨hg5, rfl⟩
        have HLD5 := Lib.hid (HLD4.out.quiet hg5)
        have HX5 := Lib.hid (HX4.out.grown hg5 (by simp))
        clear hg5 HBY HLD4 HX4 hml
        cases hsr : superR l with
        | none =>
          have HO := Lib.hid (show o' = o by rw [HSTEP.out, sound_no hsr, newer_none])
          rw [show supV ((none : Option (List Int)).getD zero7) = .agg #[.int .i64 0, .int .i64 0, .int .i64 0, .int .i64 0, .int .i64 0, .int .i64 0, .int .i64 0] from rfl, show (none : Option (List Int)).isSome = false from rfl]
          clear hsr HSTEP
          have hga := World.grownBy_alloc w5 (.cells #[.int .i64 0, .int .i64 0, .int .i64 0, .int .i64 0, .int .i64 0, .int .i64 0, .int .i64 0] 34) none
          have HLD6 := Lib.hid (HLD5.out.quiet hga); have HX6 := Lib.hid (HX5.out.grown hga (by simp))
          clear hga HLD5 HX5
          go_wp2_with fail
          go_quiet (fail)
          go_wp2
          go_roundw
          case rel => exact ⟨j + 1, by omega, by go_num, by rw [HO1.out, HO.out], rfl, HLD6.out.quiet (grown_drewN (World.grownBy.refl _ _) _), by rw [HO1.out, HO.out]; exact HX6.out.drewN _⟩
          case measure => simp [Go.RowKit.intOf]; omega
        | some uu =>
          obtain ⟨u0, u1, u2, u3, u4, u5, u6, rfl⟩ := list7 (superR_some hsr).2
          rw [show supV ((some [u0, u1, u2, u3, u4, u5, u6]).getD zero7) = .agg #[.int .i64 u0, .int .i64 u1, .int .i64 u2, .int .i64 u3, .int .i64 u4, .int .i64 u5, .int .i64 u6] from rfl, show (some ([u0, u1, u2, u3, u4, u5, u6] : List Int)).isSome = true from rfl]
          have hso := sound_yes (n := (n : Int)) (i := (j : Int)) hsr
          have hba := World.grownBy_alloc w5 (.cells #[.int .i64 u0, .int .i64 u1, .int .i64 u2, .int .i64 u3, .int .i64 u4, .int .i64 u5, .int .i64 u6] 34) none
          have HLD6 := Lib.hid (HLD5.out.quiet hba); have HX6 := Lib.hid (HX5.out.grown hba (by simp))
          have hbu := Blk.new w5 34 #[.int .i64 u0, .int .i64 u1, .int .i64 u2, .int .i64 u3, .int .i64 u4, .int .i64 u5, .int .i64 u6]
          obtain ⟨bl, c, dv, vv, vs, hRL⟩ := HLD6.out.d
          have hkeep : ∀ wx, (w5.alloc (.cells #[.int .i64 u0, .int .i64 u1, .int .i64 u2, .int .i64 u3, .int .i64 u4, .int .i64 u5, .int .i64 u6] 34)).grownBy wx none → wx.cell? ⟨w5.heap.size, 0, none⟩ = some (.int .i64 u0) ∧ wx.cell? ⟨w5.heap.size, 1, none⟩ = some (.int .i64 u1) ∧ wx.cell? ⟨w5.heap.size, 2, none⟩ = some (.int .i64 u2) ∧ wx.cell? ⟨w5.heap.size, 3, none⟩ = some (.int .i64 u3) ∧ wx.cell? ⟨w5.heap.size, 4, none⟩ = some (.int .i64 u4) ∧ wx.cell? ⟨w5.heap.size, 5, none⟩ = some (.int .i64 u5) ∧ wx.cell? ⟨w5.heap.size, 6, none⟩ = some (.int .i64 u6) ∧ wx.cell? ⟨r, 0, none⟩ = some (.slice (some ⟨bl, 0, none⟩) n c) := by
            intro wx hg
            have hb := hbu.grown hg (by simp)
            have hr := (hRL.grown hg (fun _ e => by cases e)).rc
            rw [HSNJ.out] at hr
            exact ⟨by rw [hb.cell]; rfl, by rw [hb.cell]; rfl, by rw [hb.cell]; rfl, by rw [hb.cell]; rfl, by rw [hb.cell]; rfl, by rw [hb.cell]; rfl, by rw [hb.cell]; rfl, hr⟩
          have HKEEP0 := Lib.hid hkeep; have HBU := Lib.hid hbu
          have HD0 := Lib.hid (grown_drew (w5.alloc (.cells #[.int .i64 u0, .int .i64 u1, .int .i64 u2, .int .i64 u3, .int .i64 u4, .int .i64 u5, .int .i64 u6] 34)) none)
          have HCK := Lib.hid (fun wx => refcheck_any u0 u1 u2 u3 u4 u5 u6 (n : Int) wx)
          have hck : checkE [u0, u1, u2, u3, u4, u5, u6] (n : Int) = if mayB [u0, u1, u2, u3, u4, u5, u6] n then 0 else 1 := rfl
          clear hkeep hbu hba hsr HLD5 HX5 hRL
          cases hm : mayB [u0, u1, u2, u3, u4, u5, u6] n with
          | false =>
            rw [hm, if_neg (by simp)] at hck
            rw [hck] at HCK
            have hss : soundS (n : Int) (j : Int) [u0, u1, u2, u3, u4, u5, u6] = false := by simp [soundS, hm]
            rw [hss] at hso
            have HO := Lib.hid (show o' = o by rw [HSTEP.out, hso]; exact newer_none o)
            have HKEEP := HKEEP0
            clear hck hm hss hso HSTEP HKEEP0
            go_wp2_with fail
            refine wp_region_noPanic ?_
            refine wp_region_held_drew (S := fun wx => wx.cell? ⟨w5.heap.size, 0, none⟩ = some (.int .i64 u0) ∧ wx.cell? ⟨w5.heap.size, 1, none⟩ = some (.int .i64 u1) ∧ wx.cell? ⟨w5.heap.size, 2, none⟩ = some (.int .i64 u2) ∧ wx.cell? ⟨w5.heap.size, 3, none⟩ = some (.int .i64 u3) ∧ wx.cell? ⟨w5.heap.size, 4, none⟩ = some (.int .i64 u4) ∧ wx.cell? ⟨w5.heap.size, 5, none⟩ = some (.int .i64 u5) ∧ wx.cell? ⟨w5.heap.size, 6, none⟩ = some (.int .i64 u6) ∧ wx.cell? ⟨r, 0, none⟩ = some (.slice (some ⟨bl, 0, none⟩) n c)) (by kernel_rfl) (HKEEP.out _ HD0.out) (fun hHeld => ?_)
            refine wpAnyH_take (i := 0) (v := .bool true) rfl (by kernel_rfl) (by kernel_rfl) (by kernel_rfl) (fun _ _ _ h => h) (Or.inl ⟨by rfl, ?_⟩) (by assumption) ?_
            · intro w1 hSw; (try dsimp only at hSw); go_simp
            simp only [Act.put, List.getElem_toArray, List.getElem_cons_zero, List.setIfInBounds_toArray, List.set_cons_zero, List.set_cons_succ]
            refine wpAnyH_take (i := 1) (v := .bool true) rfl (by kernel_rfl) (by kernel_rfl) (by kernel_rfl) (fun _ _ _ h => h) (Or.inl ⟨by rfl, ?_⟩) (by assumption) ?_
            · intro w1 hSw; (try dsimp only at hSw); go_simp
            simp only [Act.put, List.getElem_toArray, List.getElem_cons_succ, List.getElem_cons_zero, List.setIfInBounds_toArray, List.set_cons_zero, List.set_cons_succ]
            refine wpAnyH_take (i := 2) (v := .agg #[.int .i64 u0, .int .i64 u1, .int .i64 u2, .int .i64 u3, .int .i64 u4, .int .i64 u5, .int .i64 u6]) rfl (by kernel_rfl) (by kernel_rfl) (by kernel_rfl) (fun _ _ _ h => h) (Or.inl ⟨by rfl, ?_⟩) (by assumption) ?_
            · intro w1 hSw; (try dsimp only at hSw); go_simp
            simp only [Act.put, List.getElem_toArray, List.getElem_cons_succ, List.getElem_cons_zero, List.setIfInBounds_toArray, List.set_cons_zero, List.set_cons_succ]
            refine wpAnyH_take (i := 3) (v := .pointer (some ⟨r, 0, none⟩)) rfl (by kernel_rfl) (by kernel_rfl) (by kernel_rfl) (fun _ _ _ h => h) (Or.inl ⟨by rfl, ?_⟩) (by assumption) ?_
            · intro w1 hSw; (try dsimp only at hSw); go_simp
            simp only [Act.put, List.getElem_toArray, List.getElem_cons_succ, List.getElem_cons_zero, List.setIfInBounds_toArray, List.set_cons_zero, List.set_cons_succ]
            refine wpAnyH_take (i := 4) (v := .pointer (some ⟨r, 0, none⟩)) rfl (by kernel_rfl) (by kernel_rfl) (by kernel_rfl) (fun _ _ _ h => h) (Or.inl ⟨by rfl, ?_⟩) (by assumption) ?_
            · intro w1 hSw; (try dsimp only at hSw); go_simp
            simp only [Act.put, List.getElem_toArray, List.getElem_cons_succ, List.getElem_cons_zero, List.setIfInBounds_toArray, List.set_cons_zero, List.set_cons_succ]
            refine wpAnyH_take (i := 5) (v := .pointer (some ⟨r, 0, none⟩)) rfl (by kernel_rfl) (by kernel_rfl) (by kernel_rfl) (fun _ _ _ h => h) (Or.inl ⟨by rfl, ?_⟩) (by assumption) ?_
            · intro w1 hSw; (try dsimp only at hSw); go_simp
            simp only [Act.put, List.getElem_toArray, List.getElem_cons_succ, List.getElem_cons_zero, List.setIfInBounds_toArray, List.set_cons_zero, List.set_cons_succ]
            refine wpAnyH_take (i := 6) (v := .slice (some ⟨bl, 0, none⟩) n c) rfl (by kernel_rfl) (by kernel_rfl) (by kernel_rfl) (fun _ _ _ h => h) (Or.inl ⟨by rfl, ?_⟩) (by assumption) ?_
            · intro w1 hSw; (try dsimp only at hSw); go_simp
            simp only [Act.put, List.getElem_toArray, List.getElem_cons_succ, List.getElem_cons_zero, List.setIfInBounds_toArray, List.set_cons_zero, List.set_cons_succ]
            refine wpAnyH_take (i := 7) (v := .int .i64 (n : Nat)) rfl (by kernel_rfl) (by kernel_rfl) (by kernel_rfl) (fun _ _ _ h => h) (Or.inl ⟨by rfl, ?_⟩) (by assumption) ?_
            · intro w1 hSw; (try dsimp only at hSw); go_simp
            simp only [Act.put, List.getElem_toArray, List.getElem_cons_succ, List.getElem_cons_zero, List.setIfInBounds_toArray, List.set_cons_zero, List.set_cons_succ]
            refine wpAnyH_ready (rs := [8]) (by kernel_rfl) (by simp) ?_
            refine AllReadyH.cons rfl (fun K hK => ?_) AllReadyH.nil
            go_simp
            go_at_call 22
            refine (HCK.out _).mono ?_
            rintro e w7 ⟨rfl, hg⟩
            have HG1 := Lib.hid (HD0.out.trans hg)
            clear hg
            refine hK.out _ _ (HKEEP.out _ HG1.out) (fun hHeld => ?_)
            clear hK K
            refine wpAnyH_take (i := 9) (v := .bool false) rfl (by kernel_rfl) (by kernel_rfl) (by kernel_rfl) (fun _ _ _ h => h) (Or.inl ⟨by rfl, ?_⟩) (by assumption) ?_
            · intro w1 hSw; (try dsimp only at hSw); go_simp
            simp only [Act.put, List.getElem_toArray, List.getElem_cons_succ, List.getElem_cons_zero, List.setIfInBounds_toArray, List.set_cons_zero, List.set_cons_succ]
            refine wpAnyH_take (i := 10) (v := .bool false) rfl (by kernel_rfl) (by kernel_rfl) (by kernel_rfl) (fun _ _ _ h => h) (Or.inl ⟨by rfl, ?_⟩) (by assumption) ?_
            · intro w1 hSw; (try dsimp only at hSw); go_simp
            simp only [Act.put, List.getElem_toArray, List.getElem_cons_succ, List.getElem_cons_zero, List.setIfInBounds_toArray, List.set_cons_zero, List.set_cons_succ]
            refine wpAnyH_take (i := 11) (v := .bool false) rfl (by kernel_rfl) (by kernel_rfl) (by kernel_rfl) (fun _ _ _ h => h) (Or.inl ⟨by rfl, ?_⟩) (by assumption) ?_
            · intro w1 hSw; (try dsimp only at hSw); go_simp
            simp only [Act.put, List.getElem_toArray, List.getElem_cons_succ, List.getElem_cons_zero, List.setIfInBounds_toArray, List.set_cons_zero, List.set_cons_succ]
            refine wpAnyH_take (i := 12) (v := undef) rfl (by kernel_rfl) (by kernel_rfl) (by kernel_rfl) (fun _ _ _ h => h) (Or.inr ⟨by rfl, rfl⟩) (by assumption) ?_
            simp only [Act.put, List.getElem_toArray, List.getElem_cons_succ, List.getElem_cons_zero, List.setIfInBounds_toArray, List.set_cons_zero, List.set_cons_succ]
            refine wpAnyH_take (i := 13) (v := undef) rfl (by kernel_rfl) (by kernel_rfl) (by kernel_rfl) (fun _ _ _ h => h) (Or.inr ⟨by rfl, rfl⟩) (by assumption) ?_
            simp only [Act.put, List.getElem_toArray, List.getElem_cons_succ, List.getElem_cons_zero, List.setIfInBounds_toArray, List.set_cons_zero, List.set_cons_succ]
            refine wpAnyH_take (i := 14) (v := undef) rfl (by kernel_rfl) (by kernel_rfl) (by kernel_rfl) (fun _ _ _ h => h) (Or.inr ⟨by rfl, rfl⟩) (by assumption) ?_
            simp only [Act.put, List.getElem_toArray, List.getElem_cons_succ, List.getElem_cons_zero, List.setIfInBounds_toArray, List.set_cons_zero, List.set_cons_succ]
            refine wpAnyH_take (i := 15) (v := undef) rfl (by kernel_rfl) (by kernel_rfl) (by kernel_rfl) (fun _ _ _ h => h) (Or.inr ⟨by rfl, rfl⟩) (by assumption) ?_
            simp only [Act.put, List.getElem_toArray, List.getElem_cons_succ, List.getElem_cons_zero, List.setIfInBounds_toArray, List.set_cons_zero, List.set_cons_succ]
            refine wpAnyH_take (i := 16) (v := undef) rfl (by kernel_rfl) (by kernel_rfl) (by kernel_rfl) (fun _ _ _ h => h) (Or.inr ⟨by rfl, rfl⟩) (by assumption) ?_
            simp only [Act.put, List.getElem_toArray, List.getElem_cons_succ, List.getElem_cons_zero, List.setIfInBounds_toArray, List.set_cons_zero, List.set_cons_succ]
            refine wpAnyH_take (i := 17) (v := .bool false) rfl (by kernel_rfl) (by kernel_rfl) (by kernel_rfl) (fun _ _ _ h => h) (Or.inl ⟨by rfl, ?_⟩) (by assumption) ?_
            · intro w1 hSw; (try dsimp only at hSw); go_simp
            simp only [Act.put, List.getElem_toArray, List.getElem_cons_succ, List.getElem_cons_zero, List.setIfInBounds_toArray, List.set_cons_zero, List.set_cons_succ]
            refine wpAnyH_take (i := 18) (v := .bool false) rfl (by kernel_rfl) (by kernel_rfl) (by kernel_rfl) (fun _ _ _ h => h) (Or.inl ⟨by rfl, ?_⟩) (by assumption) ?_
            · intro w1 hSw; (try dsimp only at hSw); go_simp
            simp only [Act.put, List.getElem_toArray, List.getElem_cons_succ, List.getElem_cons_zero, List.setIfInBounds_toArray, List.set_cons_zero, List.set_cons_succ]
            refine wpAnyH_take (i := 19) (v := undef) rfl (by kernel_rfl) (by kernel_rfl) (by kernel_rfl) (fun _ _ _ h => h) (Or.inr ⟨by rfl, rfl⟩) (by assumption) ?_
            simp only [Act.put, List.getElem_toArray, List.getElem_cons_succ, List.getElem_cons_zero, List.setIfInBounds_toArray, List.set_cons_zero, List.set_cons_succ]
            refine wpAnyH_take (i := 20) (v := undef) rfl (by kernel_rfl) (by kernel_rfl) (by kernel_rfl) (fun _ _ _ h => h) (Or.inr ⟨by rfl, rfl⟩) (by assumption) ?_
            simp only [Act.put, List.getElem_toArray, List.getElem_cons_succ, List.getElem_cons_zero, List.setIfInBounds_toArray, List.set_cons_zero, List.set_cons_succ]
            refine wpAnyH_take (i := 21) (v := undef) rfl (by kernel_rfl) (by kernel_rfl) (by kernel_rfl) (fun _ _ _ h => h) (Or.inr ⟨by rfl, rfl⟩) (by assumption) ?_
            simp only [Act.put, List.getElem_toArray, List.getElem_cons_succ, List.getElem_cons_zero, List.setIfInBounds_toArray, List.set_cons_zero, List.set_cons_succ]
            refine wpAnyH_take (i := 22) (v := undef) rfl (by kernel_rfl) (by kernel_rfl) (by kernel_rfl) (fun _ _ _ h => h) (Or.inr ⟨by rfl, rfl⟩) (by assumption) ?_
            simp only [Act.put, List.getElem_toArray, List.getElem_cons_succ, List.getElem_cons_zero, List.setIfInBounds_toArray, List.set_cons_zero, List.set_cons_succ]
            refine wpAnyH_take (i := 23) (v := undef) rfl (by kernel_rfl) (by kernel_rfl) (by kernel_rfl) (fun _ _ _ h => h) (Or.inr ⟨by rfl, rfl⟩) (by assumption) ?_
            simp only [Act.put, List.getElem_toArray, List.getElem_cons_succ, List.getElem_cons_zero, List.setIfInBounds_toArray, List.set_cons_zero, List.set_cons_succ]
            refine wpAnyH_take (i := 24) (v := undef) rfl (by kernel_rfl) (by kernel_rfl) (by kernel_rfl) (fun _ _ _ h => h) (Or.inr ⟨by rfl, rfl⟩) (by assumption) ?_
            simp only [Act.put, List.getElem_toArray, List.getElem_cons_succ, List.getElem_cons_zero, List.setIfInBounds_toArray, List.set_cons_zero, List.set_cons_succ]
            refine wpAnyH_take (i := 25) (v := undef) rfl (by kernel_rfl) (by kernel_rfl) (by kernel_rfl) (fun _ _ _ h => h) (Or.inr ⟨by rfl, rfl⟩) (by assumption) ?_
            simp only [Act.put, List.getElem_toArray, List.getElem_cons_succ, List.getElem_cons_zero, List.setIfInBounds_toArray, List.set_cons_zero, List.set_cons_succ]
            refine wpAnyH_take (i := 26) (v := undef) rfl (by kernel_rfl) (by kernel_rfl) (by kernel_rfl) (fun _ _ _ h => h) (Or.inr ⟨by rfl, rfl⟩) (by assumption) ?_
            simp only [Act.put, List.getElem_toArray, List.getElem_cons_succ, List.getElem_cons_zero, List.setIfInBounds_toArray, List.set_cons_zero, List.set_cons_succ]
            refine wpAnyH_take (i := 27) (v := undef) rfl (by kernel_rfl) (by kernel_rfl) (by kernel_rfl) (fun _ _ _ h => h) (Or.inr ⟨by rfl, rfl⟩) (by assumption) ?_
            simp only [Act.put, List.getElem_toArray, List.getElem_cons_succ, List.getElem_cons_zero, List.setIfInBounds_toArray, List.set_cons_zero, List.set_cons_succ]
            refine wpAnyH_take (i := 28) (v := .bool false) rfl (by kernel_rfl) (by kernel_rfl) (by kernel_rfl) (fun _ _ _ h => h) (Or.inl ⟨by rfl, ?_⟩) (by assumption) ?_
            · intro w1 hSw; (try dsimp only at hSw); go_simp
            simp only [Act.put, List.getElem_toArray, List.getElem_cons_succ, List.getElem_cons_zero, List.setIfInBounds_toArray, List.set_cons_zero, List.set_cons_succ]
            refine wpAnyH_done (by kernel_rfl) ?_ _
            refine NoPanic.normal ?_
            go_wp2
            go_roundw
            case rel => exact ⟨j + 1, by omega, by go_num, by rw [HO1.out, HO.out], rfl, HLD6.out.quiet HG1.out, by rw [HO1.out, HO.out]; exact HX6.out.grown HG1.out (by simp)⟩
            case measure => simp [Go.RowKit.intOf]; omega
          | true =>
            rw [hm, if_pos rfl] at hck
            rw [hck] at HCK
            have hss : soundS (n : Int) (j : Int) [u0, u1, u2, u3, u4, u5, u6] = decide (u0.tmod 2 = j) := by rw [soundS, hm]; rfl
            rw [hss] at hso
            have HSO := Lib.hid hso
            clear hck hm hss hso
            generalize hpq : u0.tmod 2 = pq at HSO
            by_cases hpj : pq = (j : Int)
            · have HO := Lib.hid (show o' = newer o (some [u0, u1, u2, u3, u4, u5, u6]) by rw [HSTEP.out, HSO.out, hpj]; simp)
              have hdj : decide (pq = (j : Int)) = true := decide_eq_true hpj
              clear HSO HSTEP
              cases o with
              | none =>
                rw [newer_some] at HO
                have hx9 : Blk (w5.alloc (.cells #[.int .i64 u0, .int .i64 u1, .int .i64 u2, .int .i64 u3, .int .i64 u4, .int .i64 u5, .int .i64 u6] 34)) (w.heap.size + 1) 34 #[.int .i64 0, .int .i64 0, .int .i64 0, .int .i64 0, .int .i64 0, .int .i64 0, .int .i64 0] := HX6.out
                have HX9 := Lib.hid hx9
                have HKEEP := HKEEP0
                clear HKEEP0 hx9
                go_wp2_with fail
                refine wp_region_noPanic ?_
                refine wp_region_held_drew (S := fun wx => wx.cell? ⟨w5.heap.size, 0, none⟩ = some (.int .i64 u0) ∧ wx.cell? ⟨w5.heap.size, 1, none⟩ = some (.int .i64 u1) ∧ wx.cell? ⟨w5.heap.size, 2, none⟩ = some (.int .i64 u2) ∧ wx.cell? ⟨w5.heap.size, 3, none⟩ = some (.int .i64 u3) ∧ wx.cell? ⟨w5.heap.size, 4, none⟩ = some (.int .i64 u4) ∧ wx.cell? ⟨w5.heap.size, 5, none⟩ = some (.int .i64 u5) ∧ wx.cell? ⟨w5.heap.size, 6, none⟩ = some (.int .i64 u6) ∧ wx.cell? ⟨r, 0, none⟩ = some (.slice (some ⟨bl, 0, none⟩) n c)) (by kernel_rfl) (HKEEP.out _ HD0.out) (fun hHeld => ?_)
                refine wpAnyH_take (i := 0) (v := .bool true) rfl (by kernel_rfl) (by kernel_rfl) (by kernel_rfl) (fun _ _ _ h => h) (Or.inl ⟨by rfl, ?_⟩) (by assumption) ?_
                · intro w1 hSw; (try dsimp only at hSw); go_simp
                simp only [Act.put, List.getElem_toArray, List.getElem_cons_zero, List.setIfInBounds_toArray, List.set_cons_zero, List.set_cons_succ]
                refine wpAnyH_take (i := 1) (v := .bool true) rfl (by kernel_rfl) (by kernel_rfl) (by kernel_rfl) (fun _ _ _ h => h) (Or.inl ⟨by rfl, ?_⟩) (by assumption) ?_
                · intro w1 hSw; (try dsimp only at hSw); go_simp
                simp only [Act.put, List.getElem_toArray, List.getElem_cons_succ, List.getElem_cons_zero, List.setIfInBounds_toArray, List.set_cons_zero, List.set_cons_succ]
                refine wpAnyH_take (i := 2) (v := .agg #[.int .i64 u0, .int .i64 u1, .int .i64 u2, .int .i64 u3, .int .i64 u4, .int .i64 u5, .int .i64 u6]) rfl (by kernel_rfl) (by kernel_rfl) (by kernel_rfl) (fun _ _ _ h => h) (Or.inl ⟨by rfl, ?_⟩) (by assumption) ?_
                · intro w1 hSw; (try dsimp only at hSw); go_simp
                simp only [Act.put, List.getElem_toArray, List.getElem_cons_succ, List.getElem_cons_zero, List.setIfInBounds_toArray, List.set_cons_zero, List.set_cons_succ]
                refine wpAnyH_take (i := 3) (v := .pointer (some ⟨r, 0, none⟩)) rfl (by kernel_rfl) (by kernel_rfl) (by kernel_rfl) (fun _ _ _ h => h) (Or.inl ⟨by rfl, ?_⟩) (by assumption) ?_
                · intro w1 hSw; (try dsimp only at hSw); go_simp
                simp only [Act.put, List.getElem_toArray, List.getElem_cons_succ, List.getElem_cons_zero, List.setIfInBounds_toArray, List.set_cons_zero, List.set_cons_succ]
                refine wpAnyH_take (i := 4) (v := .pointer (some ⟨r, 0, none⟩)) rfl (by kernel_rfl) (by kernel_rfl) (by kernel_rfl) (fun _ _ _ h => h) (Or.inl ⟨by rfl, ?_⟩) (by assumption) ?_
                · intro w1 hSw; (try dsimp only at hSw); go_simp
                simp only [Act.put, List.getElem_toArray, List.getElem_cons_succ, List.getElem_cons_zero, List.setIfInBounds_toArray, List.set_cons_zero, List.set_cons_succ]
                refine wpAnyH_take (i := 5) (v := .pointer (some ⟨r, 0, none⟩)) rfl (by kernel_rfl) (by kernel_rfl) (by kernel_rfl) (fun _ _ _ h => h) (Or.inl ⟨by rfl, ?_⟩) (by assumption) ?_
                · intro w1 hSw; (try dsimp only at hSw); go_simp
                simp only [Act.put, List.getElem_toArray, List.getElem_cons_succ, List.getElem_cons_zero, List.setIfInBounds_toArray, List.set_cons_zero, List.set_cons_succ]
                refine wpAnyH_take (i := 6) (v := .slice (some ⟨bl, 0, none⟩) n c) rfl (by kernel_rfl) (by kernel_rfl) (by kernel_rfl) (fun _ _ _ h => h) (Or.inl ⟨by rfl, ?_⟩) (by assumption) ?_
                · intro w1 hSw; (try dsimp only at hSw); go_simp
                simp only [Act.put, List.getElem_toArray, List.getElem_cons_succ, List.getElem_cons_zero, List.setIfInBounds_toArray, List.set_cons_zero, List.set_cons_succ]
                refine wpAnyH_take (i := 7) (v := .int .i64 (n : Nat)) rfl (by kernel_rfl) (by kernel_rfl) (by kernel_rfl) (fun _ _ _ h => h) (Or.inl ⟨by rfl, ?_⟩) (by assumption) ?_
                · intro w1 hSw; (try dsimp only at hSw); go_simp
                simp only [Act.put, List.getElem_toArray, List.getElem_cons_succ, List.getElem_cons_zero, List.setIfInBounds_toArray, List.set_cons_zero, List.set_cons_succ]
                refine wpAnyH_ready (rs := [8]) (by kernel_rfl) (by simp) ?_
                refine AllReadyH.cons rfl (fun K hK => ?_) AllReadyH.nil
                go_simp
                go_at_call 22
                refine (HCK.out _).mono ?_
                rintro e w7 ⟨rfl, hg⟩
                have HG1 := Lib.hid (HD0.out.trans hg)
                clear hg
                refine hK.out _ _ (HKEEP.out _ HG1.out) (fun hHeld => ?_)
                clear hK K
                refine wpAnyH_take (i := 9) (v := .bool true) rfl (by kernel_rfl) (by kernel_rfl) (by kernel_rfl) (fun _ _ _ h => h) (Or.inl ⟨by rfl, ?_⟩) (by assumption) ?_
                · intro w1 hSw; (try dsimp only at hSw); go_simp
                simp only [Act.put, List.getElem_toArray, List.getElem_cons_succ, List.getElem_cons_zero, List.setIfInBounds_toArray, List.set_cons_zero, List.set_cons_succ]
                refine wpAnyH_take (i := 10) (v := .bool true) rfl (by kernel_rfl) (by kernel_rfl) (by kernel_rfl) (fun _ _ _ h => h) (Or.inl ⟨by rfl, ?_⟩) (by assumption) ?_
                · intro w1 hSw; (try dsimp only at hSw); go_simp
                simp only [Act.put, List.getElem_toArray, List.getElem_cons_succ, List.getElem_cons_zero, List.setIfInBounds_toArray, List.set_cons_zero, List.set_cons_succ]
                refine wpAnyH_take (i := 11) (v := .bool true) rfl (by kernel_rfl) (by kernel_rfl) (by kernel_rfl) (fun _ _ _ h => h) (Or.inl ⟨by rfl, ?_⟩) (by assumption) ?_
                · intro w1 hSw; (try dsimp only at hSw); go_simp
                simp only [Act.put, List.getElem_toArray, List.getElem_cons_succ, List.getElem_cons_zero, List.setIfInBounds_toArray, List.set_cons_zero, List.set_cons_succ]
                refine wpAnyH_take (i := 12) (v := .pointer (some ⟨w5.heap.size, 0, none⟩)) rfl (by kernel_rfl) (by kernel_rfl) (by kernel_rfl) (fun _ _ _ h => h) (Or.inl ⟨by rfl, ?_⟩) (by assumption) ?_
                · intro w1 hSw; (try dsimp only at hSw); go_simp
                simp only [Act.put, List.getElem_toArray, List.getElem_cons_succ, List.getElem_cons_zero, List.setIfInBounds_toArray, List.set_cons_zero, List.set_cons_succ]
                refine wpAnyH_take (i := 13) (v := .int .i64 u0) rfl (by kernel_rfl) (by kernel_rfl) (by kernel_rfl) (fun _ _ _ h => h) (Or.inl ⟨by rfl, ?_⟩) (by assumption) ?_
                · intro w1 hSw; (try dsimp only at hSw); go_simp
                simp only [Act.put, List.getElem_toArray, List.getElem_cons_succ, List.getElem_cons_zero, List.setIfInBounds_toArray, List.set_cons_zero, List.set_cons_succ]
                refine wpAnyH_take (i := 14) (v := .int .i64 pq) rfl (by kernel_rfl) (by kernel_rfl) (by kernel_rfl) (fun _ _ _ h => h) (Or.inl ⟨by rfl, ?_⟩) (by assumption) ?_
                · intro w1 hSw; (try dsimp only at hSw); go_simp
                simp only [Act.put, List.getElem_toArray, List.getElem_cons_succ, List.getElem_cons_zero, List.setIfInBounds_toArray, List.set_cons_zero, List.set_cons_succ]
                refine wpAnyH_take (i := 15) (v := .int .i64 j) rfl (by kernel_rfl) (by kernel_rfl) (by kernel_rfl) (fun _ _ _ h => h) (Or.inl ⟨by rfl, ?_⟩) (by assumption) ?_
                · intro w1 hSw; (try dsimp only at hSw); go_simp
                simp only [Act.put, List.getElem_toArray, List.getElem_cons_succ, List.getElem_cons_zero, List.setIfInBounds_toArray, List.set_cons_zero, List.set_cons_succ]
                refine wpAnyH_take (i := 16) (v := .bool true) rfl (by kernel_rfl) (by kernel_rfl) (by kernel_rfl) (fun _ _ _ h => h) (Or.inl ⟨by rfl, ?_⟩) (by assumption) ?_
                · intro w1 hSw; (try dsimp only at hSw); go_simp
                simp only [Act.put, List.getElem_toArray, List.getElem_cons_succ, List.getElem_cons_zero, List.setIfInBounds_toArray, List.set_cons_zero, List.set_cons_succ]
                refine wpAnyH_take (i := 17) (v := .bool true) rfl (by kernel_rfl) (by kernel_rfl) (by kernel_rfl) (fun _ _ _ h => h) (Or.inl ⟨by rfl, ?_⟩) (by assumption) ?_
                · intro w1 hSw; (try dsimp only at hSw); go_simp
                simp only [Act.put, List.getElem_toArray, List.getElem_cons_succ, List.getElem_cons_zero, List.setIfInBounds_toArray, List.set_cons_zero, List.set_cons_succ]
                refine wpAnyH_take (i := 18) (v := .bool true) rfl (by kernel_rfl) (by kernel_rfl) (by kernel_rfl) (fun _ _ _ h => h) (Or.inl ⟨by rfl, ?_⟩) (by assumption) ?_
                · intro w1 hSw; (try dsimp only at hSw); go_simp
                simp only [Act.put, List.getElem_toArray, List.getElem_cons_succ, List.getElem_cons_zero, List.setIfInBounds_toArray, List.set_cons_zero, List.set_cons_succ]
                refine wpAnyH_take (i := 19) (v := .bool false) rfl (by kernel_rfl) (by kernel_rfl) (by kernel_rfl) (fun _ _ _ h => h) (Or.inl ⟨by rfl, ?_⟩) (by assumption) ?_
                · intro w1 hSw; (try dsimp only at hSw); go_simp
                simp only [Act.put, List.getElem_toArray, List.getElem_cons_succ, List.getElem_cons_zero, List.setIfInBounds_toArray, List.set_cons_zero, List.set_cons_succ]
                refine wpAnyH_take (i := 20) (v := .bool true) rfl (by kernel_rfl) (by kernel_rfl) (by kernel_rfl) (fun _ _ _ h => h) (Or.inl ⟨by rfl, ?_⟩) (by assumption) ?_
                · intro w1 hSw; (try dsimp only at hSw); go_simp
                simp only [Act.put, List.getElem_toArray, List.getElem_cons_succ, List.getElem_cons_zero, List.setIfInBounds_toArray, List.set_cons_zero, List.set_cons_succ]
                refine wpAnyH_take (i := 21) (v := .bool true) rfl (by kernel_rfl) (by kernel_rfl) (by kernel_rfl) (fun _ _ _ h => h) (Or.inl ⟨by rfl, ?_⟩) (by assumption) ?_
                · intro w1 hSw; (try dsimp only at hSw); go_simp
                simp only [Act.put, List.getElem_toArray, List.getElem_cons_succ, List.getElem_cons_zero, List.setIfInBounds_toArray, List.set_cons_zero, List.set_cons_succ]
                refine wpAnyH_take (i := 22) (v := undef) rfl (by kernel_rfl) (by kernel_rfl) (by kernel_rfl) (fun _ _ _ h => h) (Or.inr ⟨by rfl, rfl⟩) (by assumption) ?_
                simp only [Act.put, List.getElem_toArray, List.getElem_cons_succ, List.getElem_cons_zero, List.setIfInBounds_toArray, List.set_cons_zero, List.set_cons_succ]
                refine wpAnyH_take (i := 23) (v := undef) rfl (by kernel_rfl) (by kernel_rfl) (by kernel_rfl) (fun _ _ _ h => h) (Or.inr ⟨by rfl, rfl⟩) (by assumption) ?_
                simp only [Act.put, List.getElem_toArray, List.getElem_cons_succ, List.getElem_cons_zero, List.setIfInBounds_toArray, List.set_cons_zero, List.set_cons_succ]
                refine wpAnyH_take (i := 24) (v := undef) rfl (by kernel_rfl) (by kernel_rfl) (by kernel_rfl) (fun _ _ _ h => h) (Or.inr ⟨by rfl, rfl⟩) (by assumption) ?_
                simp only [Act.put, List.getElem_toArray, List.getElem_cons_succ, List.getElem_cons_zero, List.setIfInBounds_toArray, List.set_cons_zero, List.set_cons_succ]
                refine wpAnyH_take (i := 25) (v := undef) rfl (by kernel_rfl) (by kernel_rfl) (by kernel_rfl) (fun _ _ _ h => h) (Or.inr ⟨by rfl, rfl⟩) (by assumption) ?_
                simp only [Act.put, List.getElem_toArray, List.getElem_cons_succ, List.getElem_cons_zero, List.setIfInBounds_toArray, List.set_cons_zero, List.set_cons_succ]
                refine wpAnyH_take (i := 26) (v := undef) rfl (by kernel_rfl) (by kernel_rfl) (by kernel_rfl) (fun _ _ _ h => h) (Or.inr ⟨by rfl, rfl⟩) (by assumption) ?_
                simp only [Act.put, List.getElem_toArray, List.getElem_cons_succ, List.getElem_cons_zero, List.setIfInBounds_toArray, List.set_cons_zero, List.set_cons_succ]
                refine wpAnyH_take (i := 27) (v := .bool true) rfl (by kernel_rfl) (by kernel_rfl) (by kernel_rfl) (fun _ _ _ h => h) (Or.inl ⟨by rfl, ?_⟩) (by assumption) ?_
                · intro w1 hSw; (try dsimp only at hSw); go_simp
                simp only [Act.put, List.getElem_toArray, List.getElem_cons_succ, List.getElem_cons_zero, List.setIfInBounds_toArray, List.set_cons_zero, List.set_cons_succ]
                refine wpAnyH_take (i := 28) (v := .bool true) rfl (by kernel_rfl) (by kernel_rfl) (by kernel_rfl) (fun _ _ _ h => h) (Or.inl ⟨by rfl, ?_⟩) (by assumption) ?_
                · intro w1 hSw; (try dsimp only at hSw); go_simp
                simp only [Act.put, List.getElem_toArray, List.getElem_cons_succ, List.getElem_cons_zero, List.setIfInBounds_toArray, List.set_cons_zero, List.set_cons_succ]
                refine wpAnyH_done (by kernel_rfl) ?_ _
                refine NoPanic.normal ?_
                have hx9 := HX9.out.grown HG1.out (by simp)
                obtain ⟨y0, y1, y2, y3, y4, y5, y6, _⟩ := HKEEP.out _ HG1.out
                have x0 := hx9.cell 0; have x1 := hx9.cell 1; have x2 := hx9.cell 2; have x3 := hx9.cell 3; have x4 := hx9.cell 4; have x5 := hx9.cell 5; have x6 := hx9.cell 6
                simp only [List.getElem?_toArray, List.getElem?_cons_zero, List.getElem?_cons_succ] at x0 x1 x2 x3 x4 x5 x6
                have f0 := hx9.frozen 0; have f1 := hx9.frozen 1; have f2 := hx9.frozen 2; have f3 := hx9.frozen 3; have f4 := hx9.frozen 4; have f5 := hx9.frozen 5; have f6 := hx9.frozen 6
                have HXB := Lib.hid hx9
                have HLD8 := Lib.hid (HLD6.out.quiet HG1.out)
                clear hx9
                go_wp2
                go_roundw
                case rel => exact ⟨j + 1, by omega, by go_num, by rw [HO1.out, HO.out]; rfl, rfl, HLD8.out.set7 HL.out, by rw [HO1.out, HO.out]; exact Blk.set7 HXB.out⟩
                case measure => simp [Go.RowKit.intOf]; omega
              | some pp =>
                obtain ⟨p0, p1, p2, p3, p4, p5, p6, rfl⟩ := list7 (HSL.out pp rfl)
                have hx9 : Blk (w5.alloc (.cells #[.int .i64 u0, .int .i64 u1, .int .i64 u2, .int .i64 u3, .int .i64 u4, .int .i64 u5, .int .i64 u6] 34)) (w.heap.size + 1) 34 #[.int .i64 p0, .int .i64 p1, .int .i64 p2, .int .i64 p3, .int .i64 p4, .int .i64 p5, .int .i64 p6] := HX6.out
                have HX9 := Lib.hid hx9
                have HKEEP := Lib.hid (show ∀ wx, (w5.alloc (.cells #[.int .i64 u0, .int .i64 u1, .int .i64 u2, .int .i64 u3, .int .i64 u4, .int .i64 u5, .int .i64 u6] 34)).grownBy wx none → wx.cell? ⟨w5.heap.size, 0, none⟩ = some (.int .i64 u0) ∧ wx.cell? ⟨w5.heap.size, 1, none⟩ = some (.int .i64 u1) ∧ wx.cell? ⟨w5.heap.size, 2, none⟩ = some (.int .i64 u2) ∧ wx.cell? ⟨w5.heap.size, 3, none⟩ = some (.int .i64 u3) ∧ wx.cell? ⟨w5.heap.size, 4, none⟩ = some (.int .i64 u4) ∧ wx.cell? ⟨w5.heap.size, 5, none⟩ = some (.int .i64 u5) ∧ wx.cell? ⟨w5.heap.size, 6, none⟩ = some (.int .i64 u6) ∧ wx.cell? ⟨r, 0, none⟩ = some (.slice (some ⟨bl, 0, none⟩) n c) ∧ wx.cell? ⟨w.heap.size + 1, 0, none⟩ = some (.int .i64 p0) from fun wx hg => by
                  obtain ⟨k0, k1, k2, k3, k4, k5, k6, k7⟩ := HKEEP0.out wx hg
                  exact ⟨k0, k1, k2, k3, k4, k5, k6, k7, by rw [(HX9.out.grown hg (by simp)).cell]; rfl⟩)
                have hnew : newer (some [p0, p1, p2, p3, p4, p5, p6]) (some [u0, u1, u2, u3, u4, u5, u6]) = if p0 < u0 then some [u0, u1, u2, u3, u4, u5, u6] else some [p0, p1, p2, p3, p4, p5, p6] := rfl
                rw [hnew] at HO
                clear hx9 hnew HKEEP0
                by_cases hgt : p0 < u0
                · rw [if_pos hgt] at HO
                  have hdg : decide (p0 < u0) = true := decide_eq_true hgt
                  go_wp2_with fail
                  refine wp_region_noPanic ?_
                  refine wp_region_held_drew (S := fun wx => wx.cell? ⟨w5.heap.size, 0, none⟩ = some (.int .i64 u0) ∧ wx.cell? ⟨w5.heap.size, 1, none⟩ = some (.int .i64 u1) ∧ wx.cell? ⟨w5.heap.size, 2, none⟩ = some (.int .i64 u2) ∧ wx.cell? ⟨w5.heap.size, 3, none⟩ = some (.int .i64 u3) ∧ wx.cell? ⟨w5.heap.size, 4, none⟩ = some (.int .i64 u4) ∧ wx.cell? ⟨w5.heap.size, 5, none⟩ = some (.int .i64 u5) ∧ wx.cell? ⟨w5.heap.size, 6, none⟩ = some (.int .i64 u6) ∧ wx.cell? ⟨r, 0, none⟩ = some (.slice (some ⟨bl, 0, none⟩) n c) ∧ wx.cell? ⟨w.heap.size + 1, 0, none⟩ = some (.int .i64 p0)) (by kernel_rfl) (HKEEP.out _ HD0.out) (fun hHeld => ?_)
                  refine wpAnyH_take (i := 0) (v := .bool true) rfl (by kernel_rfl) (by kernel_rfl) (by kernel_rfl) (fun _ _ _ h => h) (Or.inl ⟨by rfl, ?_⟩) (by assumption) ?_
                  · intro w1 hSw; (try dsimp only at hSw); go_simp
                  simp only [Act.put, List.getElem_toArray, List.getElem_cons_zero, List.setIfInBounds_toArray, List.set_cons_zero, List.set_cons_succ]
                  refine wpAnyH_take (i := 1) (v := .bool true) rfl (by kernel_rfl) (by kernel_rfl) (by kernel_rfl) (fun _ _ _ h => h) (Or.inl ⟨by rfl, ?_⟩) (by assumption) ?_
                  · intro w1 hSw; (try dsimp only at hSw); go_simp
                  simp only [Act.put, List.getElem_toArray, List.getElem_cons_succ, List.getElem_cons_zero, List.setIfInBounds_toArray, List.set_cons_zero, List.set_cons_succ]
                  refine wpAnyH_take (i := 2) (v := .agg #[.int .i64 u0, .int .i64 u1, .int .i64 u2, .int .i64 u3, .int .i64 u4, .int .i64 u5, .int .i64 u6]) rfl (by kernel_rfl) (by kernel_rfl) (by kernel_rfl) (fun _ _ _ h => h) (Or.inl ⟨by rfl, ?_⟩) (by assumption) ?_
                  · intro w1 hSw; (try dsimp only at hSw); go_simp
                  simp only [Act.put, List.getElem_toArray, List.getElem_cons_succ, List.getElem_cons_zero, List.setIfInBounds_toArray, List.set_cons_zero, List.set_cons_succ]
                  refine wpAnyH_take (i := 3) (v := .pointer (some ⟨r, 0, none⟩)) rfl (by kernel_rfl) (by kernel_rfl) (by kernel_rfl) (fun _ _ _ h => h) (Or.inl ⟨by rfl, ?_⟩) (by assumption) ?_
                  · intro w1 hSw; (try dsimp only at hSw); go_simp
                  simp only [Act.put, List.getElem_toArray, List.getElem_cons_succ, List.getElem_cons_zero, List.setIfInBounds_toArray, List.set_cons_zero, List.set_cons_succ]
                  refine wpAnyH_take (i := 4) (v := .pointer (some ⟨r, 0, none⟩)) rfl (by kernel_rfl) (by kernel_rfl) (by kernel_rfl) (fun _ _ _ h => h) (Or.inl ⟨by rfl, ?_⟩) (by assumption) ?_
                  · intro w1 hSw; (try dsimp only at hSw); go_simp
                  simp only [Act.put, List.getElem_toArray, List.getElem_cons_succ, List.getElem_cons_zero, List.setIfInBounds_toArray, List.set_cons_zero, List.set_cons_succ]
                  refine wpAnyH_take (i := 5) (v := .pointer (some ⟨r, 0, none⟩)) rfl (by kernel_rfl) (by kernel_rfl) (by kernel_rfl) (fun _ _ _ h => h) (Or.inl ⟨by rfl, ?_⟩) (by assumption) ?_
                  · intro w1 hSw; (try dsimp only at hSw); go_simp
                  simp only [Act.put, List.getElem_toArray, List.getElem_cons_succ, List.getElem_cons_zero, List.setIfInBounds_toArray, List.set_cons_zero, List.set_cons_succ]
                  refine wpAnyH_take (i := 6) (v := .slice (some ⟨bl, 0, none⟩) n c) rfl (by kernel_rfl) (by kernel_rfl) (by kernel_rfl) (fun _ _ _ h => h) (Or.inl ⟨by rfl, ?_⟩) (by assumption) ?_
                  · intro w1 hSw; (try dsimp only at hSw); go_simp
                  simp only [Act.put, List.getElem_toArray, List.getElem_cons_succ, List.getElem_cons_zero, List.setIfInBounds_toArray, List.set_cons_zero, List.set_cons_succ]
                  refine wpAnyH_take (i := 7) (v := .int .i64 (n : Nat)) rfl (by kernel_rfl) (by kernel_rfl) (by kernel_rfl) (fun _ _ _ h => h) (Or.inl ⟨by rfl, ?_⟩) (by assumption) ?_
                  · intro w1 hSw; (try dsimp only at hSw); go_simp
                  simp only [Act.put, List.getElem_toArray, List.getElem_cons_succ, List.getElem_cons_zero, List.setIfInBounds_toArray, List.set_cons_zero, List.set_cons_succ]
                  refine wpAnyH_ready (rs := [8]) (by kernel_rfl) (by simp) ?_
                  refine AllReadyH.cons rfl (fun K hK => ?_) AllReadyH.nil
                  go_simp
                  go_at_call 22
                  refine (HCK.out _).mono ?_
                  rintro e w7 ⟨rfl, hg⟩
                  have HG1 := Lib.hid (HD0.out.trans hg)
                  clear hg
                  refine hK.out _ _ (HKEEP.out _ HG1.out) (fun hHeld => ?_)
                  clear hK K
                  refine wpAnyH_take (i := 9) (v := .bool true) rfl (by kernel_rfl) (by kernel_rfl) (by kernel_rfl) (fun _ _ _ h => h) (Or.inl ⟨by rfl, ?_⟩) (by assumption) ?_
                  · intro w1 hSw; (try dsimp only at hSw); go_simp
                  simp only [Act.put, List.getElem_toArray, List.getElem_cons_succ, List.getElem_cons_zero, List.setIfInBounds_toArray, List.set_cons_zero, List.set_cons_succ]
                  refine wpAnyH_take (i := 10) (v := .bool true) rfl (by kernel_rfl) (by kernel_rfl) (by kernel_rfl) (fun _ _ _ h => h) (Or.inl ⟨by rfl, ?_⟩) (by assumption) ?_
                  · intro w1 hSw; (try dsimp only at hSw); go_simp
                  simp only [Act.put, List.getElem_toArray, List.getElem_cons_succ, List.getElem_cons_zero, List.setIfInBounds_toArray, List.set_cons_zero, List.set_cons_succ]
                  refine wpAnyH_take (i := 11) (v := .bool true) rfl (by kernel_rfl) (by kernel_rfl) (by kernel_rfl) (fun _ _ _ h => h) (Or.inl ⟨by rfl, ?_⟩) (by assumption) ?_
                  · intro w1 hSw; (try dsimp only at hSw); go_simp
                  simp only [Act.put, List.getElem_toArray, List.getElem_cons_succ, List.getElem_cons_zero, List.setIfInBounds_toArray, List.set_cons_zero, List.set_cons_succ]
                  refine wpAnyH_take (i := 12) (v := .pointer (some ⟨w5.heap.size, 0, none⟩)) rfl (by kernel_rfl) (by kernel_rfl) (by kernel_rfl) (fun _ _ _ h => h) (Or.inl ⟨by rfl, ?_⟩) (by assumption) ?_
                  · intro w1 hSw; (try dsimp only at hSw); go_simp
                  simp only [Act.put, List.getElem_toArray, List.getElem_cons_succ, List.getElem_cons_zero, List.setIfInBounds_toArray, List.set_cons_zero, List.set_cons_succ]
                  refine wpAnyH_take (i := 13) (v := .int .i64 u0) rfl (by kernel_rfl) (by kernel_rfl) (by kernel_rfl) (fun _ _ _ h => h) (Or.inl ⟨by rfl, ?_⟩) (by assumption) ?_
                  · intro w1 hSw; (try dsimp only at hSw); go_simp
                  simp only [Act.put, List.getElem_toArray, List.getElem_cons_succ, List.getElem_cons_zero, List.setIfInBounds_toArray, List.set_cons_zero, List.set_cons_succ]
                  refine wpAnyH_take (i := 14) (v := .int .i64 pq) rfl (by kernel_rfl) (by kernel_rfl) (by kernel_rfl) (fun _ _ _ h => h) (Or.inl ⟨by rfl, ?_⟩) (by assumption) ?_
                  · intro w1 hSw; (try dsimp only at hSw); go_simp
                  simp only [Act.put, List.getElem_toArray, List.getElem_cons_succ, List.getElem_cons_zero, List.setIfInBounds_toArray, List.set_cons_zero, List.set_cons_succ]
                  refine wpAnyH_take (i := 15) (v := .int .i64 j) rfl (by kernel_rfl) (by kernel_rfl) (by kernel_rfl) (fun _ _ _ h => h) (Or.inl ⟨by rfl, ?_⟩) (by assumption) ?_
                  · intro w1 hSw; (try dsimp only at hSw); go_simp
                  simp only [Act.put, List.getElem_toArray, List.getElem_cons_succ, List.getElem_cons_zero, List.setIfInBounds_toArray, List.set_cons_zero, List.set_cons_succ]
                  refine wpAnyH_take (i := 16) (v := .bool true) rfl (by kernel_rfl) (by kernel_rfl) (by kernel_rfl) (fun _ _ _ h => h) (Or.inl ⟨by rfl, ?_⟩) (by assumption) ?_
                  · intro w1 hSw; (try dsimp only at hSw); go_simp
                  simp only [Act.put, List.getElem_toArray, List.getElem_cons_succ, List.getElem_cons_zero, List.setIfInBounds_toArray, List.set_cons_zero, List.set_cons_succ]
                  refine wpAnyH_take (i := 17) (v := .bool true) rfl (by kernel_rfl) (by kernel_rfl) (by kernel_rfl) (fun _ _ _ h => h) (Or.inl ⟨by rfl, ?_⟩) (by assumption) ?_
                  · intro w1 hSw; (try dsimp only at hSw); go_simp
                  simp only [Act.put, List.getElem_toArray, List.getElem_cons_succ, List.getElem_cons_zero, List.setIfInBounds_toArray, List.set_cons_zero, List.set_cons_succ]
                  refine wpAnyH_take (i := 18) (v := .bool true) rfl (by kernel_rfl) (by kernel_rfl) (by kernel_rfl) (fun _ _ _ h => h) (Or.inl ⟨by rfl, ?_⟩) (by assumption) ?_
                  · intro w1 hSw; (try dsimp only at hSw); go_simp
                  simp only [Act.put, List.getElem_toArray, List.getElem_cons_succ, List.getElem_cons_zero, List.setIfInBounds_toArray, List.set_cons_zero, List.set_cons_succ]
                  refine wpAnyH_take (i := 19) (v := .bool true) rfl (by kernel_rfl) (by kernel_rfl) (by kernel_rfl) (fun _ _ _ h => h) (Or.inl ⟨by rfl, ?_⟩) (by assumption) ?_
                  · intro w1 hSw; (try dsimp only at hSw); go_simp
                  simp only [Act.put, List.getElem_toArray, List.getElem_cons_succ, List.getElem_cons_zero, List.setIfInBounds_toArray, List.set_cons_zero, List.set_cons_succ]
                  refine wpAnyH_take (i := 20) (v := .bool false) rfl (by kernel_rfl) (by kernel_rfl) (by kernel_rfl) (fun _ _ _ h => h) (Or.inl ⟨by rfl, ?_⟩) (by assumption) ?_
                  · intro w1 hSw; (try dsimp only at hSw); go_simp
                  simp only [Act.put, List.getElem_toArray, List.getElem_cons_succ, List.getElem_cons_zero, List.setIfInBounds_toArray, List.set_cons_zero, List.set_cons_succ]
                  refine wpAnyH_take (i := 21) (v := .bool false) rfl (by kernel_rfl) (by kernel_rfl) (by kernel_rfl) (fun _ _ _ h => h) (Or.inl ⟨by rfl, ?_⟩) (by assumption) ?_
                  · intro w1 hSw; (try dsimp only at hSw); go_simp
                  simp only [Act.put, List.getElem_toArray, List.getElem_cons_succ, List.getElem_cons_zero, List.setIfInBounds_toArray, List.set_cons_zero, List.set_cons_succ]
                  refine wpAnyH_take (i := 22) (v := .pointer (some ⟨w5.heap.size, 0, none⟩)) rfl (by kernel_rfl) (by kernel_rfl) (by kernel_rfl) (fun _ _ _ h => h) (Or.inl ⟨by rfl, ?_⟩) (by assumption) ?_
                  · intro w1 hSw; (try dsimp only at hSw); go_simp
                  simp only [Act.put, List.getElem_toArray, List.getElem_cons_succ, List.getElem_cons_zero, List.setIfInBounds_toArray, List.set_cons_zero, List.set_cons_succ]
                  refine wpAnyH_take (i := 23) (v := .int .i64 u0) rfl (by kernel_rfl) (by kernel_rfl) (by kernel_rfl) (fun _ _ _ h => h) (Or.inl ⟨by rfl, ?_⟩) (by assumption) ?_
                  · intro w1 hSw; (try dsimp only at hSw); go_simp
                  simp only [Act.put, List.getElem_toArray, List.getElem_cons_succ, List.getElem_cons_zero, List.setIfInBounds_toArray, List.set_cons_zero, List.set_cons_succ]
                  refine wpAnyH_take (i := 24) (v := .pointer (some ⟨w.heap.size + 1, 0, none⟩)) rfl (by kernel_rfl) (by kernel_rfl) (by kernel_rfl) (fun _ _ _ h => h) (Or.inl ⟨by rfl, ?_⟩) (by assumption) ?_
                  · intro w1 hSw; (try dsimp only at hSw); go_simp
                  simp only [Act.put, List.getElem_toArray, List.getElem_cons_succ, List.getElem_cons_zero, List.setIfInBounds_toArray, List.set_cons_zero, List.set_cons_succ]
                  refine wpAnyH_take (i := 25) (v := .int .i64 p0) rfl (by kernel_rfl) (by kernel_rfl) (by kernel_rfl) (fun _ _ _ h => h) (Or.inl ⟨by rfl, ?_⟩) (by assumption) ?_
                  · intro w1 hSw; (try dsimp only at hSw); go_simp
                  simp only [Act.put, List.getElem_toArray, List.getElem_cons_succ, List.getElem_cons_zero, List.setIfInBounds_toArray, List.set_cons_zero, List.set_cons_succ]
                  refine wpAnyH_take (i := 26) (v := .bool true) rfl (by kernel_rfl) (by kernel_rfl) (by kernel_rfl) (fun _ _ _ h => h) (Or.inl ⟨by rfl, ?_⟩) (by assumption) ?_
                  · intro w1 hSw; (try dsimp only at hSw); go_simp
                  simp only [Act.put, List.getElem_toArray, List.getElem_cons_succ, List.getElem_cons_zero, List.setIfInBounds_toArray, List.set_cons_zero, List.set_cons_succ]
                  refine wpAnyH_take (i := 27) (v := .bool true) rfl (by kernel_rfl) (by kernel_rfl) (by kernel_rfl) (fun _ _ _ h => h) (Or.inl ⟨by rfl, ?_⟩) (by assumption) ?_
                  · intro w1 hSw; (try dsimp only at hSw); go_simp
                  simp only [Act.put, List.getElem_toArray, List.getElem_cons_succ, List.getElem_cons_zero, List.setIfInBounds_toArray, List.set_cons_zero, List.set_cons_succ]
                  refine wpAnyH_take (i := 28) (v := .bool true) rfl (by kernel_rfl) (by kernel_rfl) (by kernel_rfl) (fun _ _ _ h => h) (Or.inl ⟨by rfl, ?_⟩) (by assumption) ?_
                  · intro w1 hSw; (try dsimp only at hSw); go_simp
                  simp only [Act.put, List.getElem_toArray, List.getElem_cons_succ, List.getElem_cons_zero, List.setIfInBounds_toArray, List.set_cons_zero, List.set_cons_succ]
                  refine wpAnyH_done (by kernel_rfl) ?_ _
                  refine NoPanic.normal ?_
                  have hx9 := HX9.out.grown HG1.out (by simp)
                  obtain ⟨y0, y1, y2, y3, y4, y5, y6, _, _⟩ := HKEEP.out _ HG1.out
                  have x0 := hx9.cell 0; have x1 := hx9.cell 1; have x2 := hx9.cell 2; have x3 := hx9.cell 3; have x4 := hx9.cell 4; have x5 := hx9.cell 5; have x6 := hx9.cell 6
                  simp only [List.getElem?_toArray, List.getElem?_cons_zero, List.getElem?_cons_succ] at x0 x1 x2 x3 x4 x5 x6
                  have f0 := hx9.frozen 0; have f1 := hx9.frozen 1; have f2 := hx9.frozen 2; have f3 := hx9.frozen 3; have f4 := hx9.frozen 4; have f5 := hx9.frozen 5; have f6 := hx9.frozen 6
                  have HXB := Lib.hid hx9
                  have HLD8 := Lib.hid (HLD6.out.quiet HG1.out)
                  clear hx9
                  go_wp2
                  go_roundw
                  case rel => exact ⟨j + 1, by omega, by go_num, by rw [HO1.out, HO.out]; rfl, rfl, HLD8.out.set7 HL.out, by rw [HO1.out, HO.out]; exact Blk.set7 HXB.out⟩
                  case measure => simp [Go.RowKit.intOf]; omega
                · rw [if_neg hgt] at HO
                  have hdg : decide (p0 < u0) = false := decide_eq_false hgt
                  go_wp2_with fail
                  refine wp_region_noPanic ?_
                  refine wp_region_held_drew (S := fun wx => wx.cell? ⟨w5.heap.size, 0, none⟩ = some (.int .i64 u0) ∧ wx.cell? ⟨w5.heap.size, 1, none⟩ = some (.int .i64 u1) ∧ wx.cell? ⟨w5.heap.size, 2, none⟩ = some (.int .i64 u2) ∧ wx.cell? ⟨w5.heap.size, 3, none⟩ = some (.int .i64 u3) ∧ wx.cell? ⟨w5.heap.size, 4, none⟩ = some (.int .i64 u4) ∧ wx.cell? ⟨w5.heap.size, 5, none⟩ = some (.int .i64 u5) ∧ wx.cell? ⟨w5.heap.size, 6, none⟩ = some (.int .i64 u6) ∧ wx.cell? ⟨r, 0, none⟩ = some (.slice (some ⟨bl, 0, none⟩) n c) ∧ wx.cell? ⟨w.heap.size + 1, 0, none⟩ = some (.int .i64 p0)) (by kernel_rfl) (HKEEP.out _ HD0.out) (fun hHeld => ?_)
                  refine wpAnyH_take (i := 0) (v := .bool true) rfl (by kernel_rfl) (by kernel_rfl) (by kernel_rfl) (fun _ _ _ h => h) (Or.inl ⟨by rfl, ?_⟩) (by assumption) ?_
                  · intro w1 hSw; (try dsimp only at hSw); go_simp
                  simp only [Act.put, List.getElem_toArray, List.getElem_cons_zero, List.setIfInBounds_toArray, List.set_cons_zero, List.set_cons_succ]
                  refine wpAnyH_take (i := 1) (v := .bool true) rfl (by kernel_rfl) (by kernel_rfl) (by kernel_rfl) (fun _ _ _ h => h) (Or.inl ⟨by rfl, ?_⟩) (by assumption) ?_
                  · intro w1 hSw; (try dsimp only at hSw); go_simp
                  simp only [Act.put, List.getElem_toArray, List.getElem_cons_succ, List.getElem_cons_zero, List.setIfInBounds_toArray, List.set_cons_zero, List.set_cons_succ]
                  refine wpAnyH_take (i := 2) (v := .agg #[.int .i64 u0, .int .i64 u1, .int .i64 u2, .int .i64 u3, .int .i64 u4, .int .i64 u5, .int .i64 u6]) rfl (by kernel_rfl) (by kernel_rfl) (by kernel_rfl) (fun _ _ _ h => h) (Or.inl ⟨by rfl, ?_⟩) (by assumption) ?_
                  · intro w1 hSw; (try dsimp only at hSw); go_simp
                  simp only [Act.put, List.getElem_toArray, List.getElem_cons_succ, List.getElem_cons_zero, List.setIfInBounds_toArray, List.set_cons_zero, List.set_cons_succ]
                  refine wpAnyH_take (i := 3) (v := .pointer (some ⟨r, 0, none⟩)) rfl (by kernel_rfl) (by kernel_rfl) (by kernel_rfl) (fun _ _ _ h => h) (Or.inl ⟨by rfl, ?_⟩) (by assumption) ?_
                  · intro w1 hSw; (try dsimp only at hSw); go_simp
                  simp only [Act.put, List.getElem_toArray, List.getElem_cons_succ, List.getElem_cons_zero, List.setIfInBounds_toArray, List.set_cons_zero, List.set_cons_succ]
                  refine wpAnyH_take (i := 4) (v := .pointer (some ⟨r, 0, none⟩)) rfl (by kernel_rfl) (by kernel_rfl) (by kernel_rfl) (fun _ _ _ h => h) (Or.inl ⟨by rfl, ?_⟩) (by assumption) ?_
                  · intro w1 hSw; (try dsimp only at hSw); go_simp
                  simp only [Act.put, List.getElem_toArray, List.getElem_cons_succ, List.getElem_cons_zero, List.setIfInBounds_toArray, List.set_cons_zero, List.set_cons_succ]
                  refine wpAnyH_take (i := 5) (v := .pointer (some ⟨r, 0, none⟩)) rfl (by kernel_rfl) (by kernel_rfl) (by kernel_rfl) (fun _ _ _ h => h) (Or.inl ⟨by rfl, ?_⟩) (by assumption) ?_
                  · intro w1 hSw; (try dsimp only at hSw); go_simp
                  simp only [Act.put, List.getElem_toArray, List.getElem_cons_succ, List.getElem_cons_zero, List.setIfInBounds_toArray, List.set_cons_zero, List.set_cons_succ]
                  refine wpAnyH_take (i := 6) (v := .slice (some ⟨bl, 0, none⟩) n c) rfl (by kernel_rfl) (by kernel_rfl) (by kernel_rfl) (fun _ _ _ h => h) (Or.inl ⟨by rfl, ?_⟩) (by assumption) ?_
                  · intro w1 hSw; (try dsimp only at hSw); go_simp
                  simp only [Act.put, List.getElem_toArray, List.getElem_cons_succ, List.getElem_cons_zero, List.setIfInBounds_toArray, List.set_cons_zero, List.set_cons_succ]
                  refine wpAnyH_take (i := 7) (v := .int .i64 (n : Nat)) rfl (by kernel_rfl) (by kernel_rfl) (by kernel_rfl) (fun _ _ _ h => h) (Or.inl ⟨by rfl, ?_⟩) (by assumption) ?_
                  · intro w1 hSw; (try dsimp only at hSw); go_simp
                  simp only [Act.put, List.getElem_toArray, List.getElem_cons_succ, List.getElem_cons_zero, List.setIfInBounds_toArray, List.set_cons_zero, List.set_cons_succ]
                  refine wpAnyH_ready (rs := [8]) (by kernel_rfl) (by simp) ?_
                  refine AllReadyH.cons rfl (fun K hK => ?_) AllReadyH.nil
                  go_simp
                  go_at_call 22
                  refine (HCK.out _).mono ?_
                  rintro e w7 ⟨rfl, hg⟩
                  have HG1 := Lib.hid (HD0.out.trans hg)
                  clear hg
                  refine hK.out _ _ (HKEEP.out _ HG1.out) (fun hHeld => ?_)
                  clear hK K
                  refine wpAnyH_take (i := 9) (v := .bool true) rfl (by kernel_rfl) (by kernel_rfl) (by kernel_rfl) (fun _ _ _ h => h) (Or.inl ⟨by rfl, ?_⟩) (by assumption) ?_
                  · intro w1 hSw; (try dsimp only at hSw); go_simp
                  simp only [Act.put, List.getElem_toArray, List.getElem_cons_succ, List.getElem_cons_zero, List.setIfInBounds_toArray, List.set_cons_zero, List.set_cons_succ]
                  refine wpAnyH_take (i := 10) (v := .bool true) rfl (by kernel_rfl) (by kernel_rfl) (by kernel_rfl) (fun _ _ _ h => h) (Or.inl ⟨by rfl, ?_⟩) (by assumption) ?_
                  · intro w1 hSw; (try dsimp only at hSw); go_simp
                  simp only [Act.put, List.getElem_toArray, List.getElem_cons_succ, List.getElem_cons_zero, List.setIfInBounds_toArray, List.set_cons_zero, List.set_cons_succ]
                  refine wpAnyH_take (i := 11) (v := .bool true) rfl (by kernel_rfl) (by kernel_rfl) (by kernel_rfl) (fun _ _ _ h => h) (Or.inl ⟨by rfl, ?_⟩) (by assumption) ?_
                  · intro w1 hSw; (try dsimp only at hSw); go_simp
                  simp only [Act.put, List.getElem_toArray, List.getElem_cons_succ, List.getElem_cons_zero, List.setIfInBounds_toArray, List.set_cons_zero, List.set_cons_succ]
                  refine wpAnyH_take (i := 12) (v := .pointer (some ⟨w5.heap.size, 0, none⟩)) rfl (by kernel_rfl) (by kernel_rfl) (by kernel_rfl) (fun _ _ _ h => h) (Or.inl ⟨by rfl, ?_⟩) (by assumption) ?_
                  · intro w1 hSw; (try dsimp only at hSw); go_simp
                  simp only [Act.put, List.getElem_toArray, List.getElem_cons_succ, List.getElem_cons_zero, List.setIfInBounds_toArray, List.set_cons_zero, List.set_cons_succ]
                  refine wpAnyH_take (i := 13) (v := .int .i64 u0) rfl (by kernel_rfl) (by kernel_rfl) (by kernel_rfl) (fun _ _ _ h => h) (Or.inl ⟨by rfl, ?_⟩) (by assumption) ?_
                  · intro w1 hSw; (try dsimp only at hSw); go_simp
                  simp only [Act.put, List.getElem_toArray, List.getElem_cons_succ, List.getElem_cons_zero, List.setIfInBounds_toArray, List.set_cons_zero, List.set_cons_succ]
                  refine wpAnyH_take (i := 14) (v := .int .i64 pq) rfl (by kernel_rfl) (by kernel_rfl) (by kernel_rfl) (fun _ _ _ h => h) (Or.inl ⟨by rfl, ?_⟩) (by assumption) ?_
                  · intro w1 hSw; (try dsimp only at hSw); go_simp
                  simp only [Act.put, List.getElem_toArray, List.getElem_cons_succ, List.getElem_cons_zero, List.setIfInBounds_toArray, List.set_cons_zero, List.set_cons_succ]
                  refine wpAnyH_take (i := 15) (v := .int .i64 j) rfl (by kernel_rfl) (by kernel_rfl) (by kernel_rfl) (fun _ _ _ h => h) (Or.inl ⟨by rfl, ?_⟩) (by assumption) ?_
                  · intro w1 hSw; (try dsimp only at hSw); go_simp
                  simp only [Act.put, List.getElem_toArray, List.getElem_cons_succ, List.getElem_cons_zero, List.setIfInBounds_toArray, List.set_cons_zero, List.set_cons_succ]
                  refine wpAnyH_take (i := 16) (v := .bool true) rfl (by kernel_rfl) (by kernel_rfl) (by kernel_rfl) (fun _ _ _ h => h) (Or.inl ⟨by rfl, ?_⟩) (by assumption) ?_
                  · intro w1 hSw; (try dsimp only at hSw); go_simp
                  simp only [Act.put, List.getElem_toArray, List.getElem_cons_succ, List.getElem_cons_zero, List.setIfInBounds_toArray, List.set_cons_zero, List.set_cons_succ]
                  refine wpAnyH_take (i := 17) (v := .bool true) rfl (by kernel_rfl) (by kernel_rfl) (by kernel_rfl) (fun _ _ _ h => h) (Or.inl ⟨by rfl, ?_⟩) (by assumption) ?_
                  · intro w1 hSw; (try dsimp only at hSw); go_simp
                  simp only [Act.put, List.getElem_toArray, List.getElem_cons_succ, List.getElem_cons_zero, List.setIfInBounds_toArray, List.set_cons_zero, List.set_cons_succ]
                  refine wpAnyH_take (i := 18) (v := .bool true) rfl (by kernel_rfl) (by kernel_rfl) (by kernel_rfl) (fun _ _ _ h => h) (Or.inl ⟨by rfl, ?_⟩) (by assumption) ?_
                  · intro w1 hSw; (try dsimp only at hSw); go_simp
                  simp only [Act.put, List.getElem_toArray, List.getElem_cons_succ, List.getElem_cons_zero, List.setIfInBounds_toArray, List.set_cons_zero, List.set_cons_succ]
                  refine wpAnyH_take (i := 19) (v := .bool true) rfl (by kernel_rfl) (by kernel_rfl) (by kernel_rfl) (fun _ _ _ h => h) (Or.inl ⟨by rfl, ?_⟩) (by assumption) ?_
                  · intro w1 hSw; (try dsimp only at hSw); go_simp
                  simp only [Act.put, List.getElem_toArray, List.getElem_cons_succ, List.getElem_cons_zero, List.setIfInBounds_toArray, List.set_cons_zero, List.set_cons_succ]
                  refine wpAnyH_take (i := 20) (v := .bool false) rfl (by kernel_rfl) (by kernel_rfl) (by kernel_rfl) (fun _ _ _ h => h) (Or.inl ⟨by rfl, ?_⟩) (by assumption) ?_
                  · intro w1 hSw; (try dsimp only at hSw); go_simp
                  simp only [Act.put, List.getElem_toArray, List.getElem_cons_succ, List.getElem_cons_zero, List.setIfInBounds_toArray, List.set_cons_zero, List.set_cons_succ]
                  refine wpAnyH_take (i := 21) (v := .bool false) rfl (by kernel_rfl) (by kernel_rfl) (by kernel_rfl) (fun _ _ _ h => h) (Or.inl ⟨by rfl, ?_⟩) (by assumption) ?_
                  · intro w1 hSw; (try dsimp only at hSw); go_simp
                  simp only [Act.put, List.getElem_toArray, List.getElem_cons_succ, List.getElem_cons_zero, List.setIfInBounds_toArray, List.set_cons_zero, List.set_cons_succ]
                  refine wpAnyH_take (i := 22) (v := .pointer (some ⟨w5.heap.size, 0, none⟩)) rfl (by kernel_rfl) (by kernel_rfl) (by kernel_rfl) (fun _ _ _ h => h) (Or.inl ⟨by rfl, ?_⟩) (by assumption) ?_
                  · intro w1 hSw; (try dsimp only at hSw); go_simp
                  simp only [Act.put, List.getElem_toArray, List.getElem_cons_succ, List.getElem_cons_zero, List.setIfInBounds_toArray, List.set_cons_zero, List.set_cons_succ]
                  refine wpAnyH_take (i := 23) (v := .int .i64 u0) rfl (by kernel_rfl) (by kernel_rfl) (by kernel_rfl) (fun _ _ _ h => h) (Or.inl ⟨by rfl, ?_⟩) (by assumption) ?_
                  · intro w1 hSw; (try dsimp only at hSw); go_simp
                  simp only [Act.put, List.getElem_toArray, List.getElem_cons_succ, List.getElem_cons_zero, List.setIfInBounds_toArray, List.set_cons_zero, List.set_cons_succ]
                  refine wpAnyH_take (i := 24) (v := .pointer (some ⟨w.heap.size + 1, 0, none⟩)) rfl (by kernel_rfl) (by kernel_rfl) (by kernel_rfl) (fun _ _ _ h => h) (Or.inl ⟨by rfl, ?_⟩) (by assumption) ?_
                  · intro w1 hSw; (try dsimp only at hSw); go_simp
                  simp only [Act.put, List.getElem_toArray, List.getElem_cons_succ, List.getElem_cons_zero, List.setIfInBounds_toArray, List.set_cons_zero, List.set_cons_succ]
                  refine wpAnyH_take (i := 25) (v := .int .i64 p0) rfl (by kernel_rfl) (by kernel_rfl) (by kernel_rfl) (fun _ _ _ h => h) (Or.inl ⟨by rfl, ?_⟩) (by assumption) ?_
                  · intro w1 hSw; (try dsimp only at hSw); go_simp
                  simp only [Act.put, List.getElem_toArray, List.getElem_cons_succ, List.getElem_cons_zero, List.setIfInBounds_toArray, List.set_cons_zero, List.set_cons_succ]
                  refine wpAnyH_take (i := 26) (v := .bool false) rfl (by kernel_rfl) (by kernel_rfl) (by kernel_rfl) (fun _ _ _ h => h) (Or.inl ⟨by rfl, ?_⟩) (by assumption) ?_
                  · intro w1 hSw; (try dsimp only at hSw); go_simp
                  simp only [Act.put, List.getElem_toArray, List.getElem_cons_succ, List.getElem_cons_zero, List.setIfInBounds_toArray, List.set_cons_zero, List.set_cons_succ]
                  refine wpAnyH_take (i := 27) (v := .bool false) rfl (by kernel_rfl) (by kernel_rfl) (by kernel_rfl) (fun _ _ _ h => h) (Or.inl ⟨by rfl, ?_⟩) (by assumption) ?_
                  · intro w1 hSw; (try dsimp only at hSw); go_simp
                  simp only [Act.put, List.getElem_toArray, List.getElem_cons_succ, List.getElem_cons_zero, List.setIfInBounds_toArray, List.set_cons_zero, List.set_cons_succ]
                  refine wpAnyH_take (i := 28) (v := .bool false) rfl (by kernel_rfl) (by kernel_rfl) (by kernel_rfl) (fun _ _ _ h => h) (Or.inl ⟨by rfl, ?_⟩) (by assumption) ?_
                  · intro w1 hSw; (try dsimp only at hSw); go_simp
                  simp only [Act.put, List.getElem_toArray, List.getElem_cons_succ, List.getElem_cons_zero, List.setIfInBounds_toArray, List.set_cons_zero, List.set_cons_succ]
                  refine wpAnyH_done (by kernel_rfl) ?_ _
                  refine NoPanic.normal ?_
                  go_wp2
                  go_roundw
                  case rel => exact ⟨j + 1, by omega, by go_num, by rw [HO1.out, HO.out]; rfl, rfl, HLD6.out.quiet HG1.out, by rw [HO1.out, HO.out]; exact HX9.out.grown HG1.out (by simp)⟩
                  case measure => simp [Go.RowKit.intOf]; omega
            · have HO := Lib.hid (show o' = o by rw [HSTEP.out, HSO.out, decide_eq_false hpj]; exact newer_none o)
              have hdj : decide (pq = (j : Int)) = false := decide_eq_false hpj
              have HKEEP := HKEEP0
              clear HSO HSTEP HKEEP0
              go_wp2_with fail
              refine wp_region_noPanic ?_
              refine wp_region_held_drew (S := fun wx => wx.cell? ⟨w5.heap.size, 0, none⟩ = some (.int .i64 u0) ∧ wx.cell? ⟨w5.heap.size, 1, none⟩ = some (.int .i64 u1) ∧ wx.cell? ⟨w5.heap.size, 2, none⟩ = some (.int .i64 u2) ∧ wx.cell? ⟨w5.heap.size, 3, none⟩ = some (.int .i64 u3) ∧ wx.cell? ⟨w5.heap.size, 4, none⟩ = some (.int .i64 u4) ∧ wx.cell? ⟨w5.heap.size, 5, none⟩ = some (.int .i64 u5) ∧ wx.cell? ⟨w5.heap.size, 6, none⟩ = some (.int .i64 u6) ∧ wx.cell? ⟨r, 0, none⟩ = some (.slice (some ⟨bl, 0, none⟩) n c)) (by kernel_rfl) (HKEEP.out _ HD0.out) (fun hHeld => ?_)
              refine wpAnyH_take (i := 0) (v := .bool true) rfl (by kernel_rfl) (by kernel_rfl) (by kernel_rfl) (fun _ _ _ h => h) (Or.inl ⟨by rfl, ?_⟩) (by assumption) ?_
              · intro w1 hSw; (try dsimp only at hSw); go_simp
              simp only [Act.put, List.getElem_toArray, List.getElem_cons_zero, List.setIfInBounds_toArray, List.set_cons_zero, List.set_cons_succ]
              refine wpAnyH_take (i := 1) (v := .bool true) rfl (by kernel_rfl) (by kernel_rfl) (by kernel_rfl) (fun _ _ _ h => h) (Or.inl ⟨by rfl, ?_⟩) (by assumption) ?_
              · intro w1 hSw; (try dsimp only at hSw); go_simp
              simp only [Act.put, List.getElem_toArray, List.getElem_cons_succ, List.getElem_cons_zero, List.setIfInBounds_toArray, List.set_cons_zero, List.set_cons_succ]
              refine wpAnyH_take (i := 2) (v := .agg #[.int .i64 u0, .int .i64 u1, .int .i64 u2, .int .i64 u3, .int .i64 u4, .int .i64 u5, .int .i64 u6]) rfl (by kernel_rfl) (by kernel_rfl) (by kernel_rfl) (fun _ _ _ h => h) (Or.inl ⟨by rfl, ?_⟩) (by assumption) ?_
              · intro w1 hSw; (try dsimp only at hSw); go_simp
              simp only [Act.put, List.getElem_toArray, List.getElem_cons_succ, List.getElem_cons_zero, List.setIfInBounds_toArray, List.set_cons_zero, List.set_cons_succ]
              refine wpAnyH_take (i := 3) (v := .pointer (some ⟨r, 0, none⟩)) rfl (by kernel_rfl) (by kernel_rfl) (by kernel_rfl) (fun _ _ _ h => h) (Or.inl ⟨by rfl, ?_⟩) (by assumption) ?_
              · intro w1 hSw; (try dsimp only at hSw); go_simp
              simp only [Act.put, List.getElem_toArray, List.getElem_cons_succ, List.getElem_cons_zero, List.setIfInBounds_toArray, List.set_cons_zero, List.set_cons_succ]
              refine wpAnyH_take (i := 4) (v := .pointer (some ⟨r, 0, none⟩)) rfl (by kernel_rfl) (by kernel_rfl) (by kernel_rfl) (fun _ _ _ h => h) (Or.inl ⟨by rfl, ?_⟩) (by assumption) ?_
              · intro w1 hSw; (try dsimp only at hSw); go_simp
              simp only [Act.put, List.getElem_toArray, List.getElem_cons_succ, List.getElem_cons_zero, List.setIfInBounds_toArray, List.set_cons_zero, List.set_cons_succ]
              refine wpAnyH_take (i := 5) (v := .pointer (some ⟨r, 0, none⟩)) rfl (by kernel_rfl) (by kernel_rfl) (by kernel_rfl) (fun _ _ _ h => h) (Or.inl ⟨by rfl, ?_⟩) (by assumption) ?_
              · intro w1 hSw; (try dsimp only at hSw); go_simp
              simp only [Act.put, List.getElem_toArray, List.getElem_cons_succ, List.getElem_cons_zero, List.setIfInBounds_toArray, List.set_cons_zero, List.set_cons_succ]
              refine wpAnyH_take (i := 6) (v := .slice (some ⟨bl, 0, none⟩) n c) rfl (by kernel_rfl) (by kernel_rfl) (by kernel_rfl) (fun _ _ _ h => h) (Or.inl ⟨by rfl, ?_⟩) (by assumption) ?_
              · intro w1 hSw; (try dsimp only at hSw); go_simp
              simp only [Act.put, List.getElem_toArray, List.getElem_cons_succ, List.getElem_cons_zero, List.setIfInBounds_toArray, List.set_cons_zero, List.set_cons_succ]
              refine wpAnyH_take (i := 7) (v := .int .i64 (n : Nat)) rfl (by kernel_rfl) (by kernel_rfl) (by kernel_rfl) (fun _ _ _ h => h) (Or.inl ⟨by rfl, ?_⟩) (by assumption) ?_
              · intro w1 hSw; (try dsimp only at hSw); go_simp
              simp only [Act.put, List.getElem_toArray, List.getElem_cons_succ, List.getElem_cons_zero, List.setIfInBounds_toArray, List.set_cons_zero, List.set_cons_succ]
              refine wpAnyH_ready (rs := [8]) (by kernel_rfl) (by simp) ?_
              refine AllReadyH.cons rfl (fun K hK => ?_) AllReadyH.nil
              go_simp
              go_at_call 22
              refine (HCK.out _).mono ?_
              rintro e w7 ⟨rfl, hg⟩
              have HG1 := Lib.hid (HD0.out.trans hg)
              clear hg
              refine hK.out _ _ (HKEEP.out _ HG1.out) (fun hHeld => ?_)
              clear hK K
              refine wpAnyH_take (i := 9) (v := .bool true) rfl (by kernel_rfl) (by kernel_rfl) (by kernel_rfl) (fun _ _ _ h => h) (Or.inl ⟨by rfl, ?_⟩) (by assumption) ?_
              · intro w1 hSw; (try dsimp only at hSw); go_simp
              simp only [Act.put, List.getElem_toArray, List.getElem_cons_succ, List.getElem_cons_zero, List.setIfInBounds_toArray, List.set_cons_zero, List.set_cons_succ]
              refine wpAnyH_take (i := 10) (v := .bool true) rfl (by kernel_rfl) (by kernel_rfl) (by kernel_rfl) (fun _ _ _ h => h) (Or.inl ⟨by rfl, ?_⟩) (by assumption) ?_
              · intro w1 hSw; (try dsimp only at hSw); go_simp
              simp only [Act.put, List.getElem_toArray, List.getElem_cons_succ, List.getElem_cons_zero, List.setIfInBounds_toArray, List.set_cons_zero, List.set_cons_succ]
              refine wpAnyH_take (i := 11) (v := .bool true) rfl (by kernel_rfl) (by kernel_rfl) (by kernel_rfl) (fun _ _ _ h => h) (Or.inl ⟨by rfl, ?_⟩) (by assumption) ?_
              · intro w1 hSw; (try dsimp only at hSw); go_simp
              simp only [Act.put, List.getElem_toArray, List.getElem_cons_succ, List.getElem_cons_zero, List.setIfInBounds_toArray, List.set_cons_zero, List.set_cons_succ]
              refine wpAnyH_take (i := 12) (v := .pointer (some ⟨w5.heap.size, 0, none⟩)) rfl (by kernel_rfl) (by kernel_rfl) (by kernel_rfl) (fun _ _ _ h => h) (Or.inl ⟨by rfl, ?_⟩) (by assumption) ?_
              · intro w1 hSw; (try dsimp only at hSw); go_simp
              simp only [Act.put, List.getElem_toArray, List.getElem_cons_succ, List.getElem_cons_zero, List.setIfInBounds_toArray, List.set_cons_zero, List.set_cons_succ]
              refine wpAnyH_take (i := 13) (v := .int .i64 u0) rfl (by kernel_rfl) (by kernel_rfl) (by kernel_rfl) (fun _ _ _ h => h) (Or.inl ⟨by rfl, ?_⟩) (by assumption) ?_
              · intro w1 hSw; (try dsimp only at hSw); go_simp
              simp only [Act.put, List.getElem_toArray, List.getElem_cons_succ, List.getElem_cons_zero, List.setIfInBounds_toArray, List.set_cons_zero, List.set_cons_succ]
              refine wpAnyH_take (i := 14) (v := .int .i64 pq) rfl (by kernel_rfl) (by kernel_rfl) (by kernel_rfl) (fun _ _ _ h => h) (Or.inl ⟨by rfl, ?_⟩) (by assumption) ?_
              · intro w1 hSw; (try dsimp only at hSw); go_simp
              simp only [Act.put, List.getElem_toArray, List.getElem_cons_succ, List.getElem_cons_zero, List.setIfInBounds_toArray, List.set_cons_zero, List.set_cons_succ]
              refine wpAnyH_take (i := 15) (v := .int .i64 j) rfl (by kernel_rfl) (by kernel_rfl) (by kernel_rfl) (fun _ _ _ h => h) (Or.inl ⟨by rfl, ?_⟩) (by assumption) ?_
              · intro w1 hSw; (try dsimp only at hSw); go_simp
              simp only [Act.put, List.getElem_toArray, List.getElem_cons_succ, List.getElem_cons_zero, List.setIfInBounds_toArray, List.set_cons_zero, List.set_cons_succ]
              refine wpAnyH_take (i := 16) (v := .bool false) rfl (by kernel_rfl) (by kernel_rfl) (by kernel_rfl) (fun _ _ _ h => h) (Or.inl ⟨by rfl, ?_⟩) (by assumption) ?_
              · intro w1 hSw; (try dsimp only at hSw); go_simp
              simp only [Act.put, List.getElem_toArray, List.getElem_cons_succ, List.getElem_cons_zero, List.setIfInBounds_toArray, List.set_cons_zero, List.set_cons_succ]
              refine wpAnyH_take (i := 17) (v := .bool false) rfl (by kernel_rfl) (by kernel_rfl) (by kernel_rfl) (fun _ _ _ h => h) (Or.inl ⟨by rfl, ?_⟩) (by assumption) ?_
              · intro w1 hSw; (try dsimp only at hSw); go_simp
              simp only [Act.put, List.getElem_toArray, List.getElem_cons_succ, List.getElem_cons_zero, List.setIfInBounds_toArray, List.set_cons_zero, List.set_cons_succ]
              refine wpAnyH_take (i := 18) (v := .bool false) rfl (by kernel_rfl) (by kernel_rfl) (by kernel_rfl) (fun _ _ _ h => h) (Or.inl ⟨by rfl, ?_⟩) (by assumption) ?_
              · intro w1 hSw; (try dsimp only at hSw); go_simp
              simp only [Act.put, List.getElem_toArray, List.getElem_cons_succ, List.getElem_cons_zero, List.setIfInBounds_toArray, List.set_cons_zero, List.set_cons_succ]
              refine wpAnyH_take (i := 19) (v := undef) rfl (by kernel_rfl) (by kernel_rfl) (by kernel_rfl) (fun _ _ _ h => h) (Or.inr ⟨by rfl, rfl⟩) (by assumption) ?_
              simp only [Act.put, List.getElem_toArray, List.getElem_cons_succ, List.getElem_cons_zero, List.setIfInBounds_toArray, List.set_cons_zero, List.set_cons_succ]
              refine wpAnyH_take (i := 20) (v := undef) rfl (by kernel_rfl) (by kernel_rfl) (by kernel_rfl) (fun _ _ _ h => h) (Or.inr ⟨by rfl, rfl⟩) (by assumption) ?_
              simp only [Act.put, List.getElem_toArray, List.getElem_cons_succ, List.getElem_cons_zero, List.setIfInBounds_toArray, List.set_cons_zero, List.set_cons_succ]
              refine wpAnyH_take (i := 21) (v := undef) rfl (by kernel_rfl) (by kernel_rfl) (by kernel_rfl) (fun _ _ _ h => h) (Or.inr ⟨by rfl, rfl⟩) (by assumption) ?_
              simp only [Act.put, List.getElem_toArray, List.getElem_cons_succ, List.getElem_cons_zero, List.setIfInBounds_toArray, List.set_cons_zero, List.set_cons_succ]
              refine wpAnyH_take (i := 22) (v := undef) rfl (by kernel_rfl) (by kernel_rfl) (by kernel_rfl) (fun _ _ _ h => h) (Or.inr ⟨by rfl, rfl⟩) (by assumption) ?_
              simp only [Act.put, List.getElem_toArray, List.getElem_cons_succ, List.getElem_cons_zero, List.setIfInBounds_toArray, List.set_cons_zero, List.set_cons_succ]
              refine wpAnyH_take (i := 23) (v := undef) rfl (by kernel_rfl) (by kernel_rfl) (by kernel_rfl) (fun _ _ _ h => h) (Or.inr ⟨by rfl, rfl⟩) (by assumption) ?_
              simp only [Act.put, List.getElem_toArray, List.getElem_cons_succ, List.getElem_cons_zero, List.setIfInBounds_toArray, List.set_cons_zero, List.set_cons_succ]
              refine wpAnyH_take (i := 24) (v := undef) rfl (by kernel_rfl) (by kernel_rfl) (by kernel_rfl) (fun _ _ _ h => h) (Or.inr ⟨by rfl, rfl⟩) (by assumption) ?_
              simp only [Act.put, List.getElem_toArray, List.getElem_cons_succ, List.getElem_cons_zero, List.setIfInBounds_toArray, List.set_cons_zero, List.set_cons_succ]
              refine wpAnyH_take (i := 25) (v := undef) rfl (by kernel_rfl) (by kernel_rfl) (by kernel_rfl) (fun _ _ _ h => h) (Or.inr ⟨by rfl, rfl⟩) (by assumption) ?_
              simp only [Act.put, List.getElem_toArray, List.getElem_cons_succ, List.getElem_cons_zero, List.setIfInBounds_toArray, List.set_cons_zero, List.set_cons_succ]
              refine wpAnyH_take (i := 26) (v := undef) rfl (by kernel_rfl) (by kernel_rfl) (by kernel_rfl) (fun _ _ _ h => h) (Or.inr ⟨by rfl, rfl⟩) (by assumption) ?_
              simp only [Act.put, List.getElem_toArray, List.getElem_cons_succ, List.getElem_cons_zero, List.setIfInBounds_toArray, List.set_cons_zero, List.set_cons_succ]
              refine wpAnyH_take (i := 27) (v := undef) rfl (by kernel_rfl) (by kernel_rfl) (by kernel_rfl) (fun _ _ _ h => h) (Or.inr ⟨by rfl, rfl⟩) (by assumption) ?_
              simp only [Act.put, List.getElem_toArray, List.getElem_cons_succ, List.getElem_cons_zero, List.setIfInBounds_toArray, List.set_cons_zero, List.set_cons_succ]
              refine wpAnyH_take (i := 28) (v := .bool false) rfl (by kernel_rfl) (by kernel_rfl) (by kernel_rfl) (fun _ _ _ h => h) (Or.inl ⟨by rfl, ?_⟩) (by assumption) ?_
              · intro w1 hSw; (try dsimp only at hSw); go_simp
              simp only [Act.put, List.getElem_toArray, List.getElem_cons_succ, List.getElem_cons_zero, List.setIfInBounds_toArray, List.set_cons_zero, List.set_cons_succ]
              refine wpAnyH_done (by kernel_rfl) ?_ _
              refine NoPanic.normal ?_
              go_wp2
              go_roundw
              case rel => exact ⟨j + 1, by omega, by go_num, by rw [HO1.out, HO.out], rfl, HLD6.out.quiet HG1.out, by rw [HO1.out, HO.out]; exact HX6.out.grown HG1.out (by simp)⟩
              case measure => simp [Go.RowKit.intOf]; omega
    · obtain rfl : j = 2 := by omega
      have hlenb := seen_len (n : Int) (LX 0) (LX 1) 2
      have HLD := Lib.hid hld
      have hR := hld.rs
      have x0 := hR.cell 0; have x1 := hR.cell 1; have x2 := hR.cell 2; have x3 := hR.cell 3; have x4 := hR.cell 4; have x5 := hR.cell 5; have x6 := hR.cell 6
      simp only [List.getElem?_toArray, List.getElem?_cons_zero, List.getElem?_cons_succ] at x0 x1 x2 x3 x4 x5 x6
      have f0 := hR.frozen 0; have f1 := hR.frozen 1; have f2 := hR.frozen 2; have f3 := hR.frozen 3; have f4 := hR.frozen 4; have f5 := hR.frozen 5; have f6 := hR.frozen 6
      clear hld
      generalize seen (n : Int) (LX 0) (LX 1) 2 = best at *
      generalize FX 2 = f2 at *
      generalize SX 2 = S2 at *
      cases f2 with
      | true =>
        have HE := Lib.hid (show LE = 10 from HEV.out); have HV := Lib.hid (show LV = zero7' from HVV.out)
        clear HEV HVV hlenb hx
        go_wp2_with fail
        refine ret_row2 rfl w.heap.size 34 _ _ rfl (Blk.set7 HLD.out.rs) Tryz.underlying34 rfl (by kernel_rfl) rfl ⟨?_, ?_⟩
        · rw [HE.out, HV.out]; first | done | rfl
        · rw [HTT.out]; exact rfin_set7 HL.out ⟨HLD.out.d, HLD.out.t⟩
      | false =>
        cases best with
        | none =>
          have HE := Lib.hid (show LE = 14 from HEV.out); have HV := Lib.hid (show LV = zero7' from HVV.out)
          clear HEV HVV hlenb hx
          go_wp2_with fail
          refine ret_row2 rfl w.heap.size 34 _ _ rfl (Blk.set7 HLD.out.rs) Tryz.underlying34 rfl (by kernel_rfl) rfl ⟨?_, ?_⟩
          · rw [HE.out, HV.out]; first | done | rfl
          · rw [HTT.out]; exact rfin_set7 HL.out ⟨HLD.out.d, HLD.out.t⟩
        | some pp =>
          obtain ⟨p0, p1, p2, p3, p4, p5, p6, rfl⟩ := list7 (hlenb pp rfl)
          have HE := Lib.hid (show LE = 0 from HEV.out); have HV := Lib.hid (show LV = [p0, p1, p2, p3, p4, p5, p6] from HVV.out)
          have hx' : Blk wr (w.heap.size + 1) 34 #[.int .i64 p0, .int .i64 p1, .int .i64 p2, .int .i64 p3, .int .i64 p4, .int .i64 p5, .int .i64 p6] := hx
          have y0 := hx'.cell 0; have y1 := hx'.cell 1; have y2 := hx'.cell 2; have y3 := hx'.cell 3; have y4 := hx'.cell 4; have y5 := hx'.cell 5; have y6 := hx'.cell 6
          simp only [List.getElem?_toArray, List.getElem?_cons_zero, List.getElem?_cons_succ] at y0 y1 y2 y3 y4 y5 y6
          clear HEV HVV hlenb hx hx'
          go_wp2_with fail
          refine ret_row2 rfl w.heap.size 34 _ _ rfl (Blk.set7 HLD.out.rs) Tryz.underlying34 rfl (by kernel_rfl) rfl ⟨?_, ?_⟩
          · rw [HE.out, HV.out]; first | done | rfl
          · rw [HTT.out]; exact rfin_set7 HL.out ⟨HLD.out.d, HLD.out.t⟩
theorem ref_load_any {w : World} {B r : Nat} {S : St} {own : Nat → Prop} (h : RAt w B r S own) :
    Calls Tryz.prog 11 #[.pointer (some ⟨r, 0, none⟩)] w fun e w' =>
      e = .returned (.tuple #[supV (loadV S), .int .i64 (loadE S)]) ∧ RAt w' B r (loadT S) own ∧ Turn w w' own own := by
  by_cases h2 : S.n < 2
  · exact ref_load_small h h2
  · exact ref_load_big h h2
end Go.Proofs.YtagikgejhckfbaaGreat.Sup
