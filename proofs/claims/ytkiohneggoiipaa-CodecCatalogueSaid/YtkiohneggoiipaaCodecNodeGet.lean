/- The project's GetNode. -/
import Derived.Test.YtkiohneggoiipaaCodecNodePut
import Derived.Test.YtkiohneggoiipaaCodecPageGet
namespace Go.Proofs.Ytkiohneggoiipaa.Codec
open Go.RowKit CrcMath CodecMath Mem Crc

/-- Where the project's GetNode stands when j keys are read: U the node, P the cursor over the array G, Z the result's own block. -/
structure Nd (w W : World) (P G U Z : Nat) (l : List Nat) (lf : Bool) (j i : Nat) (vk vv : Value) : Prop where
  grown : w.grownBy W none
  box : Blk W U 62 #[.bool lf, vk, vv]
  zero : Blk W Z 62 #[.bool false, .slice none 0 0, .slice none 0 0]
  arr : Blk W G 126 (u8s l).toArray
  keys : Own W (U + 1) 3 1 vk j (i64s (numsAt l 2 6 4 j))
  vals : Own W (U + 1) 3 1 vv i (i64s (numsAt l 6 6 2 i))
  apart : ∀ g, vk.ownBlock = some g → vv.ownBlock ≠ some g
theorem Nd.drew {w W : World} {P G U Z : Nat} {l : List Nat} {lf : Bool} {j i : Nat} {vk vv : Value} (h : Nd w W P G U Z l lf j i vk vv) : Nd w W.drew P G U Z l lf j i vk vv :=
  ⟨h.grown.trans (grown_drew _ none), h.box, h.zero, h.arr, h.keys, h.vals, h.apart⟩
/-- The cursor is moved. -/
theorem Nd.move {w W W1 : World} {P G U Z : Nat} {l : List Nat} {lf : Bool} {j i : Nat} {vk vv : Value} (h : Nd w W P G U Z l lf j i vk vv) (hr : W.grownBy W1 (some P)) (h1 : w.heap.size ≤ P) (h2 : P < U) (h3 : P ≠ G) (h4 : P ≠ Z) : Nd w W1 P G U Z l lf j i vk vv where
  grown := grownBy_new h.grown hr (fun j hj => by cases hj; exact h1)
  box := h.box.grown hr (by simp; omega)
  zero := h.zero.grown hr (by simp; omega)
  arr := h.arr.grown hr (by simp; omega)
  keys := h.keys.keep hr (fun q hq e => by injection e with e; have := (h.keys.base_ q hq).1; omega)
  vals := h.vals.keep hr (fun q hq e => by injection e with e; have := (h.vals.base_ q hq).1; omega)
  apart := h.apart
theorem Nd.alloc {w W : World} {P G U Z : Nat} {l : List Nat} {lf : Bool} {j i : Nat} {vk vv : Value} (h : Nd w W P G U Z l lf j i vk vv) (o : Obj) : Nd w (W.alloc o) P G U Z l lf j i vk vv :=
  ⟨h.grown.trans (World.grownBy_alloc W o none), h.box.alloc o, h.zero.alloc o, h.arr.alloc o, h.keys.alloc o, h.vals.alloc o, h.apart⟩
/-- A key is appended. -/
theorem Nd.key {w W W1 : World} {P G U Z : Nat} {l : List Nat} {lf : Bool} {j i : Nat} {vk vv vk' : Value} (h : Nd w W P G U Z l lf j i vk vv) (hg : Grew W W1 vk vk') (ho : Own W1 (U + 1) 3 1 vk' (j + 1) (i64s (numsAt l 2 6 4 j) ++ [.int .i64 (num l (2 + 6 * j) 4 : Nat)]))
    (h2 : w.heap.size ≤ U) (h3 : G < U) (h4 : Z < U) : Nd w (W1.setCell ⟨U, 1, none⟩ vk') P G U Z l lf (j + 1) i vk' vv where
  grown := grown_set (grownBy_new h.grown hg.1 (fun q hq => by have := (h.keys.base_ q hq).1; omega)) h2 _
  box := (h.box.grown hg.1 (fun e => by have := (h.keys.base_ _ e.symm).1; omega)).set_ 1 _
  zero := (h.zero.grown hg.1 (fun e => by have := (h.keys.base_ _ e.symm).1; omega)).far (by simp; omega) _
  arr := (h.arr.grown hg.1 (fun e => by have := (h.keys.base_ _ e.symm).1; omega)).far (by simp; omega) _
  keys := by
    have h5 := Own.set_far (g := U) (i := 1) ho (by omega) vk'
    rw [numsAt_succ, i64s_append]
    exact h5
  vals := Own.set_far (h.vals.keep hg.1 (fun q hq e => h.apart q e hq)) (by omega) _
  apart := fun q hq hv => by
    rcases hg.2 q hq with h5 | h5
    · exact h.apart q h5 hv
    · have := (h.vals.base_ q hv).2; omega
/-- A val is appended. -/
theorem Nd.val {w W W1 : World} {P G U Z : Nat} {l : List Nat} {lf : Bool} {j i : Nat} {vk vv vv' : Value} (h : Nd w W P G U Z l lf j i vk vv) (hg : Grew W W1 vv vv') (ho : Own W1 (U + 1) 3 1 vv' (i + 1) (i64s (numsAt l 6 6 2 i) ++ [.int .i64 (num l (6 + 6 * i) 2 : Nat)]))
    (h2 : w.heap.size ≤ U) (h3 : G < U) (h4 : Z < U) : Nd w (W1.setCell ⟨U, 2, none⟩ vv') P G U Z l lf j (i + 1) vk vv' where
  grown := grown_set (grownBy_new h.grown hg.1 (fun q hq => by have := (h.vals.base_ q hq).1; omega)) h2 _
  box := (h.box.grown hg.1 (fun e => by have := (h.vals.base_ _ e.symm).1; omega)).set_ 2 _
  zero := (h.zero.grown hg.1 (fun e => by have := (h.vals.base_ _ e.symm).1; omega)).far (by simp; omega) _
  arr := (h.arr.grown hg.1 (fun e => by have := (h.vals.base_ _ e.symm).1; omega)).far (by simp; omega) _
  vals := by
    have h5 := Own.set_far (g := U) (i := 2) ho (by omega) vv'
    rw [numsAt_succ, i64s_append]
    exact h5
  keys := Own.set_far (h.keys.keep hg.1 (fun q hq e => h.apart q hq e)) (by omega) _
  apart := fun q hq hv => by
    rcases hg.2 q hv with h5 | h5
    · exact h.apart q hq h5
    · have := (h.keys.base_ q hq).2; omega
/-- The cursor outlives a row's growth and a store into the node. -/
theorem cur_key {W W1 : World} {P G k n U i : Nat} {v v' u : Value} (hc : Cur W P G k n) (hg : Grew W W1 v v') (hne : v.ownBlock ≠ some P) (hU : P ≠ U) : Cur (W1.setCell ⟨U, i, none⟩ u) P G k n := by
  obtain ⟨k0, hb, hk⟩ := hc.grown hg.1 (fun e => hne e.symm)
  exact ⟨k0, hb.far hU u, hk⟩
set_option maxRecDepth 100000 in
set_option maxHeartbeats 3200000 in
theorem codec_get_node (b : Nat) (A : Option Addr) (n c : Nat) (l : List Nat) (w : World) (hl : Bytes w b A n l) :
    Calls Try.prog 33 #[.slice A n c] w (ToldNode w (nodeR l)) := by
  obtain ⟨i0, hi0, hz0, hz1, hz2⟩ := info_parts int_info
  have hi := Lib.hid hi0; have z0 := Lib.hid hz0; have z1 := Lib.hid hz1; have z2 := Lib.hid hz2; clear hi0 hz0 hz1 hz2
  have HONE := Lib.hid (show 0 < 1 by omega)
  have hlen := hl.1
  have HLT := Lib.hid hl.2.1
  have hg0 := World.grownBy_alloc w (.cells #[.bool false, .slice none 0 0, .slice none 0 0] 62) none
  have HBX := Lib.hid (Blk.new w 62 #[.bool false, .slice none 0 0, .slice none 0 0])
  have HLEN := Lib.hid hlen; have HL0 := Lib.hid hl; have HL := Lib.hid (bytes_keepN hl hg0); have HG0 := Lib.hid hg0; clear hlen hl hg0
  by_cases h240 : n = 240
  · subst h240
    have hr : nodeR l = if nodeW (decide (num l 0 1 = 1)) (numsAt l 2 6 4 (min (num l 1 1) 8)) (numsAt l 6 6 2 (min (num l 1 1) 8)) = some l then some (decide (num l 0 1 = 1), numsAt l 2 6 4 (min (num l 1 1) 8), numsAt l 6 6 2 (min (num l 1 1) 8)) else none := rfl
    have hmore : 8 < num l 1 1 → nodeR l = none := fun h => by
      rw [hr, if_neg (fun e => ?_)]
      have := (node_fields e).2.1
      rw [numsAt_length] at this
      omega
    have HR := Lib.hid hr; have HMORE := Lib.hid hmore; clear hr hmore
    obtain ⟨hw0, _⟩ := num_small l 0 1 HLT.out (by omega)
    obtain ⟨hw1, _⟩ := num_small l 1 1 HLT.out (by omega)
    have HW0 := Lib.hid hw0; have HW1 := Lib.hid hw1; clear hw0 hw1
    have hlf : (((num l 0 1 : Nat) : Int) == 1) = decide (num l 0 1 = 1) := by
      rw [Bool.eq_iff_iff]; simp; omega
    have HLF := Lib.hid hlf; clear hlf
    generalize nodeR l = r at *
    go_enter Try.func33, Try.ntmps33
    go_wp2_with fail
    refine (openbody_any b A c l _ HL.out).mono ?_
    rintro e w1 ⟨rfl, hg1, hb1⟩
    rw [World.size_alloc] at hb1 ⊢
    have hbx1 := HBX.out.grown hg1 (by simp)
    have hsz1 := hg1.size
    rw [World.size_alloc] at hsz1
    have hgw := HG0.out.trans hg1
    have hlt1 := hb1.lt
    have hc1 := cur_new w1 (w.heap.size + 1) 240 0 rfl
    have HB1 := Lib.hid (hb1.alloc (.cells #[.slice (some ⟨w.heap.size + 1, 0, none⟩) 240 240] 108)); have HC1 := Lib.hid hc1
    have HX1 := Lib.hid (hbx1.alloc (.cells #[.slice (some ⟨w.heap.size + 1, 0, none⟩) 240 240] 108))
    have HG1 := Lib.hid (hgw.trans (World.grownBy_alloc w1 (.cells #[.slice (some ⟨w.heap.size + 1, 0, none⟩) 240 240] 108) none))
    clear hg1 hb1 hbx1 hgw hc1
    go_wp2_with fail
    refine (read_any w1.heap.size (w.heap.size + 1) 0 240 1 126 l _ HC1.out HB1.out (by decide) HLT.out (by omega) (by rw [HLEN.out]; omega) (by rw [HLEN.out]; omega)).mono ?_
    rintro e w2 ⟨rfl, hr2, hc2⟩
    rw [HW0.out]
    have hsz2 := hr2.size
    rw [World.size_alloc] at hsz2
    have HB2 := Lib.hid (HB1.out.grown hr2 (by simp; omega)); have HX2 := Lib.hid (HX1.out.grown hr2 (by simp; omega)); have HG2 := Lib.hid (grownBy_new HG1.out hr2 (fun j hj => by cases hj; omega)); have HC2 := Lib.hid hc2
    clear hr2 hc2 HB1 HX1 HG1 HC1
    generalize w1.heap.size = p at *
    go_wp2_with fail
    generalize (((num l 0 1 : Nat) : Int) == 1) = lf at *
    have hnd : Nd w (w2.alloc (.cells #[.bool lf, .slice none 0 0, .slice none 0 0] 62)) p (w.heap.size + 1) w2.heap.size w.heap.size l lf 0 0 (.slice none 0 0) (.slice none 0 0) :=
      ⟨HG2.out.trans (World.grownBy_alloc w2 _ none), Blk.new w2 _ _, HX2.out.alloc _, HB2.out.alloc _, Own.nil _ _ _ _, Own.nil _ _ _ _, fun g hg => by simp [Value.ownBlock] at hg⟩
    have HP1 := Lib.hid (show w.heap.size ≤ p by omega); have HP2 := Lib.hid (show p < w2.heap.size by omega); have HP3 := Lib.hid (show p ≠ w.heap.size + 1 by omega); have HP4 := Lib.hid (show p ≠ w.heap.size by omega)
    have HU1 := Lib.hid (show w.heap.size ≤ w2.heap.size by omega); have HU2 := Lib.hid (show w.heap.size + 1 < w2.heap.size by omega); have HU3 := Lib.hid (show w.heap.size < w2.heap.size by omega); have HPU := Lib.hid (show p ≠ w2.heap.size by omega)
    have HNN := Lib.hid (show some p ≠ none by simp)
    have HVP := Lib.hid (fun W v m xs h e => by have := (Own.base_ h p e).1; omega : ∀ (W : World) (v : Value) (m : Nat) (xs : List Value), Own W (w2.heap.size + 1) 3 1 v m xs → v.ownBlock ≠ some p)
    have HC2' := Lib.hid (HC2.out.grown (World.grownBy_alloc w2 (.cells #[.bool lf, .slice none 0 0, .slice none 0 0] 62) none) (by simp))
    have ND0 := Lib.hid hnd; clear hnd
    refine (read_any p (w.heap.size + 1) 1 239 1 126 l _ HC2'.out ND0.out.arr (by decide) HLT.out (by omega) (by rw [HLEN.out]; omega) (by rw [HLEN.out]; omega)).mono ?_
    rintro e w3 ⟨rfl, hr3, hc3⟩
    rw [HW1.out]
    have ND3 := Lib.hid (ND0.out.move hr3 HP1.out HP2.out HP3.out HP4.out); have HC3 := Lib.hid hc3
    clear hr3 hc3 HC2' HC2 ND0 HB2 HX2 HG2
    by_cases h8 : 8 < num l 1 1
    · have HNO := Lib.hid (HMORE.out h8)
      have h8' : decide (((num l 1 1 : Nat) : Int) > 8) = true := by simp; omega
      have h8'' : (8 : Int) < ((num l 1 1 : Nat) : Int) := by omega
      have x0 := ND3.out.zero.cell 0; have x1 := ND3.out.zero.cell 1; have x2 := ND3.out.zero.cell 2; have f0 := ND3.out.zero.frozen 0; have f1 := ND3.out.zero.frozen 1; have f2 := ND3.out.zero.frozen 2
      simp only [List.getElem?_toArray, List.getElem?_cons_zero, List.getElem?_cons_succ] at x0 x1 x2
      go_wp2_with fail
      refine ret_row2 rfl w.heap.size 62 _ _ rfl (Blk.set3 ND3.out.zero) Try.underlying62 rfl (by kernel_rfl) rfl ⟨?_, .inr ⟨HNO.out, rfl⟩⟩
      repeat (refine grown_set ?_ (Nat.le_refl _) _)
      exact ND3.out.grown
    · obtain ⟨N, hN⟩ : ∃ N, N = num l 1 1 := ⟨_, rfl⟩
      have hN8 : N ≤ 8 := by omega
      have HRN := Lib.hid (show r = if nodeW lf (numsAt l 2 6 4 N) (numsAt l 6 6 2 N) = some l then some (lf, numsAt l 2 6 4 N, numsAt l 6 6 2 N) else none by rw [HR.out, ← HLF.out, Nat.min_eq_left (by omega), ← hN])
      rw [← hN]
      clear h8 hN HR HMORE
      have h8'' : ¬ ((8 : Int) < ((N : Nat) : Int)) := by omega
      go_wp2_with fail
      go_loopw [26] (fun i wr => ∃ (j : Nat) (vk vv : Value), j ≤ N ∧ i = .int .i64 j ∧ Nd w wr p (w.heap.size + 1) w2.heap.size w.heap.size l lf j j vk vv ∧ Cur wr p (w.heap.size + 1) (2 + 6 * j) (238 - 6 * j)) (fun i _ => N - (intOf i).toNat)
      case atStart => exact ⟨0, _, _, by omega, rfl, ND3.out, HC3.out⟩
      case round =>
        obtain ⟨j, vk, vv, hj, rfl, hnd, hcr⟩ := hrel
        have ND := Lib.hid hnd; have HCR := Lib.hid hcr
        clear hnd hcr
        by_cases hlt : j < N
        · have hk1 := ND.out.box.cell 1
          simp only [List.getElem?_toArray, List.getElem?_cons_zero, List.getElem?_cons_succ] at hk1
          have HW4 := Lib.hid (num_small l (2 + 6 * j) 4 HLT.out (by omega)).1
          have HW6 := Lib.hid (num_small l (6 + 6 * j) 2 HLT.out (by omega)).1
          go_upto_region 10 with fail
          go_cut [26] (fun s26 wx => ∃ vk' : Value, s26 = .int .i64 j ∧ Nd w wx p (w.heap.size + 1) w2.heap.size w.heap.size l lf (j + 1) j vk' vv ∧ Cur wx p (w.heap.size + 1) (6 + 6 * j) (234 - 6 * j))
          case first =>
            go_region_law (first
              | (go_simp
                 go_at_call 61
                 refine (read_any p (w.heap.size + 1) (2 + 6 * j) (238 - 6 * j) 4 126 l _ ?_ ?_ ?_ HLT.out ?_ ?_ ?_).mono ?_
                 exact HCR.out
                 exact ND.out.arr
                 decide
                 omega
                 (rw [HLEN.out]; omega)
                 (rw [HLEN.out]; omega)
                 rintro e w6 ⟨rfl, hr6, hc6⟩
                 rw [HW4.out]
                 have hnd6 := ND.out.drew.move hr6 HP1.out HP2.out HP3.out HP4.out
                 have hk6 := hnd6.box.cell 1
                 have hkl6 := hnd6.box.lt
                 simp only [List.getElem?_toArray, List.getElem?_cons_zero, List.getElem?_cons_succ] at hk6
                 have ND6 := Lib.hid hnd6; have HC6 := Lib.hid hc6
                 clear hr6 hc6 hnd6)
              | (refine step_append_own_full _ rfl (.tmp 29) (.tmp 31) _ rfl (w2.heap.size + 1) 3 i0 _ 1 8 Try.underlying36 hi.out z0.out z1.out z2.out rfl HONE.out vk j _ ?_ (ND6.out.keys.alloc _)
                   _ _ 1 1 _ ?_ (reads_one_int _ _) ?_ ?_ ?_ ?_ ?_
                 rfl
                 rfl
                 (intro u hu; simp at hu; subst hu; rfl)
                 (simp only [maxLen]; omega)
                 omega
                 (have := ND6.out.box.lt; simp; omega)
                 intro v' w' hown' hgr'
                 obtain ⟨A2, c2, hv2, _, _, _⟩ := hown'.shape
                 subst hv2
                 have hnd7 := (ND6.out.alloc (.cells #[.int .i64 (num l (2 + 6 * j) 4 : Nat)] 3)).key hgr' hown' HU1.out HU2.out HU3.out
                 have hc7 := cur_key (i := 1) (u := Value.slice A2 (j + 1) c2) (HC6.out.grown (World.grownBy_alloc w6 (.cells #[.int .i64 (num l (2 + 6 * j) 4 : Nat)] 3) none) HNN.out) hgr' (HVP.out _ _ _ _ ND6.out.keys) HPU.out
                 have hbb := (ND6.out.alloc (.cells #[.int .i64 (num l (2 + 6 * j) 4 : Nat)] 3)).box.grown hgr'.1 (fun e => by have := (ND6.out.keys.base_ _ e.symm).1; omega)
                 have hc1' := hbb.cell 1
                 have hf1' := hbb.frozen 1
                 simp only [List.getElem?_toArray, List.getElem?_cons_zero, List.getElem?_cons_succ] at hc1'
                 have ND7 := Lib.hid hnd7; have HC7 := Lib.hid hc7
                 clear hnd7 hc7 hbb hown' hgr'))
            all_goals
              go_wp2_with fail
              go_meet
              refine ⟨_, rfl, ND7.out, ?_⟩
              have h := HC7.out
              rwa [show 2 + 6 * j + 4 = 6 + 6 * j from by omega, show 238 - 6 * j - 4 = 234 - 6 * j from by omega] at h
          case rest =>
            obtain ⟨vk', rfl, hnd, hcr⟩ := hcut
            have ND := Lib.hid hnd; have HCR := Lib.hid hcr
            clear hnd hcr hk1
            have hk2 := ND.out.box.cell 2
            simp only [List.getElem?_toArray, List.getElem?_cons_zero, List.getElem?_cons_succ] at hk2
            go_wp2_with fail
            go_region_law (first
              | (go_simp
                 go_at_call 61
                 refine (read_any p (w.heap.size + 1) (6 + 6 * j) (234 - 6 * j) 2 126 l _ ?_ ?_ ?_ HLT.out ?_ ?_ ?_).mono ?_
                 exact HCR.out
                 exact ND.out.arr
                 decide
                 omega
                 (rw [HLEN.out]; omega)
                 (rw [HLEN.out]; omega)
                 rintro e w6 ⟨rfl, hr6, hc6⟩
                 rw [HW6.out]
                 have hnd6 := ND.out.drew.move hr6 HP1.out HP2.out HP3.out HP4.out
                 have hk6 := hnd6.box.cell 2
                 have hkl6 := hnd6.box.lt
                 simp only [List.getElem?_toArray, List.getElem?_cons_zero, List.getElem?_cons_succ] at hk6
                 have ND6 := Lib.hid hnd6; have HC6 := Lib.hid hc6
                 clear hr6 hc6 hnd6)
              | (refine step_append_own_full _ rfl (.tmp 35) (.tmp 37) _ rfl (w2.heap.size + 1) 3 i0 _ 1 8 Try.underlying36 hi.out z0.out z1.out z2.out rfl HONE.out vv j _ ?_ (ND6.out.vals.alloc _)
                   _ _ 1 1 _ ?_ (reads_one_int _ _) ?_ ?_ ?_ ?_ ?_
                 rfl
                 rfl
                 (intro u hu; simp at hu; subst hu; rfl)
                 (simp only [maxLen]; omega)
                 omega
                 (have := ND6.out.box.lt; simp; omega)
                 intro v' w' hown' hgr'
                 obtain ⟨A2, c2, hv2, _, _, _⟩ := hown'.shape
                 subst hv2
                 have hnd7 := (ND6.out.alloc (.cells #[.int .i64 (num l (6 + 6 * j) 2 : Nat)] 3)).val hgr' hown' HU1.out HU2.out HU3.out
                 have hc7 := cur_key (i := 2) (u := Value.slice A2 (j + 1) c2) (HC6.out.grown (World.grownBy_alloc w6 (.cells #[.int .i64 (num l (6 + 6 * j) 2 : Nat)] 3) none) HNN.out) hgr' (HVP.out _ _ _ _ ND6.out.vals) HPU.out
                 have hbb := (ND6.out.alloc (.cells #[.int .i64 (num l (6 + 6 * j) 2 : Nat)] 3)).box.grown hgr'.1 (fun e => by have := (ND6.out.vals.base_ _ e.symm).1; omega)
                 have hc1' := hbb.cell 2
                 have hf1' := hbb.frozen 2
                 simp only [List.getElem?_toArray, List.getElem?_cons_zero, List.getElem?_cons_succ] at hc1'
                 have ND7 := Lib.hid hnd7; have HC7 := Lib.hid hc7
                 clear hnd7 hc7 hbb hown' hgr'))
            all_goals
              go_wp2_with fail
              go_roundw
              case measure => simp [intOf]; omega
              case rel =>
                refine ⟨j + 1, _, _, by omega, by go_num, ND7.out, ?_⟩
                have h := HC7.out
                rwa [show 6 + 6 * j + 2 = 2 + 6 * (j + 1) from by omega, show 234 - 6 * j - 2 = 238 - 6 * (j + 1) from by omega] at h
        · obtain rfl : j = N := by omega
          have HRK := Lib.hid (nums_range l 2 6 4 j HLT.out (by omega)); have HRV := Lib.hid (nums_range l 6 6 2 j HLT.out (by omega))
          obtain ⟨A1, c1, rfl, hi1, _, _⟩ := own_ints ND.out.keys HRK.out
          obtain ⟨A2, c2, rfl, hi2, _, _⟩ := own_ints ND.out.vals HRV.out
          have HI1 := Lib.hid hi1; have HI2 := Lib.hid hi2
          clear hi1 hi2
          have k0 := ND.out.box.cell 0; have k1 := ND.out.box.cell 1; have k2 := ND.out.box.cell 2
          simp only [List.getElem?_toArray, List.getElem?_cons_zero, List.getElem?_cons_succ] at k0 k1 k2
          go_wp2_with fail
          refine (codec_put_node _ lf A1 A2 j j c1 c2 _ _ _ HI1.out HI2.out).mono ?_
          clear k0 k1 k2
          rintro e w8 hG
          have HZ9 := Lib.hid (ND.out.zero.grown hG.1 (by simp)); have HG9 := Lib.hid (ND.out.grown.trans hG.1); have HU9 := Lib.hid (ND.out.box.grown hG.1 (by simp))
          have HK9 := Lib.hid (ND.out.keys.keep hG.1 (by simp)); have HV9 := Lib.hid (ND.out.vals.keep hG.1 (by simp)); have HAP := Lib.hid ND.out.apart
          have HGV := Lib.hid hG.2
          clear hG
          have x0 := HZ9.out.cell 0; have x1 := HZ9.out.cell 1; have x2 := HZ9.out.cell 2; have f0 := HZ9.out.frozen 0; have f1 := HZ9.out.frozen 1; have f2 := HZ9.out.frozen 2
          have y0 := HU9.out.cell 0; have y1 := HU9.out.cell 1; have y2 := HU9.out.cell 2
          have hul := HU9.out.lt
          simp only [List.getElem?_toArray, List.getElem?_cons_zero, List.getElem?_cons_succ] at x0 x1 x2 y0 y1 y2
          rcases HGV.out with ⟨l', g3, ho, rfl, _, hb3, hlt3⟩ | ⟨ho, rfl⟩
          · have HB3 := Lib.hid (blk_bytes (b := w8.heap.size) hb3 (by have := hb3.lt; omega) hlt3); have HW := Lib.hid ho
            have HL3 := Lib.hid (bytes_keepN HL0.out HG9.out)
            clear ho hb3
            go_wp2_with fail
            refine (comesback_any _ _ A _ _ _ c _ l l' _ HL3.out HB3.out).mono ?_
            rintro e w9 ⟨rfl, rfl⟩
            cases hd : decide (l = l') with
            | true =>
              have hl := of_decide_eq_true hd
              have HRX := Lib.hid (show r = some (lf, numsAt l 2 6 4 j, numsAt l 6 6 2 j) by rw [HRN.out, if_pos (by rw [HW.out, ← hl])])
              clear hd hl
              go_wp2_with fail
              refine ret_row2 rfl w.heap.size 62 _ _ rfl (Blk.set3 HZ9.out) Try.underlying62 rfl (by kernel_rfl) rfl ⟨?_, .inl ⟨lf, numsAt l 2 6 4 j, numsAt l 6 6 2 j, _, _, HRX.out, rfl, ?_, ?_, HAP.out, HRK.out, HRV.out⟩⟩
              · repeat (refine grown_set ?_ (Nat.le_refl _) _)
                exact HG9.out
              · rw [numsAt_length]
                exact (Own.set_far (Own.set_far (Own.set_far HK9.out (by omega) _) (by omega) _) (by omega) _).low (by omega)
              · rw [numsAt_length]
                exact (Own.set_far (Own.set_far (Own.set_far HV9.out (by omega) _) (by omega) _) (by omega) _).low (by omega)
            | false =>
              have hl := of_decide_eq_false hd
              have HRX := Lib.hid (show r = none by rw [HRN.out, if_neg (by rw [HW.out]; simpa using fun e => hl e.symm)])
              clear hd hl
              go_wp2_with fail
              refine ret_row2 rfl w.heap.size 62 _ _ rfl (Blk.set3 HZ9.out) Try.underlying62 rfl (by kernel_rfl) rfl ⟨?_, .inr ⟨HRX.out, rfl⟩⟩
              repeat (refine grown_set ?_ (Nat.le_refl _) _)
              exact HG9.out
          · have HRX := Lib.hid (show r = none by rw [HRN.out, if_neg (by rw [ho]; simp)])
            clear ho
            go_wp2_with fail
            refine (comesback_err A none _ 0 c 0 _).mono ?_
            rintro e w9 ⟨rfl, rfl⟩
            go_wp2_with fail
            refine ret_row2 rfl w.heap.size 62 _ _ rfl (Blk.set3 HZ9.out) Try.underlying62 rfl (by kernel_rfl) rfl ⟨?_, .inr ⟨HRX.out, rfl⟩⟩
            repeat (refine grown_set ?_ (Nat.le_refl _) _)
            exact HG9.out
  · have hno := nodeR_none l (by rw [HLEN.out]; exact h240)
    have HNO := Lib.hid hno; clear hno
    generalize nodeR l = r at *
    go_enter Try.func33, Try.ntmps33
    go_wp2_with fail
    refine (openbody_no A n c _ h240).mono ?_
    rintro e w1 ⟨rfl, rfl⟩
    go_wp2_with fail
    exact ret_row2 rfl w.heap.size 62 _ _ rfl (HBX.out.alloc _) Try.underlying62 rfl (by kernel_rfl) rfl ⟨HG0.out.trans (World.grownBy_alloc _ _ none), .inr ⟨HNO.out, rfl⟩⟩
end Go.Proofs.Ytkiohneggoiipaa.Codec
