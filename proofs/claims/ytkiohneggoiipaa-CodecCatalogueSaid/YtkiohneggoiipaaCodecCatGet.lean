/- The project's GetCatalogue. -/
import Derived.Test.YtkiohneggoiipaaCodecCatPut2
import Derived.Test.YtkiohneggoiipaaCodecVolGet
import Derived.Test.YtkiohneggoiipaaCodecNodeGet
namespace Go.Proofs.Ytkiohneggoiipaa.Codec
open Go.RowKit CrcMath CodecMath Mem Crc

/-- The numbers of the first j volumes. -/
def volsT (l : List Nat) (j : Nat) : List Int := (List.range (6 * j)).map fun q => (num l (21 + pos q) (wid (q % 6)) : Int)
theorem volsT_all (l : List Nat) : volsT l 8 = volsN l := rfl
theorem volsT_length (l : List Nat) (j : Nat) : (volsT l j).length = 6 * j := by simp [volsT]
theorem pos_at (j r : Nat) (h : r < 6) : pos (6 * j + r) = 19 * j + offF r ∧ (6 * j + r) % 6 = r := by
  have e1 : (6 * j + r) / 6 = j := by omega
  have e2 : (6 * j + r) % 6 = r := by omega
  exact ⟨by rw [pos, e1, e2], e2⟩
theorem volsT_succ (l : List Nat) (j : Nat) : volsT l (j + 1) = volsT l j ++ [(num l (21 + 19 * j) 4 : Int), (num l (21 + 19 * j + 4) 1 : Int), (num l (21 + 19 * j + 5) 4 : Int), (num l (21 + 19 * j + 9) 4 : Int), (num l (21 + 19 * j + 13) 2 : Int), (num l (21 + 19 * j + 15) 4 : Int)] := by
  obtain ⟨p0, r0⟩ := pos_at j 0 (by omega)
  obtain ⟨p1, r1⟩ := pos_at j 1 (by omega)
  obtain ⟨p2, r2⟩ := pos_at j 2 (by omega)
  obtain ⟨p3, r3⟩ := pos_at j 3 (by omega)
  obtain ⟨p4, r4⟩ := pos_at j 4 (by omega)
  obtain ⟨p5, r5⟩ := pos_at j 5 (by omega)
  rw [Nat.add_zero] at p0 r0
  rw [volsT, show 6 * (j + 1) = 6 * j + 1 + 1 + 1 + 1 + 1 + 1 from by omega]
  simp only [List.range_succ, List.map_append, List.map_cons, List.map_nil, List.append_assoc, List.cons_append, List.nil_append]
  rw [p0, p1, p2, p3, p4, p5, r0, r1, r2, r3, r4, r5]
  rfl
theorem wid_le (r : Nat) : wid r ≤ 7 := by unfold wid; split <;> omega
theorem volsT_range (l : List Nat) (j : Nat) (h : ∀ x ∈ l, x < 256) : ∀ x ∈ volsT l j, -9223372036854775808 ≤ x ∧ x ≤ 9223372036854775807 := by
  intro x hx
  obtain ⟨q, _, rfl⟩ := List.mem_map.1 hx
  have := (num_small l (21 + pos q) (wid (q % 6)) h (wid_le _)).2
  omega
theorem vol_info : (Try.prog.info? 129).map (fun i => (i.zero, i.size, i.bytes)) = some (some (.agg #[.int .i64 0, .int .i64 0, .int .i64 0, .int .i64 0, .int .i64 0, .int .i64 0]), 6, 48) := by kernel_rfl
theorem reads_one_vol (w : World) (a0 a1 a2 a3 a4 a5 : Value) : Reads (w.alloc (.cells #[a0, a1, a2, a3, a4, a5] 129)) (w.heap.size + 1) 6 (some ⟨w.heap.size, 0, none⟩) 1 [a0, a1, a2, a3, a4, a5] := by
  refine ⟨rfl, fun _ => ⟨_, rfl, by simp, fun j u hu => ?_⟩⟩
  have hb := (Blk.new w 129 #[a0, a1, a2, a3, a4, a5]).cell j
  have e1 : (⟨w.heap.size, 0, none⟩ : Addr).add j = ⟨w.heap.size, j, none⟩ := by unfold Addr.add; split <;> simp_all
  rw [e1, hb]
  simpa using hu
theorem own_vols {w : World} {base n : Nat} {v : Value} {l : List Int} (h : Own w base 129 6 v n (i64s l)) (hl : ∀ x ∈ l, -9223372036854775808 ≤ x ∧ x ≤ 9223372036854775807) :
    ∃ A cap, v = .slice A n cap ∧ Ints w w.heap.size A (6 * n) l ∧ n ≤ cap ∧ cap ≤ maxLen := by
  have hlen := h.len
  rw [i64s_length] at hlen
  by_cases h0 : n = 0
  · subst h0
    obtain ⟨A, cap, hv, h1, h2, _⟩ := h.shape
    exact ⟨A, cap, hv, ⟨by omega, hl, fun h => by omega⟩, h1, h2⟩
  · obtain ⟨g, cap, hv, _, hlt, h1, h2, hc⟩ := h.reads (by omega)
    refine ⟨_, cap, hv, ⟨by omega, hl, fun _ => ⟨g, 0, rfl, hlt, by omega, fun j hj => ?_⟩⟩, h1, h2⟩
    rw [Nat.zero_add]
    exact hc j _ (i64s_at l j (by omega))
/-- What the project's GetCatalogue leaves. -/
def SaidCat (w : World) (o : Option (Int × List Int × List Int)) (e : Ending) (w' : World) : Prop :=
  w.grownBy w' none ∧ ((∃ next stack vs v v', o = some (next, stack, vs) ∧ e = .returned (.tuple #[.agg #[.int .i64 next, v, v'], .bool true]) ∧ Own w' w.heap.size 129 6 v 8 (i64s vs) ∧ Own w' w.heap.size 3 1 v' stack.length (i64s stack) ∧
      (∀ x ∈ vs, -9223372036854775808 ≤ x ∧ x ≤ 9223372036854775807) ∧ ∀ x ∈ stack, -9223372036854775808 ≤ x ∧ x ≤ 9223372036854775807) ∨
    (o = none ∧ e = .returned (.tuple #[.agg #[.int .i64 0, .slice none 0 0, .slice none 0 0], .bool false])))
/-- Where the project's GetCatalogue stands when j volumes are read: U the catalogue, P the cursor over the array G, Z the result's own block. -/
structure Ct (w W : World) (P G U Z : Nat) (l : List Nat) (nx N j : Nat) (vv sv : Value) : Prop where
  grown : w.grownBy W none
  box : Blk W U 75 #[.int .i64 (nx : Nat), vv, sv]
  zero : Blk W Z 75 #[.int .i64 0, .slice none 0 0, .slice none 0 0]
  arr : Blk W G 126 (u8s l).toArray
  vols : Own W (U + 1) 129 6 vv j (i64s (volsT l j))
  stk : Own W (U + 1) 3 1 sv N (i64s (numsAt l 5 2 2 N))
  apart : ∀ g, vv.ownBlock = some g → sv.ownBlock ≠ some g
theorem Ct.drew {w W : World} {P G U Z : Nat} {l : List Nat} {nx N j : Nat} {vv sv : Value} (h : Ct w W P G U Z l nx N j vv sv) : Ct w W.drew P G U Z l nx N j vv sv :=
  ⟨h.grown.trans (grown_drew _ none), h.box, h.zero, h.arr, h.vols, h.stk, h.apart⟩
theorem Ct.move {w W W1 : World} {P G U Z : Nat} {l : List Nat} {nx N j : Nat} {vv sv : Value} (h : Ct w W P G U Z l nx N j vv sv) (hr : W.grownBy W1 (some P)) (h1 : w.heap.size ≤ P) (h2 : P < U) (h3 : P ≠ G) (h4 : P ≠ Z) : Ct w W1 P G U Z l nx N j vv sv where
  grown := grownBy_new h.grown hr (fun j hj => by cases hj; exact h1)
  box := h.box.grown hr (by simp; omega)
  zero := h.zero.grown hr (by simp; omega)
  arr := h.arr.grown hr (by simp; omega)
  vols := h.vols.keep hr (fun q hq e => by injection e with e; have := (h.vols.base_ q hq).1; omega)
  stk := h.stk.keep hr (fun q hq e => by injection e with e; have := (h.stk.base_ q hq).1; omega)
  apart := h.apart
theorem Ct.alloc {w W : World} {P G U Z : Nat} {l : List Nat} {nx N j : Nat} {vv sv : Value} (h : Ct w W P G U Z l nx N j vv sv) (o : Obj) : Ct w (W.alloc o) P G U Z l nx N j vv sv :=
  ⟨h.grown.trans (World.grownBy_alloc W o none), h.box.alloc o, h.zero.alloc o, h.arr.alloc o, h.vols.alloc o, h.stk.alloc o, h.apart⟩
/-- A volume is appended. -/
theorem Ct.vol {w W W1 : World} {P G U Z : Nat} {l : List Nat} {nx N j : Nat} {vv sv vv' : Value} {news : List Value} (h : Ct w W P G U Z l nx N j vv sv) (hg : Grew W W1 vv vv') (ho : Own W1 (U + 1) 129 6 vv' (j + 1) (i64s (volsT l j) ++ news))
    (hn : i64s (volsT l (j + 1)) = i64s (volsT l j) ++ news) (h2 : w.heap.size ≤ U) (h3 : G < U) (h4 : Z < U) : Ct w (W1.setCell ⟨U, 1, none⟩ vv') P G U Z l nx N (j + 1) vv' sv where
  grown := grown_set (grownBy_new h.grown hg.1 (fun q hq => by have := (h.vols.base_ q hq).1; omega)) h2 _
  box := (h.box.grown hg.1 (fun e => by have := (h.vols.base_ _ e.symm).1; omega)).set_ 1 _
  zero := (h.zero.grown hg.1 (fun e => by have := (h.vols.base_ _ e.symm).1; omega)).far (by simp; omega) _
  arr := (h.arr.grown hg.1 (fun e => by have := (h.vols.base_ _ e.symm).1; omega)).far (by simp; omega) _
  vols := by
    have h5 := Own.set_far (g := U) (i := 1) ho (by omega) vv'
    rw [hn]
    exact h5
  stk := Own.set_far (h.stk.keep hg.1 (fun q hq e => h.apart q e hq)) (by omega) _
  apart := fun q hq hv => by
    rcases hg.2 q hq with h5 | h5
    · exact h.apart q h5 hv
    · have := (h.stk.base_ q hv).2; omega
set_option maxRecDepth 100000 in
set_option maxHeartbeats 3200000 in
theorem codec_get_catalogue (b : Nat) (A : Option Addr) (n c : Nat) (l : List Nat) (w : World) (hl : Bytes w b A n l) :
    Calls Try.prog 41 #[.slice A n c] w (SaidCat w (catR l)) := by
  obtain ⟨i0, hi0, hz0, hz1, hz2⟩ := info_parts vol_info
  have hi := Lib.hid hi0; have z0 := Lib.hid hz0; have z1 := Lib.hid hz1; have z2 := Lib.hid hz2; clear hi0 hz0 hz1 hz2
  have HSIX := Lib.hid (show 0 < 6 by omega)
  have hlen := hl.1
  have HLT := Lib.hid hl.2.1
  have hg0 := World.grownBy_alloc w (.cells #[.int .i64 0, .slice none 0 0, .slice none 0 0] 75) none
  have HBX := Lib.hid (Blk.new w 75 #[.int .i64 0, .slice none 0 0, .slice none 0 0])
  have HLEN := Lib.hid hlen; have HL0 := Lib.hid hl; have HL := Lib.hid (bytes_keepN hl hg0); have HG0 := Lib.hid hg0; clear hlen hl hg0
  by_cases h240 : n = 240
  · subst h240
    have hr : catR l = if catW (num l 0 4) (numsAt l 5 2 2 (min (num l 4 1) 8)) (volsN l) = some l then some ((num l 0 4 : Int), numsAt l 5 2 2 (min (num l 4 1) 8), volsN l) else none := rfl
    have hmore : 8 < num l 4 1 → catR l = none := fun h => by
      rw [hr, if_neg (fun e => ?_)]
      have := (cat_fields e).2.1
      rw [numsAt_length] at this
      omega
    have HR := Lib.hid hr; have HMORE := Lib.hid hmore; clear hr hmore
    obtain ⟨hw0, _⟩ := num_small l 0 4 HLT.out (by omega)
    obtain ⟨hw1, _⟩ := num_small l 4 1 HLT.out (by omega)
    have HW0 := Lib.hid hw0; have HW1 := Lib.hid hw1; clear hw0 hw1
    generalize catR l = r at *
    go_enter Try.func41, Try.ntmps41
    go_wp2_with fail
    refine (openbody_any b A c l _ HL.out).mono ?_
    rintro e w1 ⟨rfl, hg1, hb1⟩
    rw [World.size_alloc] at hb1 ⊢
    have hbx1 := HBX.out.grown hg1 (by simp)
    have hsz1 := hg1.size
    rw [World.size_alloc] at hsz1
    have hgw := HG0.out.trans hg1
    have hlt1 := hb1.lt
    have hc1 := cur_new w1 (w.heap.size + 1) 240 0 rfl
    have HB1 := Lib.hid (hb1.alloc (.cells #[.slice (some ⟨w.heap.size + 1, 0, none⟩) 240 240] 108)); have HC1 := Lib.hid hc1
    have HX1 := Lib.hid (hbx1.alloc (.cells #[.slice (some ⟨w.heap.size + 1, 0, none⟩) 240 240] 108))
    have HG1 := Lib.hid (hgw.trans (World.grownBy_alloc w1 (.cells #[.slice (some ⟨w.heap.size + 1, 0, none⟩) 240 240] 108) none))
    clear hg1 hb1 hbx1 hgw hc1
    go_wp2_with fail
    refine (read_any w1.heap.size (w.heap.size + 1) 0 240 4 126 l _ HC1.out HB1.out (by decide) HLT.out (by omega) (by rw [HLEN.out]; omega) (by rw [HLEN.out]; omega)).mono ?_
    rintro e w2 ⟨rfl, hr2, hc2⟩
    rw [HW0.out]
    have hsz2 := hr2.size
    rw [World.size_alloc] at hsz2
    have HB2 := Lib.hid (HB1.out.grown hr2 (by simp; omega)); have HX2 := Lib.hid (HX1.out.grown hr2 (by simp; omega)); have HG2 := Lib.hid (grownBy_new HG1.out hr2 (fun j hj => by cases hj; omega)); have HC2 := Lib.hid hc2
    clear hr2 hc2 HB1 HX1 HG1 HC1
    generalize w1.heap.size = p at *
    obtain ⟨nx, hnx⟩ : ∃ nx, num l 0 4 = nx := ⟨_, rfl⟩
    rw [hnx]
    have HNX := Lib.hid hnx; clear hnx
    go_wp2_with fail
    have hga2 := World.grownBy_alloc w2 (.cells #[.int .i64 (nx : Nat), .slice none 0 0, .slice none 0 0] 75) none
    have HP1 := Lib.hid (show w.heap.size ≤ p by omega); have HP2 := Lib.hid (show p < w2.heap.size by omega); have HP3 := Lib.hid (show p ≠ w.heap.size + 1 by omega); have HP4 := Lib.hid (show p ≠ w.heap.size by omega)
    have HU1 := Lib.hid (show w.heap.size ≤ w2.heap.size by omega); have HU2 := Lib.hid (show w.heap.size + 1 < w2.heap.size by omega); have HU3 := Lib.hid (show w.heap.size < w2.heap.size by omega); have HPU := Lib.hid (show p ≠ w2.heap.size by omega)
    have HNN := Lib.hid (show some p ≠ none by simp)
    have HVP := Lib.hid (fun W v m xs h e => by have := (Own.base_ h p e).1; omega : ∀ (W : World) (v : Value) (m : Nat) (xs : List Value), Own W (w2.heap.size + 1) 129 6 v m xs → v.ownBlock ≠ some p)
    have HC2' := Lib.hid (HC2.out.grown hga2 (by simp)); have HB2' := Lib.hid (HB2.out.grown hga2 (by simp)); have HX2' := Lib.hid (HX2.out.grown hga2 (by simp)); have HG2' := Lib.hid (HG2.out.trans hga2); have HU0 := Lib.hid (Blk.new w2 75 #[.int .i64 (nx : Nat), .slice none 0 0, .slice none 0 0])
    clear hga2
    refine (read_any p (w.heap.size + 1) 4 236 1 126 l _ HC2'.out HB2'.out (by decide) HLT.out (by omega) (by rw [HLEN.out]; omega) (by rw [HLEN.out]; omega)).mono ?_
    rintro e w3 ⟨rfl, hr3, hc3⟩
    rw [HW1.out]
    have HG3 := Lib.hid (grownBy_new HG2'.out hr3 (fun j hj => by cases hj; exact HP1.out)); have HC3 := Lib.hid hc3; have HB3 := Lib.hid (HB2'.out.grown hr3 (by simpa using fun e => HP3.out e.symm)); have HX3 := Lib.hid (HX2'.out.grown hr3 (by simpa using fun e => HP4.out e.symm)); have HU3' := Lib.hid (HU0.out.grown hr3 (by simpa using fun e => HPU.out e.symm))
    clear hr3 hc3 HC2' HC2 HB2 HX2 HG2 HB2' HX2' HG2' HU0
    by_cases h8 : 8 < num l 4 1
    · have HNO := Lib.hid (HMORE.out h8)
      have h8'' : (8 : Int) < ((num l 4 1 : Nat) : Int) := by omega
      have x0 := HX3.out.cell 0; have x1 := HX3.out.cell 1; have x2 := HX3.out.cell 2; have f0 := HX3.out.frozen 0; have f1 := HX3.out.frozen 1; have f2 := HX3.out.frozen 2
      simp only [List.getElem?_toArray, List.getElem?_cons_zero, List.getElem?_cons_succ] at x0 x1 x2
      go_wp2_with fail
      refine ret_row2 rfl w.heap.size 75 _ _ rfl (Blk.set3 HX3.out) Try.underlying75 rfl (by kernel_rfl) rfl ⟨?_, .inr ⟨HNO.out, rfl⟩⟩
      repeat (refine grown_set ?_ (Nat.le_refl _) _)
      exact HG3.out
    · obtain ⟨N, hN⟩ : ∃ N, N = num l 4 1 := ⟨_, rfl⟩
      have hN8 : N ≤ 8 := by omega
      have HRN := Lib.hid (show r = if catW (nx : Int) (numsAt l 5 2 2 N) (volsN l) = some l then some ((nx : Int), numsAt l 5 2 2 N, volsN l) else none by rw [HR.out, HNX.out, Nat.min_eq_left (by omega), ← hN])
      have HN8 := Lib.hid hN8
      rw [← hN]
      clear h8 hN HR HMORE hN8
      have h8'' : ¬ ((8 : Int) < ((N : Nat) : Int)) := by have := HN8.out; omega
      go_wp2_with fail
      refine (take_any p (w.heap.size + 1) 5 235 16 _ HC3.out (by omega) (by omega)).mono ?_
      rintro e w4 ⟨⟨k4, rfl, hk4⟩, hr4, hc4⟩
      obtain rfl := hk4 (by omega)
      have hga4 := World.grownBy_alloc w4 (.cells #[.slice (some ⟨w.heap.size + 1, 5, none⟩) 16 16] 108) none
      have hsz4 := hr4.size
      have hsz3 := HU3'.out.lt
      have HG4 := Lib.hid ((grownBy_new HG3.out hr4 (fun j hj => by cases hj; exact HP1.out)).trans hga4); have HC4 := Lib.hid (hc4.grown hga4 (by simp)); have HB4 := Lib.hid ((HB3.out.grown hr4 (by simpa using fun e => HP3.out e.symm)).alloc (.cells #[.slice (some ⟨w.heap.size + 1, 5, none⟩) 16 16] 108)); have HX4 := Lib.hid ((HX3.out.grown hr4 (by simpa using fun e => HP4.out e.symm)).alloc (.cells #[.slice (some ⟨w.heap.size + 1, 5, none⟩) 16 16] 108)); have HU4 := Lib.hid ((HU3'.out.grown hr4 (by simpa using fun e => HPU.out e.symm)).alloc (.cells #[.slice (some ⟨w.heap.size + 1, 5, none⟩) 16 16] 108))
      have HQ4 := Lib.hid (⟨5, Blk.new w4 _ _, fun _ => rfl⟩ : Cur (w4.alloc (.cells #[.slice (some ⟨w.heap.size + 1, 5, none⟩) 16 16] 108)) w4.heap.size (w.heap.size + 1) 5 16)
      have HQN := Lib.hid (show w2.heap.size < w4.heap.size by omega)
      clear hga4 hr4 hc4 hsz4 hsz3 HG3 HC3 HB3 HX3 HU3'
      go_wp2_with fail
      refine (readall_any w4.heap.size (w.heap.size + 1) 5 16 N 2 126 l _ HQ4.out HB4.out (by decide) HLT.out (by have := HN8.out; omega) (by rw [HLEN.out]; omega) (by rw [HLEN.out]; omega) (by have := HN8.out; omega) (by omega)).mono ?_
      rintro e w5 ⟨v, rfl, hown, hr5, _⟩
      have HRK := Lib.hid (nums_range l 5 2 2 N HLT.out (by omega))
      obtain ⟨A5, c5, rfl, _, _, _⟩ := own_ints hown HRK.out
      have hqn := HQN.out
      have hu5 := HU4.out.grown hr5 (by simp; omega)
      have hcl := hu5.cell 2
      have hfr := hu5.frozen 2
      simp only [List.getElem?_toArray, List.getElem?_cons_zero, List.getElem?_cons_succ] at hcl
      have hu2 := HU2.out; have hu3 := HU3.out; have hu1 := HU1.out; have hp2 := HP2.out
      have hct : Ct w (w5.setCell ⟨w2.heap.size, 2, none⟩ (.slice A5 N c5)) p (w.heap.size + 1) w2.heap.size w.heap.size l nx N 0 (.slice none 0 0) (.slice A5 N c5) :=
        { grown := grown_set (grownBy_new HG4.out hr5 (fun j hj => by cases hj; omega)) hu1 _
          box := hu5.set_ 2 _
          zero := (HX4.out.grown hr5 (by simp; omega)).far (by simp; omega) _
          arr := (HB4.out.grown hr5 (by simp; omega)).far (by simp; omega) _
          vols := Own.nil _ _ _ _
          stk := (Own.set_far (g := w2.heap.size) (i := 2) hown (by rw [World.size_alloc]; omega) _).low (by rw [World.size_alloc]; omega)
          apart := fun g hg => by simp [Value.ownBlock] at hg }
      have hcr : Cur (w5.setCell ⟨w2.heap.size, 2, none⟩ (.slice A5 N c5)) p (w.heap.size + 1) 21 219 := by
        obtain ⟨k0, hb, hk⟩ := HC4.out.grown hr5 (by simp; omega)
        exact ⟨k0, hb.far (by simp; omega) _, hk⟩
      have CT5 := Lib.hid hct; have HC5 := Lib.hid hcr
      clear hct hcr hu5 hr5 hown hqn hu1 hu2 hu3 hp2 HG4 HC4 HB4 HX4 HU4 HQ4
      go_wp2_with fail
      clear hcl hfr
      go_loopw [29] (fun i wr => ∃ (j : Nat) (vv : Value), j ≤ 8 ∧ i = .int .i64 j ∧ Ct w wr p (w.heap.size + 1) w2.heap.size w.heap.size l nx N j vv (.slice A5 N c5) ∧ Cur wr p (w.heap.size + 1) (21 + 19 * j) (219 - 19 * j)) (fun i _ => 8 - (intOf i).toNat)
      case atStart => exact ⟨0, _, by omega, rfl, CT5.out, HC5.out⟩
      case round =>
        obtain ⟨j, vv, hj, rfl, hct, hcr⟩ := hrel
        have CT := Lib.hid hct; have HCR := Lib.hid hcr
        clear hct hcr
        by_cases hlt : j < 8
        · have hk1 := CT.out.box.cell 1
          simp only [List.getElem?_toArray, List.getElem?_cons_zero, List.getElem?_cons_succ] at hk1
          have HVS := Lib.hid (show i64s (volsT l (j + 1)) = i64s (volsT l j) ++ [.int .i64 (num l (21 + 19 * j) 4 : Nat), .int .i64 (num l (21 + 19 * j + 4) 1 : Nat), .int .i64 (num l (21 + 19 * j + 5) 4 : Nat), .int .i64 (num l (21 + 19 * j + 9) 4 : Nat), .int .i64 (num l (21 + 19 * j + 13) 2 : Nat), .int .i64 (num l (21 + 19 * j + 15) 4 : Nat)] by rw [volsT_succ, i64s_append]; rfl)
          go_wp2_with fail
          go_region_law (first
            | (go_simp
               go_at_call 74
               refine (getvolume_any p (w.heap.size + 1) (21 + 19 * j) (219 - 19 * j) 126 l _ ?_ ?_ ?_ HLT.out ?_ ?_ ?_).mono ?_
               exact HCR.out
               exact CT.out.arr
               decide
               omega
               (rw [HLEN.out]; omega)
               (rw [HLEN.out]; omega)
               rintro e w6 ⟨rfl, hr6, hc6⟩
               have hct6 := CT.out.drew.move hr6 HP1.out HP2.out HP3.out HP4.out
               have hk6 := hct6.box.cell 1
               have hkl6 := hct6.box.lt
               simp only [List.getElem?_toArray, List.getElem?_cons_zero, List.getElem?_cons_succ] at hk6
               have CT6 := Lib.hid hct6; have HC6 := Lib.hid hc6
               clear hr6 hc6 hct6)
            | (refine step_append_own_full _ rfl (.tmp 32) (.tmp 34) _ rfl (w2.heap.size + 1) 129 i0 _ 6 48 Try.underlying73 hi.out z0.out z1.out z2.out rfl HSIX.out vv j _ ?_ (CT6.out.vols.alloc _)
                 _ _ 1 1 _ ?_ (reads_one_vol _ _ _ _ _ _ _) ?_ ?_ ?_ ?_ ?_
               rfl
               rfl
               (intro u hu; simp at hu; rcases hu with rfl | rfl | rfl | rfl | rfl | rfl <;> rfl)
               (simp only [maxLen]; omega)
               omega
               (have := CT6.out.box.lt; simp; omega)
               intro v' w' hown' hgr'
               obtain ⟨A2, c2, hv2, _, _, _⟩ := hown'.shape
               subst hv2
               have hct7 := (CT6.out.alloc (.cells #[.int .i64 (num l (21 + 19 * j) 4 : Nat), .int .i64 (num l (21 + 19 * j + 4) 1 : Nat), .int .i64 (num l (21 + 19 * j + 5) 4 : Nat), .int .i64 (num l (21 + 19 * j + 9) 4 : Nat), .int .i64 (num l (21 + 19 * j + 13) 2 : Nat), .int .i64 (num l (21 + 19 * j + 15) 4 : Nat)] 129)).vol hgr' hown' HVS.out HU1.out HU2.out HU3.out
               have hc7 := cur_key (i := 1) (u := Value.slice A2 (j + 1) c2) (HC6.out.grown (World.grownBy_alloc w6 (.cells #[.int .i64 (num l (21 + 19 * j) 4 : Nat), .int .i64 (num l (21 + 19 * j + 4) 1 : Nat), .int .i64 (num l (21 + 19 * j + 5) 4 : Nat), .int .i64 (num l (21 + 19 * j + 9) 4 : Nat), .int .i64 (num l (21 + 19 * j + 13) 2 : Nat), .int .i64 (num l (21 + 19 * j + 15) 4 : Nat)] 129) none) HNN.out) hgr' (HVP.out _ _ _ _ CT6.out.vols) HPU.out
               have hbb := (CT6.out.alloc (.cells #[.int .i64 (num l (21 + 19 * j) 4 : Nat), .int .i64 (num l (21 + 19 * j + 4) 1 : Nat), .int .i64 (num l (21 + 19 * j + 5) 4 : Nat), .int .i64 (num l (21 + 19 * j + 9) 4 : Nat), .int .i64 (num l (21 + 19 * j + 13) 2 : Nat), .int .i64 (num l (21 + 19 * j + 15) 4 : Nat)] 129)).box.grown hgr'.1 (fun e => by have := (CT6.out.vols.base_ _ e.symm).1; omega)
               have hc1' := hbb.cell 1
               have hf1' := hbb.frozen 1
               simp only [List.getElem?_toArray, List.getElem?_cons_zero, List.getElem?_cons_succ] at hc1'
               have CT7 := Lib.hid hct7; have HC7 := Lib.hid hc7
               clear hct7 hc7 hbb hown' hgr'))
          all_goals
            go_wp2_with fail
            go_roundw
            case measure => simp [intOf]; omega
            case rel =>
              refine ⟨j + 1, _, by omega, by go_num, CT7.out, ?_⟩
              have h := HC7.out
              rwa [show 21 + 19 * j + 19 = 21 + 19 * (j + 1) from by omega, show 219 - 19 * j - 19 = 219 - 19 * (j + 1) from by omega] at h
        · obtain rfl : j = 8 := by omega
          have HRV := Lib.hid (volsT_range l 8 HLT.out)
          obtain ⟨A1, c1, rfl, hi1, _, _⟩ := own_vols CT.out.vols HRV.out
          obtain ⟨A2, c2, he2, hi2, _, _⟩ := own_ints CT.out.stk HRK.out
          simp only [Value.slice.injEq, true_and] at he2
          obtain ⟨rfl, rfl⟩ := he2
          have HI1 := Lib.hid hi1; have HI2 := Lib.hid hi2
          clear hi1 hi2
          have k0 := CT.out.box.cell 0; have k1 := CT.out.box.cell 1; have k2 := CT.out.box.cell 2
          simp only [List.getElem?_toArray, List.getElem?_cons_zero, List.getElem?_cons_succ] at k0 k1 k2
          go_wp2_with fail
          refine (codec_put_catalogue _ (nx : Int) A1 A5 8 c1 N c5 _ _ _ HI2.out HI1.out (by have := HN8.out; omega)).mono ?_
          clear k0 k1 k2
          rw [volsT_all]
          rintro e w8 hG
          have HZ9 := Lib.hid (CT.out.zero.grown hG.1 (by simp)); have HG9 := Lib.hid (CT.out.grown.trans hG.1); have HU9 := Lib.hid (CT.out.box.grown hG.1 (by simp))
          have HK9 := Lib.hid (CT.out.vols.keep hG.1 (by simp)); have HV9 := Lib.hid (CT.out.stk.keep hG.1 (by simp))
          have HGV := Lib.hid hG.2
          clear hG
          have x0 := HZ9.out.cell 0; have x1 := HZ9.out.cell 1; have x2 := HZ9.out.cell 2; have f0 := HZ9.out.frozen 0; have f1 := HZ9.out.frozen 1; have f2 := HZ9.out.frozen 2
          have y0 := HU9.out.cell 0; have y1 := HU9.out.cell 1; have y2 := HU9.out.cell 2
          have hul := HU9.out.lt
          simp only [List.getElem?_toArray, List.getElem?_cons_zero, List.getElem?_cons_succ] at x0 x1 x2 y0 y1 y2
          rcases HGV.out with ⟨l', g3, ho, rfl, _, hb3, hlt3⟩ | ⟨ho, rfl⟩
          · have HB3 := Lib.hid (blk_bytes (b := w8.heap.size) hb3 (by have := hb3.lt; omega) hlt3); have HW := Lib.hid ho
            have HL3 := Lib.hid (bytes_keepN HL0.out HG9.out)
            clear ho hb3
            go_wp2_with fail
            refine (comesback_any _ _ A _ _ _ c _ l l' _ HL3.out HB3.out).mono ?_
            rintro e w9 ⟨rfl, rfl⟩
            cases hd : decide (l = l') with
            | true =>
              have hl := of_decide_eq_true hd
              have HRX := Lib.hid (show r = some ((nx : Int), numsAt l 5 2 2 N, volsN l) by rw [HRN.out, if_pos (by rw [HW.out, ← hl])])
              clear hd hl
              go_wp2_with fail
              refine ret_row2 rfl w.heap.size 75 _ _ rfl (Blk.set3 HZ9.out) Try.underlying75 rfl (by kernel_rfl) rfl ⟨?_, .inl ⟨(nx : Int), numsAt l 5 2 2 N, volsN l, _, _, HRX.out, rfl, ?_, ?_, HRV.out, HRK.out⟩⟩
              · repeat (refine grown_set ?_ (Nat.le_refl _) _)
                exact HG9.out
              · exact (Own.set_far (Own.set_far (Own.set_far HK9.out (by omega) _) (by omega) _) (by omega) _).low (by omega)
              · rw [numsAt_length]
                exact (Own.set_far (Own.set_far (Own.set_far HV9.out (by omega) _) (by omega) _) (by omega) _).low (by omega)
            | false =>
              have hl := of_decide_eq_false hd
              have HRX := Lib.hid (show r = none by rw [HRN.out, if_neg (by rw [HW.out]; simpa using fun e => hl e.symm)])
              clear hd hl
              go_wp2_with fail
              refine ret_row2 rfl w.heap.size 75 _ _ rfl (Blk.set3 HZ9.out) Try.underlying75 rfl (by kernel_rfl) rfl ⟨?_, .inr ⟨HRX.out, rfl⟩⟩
              repeat (refine grown_set ?_ (Nat.le_refl _) _)
              exact HG9.out
          · have HRX := Lib.hid (show r = none by rw [HRN.out, if_neg (by rw [ho]; simp)])
            clear ho
            go_wp2_with fail
            refine (comesback_err A none _ 0 c 0 _).mono ?_
            rintro e w9 ⟨rfl, rfl⟩
            go_wp2_with fail
            refine ret_row2 rfl w.heap.size 75 _ _ rfl (Blk.set3 HZ9.out) Try.underlying75 rfl (by kernel_rfl) rfl ⟨?_, .inr ⟨HRX.out, rfl⟩⟩
            repeat (refine grown_set ?_ (Nat.le_refl _) _)
            exact HG9.out
  · have hno := catR_none l (by rw [HLEN.out]; exact h240)
    have HNO := Lib.hid hno; clear hno
    generalize catR l = r at *
    go_enter Try.func41, Try.ntmps41
    go_wp2_with fail
    refine (openbody_no A n c _ h240).mono ?_
    rintro e w1 ⟨rfl, rfl⟩
    go_wp2_with fail
    exact ret_row2 rfl w.heap.size 75 _ _ rfl (HBX.out.alloc _) Try.underlying75 rfl (by kernel_rfl) rfl ⟨HG0.out.trans (World.grownBy_alloc _ _ none), .inr ⟨HNO.out, rfl⟩⟩
end Go.Proofs.Ytkiohneggoiipaa.Codec
