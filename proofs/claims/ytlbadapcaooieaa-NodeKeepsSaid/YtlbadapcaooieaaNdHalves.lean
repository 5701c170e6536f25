/- halves: a node's first half, rounded up, and the others. -/
import Derived.Test.YtlbadapcaooieaaNdLaid
namespace Go.Proofs.Ytlbadapcaooieaa.Node
open Go.RowKit CrcMath Mem Crc Codec NdSpec
set_option linter.unusedVariables false
set_option linter.unusedSimpArgs false

theorem piece_first {w : World} {A A' : Option Addr} {n n' c c' : Nat} {ks vs : List Int} (lf : Bool) (z : Nat) (h : NdAt w A A' n n' c c' ks vs) (hz : z ≤ n) (hz' : z ≤ n') :
    Calls Try.prog 34 #[.agg #[.bool lf, .slice A n c, .slice A' n' c'], .int .i64 0, .int .i64 (z : Nat)] w fun e w' => w.grownBy w' none ∧
      ∃ A1 A1', e = .returned (.agg #[.bool lf, .slice A1 z c, .slice A1' z c']) ∧ NdAt w' A1 A1' z z c c' (ks.take z) (vs.take z) := by
  refine (piece_call lf 0 z h (Nat.zero_le _) hz hz').mono ?_
  rintro e w' ⟨hg, A1, A1', rfl, hat⟩
  refine ⟨hg, A1, A1', rfl, ?_⟩
  simpa using hat
theorem tail_of {l : List Int} {a n : Nat} (h : l.length = n) : (l.drop a).take (n - a) = l.drop a := by
  rw [List.take_of_length_le]
  rw [List.length_drop]
  omega
theorem piece_rest {w : World} {A A' : Option Addr} {n c c' : Nat} {ks vs : List Int} (lf : Bool) (a : Nat) (h : NdAt w A A' n n c c' ks vs) (ha : a ≤ n) :
    Calls Try.prog 34 #[.agg #[.bool lf, .slice A n c, .slice A' n c'], .int .i64 (a : Nat), .int .i64 (n : Nat)] w fun e w' => w.grownBy w' none ∧
      ∃ A1 A1', e = .returned (.agg #[.bool lf, .slice A1 (n - a) (c - a), .slice A1' (n - a) (c' - a)]) ∧ NdAt w' A1 A1' (n - a) (n - a) (c - a) (c' - a) (ks.drop a) (vs.drop a) := by
  refine (piece_call lf a n h ha (Nat.le_refl _) (Nat.le_refl _)).mono ?_
  rintro e w' ⟨hg, A1, A1', rfl, hat⟩
  refine ⟨hg, A1, A1', rfl, ?_⟩
  rwa [tail_of h.klen, tail_of h.vlen] at hat
theorem laid1_call {w : World} {A A' : Option Addr} {n n' c c' : Nat} {ks vs : List Int} (lf : Bool) (h : NdAt w A A' n n' c c' ks vs) (h16 : n ≤ 16) (h16' : n' ≤ 16) (cap : Nat) :
    Calls Try.prog 33 #[.slice (some ⟨w.heap.size, 0, none⟩) 1 cap] (w.alloc (.cells #[.bool lf, .slice A n c, .slice A' n' c'] 24)) fun e w' =>
      w.grownBy w' none ∧ ∃ v1 v2, e = .returned (.agg #[.bool lf, v1, v2]) ∧ NdOwn w' w.heap.size v1 v2 ks vs := by
  refine (laid_call [⟨lf, A, A', n, n', c, c', ks, vs⟩] (Blk.new w _ _) ?_ (by simp) ?_).mono ?_
  · intro p hp
    simp only [List.mem_singleton] at hp
    subst hp
    exact h.alloc _
  · intro p hp
    simp only [List.mem_singleton] at hp
    subst hp
    exact ⟨h16, h16'⟩
  · rintro e w' ⟨hg, v1, v2, rfl, ho⟩
    refine ⟨(World.grownBy_alloc w _ none).trans hg, v1, v2, rfl, ?_⟩
    have ho' := ho.low (b := w.heap.size) (by rw [World.size_alloc]; omega)
    simpa [allKs, allVs] using ho'
theorem laid2_at {w : World} {g : Nat} {A A' B B' : Option Addr} {n n' c c' m m' d d' : Nat} {ks vs ks' vs' : List Int} {lf lf' : Bool} (hb : Blk w g 24 #[.bool lf, .slice A n c, .slice A' n' c', .bool lf', .slice B m d, .slice B' m' d'])
    (h : NdAt w A A' n n' c c' ks vs) (k : NdAt w B B' m m' d d' ks' vs') (h16 : n ≤ 16) (h16' : n' ≤ 16) (k16 : m ≤ 16) (k16' : m' ≤ 16) (cap : Nat) :
    Calls Try.prog 33 #[.slice (some ⟨g, 0, none⟩) 2 cap] w fun e w' =>
      w.grownBy w' none ∧ ∃ E E' L L' e1 e1', e = .returned (.agg #[.bool lf', .slice E L e1, .slice E' L' e1']) ∧ NdOwn w' w.heap.size (.slice E L e1) (.slice E' L' e1') (ks ++ ks') (vs ++ vs') := by
  refine (laid_call [⟨lf, A, A', n, n', c, c', ks, vs⟩, ⟨lf', B, B', m, m', d, d', ks', vs'⟩] hb ?_ (by simp) ?_).mono ?_
  · intro p hp
    simp only [List.mem_cons, List.not_mem_nil, or_false] at hp
    rcases hp with rfl | rfl
    · exact h
    · exact k
  · intro p hp
    simp only [List.mem_cons, List.not_mem_nil, or_false] at hp
    rcases hp with rfl | rfl
    · exact ⟨h16, h16'⟩
    · exact ⟨k16, k16'⟩
  · rintro e w' ⟨hg, v1, v2, rfl, ho⟩
    have ho' : NdOwn w' w.heap.size v1 v2 (ks ++ ks') (vs ++ vs') := by simpa [allKs, allVs] using ho
    obtain ⟨E, E', e1, e1', rfl, rfl, _⟩ := ho'.at_
    exact ⟨hg, E, E', _, _, e1, e1', rfl, ho'⟩
theorem laid3_at {w : World} {g : Nat} {A A' B B' E E' : Option Addr} {n n' c c' m m' d d' l l' f f' : Nat} {ks vs ks' vs' ks2 vs2 : List Int} {lf lf' lf2 : Bool}
    (hb : Blk w g 24 #[.bool lf, .slice A n c, .slice A' n' c', .bool lf', .slice B m d, .slice B' m' d', .bool lf2, .slice E l f, .slice E' l' f'])
    (h : NdAt w A A' n n' c c' ks vs) (k : NdAt w B B' m m' d d' ks' vs') (q : NdAt w E E' l l' f f' ks2 vs2)
    (h16 : n ≤ 16) (h16' : n' ≤ 16) (k16 : m ≤ 16) (k16' : m' ≤ 16) (q16 : l ≤ 16) (q16' : l' ≤ 16) (cap : Nat) :
    Calls Try.prog 33 #[.slice (some ⟨g, 0, none⟩) 3 cap] w fun e w' =>
      w.grownBy w' none ∧ ∃ F F' L L' e1 e1', e = .returned (.agg #[.bool lf2, .slice F L e1, .slice F' L' e1']) ∧
        NdOwn w' w.heap.size (.slice F L e1) (.slice F' L' e1') (ks ++ (ks' ++ ks2)) (vs ++ (vs' ++ vs2)) := by
  refine (laid_call [⟨lf, A, A', n, n', c, c', ks, vs⟩, ⟨lf', B, B', m, m', d, d', ks', vs'⟩, ⟨lf2, E, E', l, l', f, f', ks2, vs2⟩] hb ?_ (by simp) ?_).mono ?_
  · intro p hp
    simp only [List.mem_cons, List.not_mem_nil, or_false] at hp
    rcases hp with rfl | rfl | rfl
    · exact h
    · exact k
    · exact q
  · intro p hp
    simp only [List.mem_cons, List.not_mem_nil, or_false] at hp
    rcases hp with rfl | rfl | rfl
    · exact ⟨h16, h16'⟩
    · exact ⟨k16, k16'⟩
    · exact ⟨q16, q16'⟩
  · rintro e w' ⟨hg, v1, v2, rfl, ho⟩
    have ho' : NdOwn w' w.heap.size v1 v2 (ks ++ (ks' ++ ks2)) (vs ++ (vs' ++ vs2)) := by simpa [allKs, allVs] using ho
    obtain ⟨F, F', e1, e1', rfl, rfl, _⟩ := ho'.at_
    exact ⟨hg, F, F', _, _, e1, e1', rfl, ho'⟩
theorem three2 (w : World) (a : Obj) (t : TypeId) (cs cs' : Array Value) :
    Blk ((((w.alloc a).alloc (.cells cs t)).alloc (.cells cs' t))) (w.heap.size + 1) t cs ∧ Blk ((((w.alloc a).alloc (.cells cs t)).alloc (.cells cs' t))) (w.heap.size + 1 + 1) t cs' := by
  refine ⟨(new2 w a t cs).alloc _, ?_⟩
  have := Blk.new ((w.alloc a).alloc (.cells cs t)) t cs'
  rwa [World.size_alloc, World.size_alloc] at this
theorem two2 (w : World) (t : TypeId) (cs cs' : Array Value) :
    Blk ((w.alloc (.cells cs t)).alloc (.cells cs' t)) w.heap.size t cs ∧ Blk ((w.alloc (.cells cs t)).alloc (.cells cs' t)) (w.heap.size + 1) t cs' :=
  ⟨(Blk.new w t cs).alloc _, new2 w _ t cs'⟩
theorem three3 (w : World) (t : TypeId) (cs cs' cs2 : Array Value) :
    Blk (((w.alloc (.cells cs t)).alloc (.cells cs' t)).alloc (.cells cs2 t)) w.heap.size t cs ∧ Blk (((w.alloc (.cells cs t)).alloc (.cells cs' t)).alloc (.cells cs2 t)) (w.heap.size + 1) t cs' ∧
      Blk (((w.alloc (.cells cs t)).alloc (.cells cs' t)).alloc (.cells cs2 t)) (w.heap.size + 1 + 1) t cs2 :=
  ⟨(two2 w t cs cs').1.alloc _, three2 w (.cells cs t) t cs' cs2⟩
theorem box3 {w : World} {g : Nat} {t : TypeId} {a b c : Value} (h : Blk w g t #[a, b, c]) : w.cell? ⟨g, 0, none⟩ = some a ∧ w.cell? ⟨g, 1, none⟩ = some b ∧ w.cell? ⟨g, 2, none⟩ = some c := ⟨h.cell 0, h.cell 1, h.cell 2⟩
theorem blk_far3 {w : World} {g : Nat} {t : TypeId} {cs : Array Value} (h : Blk w g t cs) {b : Nat} (hp : g ≠ b) (u0 u1 u2 : Value) :
    Blk (((w.setCell ⟨b, 0, none⟩ u0).setCell ⟨b, 1, none⟩ u1).setCell ⟨b, 2, none⟩ u2) g t cs := ((h.far hp u0).far hp u1).far hp u2

theorem own_far33 {w : World} {base b : Nat} {v1 v2 : Value} {ks vs : List Int} (h : NdOwn w base v1 v2 ks vs) {g g' : Nat} (hg : g < base) (hg' : g' < base) (hb : b ≤ base) (u0 u1 u2 u3 u4 u5 : Value) :
    NdOwn ((((((w.setCell ⟨g, 0, none⟩ u0).setCell ⟨g, 1, none⟩ u1).setCell ⟨g, 2, none⟩ u2).setCell ⟨g', 0, none⟩ u3).setCell ⟨g', 1, none⟩ u4).setCell ⟨g', 2, none⟩ u5) b v1 v2 ks vs :=
  ((((((h.far hg u0).far hg u1).far hg u2).far hg' u3).far hg' u4).far hg' u5).low hb
theorem own_far3 {w : World} {base b : Nat} {v1 v2 : Value} {ks vs : List Int} (h : NdOwn w base v1 v2 ks vs) {g : Nat} (hg : g < base) (hb : b ≤ base) (u0 u1 u2 : Value) :
    NdOwn (((w.setCell ⟨g, 0, none⟩ u0).setCell ⟨g, 1, none⟩ u1).setCell ⟨g, 2, none⟩ u2) b v1 v2 ks vs :=
  (((h.far hg u0).far hg u1).far hg u2).low hb

set_option maxRecDepth 100000 in
set_option maxHeartbeats 3200000 in
theorem halves_call {w : World} {A A' : Option Addr} {n c c' : Nat} {ks vs : List Int} (lf : Bool) (h : NdAt w A A' n n c c' ks vs) (h16 : n ≤ 16) :
    Calls Try.prog 36 #[.agg #[.bool lf, .slice A n c, .slice A' n c']] w (Told2 w (halvesR lf ks vs)) := by
  have hkl := h.klen; have hvl := h.vlen
  have hg0 := ((World.grownBy_alloc w (.cells #[.bool lf, .slice A n c, .slice A' n c'] 24) none).trans (World.grownBy_alloc _ (.cells #[.bool false, .slice none 0 0, .slice none 0 0] 24) none)).trans (World.grownBy_alloc _ (.cells #[.bool false, .slice none 0 0, .slice none 0 0] 24) none)
  obtain ⟨hb1, hb2⟩ := three2 w (.cells #[.bool lf, .slice A n c, .slice A' n c'] 24) 24 #[.bool false, .slice none 0 0, .slice none 0 0] #[.bool false, .slice none 0 0, .slice none 0 0]
  have HG0 := Lib.hid hg0; have HB1 := Lib.hid hb1; have HB2 := Lib.hid hb2
  have HBX := Lib.hid (((Blk.new w 24 #[.bool lf, .slice A n c, .slice A' n c']).alloc (.cells #[.bool false, .slice none 0 0, .slice none 0 0] 24)).alloc (.cells #[.bool false, .slice none 0 0, .slice none 0 0] 24))
  have HH := Lib.hid (h.keep hg0)
  by_cases h2 : n < 2
  · have hr : halvesR lf ks vs = (22, nil, nil) := by unfold halvesR; rw [if_pos (by omega)]
    rw [hr]
    clear h hkl hvl hg0 hr hb1 hb2
    go_enter Try.func36, Try.ntmps36
    go_wp2_with fail
    refine ret_cell22 rfl (w.heap.size + 1) 24 _ _ rfl HB1.out Try.underlying24 rfl (by kernel_rfl) (w.heap.size + 1 + 1) 24 _ _ rfl HB2.out Try.underlying24 rfl (by kernel_rfl) rfl ⟨HG0.out, _, _, _, _, rfl, NdOwn.nil _ _, NdOwn.nil _ _, Apart2.nil _ _⟩
  · obtain ⟨hf, hhf⟩ : ∃ hf, hf = (n + 1) / 2 := ⟨_, rfl⟩
    have hr : halvesR lf ks vs = (0, (lf, ks.take hf, vs.take hf), (lf, ks.drop hf, vs.drop hf)) := by unfold halvesR half; rw [if_neg (by omega), hkl, hhf]
    rw [hr]
    have hq : ((n : Int) + 1).tdiv 2 = hf := by rw [Int.tdiv_eq_ediv_of_nonneg (by omega)]; omega
    have HKL := Lib.hid hkl; have HVL := Lib.hid hvl
    have hf1 : hf ≤ n := by omega
    have hf0 : 0 < hf := by omega
    have hf16 : hf ≤ 16 := by omega
    have hfn : n - hf ≤ 16 := by omega
    have HHF := Lib.hid hhf
    clear h hkl hvl hg0 hr hb1 hb2 hhf
    go_enter Try.func36, Try.ntmps36
    go_wp2_with fail
    clear hq
    have HNE1 := Lib.hid (show w.heap.size ≠ w.heap.size + 1 by omega); have HNE2 := Lib.hid (show w.heap.size ≠ w.heap.size + 1 + 1 by omega)
    go_region_held3 (fun W => W.cell? ⟨w.heap.size, 0, none⟩ = some (.bool lf) ∧ W.cell? ⟨w.heap.size, 1, none⟩ = some (.slice A n c) ∧ W.cell? ⟨w.heap.size, 2, none⟩ = some (.slice A' n c'))
      (first
        | go_keep
        | with_reducible exact box3 HBX.out.drew
        | with_reducible exact box3 HX1.out
        | with_reducible exact box3 (HX1.out.alloc _)
        | with_reducible exact box3 HX2.out
        | with_reducible exact box3 HX3.out
        | with_reducible exact box3 (HX3.out.alloc _)
        | with_reducible exact box3 HX4.out
        | with_reducible exact box3 (blk_far3 HX4.out HNE1.out _ _ _)
        | with_reducible exact box3 (blk_far3 (blk_far3 HX4.out HNE1.out _ _ _) HNE2.out _ _ _))
      (first
        | (go_at_call_of 34 (Value.int IntKind.i64 0)
           with_reducible refine (piece_first lf hf (HH.out.keep (grown_drew _ none)) hf1 hf1).mono ?_
           rintro e w2 ⟨hg, A1, A1', rfl, hat⟩
           have HX1 := Lib.hid (HBX.out.drew.grown hg (by simp)); have HG1 := Lib.hid ((grown_drew _ none).trans hg); have HA1 := Lib.hid hat
           clear hg hat)
        | (go_at_call 33
           with_reducible refine (laid1_call lf HA1.out hf16 hf16 _).mono ?_
           rintro e w3 ⟨hg, v1, v2, rfl, ho⟩
           obtain ⟨E1, E1', d1, d1', rfl, rfl, _⟩ := ho.at_
           have HX2 := Lib.hid (HX1.out.grown hg (by simp)); have HG2 := Lib.hid (HG1.out.trans hg); have HO1 := Lib.hid ho
           clear hg ho)
        | (go_at_call_of 34 (Value.int IntKind.i64 hf)
           with_reducible refine (piece_rest lf hf (HH.out.keep HG2.out) hf1).mono ?_
           rintro e w4 ⟨hg, A2, A2', rfl, hat⟩
           have HX3 := Lib.hid (HX2.out.grown hg (by simp)); have HG3 := Lib.hid (HG2.out.trans hg); have HO2 := Lib.hid (HO1.out.keep hg); have HA2 := Lib.hid hat
           clear hg hat)
        | (go_at_call 33
           with_reducible refine (laid1_call lf HA2.out hfn hfn _).mono ?_
           rintro e w5 ⟨hg, v3, v4, rfl, ho⟩
           obtain ⟨E2, E2', d2, d2', rfl, rfl, _⟩ := ho.at_
           have HX4 := Lib.hid (HX3.out.grown hg (by simp)); have HG4 := Lib.hid (HG3.out.trans hg); have HO3 := Lib.hid (HO2.out.keep hg); have HO4 := Lib.hid ho
           have HAP := Lib.hid (Apart2.of HO2.out ho (Nat.le_refl _))
           have HB1e := Lib.hid (HB1.out.grown HG4.out (by simp)); have HB2e := Lib.hid (HB2.out.grown HG4.out (by simp))
           obtain ⟨p0, p1, p2⟩ := box3 HB1e.out
           obtain ⟨q0, q1, q2⟩ := box3 HB2e.out
           have f0 := HB1e.out.frozen 0; have f1 := HB1e.out.frozen 1; have f2 := HB1e.out.frozen 2
           have g0 := HB2e.out.frozen 0; have g1 := HB2e.out.frozen 1; have g2 := HB2e.out.frozen 2
           clear hg ho))
    go_wp2_with fail
    have hs1 := HG1.out.size
    have hs2 := HG3.out.size
    rw [World.size_alloc, World.size_alloc, World.size_alloc] at hs1 hs2
    refine ret_cell22 rfl (w.heap.size + 1) 24 _ _ rfl (blk_far3 (Blk.set3 HB1e.out) (by omega) _ _ _) Try.underlying24 rfl (by kernel_rfl) (w.heap.size + 1 + 1) 24 _ _ rfl (Blk.set3 (blk_far3 HB2e.out (by omega) _ _ _)) Try.underlying24 rfl (by kernel_rfl) rfl ⟨?_, _, _, _, _, rfl, ?_, ?_, ?_⟩
    · repeat (refine grown_set1 ?_ (by omega) _)
      exact HG0.out.trans HG4.out
    · have o := HO3.out
      simp only [List.length_take, List.length_drop] at o
      refine own_far33 o ?_ ?_ ?_ _ _ _ _ _ _
      all_goals omega
    · have o := HO4.out
      simp only [List.length_take, List.length_drop] at o
      refine own_far33 o ?_ ?_ ?_ _ _ _ _ _ _
      all_goals omega
    · have o := HAP.out
      simp only [List.length_take, List.length_drop] at o
      exact o
end Go.Proofs.Ytlbadapcaooieaa.Node
