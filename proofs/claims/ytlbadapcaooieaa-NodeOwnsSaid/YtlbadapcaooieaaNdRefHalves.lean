/- halves of the document's node. -/
import Derived.Test.YtlbadapcaooieaaNdRefFrom
namespace Go.Proofs.Ytlbadapcaooieaa.Node
open Go.RowKit CrcMath Mem Crc Codec NdSpec
set_option linter.unusedVariables false
set_option linter.unusedSimpArgs false

theorem ret_cell2 {P : Program} {fn : Func} {R : Ending → World → Prop} {a : Act} {w : World} {p q : Tmp} {ty ty' : TypeId} (h : fn.results = #[.cell p ty, .cell q ty'])
    (g : Nat) (t : TypeId) (cs : Array Value) (d : TypeDesc) (hp : a.tmps.getD p undef = .pointer (some ⟨g, 0, none⟩)) (hg : Blk w g t cs)
    (hu : P.underlying ty = some d) (hd : (match d with | .struct _ | .array _ _ => true | _ => false) = true) (hi : (P.info? ty).map (·.size) = some cs.size)
    (g' : Nat) (t' : TypeId) (cs' : Array Value) (d' : TypeDesc) (hp' : a.tmps.getD q undef = .pointer (some ⟨g', 0, none⟩)) (hg' : Blk w g' t' cs')
    (hu' : P.underlying ty' = some d') (hd' : (match d' with | .struct _ | .array _ _ => true | _ => false) = true) (hi' : (P.info? ty').map (·.size) = some cs'.size) (hdf : a.defers = [])
    (hR : R (.returned (.tuple #[.agg cs, .agg cs'])) w) : bodyPost P fn R .ret a w := by
  have hp1 : a.tmps[p]?.getD undef = .pointer (some ⟨g, 0, none⟩) := by simpa using hp
  have hp2 : a.tmps[q]?.getD undef = .pointer (some ⟨g', 0, none⟩) := by simpa using hp'
  refine bodyPost_ret (v := .tuple #[.agg cs, .agg cs']) ?_ hdf hR
  simp [results, h, hp1, hp2, asAddr, run_loadVar_row w g t ty cs (0, 0) d hg hu hd hi, run_loadVar_row w g' t' ty' cs' (0, 0) d' hg' hu' hd' hi', Result.andThen]
theorem rfrom_first {w : World} {A A' : Option Addr} {n n' c c' : Nat} {ks vs : List Int} (lf : Bool) (z : Nat) (h : NdAt w A A' n n' c c' ks vs) (hz : z ≤ n) (hz' : z ≤ n') (h16 : z ≤ 16) :
    Calls Try.prog 35 #[.agg #[.bool lf, .slice A n c, .slice A' n' c'], .int .i64 0, .int .i64 (z : Nat)] w fun e w' => w.grownBy w' none ∧
      ∃ E E' L L' e1 e1', e = .returned (.agg #[.bool lf, .slice E L e1, .slice E' L' e1']) ∧ NdOwn w' w.heap.size (.slice E L e1) (.slice E' L' e1') (ks.take z) (vs.take z) := by
  refine (rfrom_call lf 0 z h (Nat.zero_le _) hz hz' h16).mono ?_
  rintro e w' ⟨hg, E, E', L, L', e1, e1', rfl, ho⟩
  exact ⟨hg, E, E', L, L', e1, e1', rfl, by simpa [cut] using ho⟩
theorem rfrom_rest {w : World} {A A' : Option Addr} {n c c' : Nat} {ks vs : List Int} (lf : Bool) (a : Nat) (h : NdAt w A A' n n c c' ks vs) (ha : a ≤ n) (h16 : n ≤ 16) :
    Calls Try.prog 35 #[.agg #[.bool lf, .slice A n c, .slice A' n c'], .int .i64 (a : Nat), .int .i64 (n : Nat)] w fun e w' => w.grownBy w' none ∧
      ∃ E E' L L' e1 e1', e = .returned (.agg #[.bool lf, .slice E L e1, .slice E' L' e1']) ∧ NdOwn w' w.heap.size (.slice E L e1) (.slice E' L' e1') (ks.drop a) (vs.drop a) := by
  refine (rfrom_call lf a n h ha (Nat.le_refl _) (Nat.le_refl _) h16).mono ?_
  rintro e w' ⟨hg, E, E', L, L', e1, e1', rfl, ho⟩
  refine ⟨hg, E, E', L, L', e1, e1', rfl, ?_⟩
  have e1 : cut ks a n = ks.drop a := tail_of h.klen
  have e2 : cut vs a n = vs.drop a := tail_of h.vlen
  rwa [e1, e2] at ho

/-- What the document's halves leaves. -/
def Told2h (w : World) (r : Nd × Nd) (e : Ending) (w' : World) : Prop :=
  w.grownBy w' none ∧ ∃ E E' L L' e1 e1' F F' M M' f1 f1', e = .returned (.tuple #[.agg #[.bool r.1.1, .slice E L e1, .slice E' L' e1'], .agg #[.bool r.2.1, .slice F M f1, .slice F' M' f1']]) ∧
    NdOwn w' w.heap.size (.slice E L e1) (.slice E' L' e1') r.1.2.1 r.1.2.2 ∧ NdOwn w' w.heap.size (.slice F M f1) (.slice F' M' f1') r.2.2.1 r.2.2.2 ∧ Apart2 (.slice E L e1) (.slice E' L' e1') (.slice F M f1) (.slice F' M' f1')
set_option maxRecDepth 100000 in
set_option maxHeartbeats 3200000 in
theorem rhalves_call {w : World} {A A' : Option Addr} {n c c' : Nat} {ks vs : List Int} (lf : Bool) (h : NdAt w A A' n n c c' ks vs) (h16 : n ≤ 16) :
    Calls Try.prog 37 #[.agg #[.bool lf, .slice A n c, .slice A' n c']] w (Told2h w ((lf, ks.take (half ks), vs.take (half ks)), (lf, ks.drop (half ks), vs.drop (half ks)))) := by
  have hkl := h.klen; have hvl := h.vlen
  have hg0 := ((World.grownBy_alloc w (.cells #[.bool lf, .slice A n c, .slice A' n c'] 24) none).trans (World.grownBy_alloc _ (.cells #[.bool false, .slice none 0 0, .slice none 0 0] 24) none)).trans (World.grownBy_alloc _ (.cells #[.bool false, .slice none 0 0, .slice none 0 0] 24) none)
  obtain ⟨hb0, hb1, hb2⟩ := three3 w 24 #[.bool lf, .slice A n c, .slice A' n c'] #[.bool false, .slice none 0 0, .slice none 0 0] #[.bool false, .slice none 0 0, .slice none 0 0]
  have HG0 := Lib.hid hg0; have HB1 := Lib.hid hb1; have HB2 := Lib.hid hb2
  have HBX := Lib.hid hb0
  have HH := Lib.hid (h.keep hg0)
  obtain ⟨hf, hhf⟩ : ∃ hf, half ks = hf := ⟨_, rfl⟩
  have hhf2 : hf = (n + 1) / 2 := by rw [← hhf]; unfold half; rw [hkl]
  rw [hhf]
  have hq : ((n : Int)).tdiv 2 = ((n / 2 : Nat) : Int) := by rw [Int.tdiv_eq_ediv_of_nonneg (by omega)]; omega
  obtain ⟨h2, hh2⟩ : ∃ h2, n / 2 = h2 := ⟨_, rfl⟩
  rw [hh2] at hq
  have hw : IntKind.i64.wrap ((n : Int) - (h2 : Nat)) = ((hf : Nat) : Int) := by rw [show (n : Int) - (h2 : Nat) = ((hf : Nat) : Int) from by omega]; exact IntWalk.i64_in _ (by omega)
  have hf1 : hf ≤ n := by omega
  have h2b : h2 ≤ n := by omega
  have HF1 := Lib.hid hf1; have HF16 := Lib.hid (show hf ≤ 16 by omega); have H16 := Lib.hid h16
  clear h hkl hvl hg0 hb0 hb1 hb2 hhf hhf2 hh2
  have HNE1 := Lib.hid (show w.heap.size ≠ w.heap.size + 1 by omega); have HNE2 := Lib.hid (show w.heap.size ≠ w.heap.size + 1 + 1 by omega)
  go_enter Try.func37, Try.ntmps37
  go_wp2_with fail
  clear hq hw
  go_region_held3 (fun W => W.cell? ⟨w.heap.size, 0, none⟩ = some (.bool lf) ∧ W.cell? ⟨w.heap.size, 1, none⟩ = some (.slice A n c) ∧ W.cell? ⟨w.heap.size, 2, none⟩ = some (.slice A' n c'))
    (first
      | go_keep
      | with_reducible exact box3 HBX.out.drew
      | with_reducible exact box3 HX1.out
      | with_reducible exact box3 HX2.out
      | with_reducible exact box3 (blk_far3 HX2.out HNE1.out _ _ _)
      | with_reducible exact box3 (blk_far3 (blk_far3 HX2.out HNE1.out _ _ _) HNE2.out _ _ _))
    (first
      | (go_at_call_of 35 (Value.int IntKind.i64 0)
         with_reducible refine (rfrom_first lf hf (HH.out.keep (grown_drew _ none)) HF1.out HF1.out HF16.out).mono ?_
         rintro e w2 ⟨hg, E, E', L, L', e1, e1', rfl, ho⟩
         have HX1 := Lib.hid (HBX.out.drew.grown hg (by simp)); have HG1 := Lib.hid ((grown_drew _ none).trans hg); have HO1 := Lib.hid ho
         clear hg ho)
      | (go_at_call_of 35 (Value.int IntKind.i64 hf)
         with_reducible refine (rfrom_rest lf hf (HH.out.keep HG1.out) HF1.out H16.out).mono ?_
         rintro e w5 ⟨hg, F, F', M, M', f1, f1', rfl, ho⟩
         have HX2 := Lib.hid (HX1.out.grown hg (by simp)); have HG4 := Lib.hid (HG1.out.trans hg); have HO3 := Lib.hid (HO1.out.keep hg); have HO4 := Lib.hid ho
         have HAP := Lib.hid (Apart2.of HO1.out ho (Nat.le_refl _))
         have HB1e := Lib.hid (HB1.out.grown HG4.out (by simp)); have HB2e := Lib.hid (HB2.out.grown HG4.out (by simp))
         obtain ⟨p0, p1, p2⟩ := box3 HB1e.out
         obtain ⟨q0, q1, q2⟩ := box3 HB2e.out
         have u0 := HB1e.out.frozen 0; have u1 := HB1e.out.frozen 1; have u2 := HB1e.out.frozen 2
         have g0 := HB2e.out.frozen 0; have g1 := HB2e.out.frozen 1; have g2 := HB2e.out.frozen 2
         clear hg ho))
  go_wp2_with fail
  have hs1 := HB2.out.lt
  have hs2 := HG1.out.size
  refine ret_cell2 rfl (w.heap.size + 1) 24 _ _ rfl (blk_far3 (Blk.set3 HB1e.out) (by omega) _ _ _) Try.underlying24 rfl (by kernel_rfl) (w.heap.size + 1 + 1) 24 _ _ rfl (Blk.set3 (blk_far3 HB2e.out (by omega) _ _ _)) Try.underlying24 rfl (by kernel_rfl) rfl ⟨?_, _, _, _, _, _, _, _, _, _, _, _, _, rfl, ?_, ?_, HAP.out⟩
  · repeat (refine grown_set1 ?_ (by omega) _)
    exact HG0.out.trans HG4.out
  · refine own_far33 HO3.out ?_ ?_ ?_ _ _ _ _ _ _
    all_goals (simp only [World.drew] at *; omega)
  · refine own_far33 HO4.out ?_ ?_ ?_ _ _ _ _ _ _
    all_goals (simp only [World.drew] at *; omega)
end Go.Proofs.Ytlbadapcaooieaa.Node
