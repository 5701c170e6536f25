/- laid: pieces of nodes, one behind the other, in new memory. -/
import Derived.Test.YtlbadapcaooieaaNdPiece
import Derived.Test.YtlbadapcaooieaaNdGrow
namespace Go.Proofs.Ytlbadapcaooieaa.Node
open Go.RowKit CrcMath Mem Crc Codec NdSpec
set_option linter.unusedVariables false
set_option linter.unusedSimpArgs false

/-- A piece that is handed in. -/
structure Pc where
  lf : Bool
  A : Option Addr
  A' : Option Addr
  n : Nat
  n' : Nat
  c : Nat
  c' : Nat
  ks : List Int
  vs : List Int
def Pc.at_ (p : Pc) (w : World) : Prop := NdAt w p.A p.A' p.n p.n' p.c p.c' p.ks p.vs
def Pc.cells (p : Pc) : List Value := [.bool p.lf, .slice p.A p.n p.c, .slice p.A' p.n' p.c']
def flat (ps : List Pc) : List Value := ps.flatMap Pc.cells
theorem flat_at : ∀ (ps : List Pc) (j : Nat) (p : Pc), ps[j]? = some p → (flat ps)[j * 3]? = some (.bool p.lf) ∧ (flat ps)[j * 3 + 1]? = some (.slice p.A p.n p.c) ∧ (flat ps)[j * 3 + 2]? = some (.slice p.A' p.n' p.c')
  | [], j, p, h => by simp at h
  | q :: ps, 0, p, h => by
    simp at h
    subst h
    exact ⟨rfl, rfl, rfl⟩
  | q :: ps, j + 1, p, h => by
    have := flat_at ps j p (by simpa using h)
    rw [show (j + 1) * 3 = j * 3 + 3 by omega, show flat (q :: ps) = .bool q.lf :: .slice q.A q.n q.c :: .slice q.A' q.n' q.c' :: flat ps from rfl]
    exact this
def lastLf (b : Bool) : List Pc → Bool
  | [] => b
  | p :: ps => lastLf p.lf ps
theorem lastLf_snoc : ∀ (b : Bool) (ps : List Pc) (p : Pc), lastLf b (ps ++ [p]) = p.lf
  | _, [], _ => rfl
  | _, q :: ps, p => lastLf_snoc q.lf ps p
def allKs (ps : List Pc) : List Int := ps.flatMap Pc.ks
def allVs (ps : List Pc) : List Int := ps.flatMap Pc.vs
theorem info_int : ∃ i, Try.prog.info? 3 = some i ∧ i.zero = some (.int .i64 0) ∧ i.size = 1 ∧ i.bytes = 8 := by
  have h := int_info
  cases hi : Try.prog.info? 3 with
  | none => rw [hi] at h; cases h
  | some i =>
    rw [hi] at h
    simp only [Option.map_some, Option.some.injEq, Prod.mk.injEq] at h
    exact ⟨i, rfl, h.1, h.2.1, h.2.2⟩

set_option maxRecDepth 100000 in
set_option maxHeartbeats 1600000 in
theorem laid_call {w : World} {g cap : Nat} (ps : List Pc) (hb : Blk w g 24 (flat ps).toArray) (hp : ∀ p ∈ ps, p.at_ w) (h3 : ps.length ≤ 3) (hk : ∀ p ∈ ps, p.n ≤ 16 ∧ p.n' ≤ 16) :
    Calls Try.prog 33 #[.slice (some ⟨g, 0, none⟩) ps.length cap] w fun e w' => w.grownBy w' none ∧ ∃ v1 v2, e = .returned (.agg #[.bool (lastLf false ps), v1, v2]) ∧ NdOwn w' w.heap.size v1 v2 (allKs ps) (allVs ps) := by
  obtain ⟨i0, hi0, hz0, hz1, hz2⟩ := info_int
  have hi := Lib.hid hi0; have z0 := Lib.hid hz0; have z1 := Lib.hid hz1; have z2 := Lib.hid hz2
  have HONE := Lib.hid (show 0 < 1 by omega)
  have hgl := hb.lt
  have hlen : ∀ j, j ≤ ps.length → (allKs (ps.take j)).length ≤ j * 16 ∧ (allVs (ps.take j)).length ≤ j * 16 := by
    intro j
    induction j with
    | zero => intro _; simp [allKs, allVs]
    | succ j ih =>
      intro hj
      have ih := ih (by omega)
      rw [List.take_add_one, List.getElem?_eq_getElem (by omega)]
      have hm := hk ps[j] (List.getElem_mem _)
      have ha := hp ps[j] (List.getElem_mem _)
      have e1 := NdAt.klen ha; have e2 := NdAt.vlen ha
      simp only [allKs, allVs, List.flatMap_append, List.length_append, Option.toList_some, List.flatMap_cons, List.flatMap_nil, List.append_nil] at ih ⊢
      omega
  have HLEN := Lib.hid hlen
  have HP := Lib.hid hp; have HK := Lib.hid hk
  have hb2 := (hb.alloc (.cells #[.bool false, .slice none 0 0, .slice none 0 0] 24)).alloc (.cells #[.bool false, .slice none 0 0, .slice none 0 0] 24)
  have hR := (Blk.new w 24 #[.bool false, .slice none 0 0, .slice none 0 0]).alloc (.cells #[.bool false, .slice none 0 0, .slice none 0 0] 24)
  have hX := new2 w (.cells #[.bool false, .slice none 0 0, .slice none 0 0] 24) 24 #[.bool false, .slice none 0 0, .slice none 0 0]
  have hg0 := (World.grownBy_alloc w (.cells #[.bool false, .slice none 0 0, .slice none 0 0] 24) none).trans (World.grownBy_alloc _ (.cells #[.bool false, .slice none 0 0, .slice none 0 0] 24) none)
  have HG0 := Lib.hid hg0; have HB := Lib.hid hb2; have HR := Lib.hid hR
  have hs2 : ((w.alloc (.cells #[.bool false, .slice none 0 0, .slice none 0 0] 24)).alloc (.cells #[.bool false, .slice none 0 0, .slice none 0 0] 24)).heap.size = w.heap.size + 2 := by rw [World.size_alloc, World.size_alloc]
  have HGA := Lib.hid (show Gat _ _ (· ≤ w.heap.size) w.heap.size (w.heap.size + 1) false (.slice none 0 0) (.slice none 0 0) [] [] from
    ⟨Kept.refl _ _, fun i hi => by rw [hs2]; omega, by omega, hX, NdOwn.nil _ _, fun i hi => by simp [Value.ownBlock] at hi, fun i hi => by simp [Value.ownBlock] at hi⟩)
  obtain ⟨m, hm⟩ : ∃ m, ps.length = m := ⟨_, rfl⟩
  have HM := Lib.hid hm
  have HE := Lib.hid (show allKs (ps.take m) = allKs ps ∧ allVs (ps.take m) = allVs ps ∧ lastLf false (ps.take m) = lastLf false ps by rw [List.take_of_length_le (by omega)]; exact ⟨rfl, rfl, rfl⟩)
  rw [hm]
  rw [hm] at h3
  clear hi0 hz0 hz1 hz2 hb hp hk hb2 hR hX hg0 hlen hs2 hm
  go_enter Try.func33, Try.ntmps33
  go_wp2_with fail
  generalize hW0 : (w.alloc (.cells #[.bool false, .slice none 0 0, .slice none 0 0] 24)).alloc (.cells #[.bool false, .slice none 0 0, .slice none 0 0] 24) = W0 at *
  clear hW0
  go_loopw [7] (fun i wr => ∃ (j : Nat) (v1 v2 : Value), j ≤ m ∧ i = .int .i64 j ∧ Gat W0 wr (· ≤ w.heap.size) w.heap.size (w.heap.size + 1) (lastLf false (ps.take j)) v1 v2 (allKs (ps.take j)) (allVs (ps.take j))) (fun i _ => m - (intOf i).toNat)
  case atStart => exact ⟨0, _, _, by omega, rfl, HGA.out⟩
  case round =>
    obtain ⟨j, v1, v2, hj, rfl, hga⟩ := hrel
    by_cases hlt : j < m
    · obtain ⟨p, hpj⟩ : ∃ p, ps[j]? = some p := ⟨_, List.getElem?_eq_getElem (by rw [HM.out]; exact hlt)⟩
      have hmem : p ∈ ps := List.mem_of_getElem? hpj
      obtain ⟨f0, f1, f2⟩ := flat_at ps j p hpj
      have htk : ps.take (j + 1) = ps.take j ++ [p] := by rw [List.take_add_one, hpj]; rfl
      have hl3 := HLEN.out j (by rw [HM.out]; exact hj)
      have hpn := HK.out p hmem
      have HPA := Lib.hid (HP.out p hmem)
      have HT := Lib.hid (show allKs (ps.take (j + 1)) = allKs (ps.take j) ++ p.ks ∧ allVs (ps.take (j + 1)) = allVs (ps.take j) ++ p.vs ∧ lastLf false (ps.take (j + 1)) = p.lf by
        rw [htk]
        refine ⟨by simp [allKs], by simp [allVs], lastLf_snoc _ _ _⟩)
      obtain ⟨plf, pA, pA', pn, pn', pc, pc', pks, pvs⟩ := p
      simp only at f0 f1 f2 hpn
      have hBB := hga.kept.blk HB.out (by omega)
      have a0 : wr.cell? ⟨g, j * 3, none⟩ = some (.bool plf) := by rw [hBB.cell]; simpa using f0
      have HF1 := Lib.hid f1; have HF2 := Lib.hid f2
      obtain ⟨A1, A2, c1, c2, rfl, rfl, hat⟩ := hga.shape
      have hgb := hga.leaf plf
      obtain ⟨⟨x0, x1, x2⟩, y0, y1, y2⟩ := hga.cells
      have HGB := Lib.hid (hgb.quiet (grown_drew _ none))
      have j0 : (0 : Int) ≤ j := by omega
      have j1 : (j : Int) < m := by omega
      clear f0 f1 f2 hga hat hBB hmem hpj htk
      go_upto_region 6 with fail
      clear x0 x1 x2 y0 y1 y2 a0
      generalize lastLf false (ps.take j) = l0 at *
      generalize hKs : allKs (ps.take j) = Ks at *
      generalize hVs : allVs (ps.take j) = Vs at *
      clear hKs hVs
      have hb1 := HGB.out.kept.blk HB.out (by omega)
      have a1 : (wr.setCell ⟨w.heap.size + 1, 0, none⟩ (.bool plf)).cell? ⟨g, j * 3 + 1, none⟩ = some (.slice pA pn pc) := by
        have := hb1.cell (j * 3 + 1)
        rw [show (flat ps).toArray[j * 3 + 1]? = some (.slice pA pn pc) from by simpa using HF1.out] at this
        exact this
      obtain ⟨⟨x0, x1, x2⟩, y0, y1, y2⟩ := hgb.cells
      have HOK := Lib.hid hgb.own.k
      have hpw : NdAt (wr.setCell ⟨w.heap.size + 1, 0, none⟩ (.bool plf)).drew pA pA' pn pn' pc pc' pks pvs := HPA.out.keep (HGB.out.kept.grown HG0.out (fun i hi => by omega))
      obtain ⟨bb, hin⟩ := hpw.k
      have HRD := Lib.hid (reads_of_ints hin)
      have HIN := Lib.hid hin
      have HSZ := Lib.hid (show w.heap.size ≤ (wr.setCell ⟨w.heap.size + 1, 0, none⟩ (.bool plf)).drew.heap.size from Nat.le_trans HG0.out.size HGB.out.kept.size)
      clear hgb hin hb1 hpw
      generalize wr.setCell ⟨w.heap.size + 1, 0, none⟩ (.bool plf) = wa at *
      go_cut [7] (fun s7 wx => s7 = .int .i64 j ∧ ∃ v', Gat W0 wx (· ≤ w.heap.size) w.heap.size (w.heap.size + 1) plf v' (.slice A2 Vs.length c2) (Ks ++ pks) Vs)
      case first =>
        go_region_law (first
          | (refine step_append_any _ rfl (.tmp 17) (.tmp 22) _ rfl w.heap.size 3 i0 _ 1 8 Try.underlying22 hi.out z0.out z1.out z2.out rfl HONE.out (.slice A1 Ks.length c1) Ks.length (i64s Ks) ?_ HOK.out
               _ pA pn pc (i64s pks) ?_ HRD.out ?_ ?_ ?_ ?_ ?_
             rfl
             rfl
             exact i64s_one _
             (simp only [maxLen]; omega)
             omega
             exact HSZ.out
             intro v' w' hown' hgr hwh
             have hgc := HGB.out.key hgr hown' hwh HIN.out.1 HIN.out.2.1
             have hbb := HGB.out.box.grown hgr (fun e => (HGB.out.r1 _ e.symm).2 rfl)
             obtain ⟨A3, c3, hv, _, _, _⟩ := (Own.of hown').shape
             subst hv
             have q1 := hbb.cell 1
             have q2 := hbb.frozen 1
             simp only [List.getElem?_toArray, List.getElem?_cons_zero, List.getElem?_cons_succ] at q1
             have HGC := Lib.hid hgc
             clear hgc hbb hown' hgr hwh))
        all_goals
          go_wp2_with fail
          go_meet
          exact ⟨rfl, _, HGC.out⟩
      case rest =>
        obtain ⟨rfl, v3, hgc⟩ := hcut
        clear HGB HOK HRD HIN HSZ a1 x0 x1 x2 y0 y1 y2
        obtain ⟨A3, A4, c3, c4, rfl, e4, hat⟩ := hgc.shape
        have hb1 := hgc.kept.blk HB.out (by omega)
        have a2 : wc.cell? ⟨g, j * 3 + 2, none⟩ = some (.slice pA' pn' pc') := by
          have := hb1.cell (j * 3 + 2)
          rw [show (flat ps).toArray[j * 3 + 2]? = some (.slice pA' pn' pc') from by simpa using HF2.out] at this
          exact this
        obtain ⟨⟨x0, x1, x2⟩, y0, y1, y2⟩ := hgc.cells
        have HGB := Lib.hid (hgc.quiet (grown_drew _ none))
        have HOK := Lib.hid hgc.own.v
        have hpw : NdAt wc.drew pA pA' pn pn' pc pc' pks pvs := HPA.out.keep (HGB.out.kept.grown HG0.out (fun i hi => by omega))
        obtain ⟨bb, hin⟩ := hpw.v
        have HRD := Lib.hid (reads_of_ints hin)
        have HIN := Lib.hid hin
        have HSZ := Lib.hid (show w.heap.size ≤ wc.drew.heap.size from Nat.le_trans HG0.out.size HGB.out.kept.size)
        clear hgc hin hb1 hpw e4 hat
        go_wp2_with fail
        go_region_law (first
          | (refine step_append_any _ rfl (.tmp 26) (.tmp 31) _ rfl w.heap.size 3 i0 _ 1 8 Try.underlying22 hi.out z0.out z1.out z2.out rfl HONE.out (.slice A2 Vs.length c2) Vs.length (i64s Vs) ?_ HOK.out
               _ pA' pn' pc' (i64s pvs) ?_ HRD.out ?_ ?_ ?_ ?_ ?_
             rfl
             rfl
             exact i64s_one _
             (simp only [maxLen]; omega)
             omega
             exact HSZ.out
             intro v' w' hown' hgr hwh
             have hgc := HGB.out.val hgr hown' hwh HIN.out.1 HIN.out.2.1
             have hbb := HGB.out.box.grown hgr (fun e => (HGB.out.r2 _ e.symm).2 rfl)
             obtain ⟨A5, c5, hv, _, _, _⟩ := (Own.of hown').shape
             subst hv
             have q1 := hbb.cell 2
             have q2 := hbb.frozen 2
             simp only [List.getElem?_toArray, List.getElem?_cons_zero, List.getElem?_cons_succ] at q1
             have HGC := Lib.hid hgc
             clear hgc hbb hown' hgr hwh))
        all_goals
          go_wp2_with fail
          go_roundw
          case rel =>
            refine ⟨j + 1, .slice A3 (Ks ++ pks).length c3, .slice A5 (Vs.length + pn') c5, by omega, by go_num, ?_⟩
            rw [HT.out.1, HT.out.2.1, HT.out.2.2]
            exact HGC.out
          case measure => simp [intOf]; omega
    · obtain rfl : j = m := by omega
      rw [HE.out.1, HE.out.2.1, HE.out.2.2] at hga
      obtain ⟨A1, A2, c1, c2, rfl, rfl, hat⟩ := hga.shape
      obtain ⟨⟨x0, x1, x2⟩, y0, y1, y2⟩ := hga.cells
      have hr := hga.kept.blk HR.out (Nat.le_refl _)
      have z1' := hr.frozen 0; have z2' := hr.frozen 1; have z3' := hr.frozen 2
      have z4' := hr.cell 0; have z5' := hr.cell 1; have z6' := hr.cell 2
      simp only [List.getElem?_toArray, List.getElem?_cons_zero, List.getElem?_cons_succ] at z4' z5' z6'
      have HQ := Lib.hid (hga.kept.grown HG0.out (fun i hi => by omega)); have HRR := Lib.hid hr; have HOW := Lib.hid hga.own
      have HN1 := Lib.hid hga.r1; have HN2 := Lib.hid hga.r2
      clear hga hat hr
      go_wp2_with fail
      refine ret_cell1 rfl w.heap.size 24 _ _ rfl (Blk.set3 HRR.out) Try.underlying24 rfl (by kernel_rfl) rfl ⟨?_, _, _, rfl, ?_⟩
      · repeat (refine grown_set1 ?_ (Nat.le_refl _) _)
        exact HQ.out
      · exact HOW.out.far3 (fun e => (HN1.out _ e).1 (Nat.le_refl _)) (fun e => (HN2.out _ e).1 (Nat.le_refl _)) _ _ _
end Go.Proofs.Ytlbadapcaooieaa.Node
