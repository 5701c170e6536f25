/- The project's counts: New, Undo, Touched. -/
import Derived.Test.YtpdkjgmldlpaaaaCtCalls
namespace Go.Proofs.Ytpdkjgmldlpaaaa.Cts
open Go.RowKit Go.Maps Go.ChangeMaps Go.MapKept CrcMath CodecMath Mem Crc Codec
set_option linter.unusedVariables false
set_option linter.unusedSimpArgs false

theorem zeros_row (n : Nat) : (List.replicate n (Value.int .i64 0)) = i64s (row n fun _ => 0) := by
  apply List.ext_getElem?
  intro i
  rw [i64s, List.getElem?_map, row_get, List.getElem?_replicate]
  by_cases h : i < n <;> simp [h]
set_option maxHeartbeats 2000000 in
theorem new_call (w : World) (n : Int) : Calls Try.prog 6 #[.int .i64 n] w fun e w' =>
    (mb n = false ∧ e = .returned (.tuple #[.pointer none, .int .i64 1]) ∧ w' = w) ∨
    (mb n = true ∧ ∃ q rb m, e = .returned (.tuple #[.pointer (some ⟨q, 0, none⟩), .int .i64 0]) ∧ CtAt w' w.heap.size q rb m n.toNat zeroCt ∧ w.grownBy w' none) := by
  have HM := fun w => Lib.hid (mayBe_call w n)
  cases hb : mb n with
  | true =>
    obtain ⟨k, rfl, h1, h2⟩ := mb_nat hb
    rw [hb] at HM
    have hmk := run_ints k w (by omega)
    have hmm := fun w => run_makeMap (P := Try.prog) 44 w
    rw [zeros_row] at hmk
    clear hb
    obtain ⟨zs, hzs⟩ : ∃ zs, i64s (row k fun _ => 0) = zs := ⟨_, rfl⟩
    rw [hzs] at hmk
    have HZS := Lib.hid hzs; clear hzs
    go_enter Try.func6, Try.ntmps6
    go_wp2_with (go_at_call 27; refine (HM _).out.mono ?_; rintro e w' ⟨rfl, rfl⟩)
    go_ret2
    have g1 := World.grownBy_alloc w' (.cells zs.toArray 3) none
    have g2 := World.grownBy_alloc (w'.alloc (.cells zs.toArray 3)) (.map #[] 0) none
    have g3 := World.grownBy_alloc ((w'.alloc (.cells zs.toArray 3)).alloc (.map #[] 0)) (.cells #[.slice (some ⟨w'.heap.size, 0, none⟩) k k, .map (some (w'.heap.size + 1))] 46) none
    refine .inr ⟨by first | exact rfl | trivial, w'.heap.size + 1 + 1, w'.heap.size, w'.heap.size + 1, rfl, ?_, (g1.trans g2).trans g3⟩
    have hb1 : Blk (w'.alloc (.cells zs.toArray 3)) w'.heap.size 3 zs.toArray := Blk.new _ _ _
    have hm1 := CMap.made (w'.alloc (.cells zs.toArray 3))
    have hs1 : (w'.alloc (.cells zs.toArray 3)).heap.size = w'.heap.size + 1 := by simp
    have hs2 : ((w'.alloc (.cells zs.toArray 3)).alloc (.map #[] 0)).heap.size = w'.heap.size + 1 + 1 := by simp
    rw [hs1] at hm1
    have hq := Blk.new ((w'.alloc (.cells zs.toArray 3)).alloc (.map #[] 0)) 46 #[.slice (some ⟨w'.heap.size, 0, none⟩) k k, .map (some (w'.heap.size + 1))]
    rw [hs2] at hq
    refine ⟨hq, ?_, ⟨fun _ => none, hm1.of_block (g3.block _ (by rw [hs2]; omega) (by simp)), ⟨fun _ => rfl, fun _ _ => rfl⟩⟩, zero_ok h1 h2, by omega, by omega, by omega⟩
    have hb3 := (hb1.alloc (.map #[] 0)).alloc (.cells #[.slice (some ⟨w'.heap.size, 0, none⟩) k k, .map (some (w'.heap.size + 1))] 46)
    show Blk _ _ _ (i64s (row k fun _ => 0)).toArray
    rw [HZS.out]
    exact hb3
  | false =>
    rw [hb] at HM
    clear hb
    go_enter Try.func6, Try.ntmps6
    go_wp2_with (go_at_call 27; refine (HM _).out.mono ?_; rintro e w' ⟨rfl, rfl⟩)
    go_ret2
    exact .inl ⟨by first | exact rfl | trivial, rfl, rfl⟩

/-! ### Undo -/
/-- What an Undo that is under way has done. -/
def part_ (Ds : DataW Value) (left : Lit → Bool) (x : Ct) (j : Nat) : Int := if (Maps.has Ds (keyL j) && !left (keyL j)) = true then x.W j else x.N j
theorem part_start {Ds : DataW Value} {x : Ct} : part_ Ds (Maps.has Ds) x = x.N := by
  funext j
  unfold part_
  cases Maps.has Ds (keyL j) <;> rfl
theorem part_step {Ds : DataW Value} {left : Lit → Bool} {x : Ct} {k : Nat} {c : Int} (hh : Maps.has Ds (keyL k) = true) (hf : x.W k = c) :
    upd (part_ Ds left x) k c = part_ Ds (fun z => left z && !z.sameKey (keyL k)) x := by
  funext j
  unfold part_ upd
  by_cases e : j = k
  · subst e
    have hss := WideAt.sameKey_self (keyL_is j)
    rw [if_pos rfl, hh]
    simp only [hss, Bool.not_true, Bool.and_false, Bool.not_false, Bool.and_true]
    exact hf.symm
  · rw [if_neg e]
    have hne : (keyL j).sameKey (keyL k) = false := by
      cases hh : (keyL j).sameKey (keyL k) with
      | false => rfl
      | true => exact absurd (keyL_inj (WideAt.sameKey_eq hh)) e
    simp only [hne, Bool.not_false, Bool.and_true]
theorem at_key {Ds : DataW Value} {F : Nat → Option Int} {n : Nat} {kl : Lit} {c : Value} (htd : Tidy Ds) (ha : ∀ k z, Ds.atKey (keyL k) z = match (F k).map (fun v => Value.int .i64 v) with | some v => .held v | none => z) (he : ∀ p ∈ entriesOf Ds, ∃ k, k < n ∧ p.1 = keyL k)
    (hat : ∀ zd, Ds.atKey kl zd = .held c) : ∃ k u, k < n ∧ kl = keyL k ∧ F k = some u ∧ c = .int .i64 u ∧ Maps.has Ds (keyL k) = true := by
  have hh : Maps.has Ds kl = true := has_true_of_atKey hat
  obtain ⟨es, rfl, _⟩ := htd
  obtain ⟨p, hp1, hp2⟩ := List.any_eq_true.1 hh
  obtain ⟨k, hk, h1⟩ := he p hp1
  have e := WideAt.sameKey_eq hp2
  have hkl : kl = keyL k := by rw [← e, h1]
  subst hkl
  have h2 := hat (.held (.bool true))
  have h3 := hat (.held (.bool false))
  rw [ha] at h2 h3
  cases hf : F k with
  | none => rw [hf] at h2 h3; simp only [Option.map_none] at h2 h3; rw [← h2] at h3; cases h3
  | some v => rw [hf] at h2; simp only [Option.map_some, DataW.held.injEq] at h2; exact ⟨k, v, hk, rfl, hf, h2.symm, hh⟩
section
variable {w : World} {B q rb mb_ n : Nat} {x : Ct}
set_option maxRecDepth 100000 in
set_option maxHeartbeats 1600000 in
theorem undo_call (h : CtAt w B q rb mb_ n x) :
    Calls Try.prog 18 #[.pointer (some ⟨q, 0, none⟩)] w fun e w' => e = .returned (.tuple #[]) ∧ CtAt w' B q rb mb_ n (undoE x) ∧ Turn w w' (own3 q rb mb_) (own3 q rb mb_) := by
  obtain ⟨F, ⟨Ds, hso, hsa, hse⟩, hT⟩ := h.hm
  replace hsa : ∀ k z, Ds.atKey (keyL k) z = match (F k).map (fun v => Value.int .i64 v) with | some v => .held v | none => z := hsa
  have K := int_keyed (k := 3) Try.underlying3
  have HTD := Lib.hid (hso.tidy K)
  have HA := Lib.hid h; have HT := Lib.hid hT
  have HSA := Lib.hid hsa; have HE := Lib.hid hse
  have HS := Lib.hid hso
  have HLT := Lib.hid h.lt
  obtain ⟨c0, c1⟩ := h.cells
  have hnq := h.qr; have hnm := h.qm; have hrm := h.rm
  have hn := h.b64
  clear h hT hsa hse
  go_enter Try.func18, Try.ntmps18
  go_wp2_with (first
    | (at_range; refine wpList_range_own _ rfl _ 44 rfl 3 3 K Try.underlying44 heldR mb_ (Maps.size Ds) _ rfl HS.out ?_; intro w0 hrg0 hg0 hs0)
    | go_in)
  go_frame
  go_loopw [2, 3] (fun _ _ wr => ∃ (left : Lit → Bool) (cnt : Nat), wr.ranges Try.prog 3 heldR mb_ w.heap.size (Maps.size Ds) Ds left cnt ∧ RowAt wr rb n (part_ Ds left x) ∧ w.grownBy wr (some rb))
    (fun _ _ wr => wr.rangeLeft mb_ w.heap.size)
  case atStart =>
    refine ⟨_, _, hrg0, ?_, grown_any hg0 _⟩
    rw [part_start]
    exact Blk.grown HA.out.hr hg0 (by simp [Value.ownBlock])
  case round =>
    obtain ⟨left, cnt, hrg, hout, hgw⟩ := hrel
    have d0 := (HA.out.hq.grown hgw (by simpa using hnq)).cell 0
    have d1 := (HA.out.hq.grown hgw (by simpa using hnq)).cell 1
    simp at d0 d1
    have hmw : CMap wr mb_ F := ⟨Ds, ⟨HS.out.choose, HS.out.choose_spec.choose, by rw [hgw.block mb_ (HLT.out _ (.inr (.inr rfl))) (by simpa using hrm.symm)]; exact HS.out.choose_spec.choose_spec.1, HS.out.choose_spec.choose_spec.2⟩, HSA.out, HE.out⟩
    obtain ⟨wc, hrc, hcc, hgc⟩ := hmw.clear 0
    have HCC := Lib.hid hcc; have HGC := Lib.hid hgc
    clear hmw hcc hgc
    go_wp2_with (first
      | (at_next; refine wpList_next_ranges _ rfl _ rfl 3 K heldR id id (fun key _ _ => ⟨key, rfl⟩) (fun v _ _ => ⟨v, rfl⟩) mb_ w.heap.size (Maps.size Ds) _ _ _ rfl hrg ?_ ?_)
      | go_in)
    · intro hc0 hl0
      go_wp2
      go_end0
      have hA := HA.out
      have e : part_ Ds left x = x.W := by
        funext j
        unfold part_
        rw [hl0]
        have hg := HT.out.get j
        cases hf : F j with
        | none =>
          have hh : Maps.has Ds (keyL j) = false := has_false_of_atKey (fun z => by rw [HSA.out, hf]; rfl)
          rw [hf] at hg
          rw [hh, hg]; rfl
        | some v =>
          have hh : Maps.has Ds (keyL j) = true := has_true_of_atKey (y := .held (.int .i64 v)) (fun z => by rw [HSA.out, hf]; rfl)
          rw [hh]; rfl
      rw [e] at hout
      refine ⟨rfl, ⟨(hA.hq.grown hgw (by simpa using hnq)).grown HGC.out (by simpa using hnm), Blk.grown hout HGC.out (by simpa using hrm), ⟨_, HCC.out, tells_clear n x.W⟩, hA.ok.undo, hA.Bq, hA.Br, hA.Bm⟩,
        (Turn.of_grown hgw (fun j hj => by cases hj; exact .inr (.inl rfl))).trans (.of_grown HGC.out (fun j hj => by cases hj; exact .inr (.inr rfl)))⟩
    · intro x1 c kl yd yp w1 cnt1 hkey hlx hv hat hrg1 hlt hg1 hs1 hen
      have hyd : yd = .held c := by
        have : some (DataW.held c, ([] : List MemPlace)) = some (yd, yp) := hv
        injection this with this
        injection this with this
        exact this.symm
      subst hyd
      obtain ⟨k, u, hk, rfl, hf, rfl, hh⟩ := at_key HTD.out HSA.out HE.out hat
      obtain ⟨z, rfl, hz, _⟩ := Maps.keyOf_int_inv Try.underlying3 hkey
      obtain rfl : z = (k : Int) := by injection hz with _ hz; exact hz.symm
      have hkn : k < n := by
        rcases Nat.lt_or_ge k n with hh | hh
        · exact hh
        · rw [HT.out.out k hh] at hf; cases hf
      have hW : x.W k = u := by rw [HT.out.get k, hf]; rfl
      have hsz := hgw.size
      have hltq := HLT.out q (.inl rfl); have hltr := HLT.out rb (.inr (.inl rfl))
      have hgx : wr.grownBy w1 (some w.heap.size) := hg1
      have hq1 := (HA.out.hq.grown hgw (by simpa using hnq)).grown hgx (by simp; omega)
      have hr1 := Blk.grown hout hgx (by simp; omega)
      have e0 := hq1.cell 0
      simp at e0
      have e1 := Blk.frozen hr1 k
      have e2 := RowAt.at_ hr1 hkn
      have hr2 := RowAt.put hr1 k u
      rw [part_step hh hW] at hr2
      have hg2 : w1.grownBy (w1.setCell ⟨rb, k, none⟩ (.int .i64 u)) (some rb) := only_set (World.grownBy.refl w1 (some rb)) k (.int .i64 u)
      have hrm' : mb_ ≠ rb := hrm.symm
      have HR2 := Lib.hid hr2; have HG2 := Lib.hid hg2
      have HRG2 := Lib.hid (hrg1.kept hg2 (fun e => hrm (by cases e; rfl)) (fun e => by cases e; omega))
      clear hr1 hr2 hg2 hq1
      go_wp2_with fail
      go_roundw
      case rel => exact ⟨_, cnt1, HRG2.out, HR2.out, (hgw.andThen hgx (fun j hj => .inl (by cases hj; exact Nat.le_refl _))).trans HG2.out⟩
      case measure => rw [HRG2.out.left_eq, hrg.left_eq]; exact hlt
/-- slices.Index: none, or one that is there. -/
theorem index_call {w : World} {b : Nat} {A : Option Addr} {m c : Nat} {l : List Int} (h : Ints w b A m l) (hm : m ≤ 1048576) (v : Int) :
    Calls Try.prog 50 #[.slice A m c, .int .i64 v] w fun e w' => w' = w ∧ ((e = .returned (.int .i64 (-1)) ∧ v ∉ l) ∨ ∃ j : Nat, j < m ∧ e = .returned (.int .i64 j) ∧ v ∈ l) := by
  have HL := Lib.hid h.1
  have HC := Lib.hid h.2.2
  clear h
  go_enter Try.func50, Try.ntmps50
  go_wp2_with fail
  go_loopw [5, 8] (fun _ i wr => ∃ j : Nat, j ≤ m ∧ i = .int .i64 j ∧ wr = w ∧ ∀ k, k < j → l.getD k 0 ≠ v) (fun _ i _ => m - (RowKit.intOf i).toNat)
  case atStart => exact ⟨0, by omega, rfl, rfl, fun k hk => by omega⟩
  case round =>
    obtain ⟨j, hj, rfl, rfl, hn⟩ := hrel
    have HN := Lib.hid hn; clear hn
    by_cases hlt : j < m
    · obtain ⟨g, o, rfl, hg, _, hc⟩ := HC.out (by omega)
      have hcj := hc j hlt
      clear hc
      have HX := Lib.hid (show l[j]? = some (l.getD j 0) from by rw [List.getD_eq_getElem?_getD, List.getElem?_eq_getElem (by have := HL.out; omega)]; rfl)
      obtain ⟨u, hu⟩ : ∃ u, l.getD j 0 = u := ⟨_, rfl⟩
      rw [hu] at hcj HX
      have HU := Lib.hid hu; clear hu
      by_cases he : v = u
      · subst he
        go_wp2_with fail
        go_ret
        exact ⟨by first | exact rfl | trivial, .inr ⟨j, hlt, rfl, List.mem_of_getElem? HX.out⟩⟩
      · have hne : (v == u) = false := by simpa using he
        have hsw : (u == v) = false := by simpa using fun e => he e.symm
        go_wp2_with fail
        go_roundw
        case rel =>
          refine ⟨j + 1, by omega, by go_num, by first | exact rfl | trivial, ?_⟩
          intro k hk
          by_cases e : k = j
          · subst e; rw [HU.out]; exact fun e => he e.symm
          · exact HN.out k (by omega)
        case measure => simp [RowKit.intOf]; omega
    · have hjm : j = m := by omega
      subst hjm
      go_wp2_with fail
      go_ret
      refine ⟨by first | exact rfl | trivial, .inl ⟨rfl, fun hv => ?_⟩⟩
      obtain ⟨k, hk, e⟩ := List.getElem_of_mem hv
      have := HN.out k (by have := HL.out; omega)
      rw [List.getD_eq_getElem?_getD, List.getElem?_eq_getElem hk, e] at this
      exact this rfl
theorem contains_call {w : World} {b : Nat} {A : Option Addr} {m c : Nat} {l : List Int} (h : Ints w b A m l) (hm : m ≤ 1048576) (v : Int) :
    Calls Try.prog 39 #[.slice A m c, .int .i64 v] w fun e w' => w' = w ∧ e = .returned (.bool (decide (v ∈ l))) := by
  have HI := Lib.hid (index_call (c := c) h hm v)
  clear h
  obtain ⟨d, hd⟩ : ∃ d, decide (v ∈ l) = d := ⟨_, rfl⟩
  rw [hd]
  have HD := Lib.hid hd; clear hd
  go_enter Try.func39, Try.ntmps39
  go_wp2_with (go_at_call 50; refine HI.out.mono ?_; rintro e w' ⟨rfl, ⟨rfl, hn⟩ | ⟨j, hj, rfl, hn⟩⟩)
  · obtain rfl : d = false := by rw [← HD.out]; exact decide_eq_false hn
    go_ret
    exact ⟨rfl, rfl⟩
  · obtain rfl : d = true := by rw [← HD.out]; exact decide_eq_true hn
    go_ret
    exact ⟨rfl, rfl⟩
set_option maxHeartbeats 1000000 in
theorem isChanged_call (h : CtAt w B q rb mb_ n x) {k : Nat} (hk : k < n) :
    Calls Try.prog 38 #[.pointer (some ⟨q, 0, none⟩), .int .i64 (k : Nat)] w fun e w' => e = .returned (.bool (decide (x.N k ≠ x.W k))) ∧ w' = w := by
  obtain ⟨F, hF, hT⟩ := h.hm
  obtain ⟨c0, c1⟩ := h.cells
  have c2 := h.hr.at_ hk
  have hn := h.b64
  have hlook := hF.lookOk k (by omega)
  rw [hT.get k]
  clear hF hT h
  cases hf : F k with
  | none =>
    rw [hf] at hlook
    clear hf
    generalize x.N k = u at *
    go_enter Try.func38, Try.ntmps38
    go_wp2
    go_ret
    first | exact ⟨rfl, rfl⟩ | (refine ⟨?_, rfl⟩; simp; done) | trace_state
  | some v =>
    rw [hf] at hlook
    clear hf
    generalize x.N k = u at *
    have e : decide (u ≠ (some v).getD u) = (v != u) := by
      show decide (u ≠ v) = (v != u)
      by_cases h : u = v
      · subst h; simp
      · rw [decide_eq_true h]; symm; simpa using fun e => h e.symm
    rw [e]
    go_enter Try.func38, Try.ntmps38
    go_wp2
    go_ret
    first | exact ⟨rfl, rfl⟩ | (refine ⟨?_, rfl⟩; simp; done) | trace_state
end
end Go.Proofs.Ytpdkjgmldlpaaaa.Cts
