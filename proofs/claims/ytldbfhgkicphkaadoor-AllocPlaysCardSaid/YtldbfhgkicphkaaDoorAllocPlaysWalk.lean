/- The law AllocPlays: pages are taken, dropped, settled and undone just as the document says, call by call. -/
import Derived.Test.YtldbfhgkicphkaaDoorAlcPair
import Derived.Deep.DeepCutAuto
import Derived.Deep.CutBlock
import Derived.Deep.RegionHeld3
namespace Go.Proofs.YtldbfhgkicphkaaDoor.AllocPlays
open Go.ChangeShapes Go.WideShapes Go.RowKit Mem AlcBits Alc
set_option linter.unusedVariables false
set_option linter.unusedSimpArgs false

/-- Both, beside a step's own block. -/
structure St (W w : World) (q r n : Nat) (x y : P3) (own own2 : Nat → Prop) (xb : Nat) (kind page : Int) : Prop where
  b : Both W w q r n x y own own2
  bx : Blk w xb 29 #[.int .i64 kind, .int .i64 page]
  n1 : ¬ own xb
  n2 : ¬ own2 xb
section
variable {W w w' : World} {q r n xb : Nat} {x y : P3} {own own2 own2' : Nat → Prop} {kind page : Int}
theorem St.pg (h : St W w q r n x y own own2 xb kind page) : w.cell? ⟨xb, 1, none⟩ = some (.int .i64 page) := h.bx.cell 1
theorem St.kd (h : St W w q r n x y own own2 xb kind page) : w.cell? ⟨xb, 0, none⟩ = some (.int .i64 kind) := h.bx.cell 0
theorem St.ofA {x' : P3} (h : St W w q r n x y own own2 xb kind page) (h1 : One W w' q n x' own) (ht : Turn w w' own own) : St W w' q r n x' y own own2 xb kind page :=
  ⟨h.b.ofA h1 ht, ht.blk h.bx h.n1, h.n1, h.n2⟩
theorem St.ofB {y' : P3} (h : St W w q r n x y own own2 xb kind page) (h1 : Doc W w' r n y' own2') (ht : Turn w w' own2 own2') : St W w' q r n x y' own own2' xb kind page :=
  ⟨h.b.ofB h1 ht, ht.blk h.bx h.n2, h.n1, fun e => by
    rcases ht.fresh _ e with h2 | h2
    · exact h.n2 h2
    · have := h.bx.lt; omega⟩
theorem St.grown (h : St W w q r n x y own own2 xb kind page) (hg : w.grownBy w' none) : St W w' q r n x y own own2 xb kind page :=
  ⟨h.b.grown hg, h.bx.grown hg (by simp), h.n1, h.n2⟩
theorem St.drew (h : St W w q r n x y own own2 xb kind page) : St W w.drew q r n x y own own2 xb kind page := h.grown (grown_drew w none)
theorem St.new (h : Both W w q r n x y own own2) (kind page : Int) : St W (w.alloc (.cells #[.int .i64 kind, .int .i64 page] 29)) q r n x y own own2 w.heap.size kind page :=
  ⟨h.grown (World.grownBy_alloc _ _ none), Blk.new _ _ _, fun e => by have := h.a.lt _ e; omega, fun e => by have := h.b.lt _ e; omega⟩
end
theorem isFree_grown {w : World} {f : FuncId} {args : Array Value} {v : Value} (h : Calls Tryd.prog f args w fun e w' => e = .returned v ∧ ∃ k, w' = w.drewN k) : Calls Tryd.prog f args w fun e w' => e = .returned v ∧ w.grownBy w' none :=
  h.mono fun e w' ⟨h1, k, h2⟩ => ⟨h1, by subst h2; exact ⟨rfl, rfl, rfl, Nat.le_refl _, fun _ _ _ => rfl⟩⟩

set_option maxRecDepth 100000 in
set_option maxHeartbeats 16000000 in
theorem walk {H : Type} {enc : TypeId × Value → H} (W : World) (base : Nat) (v0 v1 : Value) (d0 d1 : DataW H) (p0 p1 : List MemPlace)
    (o0 : Value.okWide Tryd.prog W .any base 3 v0)
    (o1 : Value.okWide Tryd.prog W .any base 22 v1)
    (h0 : DataW.Trod enc Tryd.prog W 0 (fun _ => true) true 3 v0 d0 p0)
    (h1 : DataW.Trod enc Tryd.prog W 0 (fun _ => true) true 22 v1 d1 p1)
    (hL : laidMetH Tryd.prog Rows.allocPlaysRow.laid W) :
    Calls Tryd.prog 3 #[v0, v1] W fun e W' => e = .returned (.bool true) ∧ Below W.heap.size W W' := by
  have hT := tab_of hL
  obtain ⟨n, rfl, _, _, hn⟩ := open_int Tryd.underlying3 o0 h0
  obtain ⟨A, M, cM, ops, rfl, hsc, hM⟩ := open_script8 o1 h1
  have hn := bounds_i64 hn
  have HSC := Lib.hid hsc
  clear o0 o1 h0 h1 hL hsc
  have HT := Lib.hid hT
  clear hT
  by_cases hout : n < 1 ∨ 1024 < n
  · have HN := Lib.hid (new_none n W hout)
    have HR := Lib.hid (r_new_none n W hout)
    have HK := Lib.hid (known8_call HT.out (World.grownBy.refl W none))
    clear hout
    go_enter Tryd.func3, Tryd.ntmps3
    go_wp2_with (first
      | (go_at_call 7; refine HN.out.mono ?_; rintro e w1 ⟨rfl, rfl⟩)
      | (go_at_call 8; refine HR.out.mono ?_; rintro e w1 ⟨rfl, rfl⟩)
      | (go_at_call 9; refine HK.out.mono ?_; rintro e w2 ⟨rfl, hg⟩; have HG := Lib.hid hg; clear hg))
    all_goals go_ret
    all_goals exact ⟨rfl, below_of_grown HG.out (Nat.le_refl _) (by simp)⟩
  · obtain ⟨N, rfl⟩ : ∃ N : Nat, n = N := ⟨n.toNat, by omega⟩
    have hN1 : 1 ≤ N := by omega
    have hN2 : N ≤ 1024 := by omega
    have HNW := Lib.hid (one_new HT.out (World.grownBy.refl W none) N hN1 hN2)
    clear hout hn
    go_enter Tryd.func3, Tryd.ntmps3
    go_wp2_with (first
      | (go_at_call 7
         refine HNW.out.mono ?_
         rintro e w1 ⟨q, own, rfl, h1, hg1, _⟩
         have H1 := Lib.hid h1; have HG1 := Lib.hid hg1
         have HNR := Lib.hid (doc_new hg1 N hN1 hN2)
         clear h1 hg1)
      | (go_at_call 8
         refine HNR.out.mono ?_
         rintro e w2 ⟨r, own2, rfl, h2, hg2, hl2⟩
         have HP := Lib.hid (show Both W w2 q r N (fresh N) (fresh N) own own2 from ⟨H1.out.grown hg2, h2, fun i hi he => by have := H1.out.lt i hi; have := hl2 i he; omega, grown_trans_none HG1.out hg2, HT.out⟩)
         have HK := Lib.hid (known8_call HT.out HP.out.gr)
         clear h2 hg2 hl2)
      | (go_at_call 9
         refine HK.out.mono ?_
         rintro e w3 ⟨rfl, hg⟩
         have HP3 := Lib.hid (HP.out.grown hg)
         clear hg))
    clear H1 HG1 HK HNW HNR HP
    go_loopw [7, 8, 9, 10, 11, 12, 13] (fun i _ _ _ _ _ _ wr => ∃ k : Nat, k ≤ M ∧ i = .int .i64 k ∧ ∃ x o2, Both W wr q r N x x own o2) (fun i _ _ _ _ _ _ _ => M - (intOf i).toNat)
    case atStart => exact ⟨0, by omega, rfl, _, _, HP3.out⟩
    case round =>
      obtain ⟨k, hk, rfl, x, own2, ho⟩ := hrel
      have HO := Lib.hid ho
      clear ho
      by_cases hlt : k < M
      · have h1 : (k : Int) < M := by omega
        have h0 : (0 : Int) ≤ k := by omega
        have hw1 : IntKind.i64.wrap ((k : Int) + 1) = ((k + 1 : Nat) : Int) := wrap_i64n (n := k + 1) (by omega)
        obtain ⟨ga, oa, kind, page, rfl, hy, hcells⟩ := HSC.out.all hlt
        obtain ⟨c1, c2⟩ := hcells _ HO.out.gr
        have HY := Lib.hid hy
        have HN := Lib.hid (St.new HO.out kind page)
        clear hcells hy
        go_upto_block 2 with fail
        generalize hwb : wr.alloc (.cells #[.int .i64 kind, .int .i64 page] 29) = wb at *
        generalize hxb : wr.heap.size = xb at *
        clear hwb hxb c1 c2
        go_cut [9, 10, 11, 12, 13] (fun ok _ _ _ _ wx => ok = .bool true ∧ ∃ x' o2, St W wx q r N x' x' own o2 xb kind page)
        case first =>
          have x0 := HN.out.kd
          have x1 := HN.out.pg
          by_cases k0 : kind = 0
          · have t0 : (kind == 0) = true := by simp [k0]
            clear k0
            obtain ⟨res, hres⟩ : ∃ res, isF x.F N page = res := ⟨_, rfl⟩
            have HDA := Lib.hid (one_mark HN.out.drew.b.a page HY.out)
            have HDB := fun (w : World) (o2 : Nat → Prop) (h : Doc W w r N x o2) => Lib.hid (doc_mark h page HY.out)
            simp only [hres] at HDA HDB
            have hbb : (res == res) = true := by simp
            have HDB := Lib.hid HDB
            clear hres
            go_wp2_with fail
            go_region_held3 (fun wx => wx.cell? ⟨xb, 1, none⟩ = some (.int .i64 page))
              (first
                | exact HN.out.drew.pg
                | exact H5.out.pg
                | exact H6.out.pg)
              (first
                | (go_at_call 10
                   refine HDA.out.mono ?_
                   rintro e w5 ⟨rfl, h5, ht5⟩
                   have H5 := Lib.hid (HN.out.drew.ofA h5 ht5)
                   clear h5 ht5)
                | (go_at_call 11
                   refine (HDB.out _ _ H5.out.b.b).out.mono ?_
                   rintro e w6 ⟨rfl, own6, h6, ht6⟩
                   have H6 := Lib.hid (H5.out.ofB h6 ht6)
                   clear h6 ht6))
            all_goals go_wp2_with fail
            all_goals go_meet
            all_goals exact ⟨rfl, _, _, H6.out⟩
          have b0 : (kind == 0) = false := by simpa using k0
          by_cases k1 : kind = 1
          · have t1 : (kind == 1) = true := by simp [k1]
            clear k0 k1
            obtain ⟨rr, ok, hl⟩ := least_ex x.F N
            have HL := Lib.hid hl
            have HOUT := Lib.hid (fun p hp => (HN.out.b.a.out p hp).1)
            have hb1 : ((rr : Int) == (rr : Int)) = true := by simp
            have hb2 : (ok == ok) = true := by simp
            clear hl
            go_wp2_with (first
              | (go_at_call 12
                 refine (one_take_at HN.out.b.a HL.out).mono ?_
                 rintro e w5 ⟨rfl, h5, ht5⟩
                 have H5 := Lib.hid (HN.out.ofA h5 ht5)
                 clear h5 ht5)
              | (go_at_call 13
                 refine (doc_take_at H5.out.b.b HOUT.out HL.out).mono ?_
                 rintro e w6 ⟨rfl, own6, h6, ht6⟩
                 have H6 := Lib.hid (H5.out.ofB h6 ht6)
                 clear h6 ht6))
            all_goals go_meet
            all_goals exact ⟨rfl, _, _, H6.out⟩
          have b1 : (kind == 1) = false := by simpa using k1
          by_cases k2 : kind = 2
          · have t2 : (kind == 2) = true := by simp [k2]
            clear k0 k1 k2
            obtain ⟨res, hres⟩ : ∃ res, isT x.F x.D N page = res := ⟨_, rfl⟩
            have HDA := Lib.hid (one_drop HN.out.drew.b.a page HY.out)
            have HDB := fun (w : World) (o2 : Nat → Prop) (h : Doc W w r N x o2) => Lib.hid (doc_drop h page HY.out)
            simp only [hres] at HDA HDB
            have hbb : (res == res) = true := by simp
            have HDB := Lib.hid HDB
            clear hres
            go_wp2_with fail
            go_region_held3 (fun wx => wx.cell? ⟨xb, 1, none⟩ = some (.int .i64 page))
              (first
                | exact HN.out.drew.pg
                | exact H5.out.pg
                | exact H6.out.pg)
              (first
                | (go_at_call 14
                   refine HDA.out.mono ?_
                   rintro e w5 ⟨rfl, h5, ht5⟩
                   have H5 := Lib.hid (HN.out.drew.ofA h5 ht5)
                   clear h5 ht5)
                | (go_at_call 15
                   refine (HDB.out _ _ H5.out.b.b).out.mono ?_
                   rintro e w6 ⟨rfl, own6, h6, ht6⟩
                   have H6 := Lib.hid (H5.out.ofB h6 ht6)
                   clear h6 ht6))
            all_goals go_wp2_with fail
            all_goals go_meet
            all_goals exact ⟨rfl, _, _, H6.out⟩
          have b2 : (kind == 2) = false := by simpa using k2
          by_cases k3 : kind = 3
          · have t3 : (kind == 3) = true := by simp [k3]
            clear k0 k1 k2 k3
            have HOUT := Lib.hid (fun p hp => (HN.out.b.a.out p hp).2.1)
            go_wp2_with (first
              | (go_at_call 16
                 refine (one_settle HN.out.b.a).mono ?_
                 rintro e w5 ⟨rfl, h5, ht5⟩
                 have H5 := Lib.hid (HN.out.ofA h5 ht5)
                 clear h5 ht5)
              | (go_at_call 17
                 refine (doc_settle H5.out.b.b HOUT.out).mono ?_
                 rintro e w6 ⟨rfl, own6, h6, ht6⟩
                 have H6 := Lib.hid (H5.out.ofB h6 ht6)
                 clear h6 ht6))
            all_goals go_meet
            all_goals exact ⟨rfl, _, _, H6.out⟩
          have b3 : (kind == 3) = false := by simpa using k3
          by_cases k4 : kind = 4
          · have t4 : (kind == 4) = true := by simp [k4]
            clear k0 k1 k2 k3 k4
            go_wp2_with (first
              | (go_at_call 18
                 refine (one_undo HN.out.b.a).mono ?_
                 rintro e w5 ⟨rfl, h5, ht5⟩
                 have H5 := Lib.hid (HN.out.ofA h5 ht5)
                 clear h5 ht5)
              | (go_at_call 19
                 refine (doc_undo H5.out.b.b).mono ?_
                 rintro e w6 ⟨rfl, own6, h6, ht6⟩
                 have H6 := Lib.hid (H5.out.ofB h6 ht6)
                 clear h6 ht6))
            all_goals go_meet
            all_goals exact ⟨rfl, _, _, H6.out⟩
          have b4 : (kind == 4) = false := by simpa using k4
          clear k0 k1 k2 k3 k4
          go_wp2_with fail
          go_meet
          exact ⟨rfl, _, _, HN.out⟩
        case rest =>
          obtain ⟨rfl, x2, o2, hs⟩ := hcut
          have HS := Lib.hid hs
          clear hs
          obtain ⟨cc, hcc⟩ : ∃ cc, cnt x2.F N = cc := ⟨_, rfl⟩
          obtain ⟨res, hres⟩ : ∃ res, isF x2.F N page = res := ⟨_, rfl⟩
          have HFA := Lib.hid (one_free HS.out.drew.b.a)
          have HFB := Lib.hid (doc_free HS.out.drew.b.b)
          have HIA := Lib.hid (isFree_grown (one_isFree HS.out.drew.b.a page HY.out))
          have HIB := fun (w : World) (o2 : Nat → Prop) (h : Doc W w r N x2 o2) => Lib.hid (doc_isFree h page HY.out)
          simp only [hcc] at HFA HFB
          simp only [hres] at HIA HIB
          have HIB := Lib.hid HIB
          have HRL := Lib.hid (show (runsUp x2.F N).length ≤ 1024 from Nat.le_trans (runsUp_len x2.F N) hN2)
          have hbb : (res != res) = false := by simp
          have hcb : ((cc : Int) != (cc : Int)) = false := by simp
          clear hcc hres
          go_wp2_with fail
          go_region_held3 (fun wx => wx.cell? ⟨xb, 1, none⟩ = some (.int .i64 page))
            (first
              | exact HS.out.drew.pg
              | exact H5.out.pg
              | exact H6.out.pg
              | exact H7.out.pg
              | exact H8.out.pg)
            (first
              | (go_at_call 20
                 refine HFA.out.mono ?_
                 rintro e w3 ⟨rfl, rfl⟩)
              | (go_at_call 21
                 refine HFB.out.mono ?_
                 rintro e w4 ⟨rfl, rfl⟩)
              | (go_at_call 22
                 refine HIA.out.mono ?_
                 rintro e w5 ⟨rfl, hg5⟩
                 have H5 := Lib.hid (HS.out.drew.grown hg5)
                 clear hg5)
              | (go_at_call 23
                 refine (HIB.out _ _ H5.out.b.b).out.mono ?_
                 rintro e w6 ⟨rfl, rfl⟩)
              | (go_at_call 25
                 refine (one_runs H5.out.b.a).mono ?_
                 rintro e w6 ⟨va, rfl, hra, hga⟩
                 have HRA := Lib.hid hra; have HGA := Lib.hid hga
                 have H6 := Lib.hid (H5.out.grown hga)
                 clear hra hga)
              | (go_at_call 26
                 refine (doc_runs H6.out.b.b).mono ?_
                 rintro e w7 ⟨vb, rfl, hrb, hgb⟩
                 have HRB := Lib.hid hrb; have HGB := Lib.hid hgb
                 have H7 := Lib.hid (H6.out.grown hgb)
                 clear hrb hgb)
              | (go_at_call 24
                 refine (entries_new HRA.out HGA.out HRB.out HGB.out HRL.out).mono ?_
                 rintro e w8 ⟨rfl, hge⟩
                 have H8 := Lib.hid (H5.out.grown hge)
                 clear hge))
          all_goals go_wp2_with fail
          all_goals exact ⟨⟨k + 1, by omega, by first | rfl | go_num, _, _, H8.out.b⟩, by simp [intOf]; omega⟩
      · have hkn : ¬ ((k : Int) < M) := by omega
        go_wp2_with fail
        go_ret
        exact ⟨rfl, below_of_grown HO.out.gr (Nat.le_refl _) (by simp)⟩
end Go.Proofs.YtldbfhgkicphkaaDoor.AllocPlays
