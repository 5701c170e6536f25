/- The law CountsApart: a change of one page's count changes no other page's; what is undone has not happened. -/
import Derived.Test.YtpdkjgmldlpaaaaCtScript
import Derived.Deep.DeepCutAuto
import Derived.Deep.CutBlock
import Derived.Deep.RegionHeld3
import Derived.Deep.QuietTactic
namespace Go.Proofs.Ytpdkjgmldlpaaaa.CountsApart
open Go.ChangeShapes Go.WideShapes Go.RowKit CrcMath CodecMath Mem Crc Codec Cts
set_option linter.unusedVariables false
set_option linter.unusedSimpArgs false

set_option maxRecDepth 100000 in
theorem open_deed {H : Type} {enc : TypeId × Value → H} {W : World} {base : Nat} {v : Value} {d : DataW H} {p : List MemPlace} (o : Value.okWide Try.prog W .any base 33 v) (h : DataW.Trod enc Try.prog W 0 (fun _ => true) true 33 v d p) :
    ∃ y : Dp, v = .agg #[.int .i64 y.kind, .int .i64 y.page, .int .i64 y.by_, .slice y.A y.n y.c] ∧ y.ok W := by
  obtain ⟨cs, n, rfl, hl, hf⟩ := open_agg Try.underlying33 o h
  rw [show Try.prog.cellsOf 33 = 4 from by kernel_rfl] at hl
  match cs, hl with
  | [c0, c1, c2, c3], _ =>
    have k1 : Try.prog.cellsOf 3 = 1 := by kernel_rfl
    have k3 : Try.prog.cellsOf 31 = 1 := by kernel_rfl
    obtain ⟨_, h0⟩ := hf 0 0 3 rfl
    obtain ⟨_, h1⟩ := hf 1 1 3 rfl
    obtain ⟨_, h2⟩ := hf 2 2 3 rfl
    obtain ⟨_, h3⟩ := hf 3 3 31 rfl
    rw [k1] at h0 h1 h2
    rw [k3] at h3
    obtain ⟨a0, e0, b0⟩ := int_came9 h0
    obtain ⟨a1, e1, b1⟩ := int_came9 h1
    obtain ⟨a2, e2, b2⟩ := int_came9 h2
    obtain ⟨A, m, c, l, e3, hb, hm, hc⟩ := open_bytes_in h3
    simp at e0 e1 e2 e3
    subst e0 e1 e2 e3
    exact ⟨⟨a0, a1, a2, A, m, c, l⟩, rfl, b0, b1, b2, hb, Nat.le_trans hm hc⟩
section
variable {n : Nat} {x : Ct} {page b : Int} {p : Nat}
theorem add_W : (addE n x page b).2.W = x.W := by
  cases hp : isP n page with
  | false => rw [addE_no hp]
  | true =>
    obtain ⟨k, rfl, hk⟩ := isP_nat hp
    cases hf : fits (x.N k) b with
    | false => rw [addE_bad hk hf]
    | true => rw [addE_yes hk hf]
theorem apart_get (hp : p < n) (h : (p : Int) ≠ page) : getE n (addE n x page b).2 (p : Int) = x.N p := by
  rw [getE_nat _ hp]
  cases hq : isP n page with
  | false => rw [addE_no hq]
  | true =>
    obtain ⟨k, rfl, hk⟩ := isP_nat hq
    cases hf : fits (x.N k) b with
    | false => rw [addE_bad hk hf]
    | true =>
      rw [addE_yes hk hf]
      exact upd_ne _ _ (by omega)
theorem apart_yes (hp : p < n) (h : (addE n x (p : Int) b).1 = 0) : getE n (addE n x (p : Int) b).2 (p : Int) = x.N p + b := by
  rw [getE_nat _ hp]
  cases hf : fits (x.N p) b with
  | false => rw [addE_bad hp hf] at h; cases h
  | true =>
    rw [addE_yes hp hf]
    exact upd_same _ _ _
theorem apart_bad (hp : p < n) (h : (addE n x (p : Int) b).1 ≠ 0) : getE n (addE n x (p : Int) b).2 (p : Int) = x.N p := by
  rw [getE_nat _ hp]
  cases hf : fits (x.N p) b with
  | false => rw [addE_bad hp hf]
  | true => rw [addE_yes hp hf] at h; exact absurd rfl h
theorem get_bound (h : CtOk n x) (k : Int) : 0 ≤ getE n x k ∧ getE n x k ≤ 1000 := by
  cases hp : isP n k with
  | false => rw [getE_no x hp]; omega
  | true =>
    obtain ⟨j, rfl, hj⟩ := isP_nat hp
    rw [getE_nat x hj]
    exact h.bN j
theorem row_succ (f : Nat → Int) (k : Nat) : row (k + 1) f = row k f ++ [f k] := by simp [row, List.range_succ]
end
/-- Counts, beside a deed's own block and the row of what was. -/
structure Ap (W w : World) (q n : Nat) (y : Ct) (own : Nat → Prop) (xb : Nat) (d : Dp) (g : Nat) (f : Nat → Int) : Prop where
  a : One W w q n y own
  bx : Blk w xb 33 #[.int .i64 d.kind, .int .i64 d.page, .int .i64 d.by_, .slice d.A d.n d.c]
  was : ∀ j, j < n → w.cell? ⟨g, j, none⟩ = some (.int .i64 (f j))
  gr : W.grownBy w none
  n1 : ¬ own xb
  n2 : ¬ own g
  lt : g < w.heap.size
section
variable {W w w' : World} {q n xb g : Nat} {y : Ct} {own : Nat → Prop} {d : Dp} {f : Nat → Int}
theorem Ap.pg (h : Ap W w q n y own xb d g f) : w.cell? ⟨xb, 1, none⟩ = some (.int .i64 d.page) := h.bx.cell 1
theorem Ap.by_ (h : Ap W w q n y own xb d g f) : w.cell? ⟨xb, 2, none⟩ = some (.int .i64 d.by_) := h.bx.cell 2
theorem Ap.ofA {y' : Ct} (h : Ap W w q n y own xb d g f) (h1 : One W w' q n y' own) (ht : Turn w w' own own) : Ap W w' q n y' own xb d g f :=
  ⟨h1, ht.blk h.bx h.n1, fun j hj => by rw [World.cell?_of_block (a := ⟨g, j, none⟩) (ht.block g h.lt h.n2)]; exact h.was j hj, grown_turn h.gr ht h.a.low, h.n1, h.n2, Nat.lt_of_lt_of_le h.lt ht.size⟩
theorem Ap.grown (h : Ap W w q n y own xb d g f) (hg : w.grownBy w' none) : Ap W w' q n y own xb d g f := h.ofA (h.a.grown hg) (.none_ hg)
theorem Ap.drew (h : Ap W w q n y own xb d g f) : Ap W w.drew q n y own xb d g f := h.grown (grown_drew w none)
end
set_option maxRecDepth 100000 in
set_option maxHeartbeats 16000000 in
theorem walk {H : Type} {enc : TypeId × Value → H} (W : World) (base : Nat) (v0 v1 v2 : Value) (d0 d1 d2 : DataW H) (p0 p1 p2 : List MemPlace)
    (o0 : Value.okWide Try.prog W .any base 3 v0)
    (o1 : Value.okWide Try.prog W .any base 22 v1)
    (o2 : Value.okWide Try.prog W .any base 33 v2)
    (h0 : DataW.Trod enc Try.prog W 0 (fun _ => true) true 3 v0 d0 p0)
    (h1 : DataW.Trod enc Try.prog W 0 (fun _ => true) true 22 v1 d1 p1)
    (h2 : DataW.Trod enc Try.prog W 0 (fun _ => true) true 33 v2 d2 p2)
    (hsz : (DataW.weightsEach Try.prog [3, 22, 33] [d0, d1, d2]).all (· ≤ reachBytes) = true) :
    Calls Try.prog 5 #[v0, v1, v2] W fun e W' => e = .returned (.bool true) ∧ Below W.heap.size W W' := by
  obtain ⟨n, rfl, _, _, hn⟩ := open_int Try.underlying3 o0 h0
  obtain ⟨A, M, cM, ops, rfl, hsc, hM⟩ := open_script9 o1 h1
  obtain ⟨d, rfl, hd⟩ := open_deed o2 h2
  have hn := bounds_i64 hn
  have HSC := Lib.hid hsc; have HD := Lib.hid hd
  clear o0 o1 o2 h0 h1 h2 hsz hsc hd
  have hg0 := World.grownBy_alloc W (.cells #[.int .i64 d.kind, .int .i64 d.page, .int .i64 d.by_, .slice d.A d.n d.c] 33) none
  have HG0 := Lib.hid hg0
  have HNW := Lib.hid (one_new hg0 n)
  have HX := Lib.hid (Blk.new W 33 #[.int .i64 d.kind, .int .i64 d.page, .int .i64 d.by_, .slice d.A d.n d.c])
  have HSZ := Lib.hid (show W.heap.size < (W.alloc (.cells #[.int .i64 d.kind, .int .i64 d.page, .int .i64 d.by_, .slice d.A d.n d.c] 33)).heap.size by simp)
  have HK := fun w => Lib.hid (@lives_call w)
  clear hg0
  cases hb : mb n with
  | false =>
    have HB := Lib.hid hb; clear hb
    go_enter Try.func5, Try.ntmps5
    go_wp2_with (first
      | (go_at_call 6
         refine HNW.out.mono ?_
         rintro e w1 (⟨_, rfl, rfl⟩ | ⟨ht, _⟩)
         case inr => rw [HB.out] at ht; cases ht)
      | (go_at_call 10
         refine (HK _).out.mono ?_
         rintro e w3 ⟨rfl, hg⟩
         have HG := Lib.hid hg; clear hg))
    all_goals go_ret
    all_goals exact ⟨rfl, below_of_grown (grown_trans_none HG0.out HG.out) (Nat.le_refl _) (by simp)⟩
  | true =>
    obtain ⟨N, rfl, hN1, hN2⟩ := mb_nat hb
    have HB := Lib.hid hb; clear hb
    go_enter Try.func5, Try.ntmps5
    go_wp2_with fail
    refine HNW.out.mono ?_
    rintro e w1 (⟨ht, _⟩ | ⟨_, q, own, rfl, h1, hg1, hlo⟩)
    case inl => rw [HB.out] at ht; cases ht
    have HP := Lib.hid (show Cts.One W w1 q N zeroCt own ∧ W.grownBy w1 none ∧ Blk w1 W.heap.size 33 #[.int .i64 d.kind, .int .i64 d.page, .int .i64 d.by_, .slice d.A d.n d.c] from ⟨h1, grown_trans_none HG0.out hg1, HX.out.grown hg1 (by simp)⟩)
    have HN1 := Lib.hid (show ¬ own W.heap.size from fun e => by have := hlo _ e; have := HSZ.out; omega)
    clear h1 hg1 hlo HNW HX HSZ HG0
    go_wp2_with fail
    go_loopw [9] (fun i wr => ∃ k : Nat, k ≤ M ∧ i = .int .i64 k ∧ ∃ x, Cts.One W wr q N x own ∧ W.grownBy wr none ∧ Blk wr W.heap.size 33 #[.int .i64 d.kind, .int .i64 d.page, .int .i64 d.by_, .slice d.A d.n d.c]) (fun i _ => M - (RowKit.intOf i).toNat)
    case atStart => exact ⟨0, by omega, rfl, _, HP.out⟩
    case round =>
      obtain ⟨k, hk, rfl, x, ho, hgo, hbo⟩ := hrel
      have HO := Lib.hid ho; have HGO := Lib.hid hgo; have HBO := Lib.hid hbo
      clear ho hgo hbo HP
      by_cases hlt : k < M
      · have h1 : (k : Int) < M := by omega
        have h0 : (0 : Int) ≤ k := by omega
        have hw1 : IntKind.i64.wrap ((k : Int) + 1) = ((k + 1 : Nat) : Int) := wrap_i64n (n := k + 1) (by omega)
        obtain ⟨ga, oa, d', rfl, hy, hcells⟩ := HSC.out.all hlt
        have HCE := Lib.hid (fun w hw => (hcells w hw).2)
        have HDA := Lib.hid (one_add (HO.out.grown (grown_drew _ none)) d'.page d'.by_ hy.by_)
        have HGD := Lib.hid (grown_trans_none HGO.out (grown_drew _ none))
        have HLO := Lib.hid HO.out.low
        clear hcells hy
        go_wp2_with fail
        go_region_held3 (fun wx => wx.cell? ⟨ga, oa + k * 4 + 1, none⟩ = some (.int .i64 d'.page) ∧ wx.cell? ⟨ga, oa + k * 4 + 2, none⟩ = some (.int .i64 d'.by_))
          (first
            | exact ⟨(HCE.out _ HGD.out).2.1, (HCE.out _ HGD.out).2.2.1⟩
            | exact ⟨(HCE.out _ HG5.out).2.1, (HCE.out _ HG5.out).2.2.1⟩)
          (first
            | (go_at_call 12
               refine HDA.out.mono ?_
               rintro e w5 ⟨rfl, h5, ht5⟩
               have H5 := Lib.hid h5
               have HG5 := Lib.hid (grown_turn HGD.out ht5 HLO.out)
               have HB5 := Lib.hid (ht5.blk (HBO.out.grown (grown_drew _ none) (by simp)) HN1.out)
               clear h5 ht5))
        all_goals go_wp2_with fail
        all_goals go_roundw
        case rel => exact ⟨k + 1, by omega, by first | rfl | go_num, _, H5.out, HG5.out, HB5.out⟩
        case measure => simp [RowKit.intOf]; omega
      · have hkn : ¬ ((k : Int) < M) := by omega
        go_wp2_with (go_at_call 16
                     refine (one_settle HO.out).mono ?_
                     rintro e w2 ⟨rfl, h2, ht2⟩
                     have H2 := Lib.hid h2
                     have HG2 := Lib.hid (grown_turn HGO.out ht2 HO.out.low)
                     have HB2 := Lib.hid (ht2.blk HBO.out HN1.out)
                     clear h2 ht2)
        clear HO HGO HBO
        obtain ⟨i0, hi0, hz0, hz1, hz2⟩ := info_parts int_info
        have hi := Lib.hid hi0; have z0 := Lib.hid hz0; have z1 := Lib.hid hz1; have z2 := Lib.hid hz2; clear hi0 hz0 hz1 hz2
        go_loopw [10, 11] (fun u i wr => ∃ p : Nat, p ≤ N ∧ i = .int .i64 p ∧ Own wr w2.heap.size 3 1 u p (i64s (row p x.N)) ∧ w2.grownBy wr none) (fun _ i _ => N - (RowKit.intOf i).toNat)
        case atStart => exact ⟨0, by omega, rfl, Own.nil _ _ _ _, World.grownBy.refl _ _⟩
        case round =>
          obtain ⟨p, hp, rfl, hown, hgw⟩ := hrel
          have HOW := Lib.hid hown; have HGW := Lib.hid hgw
          clear hown hgw
          have HGT := Lib.hid (one_get (H2.out.grown HGW.out) (p : Int))
          have hsz := HGW.out.size
          by_cases hpl : p < N
          · rw [getE_nat _ hpl] at HGT
            have HRS := Lib.hid (row_succ x.N p)
            rw [show (settleE x).N p = x.N p from rfl] at HGT
            obtain ⟨y, hy⟩ : ∃ y, x.N p = y := ⟨_, rfl⟩
            rw [hy] at HGT HRS
            clear hy
            obtain ⟨l, hl⟩ : ∃ l, row p x.N = l := ⟨_, rfl⟩
            rw [hl] at HOW HRS
            clear hl
            go_wp2_with (first
              | (go_at_call 22; refine HGT.out.mono ?_; rintro e w3 ⟨rfl, rfl⟩)
              | (at_builtin
                 refine wpList_append_own_full _ rfl (.tmp 60) (.tmp 64) _ rfl w2.heap.size 3 i0 _ 1 8 Try.underlying39 hi.out z0.out z1.out z2.out rfl (by omega) _ p _ rfl (HOW.out.alloc _)
                   _ _ 1 1 _ rfl (reads_one_int _ _) (fun u hu => by simp at hu; subst hu; rfl) (by simp only [maxLen]; omega) (by omega) (by simp; omega) ?_
                 intro v' w' hown' hgr'
                 have HO' := Lib.hid hown'; have HG' := Lib.hid hgr'; clear hown' hgr'))
            go_roundw
            case rel =>
              refine ⟨p + 1, by omega, by go_num, ?_, grownBy_new (HGW.out.trans (World.grownBy_alloc _ _ none)) HG'.out.1 (fun i hi => (HOW.out.base_ i hi).1)⟩
              rw [HRS.out, i64s_append]
              exact HO'.out
            case measure => simp [RowKit.intOf]; omega
          · have hpn : p = N := by omega
            subst hpn
            obtain ⟨g, cg, rfl, hbg, hlg, _, _, hcg⟩ := HOW.out.reads (by omega)
            have HAP := Lib.hid (show Ap W wr q p (settleE x) own W.heap.size d g x.N from ⟨H2.out.grown HGW.out, HB2.out.grown HGW.out (by simp), fun j hj => hcg j _ (by rw [i64s, List.getElem?_map, row_get, if_pos hj]; rfl), grown_trans_none HG2.out HGW.out, HN1.out, fun e => by have := H2.out.lt g e; omega, hlg⟩)
            have HXB := Lib.hid (show ∀ j, j < p → 0 ≤ x.N j ∧ x.N j ≤ 1000 from fun j _ => H2.out.ok.bN j)
            have HDB := HD.out.by_
            clear HOW hcg hlg hbg HGT
            have x1 := HAP.out.pg
            have x2 := HAP.out.by_
            obtain ⟨ax, hax⟩ : ∃ ax, addE p (settleE x) d.page d.by_ = ax := ⟨_, rfl⟩
            have HADD := Lib.hid (one_add HAP.out.a d.page d.by_ HDB)
            have HAW := Lib.hid (add_W (n := p) (x := settleE x) (page := d.page) (b := d.by_))
            have HNE := Lib.hid (show ∀ j, j < p → (j : Int) ≠ d.page → getE p (addE p (settleE x) d.page d.by_).2 (j : Int) = x.N j from fun j hj h => apart_get hj h)
            have HYE := Lib.hid (show ∀ j, j < p → (j : Int) = d.page → (addE p (settleE x) d.page d.by_).1 = 0 → getE p (addE p (settleE x) d.page d.by_).2 (j : Int) = x.N j + d.by_ from fun j hj h h0 => by rw [← h] at h0 ⊢; exact apart_yes hj h0)
            have HBA := Lib.hid (show ∀ j, j < p → (j : Int) = d.page → (addE p (settleE x) d.page d.by_).1 ≠ 0 → getE p (addE p (settleE x) d.page d.by_).2 (j : Int) = x.N j from fun j hj h h0 => by rw [← h] at h0 ⊢; exact apart_bad hj h0)
            rw [hax] at HADD HAW HNE HYE HBA
            obtain ⟨f, y⟩ := ax
            clear hax HGW
            go_wp2_with (go_at_call 12
                         refine HADD.out.mono ?_
                         rintro e w3 ⟨rfl, h3, ht3⟩
                         have HA3 := Lib.hid (HAP.out.ofA h3 ht3)
                         clear h3 ht3)
            clear HAP HADD x1 x2 H2 HG2 HB2
            go_loopw [13] (fun i wr => ∃ j : Nat, j ≤ p ∧ i = .int .i64 j ∧ Ap W wr q p y own W.heap.size d g x.N) (fun i _ => p - (RowKit.intOf i).toNat)
            case atStart => exact ⟨0, by omega, rfl, HA3.out⟩
            case round =>
              obtain ⟨j, hj, rfl, hap⟩ := hrel
              have HAP := Lib.hid hap
              clear hap HA3
              by_cases hjl : j < p
              · have hgj := hjl
                obtain ⟨hx0, hx1⟩ := HXB.out j hjl
                have HB := Lib.hid (get_bound HAP.out.a.ok (j : Int))
                obtain ⟨hy0, hy1⟩ := HB.out
                have hng := HNE.out j hjl; have hye := HYE.out j hjl; have hba := HBA.out j hjl
                have wv := fun (w : World) (h : Ap W w q p y own W.heap.size d g x.N) => h.was j hjl
                have WV := Lib.hid wv
                obtain ⟨u, hu⟩ : ∃ u, x.N j = u := ⟨_, rfl⟩
                obtain ⟨z, hz⟩ : ∃ z, getE p y (j : Int) = z := ⟨_, rfl⟩
                have HG := Lib.hid (show ∀ w, Ap W w q p y own W.heap.size d g x.N → Calls Try.prog 22 #[.pointer (some ⟨q, 0, none⟩), .int .i64 (j : Int)] w fun e w' => e = .returned (.int .i64 z) ∧ w' = w from fun w h => hz ▸ one_get h.a (j : Int))
                rw [hu] at hx0 hx1 hng hye hba WV
                rw [hz] at hy0 hy1 hng hye hba
                clear hu hz wv HB
                by_cases hpg : (j : Int) = d.page
                · have hye := hye hpg; have hba := hba hpg
                  clear hng
                  have hq1 : ((j : Int) != d.page) = false := by simpa using hpg
                  have hq2 : ((j : Int) == d.page) = true := by simpa using hpg
                  by_cases hf : f = 0
                  · have hz := hye hf
                    subst hf
                    clear hye hba hpg
                    have hq3 : z - u = d.by_ := by omega
                    have hq4 : IntKind.i64.wrap d.by_ = d.by_ := IntWalk.i64_in _ (by have := HDB.1; have := HDB.2; omega)
                    have hq5 : (d.by_ != d.by_) = false := by simp
                    clear hz
                    have x1 := HAP.out.pg
                    have x2 := HAP.out.by_
                    have x3 := WV.out _ HAP.out
                    go_wp2_with fail
                    go_region
                    have HA4 := Lib.hid HAP.out.drew
                    clear x1 x2 x3
                    generalize wr.drew = w4 at *
                    have x1 := HA4.out.pg
                    have x2 := HA4.out.by_
                    have x3 := WV.out _ HA4.out
                    have HQ := fun k => Lib.hid (HG.out _ (HA4.out.grown (show World.grownBy w4 (w4.drewN k) none from ⟨rfl, rfl, rfl, Nat.le_refl _, fun _ _ _ => rfl⟩)))
                    go_wp2_with fail
                    go_quiet ((go_at_call 22; exact Calls.quiet_of_same (HQ _).out))
                    have HA5 := Lib.hid (HA4.out.grown (show World.grownBy w4 (w4.drewN nq) none from ⟨rfl, rfl, rfl, Nat.le_refl _, fun _ _ _ => rfl⟩))
                    clear HQ x1 x2 x3
                    generalize w4.drewN nq = w5 at *
                    have x1 := HA5.out.pg
                    have x2 := HA5.out.by_
                    have x3 := WV.out _ HA5.out
                    go_wp2_with fail
                    go_region
                    have HA6 := Lib.hid HA5.out.drew
                    clear x1 x2 x3
                    generalize w5.drew = w6 at *
                    go_wp2_with fail
                    go_roundw
                    case rel => exact ⟨j + 1, by omega, by go_num, HA6.out⟩
                    case measure => simp [RowKit.intOf]; omega
                  · have hz := hba hf
                    subst hz
                    clear hye hba hpg
                    have hq3 : (f == 0) = false := by simpa using hf
                    have hq4 : (f != 0) = true := by simpa using hf
                    have hzz : (z != z) = false := by simp
                    clear hf
                    have x1 := HAP.out.pg
                    have x2 := HAP.out.by_
                    have x3 := WV.out _ HAP.out
                    go_wp2_with fail
                    go_region
                    have HA4 := Lib.hid HAP.out.drew
                    clear x1 x2 x3
                    generalize wr.drew = w4 at *
                    have x1 := HA4.out.pg
                    have x2 := HA4.out.by_
                    have x3 := WV.out _ HA4.out
                    go_wp2_with fail
                    go_region
                    have HA5 := Lib.hid HA4.out.drew
                    clear x1 x2 x3
                    generalize w4.drew = w5 at *
                    have x1 := HA5.out.pg
                    have x2 := HA5.out.by_
                    have x3 := WV.out _ HA5.out
                    have HQ := fun k => Lib.hid (HG.out _ (HA5.out.grown (show World.grownBy w5 (w5.drewN k) none from ⟨rfl, rfl, rfl, Nat.le_refl _, fun _ _ _ => rfl⟩)))
                    go_wp2_with fail
                    go_quiet ((go_at_call 22; exact Calls.quiet_of_same (HQ _).out))
                    have HA6 := Lib.hid (HA5.out.grown (show World.grownBy w5 (w5.drewN nq) none from ⟨rfl, rfl, rfl, Nat.le_refl _, fun _ _ _ => rfl⟩))
                    clear HQ x1 x2 x3
                    generalize w5.drewN nq = w6 at *
                    go_wp2_with fail
                    go_roundw
                    case rel => exact ⟨j + 1, by omega, by go_num, HA6.out⟩
                    case measure => simp [RowKit.intOf]; omega
                · have hz := hng hpg
                  subst hz
                  clear hng hye hba
                  have hq1 : ((j : Int) != d.page) = true := by simpa using hpg
                  have hq2 : ((j : Int) == d.page) = false := by simpa using hpg
                  have hzz : (z != z) = false := by simp
                  clear hpg
                  have x1 := HAP.out.pg
                  have x2 := HAP.out.by_
                  have x3 := WV.out _ HAP.out
                  have HQ := fun k => Lib.hid (HG.out _ (HAP.out.grown (show World.grownBy wr (wr.drewN k) none from ⟨rfl, rfl, rfl, Nat.le_refl _, fun _ _ _ => rfl⟩)))
                  go_wp2_with fail
                  go_quiet ((go_at_call 22; exact Calls.quiet_of_same (HQ _).out))
                  have HA4 := Lib.hid (HAP.out.grown (show World.grownBy wr (wr.drewN nq) none from ⟨rfl, rfl, rfl, Nat.le_refl _, fun _ _ _ => rfl⟩))
                  clear HQ x1 x2 x3
                  generalize wr.drewN nq = w4 at *
                  have x1 := HA4.out.pg
                  have x2 := HA4.out.by_
                  have x3 := WV.out _ HA4.out
                  go_wp2_with fail
                  go_region
                  have HA5 := Lib.hid HA4.out.drew
                  clear x1 x2 x3
                  generalize w4.drew = w5 at *
                  have x1 := HA5.out.pg
                  have x2 := HA5.out.by_
                  have x3 := WV.out _ HA5.out
                  go_wp2_with fail
                  go_region
                  have HA6 := Lib.hid HA5.out.drew
                  clear x1 x2 x3
                  generalize w5.drew = w6 at *
                  go_wp2_with fail
                  go_roundw
                  case rel => exact ⟨j + 1, by omega, by go_num, HA6.out⟩
                  case measure => simp [RowKit.intOf]; omega
              · have hjp : j = p := by omega
                subst hjp
                go_wp2_with (go_at_call 18
                             refine (one_undo HAP.out.a).mono ?_
                             rintro e w4 ⟨rfl, h4, ht4⟩
                             have HA4 := Lib.hid (HAP.out.ofA h4 ht4)
                             clear h4 ht4)
                have HUE := Lib.hid (show undoE y = ⟨x.N, x.N⟩ from by
                  have := HAW.out
                  rw [undoE, this]; rfl)
                rw [HUE.out] at HA4
                clear HAP
                go_loopw [14] (fun i wr => ∃ k2 : Nat, k2 ≤ j ∧ i = .int .i64 k2 ∧ Ap W wr q j ⟨x.N, x.N⟩ own W.heap.size d g x.N) (fun i _ => j - (RowKit.intOf i).toNat)
                case atStart => exact ⟨0, by omega, rfl, HA4.out⟩
                case round =>
                  obtain ⟨k2, hk2, rfl, hap2⟩ := hrel
                  have HAP := Lib.hid hap2
                  clear hap2
                  by_cases hkl : k2 < j
                  · have x3 := HAP.out.was k2 hkl
                    have HQ := fun k => Lib.hid (one_get (HAP.out.grown (show World.grownBy wr (wr.drewN k) none from ⟨rfl, rfl, rfl, Nat.le_refl _, fun _ _ _ => rfl⟩)).a (k2 : Int))
                    have hge : getE j ⟨x.N, x.N⟩ (k2 : Int) = x.N k2 := getE_nat _ hkl
                    simp only [hge] at HQ
                    obtain ⟨u, hu⟩ : ∃ u, x.N k2 = u := ⟨_, rfl⟩
                    simp only [hu] at HQ x3
                    clear hu hge
                    have huu : (u != u) = false := by simp
                    go_wp2_with fail
                    go_quiet ((go_at_call 22; exact Calls.quiet_of_same (HQ _).out))
                    have HA5 := Lib.hid (HAP.out.grown (show World.grownBy wr (wr.drewN nq) none from ⟨rfl, rfl, rfl, Nat.le_refl _, fun _ _ _ => rfl⟩))
                    clear HQ x3
                    generalize wr.drewN nq = w5 at *
                    go_wp2_with fail
                    go_roundw
                    case rel => exact ⟨k2 + 1, by omega, by go_num, HA5.out⟩
                    case measure => simp [RowKit.intOf]; omega
                  · have hke : k2 = j := by omega
                    subst hke
                    have HTT := Lib.hid (one_touched HAP.out.a)
                    rw [show touchE k2 ⟨x.N, x.N⟩ = [] from settle_touch ⟨x.N, fun _ => 0⟩ k2] at HTT
                    go_wp2_with (first
                      | (go_at_call 25
                         refine HTT.out.mono ?_
                         rintro e w6 ⟨va, rfl, hra, hga⟩
                         obtain ⟨A6, c6, rfl, _, _, _⟩ := own_ints hra (by simp)
                         have H6 := Lib.hid (grown_trans_none HAP.out.gr hga)
                         clear hra hga)
                      | (go_at_call 10
                         refine (HK _).out.mono ?_
                         rintro e w3 ⟨rfl, hg⟩
                         have HG := Lib.hid hg; clear hg))
                    go_ret
                    exact ⟨rfl, below_of_grown (grown_trans_none H6.out HG.out) (Nat.le_refl _) (by simp)⟩
end Go.Proofs.Ytpdkjgmldlpaaaa.CountsApart
