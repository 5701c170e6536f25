/- The law CountsPlays: whatever is asked of counts is answered as the document says, call by call. -/
import Derived.Test.YtpdkjgmldlpaaaaCtScript
import Derived.Deep.DeepCutAuto
import Derived.Deep.CutBlock
import Derived.Deep.RegionHeld3
namespace Go.Proofs.Ytpdkjgmldlpaaaa.CountsPlays
open Go.ChangeShapes Go.WideShapes Go.RowKit CrcMath CodecMath Mem Crc Codec Cts
set_option linter.unusedVariables false
set_option linter.unusedSimpArgs false

/-- Both, beside a deed's own block. -/
structure St (W w : World) (q r n : Nat) (x y : Ct) (own own2 : Nat → Prop) (xb : Nat) (d : Dp) : Prop where
  b : Both W w q r n x y own own2
  bx : Blk w xb 33 #[.int .i64 d.kind, .int .i64 d.page, .int .i64 d.by_, .slice d.A d.n d.c]
  n1 : ¬ own xb
  n2 : ¬ own2 xb
section
variable {W w w' : World} {q r n xb : Nat} {x y : Ct} {own own2 : Nat → Prop} {d : Dp}
theorem St.kd (h : St W w q r n x y own own2 xb d) : w.cell? ⟨xb, 0, none⟩ = some (.int .i64 d.kind) := h.bx.cell 0
theorem St.pg (h : St W w q r n x y own own2 xb d) : w.cell? ⟨xb, 1, none⟩ = some (.int .i64 d.page) := h.bx.cell 1
theorem St.by_ (h : St W w q r n x y own own2 xb d) : w.cell? ⟨xb, 2, none⟩ = some (.int .i64 d.by_) := h.bx.cell 2
theorem St.bd (h : St W w q r n x y own own2 xb d) : w.cell? ⟨xb, 3, none⟩ = some (.slice d.A d.n d.c) := h.bx.cell 3
theorem St.ofA {x' : Ct} (h : St W w q r n x y own own2 xb d) (h1 : One W w' q n x' own) (ht : Turn w w' own own) : St W w' q r n x' y own own2 xb d :=
  ⟨h.b.ofA h1 ht, ht.blk h.bx h.n1, h.n1, h.n2⟩
theorem St.ofB {y' : Ct} (h : St W w q r n x y own own2 xb d) (h1 : Doc W w' r n y' own2) (ht : Turn w w' own2 own2) : St W w' q r n x y' own own2 xb d :=
  ⟨h.b.ofB h1 ht, ht.blk h.bx h.n2, h.n1, h.n2⟩
theorem St.grown (h : St W w q r n x y own own2 xb d) (hg : w.grownBy w' none) : St W w' q r n x y own own2 xb d :=
  ⟨h.b.grown hg, h.bx.grown hg (by simp), h.n1, h.n2⟩
theorem St.drew (h : St W w q r n x y own own2 xb d) : St W w.drew q r n x y own own2 xb d := h.grown (grown_drew w none)
theorem St.new (h : Both W w q r n x y own own2) (d : Dp) : St W (w.alloc (.cells #[.int .i64 d.kind, .int .i64 d.page, .int .i64 d.by_, .slice d.A d.n d.c] 33)) q r n x y own own2 w.heap.size d :=
  ⟨h.grown (World.grownBy_alloc _ _ none), Blk.new _ _ _, fun e => by have := h.a.lt _ e; omega, fun e => by have := h.b.lt _ e; omega⟩
end
section
variable {w : World} {n : Nat} {x : Ct} {p : Int} {f : FuncId} {args : Array Value}
theorem body_no (h : Calls Try.prog f args w fun e w' =>
    (isI n p = false ∧ e = .returned (.slice none 0 0) ∧ w' = w) ∨
    (isI n p = true ∧ ∃ i l g, p = ((i : Nat) : Int) ∧ i < manyN n ∧ countsW (listOf x.N i) = some l ∧ e = .returned (.slice (some ⟨g, 0, none⟩) 240 240) ∧ w.heap.size ≤ g ∧ Blk w' g 67 (u8s l).toArray ∧ (∀ y ∈ l, y < 256) ∧ w.grownBy w' none)) (hi : isI n p = false) :
    Calls Try.prog f args w fun e w' => e = .returned (.slice none 0 0) ∧ w' = w :=
  h.mono fun e w' h => by
    rcases h with ⟨_, h1, h2⟩ | ⟨h, _⟩
    · exact ⟨h1, h2⟩
    · rw [hi] at h; cases h
theorem rbody_no (h : Calls Try.prog f args w fun e w' =>
      (isI n p = false ∧ e = .returned (.slice none 0 0) ∧ w' = w) ∨
      (isI n p = true ∧ ∃ i l v, p = ((i : Nat) : Int) ∧ i < manyN n ∧ countsW (listOf x.N i) = some l ∧ e = .returned v ∧ Own w' w.heap.size 5 1 v l.length (u8s l) ∧ (∀ y ∈ l, y < 256) ∧ w.grownBy w' none)) (hi : isI n p = false) :
    Calls Try.prog f args w fun e w' => e = .returned (.slice none 0 0) ∧ w' = w :=
  h.mono fun e w' h => by
    rcases h with ⟨_, h1, h2⟩ | ⟨h, _⟩
    · exact ⟨h1, h2⟩
    · rw [hi] at h; cases h
theorem body_yes {i : Nat} {l : List Nat} (h : Calls Try.prog f args w fun e w' =>
    (isI n p = false ∧ e = .returned (.slice none 0 0) ∧ w' = w) ∨
    (isI n p = true ∧ ∃ i l g, p = ((i : Nat) : Int) ∧ i < manyN n ∧ countsW (listOf x.N i) = some l ∧ e = .returned (.slice (some ⟨g, 0, none⟩) 240 240) ∧ w.heap.size ≤ g ∧ Blk w' g 67 (u8s l).toArray ∧ (∀ y ∈ l, y < 256) ∧ w.grownBy w' none)) (hp : p = ((i : Nat) : Int)) (hi : i < manyN n) (hl : countsW (listOf x.N i) = some l) :
    Calls Try.prog f args w fun e w' => ∃ A c, e = .returned (.slice A 240 c) ∧ Bytes w' w'.heap.size A 240 l ∧ w.grownBy w' none :=
  h.mono fun e w' h => by
    rcases h with ⟨h, _⟩ | ⟨_, i', l', g, hp', _, hl', he, hg, hb, hlt, hgr⟩
    · rw [hp, isI_of hi] at h; cases h
    · obtain rfl : i = i' := by omega
      obtain rfl : l = l' := by rw [hl] at hl'; injection hl'
      have := blk_bytes (b := w'.heap.size) hb (by have := hb.lt; omega) hlt
      rw [countsW_len hl] at this
      exact ⟨_, _, he, this, hgr⟩
theorem rbody_yes {i : Nat} {l : List Nat} (h : Calls Try.prog f args w fun e w' =>
      (isI n p = false ∧ e = .returned (.slice none 0 0) ∧ w' = w) ∨
      (isI n p = true ∧ ∃ i l v, p = ((i : Nat) : Int) ∧ i < manyN n ∧ countsW (listOf x.N i) = some l ∧ e = .returned v ∧ Own w' w.heap.size 5 1 v l.length (u8s l) ∧ (∀ y ∈ l, y < 256) ∧ w.grownBy w' none)) (hp : p = ((i : Nat) : Int)) (hi : i < manyN n) (hl : countsW (listOf x.N i) = some l) :
    Calls Try.prog f args w fun e w' => ∃ A c, e = .returned (.slice A 240 c) ∧ Bytes w' w'.heap.size A 240 l ∧ w.grownBy w' none :=
  h.mono fun e w' h => by
    rcases h with ⟨h, _⟩ | ⟨_, i', l', v, hp', _, hl', he, ho, hlt, hgr⟩
    · rw [hp, isI_of hi] at h; cases h
    · obtain rfl : i = i' := by omega
      obtain rfl : l = l' := by rw [hl] at hl'; injection hl'
      obtain ⟨A, c, rfl, hb, _, _⟩ := own_bytes ho hlt
      rw [countsW_len hl] at hb he
      exact ⟨_, _, he, hb, hgr⟩
end
set_option maxRecDepth 100000 in
set_option maxHeartbeats 16000000 in
theorem walk {H : Type} {enc : TypeId × Value → H} (W : World) (base : Nat) (v0 v1 : Value) (d0 d1 : DataW H) (p0 p1 : List MemPlace)
    (o0 : Value.okWide Try.prog W .any base 3 v0)
    (o1 : Value.okWide Try.prog W .any base 22 v1)
    (h0 : DataW.Trod enc Try.prog W 0 (fun _ => true) true 3 v0 d0 p0)
    (h1 : DataW.Trod enc Try.prog W 0 (fun _ => true) true 22 v1 d1 p1)
    (hsz : (DataW.weightsEach Try.prog [3, 22] [d0, d1]).all (· ≤ reachBytes) = true) :
    Calls Try.prog 3 #[v0, v1] W fun e W' => e = .returned (.bool true) ∧ Below W.heap.size W W' := by
  obtain ⟨n, rfl, _, _, hn⟩ := open_int Try.underlying3 o0 h0
  obtain ⟨A, M, cM, ops, rfl, hsc, hM⟩ := open_script9 o1 h1
  have hn := bounds_i64 hn
  have HSC := Lib.hid hsc
  clear o0 o1 h0 h1 hsz hsc
  have HNW := Lib.hid (one_new (World.grownBy.refl W none) n)
  have HMA := fun w => Lib.hid (many_call w n)
  have HMB := fun w => Lib.hid (r_many w n)
  have HK := fun w => Lib.hid (@lives_call w)
  have hmm : (((manyI n : Nat) : Int) != ((manyI n : Nat) : Int)) = false := by simp
  cases hb : mb n with
  | false =>
    have HB := Lib.hid hb; clear hb
    go_enter Try.func3, Try.ntmps3
    go_wp2_with (first
      | (go_at_call 6
         refine HNW.out.mono ?_
         rintro e w1 (⟨_, rfl, rfl⟩ | ⟨ht, _⟩)
         case inr => rw [HB.out] at ht; cases ht
         have HNR := Lib.hid (doc_new (World.grownBy.refl w1 none) n))
      | (go_at_call 7
         refine HNR.out.mono ?_
         rintro e w2 (⟨_, rfl, rfl⟩ | ⟨ht, _⟩)
         case inr => rw [HB.out] at ht; cases ht)
      | (go_at_call 8; refine (HMA _).out.mono ?_; rintro e w' ⟨rfl, rfl⟩)
      | (go_at_call 9; refine (HMB _).out.mono ?_; rintro e w' ⟨rfl, rfl⟩)
      | (go_at_call 10
         refine (HK _).out.mono ?_
         rintro e w3 ⟨rfl, hg⟩
         have HG := Lib.hid hg; clear hg))
    all_goals go_ret
    all_goals exact ⟨rfl, below_of_grown HG.out (Nat.le_refl _) (by simp)⟩
  | true =>
    obtain ⟨N, rfl, hN1, hN2⟩ := mb_nat hb
    have HB := Lib.hid hb; clear hb
    go_enter Try.func3, Try.ntmps3
    go_wp2_with (first
      | (go_at_call 6
         refine HNW.out.mono ?_
         rintro e w1 (⟨ht, _⟩ | ⟨_, q, own, rfl, h1, hg1, _⟩)
         case inl => rw [HB.out] at ht; cases ht
         have H1 := Lib.hid h1; have HG1 := Lib.hid hg1
         have HNR := Lib.hid (doc_new hg1 N)
         clear h1 hg1)
      | (go_at_call 7
         refine HNR.out.mono ?_
         rintro e w2 (⟨ht, _⟩ | ⟨_, r, own2, rfl, h2, hg2, hl2⟩)
         case inl => rw [HB.out] at ht; cases ht
         have HP := Lib.hid (Both.new (n := N) H1.out HG1.out h2 hg2 hl2)
         clear h2 hg2 hl2)
      | (go_at_call 8; refine (HMA _).out.mono ?_; rintro e w' ⟨rfl, rfl⟩)
      | (go_at_call 9; refine (HMB _).out.mono ?_; rintro e w' ⟨rfl, rfl⟩))
    clear H1 HG1 HNW HNR
    go_loopw [8, 9, 10, 11] (fun i _ _ _ wr => ∃ k : Nat, k ≤ M ∧ i = .int .i64 k ∧ ∃ x, Both W wr q r N x x own own2) (fun i _ _ _ _ => M - (RowKit.intOf i).toNat)
    case atStart => exact ⟨0, by omega, rfl, _, HP.out⟩
    case round =>
      obtain ⟨k, hk, rfl, x, ho⟩ := hrel
      have HO := Lib.hid ho
      clear ho
      by_cases hlt : k < M
      · have h1 : (k : Int) < M := by omega
        have h0 : (0 : Int) ≤ k := by omega
        have hw1 : IntKind.i64.wrap ((k : Int) + 1) = ((k + 1 : Nat) : Int) := wrap_i64n (n := k + 1) (by omega)
        obtain ⟨ga, oa, d, rfl, hy, hcells⟩ := HSC.out.all hlt
        obtain ⟨_, c1, c2, c3, c4⟩ := hcells _ HO.out.gr
        have HY := Lib.hid hy
        have HBY := Lib.hid (fun w hw => (hcells w hw).1)
        have HN := Lib.hid (St.new HO.out d)
        clear hcells hy
        obtain ⟨pk, hpk, hpc⟩ := pick_call d.kind HY.out.kind
        have HPC := Lib.hid hpc
        clear hpc
        go_upto_block 2 with (go_at_call 11; refine (HPC.out _).mono ?_; rintro e w' ⟨rfl, rfl⟩)
        generalize hwb : wr.alloc (.cells #[.int .i64 d.kind, .int .i64 d.page, .int .i64 d.by_, .slice d.A d.n d.c] 33) = wb at *
        generalize hxb : wr.heap.size = xb at *
        clear hwb hxb c1 c2 c3 c4
        go_cut [10] (fun ok wx => ok = .bool true ∧ ∃ x', St W wx q r N x' x' own own2 xb d)
        case first =>
          have x0 := HN.out.kd
          have x1 := HN.out.pg
          have x2 := HN.out.by_
          have x3 := HN.out.bd
          by_cases k0 : pk = 0
          · subst k0
            obtain ⟨ax, hax⟩ : ∃ ax, addE N x d.page d.by_ = ax := ⟨_, rfl⟩
            have HDA := Lib.hid (one_add HN.out.drew.b.a d.page d.by_ HY.out.by_)
            have HDB := fun (w : World) (h : Doc W w r N x own2) => Lib.hid (doc_add h d.page d.by_ HY.out.by_)
            simp only [hax] at HDA HDB
            obtain ⟨res, x5⟩ := ax
            have hbb : (res == res) = true := by simp
            have HDB := Lib.hid HDB
            clear hax
            go_wp2_with fail
            go_region_held3 (fun wx => wx.cell? ⟨xb, 1, none⟩ = some (.int .i64 d.page) ∧ wx.cell? ⟨xb, 2, none⟩ = some (.int .i64 d.by_))
              (first
                | exact ⟨HN.out.drew.pg, HN.out.drew.by_⟩
                | exact ⟨H5.out.pg, H5.out.by_⟩
                | exact ⟨H6.out.pg, H6.out.by_⟩)
              (first
                | (go_at_call 12
                   refine HDA.out.mono ?_
                   rintro e w5 ⟨rfl, h5, ht5⟩
                   have H5 := Lib.hid (HN.out.drew.ofA h5 ht5)
                   clear h5 ht5)
                | (go_at_call 13
                   refine (HDB.out _ H5.out.b.b).out.mono ?_
                   rintro e w6 ⟨rfl, h6, ht6⟩
                   have H6 := Lib.hid (H5.out.ofB h6 ht6)
                   clear h6 ht6))
            all_goals go_wp2_with fail
            all_goals go_meet
            all_goals exact ⟨rfl, _, H6.out⟩
          by_cases k1 : pk = 1
          · subst k1
            obtain ⟨ax, hax⟩ : ∃ ax, loadE N x d.page d.l = ax := ⟨_, rfl⟩
            have HDA := Lib.hid (one_load (c := d.c) HN.out.drew.b.a d.page (HBY.out _ HN.out.drew.b.gr))
            have HDB := fun (w : World) (h : Both W w q r N (loadE N x d.page d.l).2 x own own2) => Lib.hid (doc_load (c := d.c) h.b d.page HY.out.page (HBY.out w h.gr) (by have := HY.out.n; simp only [maxLen] at this; omega))
            simp only [hax] at HDA HDB
            obtain ⟨res, x5⟩ := ax
            have hbb : (res == res) = true := by simp
            have HDB := Lib.hid HDB
            clear hax
            go_wp2_with fail
            go_region_held3 (fun wx => wx.cell? ⟨xb, 1, none⟩ = some (.int .i64 d.page) ∧ wx.cell? ⟨xb, 3, none⟩ = some (.slice d.A d.n d.c))
              (first
                | exact ⟨HN.out.drew.pg, HN.out.drew.bd⟩
                | exact ⟨H5.out.pg, H5.out.bd⟩
                | exact ⟨H6.out.pg, H6.out.bd⟩)
              (first
                | (go_at_call 14
                   refine HDA.out.mono ?_
                   rintro e w5 ⟨rfl, h5, ht5⟩
                   have H5 := Lib.hid (HN.out.drew.ofA h5 ht5)
                   clear h5 ht5)
                | (go_at_call 15
                   refine (HDB.out _ H5.out.b).out.mono ?_
                   rintro e w6 ⟨rfl, h6, ht6⟩
                   have H6 := Lib.hid (H5.out.ofB h6 ht6)
                   clear h6 ht6))
            all_goals go_wp2_with fail
            all_goals go_meet
            all_goals exact ⟨rfl, _, H6.out⟩
          by_cases k2 : pk = 2
          · subst k2
            go_wp2_with (first
              | (go_at_call 16
                 refine (one_settle HN.out.b.a).mono ?_
                 rintro e w5 ⟨rfl, h5, ht5⟩
                 have H5 := Lib.hid (HN.out.ofA h5 ht5)
                 clear h5 ht5)
              | (go_at_call 17
                 refine (doc_settle H5.out.b.b).mono ?_
                 rintro e w6 ⟨rfl, h6, ht6⟩
                 have H6 := Lib.hid (H5.out.ofB h6 ht6)
                 clear h6 ht6))
            all_goals go_meet
            all_goals exact ⟨rfl, _, H6.out⟩
          by_cases k3 : pk = 3
          · subst k3
            go_wp2_with (first
              | (go_at_call 18
                 refine (one_undo HN.out.b.a).mono ?_
                 rintro e w5 ⟨rfl, h5, ht5⟩
                 have H5 := Lib.hid (HN.out.ofA h5 ht5)
                 clear h5 ht5)
              | (go_at_call 19
                 refine (doc_undo H5.out.b.b).mono ?_
                 rintro e w6 ⟨rfl, h6, ht6⟩
                 have H6 := Lib.hid (H5.out.ofB h6 ht6)
                 clear h6 ht6))
            all_goals go_meet
            all_goals exact ⟨rfl, _, H6.out⟩
          by_cases k5 : pk = 5
          · subst k5
            obtain ⟨res, hres⟩ : ∃ res, getE N x d.page = res := ⟨_, rfl⟩
            have HDA := Lib.hid (one_get HN.out.drew.b.a d.page)
            have HDB := fun (w : World) (h : Doc W w r N x own2) => Lib.hid (doc_get h d.page)
            simp only [hres] at HDA HDB
            have hbb : (res == res) = true := by simp
            have HDB := Lib.hid HDB
            clear hres
            go_wp2_with fail
            go_region_held3 (fun wx => wx.cell? ⟨xb, 1, none⟩ = some (.int .i64 d.page))
              (first
                | exact HN.out.drew.pg
                | exact HN.out.drew.pg
                | exact HN.out.drew.pg)
              (first
                | (go_at_call 22
                   refine HDA.out.mono ?_
                   rintro e w5 ⟨rfl, rfl⟩)
                | (go_at_call 23
                   refine (HDB.out _ HN.out.drew.b.b).out.mono ?_
                   rintro e w6 ⟨rfl, rfl⟩))
            all_goals go_wp2_with fail
            all_goals go_meet
            all_goals exact ⟨rfl, _, HN.out.drew⟩
          have k4 : pk = 4 := by omega
          subst k4
          cases hi : isI N d.page with
          | false =>
            have HDA := Lib.hid (body_no (one_body HN.out.drew.b.a d.page) hi)
            have HDB := fun (w : World) (h : Doc W w r N x own2) => Lib.hid (rbody_no (doc_body h d.page HY.out.page) hi)
            have HDB := Lib.hid HDB
            have hstr := fun w => run_str (Bytes.none_ w 0 none) 0
            have hs1 := strs_eq [] [] (by simp) (by simp)
            rw [decide_eq_true rfl] at hs1
            obtain ⟨S, hS⟩ : ∃ S, strOfNums (([] : List Nat).map fun x : Nat => (x : Int)) = S := ⟨_, rfl⟩
            rw [hS] at hs1
            simp only [hS] at hstr
            clear hS hi
            go_wp2_with fail
            go_region_held3 (fun wx => wx.cell? ⟨xb, 1, none⟩ = some (.int .i64 d.page))
              (first
                | exact HN.out.drew.pg)
              (first
                | (go_at_call 20
                   refine HDA.out.mono ?_
                   rintro e w5 ⟨rfl, rfl⟩)
                | (go_at_call 21
                   refine (HDB.out _ HN.out.drew.b.b).out.mono ?_
                   rintro e w6 ⟨rfl, rfl⟩))
            all_goals go_wp2_with fail
            all_goals go_meet
            all_goals exact ⟨rfl, _, HN.out.drew⟩
          | true =>
            obtain ⟨i, hpi, hin⟩ := isI_nat hi
            obtain ⟨l, hl⟩ := list_some HN.out.b.a.ok.bN i
            have HDA := Lib.hid (body_yes (one_body HN.out.drew.b.a d.page) hpi hin hl)
            have HDB := fun (w : World) (h : Doc W w r N x own2) => Lib.hid (rbody_yes (doc_body h d.page HY.out.page) hpi hin hl)
            have HDB := Lib.hid HDB
            obtain ⟨S, hS⟩ : ∃ S, strOfNums (l.map fun x : Nat => (x : Int)) = S := ⟨_, rfl⟩
            have HS := Lib.hid hS
            have hlt : ∀ y ∈ l, y < 256 := by
              obtain ⟨rfl, _, _⟩ := countsW_some hl
              exact flat_lt 2 _
            have hs1 := strs_eq l l hlt hlt
            rw [decide_eq_true rfl, hS] at hs1
            clear hpi hin hl hS hi hlt
            go_wp2_with fail
            go_region_law (first
                | (go_simp
                   go_at_call 20
                   refine HDA.out.mono ?_
                   rintro e w5 ⟨A5, c5, rfl, hb5, hg5⟩
                   have H5 := Lib.hid (HN.out.drew.grown hg5)
                   have hst5 := run_str hb5 c5
                   rw [HS.out] at hst5
                   have HB5 := Lib.hid hb5
                   have pg5 := H5.out.pg
                   clear hb5 hg5)
                | (go_simp
                   go_at_call 21
                   refine (HDB.out _ H5.out.b.b).out.mono ?_
                   rintro e w6 ⟨A6, c6, rfl, hb6, hg6⟩
                   have H6 := Lib.hid (H5.out.grown hg6)
                   have hst6 := run_str hb6 c6
                   rw [HS.out] at hst6
                   have hst65 := run_str (bytes_keepN HB5.out hg6) c5
                   rw [HS.out] at hst65
                   have pg6 := H6.out.pg
                   clear hb6 hg6))
            all_goals go_wp2_with fail
            all_goals go_meet
            all_goals exact ⟨rfl, _, H6.out⟩
        case rest =>
          obtain ⟨rfl, x2, hs⟩ := hcut
          have HS := Lib.hid hs
          clear hs
          have HRL := Lib.hid (show (touchE N x2).length ≤ 1048576 from by have := touchE_len x2 N; unfold manyN at this; omega)
          have HRG := Lib.hid (fun y hy => by have := touchE_lt (x := x2) (n := N) y hy; unfold manyN at this; omega : ∀ y ∈ touchE N x2, -9223372036854775808 ≤ y ∧ y ≤ 9223372036854775807)
          go_wp2_with (first
            | (go_at_call 25
               refine (one_touched HS.out.b.a).mono ?_
               rintro e w6 ⟨va, rfl, hra, hga⟩
               have HRA := Lib.hid hra
               have H6 := Lib.hid (HS.out.grown hga)
               clear hra hga)
            | (go_at_call 26
               refine (doc_touched H6.out.b.b).mono ?_
               rintro e w7 ⟨vb, rfl, hrb, hgb⟩
               have HRB := Lib.hid hrb; have HGB := Lib.hid hgb
               have H7 := Lib.hid (H6.out.grown hgb)
               clear hrb hgb)
            | (go_at_call 24
               refine (numbers_new HRA.out HRB.out HGB.out HRG.out HRL.out).mono ?_
               rintro e w8 ⟨rfl, hge⟩
               have H8 := Lib.hid (H7.out.grown hge)
               clear hge))
          go_roundw
          case rel => exact ⟨k + 1, by omega, by go_num, _, H8.out.b⟩
          case measure => simp [RowKit.intOf]; omega
      · have hkn : ¬ ((k : Int) < M) := by omega
        go_wp2_with fail
        go_loopw [12] (fun i wz => ∃ j : Nat, j ≤ N + 2 ∧ i = .int .i64 ((j : Int) - 1) ∧ wz = wr) (fun i _ => N + 2 - (RowKit.intOf i + 1).toNat)
        case atStart => exact ⟨0, by omega, rfl, rfl⟩
        case round =>
          obtain ⟨j, hj, rfl, rfl⟩ := hrel
          have HGA := Lib.hid (one_get HO.out.a ((j : Int) - 1))
          have HGB := Lib.hid (doc_get HO.out.b ((j : Int) - 1))
          obtain ⟨res, hres⟩ : ∃ res, getE N x ((j : Int) - 1) = res := ⟨_, rfl⟩
          rw [hres] at HGA HGB
          clear hres
          have hbb : (res != res) = false := by simp
          by_cases hjl : j < N + 2
          · have hl1 : (j : Int) - 1 ≤ (N : Int) := by omega
            go_wp2_with (first
              | (go_at_call 22; refine HGA.out.mono ?_; rintro e w' ⟨rfl, rfl⟩)
              | (go_at_call 23; refine HGB.out.mono ?_; rintro e w' ⟨rfl, rfl⟩))
            go_roundw
            case rel => exact ⟨j + 1, by omega, by go_num, by first | exact rfl | trivial⟩
            case measure => simp [RowKit.intOf]; omega
          · have hl1 : ¬ (j : Int) - 1 ≤ (N : Int) := by omega
            go_wp2_with (go_at_call 10
                         refine (HK _).out.mono ?_
                         rintro e w3 ⟨rfl, hg⟩
                         have HG := Lib.hid hg; clear hg)
            go_ret
            exact ⟨rfl, below_of_grown (grown_trans_none HO.out.gr HG.out) (Nat.le_refl _) (by simp)⟩
end Go.Proofs.Ytpdkjgmldlpaaaa.CountsPlays
