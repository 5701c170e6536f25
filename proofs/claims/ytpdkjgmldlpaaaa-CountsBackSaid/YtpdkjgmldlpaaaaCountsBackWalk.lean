/- The law CountsBack: what counts are told as is taken, and they are the same again. -/
import Derived.Test.YtpdkjgmldlpaaaaCtPair
import Derived.Deep.DeepCutAuto
import Derived.Deep.CutBlock
import Derived.Deep.RegionHeld3
namespace Go.Proofs.Ytpdkjgmldlpaaaa.CountsBack
open Go.ChangeShapes Go.WideShapes Go.RowKit CrcMath CodecMath Mem Crc Codec Cts
set_option linter.unusedVariables false
set_option linter.unusedSimpArgs false

theorem body_is {w : World} {n : Nat} {x : Ct} {f : FuncId} {args : Array Value} {i : Nat} {l : List Nat} (h : Calls Try.prog f args w fun e w' =>
    (isI n (i : Int) = false ∧ e = .returned (.slice none 0 0) ∧ w' = w) ∨
    (isI n (i : Int) = true ∧ ∃ i' l g, (i : Int) = ((i' : Nat) : Int) ∧ i' < manyN n ∧ countsW (listOf x.N i') = some l ∧ e = .returned (.slice (some ⟨g, 0, none⟩) 240 240) ∧ w.heap.size ≤ g ∧ Blk w' g 67 (u8s l).toArray ∧ (∀ y ∈ l, y < 256) ∧ w.grownBy w' none)) (hi : i < manyN n) (hl : countsW (listOf x.N i) = some l) :
    Calls Try.prog f args w fun e w' => ∃ g, e = .returned (.slice (some ⟨g, 0, none⟩) 240 240) ∧ w.heap.size ≤ g ∧ Blk w' g 67 (u8s l).toArray ∧ w.grownBy w' none :=
  h.mono fun e w' h => by
    rcases h with ⟨h, _⟩ | ⟨_, i', l', g, hp', _, hl', he, hg, hb, hlt, hgr⟩
    · rw [isI_of hi] at h; cases h
    · obtain rfl : i = i' := by omega
      obtain rfl : l = l' := by rw [hl] at hl'; injection hl'
      exact ⟨g, he, hg, hb, hgr⟩
theorem bytes_blk {w : World} {g : Nat} {t : TypeId} {l : List Nat} (h : Blk w g t (u8s l).toArray) (hlt : ∀ y ∈ l, y < 256) (h240 : l.length = 240) : Bytes w w.heap.size (some ⟨g, 0, none⟩) 240 l := by
  have := blk_bytes (b := w.heap.size) h (by have := h.lt; omega) hlt
  rwa [h240] at this
set_option maxRecDepth 100000 in
set_option maxHeartbeats 16000000 in
theorem walk {H : Type} {enc : TypeId × Value → H} (W : World) (base : Nat) (v0 v1 : Value) (d0 d1 : DataW H) (p0 p1 : List MemPlace)
    (o0 : Value.okWide Try.prog W .any base 3 v0)
    (o1 : Value.okWide Try.prog W .any base 22 v1)
    (h0 : DataW.Trod enc Try.prog W 0 (fun _ => true) true 3 v0 d0 p0)
    (h1 : DataW.Trod enc Try.prog W 0 (fun _ => true) true 22 v1 d1 p1)
    (hsz : (DataW.weightsEach Try.prog [3, 22] [d0, d1]).all (· ≤ reachBytes) = true) :
    Calls Try.prog 4 #[v0, v1] W fun e W' => e = .returned (.bool true) ∧ Below W.heap.size W W' := by
  obtain ⟨n, rfl, _, _, hn⟩ := open_int Try.underlying3 o0 h0
  obtain ⟨A, M, cM, ops, rfl, hsc, hM⟩ := open_script9 o1 h1
  have hn := bounds_i64 hn
  have HSC := Lib.hid hsc
  clear o0 o1 h0 h1 hsz hsc
  have HNW := Lib.hid (one_new (World.grownBy.refl W none) n)
  have HMA := fun w => Lib.hid (many_call w n)
  have HK := fun w => Lib.hid (@lives_call w)
  cases hb : mb n with
  | false =>
    have HB := Lib.hid hb; clear hb
    go_enter Try.func4, Try.ntmps4
    go_wp2_with (first
      | (go_at_call 6
         refine HNW.out.mono ?_
         rintro e w1 (⟨_, rfl, rfl⟩ | ⟨ht, _⟩)
         case inr => rw [HB.out] at ht; cases ht)
      | (go_at_call 10
         refine (HK _).out.mono ?_
         rintro e w3 ⟨rfl, hg⟩
         have HG := Lib.hid hg; clear hg))
    all_goals go_ret
    all_goals exact ⟨rfl, below_of_grown HG.out (Nat.le_refl _) (by simp)⟩
  | true =>
    obtain ⟨N, rfl, hN1, hN2⟩ := mb_nat hb
    rw [manyI_nat hN1 hN2] at HMA
    have HB := Lib.hid hb; clear hb
    have HMN := Lib.hid (show manyN N = (N + 119) / 120 from rfl)
    have HMI := Lib.hid (fun i (h : i < manyN N) => h : ∀ i, i < manyN N → i < manyN N)
    obtain ⟨m, hm⟩ : ∃ m, manyN N = m := ⟨_, rfl⟩
    have HM := Lib.hid hm
    rw [hm] at HMA HMN
    clear hm HMI
    have hm9 : m ≤ 9 := by have := HMN.out; omega
    go_enter Try.func4, Try.ntmps4
    go_wp2_with (first
      | (go_at_call 6
         refine HNW.out.mono ?_
         rintro e w1 (⟨ht, _⟩ | ⟨_, q, own, rfl, h1, hg1, _⟩)
         case inl => rw [HB.out] at ht; cases ht
         have H1 := Lib.hid h1; have HG1 := Lib.hid hg1
         have HNR := Lib.hid (one_new hg1 N)
         clear h1 hg1 HNW)
      | (go_at_call 6
         refine HNR.out.mono ?_
         rintro e w2 (⟨ht, _⟩ | ⟨_, q2, own2, rfl, h2, hg2, hl2⟩)
         case inl => rw [HB.out] at ht; cases ht
         have HP := Lib.hid (Pair.new (n := N) H1.out HG1.out h2 hg2 hl2)
         clear h2 hg2 hl2))
    clear H1 HG1 HNR
    go_loopw [9] (fun i wr => ∃ k : Nat, k ≤ M ∧ i = .int .i64 k ∧ ∃ x, Pair W wr q q2 N x zeroCt own own2) (fun i _ => M - (RowKit.intOf i).toNat)
    case atStart => exact ⟨0, by omega, rfl, _, HP.out⟩
    case round =>
      obtain ⟨k, hk, rfl, x, ho⟩ := hrel
      have HO := Lib.hid ho
      clear ho HP
      by_cases hlt : k < M
      · have h1 : (k : Int) < M := by omega
        have h0 : (0 : Int) ≤ k := by omega
        have hw1 : IntKind.i64.wrap ((k : Int) + 1) = ((k + 1 : Nat) : Int) := wrap_i64n (n := k + 1) (by omega)
        obtain ⟨ga, oa, d, rfl, hy, hcells⟩ := HSC.out.all hlt
        have HY := Lib.hid hy
        have HCE := Lib.hid (fun w hw => (hcells w hw).2)
        have HDA := Lib.hid (one_add HO.out.drew.a d.page d.by_ hy.by_)
        clear hcells hy
        go_wp2_with fail
        go_region_held3 (fun wx => wx.cell? ⟨ga, oa + k * 4 + 1, none⟩ = some (.int .i64 d.page) ∧ wx.cell? ⟨ga, oa + k * 4 + 2, none⟩ = some (.int .i64 d.by_))
          (first
            | exact ⟨(HCE.out _ HO.out.drew.gr).2.1, (HCE.out _ HO.out.drew.gr).2.2.1⟩
            | exact ⟨(HCE.out _ H5.out.gr).2.1, (HCE.out _ H5.out.gr).2.2.1⟩)
          (first
            | (go_at_call 12
               refine HDA.out.mono ?_
               rintro e w5 ⟨rfl, h5, ht5⟩
               have H5 := Lib.hid (HO.out.drew.ofA h5 ht5)
               clear h5 ht5))
        all_goals go_wp2_with fail
        all_goals go_roundw
        case rel => exact ⟨k + 1, by omega, by first | rfl | go_num, _, H5.out⟩
        case measure => simp [RowKit.intOf]; omega
      · have hkn : ¬ ((k : Int) < M) := by omega
        go_wp2_with fail
        go_loopw [10, 11, 12] (fun i _ _ wz => ∃ j : Nat, j ≤ m ∧ i = .int .i64 j ∧ Pair W wz q q2 N x ⟨mixI x.N j, mixI x.N j⟩ own own2) (fun i _ _ _ => m - (RowKit.intOf i).toNat)
        case atStart => exact ⟨0, by omega, rfl, by rw [mixI_zero]; exact HO.out⟩
        case round =>
          obtain ⟨j, hj, rfl, hpj⟩ := hrel
          generalize wr = w1 at *
          have HPJ := Lib.hid hpj
          clear hpj HO
          by_cases hjl : j < m
          · have hjn : j < manyN N := by have := HM.out; omega
            obtain ⟨l, hl⟩ := list_some HPJ.out.a.ok.bN j
            have h240 := countsW_len hl
            have hlt : ∀ y ∈ l, y < 256 := by
              obtain ⟨rfl, _, _⟩ := countsW_some hl
              exact flat_lt 2 _
            have hs1 := strs_eq l l hlt hlt
            obtain ⟨S, hS⟩ : ∃ S, strOfNums (l.map fun x : Nat => (x : Int)) = S := ⟨_, rfl⟩
            rw [decide_eq_true rfl, hS] at hs1
            have HS := Lib.hid hS
            have HBA := Lib.hid (body_is (one_body HPJ.out.a (j : Int)) hjn hl)
            have HLT := Lib.hid hlt; have H240 := Lib.hid h240; have HJN := Lib.hid hjn; have HL := Lib.hid hl
            have HL2 := Lib.hid (show countsW (listOf (mixI x.N (j + 1)) j) = some l by rw [mixI_list]; exact hl)
            have HLD := Lib.hid (load_told HPJ.out.a.ok hjn hl)
            clear hS hlt h240 hjn hl
            go_wp2_with (first
              | (go_at_call 8; refine (HMA _).out.mono ?_; rintro e w' ⟨rfl, rfl⟩)
              | (go_at_call 20
                 refine HBA.out.mono ?_
                 rintro e w5 ⟨g, rfl, hg, hb5, hgr5⟩
                 have hn1 : ¬ own g := fun e => by have := HPJ.out.a.lt g e; omega
                 have hn2 : ¬ own2 g := fun e => by have := HPJ.out.b.lt g e; omega
                 have H5 := Lib.hid (HPJ.out.grown hgr5)
                 have HGW := Lib.hid (show W.heap.size ≤ g from Nat.le_trans HPJ.out.gr.size hg)
                 have HB5 := Lib.hid hb5
                 have HLOAD := Lib.hid (one_load (c := 240) H5.out.drew.b (j : Int) (bytes_blk hb5.drew HLT.out H240.out))
                 rw [HLD.out] at HLOAD
                 clear hg hb5 hgr5))
            go_region_law (first
              | (go_simp
                 go_at_call 14
                 refine HLOAD.out.mono ?_
                 rintro e w6 ⟨rfl, h6, ht6⟩
                 have H6 := Lib.hid (H5.out.drew.ofB h6 ht6)
                 have hb6 := ht6.blk HB5.out.drew hn2
                 have HB6 := Lib.hid hb6
                 have hst6 := run_str (bytes_blk hb6 HLT.out H240.out) 240
                 rw [HS.out] at hst6
                 clear h6 ht6 hb6)
              | (go_simp
                 go_at_call 20
                 refine (body_is (one_body H6.out.b (j : Int)) HJN.out HL2.out).mono ?_
                 rintro e w7 ⟨g7, rfl, hg7, hb7, hgr7⟩
                 have H7 := Lib.hid (H6.out.grown hgr7)
                 have hb67 := HB6.out.grown hgr7 (by simp)
                 have HB67 := Lib.hid hb67
                 have hst7 := run_str (bytes_blk hb7 HLT.out H240.out) 240
                 rw [HS.out] at hst7
                 have hst67 := run_str (bytes_blk hb67 HLT.out H240.out) 240
                 rw [HS.out] at hst67
                 clear hg7 hb7 hgr7 hb67))
            all_goals
              clear HLOAD HB5 HB6 H5 H6 hst6 hst7 hst67
              go_wp2_with fail
              go_loopw [12] (fun i wr => ∃ kk cs, kk ≤ 240 ∧ i = .int .i64 ((kk : Nat) : Int) ∧ Blk wr g 67 cs ∧ cs.size = 240 ∧ w7.grownBy wr (some g)) (fun i _ => 240 - (RowKit.intOf i).toNat)
              case atStart => exact ⟨0, _, by omega, rfl, HB67.out, by simp [u8s, H240.out], World.grownBy.refl _ _⟩
              case round =>
                obtain ⟨kk, cs, hkk, rfl, hbk, hcs, hgk⟩ := hrel
                have HGK := Lib.hid hgk
                by_cases hk2 : kk < 240
                · have f0 := hbk.frozen kk
                  have f1 := hbk.cell kk
                  rw [Array.getElem?_eq_getElem (by omega)] at f1
                  have HBS := Lib.hid (hbk.set_ kk (.int .u8 255))
                  have HCS := Lib.hid hcs
                  clear hbk hgk
                  generalize cs[kk] = cv at f1
                  go_wp2_with fail
                  go_roundw
                  case rel => exact ⟨kk + 1, _, by omega, by go_num, HBS.out, by simp [HCS.out], only_set HGK.out _ _⟩
                  case measure => simp [RowKit.intOf]; omega
                · have hk3 : kk = 240 := by omega
                  subst hk3
                  clear hbk hgk
                  go_wp2_with fail
                  go_roundw
                  case rel => exact ⟨j + 1, by omega, by go_num, H7.out.blk HGK.out HGW.out hn1 hn2⟩
                  case measure => simp [RowKit.intOf]; omega
          · have hjm : j = m := by omega
            subst hjm
            have HT := Lib.hid (settle_touch ⟨mixI x.N j, fun _ => 0⟩ N)
            go_wp2_with (go_at_call 8; refine (HMA _).out.mono ?_; rintro e w' ⟨rfl, rfl⟩)
            go_loopw [13] (fun i wy => ∃ k : Nat, k ≤ N ∧ i = .int .i64 k ∧ wy = w') (fun i _ => N - (RowKit.intOf i).toNat)
            case atStart => exact ⟨0, by omega, rfl, rfl⟩
            case round =>
              obtain ⟨k2, hk2, rfl, rfl⟩ := hrel
              by_cases hkl : k2 < N
              · have HGA := Lib.hid (one_get HPJ.out.a (k2 : Int))
                have HGB := Lib.hid (one_get HPJ.out.b (k2 : Int))
                rw [mixI_get (by have := HMN.out; omega) hkl] at HGB
                obtain ⟨res, hres⟩ : ∃ res, getE N x (k2 : Int) = res := ⟨_, rfl⟩
                rw [hres] at HGA HGB
                clear hres
                have hbb : (res != res) = false := by simp
                go_wp2_with (first
                  | (go_at_call_of 22 (Value.pointer (some ⟨q, 0, none⟩)); refine HGA.out.mono ?_; rintro e w3 ⟨rfl, rfl⟩)
                  | (go_at_call_of 22 (Value.pointer (some ⟨q2, 0, none⟩)); refine HGB.out.mono ?_; rintro e w3 ⟨rfl, rfl⟩))
                go_roundw
                case rel => exact ⟨k2 + 1, by omega, by go_num, by first | exact rfl | trivial⟩
                case measure => simp [RowKit.intOf]; omega
              · have hke : k2 = N := by omega
                subst hke
                have HTT := Lib.hid (one_touched HPJ.out.b)
                rw [show touchE k2 ⟨mixI x.N j, mixI x.N j⟩ = [] from HT.out] at HTT
                go_wp2_with (first
                  | (go_at_call 25
                     refine HTT.out.mono ?_
                     rintro e w6 ⟨va, rfl, hra, hga⟩
                     obtain ⟨A6, c6, rfl, _, _, _⟩ := own_ints hra (by simp)
                     have H6 := Lib.hid (HPJ.out.grown hga)
                     clear hra hga)
                  | (go_at_call 10
                     refine (HK _).out.mono ?_
                     rintro e w3 ⟨rfl, hg⟩
                     have HG := Lib.hid hg; clear hg))
                go_ret
                exact ⟨rfl, below_of_grown (grown_trans_none H6.out.gr HG.out) (Nat.le_refl _) (by simp)⟩
end Go.Proofs.Ytpdkjgmldlpaaaa.CountsBack
