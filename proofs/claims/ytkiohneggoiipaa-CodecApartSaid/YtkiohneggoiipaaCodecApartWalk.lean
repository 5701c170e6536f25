/- The walk over the law CodecApart, by the contracts of what it calls. -/
import Derived.Test.YtkiohneggoiipaaCodecSuperWalk
import Derived.Test.YtkiohneggoiipaaCodecHeadPut
import Derived.Test.YtkiohneggoiipaaCodecCatPut2
import Derived.Test.YtkiohneggoiipaaCatalogues
import Derived.Test.YtkiohneggoiipaaOpen3
import Derived.Deep.RegionHeld3
namespace Go.Proofs.Ytkiohneggoiipaa.Codec
open Go.RowKit CrcMath CodecMath Mem Crc

theorem super_inj {s s' : List Int} {l l' : List Nat} (hs : s.length = 7) (hs' : s'.length = 7) (h : superW s = some l) (h' : superW s' = some l') : decide (l = l') = decide (s = s') := by
  rw [decide_eq_decide]
  constructor
  · rintro rfl
    have := (superR_of hs h).symm.trans (superR_of hs' h')
    injection this
  · rintro rfl
    have := h.symm.trans h'
    injection this
theorem head_inj {ep ep' sq sq' : Int} {pages pages' : List Int} {sum sum' : Nat} {l l' : List Nat} (hs : sum < 4294967296) (hs' : sum' < 4294967296) (h : headW ep sq pages sum = some l) (h' : headW ep' sq' pages' sum' = some l') :
    decide (l = l') = (decide (ep = ep') && decide (sq = sq') && decide (sum = sum') && decide (pages = pages')) := by
  rw [Bool.eq_iff_iff]
  simp only [decide_eq_true_eq, Bool.and_eq_true]
  constructor
  · rintro rfl
    have := (headR_of hs h).symm.trans (headR_of hs' h')
    simp only [Option.some.injEq, Prod.mk.injEq] at this
    obtain ⟨h0, h1, h2, h3⟩ := this
    exact ⟨⟨⟨h0, h1⟩, h3⟩, h2⟩
  · rintro ⟨⟨⟨rfl, rfl⟩, rfl⟩, rfl⟩
    have := h.symm.trans h'
    injection this
theorem cat_inj {next next' : Int} {stack stack' vs vs' : List Int} {l l' : List Nat} (h : catW next stack vs = some l) (h' : catW next' stack' vs' = some l') :
    decide (l = l') = (decide (next = next') && decide (stack = stack') && decide (vs = vs')) := by
  rw [Bool.eq_iff_iff]
  simp only [decide_eq_true_eq, Bool.and_eq_true]
  constructor
  · rintro rfl
    have := (catR_of h).symm.trans (catR_of h')
    simp only [Option.some.injEq, Prod.mk.injEq] at this
    obtain ⟨h0, h1, h2⟩ := this
    exact ⟨⟨h0, h1⟩, h2⟩
  · rintro ⟨⟨rfl, rfl⟩, rfl⟩
    have := h.symm.trans h'
    injection this
theorem Gave.any256 {w : World} {t : TypeId} {o : Option (List Nat)} {e : Ending} {w' : World} (h : Gave w t o e w') (b : Nat) (hb : b < w.heap.size) (h256 : ∀ l, o = some l → l.length = 256) :
    w.grownBy w' none ∧ ∃ (A : Option Addr) (n : Nat) (e0 : Int) (L : List Nat), e = .returned (.tuple #[.slice A n n, .int .i64 e0]) ∧ Bytes w' b A n L ∧ n ≤ 4096 ∧ ((e0 = 0 ∧ o = some L) ∨ e0 = 1) := by
  obtain ⟨hg, ⟨l, g, ho, rfl, hge, hbk, hlt⟩ | ⟨ho, rfl⟩⟩ := h
  · exact ⟨hg, _, _, 0, l, rfl, blk_bytes hbk (by omega) hlt, by rw [h256 l ho]; omega, .inl ⟨rfl, ho⟩⟩
  · exact ⟨hg, none, 0, 1, [], rfl, Bytes.none_ _ _ _, by omega, .inr rfl⟩
/-- What a call that writes a record left, whatever it was. -/
theorem Gave.any240 {w : World} {t : TypeId} {o : Option (List Nat)} {e : Ending} {w' : World} (h : Gave w t o e w') (b : Nat) (hb : b < w.heap.size) (h240 : ∀ l, o = some l → l.length = 240) :
    w.grownBy w' none ∧ ∃ (A : Option Addr) (n : Nat) (e0 : Int) (L : List Nat), e = .returned (.tuple #[.slice A n n, .int .i64 e0]) ∧ Bytes w' b A n L ∧ n ≤ 4096 ∧ ((e0 = 0 ∧ o = some L) ∨ e0 = 1) := by
  obtain ⟨hg, ⟨l, g, ho, rfl, hge, hbk, hlt⟩ | ⟨ho, rfl⟩⟩ := h
  · exact ⟨hg, _, _, 0, l, rfl, blk_bytes hbk (by omega) hlt, by rw [h240 l ho]; omega, .inl ⟨rfl, ho⟩⟩
  · exact ⟨hg, none, 0, 1, [], rfl, Bytes.none_ _ _ _, by omega, .inr rfl⟩
set_option maxRecDepth 100000 in
set_option maxHeartbeats 800000 in
theorem run_eql_sup (w : World) (a0 a1 a2 a3 a4 a5 a6 b0 b1 b2 b3 b4 b5 b6 : Int) (d : Bool) (h : decide ([a0, a1, a2, a3, a4, a5, a6] = [b0, b1, b2, b3, b4, b5, b6]) = d) :
    (binOp .eql 23 (.agg #[.int .i64 a0, .int .i64 a1, .int .i64 a2, .int .i64 a3, .int .i64 a4, .int .i64 a5, .int .i64 a6]) (.agg #[.int .i64 b0, .int .i64 b1, .int .i64 b2, .int .i64 b3, .int .i64 b4, .int .i64 b5, .int .i64 b6])).run Try.prog w = .ok (.bool d) w := by
  by_cases h0 : a0 = b0
  · subst h0
    by_cases h1 : a1 = b1
    · subst h1
      by_cases h2 : a2 = b2
      · subst h2
        by_cases h3 : a3 = b3
        · subst h3
          by_cases h4 : a4 = b4
          · subst h4
            by_cases h5 : a5 = b5
            · subst h5
              by_cases h6 : a6 = b6
              · subst h6
                obtain rfl : d = true := by rw [← h]; simp
                clear h
                go_simp
              · have k : (a6 == b6) = false := by simpa using h6
                obtain rfl : d = false := by rw [← h]; simp [h6]
                clear h
                go_simp
            · have k : (a5 == b5) = false := by simpa using h5
              obtain rfl : d = false := by rw [← h]; simp [h5]
              clear h
              go_simp
          · have k : (a4 == b4) = false := by simpa using h4
            obtain rfl : d = false := by rw [← h]; simp [h4]
            clear h
            go_simp
        · have k : (a3 == b3) = false := by simpa using h3
          obtain rfl : d = false := by rw [← h]; simp [h3]
          clear h
          go_simp
      · have k : (a2 == b2) = false := by simpa using h2
        obtain rfl : d = false := by rw [← h]; simp [h2]
        clear h
        go_simp
    · have k : (a1 == b1) = false := by simpa using h1
      obtain rfl : d = false := by rw [← h]; simp [h1]
      clear h
      go_simp
  · have k : (a0 == b0) = false := by simpa using h0
    obtain rfl : d = false := by rw [← h]; simp [h0]
    clear h
    go_simp
end Go.Proofs.Ytkiohneggoiipaa.Codec
namespace Go.Proofs.Ytkiohneggoiipaa.CodecApart
open Go.ChangeShapes Go.WideShapes Go.ChangeAt Go.RowKit
open Crc CrcMath Mem CodecMath Codec
set_option maxRecDepth 100000 in
set_option maxHeartbeats 3200000 in
theorem walk {H : Type} {enc : TypeId × Value → H} (W : World) (base : Nat) (v0 v1 v2 v3 v4 v5 : Value) (d0 d1 d2 d3 d4 d5 : DataW H) (p0 p1 p2 p3 p4 p5 : List MemPlace)
    (o0 : Value.okWide Try.prog W .any base 23 v0) (o1 : Value.okWide Try.prog W .any base 23 v1) (o2 : Value.okWide Try.prog W .any base 39 v2) (o3 : Value.okWide Try.prog W .any base 39 v3) (o4 : Value.okWide Try.prog W .any base 75 v4) (o5 : Value.okWide Try.prog W .any base 75 v5)
    (h0 : DataW.Trod enc Try.prog W 0 (fun _ => true) true 23 v0 d0 p0) (h1 : DataW.Trod enc Try.prog W 0 (fun _ => true) true 23 v1 d1 p1) (h2 : DataW.Trod enc Try.prog W 0 (fun _ => true) true 39 v2 d2 p2) (h3 : DataW.Trod enc Try.prog W 0 (fun _ => true) true 39 v3 d3 p3) (h4 : DataW.Trod enc Try.prog W 0 (fun _ => true) true 75 v4 d4 p4) (h5 : DataW.Trod enc Try.prog W 0 (fun _ => true) true 75 v5 d5 p5)
    (_hsz : (DataW.weightsEach Try.prog [23, 23, 39, 39, 75, 75] [d0, d1, d2, d3, d4, d5]).all (· ≤ reachBytes) = true) :
    Calls Try.prog 13 #[v0, v1, v2, v3, v4, v5] W fun e W' => e = .returned (.bool true) ∧ Below W.heap.size W W' := by
  obtain ⟨a0, a1, a2, a3, a4, a5, a6, rfl⟩ := open_super o0 h0
  obtain ⟨b0, b1, b2, b3, b4, b5, b6, rfl⟩ := open_super o1 h1
  obtain ⟨ep, sq, A, n, c, pages, sum, rfl, hp, hn, hsum⟩ := open_head o2 h2
  obtain ⟨ep', sq', A', n', c', pages', sum', rfl, hp', hn', hsum'⟩ := open_head o3 h3
  obtain ⟨next, AV, AS, nv, cv, ns, cs, stack, vs, rfl, hs, hv, hns, hnv⟩ := open_catalogue o4 h4
  obtain ⟨next', AV', AS', nv', cv', ns', cs', stack', vs', rfl, hs', hv', hns', hnv'⟩ := open_catalogue o5 h5
  clear o0 h0 o1 h1 o2 h2 o3 h3 o4 h4 o5 h5
  have hb0 := (((((((Blk.new W 23 #[.int .i64 a0, .int .i64 a1, .int .i64 a2, .int .i64 a3, .int .i64 a4, .int .i64 a5, .int .i64 a6]).alloc (.cells #[.int .i64 b0, .int .i64 b1, .int .i64 b2, .int .i64 b3, .int .i64 b4, .int .i64 b5, .int .i64 b6] 23)).alloc (.cells #[.int .i64 ep, .int .i64 sq, .slice A n c, .int .u32 (sum : Nat)] 39)).alloc (.cells #[.int .i64 ep', .int .i64 sq', .slice A' n' c', .int .u32 (sum' : Nat)] 39)).alloc (.cells #[.int .i64 next, .slice AV nv cv, .slice AS ns cs] 75)).alloc (.cells #[.int .i64 next', .slice AV' nv' cv', .slice AS' ns' cs'] 75)).alloc (.cells zeroCs 104))
  have hb1 := ((((((Blk.new (W.alloc (.cells #[.int .i64 a0, .int .i64 a1, .int .i64 a2, .int .i64 a3, .int .i64 a4, .int .i64 a5, .int .i64 a6] 23)) 23 #[.int .i64 b0, .int .i64 b1, .int .i64 b2, .int .i64 b3, .int .i64 b4, .int .i64 b5, .int .i64 b6]).alloc (.cells #[.int .i64 ep, .int .i64 sq, .slice A n c, .int .u32 (sum : Nat)] 39)).alloc (.cells #[.int .i64 ep', .int .i64 sq', .slice A' n' c', .int .u32 (sum' : Nat)] 39)).alloc (.cells #[.int .i64 next, .slice AV nv cv, .slice AS ns cs] 75)).alloc (.cells #[.int .i64 next', .slice AV' nv' cv', .slice AS' ns' cs'] 75)).alloc (.cells zeroCs 104))
  have hb2 := (((((Blk.new ((W.alloc (.cells #[.int .i64 a0, .int .i64 a1, .int .i64 a2, .int .i64 a3, .int .i64 a4, .int .i64 a5, .int .i64 a6] 23)).alloc (.cells #[.int .i64 b0, .int .i64 b1, .int .i64 b2, .int .i64 b3, .int .i64 b4, .int .i64 b5, .int .i64 b6] 23)) 39 #[.int .i64 ep, .int .i64 sq, .slice A n c, .int .u32 (sum : Nat)]).alloc (.cells #[.int .i64 ep', .int .i64 sq', .slice A' n' c', .int .u32 (sum' : Nat)] 39)).alloc (.cells #[.int .i64 next, .slice AV nv cv, .slice AS ns cs] 75)).alloc (.cells #[.int .i64 next', .slice AV' nv' cv', .slice AS' ns' cs'] 75)).alloc (.cells zeroCs 104))
  have hb3 := ((((Blk.new (((W.alloc (.cells #[.int .i64 a0, .int .i64 a1, .int .i64 a2, .int .i64 a3, .int .i64 a4, .int .i64 a5, .int .i64 a6] 23)).alloc (.cells #[.int .i64 b0, .int .i64 b1, .int .i64 b2, .int .i64 b3, .int .i64 b4, .int .i64 b5, .int .i64 b6] 23)).alloc (.cells #[.int .i64 ep, .int .i64 sq, .slice A n c, .int .u32 (sum : Nat)] 39)) 39 #[.int .i64 ep', .int .i64 sq', .slice A' n' c', .int .u32 (sum' : Nat)]).alloc (.cells #[.int .i64 next, .slice AV nv cv, .slice AS ns cs] 75)).alloc (.cells #[.int .i64 next', .slice AV' nv' cv', .slice AS' ns' cs'] 75)).alloc (.cells zeroCs 104))
  have hb4 := (((Blk.new ((((W.alloc (.cells #[.int .i64 a0, .int .i64 a1, .int .i64 a2, .int .i64 a3, .int .i64 a4, .int .i64 a5, .int .i64 a6] 23)).alloc (.cells #[.int .i64 b0, .int .i64 b1, .int .i64 b2, .int .i64 b3, .int .i64 b4, .int .i64 b5, .int .i64 b6] 23)).alloc (.cells #[.int .i64 ep, .int .i64 sq, .slice A n c, .int .u32 (sum : Nat)] 39)).alloc (.cells #[.int .i64 ep', .int .i64 sq', .slice A' n' c', .int .u32 (sum' : Nat)] 39)) 75 #[.int .i64 next, .slice AV nv cv, .slice AS ns cs]).alloc (.cells #[.int .i64 next', .slice AV' nv' cv', .slice AS' ns' cs'] 75)).alloc (.cells zeroCs 104))
  have hb5 := ((Blk.new (((((W.alloc (.cells #[.int .i64 a0, .int .i64 a1, .int .i64 a2, .int .i64 a3, .int .i64 a4, .int .i64 a5, .int .i64 a6] 23)).alloc (.cells #[.int .i64 b0, .int .i64 b1, .int .i64 b2, .int .i64 b3, .int .i64 b4, .int .i64 b5, .int .i64 b6] 23)).alloc (.cells #[.int .i64 ep, .int .i64 sq, .slice A n c, .int .u32 (sum : Nat)] 39)).alloc (.cells #[.int .i64 ep', .int .i64 sq', .slice A' n' c', .int .u32 (sum' : Nat)] 39)).alloc (.cells #[.int .i64 next, .slice AV nv cv, .slice AS ns cs] 75)) 75 #[.int .i64 next', .slice AV' nv' cv', .slice AS' ns' cs']).alloc (.cells zeroCs 104))
  have hb6 := (Blk.new ((((((W.alloc (.cells #[.int .i64 a0, .int .i64 a1, .int .i64 a2, .int .i64 a3, .int .i64 a4, .int .i64 a5, .int .i64 a6] 23)).alloc (.cells #[.int .i64 b0, .int .i64 b1, .int .i64 b2, .int .i64 b3, .int .i64 b4, .int .i64 b5, .int .i64 b6] 23)).alloc (.cells #[.int .i64 ep, .int .i64 sq, .slice A n c, .int .u32 (sum : Nat)] 39)).alloc (.cells #[.int .i64 ep', .int .i64 sq', .slice A' n' c', .int .u32 (sum' : Nat)] 39)).alloc (.cells #[.int .i64 next, .slice AV nv cv, .slice AS ns cs] 75)).alloc (.cells #[.int .i64 next', .slice AV' nv' cv', .slice AS' ns' cs'] 75)) 104 zeroCs)
  simp only [World.size_alloc] at hb1 hb2 hb3 hb4 hb5 hb6
  have hg0 := (((((((World.grownBy_alloc W (.cells #[.int .i64 a0, .int .i64 a1, .int .i64 a2, .int .i64 a3, .int .i64 a4, .int .i64 a5, .int .i64 a6] 23) none).trans (World.grownBy_alloc _ (.cells #[.int .i64 b0, .int .i64 b1, .int .i64 b2, .int .i64 b3, .int .i64 b4, .int .i64 b5, .int .i64 b6] 23) none)).trans (World.grownBy_alloc _ (.cells #[.int .i64 ep, .int .i64 sq, .slice A n c, .int .u32 (sum : Nat)] 39) none)).trans (World.grownBy_alloc _ (.cells #[.int .i64 ep', .int .i64 sq', .slice A' n' c', .int .u32 (sum' : Nat)] 39) none)).trans (World.grownBy_alloc _ (.cells #[.int .i64 next, .slice AV nv cv, .slice AS ns cs] 75) none)).trans (World.grownBy_alloc _ (.cells #[.int .i64 next', .slice AV' nv' cv', .slice AS' ns' cs'] 75) none)).trans (World.grownBy_alloc _ (.cells zeroCs 104) none))
  have HT := Lib.hid (.inl ⟨_, hb6, fresh_zero⟩ : Tab _ (W.heap.size + 1 + 1 + 1 + 1 + 1 + 1))
  have HX0 := Lib.hid hb0
  have HX1 := Lib.hid hb1
  have HX2 := Lib.hid hb2
  have HX3 := Lib.hid hb3
  have HX4 := Lib.hid hb4
  have HX5 := Lib.hid hb5
  have HG0 := Lib.hid hg0
  have HP := Lib.hid hp; have HP' := Lib.hid hp'; have HML := Lib.hid hn; have HML' := Lib.hid hn'; have HN := Lib.hid (show n ≤ 9223372036854775807 by simp only [maxLen] at hn; omega); have HN' := Lib.hid (show n' ≤ 9223372036854775807 by simp only [maxLen] at hn'; omega); have HSM := Lib.hid hsum; have HSM' := Lib.hid hsum'
  have HS := Lib.hid hs; have HS' := Lib.hid hs'; have HV := Lib.hid hv; have HV' := Lib.hid hv'; have HNS := Lib.hid hns; have HNS' := Lib.hid hns'; have HNV := Lib.hid hnv; have HNV' := Lib.hid hnv'
  have HN8 := Lib.hid (show ns ≤ 9223372036854775807 by simp only [maxLen] at hns; omega); have HN8' := Lib.hid (show ns' ≤ 9223372036854775807 by simp only [maxLen] at hns'; omega)
  clear hg0 hb0 hb1 hb2 hb3 hb4 hb5 hb6 hp hp' hn hn' hsum hsum' hs hs' hv hv' hns hns' hnv hnv'
  go_enter Try.func13, Try.ntmps13
  go_wp2_with fail
  refine (new_any _).mono ?_
  rintro e wa ⟨rfl, rfl⟩
  go_wp2_with fail
  refine (known_any (W.heap.size + 1 + 1 + 1 + 1 + 1 + 1) _ HT.out (by simp)).mono ?_
  rintro e wb ⟨rfl, hgb, hrb⟩
  have HY0 := Lib.hid (HX0.out.grown hgb (by first | (simp; done) | (simp <;> omega)))
  have HY1 := Lib.hid (HX1.out.grown hgb (by first | (simp; done) | (simp <;> omega)))
  have HY2 := Lib.hid (HX2.out.grown hgb (by first | (simp; done) | (simp <;> omega)))
  have HY3 := Lib.hid (HX3.out.grown hgb (by first | (simp; done) | (simp <;> omega)))
  have HY4 := Lib.hid (HX4.out.grown hgb (by first | (simp; done) | (simp <;> omega)))
  have HY5 := Lib.hid (HX5.out.grown hgb (by first | (simp; done) | (simp <;> omega)))
  have HRb := Lib.hid hrb
  have HGb := Lib.hid (grownBy_new HG0.out hgb (fun j hj => by cases hj; omega))
  have htl : W.heap.size + 1 + 1 + 1 + 1 + 1 + 1 < wb.heap.size := by obtain ⟨_, h, _⟩ := hrb; exact h.lt
  clear hgb hrb HT HX0 HX1 HX2 HX3 HX4 HX5 HG0
  have x0 := HY0.out.cell 0; have x1 := HY0.out.cell 1; have x2 := HY0.out.cell 2; have x3 := HY0.out.cell 3; have x4 := HY0.out.cell 4; have x5 := HY0.out.cell 5; have x6 := HY0.out.cell 6
  simp only [List.getElem?_toArray, List.getElem?_cons_zero, List.getElem?_cons_succ] at x0 x1 x2 x3 x4 x5 x6
  go_wp2_with fail
  refine (codec_put_super (W.heap.size + 1 + 1 + 1 + 1 + 1 + 1) a0 a1 a2 a3 a4 a5 a6 _ HRb.out).mono ?_
  clear x0 x1 x2 x3 x4 x5 x6
  rintro e w1 hG
  obtain ⟨hg1, A1, n1, e1, L1, rfl, hby1, hn1, hc1⟩ := hG.any256 (W.heap.size + 1 + 1 + 1 + 1 + 1 + 1) htl (fun l h => superW_len rfl h)
  have HG1 := Lib.hid hg1; have HB1 := Lib.hid hby1; have HC1 := Lib.hid hc1
  have hy1 := HY1.out.grown hg1 (by simp)
  have y0 := hy1.cell 0; have y1 := hy1.cell 1; have y2 := hy1.cell 2; have y3 := hy1.cell 3; have y4 := hy1.cell 4; have y5 := hy1.cell 5; have y6 := hy1.cell 6
  simp only [List.getElem?_toArray, List.getElem?_cons_zero, List.getElem?_cons_succ] at y0 y1 y2 y3 y4 y5 y6
  clear hG hg1 hby1 hc1 hy1
  go_wp2_with fail
  refine (codec_put_super (W.heap.size + 1 + 1 + 1 + 1 + 1 + 1) b0 b1 b2 b3 b4 b5 b6 _ (HRb.out.keep HG1.out (by simp))).mono ?_
  clear y0 y1 y2 y3 y4 y5 y6
  rintro e w2 hG
  obtain ⟨hg2, A2, n2, e2, L2, rfl, hby2, hn2, hc2⟩ := hG.any256 (W.heap.size + 1 + 1 + 1 + 1 + 1 + 1) (by have := HG1.out.size; omega) (fun l h => superW_len rfl h)
  have HB2 := Lib.hid hby2; have HC2 := Lib.hid hc2; have HA2 := Lib.hid (bytes_keepN HB1.out hg2)
  have HG2 := Lib.hid (HG1.out.trans hg2)
  clear hG hg2 hby2 hc2
  go_upto_region 6 with fail
  go_cut [48] (fun s wx => s = .bool false ∧ wb.grownBy wx none)
  case first =>
    rcases HC1.out with ⟨rfl, ho1⟩ | rfl
    · rcases HC2.out with ⟨rfl, ho2⟩ | rfl
      · have hinj := super_inj (s := [a0, a1, a2, a3, a4, a5, a6]) (s' := [b0, b1, b2, b3, b4, b5, b6]) rfl rfl ho1 ho2
        generalize hd : decide ([a0, a1, a2, a3, a4, a5, a6] = [b0, b1, b2, b3, b4, b5, b6]) = d at *
        have hsame : ∀ m, Calls Try.prog 18 #[.slice A1 n1 n1, .slice A2 n2 n2] (w2.drewN m) fun e w' => e = .returned (.bool d) ∧ ∃ k, w' = (w2.drewN m).drewN k := fun m => by
          have h := same_any _ _ A1 A2 n1 n2 n1 n2 L1 L2 (w2.drewN m) (bytes_keepN HA2.out (drawn_grown ⟨m, rfl⟩ none)) (bytes_keepN HB2.out (drawn_grown ⟨m, rfl⟩ none)) (by omega) (by omega)
          rw [hinj] at h
          exact h
        have run_sup := fun w => run_eql_sup w a0 a1 a2 a3 a4 a5 a6 b0 b1 b2 b3 b4 b5 b6 d hd
        have HSAME := Lib.hid hsame
        have hx := HY0.out.grown HG2.out (by simp); have hy := HY1.out.grown HG2.out (by simp)
        have x0 := hx.cell 0; have x1 := hx.cell 1; have x2 := hx.cell 2; have x3 := hx.cell 3; have x4 := hx.cell 4; have x5 := hx.cell 5; have x6 := hx.cell 6
        simp only [List.getElem?_toArray, List.getElem?_cons_zero, List.getElem?_cons_succ] at x0 x1 x2 x3 x4 x5 x6
        have y0 := hy.cell 0; have y1 := hy.cell 1; have y2 := hy.cell 2; have y3 := hy.cell 3; have y4 := hy.cell 4; have y5 := hy.cell 5; have y6 := hy.cell 6
        simp only [List.getElem?_toArray, List.getElem?_cons_zero, List.getElem?_cons_succ] at y0 y1 y2 y3 y4 y5 y6
        clear hx hy hsame hinj hd ho1 ho2
        go_quiet ((go_at_call 18; exact Calls.quiet_of (HSAME.out _)))
        go_wp2_with fail
        go_meet
        exact ⟨by simp, HG2.out.trans (drawn_grown ⟨_, rfl⟩ none)⟩
      · go_quiet (fail)
        go_wp2_with fail
        go_meet
        exact ⟨rfl, HG2.out.trans (drawn_grown ⟨_, rfl⟩ none)⟩
    · go_quiet (fail)
      go_wp2_with fail
      go_meet
      exact ⟨rfl, HG2.out.trans (drawn_grown ⟨_, rfl⟩ none)⟩
  case rest =>
  obtain ⟨rfl, hgx⟩ := hcut
  clear HC1 HC2 HB1 HB2 HA2 HG1 HG2
  have x0 := (HY2.out.grown hgx (by simp)).cell 0; have x1 := (HY2.out.grown hgx (by simp)).cell 1; have x2 := (HY2.out.grown hgx (by simp)).cell 2; have x3 := (HY2.out.grown hgx (by simp)).cell 3
  simp only [List.getElem?_toArray, List.getElem?_cons_zero, List.getElem?_cons_succ] at x0 x1 x2 x3
  have HGX := Lib.hid hgx; clear hgx
  go_wp2_with fail
  refine (codec_put_head (W.heap.size + 1 + 1 + 1 + 1 + 1 + 1) W.heap.size ep sq A n c pages sum _ (HRb.out.keep HGX.out (by simp)) (ints_keep HP.out (HGb.out.trans HGX.out) (.inl rfl)) HN.out HSM.out).mono ?_
  clear x0 x1 x2 x3
  rintro e w3 hG
  obtain ⟨hg3, A1, n1, e1, L1, rfl, hby1, hn1, hc1⟩ := hG.any256 (W.heap.size + 1 + 1 + 1 + 1 + 1 + 1) (by have := HGX.out.size; omega) (fun l h => headW_len h)
  have HG3 := Lib.hid (HGX.out.trans hg3); have HB1 := Lib.hid hby1; have HC1 := Lib.hid hc1
  have y0 := (HY3.out.grown (HGX.out.trans hg3) (by simp)).cell 0; have y1 := (HY3.out.grown (HGX.out.trans hg3) (by simp)).cell 1; have y2 := (HY3.out.grown (HGX.out.trans hg3) (by simp)).cell 2; have y3 := (HY3.out.grown (HGX.out.trans hg3) (by simp)).cell 3
  simp only [List.getElem?_toArray, List.getElem?_cons_zero, List.getElem?_cons_succ] at y0 y1 y2 y3
  clear hG hg3 hby1 hc1
  go_wp2_with fail
  refine (codec_put_head (W.heap.size + 1 + 1 + 1 + 1 + 1 + 1) W.heap.size ep' sq' A' n' c' pages' sum' _ (HRb.out.keep HG3.out (by simp)) (ints_keep HP'.out (HGb.out.trans HG3.out) (.inl rfl)) HN'.out HSM'.out).mono ?_
  clear y0 y1 y2 y3
  rintro e w4 hG
  obtain ⟨hg4, A2, n2, e2, L2, rfl, hby2, hn2, hc2⟩ := hG.any256 (W.heap.size + 1 + 1 + 1 + 1 + 1 + 1) (by have := HG3.out.size; omega) (fun l h => headW_len h)
  have HB2 := Lib.hid hby2; have HC2 := Lib.hid hc2; have HA2 := Lib.hid (bytes_keepN HB1.out hg4)
  have HG4 := Lib.hid (HG3.out.trans hg4)
  clear hG hg4 hby2 hc2
  go_upto_region 10 with fail
  go_cut [75] (fun s wx => s = .bool false ∧ wb.grownBy wx none)
  case first =>
    rcases HC1.out with ⟨rfl, ho1⟩ | rfl
    · rcases HC2.out with ⟨rfl, ho2⟩ | rfl
      · have hinj := head_inj HSM.out HSM'.out ho1 ho2
        generalize hd : (decide (ep = ep') && decide (sq = sq') && decide (sum = sum') && decide (pages = pages')) = d at *
        have hsame : ∀ wx, w4.grownBy wx none → Calls Try.prog 18 #[.slice A1 n1 n1, .slice A2 n2 n2] wx fun e w' => e = .returned (.bool d) ∧ wx.grownBy w' none := fun wx hg => by
          have h := same_any _ _ A1 A2 n1 n2 n1 n2 L1 L2 wx (bytes_keepN HA2.out hg) (bytes_keepN HB2.out hg) (by omega) (by omega)
          rw [hinj] at h
          exact h.mono fun _ _ h => ⟨h.1, drawn_grown h.2 none⟩
        have hheads : ∀ wx, w4.grownBy wx none → Calls Try.prog 23 #[.agg #[.int .i64 ep, .int .i64 sq, .slice A n c, .int .u32 (sum : Nat)], .agg #[.int .i64 ep', .int .i64 sq', .slice A' n' c', .int .u32 (sum' : Nat)]] wx fun e w' => e = .returned (.bool d) ∧ wx.grownBy w' none := fun wx hg => by
          have h := heads_same _ _ ep ep' sq sq' A A' n n' c c' pages pages' sum sum' wx (ints_keep HP.out ((HGb.out.trans HG4.out).trans hg) (.inl rfl)) (ints_keep HP'.out ((HGb.out.trans HG4.out).trans hg) (.inl rfl)) HML.out HML'.out
          rw [hd] at h
          exact h
        have hkeep : ∀ wx, w4.grownBy wx none → wx.cell? ⟨W.heap.size + 1 + 1, 0, none⟩ = some (.int .i64 ep) ∧ wx.cell? ⟨W.heap.size + 1 + 1, 1, none⟩ = some (.int .i64 sq) ∧ wx.cell? ⟨W.heap.size + 1 + 1, 2, none⟩ = some (.slice A n c) ∧ wx.cell? ⟨W.heap.size + 1 + 1, 3, none⟩ = some (.int .u32 (sum : Nat)) ∧ wx.cell? ⟨W.heap.size + 1 + 1 + 1, 0, none⟩ = some (.int .i64 ep') ∧ wx.cell? ⟨W.heap.size + 1 + 1 + 1, 1, none⟩ = some (.int .i64 sq') ∧ wx.cell? ⟨W.heap.size + 1 + 1 + 1, 2, none⟩ = some (.slice A' n' c') ∧ wx.cell? ⟨W.heap.size + 1 + 1 + 1, 3, none⟩ = some (.int .u32 (sum' : Nat)) := fun wx hg => by
          have hx := HY2.out.grown (HG4.out.trans hg) (by simp); have hy := HY3.out.grown (HG4.out.trans hg) (by simp)
          exact ⟨hx.cell 0, hx.cell 1, hx.cell 2, hx.cell 3, hy.cell 0, hy.cell 1, hy.cell 2, hy.cell 3⟩
        have HSAME := Lib.hid hsame; have HHEADS := Lib.hid hheads; have HKEEP := Lib.hid hkeep
        have HD0 := Lib.hid (grown_drew w4 none)
        clear hsame hheads hkeep hinj hd ho1 ho2
        go_region_held3 (fun wx => wx.cell? ⟨W.heap.size + 1 + 1, 0, none⟩ = some (.int .i64 ep) ∧ wx.cell? ⟨W.heap.size + 1 + 1, 1, none⟩ = some (.int .i64 sq) ∧ wx.cell? ⟨W.heap.size + 1 + 1, 2, none⟩ = some (.slice A n c) ∧ wx.cell? ⟨W.heap.size + 1 + 1, 3, none⟩ = some (.int .u32 (sum : Nat)) ∧ wx.cell? ⟨W.heap.size + 1 + 1 + 1, 0, none⟩ = some (.int .i64 ep') ∧ wx.cell? ⟨W.heap.size + 1 + 1 + 1, 1, none⟩ = some (.int .i64 sq') ∧ wx.cell? ⟨W.heap.size + 1 + 1 + 1, 2, none⟩ = some (.slice A' n' c') ∧ wx.cell? ⟨W.heap.size + 1 + 1 + 1, 3, none⟩ = some (.int .u32 (sum' : Nat)))
          (first
            | exact HKEEP.out _ HD0.out
            | exact HKEEP.out _ HGs.out
            | exact HKEEP.out _ HGt.out
            | go_keep)
          (first
            | (go_at_call 18
               refine (HSAME.out _ HD0.out).mono ?_
               rintro e w5 ⟨rfl, hg5⟩
               have HGs := Lib.hid (HD0.out.trans hg5)
               clear hg5)
            | (go_at_call 23
               refine (HHEADS.out _ HGs.out).mono ?_
               rintro e w6 ⟨rfl, hg6⟩
               have HGt := Lib.hid (HGs.out.trans hg6)
               clear hg6))
        all_goals
          go_wp2_with fail
          go_meet
          exact ⟨by simp, HG4.out.trans HGt.out⟩
      · go_quiet (fail)
        go_wp2_with fail
        go_meet
        exact ⟨rfl, HG4.out.trans (drawn_grown ⟨_, rfl⟩ none)⟩
    · go_quiet (fail)
      go_wp2_with fail
      go_meet
      exact ⟨rfl, HG4.out.trans (drawn_grown ⟨_, rfl⟩ none)⟩
  case rest =>
  obtain ⟨rfl, hgx⟩ := hcut
  clear HC1 HC2 HB1 HB2 HA2 HG3 HG4
  have x0 := (HY4.out.grown hgx (by simp)).cell 0; have x1 := (HY4.out.grown hgx (by simp)).cell 1; have x2 := (HY4.out.grown hgx (by simp)).cell 2
  simp only [List.getElem?_toArray, List.getElem?_cons_zero, List.getElem?_cons_succ] at x0 x1 x2
  have HGY := Lib.hid hgx; clear hgx
  go_wp2_with fail
  refine (codec_put_catalogue W.heap.size next AV AS nv cv ns cs stack vs _ (ints_keep HS.out (HGb.out.trans HGY.out) (.inl rfl)) (ints_keep HV.out (HGb.out.trans HGY.out) (.inl rfl)) HN8.out).mono ?_
  clear x0 x1 x2
  rintro e w5 hG
  obtain ⟨hg5, A1, n1, e1, L1, rfl, hby1, hn1, hc1⟩ := hG.any240 (W.heap.size + 1 + 1 + 1 + 1 + 1 + 1) (by have := HGY.out.size; omega) (fun l h => catW_len h)
  have HG5 := Lib.hid (HGY.out.trans hg5); have HB1 := Lib.hid hby1; have HC1 := Lib.hid hc1
  have y0 := (HY5.out.grown (HGY.out.trans hg5) (by simp)).cell 0; have y1 := (HY5.out.grown (HGY.out.trans hg5) (by simp)).cell 1; have y2 := (HY5.out.grown (HGY.out.trans hg5) (by simp)).cell 2
  simp only [List.getElem?_toArray, List.getElem?_cons_zero, List.getElem?_cons_succ] at y0 y1 y2
  clear hG hg5 hby1 hc1
  go_wp2_with fail
  refine (codec_put_catalogue W.heap.size next' AV' AS' nv' cv' ns' cs' stack' vs' _ (ints_keep HS'.out (HGb.out.trans HG5.out) (.inl rfl)) (ints_keep HV'.out (HGb.out.trans HG5.out) (.inl rfl)) HN8'.out).mono ?_
  clear y0 y1 y2
  rintro e w6 hG
  obtain ⟨hg6, A2, n2, e2, L2, rfl, hby2, hn2, hc2⟩ := hG.any240 (W.heap.size + 1 + 1 + 1 + 1 + 1 + 1) (by have := HG5.out.size; omega) (fun l h => catW_len h)
  have HB2 := Lib.hid hby2; have HC2 := Lib.hid hc2; have HA2 := Lib.hid (bytes_keepN HB1.out hg6)
  have HG6 := Lib.hid (HG5.out.trans hg6)
  clear hG hg6 hby2 hc2
  go_upto_region 14 with fail
  rcases HC1.out with ⟨rfl, ho1⟩ | rfl
  · rcases HC2.out with ⟨rfl, ho2⟩ | rfl
    · have hinj := cat_inj ho1 ho2
      generalize hd : (decide (next = next') && decide (stack = stack') && decide (vs = vs')) = d at *
      have hsame : ∀ wx, w6.grownBy wx none → Calls Try.prog 18 #[.slice A1 n1 n1, .slice A2 n2 n2] wx fun e w' => e = .returned (.bool d) ∧ wx.grownBy w' none := fun wx hg => by
        have h := same_any _ _ A1 A2 n1 n2 n1 n2 L1 L2 wx (bytes_keepN HA2.out hg) (bytes_keepN HB2.out hg) (by omega) (by omega)
        rw [hinj] at h
        exact h.mono fun _ _ h => ⟨h.1, drawn_grown h.2 none⟩
      have hcats : ∀ wx, w6.grownBy wx none → Calls Try.prog 42 #[.agg #[.int .i64 next, .slice AV nv cv, .slice AS ns cs], .agg #[.int .i64 next', .slice AV' nv' cv', .slice AS' ns' cs']] wx fun e w' => e = .returned (.bool d) ∧ wx.grownBy w' none := fun wx hg => by
        have h := catalogues_any _ _ next next' AV AS AV' AS' nv cv ns cs nv' cv' ns' cs' stack vs stack' vs' wx (ints_keep HS.out ((HGb.out.trans HG6.out).trans hg) (.inl rfl)) (ints_keep HV.out ((HGb.out.trans HG6.out).trans hg) (.inl rfl)) (ints_keep HS'.out ((HGb.out.trans HG6.out).trans hg) (.inl rfl)) (ints_keep HV'.out ((HGb.out.trans HG6.out).trans hg) (.inl rfl)) HNS.out HNS'.out HNV.out HNV'.out
        rw [hd] at h
        exact h
      have hkeep : ∀ wx, w6.grownBy wx none → wx.cell? ⟨W.heap.size + 1 + 1 + 1 + 1, 0, none⟩ = some (.int .i64 next) ∧ wx.cell? ⟨W.heap.size + 1 + 1 + 1 + 1, 1, none⟩ = some (.slice AV nv cv) ∧ wx.cell? ⟨W.heap.size + 1 + 1 + 1 + 1, 2, none⟩ = some (.slice AS ns cs) ∧ wx.cell? ⟨W.heap.size + 1 + 1 + 1 + 1 + 1, 0, none⟩ = some (.int .i64 next') ∧ wx.cell? ⟨W.heap.size + 1 + 1 + 1 + 1 + 1, 1, none⟩ = some (.slice AV' nv' cv') ∧ wx.cell? ⟨W.heap.size + 1 + 1 + 1 + 1 + 1, 2, none⟩ = some (.slice AS' ns' cs') := fun wx hg => by
        have hx := HY4.out.grown (HG6.out.trans hg) (by simp); have hy := HY5.out.grown (HG6.out.trans hg) (by simp)
        exact ⟨hx.cell 0, hx.cell 1, hx.cell 2, hy.cell 0, hy.cell 1, hy.cell 2⟩
      have HSAME := Lib.hid hsame; have HCATS := Lib.hid hcats; have HKEEP := Lib.hid hkeep
      have HD0 := Lib.hid (grown_drew w6 none)
      clear hsame hcats hkeep hinj hd ho1 ho2
      go_region_held3 (fun wx => wx.cell? ⟨W.heap.size + 1 + 1 + 1 + 1, 0, none⟩ = some (.int .i64 next) ∧ wx.cell? ⟨W.heap.size + 1 + 1 + 1 + 1, 1, none⟩ = some (.slice AV nv cv) ∧ wx.cell? ⟨W.heap.size + 1 + 1 + 1 + 1, 2, none⟩ = some (.slice AS ns cs) ∧ wx.cell? ⟨W.heap.size + 1 + 1 + 1 + 1 + 1, 0, none⟩ = some (.int .i64 next') ∧ wx.cell? ⟨W.heap.size + 1 + 1 + 1 + 1 + 1, 1, none⟩ = some (.slice AV' nv' cv') ∧ wx.cell? ⟨W.heap.size + 1 + 1 + 1 + 1 + 1, 2, none⟩ = some (.slice AS' ns' cs'))
        (first
          | exact HKEEP.out _ HD0.out
          | exact HKEEP.out _ HGs.out
          | exact HKEEP.out _ HGt.out
          | go_keep)
        (first
          | (go_at_call 18
             refine (HSAME.out _ HD0.out).mono ?_
             rintro e w7 ⟨rfl, hg7⟩
             have HGs := Lib.hid (HD0.out.trans hg7)
             clear hg7)
          | (go_at_call 42
             refine (HCATS.out _ HGs.out).mono ?_
             rintro e w8 ⟨rfl, hg8⟩
             have HGt := Lib.hid (HGs.out.trans hg8)
             clear hg8))
      all_goals
        go_wp2_with fail
        go_ret
        exact ⟨by simp, below_of_grown (HGb.out.trans (HG6.out.trans HGt.out)) (Nat.le_refl _) (fun _ h => by cases h)⟩
    · go_quiet (fail)
      go_wp2_with fail
      go_ret
      exact ⟨rfl, below_of_grown (HGb.out.trans (HG6.out.trans (drawn_grown ⟨_, rfl⟩ none))) (Nat.le_refl _) (fun _ h => by cases h)⟩
  · go_quiet (fail)
    go_wp2_with fail
    go_ret
    exact ⟨rfl, below_of_grown (HGb.out.trans (HG6.out.trans (drawn_grown ⟨_, rfl⟩ none))) (Nat.le_refl _) (fun _ h => by cases h)⟩
end Go.Proofs.Ytkiohneggoiipaa.CodecApart
