/- The walk over the law CodecErrors, by the contracts of what it calls. -/
import Derived.Test.YtkiohneggoiipaaSpoilt
import Derived.Test.YtkiohneggoiipaaCodecHeadWalk
namespace Go.Proofs.Ytkiohneggoiipaa.Codec
open Go.RowKit CrcMath CodecMath Mem Crc

/-- What a call that writes a sector left, whatever it was. -/
theorem Gave.any {w : World} {t : TypeId} {o : Option (List Nat)} {e : Ending} {w' : World} (h : Gave w t o e w') (b : Nat) (hb : b < w.heap.size) (h256 : ∀ l, o = some l → l.length = 256) :
    w.grownBy w' none ∧ ∃ (A : Option Addr) (n : Nat) (e0 : Int) (L : List Nat), e = .returned (.tuple #[.slice A n n, .int .i64 e0]) ∧ Bytes w' b A n L ∧ n ≤ 4096 ∧ ((e0 = 0 ∧ o = some L) ∨ e0 = 1) := by
  obtain ⟨hg, ⟨l, g, ho, rfl, hge, hbk, hlt⟩ | ⟨ho, rfl⟩⟩ := h
  · exact ⟨hg, _, _, 0, l, rfl, blk_bytes hbk (by omega) hlt, by rw [h256 l ho]; omega, .inl ⟨rfl, ho⟩⟩
  · exact ⟨hg, none, 0, 1, [], rfl, Bytes.none_ _ _ _, by omega, .inr rfl⟩
theorem superR_seven (l : List Nat) : ∃ a0 a1 a2 a3 a4 a5 a6 : Int, (superR l).getD zero7 = [a0, a1, a2, a3, a4, a5, a6] := by
  have h : ((superR l).getD zero7).length = 7 := by
    cases hr : superR l with
    | none => rfl
    | some s => exact (superR_some hr).2
  generalize (superR l).getD zero7 = t at *
  match t, h with
  | [a0, a1, a2, a3, a4, a5, a6], _ => exact ⟨a0, a1, a2, a3, a4, a5, a6, rfl⟩
theorem SaidHead.any {w w' : World} {r : Option (Int × Int × List Int × Nat)} {e : Ending} (h : SaidHead w r e w') : w.grownBy w' none ∧ ∃ v, e = .returned (.tuple #[v, .bool r.isSome]) := by
  obtain ⟨hg, ⟨ep, sq, pages, sum, v, rfl, rfl, _⟩ | ⟨rfl, rfl⟩⟩ := h
  · exact ⟨hg, _, rfl⟩
  · exact ⟨hg, _, rfl⟩
end Go.Proofs.Ytkiohneggoiipaa.Codec
namespace Go.Proofs.Ytkiohneggoiipaa.CodecErrors
open Go.ChangeShapes Go.WideShapes Go.ChangeAt Go.RowKit
open Crc CrcMath Mem CodecMath Codec
set_option maxRecDepth 100000 in
set_option maxHeartbeats 3200000 in
theorem walk {H : Type} {enc : TypeId × Value → H} (W : World) (base : Nat) (v0 v1 v2 v3 v4 : Value) (d0 d1 d2 d3 d4 : DataW H) (p0 p1 p2 p3 p4 : List MemPlace)
    (o0 : Value.okWide Try.prog W .any base 23 v0) (o1 : Value.okWide Try.prog W .any base 39 v1) (o2 : Value.okWide Try.prog W .any base 49 v2) (o3 : Value.okWide Try.prog W .any base 3 v3) (o4 : Value.okWide Try.prog W .any base 37 v4)
    (h0 : DataW.Trod enc Try.prog W 0 (fun _ => true) true 23 v0 d0 p0) (h1 : DataW.Trod enc Try.prog W 0 (fun _ => true) true 39 v1 d1 p1) (h2 : DataW.Trod enc Try.prog W 0 (fun _ => true) true 49 v2 d2 p2) (h3 : DataW.Trod enc Try.prog W 0 (fun _ => true) true 3 v3 d3 p3) (h4 : DataW.Trod enc Try.prog W 0 (fun _ => true) true 37 v4 d4 p4)
    (_hsz : (DataW.weightsEach Try.prog [23, 39, 49, 3, 37] [d0, d1, d2, d3, d4]).all (· ≤ reachBytes) = true) :
    Calls Try.prog 11 #[v0, v1, v2, v3, v4] W fun e W' => e = .returned (.bool true) ∧ Below W.heap.size W W' := by
  obtain ⟨a0, a1, a2, a3, a4, a5, a6, rfl⟩ := open_super o0 h0
  obtain ⟨ep, sq, A, n, c, pages, sum, rfl, hp, hn, hsum⟩ := open_head o1 h1
  obtain ⟨number, kind, AB, nb, cb, body, rfl, hl, _, _, _, _⟩ := open_image o2 h2
  obtain ⟨at_, rfl, rfl, rfl, w3⟩ := open_int Try.underlying3 o3 h3
  obtain ⟨ch, rfl, rfl, rfl, w4⟩ := open_int Try.underlying37 o4 h4
  have hch : 0 ≤ ch ∧ ch ≤ 4294967295 := by simpa [Lit.wf, IntKind.min, IntKind.max, IntKind.signed, IntKind.bits] using w4
  obtain ⟨cg, rfl⟩ := Int.eq_ofNat_of_zero_le hch.1
  clear o0 h0 o1 h1 o2 h2 o3 h3 o4 h4 w3 w4 hch
  have hg0 := (((World.grownBy_alloc W (.cells #[.int .i64 a0, .int .i64 a1, .int .i64 a2, .int .i64 a3, .int .i64 a4, .int .i64 a5, .int .i64 a6] 23) none).trans (World.grownBy_alloc _ (.cells #[.int .i64 ep, .int .i64 sq, .slice A n c, .int .u32 (sum : Nat)] 39) none)).trans (World.grownBy_alloc _ (.cells #[.int .i64 number, .int .i64 kind, .slice AB nb cb] 49) none)).trans (World.grownBy_alloc _ (.cells zeroCs 104) none)
  have hb1 := (((Blk.new W 23 #[.int .i64 a0, .int .i64 a1, .int .i64 a2, .int .i64 a3, .int .i64 a4, .int .i64 a5, .int .i64 a6]).alloc (.cells #[.int .i64 ep, .int .i64 sq, .slice A n c, .int .u32 (sum : Nat)] 39)).alloc (.cells #[.int .i64 number, .int .i64 kind, .slice AB nb cb] 49)).alloc (.cells zeroCs 104)
  have hb2 := ((Blk.new (W.alloc (.cells #[.int .i64 a0, .int .i64 a1, .int .i64 a2, .int .i64 a3, .int .i64 a4, .int .i64 a5, .int .i64 a6] 23)) 39 #[.int .i64 ep, .int .i64 sq, .slice A n c, .int .u32 (sum : Nat)]).alloc (.cells #[.int .i64 number, .int .i64 kind, .slice AB nb cb] 49)).alloc (.cells zeroCs 104)
  have hb3 := (Blk.new ((W.alloc (.cells #[.int .i64 a0, .int .i64 a1, .int .i64 a2, .int .i64 a3, .int .i64 a4, .int .i64 a5, .int .i64 a6] 23)).alloc (.cells #[.int .i64 ep, .int .i64 sq, .slice A n c, .int .u32 (sum : Nat)] 39)) 49 #[.int .i64 number, .int .i64 kind, .slice AB nb cb]).alloc (.cells zeroCs 104)
  have hb4 := Blk.new (((W.alloc (.cells #[.int .i64 a0, .int .i64 a1, .int .i64 a2, .int .i64 a3, .int .i64 a4, .int .i64 a5, .int .i64 a6] 23)).alloc (.cells #[.int .i64 ep, .int .i64 sq, .slice A n c, .int .u32 (sum : Nat)] 39)).alloc (.cells #[.int .i64 number, .int .i64 kind, .slice AB nb cb] 49)) 104 zeroCs
  simp only [World.size_alloc] at hb2 hb3 hb4
  have HT := Lib.hid (.inl ⟨_, hb4, fresh_zero⟩ : Tab _ (W.heap.size + 1 + 1 + 1))
  have HS0 := Lib.hid hb1; have HH0 := Lib.hid hb2; have HI0 := Lib.hid hb3; have HG0 := Lib.hid hg0; have HP := Lib.hid hp; have HN := Lib.hid (show n ≤ 9223372036854775807 by simp only [maxLen] at hn; omega); have HSM := Lib.hid hsum
  have HL := Lib.hid (bytes_new (p := W.heap.size + 1 + 1 + 1) hl (by omega))
  clear hg0 hb1 hb2 hb3 hb4 hp hn hsum hl
  go_enter Try.func11, Try.ntmps11
  go_wp2_with fail
  refine (new_any _).mono ?_
  rintro e wa ⟨rfl, rfl⟩
  go_wp2_with fail
  refine (known_any (W.heap.size + 1 + 1 + 1) _ HT.out (by simp)).mono ?_
  rintro e wb ⟨rfl, hgb, hrb⟩
  have HSb := Lib.hid (HS0.out.grown hgb (by simp; omega)); have HHb := Lib.hid (HH0.out.grown hgb (by simp)); have HIb := Lib.hid (HI0.out.grown hgb (by simp)); have HRb := Lib.hid hrb
  have HGb := Lib.hid (grownBy_new HG0.out hgb (fun j hj => by cases hj; omega))
  have htl : W.heap.size + 1 + 1 + 1 < wb.heap.size := by obtain ⟨_, h, _⟩ := hrb; exact h.lt
  clear hgb hrb HT HS0 HH0 HI0 HG0
  have b0 := HSb.out.cell 0; have b1 := HSb.out.cell 1; have b2 := HSb.out.cell 2; have b3 := HSb.out.cell 3; have b4 := HSb.out.cell 4; have b5 := HSb.out.cell 5; have b6 := HSb.out.cell 6
  simp only [List.getElem?_toArray, List.getElem?_cons_zero, List.getElem?_cons_succ] at b0 b1 b2 b3 b4 b5 b6
  go_wp2_with fail
  refine (codec_put_super (W.heap.size + 1 + 1 + 1) a0 a1 a2 a3 a4 a5 a6 _ HRb.out).mono ?_
  clear b0 b1 b2 b3 b4 b5 b6
  rintro e w1 hG
  obtain ⟨hg1, A1, n1, e1, L1, rfl, hby1, hn1, hc1⟩ := hG.any (W.heap.size + 1 + 1 + 1) htl (fun l h => superW_len rfl h)
  have HG1 := Lib.hid hg1; have HB1 := Lib.hid hby1; have HC1 := Lib.hid hc1
  clear hG hg1 hby1 hc1
  go_wp2_with fail
  refine (spoilt_any (W.heap.size + 1 + 1 + 1) A1 n1 n1 L1 at_ cg _ HB1.out (by have := HG1.out.size; omega) hn1).mono ?_
  rintro e w2 ⟨hg2, A2, c2, ys, t2, rfl, hby2, ht2⟩
  have HG2 := Lib.hid (HG1.out.trans hg2); have HB2 := Lib.hid hby2; have HT2 := Lib.hid ht2
  clear hg2 hby2 ht2
  go_wp2_with fail
  obtain ⟨z0, z1, z2, z3, z4, z5, z6, h7⟩ := superR_seven ys
  refine (codec_get_super (W.heap.size + 1 + 1 + 1) A2 _ c2 ys _ (HRb.out.keep HG2.out (by simp)) HB2.out).mono ?_
  rw [h7, show supV [z0, z1, z2, z3, z4, z5, z6] = .agg #[.int .i64 z0, .int .i64 z1, .int .i64 z2, .int .i64 z3, .int .i64 z4, .int .i64 z5, .int .i64 z6] from rfl]
  rintro e w3 ⟨hg3, rfl⟩
  have hno : e1 = 0 → t2 = true → (superR ys).isSome = false := by
    intro he ht
    obtain ⟨bit, cc, htu, _⟩ := HT2.out ht
    rcases HC1.out with ⟨_, ho⟩ | h
    · rw [super_unlike ho htu]; rfl
    · omega
  have he1 : e1 = 0 ∨ e1 = 1 := by rcases HC1.out with ⟨h, _⟩ | h <;> simp [h]
  have HG3 := Lib.hid ((HG2.out.trans hg3).trans (World.grownBy_alloc w3 (.cells #[.int .i64 z0, .int .i64 z1, .int .i64 z2, .int .i64 z3, .int .i64 z4, .int .i64 z5, .int .i64 z6] 23) none))
  clear hg3 h7
  generalize (superR ys).isSome = ok at *
  have HNO := Lib.hid hno; have HE := Lib.hid he1; clear hno he1
  go_upto_region 7 with fail
  go_cut [48] (fun s wx => s = .bool false ∧ wx = w3.alloc (.cells #[.int .i64 z0, .int .i64 z1, .int .i64 z2, .int .i64 z3, .int .i64 z4, .int .i64 z5, .int .i64 z6] 23))
  case first =>
    rcases HE.out with rfl | rfl
    · cases t2 with
      | false =>
        go_wp2_with fail
        go_meet
        exact ⟨rfl, rfl⟩
      | true =>
        obtain rfl := HNO.out rfl rfl
        go_wp2_with fail
        go_meet
        exact ⟨rfl, rfl⟩
    · go_wp2_with fail
      go_meet
      exact ⟨rfl, rfl⟩
  case rest =>
  obtain ⟨rfl, rfl⟩ := hcut
  clear HC1 HT2 HNO HE HB1 HB2 HG1 HG2
  have hbx := HHb.out.grown HG3.out (by simp)
  have b0 := hbx.cell 0; have b1 := hbx.cell 1; have b2 := hbx.cell 2; have b3 := hbx.cell 3
  simp only [List.getElem?_toArray, List.getElem?_cons_zero, List.getElem?_cons_succ] at b0 b1 b2 b3
  clear hbx
  go_wp2_with fail
  refine (codec_put_head (W.heap.size + 1 + 1 + 1) W.heap.size ep sq A n c pages sum _ (HRb.out.keep HG3.out (by simp)) (ints_keep HP.out (HGb.out.trans HG3.out) (.inl rfl)) HN.out HSM.out).mono ?_
  clear b0 b1 b2 b3
  rintro e w4 hG
  obtain ⟨hg4, A4, n4, e4, L4, rfl, hby4, hn4, hc4⟩ := hG.any (W.heap.size + 1 + 1 + 1) (by have := HG3.out.size; omega) (fun l h => headW_len h)
  have HG4 := Lib.hid (HG3.out.trans hg4); have HB4 := Lib.hid hby4; have HC4 := Lib.hid hc4
  clear hG hg4 hby4 hc4
  go_wp2_with fail
  refine (spoilt_any (W.heap.size + 1 + 1 + 1) A4 n4 n4 L4 at_ cg _ HB4.out (by have := HG4.out.size; omega) hn4).mono ?_
  rintro e w5 ⟨hg5, A5, c5, ys5, t5, rfl, hby5, ht5⟩
  have HG5 := Lib.hid (HG4.out.trans hg5); have HB5 := Lib.hid hby5; have HT5 := Lib.hid ht5
  clear hg5 hby5 ht5
  go_wp2_with fail
  refine (codec_get_head (W.heap.size + 1 + 1 + 1) _ A5 _ c5 ys5 _ (HRb.out.keep HG5.out (by simp)) HB5.out).mono ?_
  rintro e w6 hS
  obtain ⟨hg6, v6, rfl⟩ := hS.any
  have hno : e4 = 0 → t5 = true → (headR ys5).isSome = false := by
    intro he ht
    obtain ⟨bit, cc, htu, _⟩ := HT5.out ht
    rcases HC4.out with ⟨_, ho⟩ | h
    · rw [head_unlike ho htu]; rfl
    · omega
  have he1 : e4 = 0 ∨ e4 = 1 := by rcases HC4.out with ⟨h, _⟩ | h <;> simp [h]
  have HG6 := Lib.hid (HG5.out.trans hg6)
  clear hg6 hS
  generalize (headR ys5).isSome = ok2 at *
  have HNO := Lib.hid hno; have HE := Lib.hid he1; clear hno he1
  go_upto_region 12 with fail
  go_cut [75] (fun s wx => s = .bool false ∧ wx = w6)
  case first =>
    rcases HE.out with rfl | rfl
    · cases t5 with
      | false =>
        go_wp2_with fail
        go_meet
        exact ⟨rfl, rfl⟩
      | true =>
        obtain rfl := HNO.out rfl rfl
        go_wp2_with fail
        go_meet
        exact ⟨rfl, rfl⟩
    · go_wp2_with fail
      go_meet
      exact ⟨rfl, rfl⟩
  case rest =>
  obtain ⟨rfl, rfl⟩ := hcut
  clear HC4 HT5 HNO HE HB4 HB5 HG4 HG5
  have hbx := HIb.out.grown HG6.out (by simp)
  have b0 := hbx.cell 0; have b1 := hbx.cell 1; have b2 := hbx.cell 2
  simp only [List.getElem?_toArray, List.getElem?_cons_zero, List.getElem?_cons_succ] at b0 b1 b2
  clear hbx
  go_wp2_with fail
  refine (codec_put_page (W.heap.size + 1 + 1 + 1) _ number kind AB nb cb body _ (HRb.out.keep HG6.out (by simp)) (bytes_keepN HL.out (HGb.out.trans HG6.out))).mono ?_
  clear b0 b1 b2
  rintro e w7 hG
  obtain ⟨hg7, A7, n7, e7, L7, rfl, hby7, hn7, hc7⟩ := hG.any (W.heap.size + 1 + 1 + 1) (by have := HG6.out.size; omega) (fun l h => pageW_len h)
  have HG7 := Lib.hid (HG6.out.trans hg7); have HB7 := Lib.hid hby7; have HC7 := Lib.hid hc7
  clear hG hg7 hby7 hc7
  go_wp2_with fail
  refine (spoilt_any (W.heap.size + 1 + 1 + 1) A7 n7 n7 L7 at_ cg _ HB7.out (by have := HG7.out.size; omega) hn7).mono ?_
  rintro e w8 ⟨hg8, A8, c8, ys8, t8, rfl, hby8, ht8⟩
  have HG8 := Lib.hid (HG7.out.trans hg8); have HB8 := Lib.hid hby8; have HT8 := Lib.hid ht8
  have hbx := HIb.out.grown HG8.out (by simp)
  have b0 := hbx.cell 0
  simp only [List.getElem?_toArray, List.getElem?_cons_zero] at b0
  clear hg8 hby8 ht8 hbx
  go_wp2_with fail
  refine (codec_get_page (W.heap.size + 1 + 1 + 1) _ A8 _ c8 ys8 number _ (HRb.out.keep HG8.out (by simp)) HB8.out).mono ?_
  clear b0
  rintro e w9 hS
  obtain ⟨hg9, k9, A9, n9, c9, rfl⟩ := hS.any
  have hno : e7 = 0 → t8 = true → (pageR ys8 number).isSome = false := by
    intro he ht
    obtain ⟨bit, cc, htu, hou⟩ := HT8.out ht
    rcases HC7.out with ⟨_, ho⟩ | h
    · rw [page_unlike ho htu hou]; rfl
    · omega
  have he1 : e7 = 0 ∨ e7 = 1 := by rcases HC7.out with ⟨h, _⟩ | h <;> simp [h]
  have HG9 := Lib.hid (HG8.out.trans hg9)
  clear hg9 hS
  generalize (pageR ys8 number).isSome = ok3 at *
  have HNO := Lib.hid hno; have HE := Lib.hid he1; clear hno he1
  go_upto_region 17 with fail
  go_cut [10] (fun s wx => s = .bool true ∧ wx = w9)
  case first =>
    rcases HE.out with rfl | rfl
    · cases t8 with
      | false =>
        go_wp2_with fail
        go_meet
        exact ⟨rfl, rfl⟩
      | true =>
        obtain rfl := HNO.out rfl rfl
        go_wp2_with fail
        go_meet
        exact ⟨rfl, rfl⟩
    · go_wp2_with fail
      go_meet
      exact ⟨rfl, rfl⟩
  case rest =>
  obtain ⟨rfl, rfl⟩ := hcut
  go_wp2_with fail
  go_ret
  exact ⟨rfl, below_of_grown (HGb.out.trans HG9.out) (Nat.le_refl _) (fun _ h => by cases h)⟩
end Go.Proofs.Ytkiohneggoiipaa.CodecErrors
