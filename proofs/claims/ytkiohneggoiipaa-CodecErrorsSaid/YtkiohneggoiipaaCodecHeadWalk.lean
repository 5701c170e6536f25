/- The laws' test whether two heads are the same, and the walk over the law CodecHead, by the contracts of what they call. -/
import Derived.Test.YtkiohneggoiipaaCodecPageWalk
import Derived.Test.YtkiohneggoiipaaCodecHeadGet
import Derived.Test.YtkiohneggoiipaaRefHead
import Derived.Test.YtkiohneggoiipaaOpen2
namespace Go.Proofs.Ytkiohneggoiipaa.Codec
open Go.RowKit CrcMath CodecMath Mem Crc

set_option maxRecDepth 100000 in
set_option maxHeartbeats 800000 in
theorem heads_any (b b' : Nat) (ep ep' sq sq' : Int) (A A' : Option Addr) (n n' c c' : Nat) (pages pages' : List Int) (sum sum' : Nat) (w : World) (hp : Ints w b A n pages) (hp' : Ints w b' A' n' pages') (hn : n ≤ maxLen) (hn' : n' ≤ maxLen) :
    Calls Try.prog 23 #[.agg #[.int .i64 ep, .int .i64 sq, .slice A n c, .int .u32 (sum : Nat)], .agg #[.int .i64 ep', .int .i64 sq', .slice A' n' c', .int .u32 (sum' : Nat)]] w fun e w' => e = .returned (.bool (decide (ep = ep') && decide (sq = sq') && decide (sum = sum') && decide (pages = pages'))) ∧ w.grownBy w' none := by
  have hg := (World.grownBy_alloc w (.cells #[.int .i64 ep, .int .i64 sq, .slice A n c, .int .u32 (sum : Nat)] 39) none).trans (World.grownBy_alloc _ (.cells #[.int .i64 ep', .int .i64 sq', .slice A' n' c', .int .u32 (sum' : Nat)] 39) none)
  have HG := Lib.hid hg; have HP := Lib.hid (ints_keep hp hg (.inl rfl)); have HP' := Lib.hid (ints_keep hp' hg (.inl rfl))
  simp only [maxLen] at hn hn'
  clear hg hp hp'
  by_cases h1 : ep = ep'
  · subst h1
    by_cases h2 : sq = sq'
    · subst h2
      by_cases h3 : sum = sum'
      · subst h3
        generalize hd : decide (pages = pages') = d
        have HD := Lib.hid hd; clear hd
        go_enter Try.func23, Try.ntmps23
        go_wp2_with fail
        refine (ints_any b b' A A' n n' c c' pages pages' _ HP.out HP'.out (by omega) (by omega)).mono ?_
        rintro e w1 ⟨rfl, hdr⟩
        have HG1 := Lib.hid (HG.out.trans (drawn_grown hdr none)); clear hdr
        rw [HD.out]
        go_wp2
        go_ret
        exact ⟨by simp, HG1.out⟩
      · have hne : (((sum : Nat) : Int) == ((sum' : Nat) : Int)) = false := by simp; omega
        go_enter Try.func23, Try.ntmps23
        go_wp2
        go_ret
        exact ⟨by simp [h3], HG.out⟩
    · have hne : (sq == sq') = false := by simpa using h2
      go_enter Try.func23, Try.ntmps23
      go_wp2
      go_ret
      exact ⟨by simp [h2], HG.out⟩
  · have hne : (ep == ep') = false := by simpa using h1
    go_enter Try.func23, Try.ntmps23
    go_wp2
    go_ret
    exact ⟨by simp [h1], HG.out⟩
theorem SaidHead.some_ {w w' : World} {ep sq : Int} {pages : List Int} {sum : Nat} {e : Ending} (h : SaidHead w (some (ep, sq, pages, sum)) e w') :
    w.grownBy w' none ∧ ∃ v, e = .returned (.tuple #[.agg #[.int .i64 ep, .int .i64 sq, v, .int .u32 (sum : Nat)], .bool true]) ∧ Own w' w.heap.size 3 1 v pages.length (i64s pages) ∧ (∀ x ∈ pages, -9223372036854775808 ≤ x ∧ x ≤ 9223372036854775807) ∧ sum < 4294967296 := by
  obtain ⟨hg, ⟨e', s', p, q, v, ho, he, rest⟩ | ⟨ho, _⟩⟩ := h
  · cases ho
    exact ⟨hg, v, he, rest⟩
  · cases ho
theorem SaidHead.none_ {w w' : World} {e : Ending} (h : SaidHead w none e w') : w.grownBy w' none ∧ e = .returned (.tuple #[.agg #[.int .i64 0, .int .i64 0, .slice none 0 0, .int .u32 0], .bool false]) := by
  obtain ⟨hg, ⟨e', s', p, q, v, ho, _⟩ | ⟨_, he⟩⟩ := h
  · cases ho
  · exact ⟨hg, he⟩
end Go.Proofs.Ytkiohneggoiipaa.Codec
namespace Go.Proofs.Ytkiohneggoiipaa.CodecHead
open Go.ChangeShapes Go.WideShapes Go.ChangeAt Go.RowKit
open Crc CrcMath Mem CodecMath Codec
set_option maxRecDepth 100000 in
set_option maxHeartbeats 3200000 in
theorem walk {H : Type} {enc : TypeId × Value → H} (W : World) (base : Nat) (v0 : Value) (d0 : DataW H) (p0 : List MemPlace)
    (o0 : Value.okWide Try.prog W .any base 39 v0)
    (h0 : DataW.Trod enc Try.prog W 0 (fun _ => true) true 39 v0 d0 p0)
    (_hsz : (DataW.weightsEach Try.prog [39] [d0]).all (· ≤ reachBytes) = true) :
    Calls Try.prog 4 #[v0] W fun e W' => e = .returned (.bool true) ∧ Below W.heap.size W W' := by
  obtain ⟨ep, sq, A, n, c, pages, sum, rfl, hp, hn, hsum⟩ := open_head o0 h0
  clear o0 h0
  have hbox := (Blk.new W 39 #[.int .i64 ep, .int .i64 sq, .slice A n c, .int .u32 (sum : Nat)]).alloc (.cells zeroCs 104)
  have hT : Tab ((W.alloc (.cells #[.int .i64 ep, .int .i64 sq, .slice A n c, .int .u32 (sum : Nat)] 39)).alloc (.cells zeroCs 104)) (W.heap.size + 1) := .inl ⟨_, by simpa using Blk.new (W.alloc (.cells #[.int .i64 ep, .int .i64 sq, .slice A n c, .int .u32 (sum : Nat)] 39)) 104 zeroCs, fresh_zero⟩
  have hg0 : W.grownBy ((W.alloc (.cells #[.int .i64 ep, .int .i64 sq, .slice A n c, .int .u32 (sum : Nat)] 39)).alloc (.cells zeroCs 104)) none := (World.grownBy_alloc W _ none).trans (World.grownBy_alloc _ _ none)
  have HNN := Lib.hid (show n ≤ 9223372036854775807 by simp only [maxLen] at hn; omega)
  have HBOX := Lib.hid hbox; have HT := Lib.hid hT; have HG0 := Lib.hid hg0; have HP := Lib.hid hp; have HN := Lib.hid hn; have HSM := Lib.hid hsum
  clear hbox hT hg0 hp hn hsum
  go_enter Try.func4, Try.ntmps4
  go_wp2_with fail
  refine (new_any _).mono ?_
  rintro e wa ⟨rfl, rfl⟩
  go_wp2_with fail
  refine (known_any (W.heap.size + 1) _ HT.out (by simp)).mono ?_
  rintro e wb ⟨rfl, hgb, hrb⟩
  have HBOXb := Lib.hid (HBOX.out.grown hgb (by simp)); have HRb := Lib.hid hrb
  have HGb := Lib.hid (grownBy_new HG0.out hgb (fun j hj => by cases hj; omega))
  have htl : W.heap.size + 1 < wb.heap.size := by obtain ⟨_, h, _⟩ := hrb; exact h.lt
  clear hgb hrb HT HBOX HG0
  have b0 := HBOXb.out.cell 0; have b1 := HBOXb.out.cell 1; have b2 := HBOXb.out.cell 2; have b3 := HBOXb.out.cell 3
  simp only [List.getElem?_toArray, List.getElem?_cons_zero, List.getElem?_cons_succ] at b0 b1 b2 b3
  go_wp2_with fail
  refine (codec_put_head (W.heap.size + 1) W.heap.size ep sq A n c pages sum _ HRb.out (ints_keep HP.out HGb.out (.inl rfl)) HNN.out HSM.out).mono ?_
  clear b0 b1 b2 b3
  cases hW : headW ep sq pages sum with
  | some L =>
    rintro e w1 hG
    obtain ⟨hg1, g1, rfl, hge1, hb1, hlt1⟩ := hG.some_
    have hL := headW_len hW
    have HW := Lib.hid hW; have HLE := Lib.hid hL
    have hby := blk_bytes (b := W.heap.size + 1) hb1 (by omega) hlt1
    rw [hL] at hby
    have HB1 := Lib.hid hby; have HG1 := Lib.hid hg1
    have hbx := HBOXb.out.grown hg1 (by simp)
    have b0 := hbx.cell 0; have b1 := hbx.cell 1; have b2 := hbx.cell 2; have b3 := hbx.cell 3
    simp only [List.getElem?_toArray, List.getElem?_cons_zero, List.getElem?_cons_succ] at b0 b1 b2 b3
    clear hG hg1 hW hL hby hb1 hbx
    rw [HLE.out]
    go_wp2_with fail
    refine (ref_put_head _ ep sq A n c pages sum _ (ints_keep HP.out (HGb.out.trans HG1.out) (.inl rfl)) HSM.out).mono ?_
    clear b0 b1 b2 b3
    rw [HW.out]
    rintro e w2 hG
    obtain ⟨hg2, v2, rfl, hown2, hlt2⟩ := hG.some_
    obtain ⟨A2, c2, rfl, hb2, _, _⟩ := own_bytes_b (b := W.heap.size + 1) hown2 hlt2 (by have := HG1.out.size; omega)
    rw [HLE.out] at hb2 ⊢
    have HB2 := Lib.hid hb2; have HG2 := Lib.hid (HG1.out.trans hg2); have HA2 := Lib.hid (bytes_keepN HB1.out hg2)
    have hbx := HBOXb.out.grown HG2.out (by simp)
    have b0 := hbx.cell 0; have b1 := hbx.cell 1; have b2 := hbx.cell 2; have b3 := hbx.cell 3
    simp only [List.getElem?_toArray, List.getElem?_cons_zero, List.getElem?_cons_succ] at b0 b1 b2 b3
    clear hG hg2 hown2 hb2 hbx
    go_wp2_with fail
    refine (codec_put_head_nil ep sq A n c sum _).mono ?_
    clear b0 b1 b2 b3
    rintro e w3 hG
    obtain ⟨hg3, rfl⟩ := hG.none_
    have HG3 := Lib.hid (HG2.out.trans hg3); have HA3 := Lib.hid (bytes_keepN HA2.out hg3); have HB3 := Lib.hid (bytes_keepN HB2.out hg3)
    clear hG hg3
    go_wp2_with fail
    refine (same_any _ _ _ A2 256 256 256 c2 L L _ HA3.out HB3.out (by omega) (by omega)).mono ?_
    rintro e w4 ⟨rfl, hdr⟩
    rw [show decide (L = L) = true from by simp]
    have hg4 := drawn_grown hdr none
    have HG4 := Lib.hid (HG3.out.trans hg4); have HA4 := Lib.hid (bytes_keepN HA3.out hg4)
    clear hdr hg4
    go_wp2_with fail
    refine (codec_get_head (W.heap.size + 1) _ _ 256 256 L _ (HRb.out.keep HG4.out (by simp)) HA4.out).mono ?_
    rw [headR_of HSM.out HW.out]
    rintro e w5 hS
    obtain ⟨hg5, v5, rfl, ho5, hr5, _⟩ := hS.some_
    obtain ⟨A5, c5, rfl, hi5, hc5, hm5⟩ := own_ints ho5 hr5
    have hga := World.grownBy_alloc w5 (.cells #[.int .i64 ep, .int .i64 sq, .slice A5 pages.length c5, .int .u32 (sum : Nat)] 39) none
    have hg5' := hg5.trans hga
    have HG5 := Lib.hid (HG4.out.trans hg5'); have HU5 := Lib.hid (Blk.new w5 39 #[.int .i64 ep, .int .i64 sq, .slice A5 pages.length c5, .int .u32 (sum : Nat)]); have HI5 := Lib.hid (ints_keep hi5 hga (.inl rfl))
    clear hS hg5 hg5' hga ho5 hr5 hi5
    go_wp2_with fail
    refine (codec_get_head_nil _ 256 256 _).mono ?_
    rintro e w6 hS
    obtain ⟨hg6, rfl⟩ := hS.none_
    have hg6' := hg6.trans (World.grownBy_alloc w6 (.cells #[.int .i64 0, .int .i64 0, .slice none 0 0, .int .u32 0] 39) none)
    have HG6 := Lib.hid (HG5.out.trans hg6'); have HI6 := Lib.hid (ints_keep HI5.out hg6' (.inl rfl))
    have hu := HU5.out.grown hg6' (by simp)
    have u0 := hu.cell 0; have u1 := hu.cell 1; have u2 := hu.cell 2; have u3 := hu.cell 3
    have hbx := HBOXb.out.grown HG6.out (by simp)
    have b0 := hbx.cell 0; have b1 := hbx.cell 1; have b2 := hbx.cell 2; have b3 := hbx.cell 3
    simp only [List.getElem?_toArray, List.getElem?_cons_zero, List.getElem?_cons_succ] at u0 u1 u2 u3 b0 b1 b2 b3
    clear hS hg6 hg6' hu hbx
    go_wp2_with fail
    refine (heads_any _ _ ep ep sq sq A5 A _ n c5 c pages pages sum sum _ HI6.out (ints_keep HP.out (HGb.out.trans HG6.out) (.inl rfl)) (by omega) HN.out).mono ?_
    rintro e w7 ⟨rfl, hg7⟩
    rw [show (decide (ep = ep) && decide (sq = sq) && decide (sum = sum) && decide (pages = pages)) = true from by simp]
    have HG7 := Lib.hid (HG6.out.trans hg7)
    clear hg7 u0 u1 u2 u3 b0 b1 b2 b3
    go_wp2_with fail
    go_ret
    exact ⟨rfl, below_of_grown (HGb.out.trans HG7.out) (Nat.le_refl _) (fun _ h => by cases h)⟩
  | none =>
    rintro e w1 hG
    obtain ⟨hg1, rfl⟩ := hG.none_
    have HW := Lib.hid hW; have HG1 := Lib.hid hg1
    have hbx := HBOXb.out.grown hg1 (by simp)
    have b0 := hbx.cell 0; have b1 := hbx.cell 1; have b2 := hbx.cell 2; have b3 := hbx.cell 3
    simp only [List.getElem?_toArray, List.getElem?_cons_zero, List.getElem?_cons_succ] at b0 b1 b2 b3
    clear hG hg1 hW hbx
    go_wp2_with fail
    refine (ref_put_head _ ep sq A n c pages sum _ (ints_keep HP.out (HGb.out.trans HG1.out) (.inl rfl)) HSM.out).mono ?_
    clear b0 b1 b2 b3
    rw [HW.out]
    rintro e w2 hG
    obtain ⟨hg2, rfl⟩ := hG.none_
    have HG2 := Lib.hid (HG1.out.trans hg2)
    have hbx := HBOXb.out.grown HG2.out (by simp)
    have b0 := hbx.cell 0; have b1 := hbx.cell 1; have b2 := hbx.cell 2; have b3 := hbx.cell 3
    simp only [List.getElem?_toArray, List.getElem?_cons_zero, List.getElem?_cons_succ] at b0 b1 b2 b3
    clear hG hg2 hbx
    go_wp2_with fail
    refine (codec_put_head_nil ep sq A n c sum _).mono ?_
    clear b0 b1 b2 b3
    rintro e w3 hG
    obtain ⟨hg3, rfl⟩ := hG.none_
    have HG3 := Lib.hid (HG2.out.trans hg3)
    clear hG hg3
    go_wp2_with fail
    refine (same_any 0 0 none none 0 0 0 0 [] [] _ (Bytes.none_ _ _ _) (Bytes.none_ _ _ _) (by omega) (by omega)).mono ?_
    rintro e w4 ⟨rfl, hdr⟩
    rw [show decide (([] : List Nat) = []) = true from by simp]
    have HG4 := Lib.hid (HG3.out.trans (drawn_grown hdr none))
    clear hdr
    go_wp2_with fail
    refine (codec_get_head (W.heap.size + 1) 0 none 0 0 [] _ (HRb.out.keep HG4.out (by simp)) (Bytes.none_ _ _ _)).mono ?_
    rw [headR_none [] (by simp)]
    rintro e w5 hS
    obtain ⟨hg5, rfl⟩ := hS.none_
    have HG5 := Lib.hid (HG4.out.trans (hg5.trans (World.grownBy_alloc w5 (.cells #[.int .i64 0, .int .i64 0, .slice none 0 0, .int .u32 0] 39) none)))
    clear hS hg5
    go_wp2_with fail
    refine (codec_get_head_nil none 0 0 _).mono ?_
    rintro e w6 hS
    obtain ⟨hg6, rfl⟩ := hS.none_
    have HG6 := Lib.hid (HG5.out.trans (hg6.trans (World.grownBy_alloc w6 (.cells #[.int .i64 0, .int .i64 0, .slice none 0 0, .int .u32 0] 39) none)))
    clear hS hg6
    go_wp2_with fail
    go_ret
    exact ⟨rfl, below_of_grown (HGb.out.trans HG6.out) (Nat.le_refl _) (fun _ h => by cases h)⟩
end Go.Proofs.Ytkiohneggoiipaa.CodecHead
