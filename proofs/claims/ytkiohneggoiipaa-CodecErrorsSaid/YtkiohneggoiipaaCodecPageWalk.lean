/- The walk over the law CodecPage, by the contracts of what it calls. -/
import Derived.Test.YtkiohneggoiipaaCodecSuperWalk
import Derived.Test.YtkiohneggoiipaaCodecImageGet
import Derived.Test.YtkiohneggoiipaaLawBits
namespace Go.Proofs.Ytkiohneggoiipaa.Codec
open Go.RowKit CrcMath CodecMath Mem Crc

set_option maxRecDepth 100000 in
set_option maxHeartbeats 800000 in
/-- The laws' test whether two pages are the same. -/
theorem pages_any (b b' : Nat) (k k' : Int) (A A' : Option Addr) (n n' c c' : Nat) (l l' : List Nat) (w : World) (hl : Bytes w b A n l) (hl' : Bytes w b' A' n' l') (hn : n ≤ 9223372036854775807) (hn' : n' ≤ 9223372036854775807) :
    Calls Try.prog 27 #[.agg #[.int .i64 k, .slice A n c], .agg #[.int .i64 k', .slice A' n' c']] w fun e w' => e = .returned (.bool (decide (k = k') && decide (l = l'))) ∧ w.grownBy w' none := by
  have hg := (World.grownBy_alloc w (.cells #[.int .i64 k, .slice A n c] 47) none).trans (World.grownBy_alloc _ (.cells #[.int .i64 k', .slice A' n' c'] 47) none)
  have HG := Lib.hid hg; have HL := Lib.hid (bytes_keepN hl hg); have HL' := Lib.hid (bytes_keepN hl' hg); clear hg hl hl'
  by_cases hk : k = k'
  · subst hk
    generalize hd : decide (l = l') = d
    have HD := Lib.hid hd; clear hd
    go_enter Try.func27, Try.ntmps27
    go_wp2_with fail
    refine (same_any _ _ A A' n n' c c' l l' _ HL.out HL'.out hn hn').mono ?_
    rintro e w1 ⟨rfl, hdr⟩
    have HG1 := Lib.hid (HG.out.trans (drawn_grown hdr none)); clear hdr
    rw [HD.out]
    go_wp2
    go_ret
    exact ⟨by simp, HG1.out⟩
  · have hne : (k == k') = false := by simpa using hk
    have HE := Lib.hid (show (decide (k = k') && decide (l = l')) = false by simp [hk])
    go_enter Try.func27, Try.ntmps27
    go_wp2
    go_ret
    exact ⟨by rw [HE.out]; rfl, HG.out⟩
theorem SaidPage.some_ {w w' : World} {kind : Int} {body : List Nat} {e : Ending} (h : SaidPage w (some (kind, body)) e w') : w.grownBy w' none ∧ ∃ v, e = .returned (.tuple #[.agg #[.int .i64 kind, v], .bool true]) ∧ Lies w' w.heap.size v body := by
  obtain ⟨hg, ⟨k, l, v, ho, he, hb⟩ | ⟨ho, _⟩⟩ := h
  · cases ho
    exact ⟨hg, v, he, hb⟩
  · cases ho
theorem SaidPage.none_ {w w' : World} {e : Ending} (h : SaidPage w none e w') : w.grownBy w' none ∧ e = .returned (.tuple #[.agg #[.int .i64 0, .slice none 0 0], .bool false]) := by
  obtain ⟨hg, ⟨k, l, v, ho, _⟩ | ⟨_, he⟩⟩ := h
  · cases ho
  · exact ⟨hg, he⟩
theorem SaidPage.any {w w' : World} {o : Option (Int × List Nat)} {e : Ending} (h : SaidPage w o e w') : w.grownBy w' none ∧ ∃ k A n c, e = .returned (.tuple #[.agg #[.int .i64 k, .slice A n c], .bool o.isSome]) := by
  obtain ⟨hg, ⟨k, l, v, rfl, rfl, hb⟩ | ⟨rfl, rfl⟩⟩ := h
  · obtain ⟨A, c, rfl, _⟩ := hb
    exact ⟨hg, k, A, _, c, rfl⟩
  · exact ⟨hg, 0, none, 0, 0, rfl⟩
theorem make256 (w : World) : (Instr.makeSlice 27 (.int .i64 256) (.int .i64 256)).run Try.prog w = .ok (.slice (some ⟨w.heap.size, 0, none⟩) 256 256) (w.alloc (.cells (Array.replicate 256 (.int .u8 0)) 5)) := by kernel_rfl
theorem Wrote.some_ {w w' : World} {l : List Nat} {e : Ending} (h : Wrote w (some l) e w') : w.grownBy w' none ∧ ∃ v, e = .returned (.tuple #[v, .int .i64 0]) ∧ Own w' w.heap.size 5 1 v l.length (u8s l) ∧ ∀ x ∈ l, x < 256 := by
  obtain ⟨hg, ⟨l', v, ho, he, rest⟩ | ⟨ho, _⟩⟩ := h
  · cases ho
    exact ⟨hg, v, he, rest⟩
  · cases ho
theorem Wrote.none_ {w w' : World} {e : Ending} (h : Wrote w none e w') : w.grownBy w' none ∧ e = .returned (.tuple #[.slice none 0 0, .int .i64 1]) := by
  obtain ⟨hg, ⟨l', v, ho, _⟩ | ⟨_, he⟩⟩ := h
  · cases ho
  · exact ⟨hg, he⟩
end Go.Proofs.Ytkiohneggoiipaa.Codec
namespace Go.Proofs.Ytkiohneggoiipaa.CodecPage
open Go.ChangeShapes Go.WideShapes Go.ChangeAt Go.RowKit
open Crc CrcMath Mem CodecMath Codec
set_option maxRecDepth 100000 in
set_option maxHeartbeats 3200000 in
theorem walk {H : Type} {enc : TypeId × Value → H} (W : World) (base : Nat) (v0 v1 : Value) (d0 d1 : DataW H) (p0 p1 : List MemPlace)
    (o0 : Value.okWide Try.prog W .any base 49 v0) (o1 : Value.okWide Try.prog W .any base 3 v1)
    (h0 : DataW.Trod enc Try.prog W 0 (fun _ => true) true 49 v0 d0 p0) (h1 : DataW.Trod enc Try.prog W 0 (fun _ => true) true 3 v1 d1 p1)
    (_hsz : (DataW.weightsEach Try.prog [49, 3] [d0, d1]).all (· ≤ reachBytes) = true) :
    Calls Try.prog 5 #[v0, v1] W fun e W' => e = .returned (.bool true) ∧ Below W.heap.size W W' := by
  obtain ⟨number, kind, A, n, c, l, rfl, hl, hnc, hcm, _, _⟩ := open_image o0 h0
  obtain ⟨other, rfl, rfl, rfl, _⟩ := open_int Try.underlying3 o1 h1
  clear o0 h0 o1 h1
  have hbox := (Blk.new W 49 #[.int .i64 number, .int .i64 kind, .slice A n c]).alloc (.cells zeroCs 104)
  have hT : Tab ((W.alloc (.cells #[.int .i64 number, .int .i64 kind, .slice A n c] 49)).alloc (.cells zeroCs 104)) (W.heap.size + 1) := .inl ⟨_, by simpa using Blk.new (W.alloc (.cells #[.int .i64 number, .int .i64 kind, .slice A n c] 49)) 104 zeroCs, fresh_zero⟩
  have hg0 : W.grownBy ((W.alloc (.cells #[.int .i64 number, .int .i64 kind, .slice A n c] 49)).alloc (.cells zeroCs 104)) none := (World.grownBy_alloc W _ none).trans (World.grownBy_alloc _ _ none)
  have hl0 : Bytes ((W.alloc (.cells #[.int .i64 number, .int .i64 kind, .slice A n c] 49)).alloc (.cells zeroCs 104)) (W.heap.size + 1) A n l := bytes_keepN (bytes_new hl (by omega)) hg0
  have HBOX := Lib.hid hbox; have HT := Lib.hid hT; have HG0 := Lib.hid hg0; have HL0 := Lib.hid hl0; have HN := Lib.hid (show n ≤ 9223372036854775807 by simp only [maxLen] at hcm; omega); clear hbox hT hg0 hl hl0 hcm
  have hmk := make256
  go_enter Try.func5, Try.ntmps5
  go_wp2_with fail
  refine (new_any _).mono ?_
  rintro e wa ⟨rfl, rfl⟩
  go_wp2_with fail
  refine (known_any (W.heap.size + 1) _ HT.out (by simp)).mono ?_
  rintro e wb ⟨rfl, hgb, hrb⟩
  have HBOXb := Lib.hid (HBOX.out.grown hgb (by simp))
  have HRb := Lib.hid hrb
  have HLb := Lib.hid (HL0.out.keep hgb)
  have HGb := Lib.hid (grownBy_new HG0.out hgb (fun j hj => by cases hj; omega))
  have htl : W.heap.size + 1 < wb.heap.size := by obtain ⟨_, h, _⟩ := hrb; exact h.lt
  clear hgb hrb HT HBOX HG0 HL0
  have b0 := HBOXb.out.cell 0; have b1 := HBOXb.out.cell 1; have b2 := HBOXb.out.cell 2
  simp only [List.getElem?_toArray, List.getElem?_cons_zero, List.getElem?_cons_succ] at b0 b1 b2
  go_wp2_with fail
  refine (codec_put_page (W.heap.size + 1) _ number kind A n c l _ HRb.out HLb.out).mono ?_
  clear b0 b1 b2
  cases hW : pageW number kind l with
  | some L =>
    rintro e w1 hG
    obtain ⟨hg1, g1, rfl, hge1, hb1, hlt1⟩ := hG.some_
    have hL := pageW_len hW
    have HW := Lib.hid hW; have HLE := Lib.hid hL
    have hby := blk_bytes (b := W.heap.size + 1) hb1 (by omega) hlt1
    rw [hL] at hby
    have HB1 := Lib.hid hby; have HG1 := Lib.hid hg1
    have hbx := HBOXb.out.grown hg1 (by simp)
    have b0 := hbx.cell 0; have b1 := hbx.cell 1; have b2 := hbx.cell 2
    simp only [List.getElem?_toArray, List.getElem?_cons_zero, List.getElem?_cons_succ] at b0 b1 b2
    clear hG hg1 hW hL hby hb1 hbx
    rw [HLE.out]
    go_wp2_with fail
    refine (ref_put_page _ number kind A n c l _ (bytes_keepN HLb.out HG1.out)).mono ?_
    clear b0 b1 b2
    rw [HW.out]
    rintro e w2 hG
    obtain ⟨hg2, v2, rfl, hown2, hlt2⟩ := hG.some_
    obtain ⟨A2, c2, rfl, hb2, _, _⟩ := own_bytes_b (b := W.heap.size + 1) hown2 hlt2 (by have := HG1.out.size; omega)
    rw [HLE.out] at hb2 ⊢
    have HB2 := Lib.hid hb2; have HG2 := Lib.hid (HG1.out.trans hg2); have HA2 := Lib.hid (bytes_keepN HB1.out hg2)
    have hbx := HBOXb.out.grown HG2.out (by simp)
    have b0 := hbx.cell 0; have b1 := hbx.cell 1; have b2 := hbx.cell 2
    simp only [List.getElem?_toArray, List.getElem?_cons_zero, List.getElem?_cons_succ] at b0 b1 b2
    clear hG hg2 hown2 hb2 hbx
    go_wp2_with fail
    refine (codec_put_page_nil number kind A n c _).mono ?_
    clear b0 b1 b2
    rintro e w3 hG
    obtain ⟨hg3, rfl⟩ := hG.none_
    have HG3 := Lib.hid (HG2.out.trans hg3); have HA3 := Lib.hid (bytes_keepN HA2.out hg3); have HB3 := Lib.hid (bytes_keepN HB2.out hg3)
    clear hG hg3
    go_wp2_with fail
    refine (same_any _ _ _ A2 256 256 256 c2 L L _ HA3.out HB3.out (by omega) (by omega)).mono ?_
    rintro e w4 ⟨rfl, hdr⟩
    rw [show decide (L = L) = true from by simp]
    have hg4 := drawn_grown hdr none
    have HG4 := Lib.hid (HG3.out.trans hg4); have HA4 := Lib.hid (bytes_keepN HA3.out hg4)
    have hbx := HBOXb.out.grown HG4.out (by simp)
    have b0 := hbx.cell 0
    simp only [List.getElem?_toArray, List.getElem?_cons_zero] at b0
    clear hdr hg4 hbx
    go_wp2_with fail
    refine (codec_get_page (W.heap.size + 1) _ _ 256 256 L number _ (HRb.out.keep HG4.out (by simp)) HA4.out).mono ?_
    clear b0
    rw [pageR_of HW.out]
    rintro e w5 hS
    obtain ⟨hg5, v5, rfl, hlie⟩ := hS.some_
    obtain ⟨A5, c5, rfl, _, hb5⟩ := hlie.bytes (b := W.heap.size + 1) (by have := HG4.out.size; omega)
    have hg5' := hg5.trans (World.grownBy_alloc w5 (.cells #[.int .i64 kind, .slice A5 l.length c5] 47) none)
    have HG5 := Lib.hid (HG4.out.trans hg5'); have HA5 := Lib.hid (bytes_keepN HA4.out hg5'); have HU5 := Lib.hid (Blk.new w5 47 #[.int .i64 kind, .slice A5 l.length c5]); have HY5 := Lib.hid (bytes_keepN hb5 (World.grownBy_alloc w5 (.cells #[.int .i64 kind, .slice A5 l.length c5] 47) none))
    clear hS hg5 hg5' hlie hb5
    go_wp2_with fail
    refine (codec_get_page (W.heap.size + 1) _ _ 256 256 L other _ (HRb.out.keep HG5.out (by simp)) HA5.out).mono ?_
    rintro e w6 hS
    obtain ⟨hg6, k6, A6, n6, c6, rfl⟩ := hS.any
    have hd6 : (pageR L other).isSome = (other == number) := by
      by_cases ho : other = number
      · subst ho; rw [pageR_of HW.out]; simp
      · rw [pageR_other HW.out ho]; simpa using ho
    rw [hd6]
    generalize hdd : (other == number) = d
    have HD := Lib.hid hdd
    have hg6' := hg6.trans (World.grownBy_alloc w6 (.cells #[.int .i64 k6, .slice A6 n6 c6] 47) none)
    have HG6 := Lib.hid (HG5.out.trans hg6'); have HA6 := Lib.hid (bytes_keepN HA5.out hg6'); have HU6 := Lib.hid (HU5.out.grown hg6' (by simp)); have HY6 := Lib.hid (bytes_keepN HY5.out hg6')
    have hbx := HBOXb.out.grown HG6.out (by simp)
    have b0 := hbx.cell 0
    simp only [List.getElem?_toArray, List.getElem?_cons_zero] at b0
    clear hS hg6 hg6' hd6 hdd hbx
    go_wp2_with fail
    refine (codec_get_page_nil _ 256 256 number _).mono ?_
    clear b0
    rintro e w7 hS
    obtain ⟨hg7, rfl⟩ := hS.none_
    have hg7' := hg7.trans (World.grownBy_alloc w7 (.cells #[.int .i64 0, .slice none 0 0] 47) none)
    have HG7 := Lib.hid (HG6.out.trans hg7'); have HU7 := Lib.hid (HU6.out.grown hg7' (by simp)); have HY7 := Lib.hid (bytes_keepN HY6.out hg7')
    have hzb := Blk.new (w7.alloc (.cells #[.int .i64 0, .slice none 0 0] 47)) 5 (Array.replicate 256 (.int .u8 0))
    have hg8 := World.grownBy_alloc (w7.alloc (.cells #[.int .i64 0, .slice none 0 0] 47)) (.cells (Array.replicate 256 (.int .u8 0)) 5) none
    have hzl : Bytes ((w7.alloc (.cells #[.int .i64 0, .slice none 0 0] 47)).alloc (.cells (Array.replicate 256 (.int .u8 0)) 5)) (W.heap.size + 1) (some ⟨w7.heap.size + 1, 0, none⟩) 256 zeros := by
      rw [← fill_zero 256, fill_zeros] at hzb ⊢
      rw [World.size_alloc] at hzb
      exact blk_bytes hzb (by have := HG7.out.size; rw [World.size_alloc] at this; omega) zeros_lt
    have HG8 := Lib.hid (HG7.out.trans hg8); have HU8 := Lib.hid (HU7.out.grown hg8 (by simp)); have HY8 := Lib.hid (bytes_keepN HY7.out hg8); have HZ := Lib.hid hzl
    clear hS hg7 hg7' hzb hg8 hzl
    generalize hzz : Array.replicate 256 (Value.int .u8 0) = zs at *
    clear hzz
    go_wp2_with fail
    refine (codec_get_page (W.heap.size + 1) _ _ 256 256 zeros other _ (HRb.out.keep HG8.out (by simp)) HZ.out).mono ?_
    rw [pageR_zero]
    rintro e w9 hS
    obtain ⟨hg9, v9, rfl, hlie9⟩ := hS.some_
    obtain ⟨A9, c9, rfl, _⟩ := hlie9
    rw [show ([] : List Nat).length = 0 from rfl]
    have hg9' := hg9.trans (World.grownBy_alloc w9 (.cells #[.int .i64 0, .slice A9 0 c9] 47) none)
    have HG9 := Lib.hid (HG8.out.trans hg9'); have HY9 := Lib.hid (bytes_keepN HY8.out hg9')
    have hu := HU8.out.grown hg9' (by simp)
    have u0 := hu.cell 0; have u1 := hu.cell 1
    have hbx := HBOXb.out.grown HG9.out (by simp)
    have b1 := hbx.cell 1; have b2 := hbx.cell 2
    simp only [List.getElem?_toArray, List.getElem?_cons_zero, List.getElem?_cons_succ] at u0 u1 b1 b2
    clear hS hg9 hg9' hu hbx
    go_wp2_with fail
    refine (pages_any _ _ kind kind A5 A _ n c5 c l l _ HY9.out (bytes_keepN HLb.out HG9.out) (by rw [HLb.out.1]; exact HN.out) HN.out).mono ?_
    rintro e w10 ⟨rfl, hg10⟩
    rw [show (decide (kind = kind) && decide (l = l)) = true from by simp]
    have HG10 := Lib.hid (HG9.out.trans hg10)
    have hbx := HBOXb.out.grown HG10.out (by simp)
    have b0 := hbx.cell 0
    simp only [List.getElem?_toArray, List.getElem?_cons_zero] at b0
    have hdd := HD.out
    clear hg10 hbx u0 u1 b1 b2
    go_wp2_with fail
    go_ret
    exact ⟨by simp, below_of_grown (HGb.out.trans HG10.out) (Nat.le_refl _) (fun _ h => by cases h)⟩
  | none =>
    rintro e w1 hG
    obtain ⟨hg1, rfl⟩ := hG.none_
    have HW := Lib.hid hW; have HG1 := Lib.hid hg1
    have hbx := HBOXb.out.grown hg1 (by simp)
    have b0 := hbx.cell 0; have b1 := hbx.cell 1; have b2 := hbx.cell 2
    simp only [List.getElem?_toArray, List.getElem?_cons_zero, List.getElem?_cons_succ] at b0 b1 b2
    clear hG hg1 hW hbx
    go_wp2_with fail
    refine (ref_put_page _ number kind A n c l _ (bytes_keepN HLb.out HG1.out)).mono ?_
    clear b0 b1 b2
    rw [HW.out]
    rintro e w2 hG
    obtain ⟨hg2, rfl⟩ := hG.none_
    have HG2 := Lib.hid (HG1.out.trans hg2)
    have hbx := HBOXb.out.grown HG2.out (by simp)
    have b0 := hbx.cell 0; have b1 := hbx.cell 1; have b2 := hbx.cell 2
    simp only [List.getElem?_toArray, List.getElem?_cons_zero, List.getElem?_cons_succ] at b0 b1 b2
    clear hG hg2 hbx
    go_wp2_with fail
    refine (codec_put_page_nil number kind A n c _).mono ?_
    clear b0 b1 b2
    rintro e w3 hG
    obtain ⟨hg3, rfl⟩ := hG.none_
    have HG3 := Lib.hid (HG2.out.trans hg3)
    clear hG hg3
    go_wp2_with fail
    refine (same_any 0 0 none none 0 0 0 0 [] [] _ (Bytes.none_ _ _ _) (Bytes.none_ _ _ _) (by omega) (by omega)).mono ?_
    rintro e w4 ⟨rfl, hdr⟩
    rw [show decide (([] : List Nat) = []) = true from by simp]
    have hg4 := drawn_grown hdr none
    have HG4 := Lib.hid (HG3.out.trans hg4)
    have hbx := HBOXb.out.grown HG4.out (by simp)
    have b0 := hbx.cell 0
    simp only [List.getElem?_toArray, List.getElem?_cons_zero] at b0
    clear hdr hg4 hbx
    go_wp2_with fail
    refine (codec_get_page (W.heap.size + 1) 0 none 0 0 [] number _ (HRb.out.keep HG4.out (by simp)) (Bytes.none_ _ _ _)).mono ?_
    clear b0
    rw [pageR_none [] number (by simp)]
    rintro e w5 hS
    obtain ⟨hg5, rfl⟩ := hS.none_
    have HG5 := Lib.hid (HG4.out.trans (hg5.trans (World.grownBy_alloc w5 (.cells #[.int .i64 0, .slice none 0 0] 47) none)))
    clear hS hg5
    go_wp2_with fail
    refine (codec_get_page (W.heap.size + 1) 0 none 0 0 [] other _ (HRb.out.keep HG5.out (by simp)) (Bytes.none_ _ _ _)).mono ?_
    rw [pageR_none [] other (by simp)]
    rintro e w6 hS
    obtain ⟨hg6, rfl⟩ := hS.none_
    have HG6 := Lib.hid (HG5.out.trans (hg6.trans (World.grownBy_alloc w6 (.cells #[.int .i64 0, .slice none 0 0] 47) none)))
    have hbx := HBOXb.out.grown HG6.out (by simp)
    have b0 := hbx.cell 0
    simp only [List.getElem?_toArray, List.getElem?_cons_zero] at b0
    clear hS hg6 hbx
    go_wp2_with fail
    refine (codec_get_page_nil none 0 0 number _).mono ?_
    clear b0
    rintro e w7 hS
    obtain ⟨hg7, rfl⟩ := hS.none_
    have hg7' := hg7.trans (World.grownBy_alloc w7 (.cells #[.int .i64 0, .slice none 0 0] 47) none)
    have HG7 := Lib.hid (HG6.out.trans hg7')
    have hzb := Blk.new (w7.alloc (.cells #[.int .i64 0, .slice none 0 0] 47)) 5 (Array.replicate 256 (.int .u8 0))
    have hg8 := World.grownBy_alloc (w7.alloc (.cells #[.int .i64 0, .slice none 0 0] 47)) (.cells (Array.replicate 256 (.int .u8 0)) 5) none
    have hzl : Bytes ((w7.alloc (.cells #[.int .i64 0, .slice none 0 0] 47)).alloc (.cells (Array.replicate 256 (.int .u8 0)) 5)) (W.heap.size + 1) (some ⟨w7.heap.size + 1, 0, none⟩) 256 zeros := by
      rw [← fill_zero 256, fill_zeros] at hzb ⊢
      rw [World.size_alloc] at hzb
      exact blk_bytes hzb (by have := HG7.out.size; rw [World.size_alloc] at this; omega) zeros_lt
    have HG8 := Lib.hid (HG7.out.trans hg8); have HZ := Lib.hid hzl
    clear hS hg7 hg7' hzb hg8 hzl
    generalize hzz : Array.replicate 256 (Value.int .u8 0) = zs at *
    clear hzz
    go_wp2_with fail
    refine (codec_get_page (W.heap.size + 1) _ _ 256 256 zeros other _ (HRb.out.keep HG8.out (by simp)) HZ.out).mono ?_
    rw [pageR_zero]
    rintro e w9 hS
    obtain ⟨hg9, v9, rfl, hlie9⟩ := hS.some_
    obtain ⟨A9, c9, rfl, _⟩ := hlie9
    rw [show ([] : List Nat).length = 0 from rfl]
    have HG9 := Lib.hid (HG8.out.trans (hg9.trans (World.grownBy_alloc w9 (.cells #[.int .i64 0, .slice A9 0 c9] 47) none)))
    clear hS hg9
    go_wp2_with fail
    go_ret
    exact ⟨rfl, below_of_grown (HGb.out.trans HG9.out) (Nat.le_refl _) (fun _ h => by cases h)⟩
end Go.Proofs.Ytkiohneggoiipaa.CodecPage
