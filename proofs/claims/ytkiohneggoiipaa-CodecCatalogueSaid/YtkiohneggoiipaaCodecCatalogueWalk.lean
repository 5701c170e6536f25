/- The walk over the law CodecCatalogue, by the contracts of what it calls. -/
import Derived.Test.YtkiohneggoiipaaCodecSuperWalk
import Derived.Test.YtkiohneggoiipaaCodecCatGet
import Derived.Test.YtkiohneggoiipaaRefCat
import Derived.Test.YtkiohneggoiipaaCatalogues
import Derived.Test.YtkiohneggoiipaaOpen3
namespace Go.Proofs.Ytkiohneggoiipaa.Codec
open Go.RowKit CrcMath CodecMath Mem Crc
theorem Wrote.someC {w w' : World} {l : List Nat} {e : Ending} (h : Wrote w (some l) e w') : w.grownBy w' none ∧ ∃ v, e = .returned (.tuple #[v, .int .i64 0]) ∧ Own w' w.heap.size 5 1 v l.length (u8s l) ∧ ∀ x ∈ l, x < 256 := by
  obtain ⟨hg, ⟨l', v, ho, he, rest⟩ | ⟨ho, _⟩⟩ := h
  · cases ho
    exact ⟨hg, v, he, rest⟩
  · cases ho
theorem Wrote.noneC {w w' : World} {e : Ending} (h : Wrote w none e w') : w.grownBy w' none ∧ e = .returned (.tuple #[.slice none 0 0, .int .i64 1]) := by
  obtain ⟨hg, ⟨l', v, ho, _⟩ | ⟨_, he⟩⟩ := h
  · cases ho
  · exact ⟨hg, he⟩
theorem SaidCat.some_ {w w' : World} {next : Int} {stack vs : List Int} {e : Ending} (h : SaidCat w (some (next, stack, vs)) e w') :
    w.grownBy w' none ∧ ∃ v v', e = .returned (.tuple #[.agg #[.int .i64 next, v, v'], .bool true]) ∧ Own w' w.heap.size 129 6 v 8 (i64s vs) ∧ Own w' w.heap.size 3 1 v' stack.length (i64s stack) ∧
      (∀ x ∈ vs, -9223372036854775808 ≤ x ∧ x ≤ 9223372036854775807) ∧ ∀ x ∈ stack, -9223372036854775808 ≤ x ∧ x ≤ 9223372036854775807 := by
  obtain ⟨hg, ⟨n', s', v', v, u, ho, he, rest⟩ | ⟨ho, _⟩⟩ := h
  · cases ho
    exact ⟨hg, v, u, he, rest⟩
  · cases ho
theorem SaidCat.none_ {w w' : World} {e : Ending} (h : SaidCat w none e w') : w.grownBy w' none ∧ e = .returned (.tuple #[.agg #[.int .i64 0, .slice none 0 0, .slice none 0 0], .bool false]) := by
  obtain ⟨hg, ⟨_, _, _, _, _, ho, _⟩ | ⟨_, he⟩⟩ := h
  · cases ho
  · exact ⟨hg, he⟩
end Go.Proofs.Ytkiohneggoiipaa.Codec
namespace Go.Proofs.Ytkiohneggoiipaa.CodecCatalogue
open Go.ChangeShapes Go.WideShapes Go.ChangeAt Go.RowKit
open Crc CrcMath Mem CodecMath Codec
set_option maxRecDepth 100000 in
set_option maxHeartbeats 3200000 in
theorem walk {H : Type} {enc : TypeId × Value → H} (W : World) (base : Nat) (v0 : Value) (d0 : DataW H) (p0 : List MemPlace)
    (o0 : Value.okWide Try.prog W .any base 75 v0)
    (h0 : DataW.Trod enc Try.prog W 0 (fun _ => true) true 75 v0 d0 p0)
    (_hsz : (DataW.weightsEach Try.prog [75] [d0]).all (· ≤ reachBytes) = true) :
    Calls Try.prog 9 #[v0] W fun e W' => e = .returned (.bool true) ∧ Below W.heap.size W W' := by
  obtain ⟨next, AV, AS, nv, cv, ns, cs, stack, vs, rfl, hs, hv, hns, hnv⟩ := open_catalogue o0 h0
  clear o0 h0
  have hbox := (Blk.new W 75 #[.int .i64 next, .slice AV nv cv, .slice AS ns cs]).alloc (.cells zeroCs 104)
  have hT : Tab ((W.alloc (.cells #[.int .i64 next, .slice AV nv cv, .slice AS ns cs] 75)).alloc (.cells zeroCs 104)) (W.heap.size + 1) := .inl ⟨_, by simpa using Blk.new (W.alloc (.cells #[.int .i64 next, .slice AV nv cv, .slice AS ns cs] 75)) 104 zeroCs, fresh_zero⟩
  have hg0 : W.grownBy ((W.alloc (.cells #[.int .i64 next, .slice AV nv cv, .slice AS ns cs] 75)).alloc (.cells zeroCs 104)) none := (World.grownBy_alloc W _ none).trans (World.grownBy_alloc _ _ none)
  have HN8 := Lib.hid (show ns ≤ 9223372036854775807 by simp only [maxLen] at hns; omega)
  have HBOX := Lib.hid hbox; have HT := Lib.hid hT; have HG0 := Lib.hid hg0; have HS := Lib.hid hs; have HV := Lib.hid hv; have HNS := Lib.hid hns; have HNV := Lib.hid hnv
  have HSL := Lib.hid hs.1; have HVL := Lib.hid hv.1
  clear hbox hT hg0 hs hv hns hnv
  go_enter Try.func9, Try.ntmps9
  go_wp2_with fail
  refine (new_any _).mono ?_
  rintro e wa ⟨rfl, rfl⟩
  go_wp2_with fail
  refine (known_any (W.heap.size + 1) _ HT.out (by simp)).mono ?_
  rintro e wb ⟨rfl, hgb, hrb⟩
  have HBOXb := Lib.hid (HBOX.out.grown hgb (by simp))
  have HGb := Lib.hid (grownBy_new HG0.out hgb (fun j hj => by cases hj; omega))
  have htl : W.heap.size + 1 < wb.heap.size := by obtain ⟨_, h, _⟩ := hrb; exact h.lt
  clear hgb hrb HT HBOX HG0
  have b0 := HBOXb.out.cell 0; have b1 := HBOXb.out.cell 1; have b2 := HBOXb.out.cell 2
  simp only [List.getElem?_toArray, List.getElem?_cons_zero, List.getElem?_cons_succ] at b0 b1 b2
  go_wp2_with fail
  refine (codec_put_catalogue W.heap.size next AV AS nv cv ns cs stack vs _ (ints_keep HS.out HGb.out (.inl rfl)) (ints_keep HV.out HGb.out (.inl rfl)) HN8.out).mono ?_
  clear b0 b1 b2
  cases hW : catW next stack vs with
  | some L =>
    rintro e w1 hG
    obtain ⟨hg1, g1, rfl, hge1, hb1, hlt1⟩ := hG.some_
    have hL := catW_len hW
    obtain ⟨_, hs8, hv48, _⟩ := catOk_iff (catW_some hW).2
    obtain rfl : nv = 8 := by have := HVL.out; omega
    have HW := Lib.hid hW; have HLE := Lib.hid hL
    have hby := blk_bytes (b := W.heap.size + 1) hb1 (by omega) hlt1
    rw [hL] at hby
    have HB1 := Lib.hid hby; have HG1 := Lib.hid hg1
    have hbx := HBOXb.out.grown hg1 (by simp)
    have b0 := hbx.cell 0; have b1 := hbx.cell 1; have b2 := hbx.cell 2
    simp only [List.getElem?_toArray, List.getElem?_cons_zero, List.getElem?_cons_succ] at b0 b1 b2
    clear hG hg1 hW hL hby hb1 hbx hs8 hv48
    rw [HLE.out]
    go_wp2_with fail
    refine (ref_put_catalogue W.heap.size next AV AS 8 cv ns cs stack vs _ (ints_keep HS.out (HGb.out.trans HG1.out) (.inl rfl)) (ints_keep HV.out (HGb.out.trans HG1.out) (.inl rfl)) HN8.out).mono ?_
    clear b0 b1 b2
    rw [HW.out]
    rintro e w2 hG
    obtain ⟨hg2, v2, rfl, hown2, hlt2⟩ := Wrote.someC hG
    obtain ⟨A2, c2, rfl, hb2, _, _⟩ := own_bytes_b (b := W.heap.size + 1) hown2 hlt2 (by have := HG1.out.size; omega)
    rw [HLE.out] at hb2 ⊢
    have HB2 := Lib.hid hb2; have HG2 := Lib.hid (HG1.out.trans hg2); have HA2 := Lib.hid (bytes_keepN HB1.out hg2)
    clear hG hg2 hown2 hb2
    go_wp2_with fail
    refine (same_any _ _ _ A2 240 240 240 c2 L L _ HA2.out HB2.out (by omega) (by omega)).mono ?_
    rintro e w4 ⟨rfl, hdr⟩
    rw [show decide (L = L) = true from by simp]
    have hg4 := drawn_grown hdr none
    have HG4 := Lib.hid (HG2.out.trans hg4); have HA4 := Lib.hid (bytes_keepN HA2.out hg4)
    clear hdr hg4
    go_wp2_with fail
    refine (codec_get_catalogue _ _ 240 240 L _ HA4.out).mono ?_
    rw [catR_of HW.out]
    rintro e w5 hS
    obtain ⟨hg5, v5, v5', rfl, ho5, ho5', hr5, hr5'⟩ := hS.some_
    obtain ⟨A5, c5, rfl, hi5, _, _⟩ := own_vols ho5 hr5
    obtain ⟨A5', c5', rfl, hi5', _, _⟩ := own_ints ho5' hr5'
    rw [HSL.out] at hi5' ⊢
    have hga := World.grownBy_alloc w5 (.cells #[.int .i64 next, .slice A5 8 c5, .slice A5' ns c5'] 75) none
    have hg5' := hg5.trans hga
    have HG5 := Lib.hid (HG4.out.trans hg5'); have HI5 := Lib.hid (ints_keep hi5 hga (.inl rfl)); have HI5' := Lib.hid (ints_keep hi5' hga (.inl rfl))
    have hu := Blk.new w5 75 #[.int .i64 next, .slice A5 8 c5, .slice A5' ns c5']
    have u0 := hu.cell 0; have u1 := hu.cell 1; have u2 := hu.cell 2
    have hbx := HBOXb.out.grown HG5.out (by simp)
    have b0 := hbx.cell 0; have b1 := hbx.cell 1; have b2 := hbx.cell 2
    simp only [List.getElem?_toArray, List.getElem?_cons_zero, List.getElem?_cons_succ] at u0 u1 u2 b0 b1 b2
    clear hS hg5 hg5' hga ho5 hr5 hi5 ho5' hr5' hi5' hu hbx
    go_wp2_with fail
    refine (catalogues_any _ _ next next A5 A5' AV AS 8 c5 ns c5' 8 cv ns cs stack vs stack vs _ HI5'.out HI5.out (ints_keep HS.out (HGb.out.trans HG5.out) (.inl rfl)) (ints_keep HV.out (HGb.out.trans HG5.out) (.inl rfl)) HNS.out HNS.out HNV.out HNV.out).mono ?_
    rintro e w7 ⟨rfl, hg7⟩
    rw [show (decide (next = next) && decide (stack = stack) && decide (vs = vs)) = true from by simp]
    have HG7 := Lib.hid (HG5.out.trans hg7)
    clear hg7 u0 u1 u2 b0 b1 b2
    go_wp2_with fail
    go_ret
    exact ⟨rfl, below_of_grown (HGb.out.trans HG7.out) (Nat.le_refl _) (fun _ h => by cases h)⟩
  | none =>
    rintro e w1 hG
    obtain ⟨hg1, rfl⟩ := hG.none_
    have HW := Lib.hid hW; have HG1 := Lib.hid hg1
    have hbx := HBOXb.out.grown hg1 (by simp)
    have b0 := hbx.cell 0; have b1 := hbx.cell 1; have b2 := hbx.cell 2
    simp only [List.getElem?_toArray, List.getElem?_cons_zero, List.getElem?_cons_succ] at b0 b1 b2
    clear hG hg1 hW hbx
    go_wp2_with fail
    refine (ref_put_catalogue W.heap.size next AV AS nv cv ns cs stack vs _ (ints_keep HS.out (HGb.out.trans HG1.out) (.inl rfl)) (ints_keep HV.out (HGb.out.trans HG1.out) (.inl rfl)) HN8.out).mono ?_
    clear b0 b1 b2
    rw [HW.out]
    rintro e w2 hG
    obtain ⟨hg2, rfl⟩ := Wrote.noneC hG
    have HG2 := Lib.hid (HG1.out.trans hg2)
    clear hG hg2
    go_wp2_with fail
    refine (same_any 0 0 none none 0 0 0 0 [] [] _ (Bytes.none_ _ _ _) (Bytes.none_ _ _ _) (by omega) (by omega)).mono ?_
    rintro e w4 ⟨rfl, hdr⟩
    rw [show decide (([] : List Nat) = []) = true from by simp]
    have HG4 := Lib.hid (HG2.out.trans (drawn_grown hdr none))
    clear hdr
    go_wp2_with fail
    refine (codec_get_catalogue 0 none 0 0 [] _ (Bytes.none_ _ _ _)).mono ?_
    rw [catR_none [] (by simp)]
    rintro e w5 hS
    obtain ⟨hg5, rfl⟩ := hS.none_
    have HG5 := Lib.hid (HG4.out.trans (hg5.trans (World.grownBy_alloc w5 (.cells #[.int .i64 0, .slice none 0 0, .slice none 0 0] 75) none)))
    clear hS hg5
    go_wp2_with fail
    go_ret
    exact ⟨rfl, below_of_grown (HGb.out.trans HG5.out) (Nat.le_refl _) (fun _ h => by cases h)⟩
end Go.Proofs.Ytkiohneggoiipaa.CodecCatalogue
