/- The laws' test whether two nodes are the same, and the walk over the law CodecNode, by the contracts of what they call. -/
import Derived.Test.YtkiohneggoiipaaCodecSuperWalk
import Derived.Test.YtkiohneggoiipaaCodecPageWalk
import Derived.Test.YtkiohneggoiipaaCodecNodeGet
import Derived.Test.YtkiohneggoiipaaOpen2
import Derived.Test.YtkiohneggoiipaaLawBits
namespace Go.Proofs.Ytkiohneggoiipaa.Codec
open Go.RowKit CrcMath CodecMath Mem Crc

set_option maxRecDepth 100000 in
set_option maxHeartbeats 800000 in
theorem nodes_same (b b' b2 b2' : Nat) (lf : Bool) (A A' A2 A2' : Option Addr) (n n' m m' c c' d d' : Nat) (ks vs : List Int) (w : World) (hk : Ints w b A n ks) (hk' : Ints w b' A' n' ks) (hv : Ints w b2 A2 m vs) (hv' : Ints w b2' A2' m' vs)
    (hn : n ≤ maxLen) (hn' : n' ≤ maxLen) (hm : m ≤ maxLen) (hm' : m' ≤ maxLen) :
    Calls Try.prog 34 #[.agg #[.bool lf, .slice A n c, .slice A2 m d], .agg #[.bool lf, .slice A' n' c', .slice A2' m' d']] w fun e w' => e = .returned (.bool true) ∧ w.grownBy w' none := by
  have hg := (World.grownBy_alloc w (.cells #[.bool lf, .slice A n c, .slice A2 m d] 62) none).trans (World.grownBy_alloc _ (.cells #[.bool lf, .slice A' n' c', .slice A2' m' d'] 62) none)
  have hx1 := (Blk.new w 62 #[.bool lf, .slice A n c, .slice A2 m d]).alloc (.cells #[.bool lf, .slice A' n' c', .slice A2' m' d'] 62)
  have hx2 := Blk.new (w.alloc (.cells #[.bool lf, .slice A n c, .slice A2 m d] 62)) 62 #[.bool lf, .slice A' n' c', .slice A2' m' d']
  rw [World.size_alloc] at hx2
  have HG := Lib.hid hg; have HK := Lib.hid (ints_keep hk hg (.inl rfl)); have HK' := Lib.hid (ints_keep hk' hg (.inl rfl)); have HV := Lib.hid (ints_keep hv hg (.inl rfl)); have HV' := Lib.hid (ints_keep hv' hg (.inl rfl))
  have HX1 := Lib.hid hx1; have HX2 := Lib.hid hx2
  simp only [maxLen] at hn hn' hm hm'
  clear hg hk hk' hv hv' hx1 hx2
  go_enter Try.func34, Try.ntmps34
  go_wp2_with fail
  refine (ints_any b b' A A' n n' c c' ks ks _ HK.out HK'.out (by omega) (by omega)).mono ?_
  rintro e w1 ⟨rfl, hdr⟩
  rw [show decide (ks = ks) = true from by simp]
  have hd := drawn_grown hdr none
  have HG1 := Lib.hid (HG.out.trans hd); have HV1 := Lib.hid (ints_keep HV.out hd (.inl rfl)); have HV1' := Lib.hid (ints_keep HV'.out hd (.inl rfl))
  have h1 := HX1.out.grown hd (by simp); have h2 := HX2.out.grown hd (by simp)
  have x2 := h1.cell 2; have y2 := h2.cell 2
  simp only [List.getElem?_toArray, List.getElem?_cons_zero, List.getElem?_cons_succ] at x2 y2
  clear hdr hd h1 h2
  go_wp2_with fail
  refine (ints_any b2 b2' A2 A2' m m' d d' vs vs _ HV1.out HV1'.out (by omega) (by omega)).mono ?_
  rintro e w2 ⟨rfl, hdr⟩
  rw [show decide (vs = vs) = true from by simp]
  have HG2 := Lib.hid (HG1.out.trans (drawn_grown hdr none))
  clear hdr x2 y2
  go_wp2
  go_ret
  exact ⟨rfl, HG2.out⟩
theorem ToldNode.some_ {w w' : World} {leaf : Bool} {ks vs : List Int} {e : Ending} (h : ToldNode w (some (leaf, ks, vs)) e w') :
    w.grownBy w' none ∧ ∃ v v', e = .returned (.tuple #[.agg #[.bool leaf, v, v'], .bool true]) ∧ Own w' w.heap.size 3 1 v ks.length (i64s ks) ∧ Own w' w.heap.size 3 1 v' vs.length (i64s vs) ∧
      (∀ g, v.ownBlock = some g → v'.ownBlock ≠ some g) ∧ (∀ x ∈ ks, -9223372036854775808 ≤ x ∧ x ≤ 9223372036854775807) ∧ ∀ x ∈ vs, -9223372036854775808 ≤ x ∧ x ≤ 9223372036854775807 := by
  obtain ⟨hg, ⟨lf, k, q, v, v', ho, he, rest⟩ | ⟨ho, _⟩⟩ := h
  · cases ho
    exact ⟨hg, v, v', he, rest⟩
  · cases ho
theorem ToldNode.none_ {w w' : World} {e : Ending} (h : ToldNode w none e w') : w.grownBy w' none ∧ e = .returned (.tuple #[.agg #[.bool false, .slice none 0 0, .slice none 0 0], .bool false]) := by
  obtain ⟨hg, ⟨lf, k, q, v, v', ho, _⟩ | ⟨_, he⟩⟩ := h
  · cases ho
  · exact ⟨hg, he⟩
end Go.Proofs.Ytkiohneggoiipaa.Codec
namespace Go.Proofs.Ytkiohneggoiipaa.CodecNode
open Go.ChangeShapes Go.WideShapes Go.ChangeAt Go.RowKit
open Crc CrcMath Mem CodecMath Codec
set_option maxRecDepth 100000 in
set_option maxHeartbeats 3200000 in
theorem walk {H : Type} {enc : TypeId × Value → H} (W : World) (base : Nat) (v0 : Value) (d0 : DataW H) (p0 : List MemPlace)
    (o0 : Value.okWide Try.prog W .any base 62 v0)
    (h0 : DataW.Trod enc Try.prog W 0 (fun _ => true) true 62 v0 d0 p0)
    (_hsz : (DataW.weightsEach Try.prog [62] [d0]).all (· ≤ reachBytes) = true) :
    Calls Try.prog 7 #[v0] W fun e W' => e = .returned (.bool true) ∧ Below W.heap.size W W' := by
  obtain ⟨leaf, A, A', n, n', c, c', ks, vs, rfl, hk, hv, hn, hn'⟩ := open_node o0 h0
  clear o0 h0
  have hbox := (Blk.new W 62 #[.bool leaf, .slice A n c, .slice A' n' c']).alloc (.cells zeroCs 104)
  have hT : Tab ((W.alloc (.cells #[.bool leaf, .slice A n c, .slice A' n' c'] 62)).alloc (.cells zeroCs 104)) (W.heap.size + 1) := .inl ⟨_, by simpa using Blk.new (W.alloc (.cells #[.bool leaf, .slice A n c, .slice A' n' c'] 62)) 104 zeroCs, fresh_zero⟩
  have hg0 : W.grownBy ((W.alloc (.cells #[.bool leaf, .slice A n c, .slice A' n' c'] 62)).alloc (.cells zeroCs 104)) none := (World.grownBy_alloc W _ none).trans (World.grownBy_alloc _ _ none)
  have HBOX := Lib.hid hbox; have HT := Lib.hid hT; have HG0 := Lib.hid hg0; have HK := Lib.hid hk; have HV := Lib.hid hv; have HN := Lib.hid hn; have HN' := Lib.hid hn'
  clear hbox hT hg0 hk hv hn hn'
  go_enter Try.func7, Try.ntmps7
  go_wp2_with fail
  refine (new_any _).mono ?_
  rintro e wa ⟨rfl, rfl⟩
  go_wp2_with fail
  refine (known_any (W.heap.size + 1) _ HT.out (by simp)).mono ?_
  rintro e wb ⟨rfl, hgb, _⟩
  have HBOXb := Lib.hid (HBOX.out.grown hgb (by simp))
  have HGb := Lib.hid (grownBy_new HG0.out hgb (fun j hj => by cases hj; omega))
  clear hgb HT HBOX HG0
  have b0 := HBOXb.out.cell 0; have b1 := HBOXb.out.cell 1; have b2 := HBOXb.out.cell 2
  simp only [List.getElem?_toArray, List.getElem?_cons_zero, List.getElem?_cons_succ] at b0 b1 b2
  go_wp2_with fail
  refine (codec_put_node _ leaf A A' n n' c c' ks vs _ (ints_keep HK.out HGb.out (.inl rfl)) (ints_keep HV.out HGb.out (.inl rfl))).mono ?_
  clear b0 b1 b2
  cases hW : nodeW leaf ks vs with
  | some L =>
    rintro e w1 hG
    obtain ⟨hg1, g1, rfl, _, hb1, hlt1⟩ := hG.some_
    have hL := nodeW_len hW
    have HW := Lib.hid hW; have HLE := Lib.hid hL
    have hby := blk_bytes (b := w1.heap.size) hb1 (by have := hb1.lt; omega) hlt1
    rw [hL] at hby
    have HB1 := Lib.hid hby; have HG1 := Lib.hid (HGb.out.trans hg1)
    have hbx := HBOXb.out.grown hg1 (by simp)
    have HX1 := Lib.hid hbx
    have b0 := hbx.cell 0; have b1 := hbx.cell 1; have b2 := hbx.cell 2
    simp only [List.getElem?_toArray, List.getElem?_cons_zero, List.getElem?_cons_succ] at b0 b1 b2
    clear hG hg1 hW hL hby hb1 hbx
    rw [HLE.out]
    go_wp2_with fail
    refine (ref_put_node _ leaf A A' n n' c c' ks vs _ (ints_keep HK.out HG1.out (.inl rfl)) (ints_keep HV.out HG1.out (.inl rfl))).mono ?_
    clear b0 b1 b2
    rw [HW.out]
    rintro e w2 hG
    obtain ⟨hg2, v2, rfl, hown2, hlt2⟩ := hG.some_
    obtain ⟨A2, c2, rfl, hb2, _, _⟩ := own_bytes hown2 hlt2
    rw [HLE.out] at hb2 ⊢
    have HB2 := Lib.hid hb2; have HG2 := Lib.hid (HG1.out.trans hg2); have HA2 := Lib.hid (bytes_keepN HB1.out hg2); have HX2 := Lib.hid (HX1.out.grown hg2 (by simp))
    clear hG hg2 hown2 hb2
    go_wp2_with fail
    refine (same_any _ _ _ A2 240 240 240 c2 L L _ HA2.out HB2.out (by omega) (by omega)).mono ?_
    rintro e w3 ⟨rfl, hdr⟩
    rw [show decide (L = L) = true from by simp]
    have hg3 := drawn_grown hdr none
    have HG3 := Lib.hid (HG2.out.trans hg3); have HA3 := Lib.hid (bytes_keepN HA2.out hg3); have HX3 := Lib.hid (HX2.out.grown hg3 (by simp))
    clear hdr hg3
    go_wp2_with fail
    refine (codec_get_node _ _ 240 240 L _ HA3.out).mono ?_
    rw [nodeR_of HW.out]
    rintro e w4 hS
    obtain ⟨hg4, v, v', rfl, ho1, ho2, _, hr1, hr2⟩ := hS.some_
    obtain ⟨A3, c3, rfl, hi1, hc3, hm3⟩ := own_ints ho1 hr1
    obtain ⟨A4, c4, rfl, hi2, hc4, hm4⟩ := own_ints ho2 hr2
    have hg4' := hg4.trans (World.grownBy_alloc w4 (.cells #[.bool leaf, .slice A3 ks.length c3, .slice A4 vs.length c4] 62) none)
    have HG4 := Lib.hid (HG3.out.trans hg4')
    have HI1 := Lib.hid (ints_keep hi1 (World.grownBy_alloc w4 (.cells #[.bool leaf, .slice A3 ks.length c3, .slice A4 vs.length c4] 62) none) (.inl rfl)); have HI2 := Lib.hid (ints_keep hi2 (World.grownBy_alloc w4 (.cells #[.bool leaf, .slice A3 ks.length c3, .slice A4 vs.length c4] 62) none) (.inl rfl))
    have hbx := HX3.out.grown hg4' (by simp)
    have b0 := hbx.cell 0; have b1 := hbx.cell 1; have b2 := hbx.cell 2
    simp only [List.getElem?_toArray, List.getElem?_cons_zero, List.getElem?_cons_succ] at b0 b1 b2
    have lbx := hbx.lt
    clear hS hg4 hg4' ho1 ho2 hr1 hr2 hi1 hi2 hbx
    go_wp2_with fail
    refine (nodes_same _ _ _ _ leaf A3 A A4 A' _ n _ n' c3 c c4 c' ks vs _ HI1.out (ints_keep HK.out HG4.out (.inl rfl)) HI2.out (ints_keep HV.out HG4.out (.inl rfl)) (by omega) HN.out (by omega) HN'.out).mono ?_
    rintro e w5 ⟨rfl, hg5⟩
    have HG5 := Lib.hid (HG4.out.trans hg5)
    clear hg5 b0 b1 b2 lbx
    go_wp2_with fail
    go_ret
    exact ⟨rfl, below_of_grown HG5.out (Nat.le_refl _) (fun _ h => by cases h)⟩
  | none =>
    rintro e w1 hG
    obtain ⟨hg1, rfl⟩ := hG.none_
    have HW := Lib.hid hW; have HG1 := Lib.hid (HGb.out.trans hg1)
    have hbx := HBOXb.out.grown hg1 (by simp)
    have b0 := hbx.cell 0; have b1 := hbx.cell 1; have b2 := hbx.cell 2
    simp only [List.getElem?_toArray, List.getElem?_cons_zero, List.getElem?_cons_succ] at b0 b1 b2
    clear hG hg1 hW hbx
    go_wp2_with fail
    refine (ref_put_node _ leaf A A' n n' c c' ks vs _ (ints_keep HK.out HG1.out (.inl rfl)) (ints_keep HV.out HG1.out (.inl rfl))).mono ?_
    clear b0 b1 b2
    rw [HW.out]
    rintro e w2 hG
    obtain ⟨hg2, rfl⟩ := hG.none_
    have HG2 := Lib.hid (HG1.out.trans hg2)
    clear hG hg2
    go_wp2_with fail
    refine (same_any 0 0 none none 0 0 0 0 [] [] _ (Bytes.none_ _ _ _) (Bytes.none_ _ _ _) (by omega) (by omega)).mono ?_
    rintro e w3 ⟨rfl, hdr⟩
    rw [show decide (([] : List Nat) = []) = true from by simp]
    have HG3 := Lib.hid (HG2.out.trans (drawn_grown hdr none))
    clear hdr
    go_wp2_with fail
    refine (codec_get_node 0 none 0 0 [] _ (Bytes.none_ _ _ _)).mono ?_
    rw [nodeR_none [] (by simp)]
    rintro e w4 hS
    obtain ⟨hg4, rfl⟩ := hS.none_
    have HG4 := Lib.hid (HG3.out.trans (hg4.trans (World.grownBy_alloc w4 (.cells #[.bool false, .slice none 0 0, .slice none 0 0] 62) none)))
    clear hS hg4
    go_wp2_with fail
    go_ret
    exact ⟨rfl, below_of_grown HG4.out (Nat.le_refl _) (fun _ h => by cases h)⟩
end Go.Proofs.Ytkiohneggoiipaa.CodecNode
