/- The walk over the law CodecOwn, by the contracts of what it calls. -/
import Derived.Test.YtkiohneggoiipaaCodecSuperWalk
import Derived.Test.YtkiohneggoiipaaCodecNodeOwn
import Derived.Test.YtkiohneggoiipaaCodecPagePut
import Derived.Test.YtkiohneggoiipaaRefNode
import Derived.Test.YtkiohneggoiipaaOpen2
namespace Go.Proofs.Ytkiohneggoiipaa.Codec
open Go.RowKit CrcMath CodecMath Mem Crc

/-- The n cells of block g from off on are whole numbers of kind k, and may be written. -/
def Wr (k : IntKind) (w : World) (g off n : Nat) : Prop := 0 < n → ∃ t cs, Blk w g t cs ∧ ∀ j, j < n → ∃ u : Int, cs[off + j]? = some (.int k u)
section
variable {k : IntKind} {w w' : World} {g off n : Nat}
theorem Wr.at_ (h : Wr k w g off n) {j : Nat} (hj : j < n) : ∃ u : Int, w.cell? ⟨g, off + j, none⟩ = some (.int k u) ∧ w.frozen? ⟨g, off + j, none⟩ = false := by
  obtain ⟨t, cs, hb, hc⟩ := h (by omega)
  obtain ⟨u, hu⟩ := hc j hj
  exact ⟨u, by rw [hb.cell, hu], hb.frozen _⟩
theorem Wr.grown {row : Option Nat} (h : Wr k w g off n) (hg : w.grownBy w' row) (hne : 0 < n → some g ≠ row) : Wr k w' g off n := fun h0 => by
  obtain ⟨t, cs, hb, hc⟩ := h h0
  exact ⟨t, cs, hb.grown hg (hne h0), hc⟩
theorem Wr.far (h : Wr k w g off n) {p : Addr} (hp : 0 < n → g ≠ p.block) (u : Value) : Wr k (w.setCell p u) g off n := fun h0 => by
  obtain ⟨t, cs, hb, hc⟩ := h h0
  exact ⟨t, cs, hb.far (hp h0) u, hc⟩
theorem Wr.set_ (h : Wr k w g off n) (g' i : Nat) (x : Int) : Wr k (w.setCell ⟨g', i, none⟩ (.int k x)) g off n := fun h0 => by
  obtain ⟨t, cs, hb, hc⟩ := h h0
  by_cases e : g = g'
  · subst e
    refine ⟨t, _, hb.set_ i _, fun j hj => ?_⟩
    obtain ⟨u, hu⟩ := hc j hj
    rw [Array.getElem?_setIfInBounds]
    split
    · split
      · exact ⟨x, rfl⟩
      · rename_i h1 h2
        rw [Array.getElem?_eq_none (by omega)] at hu
        cases hu
    · exact ⟨u, hu⟩
  · exact ⟨t, cs, hb.far e _, hc⟩
theorem Wr.drew (h : Wr k w g off n) : Wr k w.drew g off n := h
theorem Wr.alloc (h : Wr k w g off n) (o : Obj) : Wr k (w.alloc o) g off n := h.grown (World.grownBy_alloc w o none) (fun _ => by simp)
end
theorem pageR_len {l : List Nat} {number k : Int} {body : List Nat} (h : pageR l number = some (k, body)) : body.length ≤ 240 := by
  unfold pageR at h
  split at h
  · simp only [Option.some.injEq, Prod.mk.injEq] at h
    rw [← h.2]; simp
  · split at h
    · simp only [Option.some.injEq, Prod.mk.injEq] at h
      rw [← h.2, bodyOf, List.length_take]
      omega
    · cases h
theorem nodeR_len {l : List Nat} {lf : Bool} {ks vs : List Int} (h : nodeR l = some (lf, ks, vs)) : ks.length = vs.length ∧ ks.length ≤ 8 := by
  unfold nodeR at h
  split at h
  · simp only [Option.some.injEq, Prod.mk.injEq] at h
    rw [← h.2.1, ← h.2.2, numsAt_length, numsAt_length]
    omega
  · cases h
theorem SaidPage.flat {w w' : World} {l : List Nat} {number : Int} {e : Ending} (h : SaidPage w (pageR l number) e w') :
    w.grownBy w' none ∧ ∃ (kind : Int) (n c : Nat) (A : Option Addr) (g off : Nat) (ok : Bool), e = .returned (.tuple #[.agg #[.int .i64 kind, .slice A n c], .bool ok]) ∧ n ≤ 240 ∧ (0 < n → A = some ⟨g, off, none⟩ ∧ w.heap.size ≤ g ∧ g < w'.heap.size) ∧ Wr .u8 w' g off n := by
  obtain ⟨hg, ⟨kind, body, v, ho, rfl, A, c, rfl, _, _, hx⟩ | ⟨_, rfl⟩⟩ := h
  · have hlen := pageR_len ho
    by_cases h0 : 0 < body.length
    · obtain ⟨g, off, t, L, rfl, hb, hbk, hoff, _⟩ := hx h0
      exact ⟨hg, kind, _, c, _, g, off, true, rfl, hlen, fun _ => ⟨rfl, hb, hbk.lt⟩, fun _ => ⟨t, _, hbk, fun j hj => ⟨_, by rw [List.getElem?_toArray, u8s_at _ _ (by omega)]⟩⟩⟩
    · exact ⟨hg, kind, _, c, A, 0, 0, true, rfl, hlen, fun h => absurd h h0, fun h => absurd h h0⟩
  · exact ⟨hg, 0, 0, 0, none, 0, 0, false, rfl, by omega, fun h => by omega, fun h => by omega⟩
theorem Sole.wr {w : World} {base n : Nat} {v : Value} {xs : List Int} (h : Sole w base 3 1 v n (i64s xs)) :
    ∃ A c g, v = .slice A n c ∧ (0 < n → A = some ⟨g, 0, none⟩ ∧ base ≤ g ∧ g < w.heap.size) ∧ Wr .i64 w g 0 n := by
  obtain ⟨hlen, ⟨rfl, rfl⟩ | ⟨g, cap, cur, rfl, hb, hh, _, _, hcs, ht⟩⟩ := h
  · exact ⟨none, 0, 0, rfl, fun h => by omega, fun h => by omega⟩
  · refine ⟨_, cap, g, rfl, fun _ => ⟨rfl, hb, (Array.getElem?_eq_some_iff.1 hh).1⟩, fun _ => ⟨_, cur, hh, fun j hj => ?_⟩⟩
    rw [Nat.mul_one] at ht hlen
    have h1 : (cur.toList.take n)[j]? = cur[j]? := by rw [List.getElem?_take_of_lt hj]; simp
    rw [ht] at h1
    rw [i64s_length] at hlen
    refine ⟨xs.getD j 0, ?_⟩
    rw [Nat.zero_add, ← h1]
    simp [i64s, List.getD_eq_getElem?_getD, show j < xs.length from by omega]
theorem SoleNode.flat {w w' : World} {l : List Nat} {e : Ending} (h : SoleNode w (nodeR l) e w') :
    w.grownBy w' none ∧ ∃ (lf : Bool) (n c c' : Nat) (A A' : Option Addr) (g g' : Nat) (ok : Bool), e = .returned (.tuple #[.agg #[.bool lf, .slice A n c, .slice A' n c'], .bool ok]) ∧ n ≤ 8 ∧
      (0 < n → A = some ⟨g, 0, none⟩ ∧ w.heap.size ≤ g ∧ g < w'.heap.size) ∧ (0 < n → A' = some ⟨g', 0, none⟩ ∧ w.heap.size ≤ g' ∧ g' < w'.heap.size) ∧ Wr .i64 w' g 0 n ∧ Wr .i64 w' g' 0 n ∧ (0 < n → g ≠ g') := by
  obtain ⟨hg, ⟨lf, ks, vs, v, v', ho, rfl, hk, hv, hap, _⟩ | ⟨_, rfl⟩⟩ := h
  · obtain ⟨h1, h2⟩ := nodeR_len ho
    obtain ⟨A, c, g, rfl, ha, hw⟩ := hk.wr
    obtain ⟨A', c', g', rfl, ha', hw'⟩ := hv.wr
    rw [← h1] at ha' hw' ⊢
    exact ⟨hg, lf, _, c, c', A, A', g, g', true, rfl, h2, ha, ha', hw, hw', fun h0 e => hap g (by rw [(ha h0).1]; rfl) (by rw [(ha' h0).1, e]; rfl)⟩
  · exact ⟨hg, false, 0, 0, 0, none, none, 0, 0, false, rfl, by omega, fun h => by omega, fun h => by omega, fun h => by omega, fun h => by omega, fun h => by omega⟩
/-- The error that goes with what was written, or not. -/
def errOf (o : Option (List Nat)) : Int := if o.isSome then 0 else 1
theorem Gave.flat {w : World} {t : TypeId} {o : Option (List Nat)} {e : Ending} {w' : World} {L : List Nat} {E : Int} (h : Gave w t o e w') (hL : o.getD [] = L) (hE : errOf o = E) (b : Nat) (hb : b < w.heap.size) :
    w.grownBy w' none ∧ ∃ (A : Option Addr) (n g : Nat), e = .returned (.tuple #[.slice A n n, .int .i64 E]) ∧ n = L.length ∧ Bytes w' b A n L ∧ (0 < n → A = some ⟨g, 0, none⟩ ∧ w.heap.size ≤ g ∧ g < w'.heap.size) ∧ Wr .u8 w' g 0 n := by
  obtain ⟨hg, ⟨l, g, rfl, rfl, hge, hbk, hlt⟩ | ⟨rfl, rfl⟩⟩ := h
  · subst hL hE
    refine ⟨hg, _, _, g, rfl, rfl, blk_bytes hbk (by omega) hlt, fun _ => ⟨rfl, hge, hbk.lt⟩, fun _ => ⟨t, _, hbk, fun j hj => ⟨_, by rw [Nat.zero_add, List.getElem?_toArray, u8s_at _ _ hj]⟩⟩⟩
  · subst hL hE
    exact ⟨hg, none, 0, 0, rfl, rfl, Bytes.none_ _ _ _, fun h => by omega, fun h => by omega⟩
theorem Wrote.flat {w : World} {o : Option (List Nat)} {e : Ending} {w' : World} {L : List Nat} {E : Int} (h : Wrote w o e w') (hL : o.getD [] = L) (hE : errOf o = E) :
    w.grownBy w' none ∧ ∃ (A : Option Addr) (n c : Nat), e = .returned (.tuple #[.slice A n c, .int .i64 E]) ∧ n = L.length ∧ ∀ b, b < w.heap.size → Bytes w' b A n L := by
  obtain ⟨hg, ⟨l, v, rfl, rfl, hown, hlt⟩ | ⟨rfl, rfl⟩⟩ := h
  · subst hL hE
    obtain ⟨A, c, rfl, _, _, _⟩ := own_bytes hown hlt
    refine ⟨hg, A, _, c, rfl, rfl, fun b hb => ?_⟩
    obtain ⟨A', c', he, hby, _, _⟩ := own_bytes_b hown hlt hb
    simp only [Value.slice.injEq, true_and] at he
    obtain ⟨rfl, rfl⟩ := he
    exact hby
  · subst hL hE
    exact ⟨hg, none, 0, 0, rfl, rfl, fun b _ => Bytes.none_ _ _ _⟩
theorem page_short (number kind : Int) (body : List Nat) : ((pageW number kind body).getD []).length ≤ 256 := by
  cases h : pageW number kind body with
  | none => simp
  | some l => have := pageW_len h; simp; omega
theorem node_short (leaf : Bool) (ks vs : List Int) : ((nodeW leaf ks vs).getD []).length ≤ 240 := by
  cases h : nodeW leaf ks vs with
  | none => simp
  | some l => have := nodeW_len h; simp; omega
end Go.Proofs.Ytkiohneggoiipaa.Codec
namespace Go.Proofs.Ytkiohneggoiipaa.CodecOwn
open Go.ChangeShapes Go.WideShapes Go.ChangeAt Go.RowKit
open Crc CrcMath Mem CodecMath Codec
set_option maxRecDepth 100000 in
set_option maxHeartbeats 3200000 in
theorem walk {H : Type} {enc : TypeId × Value → H} (W : World) (base : Nat) (v0 v1 : Value) (d0 d1 : DataW H) (p0 p1 : List MemPlace)
    (o0 : Value.okWide Try.prog W .any base 49 v0) (o1 : Value.okWide Try.prog W .any base 62 v1)
    (h0 : DataW.Trod enc Try.prog W 0 (fun _ => true) true 49 v0 d0 p0) (h1 : DataW.Trod enc Try.prog W 0 (fun _ => true) true 62 v1 d1 p1)
    (_hsz : (DataW.weightsEach Try.prog [49, 62] [d0, d1]).all (· ≤ reachBytes) = true) :
    Calls Try.prog 12 #[v0, v1] W fun e W' => e = .returned (.bool true) ∧ Below W.heap.size W W' := by
  obtain ⟨number, kind, AB, nB, cB, body, rfl, hl, _, _, _, _⟩ := open_image o0 h0
  obtain ⟨leaf, KA, VA, kn, vn, kc, vc, ks, vs, rfl, hk, hv, _, _⟩ := open_node o1 h1
  clear o0 h0 o1 h1
  have hb0 := ((Blk.new W 49 #[.int .i64 number, .int .i64 kind, .slice AB nB cB]).alloc (.cells #[.bool leaf, .slice KA kn kc, .slice VA vn vc] 62)).alloc (.cells zeroCs 104)
  have hb1 := (Blk.new (W.alloc (.cells #[.int .i64 number, .int .i64 kind, .slice AB nB cB] 49)) 62 #[.bool leaf, .slice KA kn kc, .slice VA vn vc]).alloc (.cells zeroCs 104)
  have hb2 := Blk.new ((W.alloc (.cells #[.int .i64 number, .int .i64 kind, .slice AB nB cB] 49)).alloc (.cells #[.bool leaf, .slice KA kn kc, .slice VA vn vc] 62)) 104 zeroCs
  simp only [World.size_alloc] at hb1 hb2
  have hg0 := ((World.grownBy_alloc W (.cells #[.int .i64 number, .int .i64 kind, .slice AB nB cB] 49) none).trans (World.grownBy_alloc _ (.cells #[.bool leaf, .slice KA kn kc, .slice VA vn vc] 62) none)).trans (World.grownBy_alloc _ (.cells zeroCs 104) none)
  have HT := Lib.hid (.inl ⟨_, hb2, fresh_zero⟩ : Tab _ (W.heap.size + 1 + 1))
  have HX0 := Lib.hid hb0; have HX1 := Lib.hid hb1; have HG0 := Lib.hid hg0; have HL := Lib.hid hl; have HK := Lib.hid hk; have HV := Lib.hid hv
  obtain ⟨LP, hLP⟩ : ∃ L, (pageW number kind body).getD [] = L := ⟨_, rfl⟩
  obtain ⟨EP, hEP⟩ : ∃ E, errOf (pageW number kind body) = E := ⟨_, rfl⟩
  obtain ⟨LN, hLN⟩ : ∃ L, (nodeW leaf ks vs).getD [] = L := ⟨_, rfl⟩
  obtain ⟨EN, hEN⟩ : ∃ E, errOf (nodeW leaf ks vs) = E := ⟨_, rfl⟩
  have HPS := Lib.hid (hLP ▸ page_short number kind body : LP.length ≤ 256); have HNS := Lib.hid (hLN ▸ node_short leaf ks vs : LN.length ≤ 240)
  have HLP := Lib.hid hLP; have HEP := Lib.hid hEP; have HLN := Lib.hid hLN; have HEN := Lib.hid hEN
  clear hg0 hb0 hb1 hb2 hl hk hv hLP hEP hLN hEN
  go_enter Try.func12, Try.ntmps12
  go_wp2_with fail
  refine (new_any _).mono ?_
  rintro e wa ⟨rfl, rfl⟩
  go_wp2_with fail
  refine (known_any (W.heap.size + 1 + 1) _ HT.out (by simp)).mono ?_
  rintro e wb ⟨rfl, hgb, hrb⟩
  have HY0 := Lib.hid (HX0.out.grown hgb (by first | (simp; done) | (simp <;> omega))); have HY1 := Lib.hid (HX1.out.grown hgb (by first | (simp; done) | (simp <;> omega)))
  have HRb := Lib.hid hrb
  have HGb := Lib.hid (grownBy_new HG0.out hgb (fun j hj => by cases hj; omega))
  have htl : W.heap.size + 1 + 1 < wb.heap.size := by obtain ⟨_, h, _⟩ := hrb; exact h.lt
  have HTL := Lib.hid htl
  clear hgb hrb HT HX0 HX1 HG0 htl
  have x0 := HY0.out.cell 0; have x1 := HY0.out.cell 1; have x2 := HY0.out.cell 2
  simp only [List.getElem?_toArray, List.getElem?_cons_zero, List.getElem?_cons_succ] at x0 x1 x2
  go_wp2_with fail
  refine (codec_put_page (W.heap.size + 1 + 1) _ number kind AB nB cB body _ HRb.out (bytes_keepN HL.out HGb.out)).mono ?_
  clear x0 x1 x2
  rintro e w1 hG
  obtain ⟨hg1, Aa, na, ga, rfl, hna, hba, hga, hwa⟩ := hG.flat HLP.out HEP.out (W.heap.size + 1 + 1) HTL.out
  have HG1 := Lib.hid hg1; have HBa := Lib.hid hba; have HNa := Lib.hid hna; have HGa := Lib.hid hga; have HWa := Lib.hid hwa
  clear hG hg1 hba hna hga hwa
  have x0 := (HY1.out.grown HG1.out (by simp)).cell 0; have x1 := (HY1.out.grown HG1.out (by simp)).cell 1; have x2 := (HY1.out.grown HG1.out (by simp)).cell 2
  simp only [List.getElem?_toArray, List.getElem?_cons_zero, List.getElem?_cons_succ] at x0 x1 x2
  go_wp2_with fail
  refine (codec_put_node _ leaf KA VA kn vn kc vc ks vs _ (ints_keep HK.out (HGb.out.trans HG1.out) (.inl rfl)) (ints_keep HV.out (HGb.out.trans HG1.out) (.inl rfl))).mono ?_
  clear x0 x1 x2
  rintro e w2 hG
  obtain ⟨hg2, Ab, nb, gb, rfl, hnb, hbb, _, _⟩ := hG.flat HLN.out HEN.out (W.heap.size + 1 + 1) (by have := HTL.out; have := HG1.out.size; omega)
  have HG2 := Lib.hid (HG1.out.trans hg2); have HBa2 := Lib.hid (bytes_keepN HBa.out hg2); have HBb := Lib.hid hbb; have HNb := Lib.hid hnb
  have HWa2 := Lib.hid (HWa.out.grown hg2 (fun _ => by simp)); have HGa2 := Lib.hid (fun h0 => ⟨(HGa.out h0).1, (HGa.out h0).2.1, Nat.lt_of_lt_of_le (HGa.out h0).2.2 hg2.size⟩ : 0 < na → Aa = some ⟨ga, 0, none⟩ ∧ wb.heap.size ≤ ga ∧ ga < w2.heap.size)
  clear hG hg2 hbb hnb HG1 HBa HWa HGa
  have x0 := (HY0.out.grown HG2.out (by simp)).cell 0; have x1 := (HY0.out.grown HG2.out (by simp)).cell 1; have x2 := (HY0.out.grown HG2.out (by simp)).cell 2
  simp only [List.getElem?_toArray, List.getElem?_cons_zero, List.getElem?_cons_succ] at x0 x1 x2
  go_wp2_with fail
  refine (ref_put_page _ number kind AB nB cB body _ (bytes_keepN HL.out (HGb.out.trans HG2.out))).mono ?_
  clear x0 x1 x2
  rintro e w3 hG
  obtain ⟨hg3, Ac, nc, cc, rfl, hnc, hbc⟩ := hG.flat HLP.out HEP.out
  have HG3 := Lib.hid (HG2.out.trans hg3); have HBa3 := Lib.hid (bytes_keepN HBa2.out hg3); have HBb3 := Lib.hid (bytes_keepN HBb.out hg3); have HNc := Lib.hid hnc
  have HBc := Lib.hid (hbc (W.heap.size + 1 + 1) (by have := HTL.out; have := HG2.out.size; omega)); have HBcg := Lib.hid (fun h0 => hbc ga (HGa2.out h0).2.2 : 0 < na → Bytes w3 ga Ac nc LP)
  have HWa3 := Lib.hid (HWa2.out.grown hg3 (fun _ => by simp))
  clear hG hg3 hnc hbc HG2 HBa2 HBb HWa2
  have x0 := (HY1.out.grown HG3.out (by simp)).cell 0; have x1 := (HY1.out.grown HG3.out (by simp)).cell 1; have x2 := (HY1.out.grown HG3.out (by simp)).cell 2
  simp only [List.getElem?_toArray, List.getElem?_cons_zero, List.getElem?_cons_succ] at x0 x1 x2
  go_wp2_with fail
  refine (ref_put_node _ leaf KA VA kn vn kc vc ks vs _ (ints_keep HK.out (HGb.out.trans HG3.out) (.inl rfl)) (ints_keep HV.out (HGb.out.trans HG3.out) (.inl rfl))).mono ?_
  clear x0 x1 x2
  rintro e w4 hG
  obtain ⟨hg4, Ad, nd, cd, rfl, hnd, hbd⟩ := hG.flat HLN.out HEN.out
  have HG4 := Lib.hid (HG3.out.trans hg4); have HBa4 := Lib.hid (bytes_keepN HBa3.out hg4); have HBb4 := Lib.hid (bytes_keepN HBb3.out hg4); have HBc4 := Lib.hid (bytes_keepN HBc.out hg4); have HND := Lib.hid hnd
  have HBcg4 := Lib.hid (fun h0 => bytes_keepN (HBcg.out h0) hg4 : 0 < na → Bytes w4 ga Ac nc LP)
  have HBd := Lib.hid (hbd (W.heap.size + 1 + 1) (by have := HTL.out; have := HG3.out.size; omega))
  have HWa4 := Lib.hid (HWa3.out.grown hg4 (fun _ => by simp))
  clear hG hg4 hnd hbd HG3 HBa3 HBb3 HBc HBcg HWa3
  go_wp2_with fail
  go_loopw [14, 15, 16, 17, 18, 19, 20] (fun i _ _ _ _ _ _ wr => ∃ r : Nat, r ≤ 2 ∧ i = .int .i64 r ∧ w4.grownBy wr none) (fun i _ _ _ _ _ _ _ => 2 - (intOf i).toNat)
  case atStart => exact ⟨0, by omega, rfl, World.grownBy.refl w4 none⟩
  case round =>
    obtain ⟨r, hr, rfl, hg⟩ := hrel
    have HGr := Lib.hid hg; clear hg
    by_cases hlt : r < 2
    · have x0 := (HY0.out.grown (HG4.out.trans HGr.out) (by simp)).cell 0
      simp only [List.getElem?_toArray, List.getElem?_cons_zero] at x0
      go_wp2_with fail
      refine (codec_get_page (W.heap.size + 1 + 1) _ Aa na na LP number _ (HRb.out.keep (HG4.out.trans HGr.out) (by simp)) (bytes_keepN HBa4.out HGr.out)).mono ?_
      clear x0
      rintro e w6 hS
      obtain ⟨hg6, k6, n6, c6, A6, g6, f6, ok6, rfl, hn6, ha6, hw6⟩ := hS.flat
      have HG6 := Lib.hid (HGr.out.trans hg6); have HN6 := Lib.hid hn6; have HW6 := Lib.hid hw6
      have HA6 := Lib.hid (fun h0 => ⟨(ha6 h0).1, by have := (ha6 h0).2.1; have := HGr.out.size; omega, (ha6 h0).2.2⟩ : 0 < n6 → A6 = some ⟨g6, f6, none⟩ ∧ w4.heap.size ≤ g6 ∧ g6 < w6.heap.size)
      clear hS hg6 ha6 hw6
      go_wp2_with fail
      refine (codec_get_node_own _ Ab nb nb LN _ (bytes_keepN HBb4.out (HG6.out.trans (World.grownBy_alloc w6 _ none)))).mono ?_
      rintro e w7 hS
      obtain ⟨hg7, lf, n7, c7, c7', A7, A7', g7, g7', ok7, rfl, hn7, ha7, ha7', hw7, hw7', hap7⟩ := hS.flat
      have hP7 := ((Blk.new w6 47 #[.int .i64 k6, .slice A6 n6 c6]).grown hg7 (by simp)).alloc (.cells #[.bool lf, .slice A7 n7 c7, .slice A7' n7 c7'] 62)
      have hQ7 := Blk.new w7 62 #[.bool lf, .slice A7 n7 c7, .slice A7' n7 c7']
      have hgt := ((World.grownBy_alloc w6 (.cells #[.int .i64 k6, .slice A6 n6 c6] 47) none).trans hg7).trans (World.grownBy_alloc w7 (.cells #[.bool lf, .slice A7 n7 c7, .slice A7' n7 c7'] 62) none)
      have hsz7 := hg7.size
      rw [World.size_alloc] at hsz7
      have HP7 := Lib.hid hP7; have HQ7 := Lib.hid hQ7; have HG7 := Lib.hid (HG6.out.trans hgt); have HU7 := Lib.hid (HW6.out.grown hgt (fun _ => by simp)); have HK7 := Lib.hid (hw7.alloc (.cells #[.bool lf, .slice A7 n7 c7, .slice A7' n7 c7'] 62)); have HV7 := Lib.hid (hw7'.alloc (.cells #[.bool lf, .slice A7 n7 c7, .slice A7' n7 c7'] 62))
      have hz4 := HG6.out.size
      have HA7 := Lib.hid (fun h0 => ⟨(ha7 h0).1, by have := (ha7 h0).2.1; rw [World.size_alloc] at this; omega, by have := (ha7 h0).2.1; rw [World.size_alloc] at this; omega, by have := (ha7 h0).2.2; omega⟩ : 0 < n7 → A7 = some ⟨g7, 0, none⟩ ∧ w4.heap.size ≤ g7 ∧ w6.heap.size < g7 ∧ g7 < w7.heap.size)
      have HA7' := Lib.hid (fun h0 => ⟨(ha7' h0).1, by have := (ha7' h0).2.1; rw [World.size_alloc] at this; omega, by have := (ha7' h0).2.1; rw [World.size_alloc] at this; omega, by have := (ha7' h0).2.2; omega⟩ : 0 < n7 → A7' = some ⟨g7', 0, none⟩ ∧ w4.heap.size ≤ g7' ∧ w6.heap.size < g7' ∧ g7' < w7.heap.size)
      have HPQ := Lib.hid (show w6.heap.size < w7.heap.size by omega)
      have HN7 := Lib.hid hn7; have HAP7 := Lib.hid hap7; have HPS6 := Lib.hid hz4
      have y1 := hP7.cell 1
      simp only [List.getElem?_toArray, List.getElem?_cons_zero, List.getElem?_cons_succ] at y1
      clear hS hg7 ha7 ha7' hw7 hw7' hap7 hP7 hQ7 hgt hsz7 hz4 hn6 hn7
      go_wp2_with fail
      clear y1
      go_loopw [19] (fun i wq => ∃ j : Nat, j ≤ n6 ∧ i = .int .i64 j ∧ w4.grownBy wq none ∧ Blk wq w6.heap.size 47 #[.int .i64 k6, .slice A6 n6 c6] ∧ Blk wq w7.heap.size 62 #[.bool lf, .slice A7 n7 c7, .slice A7' n7 c7'] ∧ Wr .u8 wq g6 f6 n6 ∧ Wr .i64 wq g7 0 n7 ∧ Wr .i64 wq g7' 0 n7) (fun i _ => n6 - (intOf i).toNat)
      case atStart => exact ⟨0, by omega, rfl, HG7.out, HP7.out, HQ7.out, HU7.out, HK7.out, HV7.out⟩
      case round =>
        obtain ⟨j, hj, rfl, hg, hp, hq, hu, hk, hv⟩ := hrel
        have HGq := Lib.hid hg; have HPq := Lib.hid hp; have HQq := Lib.hid hq; have HUq := Lib.hid hu; have HKq := Lib.hid hk; have HVq := Lib.hid hv
        have y1 := hp.cell 1
        simp only [List.getElem?_toArray, List.getElem?_cons_zero, List.getElem?_cons_succ] at y1
        clear hg hp hq hu hk hv
        have hn6 := HN6.out
        by_cases hlt2 : j < n6
        · obtain ⟨rfl, h4g, hgp⟩ := HA6.out (by omega)
          obtain ⟨x, hc, hf⟩ := HUq.out.at_ hlt2
          have hpq := HPQ.out
          have hne7 : 0 < n7 → g7 ≠ g6 := fun h0 => by have := (HA7.out h0).2.2.1; omega
          have hne7' : 0 < n7 → g7' ≠ g6 := fun h0 => by have := (HA7'.out h0).2.2.1; omega
          have HNE7 := Lib.hid hne7; have HNE7' := Lib.hid hne7'
          clear hne7 hne7'
          go_wp2_with fail
          go_region
          go_wp2_with fail
          go_roundw
          case rel =>
            refine ⟨j + 1, by omega, by go_num, grown_set (HGq.out.trans (grown_drew _ none)) h4g _, (HPq.out.drew).far (by simp; omega) _, (HQq.out.drew).far (by simp; omega) _, (HUq.out.drew).set_ _ _ _, (HKq.out.drew).far HNE7.out _, (HVq.out.drew).far HNE7'.out _⟩
          case measure => simp [intOf]; omega
        · obtain rfl : j = n6 := by omega
          have z1 := HQq.out.cell 1
          simp only [List.getElem?_toArray, List.getElem?_cons_zero, List.getElem?_cons_succ] at z1
          go_wp2_with fail
          clear z1 y1
          go_loopw [20] (fun i wq => ∃ q : Nat, q ≤ n7 ∧ i = .int .i64 q ∧ w4.grownBy wq none ∧ Blk wq w7.heap.size 62 #[.bool lf, .slice A7 n7 c7, .slice A7' n7 c7'] ∧ Wr .i64 wq g7 0 n7 ∧ Wr .i64 wq g7' 0 n7) (fun i _ => n7 - (intOf i).toNat)
          case atStart => exact ⟨0, by omega, rfl, HGq.out, HQq.out, HKq.out, HVq.out⟩
          case round =>
            obtain ⟨q, hq7, rfl, hg, hq, hk, hv⟩ := hrel
            have HGz := Lib.hid hg; have HQz := Lib.hid hq; have HKz := Lib.hid hk; have HVz := Lib.hid hv
            have z1 := hq.cell 1; have z2 := hq.cell 2
            simp only [List.getElem?_toArray, List.getElem?_cons_zero, List.getElem?_cons_succ] at z1 z2
            clear hg hq hk hv
            have hn7 := HN7.out
            by_cases hlt3 : q < n7
            · obtain ⟨rfl, h4g, hgp, hgq⟩ := HA7.out (by omega)
              obtain ⟨rfl, h4g', hgp', hgq'⟩ := HA7'.out (by omega)
              have hap := HAP7.out (by omega)
              obtain ⟨x, hc, hf⟩ := HKz.out.at_ hlt3
              obtain ⟨x', hc', hf'⟩ := HVz.out.at_ hlt3
              rw [Nat.zero_add] at hc hf hc' hf'
              have hne := Nat.ne_of_lt hgq
              have hne' := Nat.ne_of_lt hgq'
              go_wp2_with fail
              go_roundw
              case rel =>
                refine ⟨q + 1, by omega, by go_num, grown_set (grown_set HGz.out h4g _) h4g' _, (HQz.out.far (by simp; omega) _).far (by simp; omega) _, (HKz.out.set_ _ _ _).set_ _ _ _, (HVz.out.set_ _ _ _).set_ _ _ _⟩
              case measure => simp [intOf]; omega
            · obtain rfl : q = n7 := by omega
              go_wp2_with fail
              go_roundw
              case rel => exact ⟨r + 1, by omega, by go_num, HGz.out⟩
              case measure => simp [intOf]; omega
    · obtain rfl : r = 2 := by omega
      go_wp2_with fail
      refine (same_any _ _ Aa Ac na nc na cc LP LP _ (bytes_keepN HBa4.out HGr.out) (bytes_keepN HBc4.out HGr.out) (by have := HNa.out; have := HPS.out; omega) (by have := HNc.out; have := HPS.out; omega)).mono ?_
      rintro e w8 ⟨rfl, hdr⟩
      rw [show decide (LP = LP) = true from by simp]
      have HG8 := Lib.hid (HGr.out.trans (drawn_grown hdr none)); clear hdr
      go_wp2_with fail
      refine (same_any _ _ Ab Ad nb nd nb cd LN LN _ (bytes_keepN HBb4.out HG8.out) (bytes_keepN HBd.out HG8.out) (by have := HNb.out; have := HNS.out; omega) (by have := HND.out; have := HNS.out; omega)).mono ?_
      rintro e w9 ⟨rfl, hdr⟩
      rw [show decide (LN = LN) = true from by simp]
      have HG9 := Lib.hid (HG8.out.trans (drawn_grown hdr none)); clear hdr
      go_wp2_with fail
      go_loopw [22] (fun i wz => ∃ j : Nat, j ≤ na ∧ i = .int .i64 j ∧ wb.grownBy wz none ∧ w9.grownBy wz (some ga) ∧ Wr .u8 wz ga 0 na) (fun i _ => na - (intOf i).toNat)
      case atStart => exact ⟨0, by omega, rfl, HG4.out.trans HG9.out, World.grownBy.refl w9 _, HWa4.out.grown HG9.out (fun _ => by simp)⟩
      case round =>
        obtain ⟨j, hj, rfl, hg, hg', hu⟩ := hrel
        have HGz := Lib.hid hg; have HGz' := Lib.hid hg'; have HUz := Lib.hid hu
        clear hg hg' hu
        have hns9 := Lib.hid (show na ≤ 256 by have := HNa.out; have := HPS.out; omega)
        by_cases hlt4 : j < na
        · have hna9 := hns9.out
          obtain ⟨rfl, hbg, _⟩ := HGa2.out (by omega)
          obtain ⟨x, hc, hf⟩ := HUz.out.at_ hlt4
          rw [Nat.zero_add] at hc hf
          go_wp2_with fail
          go_roundw
          case rel => exact ⟨j + 1, by omega, by go_num, grown_set HGz.out hbg _, only_set HGz'.out _ _, HUz.out.set_ _ _ _⟩
          case measure => simp [intOf]; omega
        · obtain rfl : j = na := by omega
          have hbc : ∃ b, Bytes wr b Ac nc LP := by
            by_cases h0 : 0 < j
            · exact ⟨ga, (bytes_keepN (HBcg4.out h0) HG9.out).keep HGz'.out⟩
            · obtain rfl : nc = 0 := by have := HNa.out; have := HNc.out; omega
              obtain rfl : LP = [] := List.eq_nil_of_length_eq_zero (by have := HNc.out; omega)
              exact ⟨0, Bytes.none_ _ _ _⟩
          obtain ⟨bc, hbc⟩ := hbc
          have HBcz := Lib.hid hbc; clear hbc
          have hy := HY0.out.grown HGz.out (by simp)
          have x0 := hy.cell 0; have x1 := hy.cell 1; have x2 := hy.cell 2
          simp only [List.getElem?_toArray, List.getElem?_cons_zero, List.getElem?_cons_succ] at x0 x1 x2
          clear hy
          go_wp2_with fail
          refine (codec_put_page (W.heap.size + 1 + 1) _ number kind AB nB cB body _ (HRb.out.keep HGz.out (by simp)) (bytes_keepN HL.out (HGb.out.trans HGz.out))).mono ?_
          clear x0 x1 x2
          rintro e w10 hG
          obtain ⟨hg10, Ae, ne, ge, rfl, hne, hbe, _, _⟩ := hG.flat HLP.out HEP.out (W.heap.size + 1 + 1) (by have := HTL.out; have := HGz.out.size; omega)
          have HNe := Lib.hid hne; clear hne
          have HG10 := Lib.hid (HGz.out.trans hg10); have HBe := Lib.hid hbe; have HBc10 := Lib.hid (bytes_keepN HBcz.out hg10)
          clear hG hg10 hbe
          go_wp2_with fail
          refine (same_any _ _ Ae Ac ne nc ne cc LP LP _ HBe.out HBc10.out (by have := HNe.out; have := HPS.out; omega) (by have := HNc.out; have := HPS.out; omega)).mono ?_
          rintro e w11 ⟨rfl, hdr⟩
          rw [show decide (LP = LP) = true from by simp]
          have HG11 := Lib.hid (HG10.out.trans (drawn_grown hdr none)); clear hdr
          go_wp2_with fail
          go_ret
          exact ⟨rfl, below_of_grown (HGb.out.trans HG11.out) (Nat.le_refl _) (fun _ h => by cases h)⟩
end Go.Proofs.Ytkiohneggoiipaa.CodecOwn
