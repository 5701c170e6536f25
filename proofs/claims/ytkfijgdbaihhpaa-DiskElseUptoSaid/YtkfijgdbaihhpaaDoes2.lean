/- A write and a read on both disks. -/
import Derived.Test.YtkfijgdbaihhpaaDoes
import Derived.Test.YtkfijgdbaihhpaaDiskBare
import Derived.Test.YtkfijgdbaihhpaaSame
namespace Go.Proofs.Ytkfijgdbaihhpaa.Dsk
open Go.RowKit Mem Crc DiskSpec

/-- Bytes that may be written over. -/
def Spare (w : World) (base : Nat) (v : Value) (n : Nat) : Prop :=
  ∃ A cap, v = .slice A n cap ∧ (0 < n → ∃ g cs, A = some ⟨g, 0, none⟩ ∧ base ≤ g ∧ Blk w g 5 cs ∧ ∀ j, j < n → ∃ x, cs[j]? = some (.int .u8 x))
section
variable {w w' w1 : World} {base n : Nat} {v : Value} {l : List Nat} {o o' : Nat → Prop}
theorem Spare.of_bare (h : Bare w base 5 1 v n (u8s l)) : Spare w base v n := by
  have hl := h.1
  rw [u8s_length] at hl
  rcases h.2 with ⟨rfl, rfl⟩ | ⟨g, cap, cur, rfl, hb, hh, hnc, _, hcs, ht⟩
  · exact ⟨_, _, rfl, fun h => absurd h (by omega)⟩
  · refine ⟨_, _, rfl, fun _ => ⟨g, cur, rfl, hb, hh, fun j hj => ⟨(l.getD j 0 : Nat), ?_⟩⟩⟩
    have h1 := u8s_at l j (by omega)
    rw [← ht, List.getElem?_take_of_lt (by omega), Array.getElem?_toList] at h1
    exact h1
theorem Spare.of_gave (h : Gave8 w base v l) : Spare w base v l.length := by
  rcases h with ⟨rfl, rfl⟩ | ⟨g, cap, rfl, hb, hh⟩
  · exact ⟨_, _, rfl, fun h => absurd h (by simp)⟩
  · exact ⟨_, _, rfl, fun _ => ⟨g, _, rfl, hb, hh, fun j hj => ⟨_, by rw [List.getElem?_toArray]; exact u8s_at l j hj⟩⟩⟩
theorem Spare.block (h : Spare w base v n) (hn : 0 < n) : ∀ g, v.ownBlock = some g → base ≤ g ∧ g < w.heap.size := by
  obtain ⟨A, cap, rfl, hc⟩ := h
  intro g hg
  obtain ⟨g', cs, rfl, hb, hh, _⟩ := hc hn
  cases hg
  exact ⟨hb, hh.lt⟩
theorem Spare.keep {row : Option Nat} (h : Spare w base v n) (hg : w.grownBy w' row) (hn : ∀ g, base ≤ g → g < w.heap.size → row ≠ some g) : Spare w' base v n := by
  obtain ⟨A, cap, rfl, hc⟩ := h
  refine ⟨A, cap, rfl, fun h0 => ?_⟩
  obtain ⟨g, cs, rfl, hb, hh, hx⟩ := hc h0
  exact ⟨g, cs, rfl, hb, hh.grown hg (fun e => hn g hb hh.lt e.symm), hx⟩
theorem Spare.turn (h : Spare w base v n) (ht : Turn w w' o o') (hn : ∀ g, base ≤ g → g < w.heap.size → ¬ o g) : Spare w' base v n := by
  obtain ⟨A, cap, rfl, hc⟩ := h
  refine ⟨A, cap, rfl, fun h0 => ?_⟩
  obtain ⟨g, cs, rfl, hb, hh, hx⟩ := hc h0
  exact ⟨g, cs, rfl, hb, (ht.block g hh.lt (hn g hb hh.lt)).trans hh, hx⟩
theorem Spare.set (h : Spare w base v n) {j : Nat} (hj : j < n) : ∃ g cap x, v = .slice (some ⟨g, 0, none⟩) n cap ∧ base ≤ g ∧ g < w.heap.size ∧ w.cell? ⟨g, j, none⟩ = some (.int .u8 x) ∧ w.frozen? ⟨g, j, none⟩ = false ∧
    ∀ y : Int, Spare (w.setCell ⟨g, j, none⟩ (.int .u8 y)) base v n := by
  obtain ⟨A, cap, rfl, hc⟩ := h
  obtain ⟨g, cs, rfl, hb, hh, hx⟩ := hc (by omega)
  obtain ⟨x, hxj⟩ := hx j hj
  refine ⟨g, cap, x, rfl, hb, hh.lt, by rw [hh.cell]; exact hxj, hh.frozen j, fun y => ⟨_, cap, rfl, fun _ => ⟨g, _, rfl, hb, hh.set_ j _, fun q hq => ?_⟩⟩⟩
  obtain ⟨x', hx'⟩ := hx q hq
  rw [Array.getElem?_setIfInBounds]
  split
  · rename_i e
    have : j < cs.size := (Array.getElem?_eq_some_iff.1 hxj).1
    rw [if_pos this]
    exact ⟨y, rfl⟩
  · exact ⟨x', hx'⟩
theorem Turn.over {own own' : Nat → Prop} {row : Option Nat} (h : Turn w w1 own own') (hg : w1.grownBy w' row) (hn : ∀ g, row = some g → w.heap.size ≤ g) : Turn w w' own own' :=
  ⟨hg.os.trans h.os, hg.tape.trans h.tape, hg.output.trans h.output, Nat.le_trans h.size hg.size,
    fun i hi ho => (hg.block i (Nat.lt_of_lt_of_le hi h.size) (fun e => by have := hn i e.symm; omega)).trans (h.block i hi ho), h.fresh⟩
theorem Two.over {B b r : Nat} {S : St} {o1 o2 : Nat → Prop} {row : Option Nat} (h : Two w B b r S o1 o2) (hg : w.grownBy w' row) (hn : ∀ g, row = some g → ¬ o1 g ∧ ¬ o2 g) : Two w' B b r S o1 o2 :=
  ⟨h.d.far (Turn.of_grown (own := fun i => row = some i) hg (fun _ e => e)) (fun i hi e => (hn i e).1 hi), h.r.far (Turn.of_grown (own := fun i => row = some i) hg (fun _ e => e)) (fun i hi e => (hn i e).2 hi), h.apart, Nat.le_trans h.low hg.size⟩
theorem Data.far {A : Option Addr} (h1 : Data w o A n l) {o2 : Nat → Prop} (h2 : Data w o2 A n l) (ht : Turn w w' o o') : Data w' o2 A n l := by
  refine ⟨h2.1, h2.2.1, fun hn => ?_⟩
  obtain ⟨g, p, rfl, hlt, hno, hc⟩ := h2.2.2 hn
  obtain ⟨g1, p1, e1, _, hno1, _⟩ := h1.2.2 hn
  cases e1
  exact ⟨g, p, rfl, Nat.lt_of_lt_of_le hlt ht.size, hno, fun j hj => cell_turn (hc j hj) hlt ht hno1⟩
theorem dataN_top (count bytes : Int) : (dataN count bytes).toNat ≤ 65536 := by
  have h1 := Int.tmod_lt_of_pos bytes (show (0 : Int) < 256 by omega)
  unfold dataN
  split <;> omega
/-- Bytes that are read in. -/
theorem bytes_of_gave (h : Gave8 w base v l) (hx : ∀ x ∈ l, x < 256) : ∃ A c, v = .slice A l.length c ∧ Bytes w w.heap.size A l.length l := by
  rcases h with ⟨rfl, rfl⟩ | ⟨g, cap, rfl, hb, hh⟩
  · exact ⟨_, _, rfl, rfl, hx, fun h => absurd h (by simp)⟩
  · refine ⟨_, _, rfl, rfl, hx, fun _ => ⟨g, 0, rfl, hh.lt, Nat.ne_of_lt hh.lt, fun j hj => ?_⟩⟩
    rw [Nat.zero_add, hh.cell, List.getElem?_toArray]; exact u8s_at l j hj
theorem bytes_of_own (h : Own w base 5 1 v l.length (u8s l)) (hx : ∀ x ∈ l, x < 256) : ∃ A c, v = .slice A l.length c ∧ Bytes w w.heap.size A l.length l := by
  obtain ⟨A, c, rfl, _, _, _⟩ := h.shape
  refine ⟨_, _, rfl, rfl, hx, fun hn => ?_⟩
  obtain ⟨g, cap, e, hb, hlt, _, _, hc⟩ := h.reads hn
  simp only [Value.slice.injEq] at e
  obtain ⟨rfl, _, _⟩ := e
  exact ⟨g, 0, rfl, hlt, Nat.ne_of_lt hlt, fun j hj => by rw [Nat.zero_add]; exact hc j _ (u8s_at l j hj)⟩
end
theorem readL_lt {S : St} (hok : S.ok) (a c : Int) : ∀ x ∈ readL S a c, x < 256 := by
  unfold readL
  split
  · intro x hx; cases hx
  · split
    · intro x hx; cases hx
    · exact reads_lt hok _ _
theorem readL_len {S : St} (hok : S.ok) (a c : Int) : (readL S a c).length ≤ 1048576 := by
  unfold readL
  split
  · simp
  · rename_i h
    split
    · simp
    · rw [reads_len hok]
      have h' : S.has a c = true := by simpa using h
      obtain ⟨a', c', rfl, rfl, h1, h2⟩ := has_split h' hok.top
      have := hok.top
      simp; omega

set_option maxRecDepth 100000 in
set_option maxHeartbeats 3200000 in
theorem does_write {w : World} {B b r : Nat} {S : St} {o1 o2 : Nat → Prop} (h : Two w B b r S o1 o2) (at_ count bytes fill : Int) (fua : Bool) (A : Option Addr) (n cc : Nat) (ha : -9223372036854775808 ≤ at_ ∧ at_ ≤ 9223372036854775807) (hroom : ∀ i, (S.ver i).length < 549755813888) :
    Calls Try.prog 12 #[.pointer (some ⟨b, 0, none⟩), .pointer (some ⟨r, 0, none⟩), .agg #[.int .i64 1, .int .i64 at_, .int .i64 count, .int .i64 bytes, .int .i64 fill, .bool fua, .slice A n cc]] w fun e w' => e = .returned (.bool true) ∧ ∃ o1' o2', Two w' B b r (writeE S fua at_ (dataL count bytes fill)).2 o1' o2' ∧ Turn w w' (both o1 o2) (both o1' o2') := by
  have hg0 := World.grownBy_alloc w (.cells #[.int .i64 1, .int .i64 at_, .int .i64 count, .int .i64 bytes, .int .i64 fill, .bool fua, .slice A n cc] 34) none
  have hb0 := Blk.new w 34 #[.int .i64 1, .int .i64 at_, .int .i64 count, .int .i64 bytes, .int .i64 fill, .bool fua, .slice A n cc]
  have h0 := h.grown hg0
  have HT0 := Lib.hid (Turn.none_ (own := both o1 o2) hg0)
  have hn1 : ¬ o1 w.heap.size := fun e => by have := h.d.lt _ e; omega
  have hn2 : ¬ o2 w.heap.size := fun e => by have := h.r.lt _ e; omega
  have hlx := hb0.lt
  have H0 := Lib.hid h0; have HB0 := Lib.hid hb0; have HN1 := Lib.hid hn1; have HN2 := Lib.hid hn2
  have q0 := hb0.cell 0
  simp only [List.getElem?_toArray, List.getElem?_cons_zero] at q0
  clear hg0 h0 hn1 hn2
  have q1 := hb0.cell 1; have q2 := hb0.cell 2; have q3 := hb0.cell 3; have q4 := hb0.cell 4; have q5 := hb0.cell 5; have q6 := hb0.cell 6
  simp only [List.getElem?_toArray, List.getElem?_cons_zero, List.getElem?_cons_succ] at q1 q2 q3 q4 q5 q6
  have HROOM := Lib.hid hroom
  have HA := Lib.hid ha
  have hlo := h.low
  clear hroom ha
  clear hb0 h
  go_enter Try.func12, Try.ntmps12
  go_wp2_with fail
  refine (data_sole 1 at_ count bytes fill fua (.slice A n cc) _).mono ?_
  rintro e w2 ⟨v1, rfl, hv1, hg1⟩
  have hb1 := HB0.out.grown hg1 (by simp)
  have H2 := H0.out.grown hg1
  have HT2 := Lib.hid (HT0.out.trans (Turn.none_ hg1))
  have hl2 := hg1.size
  have q1 := hb1.cell 1; have q2 := hb1.cell 2; have q3 := hb1.cell 3; have q4 := hb1.cell 4; have q5 := hb1.cell 5; have q6 := hb1.cell 6; have q0' := hb1.cell 0
  simp only [List.getElem?_toArray, List.getElem?_cons_zero, List.getElem?_cons_succ] at q0' q1 q2 q3 q4 q5 q6
  have HV1 := Lib.hid hv1; have HB1 := Lib.hid hb1; have HTW2 := Lib.hid H2
  clear hv1 hb1 hg1 H2
  go_wp2_with fail
  refine (data_sole 1 at_ count bytes fill fua (.slice A n cc) w2).mono ?_
  rintro e w3 ⟨v2, rfl, hv2, hg2⟩
  have hb2 := HB1.out.grown hg2 (by simp)
  have hv13 := HV1.out.keep hg2 (fun _ _ h => by cases h)
  have H3 := HTW2.out.grown hg2
  have HT3 := Lib.hid (HT2.out.trans (Turn.none_ hg2))
  have hl3 := hg2.size
  have hnl := dataN_top count bytes
  have hdlt := dataL_lt count bytes fill
  -- both rows lie outside both disks
  have ho1 : ∀ i, o1 i → i < w.heap.size := fun i hi => by
    have h1 := HN1.out
    have h2 := H0.out.d.lt i hi
    rw [World.size_alloc] at h2
    rcases Nat.lt_or_ge i w.heap.size with h3 | h3
    · exact h3
    · exact absurd (show o1 w.heap.size by rwa [show w.heap.size = i by omega]) h1
  have ho2 : ∀ i, o2 i → i < w.heap.size := fun i hi => by
    have h1 := HN2.out
    have h2 := H0.out.r.lt i hi
    rw [World.size_alloc] at h2
    rcases Nat.lt_or_ge i w.heap.size with h3 | h3
    · exact h3
    · exact absurd (show o2 w.heap.size by rwa [show w.heap.size = i by omega]) h1
  have hsz0 : (w.alloc (.cells #[.int .i64 1, .int .i64 at_, .int .i64 count, .int .i64 bytes, .int .i64 fill, .bool fua, .slice A n cc] 34)).heap.size = w.heap.size + 1 := by simp
  obtain ⟨A1, c1, rfl, hc1, _, hd1⟩ := data_of_own (own := o1) hv13.own (fun i hi => by have := ho1 i hi; omega) hdlt
  obtain ⟨A2, c2, rfl, hc2, _, hd2⟩ := data_of_own (own := o2) hv2.own (fun i hi => by have := ho2 i hi; omega) hdlt
  obtain ⟨A2', c2', e2, _, _, hd21⟩ := data_of_own (own := o1) hv2.own (fun i hi => by have := ho1 i hi; omega) hdlt
  simp only [Value.slice.injEq] at e2
  obtain ⟨rfl, _, rfl⟩ := e2
  have HSP := Lib.hid ((Spare.of_bare hv13).keep (grown_drew w3 none) (fun _ _ _ e => by cases e))
  have HD1 := Lib.hid (show Data w3.drew o1 A1 _ _ from hd1); have HD2 := Lib.hid (show Data w3.drew o2 A2 _ _ from hd2); have HD21 := Lib.hid (show Data w3.drew o1 A2 _ _ from hd21)
  have HC1 := Lib.hid hc1; have HC2 := Lib.hid hc2; have HNL := Lib.hid hnl
  have H3d := Lib.hid (H3.grown (grown_drew w3 none))
  have HT3d := Lib.hid HT3.out.drew
  have hlxw : w.heap.size < w3.heap.size := by omega
  have HLX := Lib.hid hlxw
  have HL2 := Lib.hid hl2; have HL3 := Lib.hid hl3; have HO1 := Lib.hid ho1; have HO2 := Lib.hid ho2
  have hK0 : w3.drew.cell? ⟨w.heap.size, 1, none⟩ = some (.int .i64 at_) ∧ w3.drew.cell? ⟨w.heap.size, 5, none⟩ = some (.bool fua) := ⟨by rw [hb2.drew.cell]; rfl, by rw [hb2.drew.cell]; rfl⟩
  have HK0 := Lib.hid hK0
  have hlo3 : B ≤ w3.drew.heap.size := by show B ≤ w3.heap.size; omega
  have HLO := Lib.hid hlo3
  generalize (dataN count bytes).toNat = N at *
  generalize hLL : dataL count bytes fill = L at *
  have HLL := Lib.hid hLL; clear hLL
  clear hv13 hv2 hb2 H3 hg2 hnl hdlt hc1 hc2 hd1 hd2 hd21 hK0 hlxw hlo3 q0' q1 q2 q3 q4 q5 q6 hlx q0 hlo hl2 hl3 hsz0 ho1 ho2
  go_wp2_with fail
  go_region_held3 (fun wx => wx.cell? ⟨w.heap.size, 1, none⟩ = some (.int .i64 at_) ∧ wx.cell? ⟨w.heap.size, 5, none⟩ = some (.bool fua))
    (first
      | exact HK0.out
      | exact HK1.out
      | exact HK2.out)
    (first
      | ((
         go_at_call 24
         refine (disk_write_all H3d.out.d at_ A1 N c1 L fua HA.out HD1.out HC1.out HNL.out HROOM.out HLO.out).mono ?_
         rintro e w4 ⟨rfl, o1', hd, ht⟩
         obtain ⟨hr, hap⟩ := H3d.out.step hd ht
         have HD := Lib.hid hd; have HT := Lib.hid ht; have HR := Lib.hid hr
         have HK1 := Lib.hid (show w4.cell? ⟨w.heap.size, 1, none⟩ = some (.int .i64 at_) ∧ w4.cell? ⟨w.heap.size, 5, none⟩ = some (.bool fua) from ⟨cell_turn HK0.out.1 HLX.out ht HN1.out, cell_turn HK0.out.2 HLX.out ht HN1.out⟩)
         have HD24 := Lib.hid (HD21.out.far HD2.out ht)
         clear hd ht hr hap))
      | (go_at_call 28
         refine (ref_write_all HR.out at_ A2 N c2 L fua HA.out HD24.out HC2.out HNL.out HROOM.out (Nat.le_trans HLO.out HT.out.size)).mono ?_
         rintro e w5 ⟨rfl, o2', hr, ht2⟩
         have HN := Lib.hid (H3d.out.next HD.out HT.out hr ht2)
         have HK2 := Lib.hid (show w5.cell? ⟨w.heap.size, 1, none⟩ = some (.int .i64 at_) ∧ w5.cell? ⟨w.heap.size, 5, none⟩ = some (.bool fua) from ⟨cell_turn HK1.out.1 (Nat.lt_of_lt_of_le HLX.out HT.out.size) ht2 HN2.out, cell_turn HK1.out.2 (Nat.lt_of_lt_of_le HLX.out HT.out.size) ht2 HN2.out⟩)
         have HT5 := Lib.hid ht2
         clear hr ht2))
  have hsz9 : (w.alloc (.cells #[.int .i64 1, .int .i64 at_, .int .i64 count, .int .i64 bytes, .int .i64 fill, .bool fua, .slice A n cc] 34)).heap.size = w.heap.size + 1 := by simp
  have HSP5 := Lib.hid ((HSP.out.turn (w' := w4) HT.out (fun g hg _ ho => by have := HO1.out g ho; omega)).turn HT5.out (fun g hg _ ho => by have := HO2.out g ho; omega))
  have HFR := Lib.hid (show ∀ g, (w.alloc (.cells #[.int .i64 1, .int .i64 at_, .int .i64 count, .int .i64 bytes, .int .i64 fill, .bool fua, .slice A n cc] 34)).heap.size ≤ g → g < w3.heap.size → ¬ o1' g ∧ ¬ o2' g from fun g hg hlt => ⟨HT.out.not_ hlt (fun ho => by have := HO1.out g ho; omega), HT5.out.not_ (Nat.lt_of_lt_of_le hlt HT.out.size) (fun ho => by have := HO2.out g ho; omega)⟩)
  have HIN := Lib.hid (show 0 < N → ∀ g, (Value.slice A1 N c1).ownBlock = some g → (w.alloc (.cells #[.int .i64 1, .int .i64 at_, .int .i64 count, .int .i64 bytes, .int .i64 fill, .bool fua, .slice A n cc] 34)).heap.size ≤ g ∧ g < w3.heap.size from fun h0 => HSP.out.block h0)
  clear hsz9
  go_wp2_with fail
  go_loopw [16] (fun i wr => ∃ j : Nat, j ≤ N ∧ i = .int .i64 j ∧ Spare wr (w.alloc (.cells #[.int .i64 1, .int .i64 at_, .int .i64 count, .int .i64 bytes, .int .i64 fill, .bool fua, .slice A n cc] 34)).heap.size (.slice A1 N c1) N ∧ (wr = w5 ∨ 0 < N) ∧ w5.grownBy wr (Value.slice A1 N c1).ownBlock) (fun i _ => N - (Go.RowKit.intOf i).toNat)
  case atStart => exact ⟨0, Nat.zero_le _, rfl, HSP5.out, .inl rfl, World.grownBy.refl _ _⟩
  case round =>
    obtain ⟨j, hj, rfl, hs, hz, hg⟩ := hrel
    have HS := Lib.hid hs; have HG := Lib.hid hg; have HZ := Lib.hid hz; clear hs hg hz
    by_cases hlt : j < N
    · obtain ⟨g, cap, x, hv, hgb, hgl, hcx, hfx, hset⟩ := HS.out.set hlt
      have HSET := Lib.hid (hset 99)
      clear hset hgb hgl
      simp only [Value.slice.injEq] at hv
      obtain ⟨rfl, _, rfl⟩ := hv
      have HG9 := Lib.hid (Lib.grownBy_setB (show w5.grownBy wr (some g) from HG.out) j (.int .u8 99))
      have hjn : (j : Int) < (N : Int) := by omega
      have hnn := HNL.out
      go_wp2_with fail
      go_roundw
      case rel => exact ⟨j + 1, by omega, by go_num, HSET.out, .inr (by omega), HG9.out⟩
      case measure => simp [Go.RowKit.intOf]; omega
    · obtain rfl : j = N := by omega
      have HFIN := Lib.hid (show Two wr B b r (writeE S fua at_ L).2 o1' o2' ∧ Turn w wr (both o1 o2) (both o1' o2') by
        rcases HZ.out with e | h0
        · subst e; exact ⟨HN.out.1, HT3d.out.trans HN.out.2⟩
        · have hin := HIN.out h0
          exact ⟨HN.out.1.over HG.out (fun g e => HFR.out g (hin g e).1 (hin g e).2), (HT3d.out.trans HN.out.2).over HG.out (fun g e => by have := (hin g e).1; simp at this; omega)⟩)
      go_wp2
      go_ret
      obtain rfl := HLL.out
      exact ⟨rfl, _, _, HFIN.out.1, HFIN.out.2⟩
end Go.Proofs.Ytkfijgdbaihhpaa.Dsk
