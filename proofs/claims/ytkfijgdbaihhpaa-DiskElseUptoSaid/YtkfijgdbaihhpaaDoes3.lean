/- A read on both disks; any step. -/
import Derived.Test.YtkfijgdbaihhpaaDoes2
namespace Go.Proofs.Ytkfijgdbaihhpaa.Dsk
open Go.RowKit Mem Crc DiskSpec

theorem Gave8.turn {w w' : World} {base : Nat} {v : Value} {l : List Nat} {o o' : Nat → Prop} (h : Gave8 w base v l) (ht : Turn w w' o o') (hn : ∀ g, base ≤ g → ¬ o g) : Gave8 w' base v l := by
  rcases h with h | ⟨g, cap, e, hb, hh⟩
  · exact .inl h
  · exact .inr ⟨g, cap, e, hb, (ht.block g hh.lt (hn g hb)).trans hh⟩
theorem Two.out1 {w : World} {B b r : Nat} {S : St} {o1 o2 : Nat → Prop} (h : Two w B b r S o1 o2) : ∀ g, w.heap.size ≤ g → ¬ o1 g ∧ ¬ o2 g :=
  fun g hg => ⟨fun e => by have := h.d.lt g e; omega, fun e => by have := h.r.lt g e; omega⟩

set_option maxRecDepth 100000 in
set_option maxHeartbeats 3200000 in
theorem does_read {w : World} {B b r : Nat} {S : St} {o1 o2 : Nat → Prop} (h : Two w B b r S o1 o2) (at_ count bytes fill : Int) (fua : Bool) (A : Option Addr) (n cc : Nat) (ha : -9223372036854775808 ≤ at_ ∧ at_ ≤ 9223372036854775807) (hc : -9223372036854775808 ≤ count ∧ count ≤ 9223372036854775807) :
    Calls Try.prog 12 #[.pointer (some ⟨b, 0, none⟩), .pointer (some ⟨r, 0, none⟩), .agg #[.int .i64 0, .int .i64 at_, .int .i64 count, .int .i64 bytes, .int .i64 fill, .bool fua, .slice A n cc]] w fun e w' => e = .returned (.bool true) ∧ ∃ o1' o2', Two w' B b r (readE S at_ count).2 o1' o2' ∧ Turn w w' (both o1 o2) (both o1' o2') := by
  have hg0 := World.grownBy_alloc w (.cells #[.int .i64 0, .int .i64 at_, .int .i64 count, .int .i64 bytes, .int .i64 fill, .bool fua, .slice A n cc] 34) none
  have hb0 := Blk.new w 34 #[.int .i64 0, .int .i64 at_, .int .i64 count, .int .i64 bytes, .int .i64 fill, .bool fua, .slice A n cc]
  have h0 := h.grown hg0
  have HT0 := Lib.hid (Turn.none_ (own := both o1 o2) hg0)
  have hn1 : ¬ o1 w.heap.size := fun e => by have := h.d.lt _ e; omega
  have hn2 : ¬ o2 w.heap.size := fun e => by have := h.r.lt _ e; omega
  have hlx := hb0.lt
  have H0 := Lib.hid h0; have HB0 := Lib.hid hb0; have HN1 := Lib.hid hn1; have HN2 := Lib.hid hn2
  have q0 := hb0.cell 0
  simp only [List.getElem?_toArray, List.getElem?_cons_zero] at q0
  clear hg0 h0 hn1 hn2
  have q1 := hb0.cell 1; have q2 := hb0.cell 2
  simp only [List.getElem?_toArray, List.getElem?_cons_zero, List.getElem?_cons_succ] at q1 q2
  have Q1 := Lib.hid q1; have Q2 := Lib.hid q2; have HLX := Lib.hid hlx
  have hok := h.d.ok
  have hlt := readL_lt hok at_ count
  have hlen := readL_len hok at_ count
  have HOUT := Lib.hid h.out1
  have hRD := disk_read_all H0.out.d at_ count ha hc
  have HRR := Lib.hid (fun wx (hr : RAt wx B r S o2) => ref_read_all hr at_ count ha hc)
  generalize hL : readL S at_ count = L at *
  generalize hE : readE S at_ count = E at *
  have HE := Lib.hid hE
  have HRD := Lib.hid hRD; have HLT := Lib.hid hlt; have HLEN := Lib.hid hlen
  clear ha hc hok hlt hlen hRD hL hE
  clear hb0 h
  go_enter Try.func12, Try.ntmps12
  go_wp2_with fail
  refine HRD.out.mono ?_
  rintro e w2 ⟨v1, rfl, hgv, hd, ht⟩
  obtain ⟨hr, hap⟩ := H0.out.step hd ht
  have HD := Lib.hid hd; have HT := Lib.hid ht; have HR := Lib.hid hr; have HGV := Lib.hid hgv
  have q12 := cell_turn Q1.out HLX.out ht HN1.out
  have q22 := cell_turn Q2.out HLX.out ht HN1.out
  clear hd ht hr hap hgv q1 q2
  go_wp2_with fail
  refine (HRR.out w2 HR.out).mono ?_
  rintro e w3 ⟨v2, rfl, hov, hr3, ht3⟩
  have hnx := H0.out.next HD.out HT.out hr3 ht3
  have hsz0 : (w.alloc (.cells #[.int .i64 0, .int .i64 at_, .int .i64 count, .int .i64 bytes, .int .i64 fill, .bool fua, .slice A n cc] 34)).heap.size = w.heap.size + 1 := by simp
  have hg3 := HGV.out.turn ht3 (fun g hg => (HOUT.out g (by omega)).2)
  have HSP := Lib.hid (Spare.of_gave hg3)
  obtain ⟨A1, c1, rfl, hb1⟩ := bytes_of_gave hg3 HLT.out
  obtain ⟨A2, c2, rfl, hb2⟩ := bytes_of_own hov HLT.out
  have hsm := same_any w3.heap.size w3.heap.size A1 A2 L.length L.length c1 c2 L L w3 hb1 hb2 (by have := HLEN.out; omega) (by have := HLEN.out; omega)
  rw [decide_eq_true (rfl : L = L)] at hsm
  have HSM := Lib.hid hsm
  have HN := Lib.hid hnx
  clear hov hr3 ht3 hnx hsz0 hg3 hb1 hb2 hsm q12 q22
  have HNL : Hid (L.length ≤ 1048576) := HLEN
  have HFR := Lib.hid HOUT.out
  have HIN := Lib.hid (fun h0 => HSP.out.block h0)
  generalize hNN : L.length = N at *
  clear hNN
  go_wp2_with fail
  refine HSM.out.mono ?_
  rintro e w4 ⟨rfl, hdr⟩
  have HG4 := Lib.hid (drawn_grown hdr none)
  have HSP4 := Lib.hid (HSP.out.keep (drawn_grown hdr none) (fun _ _ _ e => by cases e))
  clear hdr
  go_wp2_with fail
  go_loopw [12] (fun i wr => ∃ j : Nat, j ≤ N ∧ i = .int .i64 j ∧ Spare wr (w.alloc (.cells #[.int .i64 0, .int .i64 at_, .int .i64 count, .int .i64 bytes, .int .i64 fill, .bool fua, .slice A n cc] 34)).heap.size (.slice A1 N c1) N ∧ (wr = w4 ∨ 0 < N) ∧ w4.grownBy wr (Value.slice A1 N c1).ownBlock) (fun i _ => N - (Go.RowKit.intOf i).toNat)
  case atStart => exact ⟨0, Nat.zero_le _, rfl, HSP4.out, .inl rfl, World.grownBy.refl _ _⟩
  case round =>
    obtain ⟨j, hj, rfl, hs, hz, hg⟩ := hrel
    have HS := Lib.hid hs; have HG := Lib.hid hg; have HZ := Lib.hid hz; clear hs hg hz
    by_cases hlt : j < N
    · obtain ⟨g, cap, x, hv, hgb, hgl, hcx, hfx, hset⟩ := HS.out.set hlt
      have HSET := Lib.hid hset
      clear hset hgb hgl
      simp only [Value.slice.injEq] at hv
      obtain ⟨rfl, _, rfl⟩ := hv
      have HG9 := Lib.hid (fun y => Lib.grownBy_setB (show w4.grownBy wr (some g) from HG.out) j (.int .u8 y))
      have hjn : (j : Int) < (N : Int) := by omega
      have hnn := HNL.out
      go_wp2_with fail
      go_roundw
      case rel => exact ⟨j + 1, by omega, by go_num, HSET.out _, .inr (by omega), HG9.out _⟩
      case measure => simp [Go.RowKit.intOf]; omega
    · have HFIN := Lib.hid (show Two wr B b r E.2 o1 o2 ∧ Turn w wr (both o1 o2) (both o1 o2) by
        rcases HZ.out with e | h0
        · subst e; exact ⟨HN.out.1.grown HG4.out, (HT0.out.trans HN.out.2).trans (Turn.none_ HG4.out)⟩
        · have hin := HIN.out h0
          have hlow : ∀ g, (Value.slice A1 N c1).ownBlock = some g → w.heap.size ≤ g := fun g e => by have := (hin g e).1; simp at this; omega
          exact ⟨(HN.out.1.grown HG4.out).over HG.out (fun g e => HFR.out g (hlow g e)), ((HT0.out.trans HN.out.2).trans (Turn.none_ HG4.out)).over HG.out hlow⟩)
      obtain rfl : j = N := by omega
      go_wp2
      go_ret
      obtain rfl := HE.out
      exact ⟨rfl, _, _, HFIN.out.1, HFIN.out.2⟩

/-- Any step. -/
theorem does_any {w : World} {B b r : Nat} {S : St} {o1 o2 : Nat → Prop} (h : Two w B b r S o1 o2) (kind at_ count bytes fill : Int) (fua : Bool) (A : Option Addr) (n cc : Nat) (picks : List Int)
    (ha : -9223372036854775808 ≤ at_ ∧ at_ ≤ 9223372036854775807) (hc : -9223372036854775808 ≤ count ∧ count ≤ 9223372036854775807) (hp1 : Picks w o1 A n picks) (hp2 : Picks w o2 A n picks) (hnm : n ≤ 9223372036854775807) (hroom : ∀ i, (S.ver i).length < 549755813888) :
    Calls Try.prog 12 #[.pointer (some ⟨b, 0, none⟩), .pointer (some ⟨r, 0, none⟩), .agg #[.int .i64 kind, .int .i64 at_, .int .i64 count, .int .i64 bytes, .int .i64 fill, .bool fua, .slice A n cc]] w fun e w' => e = .returned (.bool true) ∧ ∃ o1' o2', Two w' B b r (stepE S kind at_ count bytes fill fua picks) o1' o2' ∧ Turn w w' (both o1 o2) (both o1' o2') := by
  unfold stepE
  by_cases h0 : kind = 0
  · rw [if_pos h0]; subst h0; exact does_read h at_ count bytes fill fua A n cc ha hc
  rw [if_neg h0]
  by_cases h1 : kind = 1
  · rw [if_pos h1]; subst h1; exact does_write h at_ count bytes fill fua A n cc ha hroom
  rw [if_neg h1]
  by_cases h2 : kind = 2
  · rw [if_pos h2]; subst h2; exact does_flush h at_ count bytes fill fua A n cc
  rw [if_neg h2]
  by_cases h3 : kind = 3
  · rw [if_pos h3]; subst h3; exact does_fail h at_ count bytes fill fua A n cc
  rw [if_neg h3]
  by_cases h4 : kind = 4
  · rw [if_pos h4]; subst h4; exact does_cut h at_ count bytes fill fua A n cc
  rw [if_neg h4]
  by_cases h5 : kind = 5
  · rw [if_pos h5]; subst h5; exact does_crash h at_ count bytes fill fua A n cc picks hp1 hp2 hnm hroom
  rw [if_neg h5]
  exact does_else h kind at_ count bytes fill fua A n cc h0 h1 h2 h3 h4 h5
/-- A step makes no sector's row of versions longer than by one. -/
theorem put_len (S : St) (fua : Bool) (i : Nat) (v : List Nat) (k : Nat) : ((S.put fua i v).ver k).length ≤ (S.ver k).length + (if k = i then 1 else 0) := by
  unfold St.put
  cases fua with
  | true =>
    show (upd (S.add i v).ver i [] k).length ≤ _
    by_cases h : k = i
    · simp [upd, h]
    · simp [upd, St.add, h]
  | false =>
    show (upd S.ver i (S.ver i ++ [v]) k).length ≤ _
    by_cases h : k = i
    · subst h; simp [upd]
    · simp [upd, h]
theorem puts_len (S : St) (fua : Bool) (a : Nat) (l : List Nat) (k : Nat) : ∀ j, ((S.puts fua a l j).ver k).length ≤ (S.ver k).length + (if a ≤ k ∧ k < a + j then 1 else 0)
  | 0 => by show (S.ver k).length ≤ _; omega
  | j + 1 => by
    have h1 := puts_len S fua a l k j
    have h2 := put_len (S.puts fua a l j) fua (a + j) (sec l j) k
    show (((S.puts fua a l j).put fua (a + j) (sec l j)).ver k).length ≤ _
    by_cases hk : k = a + j
    · rw [if_pos hk] at h2
      rw [if_neg (by omega)] at h1
      rw [if_pos (by omega)]
      omega
    · rw [if_neg hk] at h2
      split at h1
      · rw [if_pos (by omega)]; omega
      · omega
theorem step_len (S : St) (kind at_ count bytes fill : Int) (fua : Bool) (picks : List Int) (k m : Nat) (h : (S.ver k).length ≤ m) : ((stepE S kind at_ count bytes fill fua picks).ver k).length ≤ m + 1 := by
  unfold stepE
  split
  · unfold readE; split
    · show (S.ver k).length ≤ _; omega
    · split <;> (show (S.ver k).length ≤ _; omega)
  split
  · unfold writeE; split
    · show (S.ver k).length ≤ _; omega
    · split
      · show (S.ver k).length ≤ _; omega
      · split
        · show (S.ver k).length ≤ _; omega
        · have h1 := puts_len ({ S with f2 := S.f2 - 1 } : St) fua at_.toNat (dataL count bytes fill) k ((dataL count bytes fill).length / 256)
          show ((St.puts ({ S with f2 := S.f2 - 1 } : St) fua at_.toNat (dataL count bytes fill) ((dataL count bytes fill).length / 256)).ver k).length ≤ _
          have h2 : ((({ S with f2 := S.f2 - 1 } : St)).ver k).length = (S.ver k).length := rfl
          rw [h2] at h1
          split at h1 <;> omega
  split
  · unfold flushE; split
    · show (S.ver k).length ≤ _; omega
    · show ([] : List (List Nat)).length ≤ _; simp
  split
  · unfold failE; split
    · show (S.ver k).length ≤ _; omega
    · split
      · show (S.ver k).length ≤ _; omega
      · split
        · show (S.ver k).length ≤ _; omega
        · split <;> (show (S.ver k).length ≤ _; omega)
  split
  · unfold cutE; split <;> (show (S.ver k).length ≤ _; omega)
  split
  · show ([] : List (List Nat)).length ≤ _; simp
  · omega
end Go.Proofs.Ytkfijgdbaihhpaa.Dsk
