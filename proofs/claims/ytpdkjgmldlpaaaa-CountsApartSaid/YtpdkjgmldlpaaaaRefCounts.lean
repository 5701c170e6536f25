/- The walks over the document's own answer for counts: PutCounts, GetCounts. -/
import Derived.Test.YtpdkjgmldlpaaaaRefSuper
import Derived.Test.YtpdkjgmldlpaaaaCodecSpec3
import Derived.Test.YtpdkjgmldlpaaaaOpen
namespace Go.Proofs.Ytpdkjgmldlpaaaa.Codec
open Go.RowKit CrcMath CodecMath Mem Crc

/-- Whole numbers as cells. -/
def i64s (l : List Int) : List Value := l.map fun x => .int .i64 x
theorem i64s_length (l : List Int) : (i64s l).length = l.length := by simp [i64s]
theorem i64s_append (l l' : List Int) : i64s (l ++ l') = i64s l ++ i64s l' := by simp [i64s]
theorem i64s_at (l : List Int) (j : Nat) (h : j < l.length) : (i64s l)[j]? = some (.int .i64 (l.getD j 0)) := by simp [i64s, List.getD_eq_getElem?_getD, h]
theorem int_info : (Try.prog.info? 3).map (fun i => (i.zero, i.size, i.bytes)) = some (some (.int .i64 0), 1, 8) := by kernel_rfl
theorem reads_one_int (w : World) (x : Value) : Reads (w.alloc (.cells #[x] 3)) (w.heap.size + 1) 1 (some ⟨w.heap.size, 0, none⟩) 1 [x] := by
  refine ⟨rfl, fun _ => ⟨_, rfl, by simp, fun j u hu => ?_⟩⟩
  match j with
  | 0 => simpa [Addr.add] using hu
  | j + 1 => simp at hu
theorem own_ints {w : World} {base n : Nat} {v : Value} {l : List Int} (h : Own w base 3 1 v n (i64s l)) (hl : ∀ x ∈ l, -9223372036854775808 ≤ x ∧ x ≤ 9223372036854775807) :
    ∃ A cap, v = .slice A n cap ∧ Ints w w.heap.size A n l ∧ n ≤ cap ∧ cap ≤ maxLen := by
  have hlen := h.len
  rw [i64s_length, Nat.mul_one] at hlen
  by_cases h0 : n = 0
  · subst h0
    obtain ⟨A, cap, hv, h1, h2, _⟩ := h.shape
    obtain rfl : l = [] := List.eq_nil_of_length_eq_zero hlen
    exact ⟨A, cap, hv, ints_none _ _ _, h1, h2⟩
  · obtain ⟨g, cap, hv, _, hlt, h1, h2, hc⟩ := h.reads (by omega)
    refine ⟨_, cap, hv, ⟨hlen, hl, fun _ => ⟨g, 0, rfl, hlt, by omega, fun j hj => ?_⟩⟩, h1, h2⟩
    rw [Nat.zero_add]
    exact hc j _ (i64s_at l j (by omega))
/-- What a call that reads a list of numbers leaves. -/
def ToldInts (w : World) (o : Option (List Int)) (e : Ending) (w' : World) : Prop :=
  w.grownBy w' none ∧ ((∃ s v', o = some s ∧ e = .returned (.tuple #[v', .bool true]) ∧ Own w' w.heap.size 3 1 v' s.length (i64s s) ∧ ∀ x ∈ s, -9223372036854775808 ≤ x ∧ x ≤ 9223372036854775807) ∨ (o = none ∧ e = .returned (.tuple #[.slice none 0 0, .bool false])))

set_option maxRecDepth 100000 in
set_option maxHeartbeats 800000 in
theorem ref_put_counts (b : Nat) (A : Option Addr) (n c : Nat) (l : List Int) (w : World) (hl : Ints w b A n l) (hn : n ≤ 17592186044416) :
    Calls Try.prog 36 #[.slice A n c] w (Wrote w (countsW l)) := by
  have hlen := hl.1
  have HLEN := Lib.hid hlen; have HL := Lib.hid hl; clear hlen hl
  go_enter Try.func36, Try.ntmps36
  go_wp2_with fail
  go_loopw [4, 5] (fun u i wr => ∃ j : Nat, j ≤ n ∧ i = .int .i64 j ∧ Own wr w.heap.size 5 1 u (2 * j) (u8s ((l.take j).flatMap fun n => be 2 n.toNat)) ∧ w.grownBy wr none ∧ (∀ q, q < j → inB (l.getD q 0) 1000 = true)) (fun _ i _ => n - (intOf i).toNat)
  case atStart => exact ⟨0, by omega, rfl, Own.nil _ _ _ _, World.grownBy.refl _ _, fun q hq => by omega⟩
  case round =>
    obtain ⟨j, hj, rfl, ho, hg, hin⟩ := hrel
    have HO := Lib.hid ho; have HG := Lib.hid hg; have HIN := Lib.hid hin
    clear ho hg hin
    by_cases hlt : j < n
    · obtain ⟨g, o, rfl, _, _, hc⟩ := (ints_keep HL.out HG.out (.inl rfl)).2.2 (by omega)
      have hcj := hc j hlt
      clear hc
      cases hib : inB (l.getD j 0) 1000 with
      | false =>
        have hno := countsW_no (allB_no j (by rw [HLEN.out]; exact hlt) hib)
        have HNO := Lib.hid hno; clear hno
        generalize l.getD j 0 = x at *
        have HIB := Lib.hid hib; clear hib
        go_wp2_with fail
        refine (in_any x _ _).mono ?_
        rintro e w2 ⟨rfl, rfl⟩
        rw [HIB.out]
        go_wp2
        go_ret2
        exact ⟨HG.out, .inr ⟨HNO.out, rfl⟩⟩
      | true =>
        have htf := take_flat l 2 j (by rw [HLEN.out]; exact hlt)
        have HTF := Lib.hid htf; clear htf
        have hin' : ∀ q, q < j + 1 → inB (l.getD q 0) 1000 = true := by
          intro q hq
          by_cases e : q = j
          · subst e; exact hib
          · exact HIN.out q (by omega)
        have HIN' := Lib.hid hin'; clear hin'
        generalize l.getD j 0 = x at *
        have hxx := inB_yes hib
        obtain ⟨hx0, hx1⟩ := hxx
        have HIB := Lib.hid hib; clear hib
        obtain ⟨m, rfl⟩ := Int.eq_ofNat_of_zero_le hx0
        rw [Int.toNat_natCast] at HTF
        go_wp2_with fail
        refine (in_any (m : Int) _ _).mono ?_
        rintro e w2 ⟨rfl, rfl⟩
        rw [HIB.out]
        go_wp2_with fail
        have hsz := HG.out.size
        refine (put_any w.heap.size _ _ _ m 2 _ HO.out hsz (by omega) (by omega)).mono ?_
        rintro e w2 ⟨v', rfl, ho', hg'⟩
        have HO' := Lib.hid ho'; have HG' := Lib.hid hg'; clear ho' hg'
        go_wp2_with fail
        go_roundw
        case rel =>
          refine ⟨j + 1, by omega, by go_num, ?_, grownBy_new HG.out HG'.out.1 (fun i hi => (HO.out.base_ i hi).1), HIN'.out⟩
          rw [HTF.out, show 2 * (j + 1) = 2 * j + 2 from by omega]
          exact HO'.out
        case measure => simp [intOf]; omega
    · obtain rfl : j = n := by omega
      have ho := HO.out
      rw [List.take_of_length_le (by rw [HLEN.out]; omega)] at ho
      have HO7 := Lib.hid ho; clear ho
      by_cases h120 : j = 120
      · subst h120
        have hyes := countsW_yes HLEN.out (allB_mk 120 HLEN.out HIN.out)
        have HY := Lib.hid hyes; clear hyes
        go_wp2
        go_ret2
        refine ⟨HG.out, .inl ⟨_, _, HY.out, rfl, ?_, flat_lt 2 l⟩⟩
        rw [flat_len, HLEN.out]
        exact HO7.out
      · have hno := countsW_short (s := l) (by rw [HLEN.out]; exact h120)
        have HNO := Lib.hid hno; clear hno
        have hne : (((j : Nat) : Int) != 120) = true := by simp; omega
        go_wp2
        go_ret2
        exact ⟨HG.out, .inr ⟨HNO.out, rfl⟩⟩

theorem num_small (l : List Nat) (a k : Nat) (h : ∀ x ∈ l, x < 256) (hk : k ≤ 7) : wrap64 (num l a k : Nat) = (num l a k : Nat) ∧ num l a k < 72057594037927936 := by
  have h1 := num_lt l a k h
  have h2 : 256 ^ k ≤ 256 ^ 7 := Nat.pow_le_pow_right (by omega) hk
  have h3 : (256 : Nat) ^ 7 = 72057594037927936 := by decide
  exact ⟨wrap64_of (by omega), by omega⟩
theorem nums_range (l : List Nat) (a step k n : Nat) (h : ∀ x ∈ l, x < 256) (hk : k ≤ 7) : ∀ x ∈ numsAt l a step k n, -9223372036854775808 ≤ x ∧ x ≤ 9223372036854775807 := by
  intro x hx
  obtain ⟨i, _, rfl⟩ := List.mem_map.1 hx
  have := (num_small l (a + step * i) k h hk).2
  omega

set_option maxRecDepth 100000 in
set_option maxHeartbeats 800000 in
theorem ref_get_counts (b : Nat) (A : Option Addr) (n c : Nat) (l : List Nat) (w : World) (hl : Bytes w b A n l) (hn : n ≤ 9223372036854775807) :
    Calls Try.prog 34 #[.slice A n c] w (ToldInts w (countsR l)) := by
  obtain ⟨i0, hi0, hz0, hz1, hz2⟩ := info_parts int_info
  have hi := Lib.hid hi0; have z0 := Lib.hid hz0; have z1 := Lib.hid hz1; have z2 := Lib.hid hz2; clear hi0 hz0 hz1 hz2
  have hr : countsR l = if countsW (numsAt l 0 2 2 120) = some l then some (numsAt l 0 2 2 120) else none := rfl
  have HR := Lib.hid hr; clear hr
  have HLT := Lib.hid hl.2.1
  have HL := Lib.hid hl; clear hl
  generalize countsR l = r at *
  go_enter Try.func34, Try.ntmps34
  go_wp2_with fail
  go_loopw [4, 5] (fun u i wr => ∃ j : Nat, j ≤ 120 ∧ i = .int .i64 j ∧ Own wr w.heap.size 3 1 u j (i64s (numsAt l 0 2 2 j)) ∧ w.grownBy wr none) (fun _ i _ => 120 - (intOf i).toNat)
  case atStart => exact ⟨0, by omega, rfl, Own.nil _ _ _ _, World.grownBy.refl _ _⟩
  case round =>
    obtain ⟨j, hj, rfl, ho, hg⟩ := hrel
    have HO := Lib.hid ho; have HG := Lib.hid hg
    clear ho hg
    by_cases hlt : j < 120
    · have hsn := numsAt_succ l 0 2 2 j
      rw [Nat.zero_add] at hsn
      have HSN := Lib.hid hsn
      obtain ⟨hw1, _⟩ := num_small l (2 * j) 2 HLT.out (by omega)
      have HW1 := Lib.hid hw1
      have HLr := Lib.hid (bytes_keepN HL.out HG.out)
      have hsz := HG.out.size
      clear hsn hw1
      go_wp2_with fail
      rw [show (2 * (j : Int)) = ((2 * j : Nat) : Int) from by omega]
      refine (number_any b A n c l (2 * j) 2 _ HLr.out (by omega)).mono ?_
      rintro e w1 ⟨rfl, rfl⟩
      rw [HW1.out]
      generalize num l (2 * j) 2 = x at *
      go_wp2_with (at_builtin
                   refine wpList_append_own_full _ rfl (.tmp 12) (.tmp 17) _ rfl w.heap.size 3 i0 _ 1 8 Try.underlying39 hi.out z0.out z1.out z2.out rfl (by omega) u4 j _ rfl (HO.out.alloc _)
                     _ _ 1 1 _ rfl (reads_one_int _ _) (fun u hu => by simp at hu; subst hu; rfl) (by simp only [maxLen]; omega) (by omega) (by simp; omega) ?_
                   intro v' w' hown' hgr'
                   have HO' := Lib.hid hown'; have HG' := Lib.hid hgr'; clear hown' hgr')
      go_roundw
      case rel =>
        refine ⟨j + 1, by omega, by go_num, ?_, grownBy_new (HG.out.trans (World.grownBy_alloc _ _ none)) HG'.out.1 (fun i hi => (HO.out.base_ i hi).1)⟩
        rw [HSN.out, i64s_append]
        exact HO'.out
      case measure => simp [intOf]; omega
    · obtain rfl : j = 120 := by omega
      have hrg := nums_range l 0 2 2 120 HLT.out (by omega)
      obtain ⟨A2, c2, rfl, hin, hc2, hm2⟩ := own_ints HO.out hrg
      have HIN := Lib.hid hin; have HRG := Lib.hid hrg; clear hin hrg
      have hsz := HG.out.size
      go_wp2_with fail
      refine (ref_put_counts _ A2 120 c2 _ _ HIN.out (by omega)).mono ?_
      rintro e w2 ⟨hg2, ⟨l', v2, ho2, rfl, hown2, hlt2⟩ | ⟨ho2, rfl⟩⟩
      · obtain ⟨A3, c3, rfl, hb3, _, hm3⟩ := own_bytes hown2 hlt2
        have HB3 := Lib.hid hb3; have HO2 := Lib.hid ho2; have HL2 := Lib.hid (bytes_keepN HL.out (HG.out.trans hg2))
        have HOW := Lib.hid (HO.out.keep hg2 (by simp)); have HG2 := Lib.hid (HG.out.trans hg2)
        clear hb3 ho2 hown2 hg2
        have hl3 : l'.length ≤ 9223372036854775807 := by simp only [maxLen] at hm3; omega
        cases hd : decide (l' = l) with
        | true =>
          have HD := Lib.hid hd; clear hd
          go_wp2_with fail
          refine (same_any _ _ A3 A _ n c3 c l' l _ HB3.out HL2.out hl3 hn).mono ?_
          rintro e w3 ⟨rfl, hdr⟩
          have HG3 := Lib.hid (HG2.out.trans (drawn_grown hdr none)); have HOW3 := Lib.hid (HOW.out.keep (drawn_grown hdr none) (by simp))
          clear hdr
          rw [HD.out]
          go_wp2
          go_ret2
          refine ⟨HG3.out, .inl ⟨numsAt l 0 2 2 120, _, ?_, rfl, ?_, HRG.out⟩⟩
          · have hl := of_decide_eq_true HD.out
            subst hl
            rw [HR.out, if_pos HO2.out]
          · rw [numsAt_length]; exact HOW3.out
        | false =>
          have HD := Lib.hid hd; clear hd
          go_wp2_with fail
          refine (same_any _ _ A3 A _ n c3 c l' l _ HB3.out HL2.out hl3 hn).mono ?_
          rintro e w3 ⟨rfl, hdr⟩
          have HG3 := Lib.hid (HG2.out.trans (drawn_grown hdr none))
          clear hdr
          rw [HD.out]
          go_wp2
          go_ret2
          refine ⟨HG3.out, .inr ⟨?_, rfl⟩⟩
          have hl := of_decide_eq_false HD.out
          rw [HR.out, if_neg (by rw [HO2.out]; simpa using hl)]
      · have HG2 := Lib.hid (HG.out.trans hg2); have HO2 := Lib.hid ho2
        clear hg2 ho2
        go_wp2
        go_ret2
        refine ⟨HG2.out, .inr ⟨?_, rfl⟩⟩
        rw [HR.out, if_neg (by rw [HO2.out]; simp)]
end Go.Proofs.Ytpdkjgmldlpaaaa.Codec
