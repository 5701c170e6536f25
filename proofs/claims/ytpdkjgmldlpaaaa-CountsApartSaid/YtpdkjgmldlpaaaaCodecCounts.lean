/- The project's calls for counts: PutCounts, GetCounts. -/
import Derived.Test.YtpdkjgmldlpaaaaCodecBits2
namespace Go.Proofs.Ytpdkjgmldlpaaaa.Codec
open Go.RowKit CrcMath CodecMath Mem Crc

/-- What a call of the project's that writes a record leaves: its bytes as an array of its own, or ErrArg. -/
def Gave (w : World) (t : TypeId) (o : Option (List Nat)) (e : Ending) (w' : World) : Prop :=
  w.grownBy w' none ∧ ((∃ l g, o = some l ∧ e = .returned (.tuple #[.slice (some ⟨g, 0, none⟩) l.length l.length, .int .i64 0]) ∧ w.heap.size ≤ g ∧ Blk w' g t (u8s l).toArray ∧ ∀ x ∈ l, x < 256) ∨
    (o = none ∧ e = .returned (.tuple #[.slice none 0 0, .int .i64 1])))
/-- The cursor over a new array. -/
theorem cur_new (w : World) (g N : Nat) (k : Nat) (hk : k = 0) : Cur (w.alloc (.cells #[.slice (some ⟨g, 0, none⟩) N N] 59)) w.heap.size g k N := ⟨0, Blk.new w _ _, fun _ => hk.symm⟩

set_option maxRecDepth 100000 in
set_option maxHeartbeats 1600000 in
theorem codec_put_counts (b : Nat) (A : Option Addr) (n c : Nat) (l : List Int) (w : World) (hl : Ints w b A n l) (hn : n ≤ 17592186044416) :
    Calls Try.prog 35 #[.slice A n c] w (Gave w 67 (countsW l)) := by
  have hlen := hl.1
  have HLEN := Lib.hid hlen; have HL := Lib.hid hl; clear hlen hl
  by_cases h120 : n = 120
  · subst h120
    cases hall : allB l 1000 with
    | false =>
      have HNO := Lib.hid (countsW_no hall)
      have HALL := Lib.hid hall; clear hall
      go_enter Try.func35, Try.ntmps35
      go_wp2_with fail
      refine (allwithin_any b A 120 c l 1000 _ HL.out (by omega)).mono ?_
      rintro e w1 ⟨rfl, rfl⟩
      rw [HALL.out]
      go_wp2
      go_ret2
      exact ⟨World.grownBy.refl _ _, .inr ⟨HNO.out, rfl⟩⟩
    | true =>
      have HYES := Lib.hid (countsW_yes HLEN.out hall)
      have HB := Lib.hid (fun j hj => allB_yes hall j (by rw [HLEN.out]; exact hj) : ∀ j, j < 120 → 0 ≤ l.getD j 0 ∧ l.getD j 0 ≤ 1000)
      have HALL := Lib.hid hall; clear hall
      have hz := zero240
      have hfz := fill_zero 240
      have HFZ := Lib.hid hfz; clear hfz
      generalize hzz : Array.replicate 240 (Value.int .u8 0) = zs at *
      clear hzz
      go_enter Try.func35, Try.ntmps35
      go_wp2_with fail
      refine (allwithin_any b A 120 c l 1000 _ HL.out (by omega)).mono ?_
      rintro e w1 ⟨rfl, rfl⟩
      rw [HALL.out]
      go_wp2_with fail
      go_loopw [7, 19] (fun _ i wr => ∃ j : Nat, j ≤ 120 ∧ i = .int .i64 j ∧ w.grownBy wr none ∧ Cur wr (w.heap.size + 1) w.heap.size (2 * j) (240 - 2 * j) ∧ Blk wr w.heap.size 67 (u8s (fill ((l.take j).flatMap fun n => be 2 n.toNat) 240)).toArray) (fun _ i _ => 120 - (intOf i).toNat)
      case atStart =>
        refine ⟨0, by omega, rfl, (World.grownBy_alloc w _ none).trans (World.grownBy_alloc _ _ none), ?_, ?_⟩
        · simpa using cur_new (w.alloc (.cells zs 67)) w.heap.size 240 0 rfl
        · rw [List.take_zero, List.flatMap_nil, HFZ.out]
          exact (Blk.new w _ zs).alloc _
      case round =>
        obtain ⟨j, hj, rfl, hg, hc, hb⟩ := hrel
        have HG := Lib.hid hg; have HC := Lib.hid hc; have HBK := Lib.hid hb
        clear hg hc hb
        by_cases hlt : j < 120
        · obtain ⟨g, o, rfl, _, _, hcl⟩ := (ints_keep HL.out HG.out (.inl rfl)).2.2 (by omega)
          have hcj := hcl j hlt
          clear hcl
          obtain ⟨hx0, hx1⟩ := HB.out j hlt
          have HTF := Lib.hid (take_flat l 2 j (by rw [HLEN.out]; exact hlt))
          have hpl : ((l.take j).flatMap fun n => be 2 n.toNat).length = 2 * j := by rw [flat_len, List.length_take, HLEN.out, Nat.min_eq_left hj]
          have hly := lay_fill ((l.take j).flatMap fun n => be 2 n.toNat) (be 2 (l.getD j 0).toNat) 240
          rw [hpl, ← HTF.out] at hly
          have hfl := fill_length ((l.take j).flatMap fun n => be 2 n.toNat) 240 (by omega)
          have HLY := Lib.hid hly; have HFL := Lib.hid hfl; clear hly hpl hfl
          generalize l.getD j 0 = x at *
          obtain ⟨m, rfl⟩ := Int.eq_ofNat_of_zero_le hx0
          rw [Int.toNat_natCast] at HLY
          go_wp2_with fail
          refine (write_any _ _ (2 * j) (240 - 2 * j) 2 m _ _ _ HC.out HBK.out (by decide) (by omega) (by rw [HFL.out]; omega) (by rw [HFL.out]; omega) (by omega)).mono ?_
          rintro e w2 ⟨rfl, hlf, hc2, hb2⟩
          rw [HLY.out] at hb2
          have HG2 := Lib.hid (hlf.new HG.out (by omega) (Nat.le_refl _)); have HC2 := Lib.hid hc2; have HB2 := Lib.hid hb2
          clear hlf hc2 hb2
          go_wp2_with fail
          go_roundw
          case rel =>
            refine ⟨j + 1, by omega, by go_num, HG2.out, ?_, HB2.out⟩
            have h := HC2.out
            rwa [show 2 * j + 2 = 2 * (j + 1) from by omega, show 240 - 2 * j - 2 = 240 - 2 * (j + 1) from by omega] at h
          case measure => simp [intOf]; omega
        · obtain rfl : j = 120 := by omega
          have hb := HBK.out
          rw [List.take_of_length_le (by rw [HLEN.out]; omega), fill_full _ _ (by rw [flat_len, HLEN.out]; omega)] at hb
          have HB7 := Lib.hid hb; clear hb
          go_wp2
          go_ret2
          refine ⟨HG.out, .inl ⟨_, w.heap.size, HYES.out, ?_, Nat.le_refl _, HB7.out, flat_lt 2 l⟩⟩
          rw [flat_len, HLEN.out]
          rfl
  · have HNO := Lib.hid (countsW_short (s := l) (by rw [HLEN.out]; exact h120))
    have hne : (((n : Nat) : Int) != 120) = true := by simp; omega
    go_enter Try.func35, Try.ntmps35
    go_wp2
    go_ret2
    exact ⟨World.grownBy.refl _ _, .inr ⟨HNO.out, rfl⟩⟩

theorem own_of_blk {w : World} {g base n : Nat} {e : TypeId} {xs : List Value} (h : Blk w g e xs.toArray) (hn : xs.length = n) (hb : base ≤ g) (hm : n ≤ maxLen) : Own w base e 1 (.slice (some ⟨g, 0, none⟩) n n) n xs :=
  .inr ⟨g, xs.toArray, _, rfl, hb, h, hm, by simp, by omega⟩
theorem int_one : (Try.prog.info? 3).map (·.size) = some 1 := by kernel_rfl
theorem set_zeros (xs : List Value) (v z : Value) (c j : Nat) (hx : xs.length = j) (hj : j < c) : (xs ++ List.replicate (c - j) z).toArray.setIfInBounds j v = (xs ++ [v] ++ List.replicate (c - (j + 1)) z).toArray := by
  obtain ⟨q, hq⟩ : ∃ q, c - j = q + 1 := ⟨c - j - 1, by omega⟩
  rw [hq, show c - (j + 1) = q from by omega]
  simp only [List.setIfInBounds_toArray]
  rw [List.set_append, if_neg (by omega), hx, Nat.sub_self, List.replicate_succ]
  simp
theorem made_ints (n : Nat) : madeCells (Value.int .i64 0).cells n = (List.replicate n (Value.int .i64 0)).toArray := by
  refine Array.ext (by simp [size_madeCells]) (fun i h1 h2 => ?_)
  simp [madeCells, Value.cells, Nat.mod_one]
theorem run_ints (n : Nat) (w : World) (h : n ≤ 4096) : (Instr.makeSlice 39 (.int .i64 n) (.int .i64 n)).run Try.prog w = .ok (.slice (some ⟨w.heap.size, 0, none⟩) n n) (w.alloc (.cells (List.replicate n (Value.int .i64 0)).toArray 3)) := by
  obtain ⟨i0, hi0, hz0, hz1, hz2⟩ := info_parts int_info
  have h := run_make (P := Try.prog) w 39 3 i0 _ Try.underlying39 hi0 hz0 .i64 .i64 n n (by omega) (Int.le_refl _) (by rw [hz2]; omega) (by omega)
  rw [h, hz1, Nat.mul_one, Int.toNat_natCast, made_ints]
set_option maxRecDepth 100000 in
set_option maxHeartbeats 1600000 in
theorem readall_any (p g k n count width : Nat) (t : TypeId) (L : List Nat) (w : World) (hc : Cur w p g k n) (hg : Blk w g t (u8s L).toArray) (ht : t ≠ 59) (hb : ∀ x ∈ L, x < 256)
    (h : width * count ≤ n) (hn : k + n ≤ L.length) (hL : L.length ≤ 4096) (hcnt : count ≤ 4096) (hw : width ≤ 7) :
    Calls Try.prog 41 #[.pointer (some ⟨p, 0, none⟩), .int .i64 count, .int .i64 width] w fun e w' =>
      ∃ v, e = .returned v ∧ Own w' w.heap.size 3 1 v count (i64s (numsAt L k width width count)) ∧ w.grownBy w' (some p) ∧ Cur w' p g (k + width * count) (n - width * count) := by
  have hpg := hc.ne hg ht
  have hpl : p < w.heap.size := by obtain ⟨_, h, _⟩ := hc; exact h.lt
  have HG := Lib.hid hg; have HC := Lib.hid hc; have HBS := Lib.hid hb; clear hc hg hb
  by_cases h0 : count = 0
  · subst h0
    go_enter Try.func41, Try.ntmps41
    go_wp2
    go_ret
    exact ⟨_, rfl, Own.nil _ _ _ _, World.grownBy.refl _ _, by simpa using HC.out⟩
  · have hne : (((count : Nat) : Int) == 0) = false := by simp; omega
    have hmk := run_ints count w hcnt
    go_enter Try.func41, Try.ntmps41
    go_wp2_with fail
    go_loopw [8, 15] (fun _ i wr => ∃ j : Nat, j ≤ count ∧ i = .int .i64 j ∧ Left w wr p w.heap.size ∧ Cur wr p g (k + width * j) (n - width * j) ∧ Blk wr w.heap.size 3 (i64s (numsAt L k width width j) ++ List.replicate (count - j) (Value.int .i64 0)).toArray) (fun _ i _ => count - (intOf i).toNat)
    case atStart =>
      refine ⟨0, by omega, rfl, Left.of0 (World.grownBy_alloc w _ none) _ _, HC.out.grown (World.grownBy_alloc w _ none) (by simp), ?_⟩
      exact Blk.new w _ _
    case round =>
      obtain ⟨j, hj, rfl, hlf, hc, hbk⟩ := hrel
      have HLF := Lib.hid hlf; have HCr := Lib.hid hc; have HBK := Lib.hid hbk
      clear hlf hc hbk
      by_cases hlt : j < count
      · have hmul : width * j + width ≤ width * count := by rw [← Nat.mul_succ]; exact Nat.mul_le_mul_left _ hlt
        have HGr := Lib.hid (HLF.out.blk HG.out (fun e => hpg e.symm) (fun e => by have := HG.out.lt; omega))
        have HSN := Lib.hid (numsAt_succ L k width width j)
        obtain ⟨hw1, _⟩ := num_small L (k + width * j) width HBS.out hw
        have HW1 := Lib.hid hw1; clear hw1
        have HSZ := Lib.hid (set_zeros (i64s (numsAt L k width width j)) (.int .i64 ((num L (k + width * j) width : Nat) : Int)) (.int .i64 0) count j (by rw [i64s_length, numsAt_length]) hlt)
        have hsl : (i64s (numsAt L k width width j) ++ List.replicate (count - j) (Value.int .i64 0)).length = count := by rw [List.length_append, i64s_length, numsAt_length, List.length_replicate]; omega
        have HSL := Lib.hid hsl; clear hsl
        go_wp2_with fail
        refine (read_any p g (k + width * j) (n - width * j) width t L _ HCr.out HGr.out ht HBS.out (by omega) (by omega) hL).mono ?_
        rintro e w2 ⟨rfl, hg2, hc2⟩
        rw [HW1.out]
        have hb2 := HBK.out.grown hg2 (by simp; omega)
        have hcell := hb2.cell j
        rw [List.getElem?_toArray, List.getElem?_eq_getElem (by rw [HSL.out]; exact hlt)] at hcell
        have hfr := hb2.frozen j
        have HB2 := Lib.hid hb2; have HC2 := Lib.hid hc2; have HL2 := Lib.hid (HLF.out.trans (Left.of1 hg2 w.heap.size))
        clear hg2 hc2 hb2
        generalize num L (k + width * j) width = x at *
        go_wp2_with fail
        refine ⟨⟨j + 1, by omega, by go_num, HL2.out.trans (Left.of2 (only_set (World.grownBy.refl _ _) _ _) p), ?_, ?_⟩, by simp [intOf]; omega⟩
        · have h := HC2.out.grown (only_set (World.grownBy.refl w2 (some w.heap.size)) j (.int .i64 (x : Int))) (by simp; omega)
          rwa [show k + width * j + width = k + width * (j + 1) from by rw [Nat.mul_succ]; omega, show n - width * j - width = n - width * (j + 1) from by rw [Nat.mul_succ]; omega] at h
        · have h := HB2.out.set_ j (.int .i64 (x : Int))
          rw [HSZ.out] at h
          rw [HSN.out, i64s_append]
          exact h
      · obtain rfl : j = count := by omega
        go_wp2
        go_ret
        refine ⟨_, rfl, ?_, ⟨HLF.out.os, HLF.out.tape, HLF.out.output, HLF.out.size, fun i hi hne => HLF.out.block i hi (by simpa using hne) (by omega)⟩, HCr.out⟩
        have h := HBK.out
        rw [Nat.sub_self, List.replicate_zero, List.append_nil] at h
        exact own_of_blk h (by rw [i64s_length, numsAt_length]) (Nat.le_refl _) (by simp [maxLen]; omega)

theorem Gave.none_ {w : World} {t : TypeId} {e : Ending} {w' : World} (h : Gave w t none e w') : w.grownBy w' none ∧ e = .returned (.tuple #[.slice none 0 0, .int .i64 1]) := by
  obtain ⟨hg, ⟨l, g, ho, _⟩ | ⟨_, he⟩⟩ := h
  · cases ho
  · exact ⟨hg, he⟩
theorem Gave.some_ {w : World} {t : TypeId} {e : Ending} {w' : World} {l : List Nat} (h : Gave w t (some l) e w') :
    w.grownBy w' none ∧ ∃ g, e = .returned (.tuple #[.slice (some ⟨g, 0, none⟩) l.length l.length, .int .i64 0]) ∧ w.heap.size ≤ g ∧ Blk w' g t (u8s l).toArray ∧ ∀ x ∈ l, x < 256 := by
  obtain ⟨hg, ⟨l', g, ho, he, rest⟩ | ⟨ho, _⟩⟩ := h
  · obtain rfl : l = l' := by injection ho
    exact ⟨hg, g, he, rest⟩
  · cases ho

set_option maxRecDepth 100000 in
set_option maxHeartbeats 1600000 in
theorem codec_get_counts (b : Nat) (A : Option Addr) (n c : Nat) (l : List Nat) (w : World) (hl : Bytes w b A n l) :
    Calls Try.prog 30 #[.slice A n c] w (ToldInts w (countsR l)) := by
  have hlen := hl.1
  have HLT := Lib.hid hl.2.1
  have HLEN := Lib.hid hlen; have HL := Lib.hid hl; clear hlen hl
  by_cases h240 : n = 240
  · subst h240
    have hr : countsR l = if countsW (numsAt l 0 2 2 120) = some l then some (numsAt l 0 2 2 120) else none := rfl
    have HR := Lib.hid hr; clear hr
    have HRG := Lib.hid (nums_range l 0 2 2 120 HLT.out (by omega))
    generalize countsR l = r at *
    go_enter Try.func30, Try.ntmps30
    go_wp2_with fail
    refine (openbody_any b A c l _ HL.out).mono ?_
    rintro e w1 ⟨rfl, hg1, hb1⟩
    have hg1' := hg1.trans (World.grownBy_alloc w1 (.cells #[.slice (some ⟨w.heap.size, 0, none⟩) 240 240] 59) none)
    have hc1 := cur_new w1 w.heap.size 240 0 rfl
    have hb1' := hb1.alloc (.cells #[.slice (some ⟨w.heap.size, 0, none⟩) 240 240] 59)
    have hlt1 := hb1.lt
    have HG1 := Lib.hid hg1'; have HC1 := Lib.hid hc1; have HB1 := Lib.hid hb1'; have HGA := Lib.hid hg1
    clear hg1 hb1 hg1' hc1 hb1'
    go_wp2_with fail
    refine (readall_any _ _ 0 240 120 2 _ l _ HC1.out HB1.out (by decide) HLT.out (by omega) (by rw [HLEN.out]; omega) (by rw [HLEN.out]; omega) (by omega) (by omega)).mono ?_
    rintro e w2 ⟨v2, rfl, hown, hg2, _⟩
    have hg2' := grownBy_new HG1.out hg2 (fun j hj => by cases hj; omega)
    obtain ⟨A2, c2, rfl, hin, hc2, hm2⟩ := own_ints hown HRG.out
    have HG2 := Lib.hid hg2'; have HIN := Lib.hid hin; have HOW := Lib.hid (hown.low (b := w.heap.size) (by simp; omega))
    clear hg2 hg2' hin hown
    go_wp2_with fail
    refine (codec_put_counts _ A2 120 c2 _ _ HIN.out (by omega)).mono ?_
    cases hW : countsW (numsAt l 0 2 2 120) with
    | none =>
      rintro e w3 hG
      obtain ⟨hg3, rfl⟩ := hG.none_
      have HG3 := Lib.hid (HG2.out.trans hg3); have HW := Lib.hid hW
      clear hG hg3 hW
      go_wp2_with fail
      refine (comesback_err A none _ 0 c 0 _).mono ?_
      rintro e w4 ⟨rfl, rfl⟩
      go_wp2
      go_ret2
      exact ⟨HG3.out, .inr ⟨by rw [HR.out, HW.out, if_neg (by simp)], rfl⟩⟩
    | some l' =>
      rintro e w3 hG
      obtain ⟨hg3, g3, rfl, _, hb3, hlt3⟩ := hG.some_
      have HG3 := Lib.hid (HG2.out.trans hg3); have HW := Lib.hid hW; have HB3 := Lib.hid (blk_bytes (b := w3.heap.size) hb3 (by have := hb3.lt; omega) hlt3)
      have HL3 := Lib.hid (bytes_keepN HL.out HG3.out); have HOW3 := Lib.hid (HOW.out.keep hg3 (by simp))
      clear hG hg3 hW hb3
      go_wp2_with fail
      refine (comesback_any _ _ A _ _ _ c _ l l' _ HL3.out HB3.out).mono ?_
      rintro e w4 ⟨rfl, rfl⟩
      cases hd : decide (l = l') with
      | true =>
        have HD := Lib.hid hd; clear hd
        go_wp2
        go_ret2
        refine ⟨HG3.out, .inl ⟨numsAt l 0 2 2 120, _, ?_, rfl, ?_, HRG.out⟩⟩
        · have hl := of_decide_eq_true HD.out
          subst hl
          rw [HR.out, if_pos HW.out]
        · rw [numsAt_length]; exact HOW3.out
      | false =>
        have HD := Lib.hid hd; clear hd
        go_wp2
        go_ret2
        refine ⟨HG3.out, .inr ⟨?_, rfl⟩⟩
        have hl := of_decide_eq_false HD.out
        rw [HR.out, if_neg (by rw [HW.out]; simpa using fun e => hl e.symm)]
  · have hno := countsR_none l (by rw [HLEN.out]; exact h240)
    have HNO := Lib.hid hno; clear hno
    generalize countsR l = r at *
    go_enter Try.func30, Try.ntmps30
    go_wp2_with fail
    refine (openbody_no A n c _ h240).mono ?_
    rintro e w1 ⟨rfl, rfl⟩
    go_wp2
    go_ret2
    exact ⟨World.grownBy_alloc w _ none, .inr ⟨HNO.out, rfl⟩⟩
end Go.Proofs.Ytpdkjgmldlpaaaa.Codec
