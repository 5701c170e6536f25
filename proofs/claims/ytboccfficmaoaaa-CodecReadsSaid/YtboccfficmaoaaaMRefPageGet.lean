/- Texts of this seat's proofs: RefPageGet, LawBits, RefHead, RefImageGet. -/
import Derived.Test.YtboccfficmaoaaaMRefPage
import Derived.Test.YtboccfficmaoaaaMRefNode
import Derived.Test.YtboccfficmaoaaaMRefCounts
import Derived.Test.YtboccfficmaoaaaMStructs
import Derived.IntWalk
/- The walk over the document's own answer for pages that are read: GetPage. -/
namespace Go.Proofs.Ytboccfficmaoaaa.Codec
open Go.RowKit CrcMath CodecMath Mem Crc

/-- What a call that reads a page leaves. -/
def ToldPage (w : World) (o : Option (Int × List Nat)) (e : Ending) (w' : World) : Prop :=
  w.grownBy w' none ∧ ((∃ kind body v, o = some (kind, body) ∧ e = .returned (.tuple #[.agg #[.int .i64 kind, v], .bool true]) ∧ Own w' w.heap.size 5 1 v body.length (u8s body) ∧ ∀ x ∈ body, x < 256) ∨
    (o = none ∧ e = .returned (.tuple #[.agg #[.int .i64 0, .slice none 0 0], .bool false])))
theorem bodyOf_bytes {w : World} {b c : Nat} {A : Option Addr} {l : List Nat} (h : Bytes w b A 256 l) (_hc : 256 ≤ c) :
    ∃ g o, A = some ⟨g, o, none⟩ ∧ Bytes w b (some ⟨g, o + 12, none⟩) 240 (bodyOf l) := by
  obtain ⟨hlen, hlt, hc⟩ := h
  obtain ⟨g, o, rfl, hg, hne, hcell⟩ := hc (by omega)
  refine ⟨g, o, rfl, by simp [bodyOf]; omega, fun x hx => hlt x (List.mem_of_mem_drop (List.mem_of_mem_take hx)), fun _ => ⟨g, o + 12, rfl, hg, hne, fun j hj => ?_⟩⟩
  rw [show o + 12 + j = o + (12 + j) from by omega, hcell (12 + j) (by omega)]
  congr 3
  simp [bodyOf, List.getD_eq_getElem?_getD, hj]
theorem fill_zeros : fill [] 256 = zeros := rfl
theorem zeros_lt : ∀ x ∈ zeros, x < 256 := fun x hx => by have := (List.mem_replicate.1 hx).2; omega

set_option maxRecDepth 100000 in
set_option maxHeartbeats 1600000 in
theorem ref_get_page (b : Nat) (A : Option Addr) (n c : Nat) (l : List Nat) (number : Int) (w : World) (hl : Bytes w b A n l) (hn : n ≤ 9223372036854775807) (hnc : n ≤ c) :
    Calls Try.prog 12 #[.slice A n c, .int .i64 number] w (ToldPage w (pageR l number)) := by
  obtain ⟨i0, hi0, hz0, hz1, hz2⟩ := info_parts byte_info
  have hi := Lib.hid hi0; have z0 := Lib.hid hz0; have z1 := Lib.hid hz1; have z2 := Lib.hid hz2; clear hi0 hz0 hz1 hz2
  have hr : pageR l number = if l = zeros then some (0, []) else if pageW number (num l 4 1) (bodyOf l) = some l then some ((num l 4 1 : Int), bodyOf l) else none := rfl
  have HR := Lib.hid hr; clear hr
  have HLT := Lib.hid hl.2.1
  have HLEN := Lib.hid hl.1
  have hg0 := World.grownBy_alloc w (.cells #[.int .i64 0, .slice none 0 0] 39) none
  have HL0 := Lib.hid (bytes_keepN hl hg0)
  have HZ0 := Lib.hid (Blk.new w 39 #[.int .i64 0, .slice none 0 0])
  have HG0 := Lib.hid hg0
  clear hl hg0
  obtain ⟨hw1, _⟩ := num_small l 4 1 HLT.out (by omega)
  have HW1 := Lib.hid hw1; clear hw1
  generalize pageR l number = r at *
  go_enter Try.func12, Try.ntmps12
  go_wp2_with fail
  refine (filled_any w.heap.size (.slice none 0 0) 0 [] 256 _ (Own.nil _ _ _ _) (by simp) (by omega) (by omega)).mono ?_
  rintro e w1 ⟨v1, rfl, ho1, hg1⟩
  have hg1n : (w.alloc (.cells #[.int .i64 0, .slice none 0 0] 39)).grownBy w1 none := hg1.1
  rw [fill_zeros] at ho1
  obtain ⟨A1, c1, rfl, hb1, _, hm1⟩ := own_bytes ho1 zeros_lt
  have HB1 := Lib.hid hb1; have HL1 := Lib.hid (bytes_keepN HL0.out hg1n); have HZ1 := Lib.hid (HZ0.out.grown hg1n (by simp)); have HG1 := Lib.hid (HG0.out.trans hg1n)
  clear hb1 ho1 hg1 hg1n
  cases hd : decide (l = zeros) with
  | true =>
    have HD := Lib.hid hd; clear hd
    go_wp2_with fail
    refine (same_any _ _ A A1 n 256 c c1 l zeros _ HL1.out HB1.out hn (by omega)).mono ?_
    rintro e w2 ⟨rfl, hdr⟩
    have hg2 := drawn_grown hdr none
    have HZ2 := Lib.hid (HZ1.out.grown hg2 (by simp)); have HG2 := Lib.hid (HG1.out.trans hg2)
    have y0 := HZ2.out.cell 0
    have y1 := HZ2.out.cell 1
    have yf0 := HZ2.out.frozen 0
    have yf1 := HZ2.out.frozen 1
    simp only [List.getElem?_toArray, List.getElem?_cons_zero, List.getElem?_cons_succ] at y0 y1
    clear hdr hg2
    rw [HD.out]
    go_wp2_with fail
    refine ret_row2 rfl w.heap.size 39 _ _ rfl (Blk.set2 HZ2.out) Try.underlying39 rfl (by kernel_rfl) rfl ⟨?_, .inl ⟨0, [], _, ?_, rfl, Own.nil _ _ _ _, by simp⟩⟩
    · repeat (refine grown_set ?_ (Nat.le_refl _) _)
      exact HG2.out
    · rw [HR.out, if_pos (of_decide_eq_true HD.out)]
  | false =>
    have hnz := of_decide_eq_false hd
    have HNZ := Lib.hid hnz
    have HD := Lib.hid hd; clear hd hnz
    by_cases h256 : n = 256
    case neg =>
      have hne : (((n : Nat) : Int) != 256) = true := by simp; omega
      have hnw : pageW number (num l 4 1) (bodyOf l) ≠ some l := fun e => h256 (by have := pageW_len e; rw [HLEN.out] at this; exact this)
      have HNW := Lib.hid hnw; clear hnw
      go_wp2_with fail
      refine (same_any _ _ A A1 n 256 c c1 l zeros _ HL1.out HB1.out hn (by omega)).mono ?_
      rintro e w2 ⟨rfl, hdr⟩
      have hg2 := drawn_grown hdr none
      have HZ2 := Lib.hid (HZ1.out.grown hg2 (by simp)); have HG2 := Lib.hid (HG1.out.trans hg2)
      have y0 := HZ2.out.cell 0
      have y1 := HZ2.out.cell 1
      have yf0 := HZ2.out.frozen 0
      have yf1 := HZ2.out.frozen 1
      simp only [List.getElem?_toArray, List.getElem?_cons_zero, List.getElem?_cons_succ] at y0 y1
      clear hdr hg2
      rw [HD.out]
      go_wp2_with fail
      refine ret_row2 rfl w.heap.size 39 _ _ rfl (Blk.set2 HZ2.out) Try.underlying39 rfl (by kernel_rfl) rfl ⟨?_, .inr ⟨?_, rfl⟩⟩
      · repeat (refine grown_set ?_ (Nat.le_refl _) _)
        exact HG2.out
      · rw [HR.out, if_neg HNZ.out, if_neg HNW.out]
    subst h256
    go_wp2_with fail
    refine (same_any _ _ A A1 256 256 c c1 l zeros _ HL1.out HB1.out hn (by omega)).mono ?_
    rintro e w2 ⟨rfl, hdr⟩
    have hg2 := drawn_grown hdr none
    have HZ2 := Lib.hid (HZ1.out.grown hg2 (by simp)); have HG2 := Lib.hid (HG1.out.trans hg2); have HL2 := Lib.hid (bytes_keepN HL1.out hg2)
    clear hdr hg2
    rw [HD.out]
    go_wp2_with fail
    refine (number_any b A 256 c l 4 1 _ HL2.out (by omega)).mono ?_
    rintro e w3 ⟨rfl, rfl⟩
    rw [HW1.out]
    obtain ⟨g, o, rfl, hbb⟩ := bodyOf_bytes HL2.out hnc
    have HBB := Lib.hid hbb; clear hbb
    have hc252 : (252 : Int) ≤ c := by omega
    have hc12 : ¬ c = 12 := by omega
    go_upto_region 6 with fail
    have hb1 := Blk.new w2 46 #[.int .i64 number, .int .i64 ((num l 4 1 : Nat) : Int), .slice none 0 0]
    have hk2 := hb1.cell 2
    have hkf2 := hb1.frozen 2
    simp only [List.getElem?_toArray, List.getElem?_cons_zero, List.getElem?_cons_succ] at hk2
    have HBK := Lib.hid hb1; clear hb1
    have HGw := Lib.hid (World.grownBy_alloc w2 (.cells #[.int .i64 number, .int .i64 ((num l 4 1 : Nat) : Int), .slice none 0 0] 46) none)
    go_cut [6] (fun s6 wx => ∃ v : Value, s6 = .pointer (some ⟨w2.heap.size, 0, none⟩) ∧ Blk wx w2.heap.size 46 #[.int .i64 number, .int .i64 ((num l 4 1 : Nat) : Int), v] ∧ Own wx (w2.heap.size + 1) 5 1 v 240 (u8s (bodyOf l)) ∧ w2.grownBy wx none)
    case first =>
      go_region_law (first
        | (refine step_append_own_full _ rfl (.tmp 24) (.tmp 26) _ rfl (w2.heap.size + 1) 5 i0 _ 1 1 Try.underlying22 hi.out z0.out z1.out z2.out rfl (by omega) (.slice none 0 0) 0 [] (by rfl) (Own.nil _ _ _ _)
             _ (some ⟨g, o + 12, none⟩) 240 _ (u8s (bodyOf l)) (by rfl) (bytes_drew (bytes_keepN HBB.out HGw.out)).reads (u8s_one _) (by simp only [maxLen]; omega) (by omega) (by simp) ?_
           intro v' w' hown' hgr'
           obtain ⟨A2, c2, hv2, _, _, _⟩ := hown'.shape
           subst hv2
           have hb1 := HBK.out.drew.grown hgr'.1 (by simp [Value.ownBlock])
           have hc1' := hb1.cell 2
           have hf1' := hb1.frozen 2
           simp only [List.getElem?_toArray, List.getElem?_cons_zero, List.getElem?_cons_succ] at hc1'
           have HB1' := Lib.hid hb1
           have HO' := Lib.hid hown'; have HGR' := Lib.hid hgr'; clear hown' hgr' hb1))
      all_goals
        go_wp2_with fail
        go_meet
        exact ⟨_, rfl, HB1'.out.set_ 2 _, Own.set_far HO'.out (by omega) _, grown_set (grownBy_new ((HGw.out).trans (grown_drew _ none)) HGR'.out.1 (fun j hj => by simp [Value.ownBlock] at hj)) (by omega) _⟩
    case rest =>
      obtain ⟨v, rfl, hbk, hov, hgw⟩ := hcut
      obtain ⟨A2, c2, rfl, hbody, hc2, hm2⟩ := own_bytes hov (fun x hx => HBB.out.2.1 x hx)
      have HBK2 := Lib.hid hbk; have HOV := Lib.hid hov; have HBODY := Lib.hid hbody
      have HZ3 := Lib.hid (HZ2.out.grown hgw (by simp)); have HG3 := Lib.hid (HG2.out.trans hgw); have HL3 := Lib.hid (bytes_keepN HL2.out hgw)
      have hBge := HG2.out.size
      clear hgw hov hbody hbk hk2 hkf2
      have hk0 := HBK2.out.cell 0
      have hk1 := HBK2.out.cell 1
      have hk2 := HBK2.out.cell 2
      have hkl := HBK2.out.lt
      simp only [List.getElem?_toArray, List.getElem?_cons_zero, List.getElem?_cons_succ] at hk0 hk1 hk2
      have hbl : (bodyOf l).length = 240 := HBB.out.1
      have HBL := Lib.hid hbl; clear hbl
      go_wp2_with fail
      refine (ref_put_page _ number ((num l 4 1 : Nat) : Int) A2 240 c2 (bodyOf l) _ HBODY.out).mono ?_
      rintro e w4 ⟨hg4, ⟨l', v4, ho4, rfl, hown4, hlt4⟩ | ⟨ho4, rfl⟩⟩
      · obtain ⟨A4, c4, rfl, hb4, _, hm4⟩ := own_bytes hown4 hlt4
        have hl4 : l'.length ≤ 9223372036854775807 := by simp only [maxLen] at hm4; omega
        have HB4 := Lib.hid hb4; have HO4 := Lib.hid ho4
        have HL4 := Lib.hid (bytes_keepN HL3.out hg4); have HG4 := Lib.hid (HG3.out.trans hg4)
        have HBK4 := Lib.hid (HBK2.out.grown hg4 (by simp)); have HZ4 := Lib.hid (HZ3.out.grown hg4 (by simp)); have HOV4 := Lib.hid (HOV.out.keep hg4 (by simp))
        clear hb4 ho4 hown4 hg4 hk0 hk1 hk2 hkl
        cases hd : decide (l' = l) with
        | true =>
          have HD2 := Lib.hid hd; clear hd
          go_wp2_with fail
          refine (same_any _ _ A4 (some ⟨g, o, none⟩) _ 256 c4 c l' l _ HB4.out HL4.out hl4 hn).mono ?_
          rintro e w5 ⟨rfl, hdr⟩
          have hg5 := drawn_grown hdr none
          have HG5 := Lib.hid (HG4.out.trans hg5)
          have HZ5 := Lib.hid (HZ4.out.grown hg5 (by simp)); have HOV5 := Lib.hid (HOV4.out.keep hg5 (by simp))
          have hbk5 := HBK4.out.grown hg5 (by simp)
          have hk1 := hbk5.cell 1
          have hk2 := hbk5.cell 2
          have hkl := hbk5.lt
          have y0 := HZ5.out.cell 0
          have y1 := HZ5.out.cell 1
          have yf0 := HZ5.out.frozen 0
          have yf1 := HZ5.out.frozen 1
          simp only [List.getElem?_toArray, List.getElem?_cons_zero, List.getElem?_cons_succ] at hk1 hk2 y0 y1
          clear hdr hg5 hbk5
          rw [HD2.out]
          go_wp2_with fail
          refine ret_row2 rfl w.heap.size 39 _ _ rfl (Blk.set2 HZ5.out) Try.underlying39 rfl (by kernel_rfl) rfl ⟨?_, .inl ⟨((num l 4 1 : Nat) : Int), bodyOf l, _, ?_, rfl, ?_, fun x hx => HBB.out.2.1 x hx⟩⟩
          · repeat (refine grown_set ?_ (Nat.le_refl _) _)
            exact HG5.out
          · have hl := of_decide_eq_true HD2.out
            subst hl
            rw [HR.out, if_neg HNZ.out, if_pos HO4.out]
          · rw [HBL.out]
            exact (Own.set_far (Own.set_far HOV5.out (by omega) _) (by omega) _).low (by omega)
        | false =>
          have HD2 := Lib.hid hd; clear hd
          go_wp2_with fail
          refine (same_any _ _ A4 (some ⟨g, o, none⟩) _ 256 c4 c l' l _ HB4.out HL4.out hl4 hn).mono ?_
          rintro e w5 ⟨rfl, hdr⟩
          have hg5 := drawn_grown hdr none
          have HG5 := Lib.hid (HG4.out.trans hg5)
          have HZ5 := Lib.hid (HZ4.out.grown hg5 (by simp))
          have y0 := HZ5.out.cell 0
          have y1 := HZ5.out.cell 1
          have yf0 := HZ5.out.frozen 0
          have yf1 := HZ5.out.frozen 1
          simp only [List.getElem?_toArray, List.getElem?_cons_zero, List.getElem?_cons_succ] at y0 y1
          clear hdr hg5
          rw [HD2.out]
          go_wp2_with fail
          refine ret_row2 rfl w.heap.size 39 _ _ rfl (Blk.set2 HZ5.out) Try.underlying39 rfl (by kernel_rfl) rfl ⟨?_, .inr ⟨?_, rfl⟩⟩
          · repeat (refine grown_set ?_ (Nat.le_refl _) _)
            exact HG5.out
          · have hl := of_decide_eq_false HD2.out
            rw [HR.out, if_neg HNZ.out, if_neg (by rw [HO4.out]; simpa using hl)]
      · have HG4 := Lib.hid (HG3.out.trans hg4); have HO4 := Lib.hid ho4
        have HZ5 := Lib.hid (HZ3.out.grown hg4 (by simp))
        have y0 := HZ5.out.cell 0
        have y1 := HZ5.out.cell 1
        have yf0 := HZ5.out.frozen 0
        have yf1 := HZ5.out.frozen 1
        simp only [List.getElem?_toArray, List.getElem?_cons_zero, List.getElem?_cons_succ] at y0 y1
        clear hg4 ho4 hk0 hk1 hk2 hkl
        go_wp2_with fail
        refine ret_row2 rfl w.heap.size 39 _ _ rfl (Blk.set2 HZ5.out) Try.underlying39 rfl (by kernel_rfl) rfl ⟨?_, .inr ⟨?_, rfl⟩⟩
        · repeat (refine grown_set ?_ (Nat.le_refl _) _)
          exact HG4.out
        · rw [HR.out, if_neg HNZ.out, if_neg (by rw [HO4.out]; simp)]
end Go.Proofs.Ytboccfficmaoaaa.Codec
/- The walks over the laws' own small functions for layer 2: ints, pages, nodes. -/
namespace Go.Proofs.Ytboccfficmaoaaa.Codec
open Go.RowKit CrcMath CodecMath Mem Crc

theorem ints_len {l l' : List Int} (h : l.length ≠ l'.length) : decide (l = l') = false := by
  rw [decide_eq_false_iff_not]; exact fun e => h (by rw [e])
theorem ints_no {l l' : List Int} (k : Nat) (h : l.getD k 0 ≠ l'.getD k 0) : decide (l = l') = false := by
  rw [decide_eq_false_iff_not]; exact fun e => h (by rw [e])
theorem ints_yes {l l' : List Int} (n : Nat) (h0 : l.length = n) (h1 : l'.length = n) (h : ∀ j, j < n → l.getD j 0 = l'.getD j 0) : decide (l = l') = true := by
  rw [decide_eq_true_iff]
  apply List.ext_getElem (by omega)
  intro i h2 h3
  have := h i (by omega)
  simpa [List.getD_eq_getElem?_getD, h2, h3] using this

set_option maxRecDepth 100000 in
set_option maxHeartbeats 800000 in
theorem ints_any (b b' : Nat) (A A' : Option Addr) (n n' c c' : Nat) (l l' : List Int) (w : World) (hl : Ints w b A n l) (hl' : Ints w b' A' n' l') (hn : n ≤ 9223372036854775807) (hn' : n' ≤ 9223372036854775807) :
    Calls Try.prog 24 #[.slice A n c, .slice A' n' c'] w fun e w' => e = .returned (.bool (decide (l = l'))) ∧ Drawn w w' := by
  by_cases hnn : n = n'
  · subst hnn
    have hsy := ints_yes (l := l) (l' := l') n hl.1 hl'.1
    have HSY := Lib.hid hsy; clear hsy
    have hsn := @ints_no l l'
    have HSN := Lib.hid hsn; clear hsn
    have HL := Lib.hid hl; have HL' := Lib.hid hl'; clear hl hl'
    generalize hd : decide (l = l') = d at *
    clear hd
    go_enter Try.func24, Try.ntmps24
    go_wp2
    go_loopw [5] (fun i wr => ∃ j : Nat, j ≤ n ∧ i = .int .i64 j ∧ (∀ q, q < j → l.getD q 0 = l'.getD q 0) ∧ Drawn w wr) (fun i _ => n - (intOf i).toNat)
    case atStart => exact ⟨0, by omega, rfl, fun q hq => by omega, Drawn.refl _⟩
    case round =>
      obtain ⟨j, hj, rfl, he, hw⟩ := hrel
      have HE := Lib.hid he; have HW := Lib.hid hw; clear he hw
      by_cases hlt : j < n
      · obtain ⟨g, o, rfl, _, _, hc⟩ := (ints_keep HL.out (drawn_grown HW.out none) (.inl rfl)).2.2 (by omega)
        obtain ⟨g', o', rfl, _, _, hc'⟩ := (ints_keep HL'.out (drawn_grown HW.out none) (.inl rfl)).2.2 (by omega)
        have hx := hc j hlt
        have hx' := hc' j hlt
        clear hc hc'
        have HXX := Lib.hid (fun h => HSN.out j h)
        have HEE : Hid (l.getD j 0 = l'.getD j 0 → ∀ q, q < j + 1 → l.getD q 0 = l'.getD q 0) := Lib.hid (fun h q hq => by
          by_cases e : q = j
          · subst e; exact h
          · exact HE.out q (by omega))
        generalize l.getD j 0 = x at *
        generalize l'.getD j 0 = y at *
        by_cases hxy : x = y
        · subst hxy
          have HE1 := Lib.hid (HEE.out rfl); clear HEE
          go_wp2_with fail
          go_region
          go_wp2_with fail
          go_roundw
          case rel => exact ⟨j + 1, by omega, by go_num, HE1.out, HW.out.drew⟩
          case measure => simp [intOf]; omega
        · have hne : (x != y) = true := by simp; omega
          have hd := HXX.out hxy
          have HD := Lib.hid hd; clear hd
          go_wp2_with fail
          go_region
          go_wp2
          go_ret
          exact ⟨by rw [HD.out]; rfl, HW.out.drew⟩
      · obtain rfl : j = n := by omega
        have hd := HSY.out HE.out
        have HD := Lib.hid hd; clear hd
        go_wp2
        go_ret
        exact ⟨by rw [HD.out]; rfl, HW.out⟩
  · have hd := ints_len (l := l) (l' := l') (by rw [hl.1, hl'.1]; exact hnn)
    have HD := Lib.hid hd; clear hd
    have hne : (((n : Nat) : Int) != ((n' : Nat) : Int)) = true := by simp; omega
    clear hl hl'
    go_enter Try.func24, Try.ntmps24
    go_wp2
    go_ret
    exact ⟨by rw [HD.out]; rfl, Drawn.refl _⟩
end Go.Proofs.Ytboccfficmaoaaa.Codec
/- The walk over the document's own answer for heads that are written: PutHead. -/
namespace Go.Proofs.Ytboccfficmaoaaa.Codec
open Go.RowKit CrcMath CodecMath Mem Crc

theorem headW_no1 {epoch seq : Int} {pages : List Int} {sum : Nat} (h : inB epoch 1099511627776 = false) : headW epoch seq pages sum = none := by
  rw [headW, if_neg (fun hh => inB_no h (headOk_iff hh).1)]
theorem headW_no2 {epoch seq : Int} {pages : List Int} {sum : Nat} (h : inB seq 1099511627776 = false) : headW epoch seq pages sum = none := by
  rw [headW, if_neg (fun hh => inB_no h (headOk_iff hh).2.1)]
theorem headW_no3 {epoch seq : Int} {pages : List Int} {sum : Nat} (h : pages.length < 1 ∨ 40 < pages.length) : headW epoch seq pages sum = none := by
  rw [headW, if_neg (fun hh => by have := headOk_iff hh; omega)]
theorem headW_no4 {epoch seq : Int} {pages : List Int} {sum : Nat} (j : Nat) (hj : j < pages.length) (h : inB (pages.getD j 0) 1023 = false) : headW epoch seq pages sum = none := by
  rw [headW, if_neg (fun hh => by have := (headOk_iff hh).2.2.2.2; rw [allB_no j hj h] at this; cases this)]
theorem headW_yes {epoch seq : Int} {pages : List Int} {sum : Nat} (n : Nat) (he : inB epoch 1099511627776 = true) (hs : inB seq 1099511627776 = true) (hn : pages.length = n) (h1 : 1 ≤ n) (h40 : n ≤ 40) (h : ∀ j, j < n → inB (pages.getD j 0) 1023 = true) :
    headW epoch seq pages sum = some (frame (headB epoch seq pages sum)) := by
  have : headOk epoch seq pages = true := by
    simp only [headOk, Bool.and_eq_true, decide_eq_true_eq]
    exact ⟨⟨⟨he, hs⟩, by omega, by omega⟩, allB_mk n hn h⟩
  rw [headW, if_pos this]

set_option maxRecDepth 100000 in
set_option maxHeartbeats 1600000 in
theorem ref_put_head (b : Nat) (epoch seq : Int) (A : Option Addr) (n c : Nat) (pages : List Int) (sum : Nat) (w : World) (hp : Ints w b A n pages) (hsum : sum < 4294967296) :
    Calls Try.prog 46 #[.agg #[.int .i64 epoch, .int .i64 seq, .slice A n c, .int .u32 ((sum : Nat) : Int)]] w (Wrote w (headW epoch seq pages sum)) := by
  have HPL := Lib.hid hp.1
  have HG0 := Lib.hid (World.grownBy_alloc w (.cells #[.int .i64 epoch, .int .i64 seq, .slice A n c, .int .u32 ((sum : Nat) : Int)] 34) none)
  have HP := Lib.hid hp; clear hp
  cases hib : inB epoch 1099511627776 with
  | false =>
    have HNO := Lib.hid (headW_no1 (seq := seq) (pages := pages) (sum := sum) hib)
    have HIB := Lib.hid hib; clear hib
    go_enter Try.func46, Try.ntmps46
    go_wp2_with fail
    refine (in_any epoch _ _).mono ?_
    rintro e w2 ⟨rfl, rfl⟩
    rw [HIB.out]
    go_wp2
    go_ret2
    exact ⟨HG0.out, .inr ⟨HNO.out, rfl⟩⟩
  | true =>
  cases hib' : inB seq 1099511627776 with
  | false =>
    have HNO := Lib.hid (headW_no2 (epoch := epoch) (pages := pages) (sum := sum) hib')
    have HIB := Lib.hid hib; have HIB' := Lib.hid hib'; clear hib hib'
    go_enter Try.func46, Try.ntmps46
    go_wp2_with fail
    refine (in_any epoch _ _).mono ?_
    rintro e w2 ⟨rfl, rfl⟩
    rw [HIB.out]
    go_wp2_with fail
    refine (in_any seq _ _).mono ?_
    rintro e w2 ⟨rfl, rfl⟩
    rw [HIB'.out]
    go_wp2
    go_ret2
    exact ⟨HG0.out, .inr ⟨HNO.out, rfl⟩⟩
  | true =>
  by_cases hn : n < 1 ∨ 40 < n
  · have HNO := Lib.hid (headW_no3 (epoch := epoch) (seq := seq) (pages := pages) (sum := sum) (by rw [HPL.out]; exact hn))
    have HIB := Lib.hid hib; have HIB' := Lib.hid hib'; clear hib hib'
    rcases hn with hn | hn
    all_goals
      go_enter Try.func46, Try.ntmps46
      go_wp2_with fail
      refine (in_any epoch _ _).mono ?_
      rintro e w2 ⟨rfl, rfl⟩
      rw [HIB.out]
      go_wp2_with fail
      refine (in_any seq _ _).mono ?_
      rintro e w2 ⟨rfl, rfl⟩
      rw [HIB'.out]
      go_wp2
      go_ret2
      exact ⟨HG0.out, .inr ⟨HNO.out, rfl⟩⟩
  obtain ⟨e0, e1⟩ := inB_yes hib
  obtain ⟨s0, s1⟩ := inB_yes hib'
  have hn1 : 1 ≤ n := by omega
  have hn40 : n ≤ 40 := by omega
  clear hn
  obtain ⟨ep, rfl⟩ := Int.eq_ofNat_of_zero_le e0
  obtain ⟨sq, rfl⟩ := Int.eq_ofNat_of_zero_le s0
  have HIB := Lib.hid hib; have HIB' := Lib.hid hib'; clear hib hib'
  have kc := run_const1
  have kd := run_const1d
  have hoc : Own ((w.alloc (.cells #[.int .i64 (ep : Int), .int .i64 (sq : Int), .slice A n c, .int .u32 ((sum : Nat) : Int)] 34)).alloc (.cells #[.int .u8 80, .int .u8 76, .int .u8 79, .int .u8 71] 5 (4, 5))).drew w.heap.size 5 1 (.slice (some ⟨w.heap.size + 1, 0, none⟩) 4 4) 4 (u8s [80, 76, 79, 71]) := by
    have h := own_const (w.alloc (.cells #[.int .i64 (ep : Int), .int .i64 (sq : Int), .slice A n c, .int .u32 ((sum : Nat) : Int)] 34)) w.heap.size 4 #[.int .u8 80, .int .u8 76, .int .u8 79, .int .u8 71] [80, 76, 79, 71] rfl rfl (by simp [maxLen]) (by simp)
    simpa using h.drew
  have HOC := Lib.hid hoc; clear hoc
  have HC0a := Lib.hid (((Blk.new w 34 #[.int .i64 (ep : Int), .int .i64 (sq : Int), .slice A n c, .int .u32 ((sum : Nat) : Int)]).alloc (.cells #[.int .u8 80, .int .u8 76, .int .u8 79, .int .u8 71] 5)).drew)
  have HC0 := Lib.hid (((Blk.new w 34 #[.int .i64 (ep : Int), .int .i64 (sq : Int), .slice A n c, .int .u32 ((sum : Nat) : Int)]).alloc (.cells #[.int .u8 80, .int .u8 76, .int .u8 79, .int .u8 71] 5 (4, 5))).drew)
  have HG1 := Lib.hid ((HG0.out.trans (World.grownBy_alloc _ (.cells #[.int .u8 80, .int .u8 76, .int .u8 79, .int .u8 71] 5 (4, 5)) none)).trans (grown_drew _ none))
  have hu32 := IntWalk.i64_in ((sum : Nat) : Int) (by omega)
  have HU32 := Lib.hid hu32; clear hu32
  go_enter Try.func46, Try.ntmps46
  go_wp2_with fail
  refine (in_any (ep : Int) _ _).mono ?_
  rintro e w2 ⟨rfl, rfl⟩
  rw [HIB.out]
  go_wp2_with fail
  refine (in_any (sq : Int) _ _).mono ?_
  rintro e w2 ⟨rfl, rfl⟩
  rw [HIB'.out]
  go_upto_region 3 with fail
  go_cut [4] (fun s4 wx => Own wx w.heap.size 5 1 s4 20 (u8s ([80, 76, 79, 71] ++ be 8 ep ++ be 8 sq)) ∧ w.grownBy wx none ∧ wx.cell? ⟨w.heap.size, 2, none⟩ = some (.slice A n c) ∧ wx.cell? ⟨w.heap.size, 3, none⟩ = some (.int .u32 ((sum : Nat) : Int)) ∧ s4.ownBlock ≠ some w.heap.size)
  case first =>
    refine wp_region_held_drew (S := fun w' => w'.cell? ⟨w.heap.size, 0, none⟩ = some (.int .i64 ep) ∧ w'.cell? ⟨w.heap.size, 1, none⟩ = some (.int .i64 sq)) (by kernel_rfl) ?_ (fun hHeld => ?_)
    · have h := ((Blk.new w 34 #[.int .i64 (ep : Int), .int .i64 (sq : Int), .slice A n c, .int .u32 ((sum : Nat) : Int)]).drew)
      exact ⟨h.cell 0, h.cell 1⟩
    refine wpAnyH_take (i := 2) (v := .pointer (some ⟨w.heap.size, 0, none⟩)) rfl (by kernel_rfl) (by kernel_rfl) (by kernel_rfl) (fun _ _ _ h => h) (Or.inl ⟨by rfl, ?_⟩) (by assumption) ?_
    · intro w1 hSw; (try dsimp only at hSw); go_simp
    simp only [Act.put, List.getElem_toArray, List.getElem_cons_succ, List.getElem_cons_zero, List.setIfInBounds_toArray, List.set_cons_zero, List.set_cons_succ]
    refine wpAnyH_take (i := 3) (v := .int .i64 ep) rfl (by kernel_rfl) (by kernel_rfl) (by kernel_rfl) (fun _ _ _ h => h) (Or.inl ⟨by rfl, ?_⟩) (by assumption) ?_
    · intro w1 hSw; (try dsimp only at hSw); go_simp
    simp only [Act.put, List.getElem_toArray, List.getElem_cons_succ, List.getElem_cons_zero, List.setIfInBounds_toArray, List.set_cons_zero, List.set_cons_succ]
    refine wpAnyH_take (i := 5) (v := .pointer (some ⟨w.heap.size, 1, none⟩)) rfl (by kernel_rfl) (by kernel_rfl) (by kernel_rfl) (fun _ _ _ h => h) (Or.inl ⟨by rfl, ?_⟩) (by assumption) ?_
    · intro w1 hSw; (try dsimp only at hSw); go_simp
    simp only [Act.put, List.getElem_toArray, List.getElem_cons_succ, List.getElem_cons_zero, List.setIfInBounds_toArray, List.set_cons_zero, List.set_cons_succ]
    refine wpAnyH_take (i := 6) (v := .int .i64 sq) rfl (by kernel_rfl) (by kernel_rfl) (by kernel_rfl) (fun _ _ _ h => h) (Or.inl ⟨by rfl, ?_⟩) (by assumption) ?_
    · intro w1 hSw; (try dsimp only at hSw); go_simp
    simp only [Act.put, List.getElem_toArray, List.getElem_cons_succ, List.getElem_cons_zero, List.setIfInBounds_toArray, List.set_cons_zero, List.set_cons_succ]
    refine wpAnyH_ready (rs := [0]) (by kernel_rfl) (by simp) ?_
    refine AllReadyH.cons rfl (fun K hK => ?_) AllReadyH.nil
    go_simp
    refine hK.out _ _ ⟨HC0a.out.cell 0, HC0a.out.cell 1⟩ (fun hHeld => ?_)
    clear hK K
    refine wpAnyH_ready (rs := [1]) (by kernel_rfl) (by simp) ?_
    refine AllReadyH.cons rfl (fun K hK => ?_) AllReadyH.nil
    go_simp
    refine hK.out _ _ ⟨HC0.out.cell 0, HC0.out.cell 1⟩ (fun hHeld => ?_)
    clear hK K
    refine wpAnyH_ready (rs := [4]) (by kernel_rfl) (by simp) ?_
    refine AllReadyH.cons rfl (fun K hK => ?_) AllReadyH.nil
    go_simp
    refine (put_any w.heap.size (.slice (some ⟨w.heap.size + 1, 0, none⟩) 4 4) 4 [80, 76, 79, 71] ep 8 _ HOC.out HG1.out.size (by omega) (by omega)).mono ?_
    rintro e w1 ⟨v1, rfl, ho1, hg1⟩
    have HO1 := Lib.hid ho1
    have HG2 := Lib.hid hg1
    clear ho1 hg1
    go_wp2_with fail
    refine hK.out _ _ ⟨HG2.out.1.cell (HC0.out.cell 0) (by simp [Value.ownBlock]), HG2.out.1.cell (HC0.out.cell 1) (by simp [Value.ownBlock])⟩ (fun hHeld => ?_)
    clear hK K
    refine wpAnyH_ready (rs := [7]) (by kernel_rfl) (by simp) ?_
    refine AllReadyH.cons rfl (fun K hK => ?_) AllReadyH.nil
    go_simp
    refine (put_any w.heap.size v1 12 ([80, 76, 79, 71] ++ be 8 ep) sq 8 _ HO1.out (Nat.le_trans HG1.out.size HG2.out.1.size) (by omega) (by omega)).mono ?_
    rintro e w2 ⟨v2, rfl, ho2, hg2⟩
    have HO2 := Lib.hid ho2
    have HG3 := Lib.hid hg2
    clear ho2 hg2
    go_wp2_with fail
    refine hK.out _ _ ⟨(HG2.out.trans HG3.out).1.cell (HC0.out.cell 0) (by simp [Value.ownBlock]), (HG2.out.trans HG3.out).1.cell (HC0.out.cell 1) (by simp [Value.ownBlock])⟩ (fun hHeld => ?_)
    clear hK K
    refine wpAnyH_ready (rs := [8]) (by kernel_rfl) (by simp) ?_
    refine AllReadyH.cons rfl (fun K hK => ?_) AllReadyH.nil
    go_simp
    refine hK.out _ _ ⟨(HG2.out.trans HG3.out).1.cell (HC0.out.cell 0) (by simp [Value.ownBlock]), (HG2.out.trans HG3.out).1.cell (HC0.out.cell 1) (by simp [Value.ownBlock])⟩ (fun hHeld => ?_)
    clear hK K
    refine wpAnyH_done (by kernel_rfl) ?_ _
    go_wp2_with fail
    go_meet
    exact ⟨HO2.out, grownBy_new (grownBy_new HG1.out HG2.out.1 (fun j hj => by simp [Value.ownBlock] at hj; omega)) HG3.out.1 (fun j hj => (HO1.out.base_ j hj).1), (HG2.out.trans HG3.out).1.cell (HC0.out.cell 2) (by simp [Value.ownBlock]), (HG2.out.trans HG3.out).1.cell (HC0.out.cell 3) (by simp [Value.ownBlock]), Grew.apart (HG2.out.trans HG3.out) HC0.out.lt (by simp [Value.ownBlock])⟩
  case rest =>
    obtain ⟨ho, hg, hc2, hc3, hne⟩ := hcut
    have HO := Lib.hid ho; have HG := Lib.hid hg; have HCC := Lib.hid (And.intro hc2 hc3); have HNE := Lib.hid hne
    clear ho hg hc2 hc3 hne kc kd
    have hsz := HG.out.size
    have hub : ((sum : Nat) : Int) ≤ 4294967295 := by omega
    have hub0 : (0 : Int) ≤ ((sum : Nat) : Int) := by omega
    have hlt0 := World.block_lt_of_cell? wc ⟨w.heap.size, 2, none⟩ HCC.out.1
    have hwr : IntKind.i64.wrap ((sum : Nat) : Int) = ((sum : Nat) : Int) := by rw [IntKind.wrap_i64]; omega
    have HWR := Lib.hid hwr; clear hwr
    have hc2 := HCC.out.1
    have hc3 := HCC.out.2
    go_upto_region 4 with fail
    go_cut [4] (fun s4 wx => Own wx w.heap.size 5 1 s4 26 (u8s (headP ep sq pages sum)) ∧ w.grownBy wx none ∧ wx.cell? ⟨w.heap.size, 2, none⟩ = some (.slice A n c) ∧ s4.ownBlock ≠ some w.heap.size)
    case first =>
      have hn4 : (4 : Nat) ≤ 8 := by omega
      have hn2 : (2 : Nat) ≤ 8 := by omega
      have hm20 : (20 : Nat) ≤ 70368744177664 := by omega
      have hm24 : (24 : Nat) ≤ 70368744177664 := by omega
      go_region_law (first
        | (go_simp
           go_at_call_of 78 (Value.int IntKind.i64 4)
           rw [HWR.out]
           refine (put_any w.heap.size _ 20 ([80, 76, 79, 71] ++ be 8 ep ++ be 8 sq) sum 4 _ ?_ ?_ ?_ ?_).mono ?_
           exact HO.out.drew
           exact hsz
           exact hn4
           exact hm20
           rintro e w3 ⟨v3, rfl, ho3, hg3⟩
           have hga := Grew.behind (grown_drew wc none) hg3
           have hc23 := hga.1.cell HCC.out.1 (fun e => HNE.out e.symm)
           have HOa := Lib.hid ho3; have HGa := Lib.hid hga
           clear ho3 hg3 hga)
        | (go_simp
           go_at_call_of 78 (Value.int IntKind.i64 2)
           refine (put_any w.heap.size _ 24 ([80, 76, 79, 71] ++ be 8 ep ++ be 8 sq ++ be 4 sum) n 2 _ ?_ ?_ ?_ ?_).mono ?_
           exact HOa.out
           exact Nat.le_trans hsz HGa.out.1.size
           exact hn2
           exact hm24
           rintro e w4 ⟨v4, rfl, ho4, hg4⟩
           have HOb := Lib.hid ho4; have HGb := Lib.hid hg4
           clear ho4 hg4))
      all_goals
        go_wp2_with fail
        go_meet
        have hpre : [80, 76, 79, 71] ++ be 8 ep ++ be 8 sq ++ be 4 sum ++ be 2 n = headP ep sq pages sum := by simp [headP, HPL.out]
        have ho4 := HOb.out
        rw [hpre] at ho4
        exact ⟨ho4, grownBy_new HG.out (HGa.out.trans HGb.out).1 (fun i hi => (HO.out.base_ i hi).1), (HGa.out.trans HGb.out).1.cell HCC.out.1 (fun e => HNE.out e.symm), Grew.apart (HGa.out.trans HGb.out) hlt0 HNE.out⟩
    case rest =>
     obtain ⟨ho4, hgw, hc4, hne4⟩ := hcut
     have HO4 := Lib.hid ho4; have HGw := Lib.hid hgw; have HC4 := Lib.hid hc4; have HN4 := Lib.hid hne4
     clear ho4 hgw hne4 hc2 hc3
     go_wp2_with fail
     go_loopw [4, 5] (fun u i wr => ∃ j : Nat, j ≤ n ∧ i = .int .i64 j ∧ Own wr w.heap.size 5 1 u (26 + 4 * j) (u8s (headP ep sq pages sum ++ (pages.take j).flatMap fun n => be 4 n.toNat)) ∧ w.grownBy wr none ∧ wr.cell? ⟨w.heap.size, 2, none⟩ = some (.slice A n c) ∧ u.ownBlock ≠ some w.heap.size ∧ (∀ q, q < j → inB (pages.getD q 0) 1023 = true)) (fun _ i _ => n - (intOf i).toNat)
     case atStart => exact ⟨0, by omega, rfl, by simpa using HO4.out, HGw.out, HC4.out, HN4.out, fun q hq => by omega⟩
     case round =>
       obtain ⟨j, hj, rfl, ho, hg, hcx, hne, hin⟩ := hrel
       have HOr := Lib.hid ho; have HGr := Lib.hid hg; have HNEr := Lib.hid hne; have HIN := Lib.hid hin; have HCX := Lib.hid hcx
       clear ho hg hne hin
       by_cases hlt : j < n
       · obtain ⟨g, o, rfl, _, _, hck⟩ := (ints_keep HP.out HGr.out (.inl rfl)).2.2 (by omega)
         have hcj := hck j hlt
         clear hck
         have j0 : (0 : Int) ≤ j := by omega
         have j1 : (j : Int) < n := by omega
         cases hib : inB (pages.getD j 0) 1023 with
         | false =>
           have HNO := Lib.hid (headW_no4 (epoch := ep) (seq := sq) (sum := sum) j (by rw [HPL.out]; exact hlt) hib)
           generalize pages.getD j 0 = x at *
           have HIX := Lib.hid hib; clear hib
           go_wp2_with fail
           refine (in_any x _ _).mono ?_
           rintro e w5 ⟨rfl, rfl⟩
           rw [HIX.out]
           go_wp2
           go_ret2
           exact ⟨HGr.out, .inr ⟨HNO.out, rfl⟩⟩
         | true =>
           have htf := take_flat pages 4 j (by rw [HPL.out]; exact hlt)
           have HTF := Lib.hid htf; clear htf
           have hin' : ∀ q, q < j + 1 → inB (pages.getD q 0) 1023 = true := by
             intro q hq
             by_cases e : q = j
             · subst e; exact hib
             · exact HIN.out q (by omega)
           have HIN' := Lib.hid hin'; clear hin'
           generalize pages.getD j 0 = x at *
           obtain ⟨hx0, hx1⟩ := inB_yes hib
           have HIX := Lib.hid hib; clear hib
           obtain ⟨m, rfl⟩ := Int.eq_ofNat_of_zero_le hx0
           rw [Int.toNat_natCast] at HTF
           go_wp2_with fail
           refine (in_any (m : Int) _ _).mono ?_
           rintro e w5 ⟨rfl, rfl⟩
           rw [HIX.out]
           go_wp2_with fail
           have hszr := HGr.out.size
           refine (put_any w.heap.size _ _ _ m 4 _ HOr.out hszr (by omega) (by omega)).mono ?_
           rintro e w5 ⟨v', rfl, ho', hg'⟩
           have HO' := Lib.hid ho'; have HG' := Lib.hid hg'; clear ho' hg'
           go_wp2_with fail
           go_roundw
           case measure => simp [intOf]; omega
           case rel =>
             refine ⟨j + 1, by omega, by go_num, ?_, grownBy_new HGr.out HG'.out.1 (fun i hi => (HOr.out.base_ i hi).1), HG'.out.1.cell HCX.out (fun e => HNEr.out e.symm), Grew.apart HG'.out (World.block_lt_of_cell? _ ⟨w.heap.size, 2, none⟩ HCX.out) HNEr.out, HIN'.out⟩
             rw [HTF.out, ← List.append_assoc, show 26 + 4 * (j + 1) = 26 + 4 * j + 4 from by omega]
             exact HO'.out
       · obtain rfl : j = n := by omega
         have hyes := headW_yes (epoch := ep) (seq := sq) (sum := sum) j HIB.out HIB'.out HPL.out hn1 hn40 HIN.out
         have HY := Lib.hid hyes; clear hyes
         have ho := HOr.out
         rw [List.take_of_length_le (by rw [HPL.out]; omega)] at ho
         have HO7 := Lib.hid ho; clear ho
         have hszr := HGr.out.size
         go_wp2_with fail
         refine (framed_any w.heap.size _ _ (headB ep sq pages sum) _ HO7.out hszr (by omega) (headB_lt _ _ _ _)).mono ?_
         rintro e w5 ⟨v', rfl, ho', hg'⟩
         have HO' := Lib.hid ho'; have HG' := Lib.hid hg'; clear ho' hg'
         go_wp2
         go_ret2
         refine ⟨grownBy_new HGr.out HG'.out.1 (fun i hi => (HOr.out.base_ i hi).1), .inl ⟨_, v', HY.out, rfl, ?_, frame_lt _ (headB_lt _ _ _ _)⟩⟩
         rw [frame_length _ (by rw [headB_len, HPL.out]; omega)]
         exact HO'.out
end Go.Proofs.Ytboccfficmaoaaa.Codec
/- The walk over the document's own answer for images of a log that are read: GetImage. -/
namespace Go.Proofs.Ytboccfficmaoaaa.Codec
open Go.RowKit CrcMath CodecMath Mem Crc

/-- What a call that reads an image leaves. -/
def ToldImage (w : World) (r : Option (Int × Int × Int × Int × List Nat)) (e : Ending) (w' : World) : Prop :=
  w.grownBy w' none ∧ ((∃ epoch seq number kind body v, r = some (epoch, seq, number, kind, body) ∧ e = .returned (.tuple #[.int .i64 epoch, .int .i64 seq, .agg #[.int .i64 number, .int .i64 kind, v], .bool true]) ∧ Own w' w.heap.size 5 1 v body.length (u8s body) ∧ ∀ x ∈ body, x < 256) ∨
    (r = none ∧ e = .returned (.tuple #[.int .i64 0, .int .i64 0, .agg #[.int .i64 0, .int .i64 0, .slice none 0 0], .bool false])))

set_option maxRecDepth 100000 in
set_option maxHeartbeats 1600000 in
theorem ref_get_image (b : Nat) (A : Option Addr) (n c : Nat) (l : List Nat) (w : World) (hl : Bytes w b A n l) (hn : n ≤ 9223372036854775807) (hnc : n ≤ c) :
    Calls Try.prog 16 #[.slice A n c] w (ToldImage w (imageR l)) := by
  obtain ⟨i0, hi0, hz0, hz1, hz2⟩ := info_parts byte_info
  have hi := Lib.hid hi0; have z0 := Lib.hid hz0; have z1 := Lib.hid hz1; have z2 := Lib.hid hz2; clear hi0 hz0 hz1 hz2
  have hr : imageR l = if imageW (num l 3 4) (num l 7 5) (num l 1 2) (num l 0 1) (bodyOf l) = some l then some ((num l 3 4 : Int), (num l 7 5 : Int), (num l 1 2 : Int), (num l 0 1 : Int), bodyOf l) else none := rfl
  have HR := Lib.hid hr; clear hr
  have HLT := Lib.hid hl.2.1
  have HLEN := Lib.hid hl.1
  have hg0 := World.grownBy_alloc w (.cells #[.int .i64 0, .int .i64 0, .slice none 0 0] 46) none
  have HL2 := Lib.hid (bytes_keepN hl hg0)
  have HZ2 := Lib.hid (Blk.new w 46 #[.int .i64 0, .int .i64 0, .slice none 0 0])
  have HG2 := Lib.hid hg0
  have HL0 := Lib.hid hl
  clear hl hg0
  have HW1 := Lib.hid (num_small l 1 2 HLT.out (by omega)).1
  have HW2 := Lib.hid (num_small l 0 1 HLT.out (by omega)).1
  have HW3 := Lib.hid (num_small l 3 4 HLT.out (by omega)).1
  have HW4 := Lib.hid (num_small l 7 5 HLT.out (by omega)).1
  generalize imageR l = r at *
  by_cases h256 : n = 256
  case neg =>
    have hne : (((n : Nat) : Int) != 256) = true := by simp; omega
    have hnw : imageW (num l 3 4) (num l 7 5) (num l 1 2) (num l 0 1) (bodyOf l) ≠ some l := fun e => h256 (by have := imageW_len e; rw [HLEN.out] at this; exact this)
    have HNW := Lib.hid hnw; clear hnw
    go_enter Try.func16, Try.ntmps16
    go_wp2_with fail
    first
      | exact ret_row4 rfl w.heap.size 46 _ _ rfl HZ2.out Try.underlying46 rfl (by kernel_rfl) rfl ⟨HG2.out, .inr ⟨by rw [HR.out, if_neg HNW.out], rfl⟩⟩
      | (refine ret_row4 rfl w.heap.size 46 _ _ rfl (Blk.set3 HZ2.out) Try.underlying46 rfl (by kernel_rfl) rfl ⟨?_, .inr ⟨by rw [HR.out, if_neg HNW.out], rfl⟩⟩
         repeat (refine grown_set ?_ (Nat.le_refl _) _)
         exact HG2.out)
  subst h256
  go_enter Try.func16, Try.ntmps16
  go_wp2_with fail
  refine (number_any b A 256 c l 1 2 _ HL2.out (by omega)).mono ?_
  rintro e w3 ⟨rfl, rfl⟩
  rw [HW1.out]
  go_wp2_with fail
  refine (number_any b A 256 c l 0 1 _ HL2.out (by omega)).mono ?_
  rintro e w3 ⟨rfl, rfl⟩
  rw [HW2.out]
  obtain ⟨g, o, rfl, hbb⟩ := bodyOf_bytes HL2.out hnc
  have HBB := Lib.hid hbb; clear hbb
  have hc252 : (252 : Int) ≤ c := by omega
  have hc12 : ¬ c = 12 := by omega
  go_upto_region 4 with fail
  have hb1 : Blk ((w.alloc (.cells #[.int .i64 0, .int .i64 0, .slice none 0 0] 46)).alloc (.cells #[.int .i64 ((num l 1 2 : Nat) : Int), .int .i64 ((num l 0 1 : Nat) : Int), .slice none 0 0] 46)) (w.heap.size + 1) 46 #[.int .i64 ((num l 1 2 : Nat) : Int), .int .i64 ((num l 0 1 : Nat) : Int), .slice none 0 0] := by simpa using Blk.new (w.alloc (.cells #[.int .i64 0, .int .i64 0, .slice none 0 0] 46)) 46 #[.int .i64 ((num l 1 2 : Nat) : Int), .int .i64 ((num l 0 1 : Nat) : Int), .slice none 0 0]
  have hk2 := hb1.cell 2
  have hkf2 := hb1.frozen 2
  simp only [List.getElem?_toArray, List.getElem?_cons_zero, List.getElem?_cons_succ] at hk2
  have HBK := Lib.hid hb1; clear hb1
  have HGw := Lib.hid (HG2.out.trans (World.grownBy_alloc (w.alloc (.cells #[.int .i64 0, .int .i64 0, .slice none 0 0] 46)) (.cells #[.int .i64 ((num l 1 2 : Nat) : Int), .int .i64 ((num l 0 1 : Nat) : Int), .slice none 0 0] 46) none))
  have HGa := Lib.hid (World.grownBy_alloc (w.alloc (.cells #[.int .i64 0, .int .i64 0, .slice none 0 0] 46)) (.cells #[.int .i64 ((num l 1 2 : Nat) : Int), .int .i64 ((num l 0 1 : Nat) : Int), .slice none 0 0] 46) none)
  have HZa := Lib.hid (HZ2.out.alloc (.cells #[.int .i64 ((num l 1 2 : Nat) : Int), .int .i64 ((num l 0 1 : Nat) : Int), .slice none 0 0] 46))
  go_cut [6] (fun s6 wx => ∃ v : Value, s6 = .pointer (some ⟨w.heap.size + 1, 0, none⟩) ∧ Blk wx (w.heap.size + 1) 46 #[.int .i64 ((num l 1 2 : Nat) : Int), .int .i64 ((num l 0 1 : Nat) : Int), v] ∧ Own wx (w.heap.size + 2) 5 1 v 240 (u8s (bodyOf l)) ∧ w.grownBy wx none ∧ Blk wx w.heap.size 46 #[.int .i64 0, .int .i64 0, .slice none 0 0])
  case first =>
    go_region_law (first
      | (refine step_append_own_full _ rfl (.tmp 23) (.tmp 25) _ rfl (w.heap.size + 2) 5 i0 _ 1 1 Try.underlying22 hi.out z0.out z1.out z2.out rfl (by omega) (.slice none 0 0) 0 [] (by rfl) (Own.nil _ _ _ _)
           _ (some ⟨g, o + 12, none⟩) 240 _ (u8s (bodyOf l)) (by rfl) (bytes_drew (bytes_keepN HBB.out HGa.out)).reads (u8s_one _) (by simp only [maxLen]; omega) (by omega) (by simp) ?_
         intro v' w' hown' hgr'
         obtain ⟨A2, c2, hv2, _, _, _⟩ := hown'.shape
         subst hv2
         have hb1 := HBK.out.drew.grown hgr'.1 (by simp [Value.ownBlock])
         have hc1' := hb1.cell 2
         have hf1' := hb1.frozen 2
         simp only [List.getElem?_toArray, List.getElem?_cons_zero, List.getElem?_cons_succ] at hc1'
         have HB1' := Lib.hid hb1
         have HZ' := Lib.hid (HZa.out.drew.grown hgr'.1 (by simp [Value.ownBlock]))
         have HO' := Lib.hid hown'; have HGR' := Lib.hid hgr'; clear hown' hgr' hb1))
    all_goals
      go_wp2_with fail
      go_meet
      exact ⟨_, rfl, HB1'.out.set_ 2 _, Own.set_far HO'.out (by omega) _, grown_set (grownBy_new ((HGw.out).trans (grown_drew _ none)) HGR'.out.1 (fun j hj => by simp [Value.ownBlock] at hj)) (by omega) _, HZ'.out.far (by simp) _⟩
  case rest =>
    obtain ⟨v, rfl, hbk, hov, hgw, hzz⟩ := hcut
    obtain ⟨A2, c2, rfl, hbody, hc2, hm2⟩ := own_bytes hov (fun x hx => HBB.out.2.1 x hx)
    have HBK2 := Lib.hid hbk; have HOV := Lib.hid hov; have HBODY := Lib.hid hbody
    have HZ3 := Lib.hid hzz; have HG3 := Lib.hid hgw; have HL3 := Lib.hid (bytes_keepN HL0.out hgw)
    clear hgw hov hbody hbk hk2 hkf2 hzz
    have hk0 := HBK2.out.cell 0
    have hk1 := HBK2.out.cell 1
    have hk2 := HBK2.out.cell 2
    have hkl := HBK2.out.lt
    simp only [List.getElem?_toArray, List.getElem?_cons_zero, List.getElem?_cons_succ] at hk0 hk1 hk2
    have hbl : (bodyOf l).length = 240 := HBB.out.1
    have HBL := Lib.hid hbl; clear hbl
    go_wp2_with fail
    refine (number_any b (some ⟨g, o, none⟩) 256 c l 3 4 _ HL3.out (by omega)).mono ?_
    rintro e w3 ⟨rfl, rfl⟩
    rw [HW3.out]
    go_wp2_with fail
    refine (number_any b (some ⟨g, o, none⟩) 256 c l 7 5 _ HL3.out (by omega)).mono ?_
    rintro e w3 ⟨rfl, rfl⟩
    rw [HW4.out]
    go_wp2_with fail
    refine (ref_put_image _ ((num l 3 4 : Nat) : Int) ((num l 7 5 : Nat) : Int) ((num l 1 2 : Nat) : Int) ((num l 0 1 : Nat) : Int) A2 240 c2 (bodyOf l) _ HBODY.out).mono ?_
    rintro e w4 ⟨hg4, ⟨l', v4, ho4, rfl, hown4, hlt4⟩ | ⟨ho4, rfl⟩⟩
    · obtain ⟨A4, c4, rfl, hb4, _, hm4⟩ := own_bytes hown4 hlt4
      have hl4 : l'.length ≤ 9223372036854775807 := by simp only [maxLen] at hm4; omega
      have HB4 := Lib.hid hb4; have HO4 := Lib.hid ho4
      have HL4 := Lib.hid (bytes_keepN HL3.out hg4); have HG4 := Lib.hid (HG3.out.trans hg4)
      have HBK4 := Lib.hid (HBK2.out.grown hg4 (by simp)); have HZ4 := Lib.hid (HZ3.out.grown hg4 (by simp)); have HOV4 := Lib.hid (HOV.out.keep hg4 (by simp))
      clear hb4 ho4 hown4 hg4 hk0 hk1 hk2 hkl
      cases hd : decide (l' = l) with
      | true =>
        have HD2 := Lib.hid hd; clear hd
        go_wp2_with fail
        refine (same_any _ _ A4 (some ⟨g, o, none⟩) _ 256 c4 c l' l _ HB4.out HL4.out hl4 hn).mono ?_
        rintro e w5 ⟨rfl, hdr⟩
        have hg5 := drawn_grown hdr none
        have HG5 := Lib.hid (HG4.out.trans hg5)
        have HZ5 := Lib.hid (HZ4.out.grown hg5 (by simp)); have HOV5 := Lib.hid (HOV4.out.keep hg5 (by simp))
        have hbk5 := HBK4.out.grown hg5 (by simp)
        have hk0 := hbk5.cell 0
        have hk1 := hbk5.cell 1
        have hk2 := hbk5.cell 2
        have hkl := hbk5.lt
        have y0 := HZ5.out.cell 0
        have yf0 := HZ5.out.frozen 0
        have y1 := HZ5.out.cell 1
        have yf1 := HZ5.out.frozen 1
        have y2 := HZ5.out.cell 2
        have yf2 := HZ5.out.frozen 2
        simp only [List.getElem?_toArray, List.getElem?_cons_zero, List.getElem?_cons_succ] at hk0 hk1 hk2 y0 y1 y2
        clear hdr hg5 hbk5
        rw [HD2.out]
        go_wp2_with fail
        go_region
        all_goals
          go_wp2_with fail
          refine ret_row4 rfl w.heap.size 46 _ _ rfl (Blk.set3 HZ5.out.drew) Try.underlying46 rfl (by kernel_rfl) rfl ⟨?_, .inl ⟨_, _, _, _, bodyOf l, _, ?_, rfl, ?_, fun x hx => HBB.out.2.1 x hx⟩⟩
          · refine World.grownBy.trans ?_ (grown_drew _ none)
            repeat (refine grown_set ?_ (Nat.le_refl _) _)
            exact HG5.out
          · have hl := of_decide_eq_true HD2.out
            subst hl
            rw [HR.out, if_pos HO4.out]
          · rw [HBL.out]
            exact (Own.set_far (Own.set_far (Own.set_far HOV5.out.drew (by omega) _) (by omega) _) (by omega) _).low (by omega)
      | false =>
        have HD2 := Lib.hid hd; clear hd
        go_wp2_with fail
        refine (same_any _ _ A4 (some ⟨g, o, none⟩) _ 256 c4 c l' l _ HB4.out HL4.out hl4 hn).mono ?_
        rintro e w5 ⟨rfl, hdr⟩
        have hg5 := drawn_grown hdr none
        have HG5 := Lib.hid (HG4.out.trans hg5)
        have HZ5 := Lib.hid (HZ4.out.grown hg5 (by simp))
        have y0 := HZ5.out.cell 0
        have yf0 := HZ5.out.frozen 0
        have y1 := HZ5.out.cell 1
        have yf1 := HZ5.out.frozen 1
        have y2 := HZ5.out.cell 2
        have yf2 := HZ5.out.frozen 2
        simp only [List.getElem?_toArray, List.getElem?_cons_zero, List.getElem?_cons_succ] at y0 y1 y2
        clear hdr hg5
        rw [HD2.out]
        go_wp2_with fail
        refine ret_row4 rfl w.heap.size 46 _ _ rfl (Blk.set3 HZ5.out) Try.underlying46 rfl (by kernel_rfl) rfl ⟨?_, .inr ⟨?_, rfl⟩⟩
        · repeat (refine grown_set ?_ (Nat.le_refl _) _)
          exact HG5.out
        · have hl := of_decide_eq_false HD2.out
          rw [HR.out, if_neg (by rw [HO4.out]; simpa using hl)]
    · have HG4 := Lib.hid (HG3.out.trans hg4); have HO4 := Lib.hid ho4
      have HZ5 := Lib.hid (HZ3.out.grown hg4 (by simp))
      have y0 := HZ5.out.cell 0
      have yf0 := HZ5.out.frozen 0
      have y1 := HZ5.out.cell 1
      have yf1 := HZ5.out.frozen 1
      have y2 := HZ5.out.cell 2
      have yf2 := HZ5.out.frozen 2
      simp only [List.getElem?_toArray, List.getElem?_cons_zero, List.getElem?_cons_succ] at y0 y1 y2
      clear hg4 ho4 hk0 hk1 hk2 hkl
      go_wp2_with fail
      refine ret_row4 rfl w.heap.size 46 _ _ rfl (Blk.set3 HZ5.out) Try.underlying46 rfl (by kernel_rfl) rfl ⟨?_, .inr ⟨?_, rfl⟩⟩
      · repeat (refine grown_set ?_ (Nat.le_refl _) _)
        exact HG4.out
      · rw [HR.out, if_neg (by rw [HO4.out]; simp)]
end Go.Proofs.Ytboccfficmaoaaa.Codec
