/- The walk over the document's own answer for pages that are read: GetPage. -/
import Derived.Test.YtkiohneggoiipaaRefImage
import Derived.Test.YtkiohneggoiipaaRefNodeGet
import Derived.IntWalk
namespace Go.Proofs.Ytkiohneggoiipaa.Codec
open Go.RowKit CrcMath CodecMath Mem Crc

/-- What a call that reads a page leaves. -/
def ToldPage (w : World) (o : Option (Int × List Nat)) (e : Ending) (w' : World) : Prop :=
  w.grownBy w' none ∧ ((∃ kind body v, o = some (kind, body) ∧ e = .returned (.tuple #[.agg #[.int .i64 kind, v], .bool true]) ∧ Own w' w.heap.size 5 1 v body.length (u8s body) ∧ ∀ x ∈ body, x < 256) ∨
    (o = none ∧ e = .returned (.tuple #[.agg #[.int .i64 0, .slice none 0 0], .bool false])))
theorem bodyOf_bytes {w : World} {b c : Nat} {A : Option Addr} {l : List Nat} (h : Bytes w b A 256 l) (_hc : 256 ≤ c) :
    ∃ g o, A = some ⟨g, o, none⟩ ∧ Bytes w b (some ⟨g, o + 12, none⟩) 240 (bodyOf l) := by
  obtain ⟨hlen, hlt, hc⟩ := h
  obtain ⟨g, o, rfl, hg, hne, hcell⟩ := hc (by omega)
  refine ⟨g, o, rfl, by simp [bodyOf]; omega, fun x hx => hlt x (List.mem_of_mem_drop (List.mem_of_mem_take hx)), fun _ => ⟨g, o + 12, rfl, hg, hne, fun j hj => ?_⟩⟩
  rw [show o + 12 + j = o + (12 + j) from by omega, hcell (12 + j) (by omega)]
  congr 3
  simp [bodyOf, List.getD_eq_getElem?_getD, hj]
theorem fill_zeros : fill [] 256 = zeros := rfl
theorem zeros_lt : ∀ x ∈ zeros, x < 256 := fun x hx => by have := (List.mem_replicate.1 hx).2; omega

set_option maxRecDepth 100000 in
set_option maxHeartbeats 1600000 in
theorem ref_get_page (b : Nat) (A : Option Addr) (n c : Nat) (l : List Nat) (number : Int) (w : World) (hl : Bytes w b A n l) (hn : n ≤ 9223372036854775807) (hnc : n ≤ c) :
    Calls Try.prog 45 #[.slice A n c, .int .i64 number] w (ToldPage w (pageR l number)) := by
  obtain ⟨i0, hi0, hz0, hz1, hz2⟩ := info_parts byte_info
  have hi := Lib.hid hi0; have z0 := Lib.hid hz0; have z1 := Lib.hid hz1; have z2 := Lib.hid hz2; clear hi0 hz0 hz1 hz2
  have hr : pageR l number = if l = zeros then some (0, []) else if pageW number (num l 4 1) (bodyOf l) = some l then some ((num l 4 1 : Int), bodyOf l) else none := rfl
  have HR := Lib.hid hr; clear hr
  have HLT := Lib.hid hl.2.1
  have HLEN := Lib.hid hl.1
  have hg0 := World.grownBy_alloc w (.cells #[.int .i64 0, .slice none 0 0] 47) none
  have HL0 := Lib.hid (bytes_keepN hl hg0)
  have HZ0 := Lib.hid (Blk.new w 47 #[.int .i64 0, .slice none 0 0])
  have HG0 := Lib.hid hg0
  clear hl hg0
  obtain ⟨hw1, _⟩ := num_small l 4 1 HLT.out (by omega)
  have HW1 := Lib.hid hw1; clear hw1
  generalize pageR l number = r at *
  go_enter Try.func45, Try.ntmps45
  go_wp2_with fail
  refine (filled_any w.heap.size (.slice none 0 0) 0 [] 256 _ (Own.nil _ _ _ _) (by simp) (by omega) (by omega)).mono ?_
  rintro e w1 ⟨v1, rfl, ho1, hg1⟩
  have hg1n : (w.alloc (.cells #[.int .i64 0, .slice none 0 0] 47)).grownBy w1 none := hg1.1
  rw [fill_zeros] at ho1
  obtain ⟨A1, c1, rfl, hb1, _, hm1⟩ := own_bytes ho1 zeros_lt
  have HB1 := Lib.hid hb1; have HL1 := Lib.hid (bytes_keepN HL0.out hg1n); have HZ1 := Lib.hid (HZ0.out.grown hg1n (by simp)); have HG1 := Lib.hid (HG0.out.trans hg1n)
  clear hb1 ho1 hg1 hg1n
  cases hd : decide (l = zeros) with
  | true =>
    have HD := Lib.hid hd; clear hd
    go_wp2_with fail
    refine (same_any _ _ A A1 n 256 c c1 l zeros _ HL1.out HB1.out hn (by omega)).mono ?_
    rintro e w2 ⟨rfl, hdr⟩
    have hg2 := drawn_grown hdr none
    have HZ2 := Lib.hid (HZ1.out.grown hg2 (by simp)); have HG2 := Lib.hid (HG1.out.trans hg2)
    have y0 := HZ2.out.cell 0
    have y1 := HZ2.out.cell 1
    have yf0 := HZ2.out.frozen 0
    have yf1 := HZ2.out.frozen 1
    simp only [List.getElem?_toArray, List.getElem?_cons_zero, List.getElem?_cons_succ] at y0 y1
    clear hdr hg2
    rw [HD.out]
    go_wp2_with fail
    refine ret_row2 rfl w.heap.size 47 _ _ rfl (Blk.set2 HZ2.out) Try.underlying47 rfl (by kernel_rfl) rfl ⟨?_, .inl ⟨0, [], _, ?_, rfl, Own.nil _ _ _ _, by simp⟩⟩
    · repeat (refine grown_set ?_ (Nat.le_refl _) _)
      exact HG2.out
    · rw [HR.out, if_pos (of_decide_eq_true HD.out)]
  | false =>
    have hnz := of_decide_eq_false hd
    have HNZ := Lib.hid hnz
    have HD := Lib.hid hd; clear hd hnz
    by_cases h256 : n = 256
    case neg =>
      have hne : (((n : Nat) : Int) != 256) = true := by simp; omega
      have hnw : pageW number (num l 4 1) (bodyOf l) ≠ some l := fun e => h256 (by have := pageW_len e; rw [HLEN.out] at this; exact this)
      have HNW := Lib.hid hnw; clear hnw
      go_wp2_with fail
      refine (same_any _ _ A A1 n 256 c c1 l zeros _ HL1.out HB1.out hn (by omega)).mono ?_
      rintro e w2 ⟨rfl, hdr⟩
      have hg2 := drawn_grown hdr none
      have HZ2 := Lib.hid (HZ1.out.grown hg2 (by simp)); have HG2 := Lib.hid (HG1.out.trans hg2)
      have y0 := HZ2.out.cell 0
      have y1 := HZ2.out.cell 1
      have yf0 := HZ2.out.frozen 0
      have yf1 := HZ2.out.frozen 1
      simp only [List.getElem?_toArray, List.getElem?_cons_zero, List.getElem?_cons_succ] at y0 y1
      clear hdr hg2
      rw [HD.out]
      go_wp2_with fail
      refine ret_row2 rfl w.heap.size 47 _ _ rfl (Blk.set2 HZ2.out) Try.underlying47 rfl (by kernel_rfl) rfl ⟨?_, .inr ⟨?_, rfl⟩⟩
      · repeat (refine grown_set ?_ (Nat.le_refl _) _)
        exact HG2.out
      · rw [HR.out, if_neg HNZ.out, if_neg HNW.out]
    subst h256
    go_wp2_with fail
    refine (same_any _ _ A A1 256 256 c c1 l zeros _ HL1.out HB1.out hn (by omega)).mono ?_
    rintro e w2 ⟨rfl, hdr⟩
    have hg2 := drawn_grown hdr none
    have HZ2 := Lib.hid (HZ1.out.grown hg2 (by simp)); have HG2 := Lib.hid (HG1.out.trans hg2); have HL2 := Lib.hid (bytes_keepN HL1.out hg2)
    clear hdr hg2
    rw [HD.out]
    go_wp2_with fail
    refine (number_any b A 256 c l 4 1 _ HL2.out (by omega)).mono ?_
    rintro e w3 ⟨rfl, rfl⟩
    rw [HW1.out]
    obtain ⟨g, o, rfl, hbb⟩ := bodyOf_bytes HL2.out hnc
    have HBB := Lib.hid hbb; clear hbb
    have hc252 : (252 : Int) ≤ c := by omega
    have hc12 : ¬ c = 12 := by omega
    go_upto_region 6 with fail
    have hb1 := Blk.new w2 49 #[.int .i64 number, .int .i64 ((num l 4 1 : Nat) : Int), .slice none 0 0]
    have hk2 := hb1.cell 2
    have hkf2 := hb1.frozen 2
    simp only [List.getElem?_toArray, List.getElem?_cons_zero, List.getElem?_cons_succ] at hk2
    have HBK := Lib.hid hb1; clear hb1
    have HGw := Lib.hid (World.grownBy_alloc w2 (.cells #[.int .i64 number, .int .i64 ((num l 4 1 : Nat) : Int), .slice none 0 0] 49) none)
    go_cut [6] (fun s6 wx => ∃ v : Value, s6 = .pointer (some ⟨w2.heap.size, 0, none⟩) ∧ Blk wx w2.heap.size 49 #[.int .i64 number, .int .i64 ((num l 4 1 : Nat) : Int), v] ∧ Own wx (w2.heap.size + 1) 5 1 v 240 (u8s (bodyOf l)) ∧ w2.grownBy wx none)
    case first =>
      go_region_law (first
        | (refine step_append_own_full _ rfl (.tmp 24) (.tmp 26) _ rfl (w2.heap.size + 1) 5 i0 _ 1 1 Try.underlying27 hi.out z0.out z1.out z2.out rfl (by omega) (.slice none 0 0) 0 [] (by rfl) (Own.nil _ _ _ _)
             _ (some ⟨g, o + 12, none⟩) 240 _ (u8s (bodyOf l)) (by rfl) (bytes_drew (bytes_keepN HBB.out HGw.out)).reads (u8s_one _) (by simp only [maxLen]; omega) (by omega) (by simp) ?_
           intro v' w' hown' hgr'
           obtain ⟨A2, c2, hv2, _, _, _⟩ := hown'.shape
           subst hv2
           have hb1 := HBK.out.drew.grown hgr'.1 (by simp [Value.ownBlock])
           have hc1' := hb1.cell 2
           have hf1' := hb1.frozen 2
           simp only [List.getElem?_toArray, List.getElem?_cons_zero, List.getElem?_cons_succ] at hc1'
           have HB1' := Lib.hid hb1
           have HO' := Lib.hid hown'; have HGR' := Lib.hid hgr'; clear hown' hgr' hb1))
      all_goals
        go_wp2_with fail
        go_meet
        exact ⟨_, rfl, HB1'.out.set_ 2 _, Own.set_far HO'.out (by omega) _, grown_set (grownBy_new ((HGw.out).trans (grown_drew _ none)) HGR'.out.1 (fun j hj => by simp [Value.ownBlock] at hj)) (by omega) _⟩
    case rest =>
      obtain ⟨v, rfl, hbk, hov, hgw⟩ := hcut
      obtain ⟨A2, c2, rfl, hbody, hc2, hm2⟩ := own_bytes hov (fun x hx => HBB.out.2.1 x hx)
      have HBK2 := Lib.hid hbk; have HOV := Lib.hid hov; have HBODY := Lib.hid hbody
      have HZ3 := Lib.hid (HZ2.out.grown hgw (by simp)); have HG3 := Lib.hid (HG2.out.trans hgw); have HL3 := Lib.hid (bytes_keepN HL2.out hgw)
      have hBge := HG2.out.size
      clear hgw hov hbody hbk hk2 hkf2
      have hk0 := HBK2.out.cell 0
      have hk1 := HBK2.out.cell 1
      have hk2 := HBK2.out.cell 2
      have hkl := HBK2.out.lt
      simp only [List.getElem?_toArray, List.getElem?_cons_zero, List.getElem?_cons_succ] at hk0 hk1 hk2
      have hbl : (bodyOf l).length = 240 := HBB.out.1
      have HBL := Lib.hid hbl; clear hbl
      go_wp2_with fail
      refine (ref_put_page _ number ((num l 4 1 : Nat) : Int) A2 240 c2 (bodyOf l) _ HBODY.out).mono ?_
      rintro e w4 ⟨hg4, ⟨l', v4, ho4, rfl, hown4, hlt4⟩ | ⟨ho4, rfl⟩⟩
      · obtain ⟨A4, c4, rfl, hb4, _, hm4⟩ := own_bytes hown4 hlt4
        have hl4 : l'.length ≤ 9223372036854775807 := by simp only [maxLen] at hm4; omega
        have HB4 := Lib.hid hb4; have HO4 := Lib.hid ho4
        have HL4 := Lib.hid (bytes_keepN HL3.out hg4); have HG4 := Lib.hid (HG3.out.trans hg4)
        have HBK4 := Lib.hid (HBK2.out.grown hg4 (by simp)); have HZ4 := Lib.hid (HZ3.out.grown hg4 (by simp)); have HOV4 := Lib.hid (HOV.out.keep hg4 (by simp))
        clear hb4 ho4 hown4 hg4 hk0 hk1 hk2 hkl
        cases hd : decide (l' = l) with
        | true =>
          have HD2 := Lib.hid hd; clear hd
          go_wp2_with fail
          refine (same_any _ _ A4 (some ⟨g, o, none⟩) _ 256 c4 c l' l _ HB4.out HL4.out hl4 hn).mono ?_
          rintro e w5 ⟨rfl, hdr⟩
          have hg5 := drawn_grown hdr none
          have HG5 := Lib.hid (HG4.out.trans hg5)
          have HZ5 := Lib.hid (HZ4.out.grown hg5 (by simp)); have HOV5 := Lib.hid (HOV4.out.keep hg5 (by simp))
          have hbk5 := HBK4.out.grown hg5 (by simp)
          have hk1 := hbk5.cell 1
          have hk2 := hbk5.cell 2
          have hkl := hbk5.lt
          have y0 := HZ5.out.cell 0
          have y1 := HZ5.out.cell 1
          have yf0 := HZ5.out.frozen 0
          have yf1 := HZ5.out.frozen 1
          simp only [List.getElem?_toArray, List.getElem?_cons_zero, List.getElem?_cons_succ] at hk1 hk2 y0 y1
          clear hdr hg5 hbk5
          rw [HD2.out]
          go_wp2_with fail
          refine ret_row2 rfl w.heap.size 47 _ _ rfl (Blk.set2 HZ5.out) Try.underlying47 rfl (by kernel_rfl) rfl ⟨?_, .inl ⟨((num l 4 1 : Nat) : Int), bodyOf l, _, ?_, rfl, ?_, fun x hx => HBB.out.2.1 x hx⟩⟩
          · repeat (refine grown_set ?_ (Nat.le_refl _) _)
            exact HG5.out
          · have hl := of_decide_eq_true HD2.out
            subst hl
            rw [HR.out, if_neg HNZ.out, if_pos HO4.out]
          · rw [HBL.out]
            exact (Own.set_far (Own.set_far HOV5.out (by omega) _) (by omega) _).low (by omega)
        | false =>
          have HD2 := Lib.hid hd; clear hd
          go_wp2_with fail
          refine (same_any _ _ A4 (some ⟨g, o, none⟩) _ 256 c4 c l' l _ HB4.out HL4.out hl4 hn).mono ?_
          rintro e w5 ⟨rfl, hdr⟩
          have hg5 := drawn_grown hdr none
          have HG5 := Lib.hid (HG4.out.trans hg5)
          have HZ5 := Lib.hid (HZ4.out.grown hg5 (by simp))
          have y0 := HZ5.out.cell 0
          have y1 := HZ5.out.cell 1
          have yf0 := HZ5.out.frozen 0
          have yf1 := HZ5.out.frozen 1
          simp only [List.getElem?_toArray, List.getElem?_cons_zero, List.getElem?_cons_succ] at y0 y1
          clear hdr hg5
          rw [HD2.out]
          go_wp2_with fail
          refine ret_row2 rfl w.heap.size 47 _ _ rfl (Blk.set2 HZ5.out) Try.underlying47 rfl (by kernel_rfl) rfl ⟨?_, .inr ⟨?_, rfl⟩⟩
          · repeat (refine grown_set ?_ (Nat.le_refl _) _)
            exact HG5.out
          · have hl := of_decide_eq_false HD2.out
            rw [HR.out, if_neg HNZ.out, if_neg (by rw [HO4.out]; simpa using hl)]
      · have HG4 := Lib.hid (HG3.out.trans hg4); have HO4 := Lib.hid ho4
        have HZ5 := Lib.hid (HZ3.out.grown hg4 (by simp))
        have y0 := HZ5.out.cell 0
        have y1 := HZ5.out.cell 1
        have yf0 := HZ5.out.frozen 0
        have yf1 := HZ5.out.frozen 1
        simp only [List.getElem?_toArray, List.getElem?_cons_zero, List.getElem?_cons_succ] at y0 y1
        clear hg4 ho4 hk0 hk1 hk2 hkl
        go_wp2_with fail
        refine ret_row2 rfl w.heap.size 47 _ _ rfl (Blk.set2 HZ5.out) Try.underlying47 rfl (by kernel_rfl) rfl ⟨?_, .inr ⟨?_, rfl⟩⟩
        · repeat (refine grown_set ?_ (Nat.le_refl _) _)
          exact HG4.out
        · rw [HR.out, if_neg HNZ.out, if_neg (by rw [HO4.out]; simp)]
end Go.Proofs.Ytkiohneggoiipaa.Codec
