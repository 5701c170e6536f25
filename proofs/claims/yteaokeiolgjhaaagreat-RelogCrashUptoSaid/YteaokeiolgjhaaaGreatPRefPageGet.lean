/- Texts of this seat's proofs: RefPageGet, RefImageGet. -/
import Derived.Test.YteaokeiolgjhaaaGreatPRefPage
import Derived.Test.YteaokeiolgjhaaaGreatPRefNode
import Derived.Test.YteaokeiolgjhaaaGreatPStructs
import Derived.IntWalk
/- The walk over the document's own answer for pages that are read: GetPage. -/
namespace Go.Proofs.YteaokeiolgjhaaaGreat.Codec
open Go.RowKit CrcMath CodecMath Mem Crc

/-- What a call that reads a page leaves. -/
def ToldPage (w : World) (o : Option (Int × List Nat)) (e : Ending) (w' : World) : Prop :=
  w.grownBy w' none ∧ ((∃ kind body v, o = some (kind, body) ∧ e = .returned (.tuple #[.agg #[.int .i64 kind, v], .bool true]) ∧ Own w' w.heap.size 5 1 v body.length (u8s body) ∧ ∀ x ∈ body, x < 256) ∨
    (o = none ∧ e = .returned (.tuple #[.agg #[.int .i64 0, .slice none 0 0], .bool false])))
theorem bodyOf_bytes {w : World} {b c : Nat} {A : Option Addr} {l : List Nat} (h : Bytes w b A 256 l) (_hc : 256 ≤ c) :
    ∃ g o, A = some ⟨g, o, none⟩ ∧ Bytes w b (some ⟨g, o + 12, none⟩) 240 (bodyOf l) := by
  obtain ⟨hlen, hlt, hc⟩ := h
  obtain ⟨g, o, rfl, hg, hne, hcell⟩ := hc (by omega)
  refine ⟨g, o, rfl, by simp [bodyOf]; omega, fun x hx => hlt x (List.mem_of_mem_drop (List.mem_of_mem_take hx)), fun _ => ⟨g, o + 12, rfl, hg, hne, fun j hj => ?_⟩⟩
  rw [show o + 12 + j = o + (12 + j) from by omega, hcell (12 + j) (by omega)]
  congr 3
  simp [bodyOf, List.getD_eq_getElem?_getD, hj]
theorem fill_zeros : fill [] 256 = zeros := rfl
theorem zeros_lt : ∀ x ∈ zeros, x < 256 := fun x hx => by have := (List.mem_replicate.1 hx).2; omega

end Go.Proofs.YteaokeiolgjhaaaGreat.Codec
/- The walk over the document's own answer for images of a log that are read: GetImage. -/
namespace Go.Proofs.YteaokeiolgjhaaaGreat.Codec
open Go.RowKit CrcMath CodecMath Mem Crc

/-- What a call that reads an image leaves. -/
def ToldImage (w : World) (r : Option (Int × Int × Int × Int × List Nat)) (e : Ending) (w' : World) : Prop :=
  w.grownBy w' none ∧ ((∃ epoch seq number kind body v, r = some (epoch, seq, number, kind, body) ∧ e = .returned (.tuple #[.int .i64 epoch, .int .i64 seq, .agg #[.int .i64 number, .int .i64 kind, v], .bool true]) ∧ Own w' w.heap.size 5 1 v body.length (u8s body) ∧ ∀ x ∈ body, x < 256) ∨
    (r = none ∧ e = .returned (.tuple #[.int .i64 0, .int .i64 0, .agg #[.int .i64 0, .int .i64 0, .slice none 0 0], .bool false])))

set_option maxRecDepth 100000 in
set_option maxHeartbeats 1600000 in
theorem ref_get_image (b : Nat) (A : Option Addr) (n c : Nat) (l : List Nat) (w : World) (hl : Bytes w b A n l) (hn : n ≤ 9223372036854775807) (hnc : n ≤ c) :
    Calls Tryz.prog 164 #[.slice A n c] w (ToldImage w (imageR l)) := by
  obtain ⟨i0, hi0, hz0, hz1, hz2⟩ := info_parts byte_info
  have hi := Lib.hid hi0; have z0 := Lib.hid hz0; have z1 := Lib.hid hz1; have z2 := Lib.hid hz2; clear hi0 hz0 hz1 hz2
  have hr : imageR l = if imageW (num l 3 4) (num l 7 5) (num l 1 2) (num l 0 1) (bodyOf l) = some l then some ((num l 3 4 : Int), (num l 7 5 : Int), (num l 1 2 : Int), (num l 0 1 : Int), bodyOf l) else none := rfl
  have HR := Lib.hid hr; clear hr
  have HLT := Lib.hid hl.2.1
  have HLEN := Lib.hid hl.1
  have hg0 := World.grownBy_alloc w (.cells #[.int .i64 0, .int .i64 0, .slice none 0 0] 109) none
  have HL2 := Lib.hid (bytes_keepN hl hg0)
  have HZ2 := Lib.hid (Blk.new w 109 #[.int .i64 0, .int .i64 0, .slice none 0 0])
  have HG2 := Lib.hid hg0
  have HL0 := Lib.hid hl
  clear hl hg0
  have HW1 := Lib.hid (num_small l 1 2 HLT.out (by omega)).1
  have HW2 := Lib.hid (num_small l 0 1 HLT.out (by omega)).1
  have HW3 := Lib.hid (num_small l 3 4 HLT.out (by omega)).1
  have HW4 := Lib.hid (num_small l 7 5 HLT.out (by omega)).1
  generalize imageR l = r at *
  by_cases h256 : n = 256
  case neg =>
    have hne : (((n : Nat) : Int) != 256) = true := by simp; omega
    have hnw : imageW (num l 3 4) (num l 7 5) (num l 1 2) (num l 0 1) (bodyOf l) ≠ some l := fun e => h256 (by have := imageW_len e; rw [HLEN.out] at this; exact this)
    have HNW := Lib.hid hnw; clear hnw
    go_enter Tryz.func164, Tryz.ntmps164
    go_wp2_with fail
    first
      | exact ret_row4 rfl w.heap.size 109 _ _ rfl HZ2.out Tryz.underlying109 rfl (by kernel_rfl) rfl ⟨HG2.out, .inr ⟨by rw [HR.out, if_neg HNW.out], rfl⟩⟩
      | (refine ret_row4 rfl w.heap.size 109 _ _ rfl (Blk.set3 HZ2.out) Tryz.underlying109 rfl (by kernel_rfl) rfl ⟨?_, .inr ⟨by rw [HR.out, if_neg HNW.out], rfl⟩⟩
         repeat (refine grown_set ?_ (Nat.le_refl _) _)
         exact HG2.out)
  subst h256
  go_enter Tryz.func164, Tryz.ntmps164
  go_wp2_with fail
  refine (number_any b A 256 c l 1 2 _ HL2.out (by omega)).mono ?_
  rintro e w3 ⟨rfl, rfl⟩
  rw [HW1.out]
  go_wp2_with fail
  refine (number_any b A 256 c l 0 1 _ HL2.out (by omega)).mono ?_
  rintro e w3 ⟨rfl, rfl⟩
  rw [HW2.out]
  obtain ⟨g, o, rfl, hbb⟩ := bodyOf_bytes HL2.out hnc
  have HBB := Lib.hid hbb; clear hbb
  have hc252 : (252 : Int) ≤ c := by omega
  have hc12 : ¬ c = 12 := by omega
  go_upto_region 4 with fail
  have hb1 : Blk ((w.alloc (.cells #[.int .i64 0, .int .i64 0, .slice none 0 0] 109)).alloc (.cells #[.int .i64 ((num l 1 2 : Nat) : Int), .int .i64 ((num l 0 1 : Nat) : Int), .slice none 0 0] 109)) (w.heap.size + 1) 109 #[.int .i64 ((num l 1 2 : Nat) : Int), .int .i64 ((num l 0 1 : Nat) : Int), .slice none 0 0] := by simpa using Blk.new (w.alloc (.cells #[.int .i64 0, .int .i64 0, .slice none 0 0] 109)) 109 #[.int .i64 ((num l 1 2 : Nat) : Int), .int .i64 ((num l 0 1 : Nat) : Int), .slice none 0 0]
  have hk2 := hb1.cell 2
  have hkf2 := hb1.frozen 2
  simp only [List.getElem?_toArray, List.getElem?_cons_zero, List.getElem?_cons_succ] at hk2
  have HBK := Lib.hid hb1; clear hb1
  have HGw := Lib.hid (HG2.out.trans (World.grownBy_alloc (w.alloc (.cells #[.int .i64 0, .int .i64 0, .slice none 0 0] 109)) (.cells #[.int .i64 ((num l 1 2 : Nat) : Int), .int .i64 ((num l 0 1 : Nat) : Int), .slice none 0 0] 109) none))
  have HGa := Lib.hid (World.grownBy_alloc (w.alloc (.cells #[.int .i64 0, .int .i64 0, .slice none 0 0] 109)) (.cells #[.int .i64 ((num l 1 2 : Nat) : Int), .int .i64 ((num l 0 1 : Nat) : Int), .slice none 0 0] 109) none)
  have HZa := Lib.hid (HZ2.out.alloc (.cells #[.int .i64 ((num l 1 2 : Nat) : Int), .int .i64 ((num l 0 1 : Nat) : Int), .slice none 0 0] 109))
  go_cut [6] (fun s6 wx => ∃ v : Value, s6 = .pointer (some ⟨w.heap.size + 1, 0, none⟩) ∧ Blk wx (w.heap.size + 1) 109 #[.int .i64 ((num l 1 2 : Nat) : Int), .int .i64 ((num l 0 1 : Nat) : Int), v] ∧ Own wx (w.heap.size + 2) 5 1 v 240 (u8s (bodyOf l)) ∧ w.grownBy wx none ∧ Blk wx w.heap.size 109 #[.int .i64 0, .int .i64 0, .slice none 0 0])
  case first =>
    go_region_law (first
      | (refine step_append_own_full _ rfl (.tmp 23) (.tmp 25) _ rfl (w.heap.size + 2) 5 i0 _ 1 1 Tryz.underlying38 hi.out z0.out z1.out z2.out rfl (by omega) (.slice none 0 0) 0 [] (by rfl) (Own.nil _ _ _ _)
           _ (some ⟨g, o + 12, none⟩) 240 _ (u8s (bodyOf l)) (by rfl) (bytes_drew (bytes_keepN HBB.out HGa.out)).reads (u8s_one _) (by simp only [maxLen]; omega) (by omega) (by simp) ?_
         intro v' w' hown' hgr'
         obtain ⟨A2, c2, hv2, _, _, _⟩ := hown'.shape
         subst hv2
         have hb1 := HBK.out.drew.grown hgr'.1 (by simp [Value.ownBlock])
         have hc1' := hb1.cell 2
         have hf1' := hb1.frozen 2
         simp only [List.getElem?_toArray, List.getElem?_cons_zero, List.getElem?_cons_succ] at hc1'
         have HB1' := Lib.hid hb1
         have HZ' := Lib.hid (HZa.out.drew.grown hgr'.1 (by simp [Value.ownBlock]))
         have HO' := Lib.hid hown'; have HGR' := Lib.hid hgr'; clear hown' hgr' hb1))
    all_goals
      go_wp2_with fail
      go_meet
      exact ⟨_, rfl, HB1'.out.set_ 2 _, Own.set_far HO'.out (by omega) _, grown_set (grownBy_new ((HGw.out).trans (grown_drew _ none)) HGR'.out.1 (fun j hj => by simp [Value.ownBlock] at hj)) (by omega) _, HZ'.out.far (by simp) _⟩
  case rest =>
    obtain ⟨v, rfl, hbk, hov, hgw, hzz⟩ := hcut
    obtain ⟨A2, c2, rfl, hbody, hc2, hm2⟩ := own_bytes hov (fun x hx => HBB.out.2.1 x hx)
    have HBK2 := Lib.hid hbk; have HOV := Lib.hid hov; have HBODY := Lib.hid hbody
    have HZ3 := Lib.hid hzz; have HG3 := Lib.hid hgw; have HL3 := Lib.hid (bytes_keepN HL0.out hgw)
    clear hgw hov hbody hbk hk2 hkf2 hzz
    have hk0 := HBK2.out.cell 0
    have hk1 := HBK2.out.cell 1
    have hk2 := HBK2.out.cell 2
    have hkl := HBK2.out.lt
    simp only [List.getElem?_toArray, List.getElem?_cons_zero, List.getElem?_cons_succ] at hk0 hk1 hk2
    have hbl : (bodyOf l).length = 240 := HBB.out.1
    have HBL := Lib.hid hbl; clear hbl
    go_wp2_with fail
    refine (number_any b (some ⟨g, o, none⟩) 256 c l 3 4 _ HL3.out (by omega)).mono ?_
    rintro e w3 ⟨rfl, rfl⟩
    rw [HW3.out]
    go_wp2_with fail
    refine (number_any b (some ⟨g, o, none⟩) 256 c l 7 5 _ HL3.out (by omega)).mono ?_
    rintro e w3 ⟨rfl, rfl⟩
    rw [HW4.out]
    go_wp2_with fail
    refine (ref_put_image _ ((num l 3 4 : Nat) : Int) ((num l 7 5 : Nat) : Int) ((num l 1 2 : Nat) : Int) ((num l 0 1 : Nat) : Int) A2 240 c2 (bodyOf l) _ HBODY.out).mono ?_
    rintro e w4 ⟨hg4, ⟨l', v4, ho4, rfl, hown4, hlt4⟩ | ⟨ho4, rfl⟩⟩
    · obtain ⟨A4, c4, rfl, hb4, _, hm4⟩ := own_bytes hown4 hlt4
      have hl4 : l'.length ≤ 9223372036854775807 := by simp only [maxLen] at hm4; omega
      have HB4 := Lib.hid hb4; have HO4 := Lib.hid ho4
      have HL4 := Lib.hid (bytes_keepN HL3.out hg4); have HG4 := Lib.hid (HG3.out.trans hg4)
      have HBK4 := Lib.hid (HBK2.out.grown hg4 (by simp)); have HZ4 := Lib.hid (HZ3.out.grown hg4 (by simp)); have HOV4 := Lib.hid (HOV.out.keep hg4 (by simp))
      clear hb4 ho4 hown4 hg4 hk0 hk1 hk2 hkl
      cases hd : decide (l' = l) with
      | true =>
        have HD2 := Lib.hid hd; clear hd
        go_wp2_with fail
        refine (same_any _ _ A4 (some ⟨g, o, none⟩) _ 256 c4 c l' l _ HB4.out HL4.out hl4 hn).mono ?_
        rintro e w5 ⟨rfl, hdr⟩
        have hg5 := drawn_grown hdr none
        have HG5 := Lib.hid (HG4.out.trans hg5)
        have HZ5 := Lib.hid (HZ4.out.grown hg5 (by simp)); have HOV5 := Lib.hid (HOV4.out.keep hg5 (by simp))
        have hbk5 := HBK4.out.grown hg5 (by simp)
        have hk0 := hbk5.cell 0
        have hk1 := hbk5.cell 1
        have hk2 := hbk5.cell 2
        have hkl := hbk5.lt
        have y0 := HZ5.out.cell 0
        have yf0 := HZ5.out.frozen 0
        have y1 := HZ5.out.cell 1
        have yf1 := HZ5.out.frozen 1
        have y2 := HZ5.out.cell 2
        have yf2 := HZ5.out.frozen 2
        simp only [List.getElem?_toArray, List.getElem?_cons_zero, List.getElem?_cons_succ] at hk0 hk1 hk2 y0 y1 y2
        clear hdr hg5 hbk5
        rw [HD2.out]
        go_wp2_with fail
        go_region
        all_goals
          go_wp2_with fail
          refine ret_row4 rfl w.heap.size 109 _ _ rfl (Blk.set3 HZ5.out.drew) Tryz.underlying109 rfl (by kernel_rfl) rfl ⟨?_, .inl ⟨_, _, _, _, bodyOf l, _, ?_, rfl, ?_, fun x hx => HBB.out.2.1 x hx⟩⟩
          · refine World.grownBy.trans ?_ (grown_drew _ none)
            repeat (refine grown_set ?_ (Nat.le_refl _) _)
            exact HG5.out
          · have hl := of_decide_eq_true HD2.out
            subst hl
            rw [HR.out, if_pos HO4.out]
          · rw [HBL.out]
            exact (Own.set_far (Own.set_far (Own.set_far HOV5.out.drew (by omega) _) (by omega) _) (by omega) _).low (by omega)
      | false =>
        have HD2 := Lib.hid hd; clear hd
        go_wp2_with fail
        refine (same_any _ _ A4 (some ⟨g, o, none⟩) _ 256 c4 c l' l _ HB4.out HL4.out hl4 hn).mono ?_
        rintro e w5 ⟨rfl, hdr⟩
        have hg5 := drawn_grown hdr none
        have HG5 := Lib.hid (HG4.out.trans hg5)
        have HZ5 := Lib.hid (HZ4.out.grown hg5 (by simp))
        have y0 := HZ5.out.cell 0
        have yf0 := HZ5.out.frozen 0
        have y1 := HZ5.out.cell 1
        have yf1 := HZ5.out.frozen 1
        have y2 := HZ5.out.cell 2
        have yf2 := HZ5.out.frozen 2
        simp only [List.getElem?_toArray, List.getElem?_cons_zero, List.getElem?_cons_succ] at y0 y1 y2
        clear hdr hg5
        rw [HD2.out]
        go_wp2_with fail
        refine ret_row4 rfl w.heap.size 109 _ _ rfl (Blk.set3 HZ5.out) Tryz.underlying109 rfl (by kernel_rfl) rfl ⟨?_, .inr ⟨?_, rfl⟩⟩
        · repeat (refine grown_set ?_ (Nat.le_refl _) _)
          exact HG5.out
        · have hl := of_decide_eq_false HD2.out
          rw [HR.out, if_neg (by rw [HO4.out]; simpa using hl)]
    · have HG4 := Lib.hid (HG3.out.trans hg4); have HO4 := Lib.hid ho4
      have HZ5 := Lib.hid (HZ3.out.grown hg4 (by simp))
      have y0 := HZ5.out.cell 0
      have yf0 := HZ5.out.frozen 0
      have y1 := HZ5.out.cell 1
      have yf1 := HZ5.out.frozen 1
      have y2 := HZ5.out.cell 2
      have yf2 := HZ5.out.frozen 2
      simp only [List.getElem?_toArray, List.getElem?_cons_zero, List.getElem?_cons_succ] at y0 y1 y2
      clear hg4 ho4 hk0 hk1 hk2 hkl
      go_wp2_with fail
      refine ret_row4 rfl w.heap.size 109 _ _ rfl (Blk.set3 HZ5.out) Tryz.underlying109 rfl (by kernel_rfl) rfl ⟨?_, .inr ⟨?_, rfl⟩⟩
      · repeat (refine grown_set ?_ (Nat.le_refl _) _)
        exact HG4.out
      · rw [HR.out, if_neg (by rw [HO4.out]; simp)]
end Go.Proofs.YteaokeiolgjhaaaGreat.Codec
