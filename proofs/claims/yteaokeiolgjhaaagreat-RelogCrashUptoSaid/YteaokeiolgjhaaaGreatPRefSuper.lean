/- The walks over the document's own answer for superblocks: PutSuper, GetSuper. -/
import Derived.Test.YteaokeiolgjhaaaGreatPRefBits
import Derived.Test.YteaokeiolgjhaaaGreatPStructs
import Derived.Lib.SlBytesConst
import Derived.Deep.RegionWith
namespace Go.Proofs.YteaokeiolgjhaaaGreat.Codec
open Go.RowKit CrcMath CodecMath Mem Crc

theorem grown_weak {w w' : World} (h : w.grownBy w' none) (row : Option Nat) : w.grownBy w' row := ⟨h.os, h.tape, h.output, h.size, fun i hi _ => h.block i hi (by simp)⟩
theorem Grew.apart {w w' : World} {v v' : Value} (h : Grew w w' v v') {g : Nat} (hg : g < w.heap.size) (hne : v.ownBlock ≠ some g) : v'.ownBlock ≠ some g := by
  intro e
  rcases h.2 g e with h1 | h1
  · exact hne h1
  · omega
/-- What a call that writes a record leaves: its bytes as a row of its own, or ErrArg. -/
def Wrote (w : World) (o : Option (List Nat)) (e : Ending) (w' : World) : Prop :=
  w.grownBy w' none ∧ ((∃ l v', o = some l ∧ e = .returned (.tuple #[v', .int .i64 0]) ∧ Own w' w.heap.size 5 1 v' l.length (u8s l) ∧ ∀ x ∈ l, x < 256) ∨ (o = none ∧ e = .returned (.tuple #[.slice none 0 0, .int .i64 1])))

/-- '[]byte("text")' of a constant text, with one block more ahead of it. -/
theorem run_const1 (w : World) (o : Obj) (C : Array Value) (n c : Nat) :
    (convert 38 38 (.slice (some ⟨w.heap.size + 1, 0, none⟩) n c)).run Tryz.prog ((w.alloc o).alloc (.cells C 5)) = .ok (.slice (some ⟨w.heap.size + 1, 0, none⟩) n c) ((w.alloc o).alloc (.cells C 5 (C.size, C.size + 1))) := by
  have h := Lib.run_convert_bytes_const (P := Tryz.prog) (w.alloc o) 38 5 C n c Tryz.underlying38 Tryz.underlying5
  simpa using h
theorem run_const1d (w : World) (o : Obj) (C : Array Value) (n c : Nat) :
    (convert 38 38 (.slice (some ⟨w.heap.size + 1, 0, none⟩) n c)).run Tryz.prog ((w.alloc o).alloc (.cells C 5)).drew = .ok (.slice (some ⟨w.heap.size + 1, 0, none⟩) n c) ((w.alloc o).alloc (.cells C 5 (C.size, C.size + 1))).drew :=
  run_const1 w.drew o C n c
theorem own_const (w : World) (base n : Nat) (C : Array Value) (l : List Nat) (hC : C.toList = u8s l) (hn : l.length = n) (hm : n ≤ maxLen) (hb : base ≤ w.heap.size) :
    Own (w.alloc (.cells C 5 (n, n + 1))) base 5 1 (.slice (some ⟨w.heap.size, 0, none⟩) n n) n (u8s l) :=
  .inr ⟨w.heap.size, C, _, rfl, hb, heap_alloc_new w _, hm, hC, by rw [u8s_length]; omega⟩
set_option maxHeartbeats 400000 in
theorem numbers_any (a0 a1 a2 a3 a4 a5 a6 : Int) (w : World) :
    Calls Tryz.prog 156 #[.agg #[.int .i64 a0, .int .i64 a1, .int .i64 a2, .int .i64 a3, .int .i64 a4, .int .i64 a5, .int .i64 a6]] w fun e w' =>
      e = .returned (.slice (some ⟨w.heap.size + 1, 0, none⟩) 7 7) ∧ w' = (w.alloc (.cells #[.int .i64 a0, .int .i64 a1, .int .i64 a2, .int .i64 a3, .int .i64 a4, .int .i64 a5, .int .i64 a6] 49)).alloc (.cells #[.int .i64 a0, .int .i64 a1, .int .i64 a2, .int .i64 a3, .int .i64 a4, .int .i64 a5, .int .i64 a6] 3) := by
  go_enter Tryz.func156, Tryz.ntmps156
  go_wp2
  go_ret
  exact ⟨rfl, rfl⟩

set_option maxRecDepth 100000 in
set_option maxHeartbeats 800000 in
theorem ref_put_super (a0 a1 a2 a3 a4 a5 a6 : Int) (w : World) :
    Calls Tryz.prog 115 #[.agg #[.int .i64 a0, .int .i64 a1, .int .i64 a2, .int .i64 a3, .int .i64 a4, .int .i64 a5, .int .i64 a6]] w (Wrote w (superW [a0, a1, a2, a3, a4, a5, a6])) := by
  have kc := run_const1
  go_enter Tryz.func115, Tryz.ntmps115
  go_wp2_with fail
  refine (numbers_any a0 a1 a2 a3 a4 a5 a6 _).mono ?_
  rintro e w1 ⟨rfl, rfl⟩
  go_wp2_with fail
  generalize hs : [a0, a1, a2, a3, a4, a5, a6] = s
  have hlen : s.length = 7 := by subst hs; rfl
  have HLEN := Lib.hid hlen; clear hlen
  have HSS := Lib.hid hs; clear hs
  go_loopw [4, 6] (fun u i wr => ∃ j : Nat, j ≤ 7 ∧ i = .int .i64 j ∧ Own wr w.heap.size 5 1 u (4 + 8 * j) (u8s ([80, 83, 85, 80] ++ (s.take j).flatMap fun n => be 8 n.toNat)) ∧ w.grownBy wr none ∧
      (∀ q, q < 7 → wr.cell? ⟨w.heap.size + 1 + 1 + 1, q, none⟩ = some (.int .i64 (s.getD q 0))) ∧ u.ownBlock ≠ some (w.heap.size + 1 + 1 + 1) ∧ (∀ q, q < j → inB (s.getD q 0) 1099511627776 = true)) (fun _ i _ => 7 - (intOf i).toNat)
  case atStart =>
    refine ⟨0, by omega, rfl, ?_, ?_, ?_, by simp [Value.ownBlock], fun q hq => by omega⟩
    · refine Own.alloc (Own.alloc ?_ _) _
      have h := own_const (w.alloc (.cells #[.int .i64 a0, .int .i64 a1, .int .i64 a2, .int .i64 a3, .int .i64 a4, .int .i64 a5, .int .i64 a6] 49)) w.heap.size 4 #[.int .u8 80, .int .u8 83, .int .u8 85, .int .u8 80] [80, 83, 85, 80] rfl rfl (by simp [maxLen]) (by simp)
      simpa using h
    · exact (((World.grownBy_alloc w _ none).trans (World.grownBy_alloc _ _ none)).trans (World.grownBy_alloc _ _ none)).trans (World.grownBy_alloc _ _ none)
    · intro q hq
      have h := (Blk.new (((w.alloc (.cells #[.int .i64 a0, .int .i64 a1, .int .i64 a2, .int .i64 a3, .int .i64 a4, .int .i64 a5, .int .i64 a6] 49)).alloc (.cells #[.int .u8 80, .int .u8 83, .int .u8 85, .int .u8 80] 5 (4, 5))).alloc (.cells #[.int .i64 a0, .int .i64 a1, .int .i64 a2, .int .i64 a3, .int .i64 a4, .int .i64 a5, .int .i64 a6] 49)) 3 #[.int .i64 a0, .int .i64 a1, .int .i64 a2, .int .i64 a3, .int .i64 a4, .int .i64 a5, .int .i64 a6]).cell q
      simp only [World.size_alloc] at h
      rw [h, ← HSS.out]
      match q, hq with
      | 0, _ | 1, _ | 2, _ | 3, _ | 4, _ | 5, _ | 6, _ => rfl
  case round =>
    obtain ⟨j, hj, rfl, ho, hg, hc, hne, hin⟩ := hrel
    have HO := Lib.hid ho; have HG := Lib.hid hg; have HC := Lib.hid hc; have HNE := Lib.hid hne; have HIN := Lib.hid hin
    clear ho hg hc hne hin
    by_cases hlt : j < 7
    · have hcj := HC.out j hlt
      cases hib : inB (s.getD j 0) 1099511627776 with
      | false =>
        have hno := superW_no s j (by rw [HLEN.out]; exact hlt) hib
        have HNO := Lib.hid hno; clear hno
        generalize s.getD j 0 = x at *
        have HIB := Lib.hid hib; clear hib
        go_wp2_with fail
        refine (in_any x _ _).mono ?_
        rintro e w2 ⟨rfl, rfl⟩
        rw [HIB.out]
        go_wp2
        go_ret2
        exact ⟨HG.out, .inr ⟨by first | exact HNO.out | (rw [HSS.out]; exact HNO.out), rfl⟩⟩
      | true =>
        have htf := take_flat s 8 j (by rw [HLEN.out]; exact hlt)
        have HTF := Lib.hid htf; clear htf
        have hin' : ∀ q, q < j + 1 → inB (s.getD q 0) 1099511627776 = true := by
          intro q hq
          by_cases e : q = j
          · subst e; exact hib
          · exact HIN.out q (by omega)
        have HIN' := Lib.hid hin'; clear hin'
        generalize s.getD j 0 = x at *
        have hxx := inB_yes hib
        obtain ⟨hx0, hx1⟩ := hxx
        have HIB := Lib.hid hib; clear hib
        obtain ⟨m, rfl⟩ := Int.eq_ofNat_of_zero_le hx0
        rw [Int.toNat_natCast] at HTF
        go_wp2_with fail
        refine (in_any (m : Int) _ _).mono ?_
        rintro e w2 ⟨rfl, rfl⟩
        rw [HIB.out]
        go_wp2_with fail
        have hsz := HG.out.size
        refine (put_any w.heap.size _ _ _ m 8 _ HO.out hsz (by omega) (by omega)).mono ?_
        rintro e w2 ⟨v', rfl, ho', hg'⟩
        have HO' := Lib.hid ho'; have HG' := Lib.hid hg'; clear ho' hg'
        have hgsz : w.heap.size + 1 + 1 + 1 < wr.heap.size := by have := World.block_lt_of_cell? wr _ (HC.out 0 (by omega)); exact this
        go_wp2_with fail
        go_roundw
        case rel =>
          refine ⟨j + 1, by omega, by go_num, ?_, ?_, ?_, ?_, HIN'.out⟩
          · rw [HTF.out, ← List.append_assoc, show 4 + 8 * (j + 1) = 4 + 8 * j + 8 from by omega]
            exact HO'.out
          · exact grownBy_new HG.out HG'.out.1 (fun i hi => (HO.out.base_ i hi).1)
          · exact fun q hq => HG'.out.1.cell (HC.out q hq) (fun e => HNE.out e.symm)
          · exact Grew.apart HG'.out hgsz HNE.out
        case measure => simp [intOf]; omega
    · obtain rfl : j = 7 := by omega
      have hyes := superW_yes s 7 HLEN.out HIN.out
      have HY := Lib.hid hyes; clear hyes
      have ho := HO.out
      rw [List.take_of_length_le (by rw [HLEN.out]; omega)] at ho
      have HO7 := Lib.hid ho; clear ho
      have hsz := HG.out.size
      go_wp2_with fail
      refine (framed_any w.heap.size _ _ (superB s) _ HO7.out hsz (by omega) (superB_lt s)).mono ?_
      rintro e w2 ⟨v', rfl, ho', hg'⟩
      have HO' := Lib.hid ho'; have HG' := Lib.hid hg'; clear ho' hg'
      go_wp2
      go_ret2
      refine ⟨grownBy_new HG.out HG'.out.1 (fun i hi => (HO.out.base_ i hi).1), .inl ⟨_, v', by first | exact HY.out | (rw [HSS.out]; exact HY.out), rfl, ?_, frame_lt _ (superB_lt s)⟩⟩
      rw [frame_length _ (by rw [superB_len s HLEN.out]; omega)]
      exact HO'.out

def zero7 : List Int := [0, 0, 0, 0, 0, 0, 0]
def supV (s : List Int) : Value := .agg (s.map fun n => Value.int .i64 n).toArray
/-- What a call that reads a record leaves: a value, and whether there is one. -/
def Told (w : World) (v : Value) (ok : Bool) (e : Ending) (w' : World) : Prop := w.grownBy w' none ∧ e = .returned (.tuple #[v, .bool ok])

/-- What a call that turned nothing leaves of the cells that were there. -/
theorem gcell {W w1 : World} (h : W.grownBy w1 none) : (∀ b o, b < W.heap.size → w1.cell? ⟨b, o, none⟩ = W.cell? ⟨b, o, none⟩) ∧ (∀ b o, b < W.heap.size → w1.frozen? ⟨b, o, none⟩ = W.frozen? ⟨b, o, none⟩) :=
  ⟨fun b o hb => World.cell?_of_block (h.block b hb (by simp)), fun b o hb => World.frozen?_of_block (h.block b hb (by simp))⟩
theorem grown_set {w w' : World} (h : w.grownBy w' none) {b i : Nat} (hp : w.heap.size ≤ b) (v : Value) : w.grownBy (w'.setCell ⟨b, i, none⟩ v) none :=
  grown_none_of_size (row := some b) (Lib.grownBy_setB (grown_weak h _) i v) (fun j hj => by cases hj; exact hp)
theorem grown_drewN {w w' : World} (h : w.grownBy w' none) (q : Nat) : w.grownBy (w'.drewN q) none := h.trans (drawn_grown ⟨q, rfl⟩ none)
theorem bytes_keepN {w w' : World} {b n : Nat} {A : Option Addr} {l : List Nat} (h : Bytes w b A n l) (hg : w.grownBy w' none) : Bytes w' b A n l := h.keep (grown_weak hg _)
set_option maxRecDepth 100000 in
set_option maxHeartbeats 800000 in
theorem ref_get_super (b : Nat) (A : Option Addr) (n c : Nat) (l : List Nat) (w : World) (hl : Bytes w b A n l) (hn : n ≤ 9223372036854775807) :
    Calls Tryz.prog 121 #[.slice A n c] w (Told w (supV ((superR l).getD zero7)) (superR l).isSome) := by
  have hsr : superR l = if superW (superN l) = some l then some (superN l) else none := rfl
  have hsn : superN l = [wrap64 (num l 4 8), wrap64 (num l 12 8), wrap64 (num l 20 8), wrap64 (num l 28 8), wrap64 (num l 36 8), wrap64 (num l 44 8), wrap64 (num l 52 8)] := rfl
  have HSR := Lib.hid hsr; have HSN := Lib.hid hsn; clear hsr hsn
  generalize superR l = r at *
  have HL0 := Lib.hid (bytes_keepN hl (World.grownBy_alloc w (.cells #[.int .i64 0, .int .i64 0, .int .i64 0, .int .i64 0, .int .i64 0, .int .i64 0, .int .i64 0] 49) none))
  clear hl
  go_enter Tryz.func121, Tryz.ntmps121
  go_wp2_with fail
  refine (number_any b A n c l 4 8 _ HL0.out (by omega)).mono ?_
  rintro e w1 ⟨rfl, rfl⟩
  generalize wrap64 ((num l 4 8 : Nat) : Int) = a0 at *
  go_wp2_with fail
  refine (number_any b A n c l 12 8 _ HL0.out (by omega)).mono ?_
  rintro e w1 ⟨rfl, rfl⟩
  generalize wrap64 ((num l 12 8 : Nat) : Int) = a1 at *
  go_wp2_with fail
  refine (number_any b A n c l 20 8 _ HL0.out (by omega)).mono ?_
  rintro e w1 ⟨rfl, rfl⟩
  generalize wrap64 ((num l 20 8 : Nat) : Int) = a2 at *
  go_wp2_with fail
  refine (number_any b A n c l 28 8 _ HL0.out (by omega)).mono ?_
  rintro e w1 ⟨rfl, rfl⟩
  generalize wrap64 ((num l 28 8 : Nat) : Int) = a3 at *
  go_wp2_with fail
  refine (number_any b A n c l 36 8 _ HL0.out (by omega)).mono ?_
  rintro e w1 ⟨rfl, rfl⟩
  generalize wrap64 ((num l 36 8 : Nat) : Int) = a4 at *
  go_wp2_with fail
  refine (number_any b A n c l 44 8 _ HL0.out (by omega)).mono ?_
  rintro e w1 ⟨rfl, rfl⟩
  generalize wrap64 ((num l 44 8 : Nat) : Int) = a5 at *
  go_wp2_with fail
  refine (number_any b A n c l 52 8 _ HL0.out (by omega)).mono ?_
  rintro e w1 ⟨rfl, rfl⟩
  generalize wrap64 ((num l 52 8 : Nat) : Int) = a6 at *
  go_wp2_with fail
  refine (ref_put_super a0 a1 a2 a3 a4 a5 a6 _).mono ?_
  rintro e w1 ⟨hg, ⟨l', v', ho, rfl, hown, hlt⟩ | ⟨ho, rfl⟩⟩
  · have hg0 := ((World.grownBy_alloc w (.cells #[.int .i64 0, .int .i64 0, .int .i64 0, .int .i64 0, .int .i64 0, .int .i64 0, .int .i64 0] 49) none).trans (World.grownBy_alloc _ _ none)).trans hg
    have HG := Lib.hid hg0
    have hbk := ((Blk.new w 49 #[.int .i64 0, .int .i64 0, .int .i64 0, .int .i64 0, .int .i64 0, .int .i64 0, .int .i64 0]).alloc (.cells #[.int .i64 a0, .int .i64 a1, .int .i64 a2, .int .i64 a3, .int .i64 a4, .int .i64 a5, .int .i64 a6] 49)).grown hg (by simp)
    have HBK := Lib.hid hbk; clear hbk
    have HL1 := Lib.hid (bytes_keepN (bytes_keepN HL0.out (World.grownBy_alloc _ _ none)) hg)
    have HO := Lib.hid ho
    obtain ⟨hc, hf⟩ := gcell hg
    clear ho hg hg0
    obtain ⟨A', cap', rfl, hb', _, hcm⟩ := own_bytes hown hlt
    have HB := Lib.hid hb'; clear hb' hown hlt
    cases hd : decide (l' = l) with
    | true =>
      have HD := Lib.hid hd; clear hd
      go_wp2_with fail
      refine (same_any w1.heap.size b A' A l'.length n cap' c l' l _ HB.out HL1.out (by simp only [maxLen] at hcm; omega) hn).mono ?_
      rintro e w2 ⟨rfl, hdr⟩
      obtain ⟨q, rfl⟩ := hdr
      rw [HD.out]
      go_wp2_with fail
      refine ret_row2 rfl w.heap.size 49 _ _ rfl (Blk.set7 (HBK.out.drewN q)) Tryz.underlying49 rfl (by kernel_rfl) rfl ⟨?_, ?_⟩
      · repeat (refine grown_set ?_ (Nat.le_refl _) _)
        exact grown_drewN HG.out q
      · have hl := of_decide_eq_true HD.out
        subst hl
        rw [HSR.out, HSN.out, if_pos HO.out]
        rfl
    | false =>
      have HD := Lib.hid hd; clear hd
      go_wp2_with fail
      refine (same_any w1.heap.size b A' A l'.length n cap' c l' l _ HB.out HL1.out (by simp only [maxLen] at hcm; omega) hn).mono ?_
      rintro e w2 ⟨rfl, hdr⟩
      obtain ⟨q, rfl⟩ := hdr
      rw [HD.out]
      go_wp2_with fail
      refine ret_row2 rfl w.heap.size 49 _ _ rfl (Blk.set7 (HBK.out.drewN q)) Tryz.underlying49 rfl (by kernel_rfl) rfl ⟨?_, ?_⟩
      · repeat (refine grown_set ?_ (Nat.le_refl _) _)
        exact grown_drewN HG.out q
      · have hl := of_decide_eq_false HD.out
        rw [HSR.out, HSN.out, if_neg (by rw [HO.out]; simpa using hl)]
        rfl
  · have hg0 := ((World.grownBy_alloc w (.cells #[.int .i64 0, .int .i64 0, .int .i64 0, .int .i64 0, .int .i64 0, .int .i64 0, .int .i64 0] 49) none).trans (World.grownBy_alloc _ _ none)).trans hg
    have HG := Lib.hid hg0
    have hbk := ((Blk.new w 49 #[.int .i64 0, .int .i64 0, .int .i64 0, .int .i64 0, .int .i64 0, .int .i64 0, .int .i64 0]).alloc (.cells #[.int .i64 a0, .int .i64 a1, .int .i64 a2, .int .i64 a3, .int .i64 a4, .int .i64 a5, .int .i64 a6] 49)).grown hg (by simp)
    have HBK := Lib.hid hbk; clear hbk
    have HO := Lib.hid ho
    obtain ⟨hc, hf⟩ := gcell hg
    clear ho hg hg0
    go_wp2_with fail
    refine ret_row2 rfl w.heap.size 49 _ _ rfl (Blk.set7 HBK.out) Tryz.underlying49 rfl (by kernel_rfl) rfl ⟨?_, ?_⟩
    · repeat (refine grown_set ?_ (Nat.le_refl _) _)
      exact HG.out
    · rw [HSR.out, HSN.out, if_neg (by rw [HO.out]; simp)]
      rfl
end Go.Proofs.YteaokeiolgjhaaaGreat.Codec
