/- The project's calls for superblocks: PutSuper, GetSuper. -/
import Derived.Test.YtkiohneggoiipaaCodecCounts
namespace Go.Proofs.Ytkiohneggoiipaa.Codec
open Go.RowKit CrcMath CodecMath Mem Crc

/-- What a call that writes a sector leaves; S: the block that it may turn (the table's, where its numbers are not laid yet). -/
def Gives (w : World) (S : Option Nat) (b : Nat) (o : Option (List Nat)) (e : Ending) (w' : World) : Prop :=
  w.grownBy w' S ∧ ((∃ l g, o = some l ∧ e = .returned (.tuple #[.slice (some ⟨g, 0, none⟩) l.length l.length, .int .i64 0]) ∧ w.heap.size ≤ g ∧ Blk w' g 107 (u8s l).toArray ∧ (∀ x ∈ l, x < 256) ∧ Ready w' b) ∨
    (o = none ∧ e = .returned (.tuple #[.slice none 0 0, .int .i64 1])))
/-- What a table is, and what asking it may turn. -/
def TabS (w : World) (b : Nat) (S : Option Nat) : Prop := (Ready w b ∧ S = none) ∨ (Tab w b ∧ S = some b)
theorem TabS.asks {w w1 : World} {b : Nat} {S : Option Nat} (h : TabS w b S) (hg : w.grownBy w1 none) (g : Nat) : ∃ s, Asks w1 b g s ∧ (∀ w2, Left w1 w2 g s → w.heap.size ≤ g → w.grownBy w2 S) := by
  rcases h with ⟨h, rfl⟩ | ⟨h, rfl⟩
  · exact ⟨g, .inl ⟨h.keep hg (by simp), rfl⟩, fun w2 hl hge => hl.new hg hge hge⟩
  · refine ⟨b, .inr ⟨tab_keep h hg (by simp), rfl⟩, fun w2 hl hge => ?_⟩
    exact ⟨hl.os.trans hg.os, hl.tape.trans hg.tape, hl.output.trans hg.output, Nat.le_trans hg.size hl.size, fun k hk hne => (hl.block k (Nat.lt_of_lt_of_le hk hg.size) (by omega) (by simpa using hne)).trans (hg.block k hk (by simp))⟩
theorem TabS.lt {w : World} {b : Nat} {S : Option Nat} (h : TabS w b S) : b < w.heap.size := by
  rcases h with ⟨⟨_, h, _⟩, _⟩ | ⟨⟨_, h, _⟩ | ⟨_, h, _⟩, _⟩ <;> exact h.lt
theorem grown_any_row {w w' : World} (h : w.grownBy w' none) (S : Option Nat) : w.grownBy w' S := ⟨h.os, h.tape, h.output, h.size, fun i hi _ => h.block i hi (by simp)⟩
/-- A new array and a cursor over it. -/
theorem start_row {w W : World} (hg : w.grownBy W none) (t : TypeId) (N : Nat) (zs : Array Value) (hz : (u8s (fill [] N)).toArray = zs) :
    w.grownBy ((W.alloc (.cells zs t)).alloc (.cells #[.slice (some ⟨W.heap.size, 0, none⟩) N N] 108)) none ∧
    Cur ((W.alloc (.cells zs t)).alloc (.cells #[.slice (some ⟨W.heap.size, 0, none⟩) N N] 108)) (W.heap.size + 1) W.heap.size 0 N ∧
    Blk ((W.alloc (.cells zs t)).alloc (.cells #[.slice (some ⟨W.heap.size, 0, none⟩) N N] 108)) W.heap.size t (u8s (fill [] N)).toArray := by
  refine ⟨(hg.trans (World.grownBy_alloc W _ none)).trans (World.grownBy_alloc _ _ none), ?_, ?_⟩
  · simpa using cur_new (W.alloc (.cells zs t)) W.heap.size N 0 rfl
  · rw [hz]
    exact (Blk.new W _ zs).alloc _
/-- What of a superblock stands when j of its numbers are written. -/
def superP (s : List Int) (j : Nat) : List Nat := [80, 83, 85, 80] ++ ((s.take j).flatMap fun n => be 8 n.toNat)
theorem superP_len (s : List Int) (j : Nat) (hs : s.length = 7) (h : j ≤ 7) : (superP s j).length = 4 + 8 * j := by
  rw [superP, List.length_append, flat_len, List.length_take, hs, Nat.min_eq_left h]; rfl
theorem superP_succ (s : List Int) (j : Nat) (hs : s.length = 7) (h : j < 7) : superP s (j + 1) = superP s j ++ be 8 (s.getD j 0).toNat := by
  rw [superP, take_flat s 8 j (by omega), ← List.append_assoc]; rfl
theorem superP_all (s : List Int) (hs : s.length = 7) : superP s 7 = superB s := by rw [superP, List.take_of_length_le (by omega)]; rfl
theorem index7 (a0 a1 a2 a3 a4 a5 a6 : Int) (j : Nat) (hj : j < 7) (w : World) :
    (Instr.index 105 (.agg #[.int .i64 a0, .int .i64 a1, .int .i64 a2, .int .i64 a3, .int .i64 a4, .int .i64 a5, .int .i64 a6]) (.int .i64 j)).run Try.prog w = .ok (.int .i64 ([a0, a1, a2, a3, a4, a5, a6].getD j 0)) w := by
  obtain rfl | rfl | rfl | rfl | rfl | rfl | rfl : j = 0 ∨ j = 1 ∨ j = 2 ∨ j = 3 ∨ j = 4 ∨ j = 5 ∨ j = 6 := by omega
  · kernel_rfl
  · kernel_rfl
  · kernel_rfl
  · kernel_rfl
  · kernel_rfl
  · kernel_rfl
  · kernel_rfl
theorem superOk_of (s : List Int) : superOk s = allB s 1099511627776 := rfl

set_option maxRecDepth 100000 in
set_option maxHeartbeats 1600000 in
theorem put_super_any (b : Nat) (S : Option Nat) (a0 a1 a2 a3 a4 a5 a6 : Int) (w : World) (hT : TabS w b S) :
    Calls Try.prog 16 #[.pointer (some ⟨b, 0, none⟩), .agg #[.int .i64 a0, .int .i64 a1, .int .i64 a2, .int .i64 a3, .int .i64 a4, .int .i64 a5, .int .i64 a6]] w (Gives w S b (superW [a0, a1, a2, a3, a4, a5, a6])) := by
  have HT := Lib.hid hT; clear hT
  have hz := zero256
  go_enter Try.func16, Try.ntmps16
  go_wp2_with fail
  generalize hs : [a0, a1, a2, a3, a4, a5, a6] = s at *
  have hlen : s.length = 7 := by subst hs; rfl
  have hget : ∀ j, j < 7 → (#[Value.int .i64 a0, .int .i64 a1, .int .i64 a2, .int .i64 a3, .int .i64 a4, .int .i64 a5, .int .i64 a6] : Array Value)[j]? = some (.int .i64 (s.getD j 0)) := by
    subst hs
    intro j hj
    match j, hj with
    | 0, _ | 1, _ | 2, _ | 3, _ | 4, _ | 5, _ | 6, _ => rfl
  have HLEN := Lib.hid hlen; have HGET := Lib.hid hget; have HS := Lib.hid hs; clear hlen hget hs
  have hg0 := (World.grownBy_alloc w (.cells #[.int .i64 a0, .int .i64 a1, .int .i64 a2, .int .i64 a3, .int .i64 a4, .int .i64 a5, .int .i64 a6] 23) none).trans (World.grownBy_alloc _ (.cells #[.int .i64 a0, .int .i64 a1, .int .i64 a2, .int .i64 a3, .int .i64 a4, .int .i64 a5, .int .i64 a6] 105) none)
  have hb0 := Blk.new (w.alloc (.cells #[.int .i64 a0, .int .i64 a1, .int .i64 a2, .int .i64 a3, .int .i64 a4, .int .i64 a5, .int .i64 a6] 23)) 105 #[.int .i64 a0, .int .i64 a1, .int .i64 a2, .int .i64 a3, .int .i64 a4, .int .i64 a5, .int .i64 a6]
  rw [World.size_alloc] at hb0
  have HG0 := Lib.hid hg0; have HB0 := Lib.hid hb0; clear hg0 hb0
  refine (allwithin_cells (some ⟨w.heap.size + 1, 0, none⟩) 7 7 s 1099511627776 _ HLEN.out (fun _ => ⟨_, 0, rfl, fun j hj => ?_⟩) (by omega)).mono ?_
  · rw [Nat.zero_add, HB0.out.cell]
    exact HGET.out j hj
  rintro e w1 ⟨rfl, rfl⟩
  cases hall : allB s 1099511627776 with
  | false =>
    have HNO := Lib.hid (show superW s = none by simp [superW, superOk_of, hall])
    clear hall
    go_wp2
    go_ret2
    exact ⟨grown_any_row HG0.out S, .inr ⟨by first | exact HNO.out | (rw [HS.out]; exact HNO.out), rfl⟩⟩
  | true =>
    have HYES := Lib.hid (show superW s = some (frame (superB s)) by simp [superW, superOk_of, hall])
    have HBD := Lib.hid (fun j hj => allB_yes hall j (by rw [HLEN.out]; exact hj) : ∀ j, j < 7 → 0 ≤ s.getD j 0 ∧ s.getD j 0 ≤ 1099511627776)
    clear hall
    have hfz := fill_zero 256
    have HFZ := Lib.hid hfz; clear hfz
    generalize hzz : Array.replicate 256 (Value.int .u8 0) = zs at *
    clear hzz
    have hst := start_row HG0.out 107 256 zs HFZ.out
    simp only [World.size_alloc] at hst
    obtain ⟨hg1, hc1, hb1⟩ := hst
    have HG1 := Lib.hid hg1; have HC1 := Lib.hid hc1; have HB1 := Lib.hid hb1; have HBA := Lib.hid ((HB0.out.alloc (.cells zs 107)).alloc (.cells #[.slice (some ⟨w.heap.size + 1 + 1, 0, none⟩) 256 256] 108))
    clear hg1 hc1 hb1
    go_wp2_with fail
    refine (mark_any _ _ 0 256 _ _ _ [80, 83, 85, 80] _ HC1.out HB1.out (by decide) rfl rfl (by omega) (by rw [fill_length _ _ (by simp)]; omega) (by rw [fill_length _ _ (by simp)]; omega)).mono ?_
    rintro e w2 ⟨rfl, hlf, hc2, hb2⟩
    rw [show lay (fill [] 256) 0 [80, 83, 85, 80] = fill [80, 83, 85, 80] 256 from lay_fill [] [80, 83, 85, 80] 256] at hb2
    have hba := hlf.blk HBA.out (by omega) (by omega)
    have hx0 := hba.cell 0; have hx1 := hba.cell 1; have hx2 := hba.cell 2; have hx3 := hba.cell 3; have hx4 := hba.cell 4; have hx5 := hba.cell 5; have hx6 := hba.cell 6
    simp only [List.getElem?_toArray, List.getElem?_cons_zero, List.getElem?_cons_succ] at hx0 hx1 hx2 hx3 hx4 hx5 hx6
    have HG2 := Lib.hid (hlf.new HG1.out (by omega) (by omega)); have HC2 := Lib.hid hc2; have HB2 := Lib.hid hb2
    clear hlf hc2 hb2 hba
    clear HG1 HC1 HB1 HBA HG0 HB0
    go_wp2_with fail
    go_loopw [10, 36] (fun _ i wr => ∃ j : Nat, j ≤ 7 ∧ i = .int .i64 j ∧ w.grownBy wr none ∧ Cur wr (w.heap.size + 1 + 1 + 1) (w.heap.size + 1 + 1) (4 + 8 * j) (252 - 8 * j) ∧
      Blk wr (w.heap.size + 1 + 1) 107 (u8s (fill (superP s j) 256)).toArray) (fun _ i _ => 7 - (intOf i).toNat)
    case atStart =>
      refine ⟨0, by omega, rfl, HG2.out, HC2.out, ?_⟩
      exact HB2.out
    case round =>
      obtain ⟨j, hj, rfl, hg, hc, hb⟩ := hrel
      have HG := Lib.hid hg; have HC := Lib.hid hc; have HBK := Lib.hid hb
      clear hg hc hb
      have hpl := superP_len s j HLEN.out hj
      by_cases hlt : j < 7
      · obtain ⟨hx0, hx1⟩ := HBD.out j hlt
        have hly := lay_fill (superP s j) (be 8 (s.getD j 0).toNat) 256
        rw [hpl, ← superP_succ s j HLEN.out hlt] at hly
        have hfl := fill_length (superP s j) 256 (by omega)
        have HLY := Lib.hid hly; have HFL := Lib.hid hfl; clear hly hpl hfl
        have hix := index7 a0 a1 a2 a3 a4 a5 a6 j hlt wr
        rw [HS.out] at hix
        generalize s.getD j 0 = x at *
        obtain ⟨m, rfl⟩ := Int.eq_ofNat_of_zero_le hx0
        rw [Int.toNat_natCast] at HLY
        go_wp2_with fail
        refine (write_any _ _ (4 + 8 * j) (252 - 8 * j) 8 m _ _ _ HC.out HBK.out (by decide) (by omega) (by rw [HFL.out]; omega) (by rw [HFL.out]; omega) (by omega)).mono ?_
        rintro e w3 ⟨rfl, hlf, hc3, hb3⟩
        rw [HLY.out] at hb3
        have HG3 := Lib.hid (hlf.new HG.out (by omega) (by omega)); have HC3 := Lib.hid hc3; have HB3 := Lib.hid hb3
        clear hlf hc3 hb3 hix
        go_wp2_with fail
        go_roundw
        case rel =>
          refine ⟨j + 1, by omega, by go_num, HG3.out, ?_, HB3.out⟩
          have h := HC3.out
          rwa [show 4 + 8 * j + 8 = 4 + 8 * (j + 1) from by omega, show 252 - 8 * j - 8 = 252 - 8 * (j + 1) from by omega] at h
        case measure => simp [intOf]; omega
      · obtain rfl : j = 7 := by omega
        have hbk := HBK.out
        rw [superP_all s HLEN.out] at hbk
        have HBL := Lib.hid hbk
        obtain ⟨sb, hasks, hleft⟩ := HT.out.asks HG.out (w.heap.size + 1 + 1)
        have HAS := Lib.hid hasks; have HLE := Lib.hid hleft
        have hblt := HT.out.lt
        clear hbk hasks hleft hpl
        go_wp2_with fail
        refine (seal_any b (w.heap.size + 1 + 1) sb (superB s) _ HAS.out HBL.out (by rw [superB_len s HLEN.out]; omega) (superB_lt s) (by omega)).mono ?_
        rintro e w3 ⟨rfl, hlf, hr3, hb3⟩
        have HG3 := Lib.hid (HLE.out _ hlf (by omega)); have HR3 := Lib.hid hr3; have HB3 := Lib.hid hb3
        clear hlf hr3 hb3
        go_wp2
        go_ret2
        refine ⟨HG3.out, .inl ⟨_, w.heap.size + 1 + 1, by first | exact HYES.out | (rw [HS.out]; exact HYES.out), ?_, by omega, HB3.out, frame_lt _ (superB_lt s), HR3.out⟩⟩
        rw [frame_length _ (by rw [superB_len s HLEN.out]; omega)]
        rfl

theorem Gives.gave {w : World} {b : Nat} {o : Option (List Nat)} {e : Ending} {w' : World} (h : Gives w none b o e w') : Gave w 107 o e w' := by
  obtain ⟨hg, ⟨l, g, ho, he, hge, hb, hl, _⟩ | hn⟩ := h
  · exact ⟨hg, .inl ⟨l, g, ho, he, hge, hb, hl⟩⟩
  · exact ⟨hg, .inr hn⟩
theorem codec_put_super (b : Nat) (a0 a1 a2 a3 a4 a5 a6 : Int) (w : World) (hR : Ready w b) :
    Calls Try.prog 16 #[.pointer (some ⟨b, 0, none⟩), .agg #[.int .i64 a0, .int .i64 a1, .int .i64 a2, .int .i64 a3, .int .i64 a4, .int .i64 a5, .int .i64 a6]] w (Gave w 107 (superW [a0, a1, a2, a3, a4, a5, a6])) :=
  (put_super_any b none a0 a1 a2 a3 a4 a5 a6 w (.inl ⟨hR, rfl⟩)).mono fun _ _ h => h.gave
set_option maxRecDepth 100000 in
theorem codec_put_super_nil (a0 a1 a2 a3 a4 a5 a6 : Int) (w : World) :
    Calls Try.prog 16 #[.pointer none, .agg #[.int .i64 a0, .int .i64 a1, .int .i64 a2, .int .i64 a3, .int .i64 a4, .int .i64 a5, .int .i64 a6]] w (Gave w 107 none) := by
  go_enter Try.func16, Try.ntmps16
  go_wp2
  go_ret2
  exact ⟨(World.grownBy_alloc w _ none).trans (World.grownBy_alloc _ _ none), .inr ⟨rfl, rfl⟩⟩
end Go.Proofs.Ytkiohneggoiipaa.Codec
