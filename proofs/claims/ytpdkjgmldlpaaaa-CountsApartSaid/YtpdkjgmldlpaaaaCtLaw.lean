/- The laws' small functions: what lives; a number picked; numbers compared. Counts in a law, the document's beside them. -/
import Derived.Test.YtpdkjgmldlpaaaaCtRef4
namespace Go.Proofs.Ytpdkjgmldlpaaaa.Cts
open Go.RowKit CrcMath CodecMath Mem Crc Codec
set_option linter.unusedVariables false
set_option linter.unusedSimpArgs false

/-- Counts in a law. -/
def One (W w : World) (q n : Nat) (x : Ct) (own : Nat → Prop) : Prop := ∃ rb mb_ B, CtAt w B q rb mb_ n x ∧ W.heap.size ≤ B ∧ own = own3 q rb mb_
section
variable {W w w' : World} {q n : Nat} {x : Ct} {own : Nat → Prop}
theorem One.low (h : One W w q n x own) : ∀ i, own i → W.heap.size ≤ i := by
  obtain ⟨rb, m, B, h, hB, rfl⟩ := h
  exact fun i hi => Nat.le_trans hB (h.low i hi)
theorem One.lt (h : One W w q n x own) : ∀ i, own i → i < w.heap.size := by
  obtain ⟨rb, m, B, h, hB, rfl⟩ := h
  exact h.lt
theorem One.ok (h : One W w q n x own) : CtOk n x := by obtain ⟨rb, m, B, h, hB, rfl⟩ := h; exact h.ok
theorem One.far {o o' : Nat → Prop} (h : One W w q n x own) (ht : Turn w w' o o') (hn : ∀ i, o i → ¬ own i) : One W w' q n x own := by
  obtain ⟨rb, m, B, h, hB, rfl⟩ := h
  exact ⟨rb, m, B, h.far ht hn, hB, rfl⟩
theorem One.grown (h : One W w q n x own) (hg : w.grownBy w' none) : One W w' q n x own := h.far (Turn.none_ (own := fun _ => False) hg) (fun _ e => e.elim)
theorem one_get (h : One W w q n x own) (p : Int) : Calls Try.prog 22 #[.pointer (some ⟨q, 0, none⟩), .int .i64 p] w fun e w' => e = .returned (.int .i64 (getE n x p)) ∧ w' = w := by
  obtain ⟨rb, m, B, h, hB, rfl⟩ := h
  exact get_call h p
theorem one_touched (h : One W w q n x own) : Calls Try.prog 25 #[.pointer (some ⟨q, 0, none⟩)] w fun e w' => ∃ v, e = .returned v ∧ Own w' w.heap.size 3 1 v (touchE n x).length (i64s (touchE n x)) ∧ w.grownBy w' none := by
  obtain ⟨rb, m, B, h, hB, rfl⟩ := h
  exact touched_call h
theorem one_add (h : One W w q n x own) (p b : Int) (hb : In64 b) : Calls Try.prog 12 #[.pointer (some ⟨q, 0, none⟩), .int .i64 p, .int .i64 b] w fun e w' => e = .returned (.int .i64 (addE n x p b).1) ∧ One W w' q n (addE n x p b).2 own ∧ Turn w w' own own := by
  obtain ⟨rb, m, B, h, hB, rfl⟩ := h
  exact (add_call h p b hb).mono fun e w' ⟨h1, h2, h3⟩ => ⟨h1, ⟨rb, m, B, h2, hB, rfl⟩, h3⟩
theorem one_load (h : One W w q n x own) (p : Int) {b : Nat} {A : Option Addr} {m c : Nat} {l : List Nat} (hl : Bytes w b A m l) : Calls Try.prog 14 #[.pointer (some ⟨q, 0, none⟩), .int .i64 p, .slice A m c] w fun e w' => e = .returned (.int .i64 (loadE n x p l).1) ∧ One W w' q n (loadE n x p l).2 own ∧ Turn w w' own own := by
  obtain ⟨rb, mb_, B, h, hB, rfl⟩ := h
  exact (load_call h p hl).mono fun e w' ⟨h1, h2, h3⟩ => ⟨h1, ⟨rb, mb_, B, h2, hB, rfl⟩, h3⟩
theorem one_settle (h : One W w q n x own) : Calls Try.prog 16 #[.pointer (some ⟨q, 0, none⟩)] w fun e w' => e = .returned (.tuple #[]) ∧ One W w' q n (settleE x) own ∧ Turn w w' own own := by
  obtain ⟨rb, m, B, h, hB, rfl⟩ := h
  exact (settle_call h).mono fun e w' ⟨h1, h2, h3⟩ => ⟨h1, ⟨rb, m, B, h2, hB, rfl⟩, h3⟩
theorem one_undo (h : One W w q n x own) : Calls Try.prog 18 #[.pointer (some ⟨q, 0, none⟩)] w fun e w' => e = .returned (.tuple #[]) ∧ One W w' q n (undoE x) own ∧ Turn w w' own own := by
  obtain ⟨rb, m, B, h, hB, rfl⟩ := h
  exact (undo_call h).mono fun e w' ⟨h1, h2, h3⟩ => ⟨h1, ⟨rb, m, B, h2, hB, rfl⟩, h3⟩
/-- What a Body answers: none, or bytes of the caller's own. -/
def Told (n : Nat) (x : Ct) (p : Int) (w : World) (e : Ending) (w' : World) : Prop :=
  w.grownBy w' none ∧ ((isI n p = false ∧ e = .returned (.slice none 0 0)) ∨
    ∃ i l v, p = ((i : Nat) : Int) ∧ i < manyN n ∧ countsW (listOf x.N i) = some l ∧ e = .returned v ∧ Own w' w.heap.size 5 1 v l.length (u8s l) ∧ (∀ y ∈ l, y < 256))
theorem one_body (h : One W w q n x own) (p : Int) : Calls Try.prog 20 #[.pointer (some ⟨q, 0, none⟩), .int .i64 p] w fun e w' =>
    (isI n p = false ∧ e = .returned (.slice none 0 0) ∧ w' = w) ∨
    (isI n p = true ∧ ∃ i l g, p = ((i : Nat) : Int) ∧ i < manyN n ∧ countsW (listOf x.N i) = some l ∧ e = .returned (.slice (some ⟨g, 0, none⟩) 240 240) ∧ w.heap.size ≤ g ∧ Blk w' g 67 (u8s l).toArray ∧ (∀ y ∈ l, y < 256) ∧ w.grownBy w' none) := by
  obtain ⟨rb, m, B, h, hB, rfl⟩ := h
  exact body_call h p
end
theorem one_new {W w : World} (hg : W.grownBy w none) (n : Int) : Calls Try.prog 6 #[.int .i64 n] w fun e w' =>
    (mb n = false ∧ e = .returned (.tuple #[.pointer none, .int .i64 1]) ∧ w' = w) ∨
    (mb n = true ∧ ∃ q own, e = .returned (.tuple #[.pointer (some ⟨q, 0, none⟩), .int .i64 0]) ∧ One W w' q n.toNat zeroCt own ∧ w.grownBy w' none ∧ ∀ i, own i → w.heap.size ≤ i) :=
  (new_call w n).mono fun e w' h => by
    rcases h with h | ⟨h1, q, rb, m, h2, h3, h4⟩
    · exact .inl h
    · exact .inr ⟨h1, q, _, h2, ⟨rb, m, _, h3, hg.size, rfl⟩, h4, h3.low⟩
/-- The document's in a law. -/
def Doc (W w : World) (r n : Nat) (x : Ct) (own : Nat → Prop) : Prop := ∃ nb wb B, RCtAt w B r nb wb n x ∧ W.heap.size ≤ B ∧ own = own3 r nb wb
section
variable {W w w' : World} {r n : Nat} {x : Ct} {own : Nat → Prop}
theorem Doc.low (h : Doc W w r n x own) : ∀ i, own i → W.heap.size ≤ i := by
  obtain ⟨rb, m, B, h, hB, rfl⟩ := h
  exact fun i hi => Nat.le_trans hB (h.low i hi)
theorem Doc.lt (h : Doc W w r n x own) : ∀ i, own i → i < w.heap.size := by
  obtain ⟨rb, m, B, h, hB, rfl⟩ := h
  exact h.lt
theorem Doc.far {o o' : Nat → Prop} (h : Doc W w r n x own) (ht : Turn w w' o o') (hn : ∀ i, o i → ¬ own i) : Doc W w' r n x own := by
  obtain ⟨rb, m, B, h, hB, rfl⟩ := h
  exact ⟨rb, m, B, h.far ht hn, hB, rfl⟩
theorem Doc.grown (h : Doc W w r n x own) (hg : w.grownBy w' none) : Doc W w' r n x own := h.far (Turn.none_ (own := fun _ => False) hg) (fun _ e => e.elim)
theorem doc_get (h : Doc W w r n x own) (p : Int) : Calls Try.prog 23 #[.pointer (some ⟨r, 0, none⟩), .int .i64 p] w fun e w' => e = .returned (.int .i64 (getE n x p)) ∧ w' = w := by
  obtain ⟨rb, m, B, h, hB, rfl⟩ := h
  exact r_get h p
theorem doc_touched (h : Doc W w r n x own) : Calls Try.prog 26 #[.pointer (some ⟨r, 0, none⟩)] w fun e w' => ∃ v, e = .returned v ∧ Own w' w.heap.size 3 1 v (touchE n x).length (i64s (touchE n x)) ∧ w.grownBy w' none := by
  obtain ⟨rb, m, B, h, hB, rfl⟩ := h
  exact r_touched h
theorem doc_add (h : Doc W w r n x own) (p b : Int) (hb : In64 b) : Calls Try.prog 13 #[.pointer (some ⟨r, 0, none⟩), .int .i64 p, .int .i64 b] w fun e w' => e = .returned (.int .i64 (addE n x p b).1) ∧ Doc W w' r n (addE n x p b).2 own ∧ Turn w w' own own := by
  obtain ⟨rb, m, B, h, hB, rfl⟩ := h
  exact (r_add h p b hb).mono fun e w' ⟨h1, h2, h3⟩ => ⟨h1, ⟨rb, m, B, h2, hB, rfl⟩, h3⟩
theorem doc_load (h : Doc W w r n x own) (p : Int) (hp : In64 p) {b : Nat} {A : Option Addr} {m c : Nat} {l : List Nat} (hl : Bytes w b A m l) (hm : m ≤ 9223372036854775807) : Calls Try.prog 15 #[.pointer (some ⟨r, 0, none⟩), .int .i64 p, .slice A m c] w fun e w' => e = .returned (.int .i64 (loadE n x p l).1) ∧ Doc W w' r n (loadE n x p l).2 own ∧ Turn w w' own own := by
  obtain ⟨rb, mb_, B, h, hB, rfl⟩ := h
  exact (r_load h p hp hl hm).mono fun e w' ⟨h1, h2, h3⟩ => ⟨h1, ⟨rb, mb_, B, h2, hB, rfl⟩, h3⟩
theorem doc_settle (h : Doc W w r n x own) : Calls Try.prog 17 #[.pointer (some ⟨r, 0, none⟩)] w fun e w' => e = .returned (.tuple #[]) ∧ Doc W w' r n (settleE x) own ∧ Turn w w' own own := by
  obtain ⟨rb, m, B, h, hB, rfl⟩ := h
  exact (r_settle h).mono fun e w' ⟨h1, h2, h3⟩ => ⟨h1, ⟨rb, m, B, h2, hB, rfl⟩, h3⟩
theorem doc_undo (h : Doc W w r n x own) : Calls Try.prog 19 #[.pointer (some ⟨r, 0, none⟩)] w fun e w' => e = .returned (.tuple #[]) ∧ Doc W w' r n (undoE x) own ∧ Turn w w' own own := by
  obtain ⟨rb, m, B, h, hB, rfl⟩ := h
  exact (r_undo h).mono fun e w' ⟨h1, h2, h3⟩ => ⟨h1, ⟨rb, m, B, h2, hB, rfl⟩, h3⟩
theorem doc_body (h : Doc W w r n x own) (p : Int) (hp : In64 p) : Calls Try.prog 21 #[.pointer (some ⟨r, 0, none⟩), .int .i64 p] w fun e w' =>
      (isI n p = false ∧ e = .returned (.slice none 0 0) ∧ w' = w) ∨
      (isI n p = true ∧ ∃ i l v, p = ((i : Nat) : Int) ∧ i < manyN n ∧ countsW (listOf x.N i) = some l ∧ e = .returned v ∧ Own w' w.heap.size 5 1 v l.length (u8s l) ∧ (∀ y ∈ l, y < 256) ∧ w.grownBy w' none) := by
  obtain ⟨rb, m, B, h, hB, rfl⟩ := h
  exact r_body h p hp
end
theorem doc_new {W w : World} (hg : W.grownBy w none) (n : Int) : Calls Try.prog 7 #[.int .i64 n] w fun e w' =>
    (mb n = false ∧ e = .returned (.pointer none) ∧ w' = w) ∨
    (mb n = true ∧ ∃ r own, e = .returned (.pointer (some ⟨r, 0, none⟩)) ∧ Doc W w' r n.toNat zeroCt own ∧ w.grownBy w' none ∧ ∀ i, own i → w.heap.size ≤ i) :=
  (r_new w n).mono fun e w' h => by
    rcases h with h | ⟨h1, q, rb, m, h2, h3, h4⟩
    · exact .inl h
    · exact .inr ⟨h1, q, _, h2, ⟨rb, m, _, h3, hg.size, rfl⟩, h4, h3.low⟩
set_option maxHeartbeats 4000000 in
theorem lives_call {w : World} : Calls Try.prog 10 #[] w fun e w' => e = .returned (.bool true) ∧ w.grownBy w' none := by
  have HN := Lib.hid (one_new (World.grownBy.refl w none) 130)
  have HM := fun w => Lib.hid (many_call w 130)
  rw [show manyI 130 = 2 from by decide] at HM
  have A1 : addE 130 zeroCt 5 3 = (0, ⟨upd (fun _ => 0) 5 3, fun _ => 0⟩) := addE_yes (k := 5) (b := 3) (by omega) (by decide)
  have G1 : getE 130 ⟨upd (fun _ => 0) 5 3, fun _ => 0⟩ 5 = 3 := getE_nat (k := 5) _ (by omega)
  have G2 : getE 130 (undoE ⟨upd (fun _ => 0) 5 3, fun _ => 0⟩) 5 = 0 := getE_nat (k := 5) _ (by omega)
  have A2 : (addE 130 (undoE ⟨upd (fun _ => 0) 5 3, fun _ => 0⟩) 5 (-1)).1 = 21 := congrArg Prod.fst (addE_bad (n := 130) (k := 5) (x := undoE ⟨upd (fun _ => 0) 5 3, fun _ => 0⟩) (b := -1) (by omega) (by decide))
  have HA1 := Lib.hid A1; have HG1 := Lib.hid G1; have HG2 := Lib.hid G2; have HA2 := Lib.hid A2
  clear A1 G1 G2 A2
  have hm : mb 130 = true := by decide
  have HMB := Lib.hid hm; clear hm
  go_enter Try.func10, Try.ntmps10
  go_wp2_with (first
    | (go_at_call 6
       refine HN.out.mono ?_
       rintro e w1 (⟨hb, _⟩ | ⟨_, q, own, rfl, h1, hg1, hlo⟩)
       · rw [HMB.out] at hb; cases hb
       have HLO := Lib.hid hlo
       have H1 := Lib.hid h1; have HW1 := Lib.hid hg1
       have HAD := Lib.hid (one_add h1 5 3 ⟨by omega, by omega⟩)
       rw [show ((130 : Int).toNat) = 130 from rfl, HA1.out] at HAD
       clear h1 hg1 hlo)
    | (go_at_call_of 12 (Value.int IntKind.i64 3)
       refine HAD.out.mono ?_
       rintro e w2 ⟨rfl, h2, ht2⟩
       have HGT := Lib.hid (one_get h2 5)
       rw [HG1.out] at HGT
       have HU := Lib.hid (one_undo h2)
       have HW2 := Lib.hid (grown_turn HW1.out ht2 HLO.out)
       clear h2 ht2)
    | (go_at_call 18
       refine HU.out.mono ?_
       rintro e w4 ⟨rfl, h4, ht4⟩
       have HGT := Lib.hid (one_get h4 5)
       rw [HG2.out] at HGT
       have HAD2 := Lib.hid (one_add h4 5 (-1) ⟨by omega, by omega⟩)
       rw [HA2.out] at HAD2
       have HW4 := Lib.hid (grown_turn HW2.out ht4 HLO.out)
       clear h4 ht4)
    | (go_at_call 22
       refine HGT.out.mono ?_
       rintro e w5 ⟨rfl, rfl⟩)
    | (go_at_call 12
       refine HAD2.out.mono ?_
       rintro e w6 ⟨rfl, h6, ht6⟩
       have HW6 := Lib.hid (grown_turn HW4.out ht6 HLO.out)
       clear h6 ht6)
    | (go_at_call 8
       refine (HM _).out.mono ?_
       rintro e w7 ⟨rfl, rfl⟩))
  go_ret
  exact ⟨rfl, HW6.out⟩
theorem pick_call (c : Int) (hc : In64 c) : ∃ k : Nat, k < 6 ∧ ∀ w, Calls Try.prog 11 #[.int .i64 c, .int .i64 6] w fun e w' => e = .returned (.int .i64 (k : Nat)) ∧ w' = w := by
  obtain ⟨h1, h2⟩ := hc
  by_cases h0 : c < 0
  · refine ⟨((-(c + 1)) % 6).toNat, by omega, fun w => ?_⟩
    have he : (-(c + 1)).tmod 6 = (((-(c + 1)) % 6).toNat : Nat) := by rw [Int.tmod_eq_emod_of_nonneg (by omega)]; omega
    go_enter Try.func11, Try.ntmps11
    go_wp2
    go_ret
    refine ⟨?_, rfl⟩
    show Ending.returned (.int .i64 _) = Ending.returned (.int .i64 _)
    congr 2
    omega
  · refine ⟨(c % 6).toNat, by omega, fun w => ?_⟩
    go_enter Try.func11, Try.ntmps11
    go_wp2
    go_ret
    refine ⟨?_, rfl⟩
    show Ending.returned (.int .i64 _) = Ending.returned (.int .i64 _)
    congr 2
    omega
end Go.Proofs.Ytpdkjgmldlpaaaa.Cts
