/- The document's counts: New, Many, Get, Add, Settle, Undo. -/
import Derived.Test.YtpdkjgmldlpaaaaCtLoad
import Derived.Test.YtpdkjgmldlpaaaaRefCounts
namespace Go.Proofs.Ytpdkjgmldlpaaaa.Cts
open Go.RowKit CrcMath CodecMath Mem Crc Codec
set_option linter.unusedVariables false
set_option linter.unusedSimpArgs false

structure RCtAt (w : World) (B r nb wb n : Nat) (x : Ct) : Prop where
  hq : Blk w r 48 #[.slice (some ⟨nb, 0, none⟩) n n, .slice (some ⟨wb, 0, none⟩) n n]
  hN : RowAt w nb n x.N
  hW : RowAt w wb n x.W
  nw : nb ≠ wb
  ok : CtOk n x
  Bq : B ≤ r
  Bn : B ≤ nb
  Bw : B ≤ wb
theorem rcts_ne : 48 ≠ 3 := by decide
section
variable {w w' : World} {B r nb wb n : Nat} {x : Ct}
theorem RCtAt.rn (h : RCtAt w B r nb wb n x) : r ≠ nb := blk_ne h.hq h.hN rcts_ne
theorem RCtAt.rw_ (h : RCtAt w B r nb wb n x) : r ≠ wb := blk_ne h.hq h.hW rcts_ne
theorem RCtAt.lt (h : RCtAt w B r nb wb n x) : ∀ i, own3 r nb wb i → i < w.heap.size := by
  intro i hi
  rcases hi with rfl | rfl | rfl
  · exact h.hq.lt
  · exact Blk.lt h.hN
  · exact Blk.lt h.hW
theorem RCtAt.low (h : RCtAt w B r nb wb n x) : ∀ i, own3 r nb wb i → B ≤ i := by
  have := h.Bq; have := h.Bn; have := h.Bw
  intro i hi
  rcases hi with rfl | rfl | rfl <;> assumption
theorem RCtAt.cells (h : RCtAt w B r nb wb n x) : w.cell? ⟨r, 0, none⟩ = some (.slice (some ⟨nb, 0, none⟩) n n) ∧ w.cell? ⟨r, 1, none⟩ = some (.slice (some ⟨wb, 0, none⟩) n n) := ⟨h.hq.cell 0, h.hq.cell 1⟩
theorem RCtAt.far {own own' : Nat → Prop} (h : RCtAt w B r nb wb n x) (hg : Turn w w' own own') (hn : ∀ i, own i → ¬ own3 r nb wb i) : RCtAt w' B r nb wb n x :=
  { h with hq := hg.blk h.hq (fun e => hn _ e (.inl rfl)), hN := hg.blk h.hN (fun e => hn _ e (.inr (.inl rfl))), hW := hg.blk h.hW (fun e => hn _ e (.inr (.inr rfl))) }
theorem RCtAt.grown (h : RCtAt w B r nb wb n x) (hg : w.grownBy w' none) : RCtAt w' B r nb wb n x := h.far (Turn.none_ (own := fun _ => False) hg) (fun _ e => e.elim)
set_option maxHeartbeats 1000000 in
theorem r_get (h : RCtAt w B r nb wb n x) (p : Int) :
    Calls Try.prog 23 #[.pointer (some ⟨r, 0, none⟩), .int .i64 p] w fun e w' => e = .returned (.int .i64 (getE n x p)) ∧ w' = w := by
  obtain ⟨c0, _⟩ := h.cells
  have hn := h.ok.most
  cases hp : isP n p with
  | true =>
    obtain ⟨k, rfl, hk⟩ := isP_nat hp
    rw [getE_nat x hk]
    have c1 := h.hN.at_ hk
    clear hp h
    generalize x.N k = u at *
    go_enter Try.func23, Try.ntmps23
    go_wp2
    go_ret
    exact ⟨rfl, rfl⟩
  | false =>
    rw [getE_no x hp]
    have hp' := isP_no hp
    clear hp h
    by_cases h0 : p < 0
    · go_enter Try.func23, Try.ntmps23
      go_wp2
      go_ret
      exact ⟨rfl, rfl⟩
    · have h1 : (n : Int) ≤ p := by omega
      go_enter Try.func23, Try.ntmps23
      go_wp2
      go_ret
      exact ⟨rfl, rfl⟩
set_option maxHeartbeats 1000000 in
theorem r_many (w : World) (n : Int) : Calls Try.prog 9 #[.int .i64 n] w fun e w' => e = .returned (.int .i64 ((manyI n : Nat) : Int)) ∧ w' = w := by
  cases hb : mb n with
  | false =>
    rw [show manyI n = 0 from by rw [manyI, hb]; rfl]
    have hb' : n < 16 ∨ 1024 < n := by simp [mb] at hb; omega
    clear hb
    by_cases h0 : n < 16
    · go_enter Try.func9, Try.ntmps9
      go_wp2
      go_ret
      exact ⟨rfl, rfl⟩
    · have h1 : 1024 < n := by omega
      go_enter Try.func9, Try.ntmps9
      go_wp2
      go_ret
      exact ⟨rfl, rfl⟩
  | true =>
    obtain ⟨k, rfl, h1, h2⟩ := mb_nat hb
    rw [manyI_nat h1 h2]
    clear hb
    go_enter Try.func9, Try.ntmps9
    go_wp2_with fail
    go_loopw [3] (fun i wr => ∃ j : Nat, j ≤ manyN k ∧ i = .int .i64 j ∧ wr = w) (fun i _ => 10 - (RowKit.intOf i).toNat)
    case atStart => exact ⟨0, by omega, rfl, rfl⟩
    case round =>
      obtain ⟨j, hj, rfl, rfl⟩ := hrel
      have hj9 : j ≤ 9 := by unfold manyN at hj; omega
      by_cases hlt : j < manyN k
      · have hl : (j : Int) * 120 < k := by unfold manyN at hlt; omega
        go_wp2_with fail
        go_roundw
        case rel => exact ⟨j + 1, by omega, by go_num, by first | exact rfl | trivial⟩
        case measure => simp [RowKit.intOf]; omega
      · have hl : ¬ ((j : Int) * 120 < k) := by unfold manyN at hlt; omega
        have hjm : j = manyN k := by omega
        subst hjm
        go_wp2_with fail
        go_ret
        exact ⟨rfl, by first | exact rfl | trivial⟩
theorem rct_new (w : World) {k a b : Nat} {zs : List Value} (h1 : 16 ≤ k) (h2 : k ≤ 1024) (hz : i64s (row k fun _ => 0) = zs) (hab : (a = w.heap.size ∧ b = w.heap.size + 1) ∨ (a = w.heap.size + 1 ∧ b = w.heap.size)) :
    RCtAt (((w.alloc (.cells zs.toArray 3)).alloc (.cells zs.toArray 3)).alloc (.cells #[.slice (some ⟨a, 0, none⟩) k k, .slice (some ⟨b, 0, none⟩) k k] 48)).drew w.heap.size (w.heap.size + 1 + 1) a b k zeroCt ∧
    w.grownBy (((w.alloc (.cells zs.toArray 3)).alloc (.cells zs.toArray 3)).alloc (.cells #[.slice (some ⟨a, 0, none⟩) k k, .slice (some ⟨b, 0, none⟩) k k] 48)).drew none := by
  have g1 := World.grownBy_alloc w (.cells zs.toArray 3) none
  have g2 := World.grownBy_alloc (w.alloc (.cells zs.toArray 3)) (.cells zs.toArray 3) none
  have g3 := World.grownBy_alloc ((w.alloc (.cells zs.toArray 3)).alloc (.cells zs.toArray 3)) (.cells #[.slice (some ⟨a, 0, none⟩) k k, .slice (some ⟨b, 0, none⟩) k k] 48) none
  have b1 : Blk (w.alloc (.cells zs.toArray 3)) w.heap.size 3 zs.toArray := Blk.new _ _ _
  have b2 : Blk ((w.alloc (.cells zs.toArray 3)).alloc (.cells zs.toArray 3)) (w.heap.size + 1) 3 zs.toArray := by
    have := Blk.new (w.alloc (.cells zs.toArray 3)) 3 zs.toArray
    rwa [show (w.alloc (.cells zs.toArray 3)).heap.size = w.heap.size + 1 from by simp] at this
  have b3 := Blk.new ((w.alloc (.cells zs.toArray 3)).alloc (.cells zs.toArray 3)) 48 #[.slice (some ⟨a, 0, none⟩) k k, .slice (some ⟨b, 0, none⟩) k k]
  rw [show ((w.alloc (.cells zs.toArray 3)).alloc (.cells zs.toArray 3)).heap.size = w.heap.size + 1 + 1 from by simp] at b3
  have r1 := ((b1.alloc (.cells zs.toArray 3)).alloc (.cells #[.slice (some ⟨a, 0, none⟩) k k, .slice (some ⟨b, 0, none⟩) k k] 48)).drew
  have r2 := (b2.alloc (.cells #[.slice (some ⟨a, 0, none⟩) k k, .slice (some ⟨b, 0, none⟩) k k] 48)).drew
  rw [← hz] at r1 r2 b3 ⊢
  refine ⟨⟨b3.drew, ?_, ?_, by omega, zero_ok h1 h2, by omega, by omega, by omega⟩, ?_⟩
  · rcases hab with ⟨rfl, rfl⟩ | ⟨rfl, rfl⟩
    · exact r1
    · exact r2
  · rcases hab with ⟨rfl, rfl⟩ | ⟨rfl, rfl⟩
    · exact r2
    · exact r1
  · rw [hz]
    exact ((g1.trans g2).trans g3).trans (grown_drew _ none)
set_option maxHeartbeats 2000000 in
theorem r_new (w : World) (n : Int) : Calls Try.prog 7 #[.int .i64 n] w fun e w' =>
    (mb n = false ∧ e = .returned (.pointer none) ∧ w' = w) ∨
    (mb n = true ∧ ∃ r nb wb, e = .returned (.pointer (some ⟨r, 0, none⟩)) ∧ RCtAt w' w.heap.size r nb wb n.toNat zeroCt ∧ w.grownBy w' none) := by
  cases hb : mb n with
  | false =>
    have hb' : n < 16 ∨ 1024 < n := by simp [mb] at hb; omega
    clear hb
    by_cases h0 : n < 16
    · go_enter Try.func7, Try.ntmps7
      go_wp2
      go_ret
      first | exact .inl ⟨by first | exact rfl | trivial, rfl, rfl⟩ | exact ⟨rfl, rfl⟩
    · have h1 : 1024 < n := by omega
      go_enter Try.func7, Try.ntmps7
      go_wp2
      go_ret
      first | exact .inl ⟨by first | exact rfl | trivial, rfl, rfl⟩ | exact ⟨rfl, rfl⟩
  | true =>
    obtain ⟨k, rfl, h1, h2⟩ := mb_nat hb
    clear hb
    have hmk := fun w => run_ints k w (by omega)
    rw [zeros_row] at hmk
    obtain ⟨zs, hzs⟩ : ∃ zs, i64s (row k fun _ => 0) = zs := ⟨_, rfl⟩
    rw [hzs] at hmk
    have HZS := Lib.hid hzs; clear hzs
    go_enter Try.func7, Try.ntmps7
    go_wp2
    go_region
    · go_wp2
      go_ret
      obtain ⟨h3, h4⟩ := rct_new w h1 h2 HZS.out (.inl ⟨rfl, rfl⟩)
      exact .inr ⟨by first | exact rfl | trivial, _, _, _, rfl, h3, h4⟩
    · go_wp2
      go_ret
      obtain ⟨h3, h4⟩ := rct_new w h1 h2 HZS.out (.inr ⟨rfl, rfl⟩)
      exact .inr ⟨by first | exact rfl | trivial, _, _, _, rfl, h3, h4⟩
set_option maxHeartbeats 2000000 in
theorem r_add (h : RCtAt w B r nb wb n x) (p b : Int) (hb : In64 b) :
    Calls Try.prog 13 #[.pointer (some ⟨r, 0, none⟩), .int .i64 p, .int .i64 b] w fun e w' => e = .returned (.int .i64 (addE n x p b).1) ∧ RCtAt w' B r nb wb n (addE n x p b).2 ∧ Turn w w' (own3 r nb wb) (own3 r nb wb) := by
  have HA := Lib.hid h
  obtain ⟨hb1, hb2⟩ := hb
  obtain ⟨c0, _⟩ := h.cells
  have hn := h.ok.most
  cases hp : isP n p with
  | false =>
    rw [addE_no hp]
    have hp' := isP_no hp
    clear hp h
    by_cases h0 : p < 0
    · go_enter Try.func13, Try.ntmps13
      go_wp2
      go_ret
      exact ⟨rfl, HA.out, Turn.refl _ _⟩
    · have h1 : (n : Int) ≤ p := by omega
      go_enter Try.func13, Try.ntmps13
      go_wp2
      go_ret
      exact ⟨rfl, HA.out, Turn.refl _ _⟩
  | true =>
    obtain ⟨k, rfl, hk⟩ := isP_nat hp
    have c2 := h.hN.at_ hk
    obtain ⟨hx0, hx1⟩ := h.ok.bN k
    cases hf : fits (x.N k) b with
    | false =>
      rw [addE_bad hk hf]
      have hf' : x.N k + b < 0 ∨ 1000 < x.N k + b := by simp [fits] at hf; omega
      clear hp h hf
      generalize x.N k = u at *
      by_cases q1 : 1000 < b
      · go_enter Try.func13, Try.ntmps13
        go_wp2
        go_ret
        exact ⟨rfl, HA.out, Turn.refl _ _⟩
      · by_cases q2 : b < -1000
        · go_enter Try.func13, Try.ntmps13
          go_wp2
          go_ret
          exact ⟨rfl, HA.out, Turn.refl _ _⟩
        · by_cases q3 : u + b < 0
          · go_enter Try.func13, Try.ntmps13
            go_wp2
            go_ret
            exact ⟨rfl, HA.out, Turn.refl _ _⟩
          · have q4 : 1000 < u + b := by omega
            go_enter Try.func13, Try.ntmps13
            go_wp2
            go_ret
            exact ⟨rfl, HA.out, Turn.refl _ _⟩
    | true =>
      rw [addE_yes hk hf]
      have hok := HA.out.ok.add (k : Int) b
      rw [addE_yes hk hf] at hok
      have HOK := Lib.hid hok; clear hok
      have hf1 : ¬ x.N k + b < 0 := by simp [fits] at hf; omega
      have hf2 : ¬ 1000 < x.N k + b := by simp [fits] at hf; omega
      have q1 : ¬ 1000 < b := by omega
      have q2 : ¬ b < -1000 := by omega
      have fz := Blk.frozen h.hN k
      clear hp h hf
      obtain ⟨u, hu⟩ : ∃ u, x.N k = u := ⟨_, rfl⟩
      rw [hu] at c2 hx0 hx1 hf1 hf2 HOK ⊢
      have HU := Lib.hid hu; clear hu
      go_enter Try.func13, Try.ntmps13
      go_wp2
      go_region
      go_wp2
      go_ret
      have hA := HA.out.grown (grown_drew w none)
      have hg := only_set (World.grownBy.refl w.drew (some nb)) k (.int .i64 (u + b))
      have hg' : w.grownBy (w.drew.setCell ⟨nb, k, none⟩ (.int .i64 (u + b))) (some nb) := (grown_drew w _).trans hg
      exact ⟨rfl, ⟨hA.hq.grown hg (by simpa using hA.rn), hA.hN.put k _, Blk.grown hA.hW hg (by simpa using hA.nw.symm), hA.nw, HOK.out, hA.Bq, hA.Bn, hA.Bw⟩, .of_grown hg' (fun j hj => by cases hj; exact .inr (.inl rfl))⟩
/-- The first k of g, the rest of f. -/
def mix (f g : Nat → Int) (k : Nat) : Nat → Int := fun p => if p < k then g p else f p
theorem mix_zero (f g : Nat → Int) : mix f g 0 = f := by funext p; simp [mix]
theorem mix_step (f g : Nat → Int) (k : Nat) : upd (mix f g k) k (g k) = mix f g (k + 1) := by
  funext p
  unfold upd mix
  by_cases h : p = k
  · subst h; simp
  · rw [if_neg h]
    by_cases h2 : p < k
    · rw [if_pos h2, if_pos (by omega)]
    · rw [if_neg h2, if_neg (by omega)]
theorem mix_row (f g : Nat → Int) (n : Nat) : row n (mix f g n) = row n g := row_congr (fun p hp => by simp [mix, hp])
set_option maxHeartbeats 2000000 in
theorem r_settle (h : RCtAt w B r nb wb n x) :
    Calls Try.prog 17 #[.pointer (some ⟨r, 0, none⟩)] w fun e w' => e = .returned (.tuple #[]) ∧ RCtAt w' B r nb wb n (settleE x) ∧ Turn w w' (own3 r nb wb) (own3 r nb wb) := by
  have HA := Lib.hid h
  have hn := h.ok.most
  clear h
  go_enter Try.func17, Try.ntmps17
  go_wp2_with fail
  go_loopw [2] (fun i wr => ∃ k : Nat, k ≤ n ∧ i = .int .i64 k ∧ RowAt wr wb n (mix x.W x.N k) ∧ w.grownBy wr (some wb)) (fun i _ => n - (RowKit.intOf i).toNat)
  case atStart => exact ⟨0, by omega, rfl, by rw [mix_zero]; exact HA.out.hW, World.grownBy.refl _ _⟩
  case round =>
    obtain ⟨k, hk, rfl, hrow, hg⟩ := hrel
    have hq := HA.out.hq.grown hg (by simpa using HA.out.rw_)
    have hN : RowAt wr nb n x.N := Blk.grown HA.out.hN hg (by simpa using HA.out.nw)
    have c0 := hq.cell 0; have c1 := hq.cell 1
    simp at c0 c1
    have HG := Lib.hid hg; have HROW := Lib.hid hrow; have HQ := Lib.hid hq; have HN := Lib.hid hN
    by_cases hlt : k < n
    · have c2 := hN.at_ hlt
      have fz := Blk.frozen hrow k
      have c3 := hrow.at_ hlt
      have hput := (show RowAt wr.drew wb n (mix x.W x.N k) from hrow).put k (x.N k)
      rw [mix_step] at hput
      have HP := Lib.hid hput
      have hnw := HA.out.nw
      clear hg hrow hq hN hput
      obtain ⟨u, hu⟩ : ∃ u, x.N k = u := ⟨_, rfl⟩
      rw [hu] at c2 HP
      clear hu
      generalize mix x.W x.N k k = u2 at *
      go_wp2_with fail
      go_region
      go_wp2_with fail
      go_roundw
      case rel => exact ⟨k + 1, by omega, by go_num, HP.out, only_set (only_drew HG.out) _ _⟩
      case measure => simp [RowKit.intOf]; omega
    · have hkn : k = n := by omega
      subst hkn
      clear hg hrow hq hN
      go_wp2_with fail
      go_end0
      have hA := HA.out
      have hrow := HROW.out
      have hr2 : RowAt wr wb k x.N := by
        show Blk _ _ _ _
        rw [← mix_row x.W x.N k]
        exact hrow
      exact ⟨rfl, ⟨HQ.out, HN.out, hr2, hA.nw, hA.ok.settle, hA.Bq, hA.Bn, hA.Bw⟩, .of_grown HG.out (fun j hj => by cases hj; exact .inr (.inr rfl))⟩
set_option maxHeartbeats 2000000 in
theorem r_undo (h : RCtAt w B r nb wb n x) :
    Calls Try.prog 19 #[.pointer (some ⟨r, 0, none⟩)] w fun e w' => e = .returned (.tuple #[]) ∧ RCtAt w' B r nb wb n (undoE x) ∧ Turn w w' (own3 r nb wb) (own3 r nb wb) := by
  have HA := Lib.hid h
  have hn := h.ok.most
  clear h
  go_enter Try.func19, Try.ntmps19
  go_wp2_with fail
  go_loopw [2] (fun i wr => ∃ k : Nat, k ≤ n ∧ i = .int .i64 k ∧ RowAt wr nb n (mix x.N x.W k) ∧ w.grownBy wr (some nb)) (fun i _ => n - (RowKit.intOf i).toNat)
  case atStart => exact ⟨0, by omega, rfl, by rw [mix_zero]; exact HA.out.hN, World.grownBy.refl _ _⟩
  case round =>
    obtain ⟨k, hk, rfl, hrow, hg⟩ := hrel
    have hq := HA.out.hq.grown hg (by simpa using HA.out.rn)
    have hW : RowAt wr wb n x.W := Blk.grown HA.out.hW hg (by simpa using HA.out.nw.symm)
    have c0 := hq.cell 0; have c1 := hq.cell 1
    simp at c0 c1
    have HG := Lib.hid hg; have HROW := Lib.hid hrow; have HQ := Lib.hid hq; have HW := Lib.hid hW
    by_cases hlt : k < n
    · have c2 := hW.at_ hlt
      have fz := Blk.frozen hrow k
      have c3 := hrow.at_ hlt
      have hput := (show RowAt wr.drew nb n (mix x.N x.W k) from hrow).put k (x.W k)
      rw [mix_step] at hput
      have HP := Lib.hid hput
      have hnw := HA.out.nw
      clear hg hrow hq hW hput
      obtain ⟨u, hu⟩ : ∃ u, x.W k = u := ⟨_, rfl⟩
      rw [hu] at c2 HP
      clear hu
      generalize mix x.N x.W k k = u2 at *
      go_wp2_with fail
      go_region
      go_wp2_with fail
      go_roundw
      case rel => exact ⟨k + 1, by omega, by go_num, HP.out, only_set (only_drew HG.out) _ _⟩
      case measure => simp [RowKit.intOf]; omega
    · have hkn : k = n := by omega
      subst hkn
      clear hg hrow hq hW
      go_wp2_with fail
      go_end0
      have hA := HA.out
      have hrow := HROW.out
      have hr2 : RowAt wr nb k x.W := by
        show Blk _ _ _ _
        rw [← mix_row x.N x.W k]
        exact hrow
      exact ⟨rfl, ⟨HQ.out, hr2, HW.out, hA.nw, hA.ok.undo, hA.Bq, hA.Bn, hA.Bw⟩, .of_grown HG.out (fun j hj => by cases hj; exact .inr (.inl rfl))⟩
end
end Go.Proofs.Ytpdkjgmldlpaaaa.Cts
