/- The document's counts: list, Body, Touched. -/
import Derived.Test.YtpdkjgmldlpaaaaCtRef
namespace Go.Proofs.Ytpdkjgmldlpaaaa.Cts
open Go.RowKit CrcMath CodecMath Mem Crc Codec
set_option linter.unusedVariables false
set_option linter.unusedSimpArgs false

theorem listOf_take_succ {f : Nat → Int} {i j : Nat} (h : j < 120) : (listOf f i).take (j + 1) = (listOf f i).take j ++ [f (120 * i + j)] := by
  rw [List.take_add_one, List.getElem?_eq_getElem (by rw [listOf_length]; exact h)]
  congr 1
  have := listOf_getD (f := f) (i := i) h
  rw [List.getD_eq_getElem?_getD, List.getElem?_eq_getElem (by rw [listOf_length]; exact h)] at this
  simp only [Option.getD_some] at this
  rw [this]; rfl
section
variable {w w' : World} {B r nb wb n : Nat} {x : Ct}
theorem getE_out (h : CtOk n x) (k : Nat) : getE n x (k : Int) = x.N k := by
  rcases Nat.lt_or_ge k n with hk | hk
  · exact getE_nat x hk
  · rw [h.oN k hk]
    exact getE_no x (by simp [isP]; omega)
theorem list_range64 {f : Nat → Int} (h : ∀ p, 0 ≤ f p ∧ f p ≤ 1000) (i : Nat) : ∀ y ∈ listOf f i, -9223372036854775808 ≤ y ∧ y ≤ 9223372036854775807 := by
  intro y hy
  simp [listOf] at hy
  obtain ⟨k, _, rfl⟩ := hy
  have := h (120 * i + k)
  omega
set_option maxRecDepth 100000 in
set_option maxHeartbeats 1600000 in
theorem r_list (h : RCtAt w B r nb wb n x) {i : Nat} (hi : i < manyN n) :
    Calls Try.prog 37 #[.pointer (some ⟨r, 0, none⟩), .int .i64 (i : Nat)] w fun e w' => ∃ v, e = .returned v ∧ Own w' w.heap.size 3 1 v 120 (i64s (listOf x.N i)) ∧ w.grownBy w' none := by
  obtain ⟨i0, hi0, hz0, hz1, hz2⟩ := info_parts int_info
  have hi' := Lib.hid hi0; have z0 := Lib.hid hz0; have z1 := Lib.hid hz1; have z2 := Lib.hid hz2; clear hi0 hz0 hz1 hz2
  have HA := Lib.hid h
  have hi2 : i ≤ 8 := by have := h.ok.most; unfold manyN at hi; omega
  clear h hi
  go_enter Try.func37, Try.ntmps37
  go_wp2_with fail
  go_loopw [5, 6] (fun u k wr => ∃ j : Nat, j ≤ 120 ∧ k = .int .i64 ((120 * i + j : Nat) : Int) ∧ Own wr w.heap.size 3 1 u j (i64s ((listOf x.N i).take j)) ∧ w.grownBy wr none) (fun _ k _ => 120 * i + 120 - (RowKit.intOf k).toNat)
  case atStart => exact ⟨0, by omega, by congr 1; omega, Own.nil _ _ _ _, World.grownBy.refl _ _⟩
  case round =>
    obtain ⟨j, hj, rfl, ho, hg⟩ := hrel
    have HO := Lib.hid ho; have HG := Lib.hid hg
    clear ho hg
    have hsz := HG.out.size
    by_cases hlt : j < 120
    · have hl1 : ((120 * i + j : Nat) : Int) < ((i : Int) + 1) * 120 := by omega
      have HGT := Lib.hid (r_get (HA.out.grown HG.out) ((120 * i + j : Nat) : Int))
      rw [getE_out HA.out.ok] at HGT
      have HTK := Lib.hid (listOf_take_succ (f := x.N) (i := i) hlt)
      obtain ⟨y, hy⟩ : ∃ y, x.N (120 * i + j) = y := ⟨_, rfl⟩
      rw [hy] at HGT HTK
      clear hy
      obtain ⟨k, hk⟩ : ∃ k : Nat, 120 * i + j = k := ⟨_, rfl⟩
      rw [hk] at HGT hl1 ⊢
      have HK := Lib.hid hk; clear hk
      go_wp2_with (first
        | (go_at_call 23; refine HGT.out.mono ?_; rintro e w1 ⟨rfl, rfl⟩)
        | (at_builtin
           refine wpList_append_own_full _ rfl (.tmp 16) (.tmp 20) _ rfl w.heap.size 3 i0 _ 1 8 Try.underlying39 hi'.out z0.out z1.out z2.out rfl (by omega) _ j _ rfl (HO.out.alloc _)
             _ _ 1 1 _ rfl (reads_one_int _ _) (fun u hu => by simp at hu; subst hu; rfl) (by simp only [maxLen]; omega) (by omega) (by simp; omega) ?_
           intro v' w' hown' hgr'
           have HO' := Lib.hid hown'; have HG' := Lib.hid hgr'; clear hown' hgr'))
      go_roundw
      case rel =>
        refine ⟨j + 1, by omega, ?_, ?_, grownBy_new (HG.out.trans (World.grownBy_alloc _ _ none)) HG'.out.1 (fun i hi => (HO.out.base_ i hi).1)⟩
        · congr 1; have := HK.out; omega
        · rw [HTK.out, i64s_append]
          exact HO'.out
      case measure => simp [RowKit.intOf]; have := HK.out; omega
    · have hj120 : j = 120 := by omega
      subst hj120
      have hl1 : ¬ ((120 * i + 120 : Nat) : Int) < ((i : Int) + 1) * 120 := by omega
      have ho := HO.out
      rw [List.take_of_length_le (by rw [listOf_length]; omega)] at ho
      have HO2 := Lib.hid ho; clear ho
      obtain ⟨k, hk⟩ : ∃ k : Nat, 120 * i + 120 = k := ⟨_, rfl⟩
      rw [hk] at hl1 ⊢
      clear hk
      go_wp2_with fail
      go_ret
      exact ⟨_, rfl, HO2.out, HG.out⟩
set_option maxRecDepth 100000 in
set_option maxHeartbeats 2000000 in
theorem r_body (h : RCtAt w B r nb wb n x) (p : Int) (hp64 : In64 p) :
    Calls Try.prog 21 #[.pointer (some ⟨r, 0, none⟩), .int .i64 p] w fun e w' =>
      (isI n p = false ∧ e = .returned (.slice none 0 0) ∧ w' = w) ∨
      (isI n p = true ∧ ∃ i l v, p = ((i : Nat) : Int) ∧ i < manyN n ∧ countsW (listOf x.N i) = some l ∧ e = .returned v ∧ Own w' w.heap.size 5 1 v l.length (u8s l) ∧ (∀ y ∈ l, y < 256) ∧ w.grownBy w' none) := by
  have HM := fun w => Lib.hid (r_many w (n : Int))
  rw [manyI_nat h.ok.one h.ok.most] at HM
  obtain ⟨c0, _⟩ := h.cells
  have HA := Lib.hid h
  cases hp : isI n p with
  | false =>
    have hp' := isI_no hp
    clear hp h
    obtain ⟨m, hm⟩ : ∃ m, manyN n = m := ⟨_, rfl⟩
    rw [hm] at HM hp'
    clear hm
    by_cases h0 : p < 0
    · go_enter Try.func21, Try.ntmps21
      go_wp2_with (go_at_call 9; refine (HM _).out.mono ?_; rintro e w' ⟨rfl, rfl⟩)
      go_ret
      first | exact .inl ⟨by first | exact rfl | trivial, rfl, rfl⟩ | exact ⟨rfl, rfl⟩
    · have h1 : (m : Int) ≤ p := by omega
      go_enter Try.func21, Try.ntmps21
      go_wp2_with (go_at_call 9; refine (HM _).out.mono ?_; rintro e w' ⟨rfl, rfl⟩)
      go_ret
      first | exact .inl ⟨by first | exact rfl | trivial, rfl, rfl⟩ | exact ⟨rfl, rfl⟩
  | true =>
    obtain ⟨i, rfl, hi⟩ := isI_nat hp
    have HLS := Lib.hid (r_list h hi)
    obtain ⟨l', hl'⟩ := list_some h.ok.bN i
    have HL := Lib.hid hl'; clear hl'
    have HRG := Lib.hid (list_range64 h.ok.bN i)
    have HI := Lib.hid hi
    clear hp h
    obtain ⟨m, hm⟩ : ∃ m, manyN n = m := ⟨_, rfl⟩
    rw [hm] at HM hi
    clear hm
    have h1 : ¬ (m : Int) ≤ (i : Int) := by omega
    go_enter Try.func21, Try.ntmps21
    go_wp2_with (first
      | (go_at_call 9; refine (HM _).out.mono ?_; rintro e w' ⟨rfl, rfl⟩)
      | (go_at_call 37
         refine HLS.out.mono ?_
         rintro e w1 ⟨v, rfl, ho, hg⟩
         obtain ⟨A, c, rfl, hin, _, _⟩ := own_ints ho HRG.out
         have HIN := Lib.hid hin; have HG := Lib.hid hg; clear hin hg ho)
      | (go_at_call 36
         refine (ref_put_counts _ _ 120 _ _ _ HIN.out (by omega)).mono ?_
         rintro e w2 ⟨hg2, hW⟩
         rw [HL.out] at hW
         rcases hW with ⟨l2, v2, ho2, rfl, hown2, hlt2⟩ | ⟨ho2, _⟩
         case inr => cases ho2
         obtain rfl : l' = l2 := by injection ho2
         have HO2 := Lib.hid hown2; have HLT := Lib.hid hlt2; have HG2 := Lib.hid (HG.out.trans hg2)
         have HSZ := Lib.hid HG.out.size
         clear ho2 hown2 hlt2 hg2))
    go_ret
    exact .inr ⟨by first | exact rfl | trivial, i, l', _, rfl, HI.out, HL.out, rfl, HO2.out.low HSZ.out, HLT.out, HG2.out⟩
end
end Go.Proofs.Ytpdkjgmldlpaaaa.Cts
