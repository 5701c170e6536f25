/- The project's counts: Touched. -/
import Derived.Test.YtpdkjgmldlpaaaaCtCalls2
namespace Go.Proofs.Ytpdkjgmldlpaaaa.Cts
open Go.RowKit CrcMath CodecMath Mem Crc Codec
set_option linter.unusedVariables false
set_option linter.unusedSimpArgs false

section
variable {w : World} {B q rb mb_ n : Nat} {x : Ct}
set_option maxRecDepth 100000 in
set_option maxHeartbeats 1600000 in
theorem touched_call (h : CtAt w B q rb mb_ n x) :
    Calls Try.prog 25 #[.pointer (some ⟨q, 0, none⟩)] w fun e w' => ∃ v, e = .returned v ∧ Own w' w.heap.size 3 1 v (touchE n x).length (i64s (touchE n x)) ∧ w.grownBy w' none := by
  obtain ⟨i0, hi0, hz0, hz1, hz2⟩ := info_parts int_info
  have hi := Lib.hid hi0; have z0 := Lib.hid hz0; have z1 := Lib.hid hz1; have z2 := Lib.hid hz2; clear hi0 hz0 hz1 hz2
  have HA := Lib.hid h
  have hn := h.b64
  obtain ⟨c0, _⟩ := h.cells
  clear h
  go_enter Try.func25, Try.ntmps25
  go_wp2_with fail
  go_loopw [3, 11] (fun u i wr => ∃ p : Nat, p ≤ n ∧ i = .int .i64 p ∧ Own wr w.heap.size 3 1 u (tchP x p).length (i64s (tchP x p)) ∧ w.grownBy wr none) (fun _ i _ => n - (RowKit.intOf i).toNat)
  case atStart => exact ⟨0, by omega, rfl, by rw [tchP_zero]; exact Own.nil _ _ _ _, World.grownBy.refl _ _⟩
  case round =>
    obtain ⟨p, hp, rfl, ho, hg⟩ := hrel
    have HO := Lib.hid ho; have HG := Lib.hid hg
    clear ho hg
    by_cases hlt : p < n
    · have HC := Lib.hid (isChanged_call (HA.out.grown HG.out) hlt)
      have HDIV := Lib.hid (show ((p / 120 : Nat) : Int) = (p : Int) / 120 by omega)
      have hsz := HG.out.size
      by_cases hne : x.N p = x.W p
      · have HN := Lib.hid (tchP_no hne)
        rw [show decide (x.N p ≠ x.W p) = false from by simp [hne]] at HC
        clear hne
        go_wp2_with (go_at_call 38; refine HC.out.mono ?_; rintro e w1 ⟨rfl, rfl⟩)
        go_roundw
        case rel => exact ⟨p + 1, by omega, by go_num, by rw [HN.out]; exact HO.out, HG.out⟩
        case measure => simp [RowKit.intOf]; omega
      · rw [show decide (x.N p ≠ x.W p) = true from by simp [hne]] at HC
        have hlen := tchP_len x p
        obtain ⟨A, cap, rfl, hin, hcap, hm⟩ := own_ints HO.out (fun y hy => by have := tchP_lt y hy; omega)
        have HCO := Lib.hid (contains_call (c := cap) hin (by omega) ((p / 120 : Nat) : Int))
        have HNE := Lib.hid hne
        clear hin hne
        by_cases hmem : ((p / 120 : Nat) : Int) ∈ tchP x p
        · have HN := Lib.hid (tchP_in hmem)
          rw [decide_eq_true hmem, HDIV.out] at HCO
          clear hmem
          go_wp2_with (first
            | (go_at_call 38; refine HC.out.mono ?_; rintro e w1 ⟨rfl, rfl⟩)
            | (go_at_call 39; refine HCO.out.mono ?_; rintro e w2 ⟨rfl, rfl⟩))
          go_roundw
          case rel => exact ⟨p + 1, by omega, by go_num, by rw [HN.out]; exact HO.out, HG.out⟩
          case measure => simp [RowKit.intOf]; omega
        · have HN := Lib.hid (tchP_new HNE.out hmem)
          rw [decide_eq_false hmem] at HCO
          clear hmem
          obtain ⟨y, hy⟩ : ∃ y, ((p / 120 : Nat) : Int) = y := ⟨_, rfl⟩
          rw [hy] at HCO HN
          rw [HDIV.out] at hy
          subst hy
          obtain ⟨l, hl⟩ : ∃ l, tchP x p = l := ⟨_, rfl⟩
          rw [hl] at HO HN hlen HCO hcap ⊢
          have HL := Lib.hid hl; clear hl
          obtain ⟨m, hm'⟩ : ∃ m, l.length = m := ⟨_, rfl⟩
          rw [hm'] at HO hlen HCO hcap ⊢
          have HM := Lib.hid hm'; clear hm'
          go_wp2_with (first
            | (go_at_call 38; refine HC.out.mono ?_; rintro e w1 ⟨rfl, rfl⟩)
            | (go_at_call 39; refine HCO.out.mono ?_; rintro e w2 ⟨rfl, rfl⟩)
            | (at_builtin
               refine wpList_append_own_full _ rfl (.tmp 25) (.tmp 27) _ rfl w.heap.size 3 i0 _ 1 8 Try.underlying39 hi.out z0.out z1.out z2.out rfl (by omega) _ m _ rfl (HO.out.alloc _)
                 _ _ 1 1 _ rfl (reads_one_int _ _) (fun u hu => by simp at hu; subst hu; rfl) (by simp only [maxLen]; omega) (by omega) (by simp; omega) ?_
               intro v' w' hown' hgr'
               have HO' := Lib.hid hown'; have HG' := Lib.hid hgr'; clear hown' hgr'))
          go_roundw
          case rel =>
            refine ⟨p + 1, by omega, by go_num, ?_, grownBy_new (HG.out.trans (World.grownBy_alloc _ _ none)) HG'.out.1 (fun i hi => (HO.out.base_ i hi).1)⟩
            rw [HN.out, i64s_append, List.length_append, HM.out]
            exact HO'.out
          case measure => simp [RowKit.intOf]; omega
    · have hpn : p = n := by omega
      subst hpn
      have HE := Lib.hid (tchP_end HA.out.ok)
      go_wp2_with fail
      go_ret
      rw [← HE.out]
      exact ⟨_, rfl, HO.out, HG.out⟩
end
end Go.Proofs.Ytpdkjgmldlpaaaa.Cts
