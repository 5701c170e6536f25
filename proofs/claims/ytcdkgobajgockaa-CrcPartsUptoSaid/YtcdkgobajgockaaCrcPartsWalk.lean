/- The walk over the law CrcParts, by the contracts of what it calls. -/
import Derived.Test.YtcdkgobajgockaaCrcBytes
namespace Go.Proofs.Ytcdkgobajgockaa.CrcPartsUpto
open Go.ChangeShapes Go.WideShapes Go.ChangeAt Go.RowKit
open Crc CrcMath Mem

/-- The bulk's bound on two slices of bytes. -/
theorem bulk_two {H : Type} {d0 d1 : DataW H} {c0 c1 : Nat} (hk : Rows.uptoSmall H [d0, d1] = true) (h0 : c0 = 0 ∨ ∃ el sp, d0 = .slice el sp ∧ el.length + sp.length = c0) (h1 : c1 = 0 ∨ ∃ el sp, d1 = .slice el sp ∧ el.length + sp.length = c1) :
    c0 + c1 ≤ 1048576 := by
  have one : ∀ d : DataW H, 1 ≤ Rows.uptoBulk d := by
    intro d
    cases d with
    | lit l => cases l <;> simp [Rows.uptoBulk]
    | _ => simp [Rows.uptoBulk]
  have len : ∀ l : List (DataW H), l.length ≤ Rows.uptoBulkAll l := by
    intro l
    induction l with
    | nil => simp [Rows.uptoBulkAll]
    | cons x r ih => have := one x; simp only [Rows.uptoBulkAll, List.length_cons]; omega
  have h := of_decide_eq_true hk
  simp only [Rows.uptoBulkAll] at h
  have a0 : c0 ≤ Rows.uptoBulk d0 := by
    rcases h0 with rfl | ⟨el, sp, rfl, rfl⟩
    · omega
    · have := len el; have := len sp; simp only [Rows.uptoBulk]; omega
  have a1 : c1 ≤ Rows.uptoBulk d1 := by
    rcases h1 with rfl | ⟨el, sp, rfl, rfl⟩
    · omega
    · have := len el; have := len sp; simp only [Rows.uptoBulk]; omega
  omega

set_option maxRecDepth 100000 in
set_option maxHeartbeats 800000 in
theorem walk {H : Type} {enc : TypeId × Value → H} (W : World) (base : Nat) (v0 v1 : Value) (d0 d1 : DataW H) (p0 p1 : List MemPlace)
    (o0 : Value.okWide Try.prog W .any base 22 v0)
    (o1 : Value.okWide Try.prog W .any base 22 v1)
    (h0 : DataW.Trod enc Try.prog W 0 (fun _ => true) true 22 v0 d0 p0)
    (h1 : DataW.Trod enc Try.prog W 0 (fun _ => true) true 22 v1 d1 p1)
    (hsz : (DataW.weightsEach Try.prog [22, 22] [d0, d1]).all (· ≤ reachBytes) = true) (hk : Rows.uptoSmall H [d0, d1] = true) :
    Calls Try.prog 4 #[v0, v1] W fun e W' => e = .returned (.bool true) ∧ Below W.heap.size W W' := by
  obtain ⟨A0, len0, cap0, l, rfl, hl, hlc, hcap, hd0⟩ := open_bytes o0 h0 hsz (j := 0) rfl rfl
  obtain ⟨A1, len1, cap1, m, rfl, hm, hmc, hcap1, hd1⟩ := open_bytes o1 h1 hsz (j := 1) rfl rfl
  have hb := bulk_two hk hd0 hd1
  clear o0 h0 o1 h1 hsz hk hd0 hd1
  have HL := Lib.hid hl; have HM := Lib.hid hm; clear hl hm
  obtain ⟨i0, hi0, hz0, hz1, hz2⟩ := info_parts byte_info
  have hi := Lib.hid hi0; have z0 := Lib.hid hz0; have z1 := Lib.hid hz1; have z2 := Lib.hid hz2; clear hi0 hz0 hz1 hz2
  go_enter Try.func4, Try.ntmps4
  go_wp2_with fail
  refine (new_any _).mono ?_
  rintro e wa ⟨rfl, rfl⟩
  go_wp2_with fail
  have hT : Tab (W.alloc (.cells zeroCs 46)) W.heap.size := .inl ⟨_, Blk.new _ _ _, fresh_zero⟩
  have HLa := Lib.hid (HL.out.keep (World.grownBy_alloc W (.cells zeroCs 46) _))
  have HMa := Lib.hid (HM.out.keep (World.grownBy_alloc W (.cells zeroCs 46) _))
  refine (known_any _ _ hT (by simp)).mono ?_
  clear hT
  rintro e wb ⟨rfl, hgb, hrb⟩
  have HLb := Lib.hid (HLa.out.keep hgb)
  have HMb := Lib.hid (HMa.out.keep hgb)
  have HRb := Lib.hid hrb; clear hrb
  have hG := (World.grownBy_alloc W (.cells zeroCs 46) _).trans hgb
  have hsz : W.heap.size < wb.heap.size := by have := hgb.size; simp at this; omega
  clear hgb
  go_wp2_with (first
    | (at_builtin
       refine wpList_append_any _ rfl (.tmp 11) (.tmp 12) _ rfl wb.heap.size 5 i0 _ 1 1 Try.underlying22 hi.out z0.out z1.out z2.out rfl (by omega) (.slice none 0 0) 0 [] rfl
         ⟨by simp, .inl ⟨rfl, rfl⟩⟩ _ A0 len0 cap0 (u8s l) rfl HLb.out.reads (u8s_one l) (by simp only [maxLen]; omega) (by omega) (Nat.le_refl _) ?_
       intro v1 w1 hown1 hg1 hat1
       have HO1 := Lib.hid hown1; clear hown1
       have HM1 := Lib.hid (HMb.out.keep (grown_any hg1 _))
       have hs1 := hg1.size)
    | (at_builtin
       refine wpList_append_any _ rfl (.tmp 14) (.tmp 15) _ rfl wb.heap.size 5 i0 _ 1 1 Try.underlying22 hi.out z0.out z1.out z2.out rfl (by omega) v1 (0 + len0) ([] ++ u8s l) rfl
         HO1.out _ A1 len1 cap1 (u8s m) rfl HM1.out.reads (u8s_one m) (by simp only [maxLen]; omega) (by omega) hs1 ?_
       intro v2 w2 hown2 hg2 hat2
       have HO2 := Lib.hid hown2; clear hown2))
  have row1 : ∀ j, v1.ownBlock = some j → wb.heap.size ≤ j := by
    intro j hj
    rcases hat1 with e1 | e1 <;> rw [e1] at hj <;> simp [Value.ownBlock] at hj
    omega
  have row2 : ∀ j, v2.ownBlock = some j → wb.heap.size ≤ j := by
    intro j hj
    rcases hat2 with e2 | e2
    · exact row1 j (e2 ▸ hj)
    · rw [e2] at hj; simp at hj; omega
  have hgw : wb.grownBy w2 (some W.heap.size) := grownBy_new (grown_any hg1 _) hg2 row1
  have HLw := Lib.hid (HLb.out.keep hgw)
  have HMw := Lib.hid (HMb.out.keep hgw)
  have HRw := Lib.hid ((HRb.out.keep hg1 (by simp [Value.ownBlock])).keep hg2 (fun e => by have := row1 _ e.symm; omega))
  obtain ⟨A, c, hv2, hall⟩ := bytes_of_own (l := l ++ m) (b := W.heap.size) (by simpa [u8s_append] using HO2.out) (fun e => by have := row2 _ e; omega)
    (fun x hx => by rcases List.mem_append.1 hx with h | h; exact HLb.out.lt x h; exact HMb.out.lt x h)
  subst hv2
  have HA := Lib.hid hall; clear hall
  have hlt : ∀ x ∈ l, x < 256 := HLb.out.lt
  have hfin : M (M 0 l) m = M 0 (l ++ m) := M_parts 0 (by omega) l m hlt
  have HF := Lib.hid hfin; clear hfin hlt row1 row2 hat1 hat2
  refine (sum_ready _ _ _ _ l _ HRw.out HLw.out (by omega)).mono ?_
  rintro e wc ⟨rfl, hw⟩
  subst hw
  go_wp2_with fail
  refine (more_ready _ (M 0 l) _ _ _ m _ HRw.out (M_lt _ _) HMw.out (by omega)).mono ?_
  rintro e wd ⟨rfl, hw⟩
  subst hw
  rw [HF.out]
  go_wp2_with fail
  refine (sum_ready _ _ _ _ (l ++ m) _ HRw.out HA.out (by omega)).mono ?_
  rintro e we ⟨rfl, hw⟩
  subst hw
  go_wp2
  go_ret
  exact ⟨rfl, below_of_grown (hG.trans hgw) (Nat.le_refl _) (fun k hk => by cases hk; exact Nat.le_refl _)⟩
end Go.Proofs.Ytcdkgobajgockaa.CrcPartsUpto
