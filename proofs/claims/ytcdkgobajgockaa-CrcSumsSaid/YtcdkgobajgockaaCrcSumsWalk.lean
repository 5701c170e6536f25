/- The walk over the law CrcSums, by the contracts of what it calls. -/
import Derived.Test.YtcdkgobajgockaaCrcBytes
namespace Go.Proofs.Ytcdkgobajgockaa.CrcSums
open Go.ChangeShapes Go.WideShapes Go.ChangeAt Go.RowKit
open Crc CrcMath Mem
set_option maxRecDepth 100000 in
set_option maxHeartbeats 800000 in
theorem walk {H : Type} {enc : TypeId × Value → H} (W : World) (base : Nat) (v0 v1 : Value) (d0 d1 : DataW H) (p0 p1 : List MemPlace)
    (o0 : Value.okWide Try.prog W .any base 22 v0)
    (o1 : Value.okWide Try.prog W .any base 23 v1)
    (h0 : DataW.Trod enc Try.prog W 0 (fun _ => true) true 22 v0 d0 p0)
    (h1 : DataW.Trod enc Try.prog W 0 (fun _ => true) true 23 v1 d1 p1)
    (hsz : (DataW.weightsEach Try.prog [22, 23] [d0, d1]).all (· ≤ reachBytes) = true) :
    Calls Try.prog 3 #[v0, v1] W fun e W' => e = .returned (.bool true) ∧ Below W.heap.size W W' := by
  obtain ⟨a0, len0, cap0, l, rfl, hl, hlc, hcap, _⟩ := open_bytes o0 h0 hsz (j := 0) rfl rfl
  obtain ⟨a1, rfl, rfl, rfl, w1⟩ := open_int Try.underlying23 o1 h1
  have hs : 0 ≤ a1 ∧ a1 ≤ 4294967295 := by simpa [Lit.wf, IntKind.min, IntKind.max, IntKind.signed, IntKind.bits] using w1
  have hn : len0 ≤ 9223372036854775807 := by omega
  obtain ⟨s, rfl⟩ := Int.eq_ofNat_of_zero_le hs.1
  have hs' : s < 4294967296 := by omega
  clear o0 h0 o1 h1 hsz w1 hs
  have HL := Lib.hid hl; clear hl
  go_enter Try.func3, Try.ntmps3
  go_wp2_with fail
  refine (new_any _).mono ?_
  rintro e wa ⟨rfl, rfl⟩
  go_wp2_with fail
  have hT : Tab (W.alloc (.cells zeroCs 46)) W.heap.size := .inl ⟨_, Blk.new _ _ _, fresh_zero⟩
  have HLa := Lib.hid (HL.out.keep (World.grownBy_alloc W (.cells zeroCs 46) _))
  refine (known_any _ _ hT (by simp)).mono ?_
  clear hT
  rintro e wb ⟨rfl, hgb, hrb⟩
  have HLb := Lib.hid (HLa.out.keep hgb)
  have HRb := Lib.hid hrb; clear hrb
  go_wp2_with fail
  refine (sum_ready _ _ _ _ l _ HRb.out HLb.out hn).mono ?_
  rintro e wc ⟨rfl, hw⟩
  subst hw
  go_wp2_with fail
  refine (ref_sum _ _ _ _ l _ HLb.out hn).mono ?_
  rintro e wc' ⟨rfl, rfl⟩
  go_wp2_with fail
  refine (more_ready _ s _ _ _ l _ HRb.out hs' HLb.out hn).mono ?_
  rintro e wd ⟨rfl, hw⟩
  subst hw
  go_wp2_with fail
  refine (ref_more _ s _ _ _ l _ hs' HLb.out hn).mono ?_
  rintro e wd' ⟨rfl, rfl⟩
  go_wp2
  go_ret
  exact ⟨rfl, below_of_grown ((World.grownBy_alloc W _ _).trans hgb) (Nat.le_refl _) (fun k hk => by cases hk; exact Nat.le_refl _)⟩
end Go.Proofs.Ytcdkgobajgockaa.CrcSums
