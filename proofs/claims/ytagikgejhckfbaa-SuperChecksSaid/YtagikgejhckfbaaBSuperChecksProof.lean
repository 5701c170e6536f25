/- 'SuperChecks' answers true at every input, and turns nothing that was there: from the walk to the row. No condition. -/
import Derived.Test.YtagikgejhckfbaaB9
import Derived.Test.YtagikgejhckfbaaRows
import Derived.WalkKit
import Derived.ProofKit
import Derived.OpenShut
import Derived.ShutString
import Derived.ChangeOld
import Derived.Below
import Derived.SizedLaws
/- The walk over the law SuperChecks. -/
namespace Go.Proofs.Ytagikgejhckfbaa.SuperChecks
open Go.ChangeShapes Go.WideShapes Go.ChangeAt Go.RowKit
open Crc CrcMath Mem CodecMath Codec Sup
set_option maxRecDepth 100000 in
set_option maxHeartbeats 1600000 in
theorem walk {H : Type} {enc : TypeId × Value → H} (W : World) (base : Nat) (v0 v1 : Value) (d0 d1 : DataW H) (p0 p1 : List MemPlace)
    (o0 : Value.okWide Try.prog W .any base 23 v0)
    (o1 : Value.okWide Try.prog W .any base 3 v1)
    (h0 : DataW.Trod enc Try.prog W 0 (fun _ => true) true 23 v0 d0 p0)
    (h1 : DataW.Trod enc Try.prog W 0 (fun _ => true) true 3 v1 d1 p1)
    (_hsz : (DataW.weightsEach Try.prog [23, 3] [d0, d1]).all (· ≤ reachBytes) = true) :
    Calls Try.prog 3 #[v0, v1] W fun e W' => e = .returned (.bool true) ∧ Below W.heap.size W W' := by
  obtain ⟨a0, a1, a2, a3, a4, a5, a6, rfl⟩ := open_super o0 h0
  obtain ⟨n, rfl, _, _, _⟩ := open_int Try.underlying3 o1 h1
  clear o0 h0 o1 h1
  have hbk := Blk.new W 23 #[.int .i64 a0, .int .i64 a1, .int .i64 a2, .int .i64 a3, .int .i64 a4, .int .i64 a5, .int .i64 a6]
  have hg0 := World.grownBy_alloc W (.cells #[.int .i64 a0, .int .i64 a1, .int .i64 a2, .int .i64 a3, .int .i64 a4, .int .i64 a5, .int .i64 a6] 23) none
  have hkeep : ∀ wx, (W.alloc (.cells #[.int .i64 a0, .int .i64 a1, .int .i64 a2, .int .i64 a3, .int .i64 a4, .int .i64 a5, .int .i64 a6] 23)).grownBy wx none → wx.cell? ⟨W.heap.size, 0, none⟩ = some (.int .i64 a0) ∧ wx.cell? ⟨W.heap.size, 1, none⟩ = some (.int .i64 a1) ∧ wx.cell? ⟨W.heap.size, 2, none⟩ = some (.int .i64 a2) ∧ wx.cell? ⟨W.heap.size, 3, none⟩ = some (.int .i64 a3) ∧ wx.cell? ⟨W.heap.size, 4, none⟩ = some (.int .i64 a4) ∧ wx.cell? ⟨W.heap.size, 5, none⟩ = some (.int .i64 a5) ∧ wx.cell? ⟨W.heap.size, 6, none⟩ = some (.int .i64 a6) := by
    intro wx hg
    have hb := hbk.grown hg (by simp)
    exact ⟨by rw [hb.cell]; rfl, by rw [hb.cell]; rfl, by rw [hb.cell]; rfl, by rw [hb.cell]; rfl, by rw [hb.cell]; rfl, by rw [hb.cell]; rfl, by rw [hb.cell]; rfl⟩
  have HKEEP := Lib.hid hkeep; have HG0 := Lib.hid hg0
  have HD0 := Lib.hid (grown_drew (W.alloc (.cells #[.int .i64 a0, .int .i64 a1, .int .i64 a2, .int .i64 a3, .int .i64 a4, .int .i64 a5, .int .i64 a6] 23)) none)
  have HCK := Lib.hid (fun wx => check_any a0 a1 a2 a3 a4 a5 a6 n wx)
  have HRF := Lib.hid (fun wx => refcheck_any a0 a1 a2 a3 a4 a5 a6 n wx)
  clear hbk hg0 hkeep
  generalize checkE [a0, a1, a2, a3, a4, a5, a6] n = r at *
  have hrr : decide (r = r) = true := by simp
  go_enter Try.func3, Try.ntmps3
  go_wp2_with fail
  go_region_held3 (fun wx => wx.cell? ⟨W.heap.size, 0, none⟩ = some (.int .i64 a0) ∧ wx.cell? ⟨W.heap.size, 1, none⟩ = some (.int .i64 a1) ∧ wx.cell? ⟨W.heap.size, 2, none⟩ = some (.int .i64 a2) ∧ wx.cell? ⟨W.heap.size, 3, none⟩ = some (.int .i64 a3) ∧ wx.cell? ⟨W.heap.size, 4, none⟩ = some (.int .i64 a4) ∧ wx.cell? ⟨W.heap.size, 5, none⟩ = some (.int .i64 a5) ∧ wx.cell? ⟨W.heap.size, 6, none⟩ = some (.int .i64 a6))
    (first
      | exact HKEEP.out _ HD0.out
      | exact HKEEP.out _ HG1.out
      | exact HKEEP.out _ HG2.out
      | exact HKEEP.out _ HG3.out)
    (first
      | (go_at_call 6
         refine (HCK.out _).mono ?_
         rintro e w2 ⟨rfl, hg⟩
         have HG1 := Lib.hid (HD0.out.trans hg)
         clear hg)
      | (go_at_call 7
         refine (HRF.out _).mono ?_
         rintro e w3 ⟨rfl, hg⟩
         have HG2 := Lib.hid (HG1.out.trans hg)
         clear hg)
      | (go_at_call 8
         refine (known_any _).mono ?_
         rintro e w4 ⟨rfl, hg⟩
         have HG3 := Lib.hid (HG2.out.trans hg)
         clear hg))
  go_wp2
  go_ret
  exact ⟨rfl, below_of_grown (HG0.out.trans HG3.out) (Nat.le_refl _) (fun _ h => by cases h)⟩
end Go.Proofs.Ytagikgejhckfbaa.SuperChecks
/- 'SuperChecks' answers true at every input, and turns nothing that was there: from the walk to the row. No condition. -/
namespace Go.Proofs.Ytagikgejhckfbaa.SuperChecks
open Go.ChangeShapes Go.WideShapes Go.ChangeAt Go.RowKit
set_option linter.unusedVariables false
theorem own : ownKnob Try.prog.godebug = none := by kernel_rfl
theorem laidOut : laidOutB Try.prog = true := by kernel_rfl
set_option maxRecDepth 100000 in
theorem lifted (os : Os) (started : os.Started) (H : Type) (enc : TypeId × Value → H) :
    ReturnsInHanded {} Try.checked os 3 .any (Rows.superChecksSpec.pre6 enc Try.prog Try.f3 Rows.superChecksRow.domain false) (Rows.superChecksSpec.post enc Try.prog Try.f3 false true false false) := by
  refine returnsInHanded_of_change_sized (C := Try.checked) own started (by kernel_rfl) Try.func3
    (ChangeSpec.witness6 (enc := enc) (C := Try.checked) false ⟨#[], #[.agg #[.int .i64 0, .int .i64 0, .int .i64 0, .int .i64 0, .int .i64 0, .int .i64 0, .int .i64 0], .int .i64 0], []⟩ 8 (by kernel_rfl) (by kernel_rfl) (by kernel_rfl) (by kernel_rfl)) ?_
  intro W base args ds gs before hval0 hW hcnd hsz0 _
  have hval : ∀ (j : Nat) t v, Try.f3.params[j]? = some t → args[j]? = some v → Value.okWide Try.prog W .any base t v := hval0
  have hsz : (DataW.weightsEach Try.prog (Try.f3.params.toList ++ Rows.superChecksSpec.plain.varTypes Try.prog) (ds ++ gs)).all (· ≤ reachBytes) = true := hsz0
  have hW' := hW
  obtain ⟨p, q, hA0, hV, rfl, hfz, hnd⟩ := hW
  have hA : DataW.TrodAll enc Try.prog W 0 (fun _ => true) true Try.f3.params.toList args.toList ds p := hA0
  rw [Try.params3] at hA hval hsz
  obtain ⟨v0, vs0, d0, ds0, p0, q0, hargs, rfl, rfl, h0, r0⟩ := trodAll_cons hA
  obtain ⟨v1, vs1, d1, ds1, p1, q1, rfl, rfl, rfl, h1, r1⟩ := trodAll_cons r0
  obtain ⟨rfl, rfl, rfl⟩ := trodAll_nil r1
  obtain rfl : args = #[v0, v1] := by cases args; simp_all
  obtain ⟨rfl, rfl⟩ := trodVars_none hV
  have k0 := h0
  have lt0 : ∀ x ∈ p0, x.block < W.heap.size := by obtain ⟨m, hm⟩ := k0; exact DataW.trod_lt m _ _ _ hm
  have k1 := h1
  have lt1 : ∀ x ∈ p1, x.block < W.heap.size := by obtain ⟨m, hm⟩ := k1; exact DataW.trod_lt m _ _ _ hm
  have hsz1 : (DataW.weightsEach Try.prog [23, 3] [d0, d1]).all (· ≤ reachBytes) = true := hsz
  clear hA0 hval0 hsz0 hsz
  refine (walk (enc := enc) W base v0 v1 d0 d1 p0 p1 (hval 0 23 v0 rfl rfl) (hval 1 3 v1 rfl rfl) h0 h1 hsz1).mono fun e W' ⟨he, bel⟩ => ?_
  subst he
  exact ⟨_, rfl, _, _, _, [], _, [], hW', trodAll_mk1 (shut_bool Try.underlying4 _), (trodAll_cons_mk (Below.trod laidOut (by kernel_rfl) (of_decide_eq_true (by kernel_rfl)) k0 bel lt0) (trodAll_cons_mk (Below.trod laidOut (by kernel_rfl) (of_decide_eq_true (by kernel_rfl)) k1 bel lt1) trodAll_mk0)), rfl, bel.frame _, fun h => by cases h⟩
theorem over : Rows.superChecksRow.holds Try.pinned (OpenSpec.ofChange Rows.superChecksSpec) :=
  OpenClaim.holds_of_wide 3 Try.f3 rfl rfl rfl rfl rfl rfl rfl ⟨rfl, rfl, rfl, rfl, rfl⟩ rfl rfl rfl rfl rfl (by kernel_rfl) Try.func3 (by kernel_rfl)
    (of_decide_eq_true (by kernel_rfl)) (by unfold Func.isWrapper; first | (rw [if_pos (by decide +kernel)]; kernel_rfl) | (rw [if_neg (by decide +kernel)]; exact ⟨rfl, rfl⟩))
    (fun os started H enc _ => lifted os started H enc)
theorem proved : Rows.SuperChecksSaid := over
#print axioms proved
end Go.Proofs.Ytagikgejhckfbaa.SuperChecks
