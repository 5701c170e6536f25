/- The disk's small calls: Size, has, isDue, stops, countDone, Fail, Cut, remainder. -/
import Derived.Test.YtkfijgdbaihhpaaDiskLay
import Derived.WalkKit
import Derived.LoopTactic
import Derived.Lib.Hide
import Derived.ProofKit
namespace Go.Proofs.Ytkfijgdbaihhpaa.Dsk
open Go.RowKit Mem Crc DiskSpec

section
variable {w : World} {B b bd bm : Nat} {S : St} {f : Nat → Option Value} {own : Nat → Prop}
theorem Lay.c0 (h : Lay w B b bd bm f S own) : w.cell? ⟨b, 0, none⟩ = some (.slice (some ⟨bd, 0, none⟩) S.n S.n) := by rw [h.blk.cell]; rfl
theorem Lay.c1 (h : Lay w B b bd bm f S own) : w.cell? ⟨b, 1, none⟩ = some (.map (some bm)) := by rw [h.blk.cell]; rfl
theorem Lay.c3 (h : Lay w B b bd bm f S own) : w.cell? ⟨b, 3, none⟩ = some (.int .i64 (S.f1 : Nat)) := by rw [h.blk.cell]; rfl
theorem Lay.c4 (h : Lay w B b bd bm f S own) : w.cell? ⟨b, 4, none⟩ = some (.int .i64 (S.f2 : Nat)) := by rw [h.blk.cell]; rfl
theorem Lay.c5 (h : Lay w B b bd bm f S own) : w.cell? ⟨b, 5, none⟩ = some (.int .i64 (S.f3 : Nat)) := by rw [h.blk.cell]; rfl
theorem Lay.c6 (h : Lay w B b bd bm f S own) : w.cell? ⟨b, 6, none⟩ = some (.int .i64 S.left) := by rw [h.blk.cell]; rfl
theorem Lay.fz (h : Lay w B b bd bm f S own) (j : Nat) : w.frozen? ⟨b, j, none⟩ = false := h.blk.frozen j
end

set_option maxHeartbeats 400000 in
theorem disk_size {w : World} {B b bd bm : Nat} {S : St} {f : Nat → Option Value} {own : Nat → Prop} (h : Lay w B b bd bm f S own) :
    Calls Try.prog 21 #[.pointer (some ⟨b, 0, none⟩)] w fun e w' => e = .returned (.int .i64 (S.n : Nat)) ∧ w = w' := by
  have hc := h.c0
  clear h
  generalize S.n = n at *
  go_enter Try.func21, Try.ntmps21
  go_wp2
  go_ret
  exact ⟨rfl, rfl⟩

set_option maxHeartbeats 800000 in
theorem disk_has {w : World} {B b bd bm : Nat} {S : St} {f : Nat → Option Value} {own : Nat → Prop} (h : Lay w B b bd bm f S own) (at_ count : Int)
    (h1 : -9223372036854775808 ≤ at_ ∧ at_ ≤ 9223372036854775807) (_ : -9223372036854775808 ≤ count ∧ count ≤ 9223372036854775807) :
    Calls Try.prog 35 #[.pointer (some ⟨b, 0, none⟩), .int .i64 at_, .int .i64 count] w fun e w' => e = .returned (.bool (S.has at_ count)) ∧ w = w' := by
  have htop := h.ok.top
  have HS := Lib.hid (disk_size h)
  clear h
  have hhas : S.has at_ count = (decide (0 ≤ at_) && (decide (1 ≤ count) && decide (count ≤ S.n - at_))) := rfl
  generalize S.has at_ count = r at *
  generalize S.n = n at *
  by_cases h0 : 0 ≤ at_
  · by_cases h3 : 1 ≤ count
    · have HH := Lib.hid (show r = decide (count ≤ (n : Int) - at_) by simp [hhas, h0, h3]); clear hhas
      have hw : IntKind.i64.wrap ((n : Int) - at_) = (n : Int) - at_ := IntWalk.i64_in _ (by omega)
      go_enter Try.func35, Try.ntmps35
      go_wp2_with fail
      refine HS.out.mono ?_
      rintro e w' ⟨rfl, rfl⟩
      go_wp2
      go_ret
      exact ⟨by rw [HH.out]; rfl, rfl⟩
    · have HH := Lib.hid (show r = false by simp [hhas, h0, h3]); clear hhas
      go_enter Try.func35, Try.ntmps35
      go_wp2
      go_ret
      exact ⟨by rw [HH.out]; rfl, rfl⟩
  · have HH := Lib.hid (show r = false by simp [hhas, h0]); clear hhas
    go_enter Try.func35, Try.ntmps35
    go_wp2
    go_ret
    exact ⟨by rw [HH.out]; rfl, rfl⟩


set_option maxHeartbeats 800000 in
theorem disk_due1 {w : World} {B b bd bm : Nat} {S : St} {f : Nat → Option Value} {own : Nat → Prop} (h : Lay w B b bd bm f S own) :
    Calls Try.prog 36 #[.pointer (some ⟨b, 0, none⟩), .int .i64 1] w fun e w' => e = .returned (.bool (decide (S.f1 = 1))) ∧ w.grownBy w' (some b) ∧ Lay w' B b bd bm f { S with f1 := S.f1 - 1 } own := by
  have hc := h.c3
  have hf := h.fz 3
  have hle := h.ok.f1
  by_cases h0 : S.f1 = 0
  · have HE := Lib.hid (show decide (S.f1 = 1) = false by rw [h0]; rfl)
    have HS := Lib.hid (show ({ S with f1 := S.f1 - 1 } : St) = S from St.ext' rfl rfl rfl (by show S.f1 - 1 = S.f1; omega) rfl rfl rfl)
    have H := Lib.hid h; clear h
    rw [HE.out, HS.out]
    rw [h0] at hc
    clear hle h0 HE HS
    go_enter Try.func36, Try.ntmps36
    go_wp2
    go_ret
    exact ⟨rfl, World.grownBy.refl _ _, H.out⟩
  · have hx : ((S.f1 - 1 : Nat) : Int) = (S.f1 : Int) - 1 := by omega
    have H := Lib.hid (h.field 3 (.int .i64 (S.f1 - 1 : Int)) (T := { S with f1 := S.f1 - 1 }) { h.ok with f1 := by show S.f1 - 1 ≤ _; omega } rfl rfl rfl (by rw [← hx]; rfl))
    clear h
    have HX := Lib.hid (show ((S.f1 : Int) - 1 == 0) = decide (S.f1 = 1) by rw [Bool.eq_iff_iff]; simp; omega)
    clear hx
    generalize ({ S with f1 := S.f1 - 1 } : St) = T at *
    generalize decide (S.f1 = 1) = r at *
    generalize S.f1 = m at *
    have hm : (m : Int) ≠ 0 := by omega
    have hw : IntKind.i64.wrap ((m : Int) - 1) = (m : Int) - 1 := IntWalk.i64_in _ (by omega)
    go_enter Try.func36, Try.ntmps36
    go_wp2_with fail
    go_region
    go_wp2
    go_ret
    exact ⟨by rw [← HX.out]; rfl, only_drew (Lib.grownBy_setB (World.grownBy.refl _ _) _ _), H.out.drew⟩

set_option maxHeartbeats 800000 in
theorem disk_due2 {w : World} {B b bd bm : Nat} {S : St} {f : Nat → Option Value} {own : Nat → Prop} (h : Lay w B b bd bm f S own) :
    Calls Try.prog 36 #[.pointer (some ⟨b, 0, none⟩), .int .i64 2] w fun e w' => e = .returned (.bool (decide (S.f2 = 1))) ∧ w.grownBy w' (some b) ∧ Lay w' B b bd bm f { S with f2 := S.f2 - 1 } own := by
  have hc := h.c4
  have hf := h.fz 4
  have hle := h.ok.f2
  by_cases h0 : S.f2 = 0
  · have HE := Lib.hid (show decide (S.f2 = 1) = false by rw [h0]; rfl)
    have HS := Lib.hid (show ({ S with f2 := S.f2 - 1 } : St) = S from St.ext' rfl rfl rfl rfl (by show S.f2 - 1 = S.f2; omega) rfl rfl)
    have H := Lib.hid h; clear h
    rw [HE.out, HS.out]
    rw [h0] at hc
    clear hle h0 HE HS
    go_enter Try.func36, Try.ntmps36
    go_wp2
    go_ret
    exact ⟨rfl, World.grownBy.refl _ _, H.out⟩
  · have hx : ((S.f2 - 1 : Nat) : Int) = (S.f2 : Int) - 1 := by omega
    have H := Lib.hid (h.field 4 (.int .i64 (S.f2 - 1 : Int)) (T := { S with f2 := S.f2 - 1 }) { h.ok with f2 := by show S.f2 - 1 ≤ _; omega } rfl rfl rfl (by rw [← hx]; rfl))
    clear h
    have HX := Lib.hid (show ((S.f2 : Int) - 1 == 0) = decide (S.f2 = 1) by rw [Bool.eq_iff_iff]; simp; omega)
    clear hx
    generalize ({ S with f2 := S.f2 - 1 } : St) = T at *
    generalize decide (S.f2 = 1) = r at *
    generalize S.f2 = m at *
    have hm : (m : Int) ≠ 0 := by omega
    have hw : IntKind.i64.wrap ((m : Int) - 1) = (m : Int) - 1 := IntWalk.i64_in _ (by omega)
    go_enter Try.func36, Try.ntmps36
    go_wp2_with fail
    go_region
    go_wp2
    go_ret
    exact ⟨by rw [← HX.out]; rfl, only_drew (Lib.grownBy_setB (World.grownBy.refl _ _) _ _), H.out.drew⟩

set_option maxHeartbeats 800000 in
theorem disk_due3 {w : World} {B b bd bm : Nat} {S : St} {f : Nat → Option Value} {own : Nat → Prop} (h : Lay w B b bd bm f S own) :
    Calls Try.prog 36 #[.pointer (some ⟨b, 0, none⟩), .int .i64 3] w fun e w' => e = .returned (.bool (decide (S.f3 = 1))) ∧ w.grownBy w' (some b) ∧ Lay w' B b bd bm f { S with f3 := S.f3 - 1 } own := by
  have hc := h.c5
  have hf := h.fz 5
  have hle := h.ok.f3
  by_cases h0 : S.f3 = 0
  · have HE := Lib.hid (show decide (S.f3 = 1) = false by rw [h0]; rfl)
    have HS := Lib.hid (show ({ S with f3 := S.f3 - 1 } : St) = S from St.ext' rfl rfl rfl rfl rfl (by show S.f3 - 1 = S.f3; omega) rfl)
    have H := Lib.hid h; clear h
    rw [HE.out, HS.out]
    rw [h0] at hc
    clear hle h0 HE HS
    go_enter Try.func36, Try.ntmps36
    go_wp2
    go_ret
    exact ⟨rfl, World.grownBy.refl _ _, H.out⟩
  · have hx : ((S.f3 - 1 : Nat) : Int) = (S.f3 : Int) - 1 := by omega
    have H := Lib.hid (h.field 5 (.int .i64 (S.f3 - 1 : Int)) (T := { S with f3 := S.f3 - 1 }) { h.ok with f3 := by show S.f3 - 1 ≤ _; omega } rfl rfl rfl (by rw [← hx]; rfl))
    clear h
    have HX := Lib.hid (show ((S.f3 : Int) - 1 == 0) = decide (S.f3 = 1) by rw [Bool.eq_iff_iff]; simp; omega)
    clear hx
    generalize ({ S with f3 := S.f3 - 1 } : St) = T at *
    generalize decide (S.f3 = 1) = r at *
    generalize S.f3 = m at *
    have hm : (m : Int) ≠ 0 := by omega
    have hw : IntKind.i64.wrap ((m : Int) - 1) = (m : Int) - 1 := IntWalk.i64_in _ (by omega)
    go_enter Try.func36, Try.ntmps36
    go_wp2_with fail
    go_region
    go_wp2
    go_ret
    exact ⟨by rw [← HX.out]; rfl, only_drew (Lib.grownBy_setB (World.grownBy.refl _ _) _ _), H.out.drew⟩

set_option maxHeartbeats 800000 in
theorem disk_stops2 {w : World} {B b bd bm : Nat} {S : St} {f : Nat → Option Value} {own : Nat → Prop} (h : Lay w B b bd bm f S own) :
    Calls Try.prog 41 #[.pointer (some ⟨b, 0, none⟩), .int .i64 2] w fun e w' => e = .returned (.bool (decide (S.f2 = 1) || decide (S.left = 0))) ∧ w.grownBy w' (some b) ∧ Lay w' B b bd bm f { S with f2 := S.f2 - 1 } own := by
  have HD := Lib.hid (disk_due2 h)
  have HL := Lib.hid (show ({ S with f2 := S.f2 - 1 } : St).left = S.left from rfl)
  clear h
  generalize ({ S with f2 := S.f2 - 1 } : St) = T at *
  cases hd : decide (S.f2 = 1) with
  | true =>
    rw [hd] at HD
    clear hd
    go_enter Try.func41, Try.ntmps41
    go_wp2_with fail
    refine HD.out.mono ?_
    rintro e w1 ⟨rfl, hg, hl⟩
    have HG := Lib.hid hg; have H := Lib.hid hl; clear hg hl
    go_wp2
    go_ret
    exact ⟨rfl, HG.out, H.out⟩
  | false =>
    rw [hd] at HD
    clear hd
    go_enter Try.func41, Try.ntmps41
    go_wp2_with fail
    refine HD.out.mono ?_
    rintro e w1 ⟨rfl, hg, hl⟩
    have hc := hl.c6
    rw [HL.out] at hc
    have HG := Lib.hid hg; have H := Lib.hid hl; clear hg hl
    obtain ⟨l, hl⟩ : ∃ l, l = S.left := ⟨_, rfl⟩
    rw [← hl] at hc
    have HX := Lib.hid (show (l == 0) = (false || decide (S.left = 0)) by rw [hl, Bool.eq_iff_iff]; simp)
    clear hl HL
    go_wp2
    go_ret
    exact ⟨congrArg (fun x => Ending.returned (.bool x)) HX.out, HG.out, H.out⟩

set_option maxHeartbeats 800000 in
theorem disk_stops3 {w : World} {B b bd bm : Nat} {S : St} {f : Nat → Option Value} {own : Nat → Prop} (h : Lay w B b bd bm f S own) :
    Calls Try.prog 41 #[.pointer (some ⟨b, 0, none⟩), .int .i64 3] w fun e w' => e = .returned (.bool (decide (S.f3 = 1) || decide (S.left = 0))) ∧ w.grownBy w' (some b) ∧ Lay w' B b bd bm f { S with f3 := S.f3 - 1 } own := by
  have HD := Lib.hid (disk_due3 h)
  have HL := Lib.hid (show ({ S with f3 := S.f3 - 1 } : St).left = S.left from rfl)
  clear h
  generalize ({ S with f3 := S.f3 - 1 } : St) = T at *
  cases hd : decide (S.f3 = 1) with
  | true =>
    rw [hd] at HD
    clear hd
    go_enter Try.func41, Try.ntmps41
    go_wp2_with fail
    refine HD.out.mono ?_
    rintro e w1 ⟨rfl, hg, hl⟩
    have HG := Lib.hid hg; have H := Lib.hid hl; clear hg hl
    go_wp2
    go_ret
    exact ⟨rfl, HG.out, H.out⟩
  | false =>
    rw [hd] at HD
    clear hd
    go_enter Try.func41, Try.ntmps41
    go_wp2_with fail
    refine HD.out.mono ?_
    rintro e w1 ⟨rfl, hg, hl⟩
    have hc := hl.c6
    rw [HL.out] at hc
    have HG := Lib.hid hg; have H := Lib.hid hl; clear hg hl
    obtain ⟨l, hl⟩ : ∃ l, l = S.left := ⟨_, rfl⟩
    rw [← hl] at hc
    have HX := Lib.hid (show (l == 0) = (false || decide (S.left = 0)) by rw [hl, Bool.eq_iff_iff]; simp)
    clear hl HL
    go_wp2
    go_ret
    exact ⟨congrArg (fun x => Ending.returned (.bool x)) HX.out, HG.out, H.out⟩

set_option maxHeartbeats 800000 in
theorem disk_done {w : World} {B b bd bm : Nat} {S : St} {f : Nat → Option Value} {own : Nat → Prop} (h : Lay w B b bd bm f S own) :
    Calls Try.prog 43 #[.pointer (some ⟨b, 0, none⟩)] w fun e w' => e = .returned (.tuple #[]) ∧ w.grownBy w' (some b) ∧ Lay w' B b bd bm f S.done own := by
  have hc := h.c6
  have hf := h.fz 6
  have h0 := h.ok.l0
  have h1 := h.ok.l1
  by_cases hp : 0 < S.left
  · have H := Lib.hid (h.field 6 (.int .i64 (S.left - 1 : Int)) (T := S.done) h.ok.done rfl rfl rfl (by
      show _ = #[_, _, _, _, _, _, Value.int .i64 (tick S.left)]
      simp only [tick, hp, if_true]; rfl))
    clear h
    generalize S.done = T at *
    generalize S.left = m at *
    have hw : IntKind.i64.wrap (m - 1) = m - 1 := IntWalk.i64_in _ (by omega)
    go_enter Try.func43, Try.ntmps43
    go_wp2
    go_end0
    exact ⟨rfl, Lib.grownBy_setB (World.grownBy.refl _ _) _ _, H.out⟩
  · have HS := Lib.hid (show S.done = S from St.ext' rfl rfl rfl rfl rfl rfl (by show tick S.left = S.left; simp [tick, hp]))
    have H := Lib.hid h; clear h
    rw [HS.out]
    clear HS
    generalize S.left = m at *
    have hd : decide (0 < m) = false := by simp; omega
    go_enter Try.func43, Try.ntmps43
    go_wp2
    go_end0
    exact ⟨rfl, World.grownBy.refl _ _, H.out⟩
end Go.Proofs.Ytkfijgdbaihhpaa.Dsk
