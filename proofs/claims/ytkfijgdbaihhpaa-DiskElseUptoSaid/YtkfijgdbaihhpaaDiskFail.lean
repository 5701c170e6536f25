/- What is to fail, a cut, a remainder. -/
import Derived.Test.YtkfijgdbaihhpaaDiskSmall
namespace Go.Proofs.Ytkfijgdbaihhpaa.Dsk
open Go.RowKit Mem Crc DiskSpec

def failBad (kind n : Int) : Prop := kind < 1 ∨ 3 < kind ∨ n < 1 ∨ 1099511627776 < n
set_option maxHeartbeats 800000 in
theorem disk_fail_no (p : Value) (kind n : Int) (w : World) (hb : failBad kind n) :
    Calls Try.prog 26 #[p, .int .i64 kind, .int .i64 n] w fun e w' => e = .returned (.int .i64 1) ∧ w = w' := by
  by_cases h1 : kind < 1
  · go_enter Try.func26, Try.ntmps26
    go_wp2
    go_ret
    exact ⟨rfl, rfl⟩
  by_cases h2 : 3 < kind
  · go_enter Try.func26, Try.ntmps26
    go_wp2
    go_ret
    exact ⟨rfl, rfl⟩
  by_cases h3 : n < 1
  · go_enter Try.func26, Try.ntmps26
    go_wp2
    go_ret
    exact ⟨rfl, rfl⟩
  · have h4 : 1099511627776 < n := by rcases hb with h | h | h | h <;> omega
    clear hb
    go_enter Try.func26, Try.ntmps26
    go_wp2
    go_ret
    exact ⟨rfl, rfl⟩

set_option maxHeartbeats 800000 in
theorem disk_fail1 {w : World} {B b bd bm : Nat} {S : St} {f : Nat → Option Value} {own : Nat → Prop} (h : Lay w B b bd bm f S own) (n : Nat) (h1 : 1 ≤ n) (h2 : n ≤ 1099511627776) :
    Calls Try.prog 26 #[.pointer (some ⟨b, 0, none⟩), .int .i64 1, .int .i64 (n : Nat)] w fun e w' => e = .returned (.int .i64 0) ∧ w.grownBy w' (some b) ∧ Lay w' B b bd bm f { S with f1 := n } own := by
  have hc := h.c3
  have hf := h.fz 3
  have H := Lib.hid (h.field 3 (.int .i64 (n : Nat)) (T := { S with f1 := n }) { h.ok with f1 := h2 } rfl rfl rfl rfl)
  clear h
  have hd1 : decide ((n : Int) < 1) = false := by simp; omega
  have hd2 : decide (1099511627776 < (n : Int)) = false := by simp; omega
  go_enter Try.func26, Try.ntmps26
  go_wp2
  go_ret
  exact ⟨rfl, Lib.grownBy_setB (World.grownBy.refl _ _) _ _, H.out⟩

set_option maxHeartbeats 800000 in
theorem disk_fail2 {w : World} {B b bd bm : Nat} {S : St} {f : Nat → Option Value} {own : Nat → Prop} (h : Lay w B b bd bm f S own) (n : Nat) (h1 : 1 ≤ n) (h2 : n ≤ 1099511627776) :
    Calls Try.prog 26 #[.pointer (some ⟨b, 0, none⟩), .int .i64 2, .int .i64 (n : Nat)] w fun e w' => e = .returned (.int .i64 0) ∧ w.grownBy w' (some b) ∧ Lay w' B b bd bm f { S with f2 := n } own := by
  have hc := h.c4
  have hf := h.fz 4
  have H := Lib.hid (h.field 4 (.int .i64 (n : Nat)) (T := { S with f2 := n }) { h.ok with f2 := h2 } rfl rfl rfl rfl)
  clear h
  have hd1 : decide ((n : Int) < 1) = false := by simp; omega
  have hd2 : decide (1099511627776 < (n : Int)) = false := by simp; omega
  go_enter Try.func26, Try.ntmps26
  go_wp2
  go_ret
  exact ⟨rfl, Lib.grownBy_setB (World.grownBy.refl _ _) _ _, H.out⟩

set_option maxHeartbeats 800000 in
theorem disk_fail3 {w : World} {B b bd bm : Nat} {S : St} {f : Nat → Option Value} {own : Nat → Prop} (h : Lay w B b bd bm f S own) (n : Nat) (h1 : 1 ≤ n) (h2 : n ≤ 1099511627776) :
    Calls Try.prog 26 #[.pointer (some ⟨b, 0, none⟩), .int .i64 3, .int .i64 (n : Nat)] w fun e w' => e = .returned (.int .i64 0) ∧ w.grownBy w' (some b) ∧ Lay w' B b bd bm f { S with f3 := n } own := by
  have hc := h.c5
  have hf := h.fz 5
  have H := Lib.hid (h.field 5 (.int .i64 (n : Nat)) (T := { S with f3 := n }) { h.ok with f3 := h2 } rfl rfl rfl rfl)
  clear h
  have hd1 : decide ((n : Int) < 1) = false := by simp; omega
  have hd2 : decide (1099511627776 < (n : Int)) = false := by simp; omega
  go_enter Try.func26, Try.ntmps26
  go_wp2
  go_ret
  exact ⟨rfl, Lib.grownBy_setB (World.grownBy.refl _ _) _ _, H.out⟩

set_option maxHeartbeats 800000 in
theorem disk_cut_no (p : Value) (n : Int) (w : World) (hb : n < 0 ∨ 1099511627776 < n) :
    Calls Try.prog 27 #[p, .int .i64 n] w fun e w' => e = .returned (.int .i64 1) ∧ w = w' := by
  by_cases h1 : n < 0
  · clear hb
    go_enter Try.func27, Try.ntmps27
    go_wp2
    go_ret
    exact ⟨rfl, rfl⟩
  · have h4 : 1099511627776 < n := by rcases hb with h | h <;> omega
    clear hb
    go_enter Try.func27, Try.ntmps27
    go_wp2
    go_ret
    exact ⟨rfl, rfl⟩
set_option maxHeartbeats 800000 in
theorem disk_cut {w : World} {B b bd bm : Nat} {S : St} {f : Nat → Option Value} {own : Nat → Prop} (h : Lay w B b bd bm f S own) (n : Int) (h1 : 0 ≤ n) (h2 : n ≤ 1099511627776) :
    Calls Try.prog 27 #[.pointer (some ⟨b, 0, none⟩), .int .i64 n] w fun e w' => e = .returned (.int .i64 0) ∧ w.grownBy w' (some b) ∧ Lay w' B b bd bm f { S with left := n } own := by
  have hc := h.c6
  have hf := h.fz 6
  have H := Lib.hid (h.field 6 (.int .i64 n) (T := { S with left := n }) { h.ok with l0 := by show -1 ≤ n; omega, l1 := h2 } rfl rfl rfl rfl)
  clear h
  have hd1 : decide (n < 0) = false := by simp; omega
  have hd2 : decide (1099511627776 < n) = false := by simp; omega
  go_enter Try.func27, Try.ntmps27
  go_wp2
  go_ret
  exact ⟨rfl, Lib.grownBy_setB (World.grownBy.refl _ _) _ _, H.out⟩

theorem tmod_pos {n : Int} {v : Nat} (h : 0 ≤ n) : n.tmod ((v : Int) + 1) = n % ((v : Int) + 1) := Int.tmod_eq_emod_of_nonneg h
set_option maxHeartbeats 800000 in
theorem remainder_any (n : Int) (v : Nat) (w : World) (hv : v < 9223372036854775807) :
    Calls Try.prog 34 #[.int .i64 n, .int .i64 ((v : Int) + 1)] w fun e w' => e = .returned (.int .i64 (n % ((v : Int) + 1))) ∧ w = w' := by
  have hp : (0 : Int) < (v : Int) + 1 := by omega
  have he := Int.emod_nonneg n (show ((v : Int) + 1) ≠ 0 by omega)
  have hl := Int.emod_lt_of_pos n hp
  have ht : n.tmod ((v : Int) + 1) = if 0 ≤ n ∨ n % ((v : Int) + 1) = 0 then n % ((v : Int) + 1) else n % ((v : Int) + 1) - ((v : Int) + 1) := by
    rw [Int.tmod_eq_emod]
    split
    · rename_i h
      rw [if_pos (by rcases h with h | h; exact .inl h; exact .inr (Int.emod_eq_zero_of_dvd h))]
      omega
    · rename_i h
      rw [if_neg (fun e => h (by rcases e with e | e; exact .inl e; exact .inr (Int.dvd_of_emod_eq_zero e)))]
      omega
  generalize n % ((v : Int) + 1) = r at *
  generalize hm : n.tmod ((v : Int) + 1) = m at *
  have hw : IntKind.i64.wrap m = m := IntWalk.i64_in _ (by rw [ht]; split <;> omega)
  have hne : ((v : Int) + 1 == 0) = false := by simp; omega
  by_cases hc : 0 ≤ n ∨ r = 0
  · rw [if_pos hc] at ht
    subst ht
    have hd : decide (m < 0) = false := by simp; omega
    clear hc
    go_enter Try.func34, Try.ntmps34
    go_wp2
    go_ret
    exact ⟨rfl, rfl⟩
  · rw [if_neg hc] at ht
    have hd : m < 0 := by omega
    have hw2 : IntKind.i64.wrap (m + ((v : Int) + 1)) = m + ((v : Int) + 1) := IntWalk.i64_in _ (by omega)
    have HR := Lib.hid (show m + ((v : Int) + 1) = r by omega)
    clear hc ht
    go_enter Try.func34, Try.ntmps34
    go_wp2
    go_ret
    exact ⟨congrArg (fun x => Ending.returned (.int .i64 x)) HR.out, rfl⟩
end Go.Proofs.Ytkfijgdbaihhpaa.Dsk
