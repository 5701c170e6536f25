/- The document's disk: what is not written. -/
import Derived.Test.YtkfijgdbaihhpaaRefSmall
namespace Go.Proofs.Ytkfijgdbaihhpaa.Dsk
open Go.RowKit Mem Crc DiskSpec

set_option maxHeartbeats 800000 in
theorem ref_write_arg (p : Value) (a : Int) (A : Option Addr) (n c : Nat) (fua : Bool) (w : World) (hn : n ≤ 9223372036854775807) (hb : n = 0 ∨ n % 256 ≠ 0) :
    Calls Try.prog 28 #[p, .int .i64 a, .slice A n c, .bool fua] w fun e w' => e = .returned (.int .i64 1) ∧ w = w' := by
  have hm5 : (n : Int).tdiv 256 = ((n / 256 : Nat) : Int) := by rw [Int.tdiv_eq_ediv_of_nonneg (by omega)]; omega
  have hw5 : IntKind.i64.wrap ((n / 256 : Nat) : Int) = ((n / 256 : Nat) : Int) := IntWalk.i64_in _ (by omega)
  by_cases h0 : n / 256 = 0
  · rw [h0] at hm5 hw5
    clear hb
    go_enter Try.func28, Try.ntmps28
    go_wp2
    go_ret
    exact ⟨rfl, rfl⟩
  · have h1 : n % 256 ≠ 0 := by rcases hb with h | h; omega; exact h
    have hm4 : ((n : Int).tmod 256 != 0) = true := by rw [Int.tmod_eq_emod_of_nonneg (by omega)]; simp; omega
    have hw4 : IntKind.i64.wrap ((n : Int).tmod 256) = (n : Int).tmod 256 := IntWalk.i64_in _ (by rw [Int.tmod_eq_emod_of_nonneg (by omega)]; omega)
    have hq0 : (((n / 256 : Nat) : Int) == 0) = false := by simp; omega
    generalize (n : Int).tmod 256 = m at *
    generalize n / 256 = q at *
    clear hb
    go_enter Try.func28, Try.ntmps28
    go_wp2
    go_ret
    exact ⟨rfl, rfl⟩
set_option maxHeartbeats 800000 in
theorem ref_write_range {w : World} {B r bl c : Nat} {dv vv : Nat → Value} {vs : Nat → List Value} {S : St} {own : Nat → Prop} (h : RLay w B r bl c dv vv vs S own) (a : Int) (A : Option Addr) (count cc : Nat) (fua : Bool)
    (ha : -9223372036854775808 ≤ a ∧ a ≤ 9223372036854775807) (h1 : 1 ≤ count) (h2 : count ≤ 36028797018963967) (hn : S.has a count = false) :
    Calls Try.prog 28 #[.pointer (some ⟨r, 0, none⟩), .int .i64 a, .slice A (count * 256) cc, .bool fua] w fun e w' => e = .returned (.int .i64 2) ∧ w = w' := by
  have HH := Lib.hid (ref_there h a (count : Int) ha (by omega))
  rw [hn] at HH
  clear h hn
  have hm1 : ((count * 256 : Nat) : Int) % 256 = 0 := by omega
  have hm2 : ((count * 256 : Nat) : Int) / 256 = (count : Int) := by omega
  have hm3 : ((count : Int) == 0) = false := by simp; omega
  have hbig : count * 256 ≤ 9223372036854775807 := by omega
  generalize count * 256 = n at *
  have hm4 : (n : Int).tmod 256 = 0 := by rw [Int.tmod_eq_emod_of_nonneg (by omega)]; exact hm1
  have hm5 : (n : Int).tdiv 256 = (count : Int) := by rw [Int.tdiv_eq_ediv_of_nonneg (by omega)]; exact hm2
  have hw5 : IntKind.i64.wrap (count : Int) = (count : Int) := IntWalk.i64_in _ (by omega)
  go_enter Try.func28, Try.ntmps28
  go_wp2_with fail
  refine HH.out.mono ?_
  rintro e w' ⟨rfl, rfl⟩
  go_wp2
  go_ret
  exact ⟨rfl, rfl⟩
set_option maxHeartbeats 800000 in
theorem ref_write_stop {w : World} {B r bl c : Nat} {dv vv : Nat → Value} {vs : Nat → List Value} {S : St} {own : Nat → Prop} (h : RLay w B r bl c dv vv vs S own) (a : Int) (A : Option Addr) (count cc : Nat) (fua : Bool)
    (ha : -9223372036854775808 ≤ a ∧ a ≤ 9223372036854775807) (h1 : 1 ≤ count) (h2 : count ≤ 36028797018963967) (hn : S.has a count = true) (hs : S.f2 = 1 ∨ S.left = 0) :
    Calls Try.prog 28 #[.pointer (some ⟨r, 0, none⟩), .int .i64 a, .slice A (count * 256) cc, .bool fua] w fun e w' => e = .returned (.int .i64 11) ∧ RLay w' B r bl c dv vv vs { S with f2 := S.f2 - 1 } own ∧ Turn w w' own own := by
  have HH := Lib.hid (ref_there h a (count : Int) ha (by omega))
  rw [hn] at HH
  have HD := Lib.hid (ref_fails2 h)
  have HOB := Lib.hid h.ownR
  clear h hn
  by_cases hf : S.f2 = 1
  · rw [show decide (S.f2 = 1) = true by simp [hf]] at HD
    clear hs hf
    generalize ({ S with f2 := S.f2 - 1 } : St) = T at *
    have hm1 : ((count * 256 : Nat) : Int) % 256 = 0 := by omega
    have hm2 : ((count * 256 : Nat) : Int) / 256 = (count : Int) := by omega
    have hm3 : ((count : Int) == 0) = false := by simp; omega
    have hbig : count * 256 ≤ 9223372036854775807 := by omega
    generalize count * 256 = n at *
    have hm4 : (n : Int).tmod 256 = 0 := by rw [Int.tmod_eq_emod_of_nonneg (by omega)]; exact hm1
    have hm5 : (n : Int).tdiv 256 = (count : Int) := by rw [Int.tdiv_eq_ediv_of_nonneg (by omega)]; exact hm2
    have hw5 : IntKind.i64.wrap (count : Int) = (count : Int) := IntWalk.i64_in _ (by omega)
    go_enter Try.func28, Try.ntmps28
    go_wp2_with fail
    refine HH.out.mono ?_
    rintro e w' ⟨rfl, rfl⟩
    go_wp2_with fail
    refine HD.out.mono ?_
    rintro e w1 ⟨rfl, hg1, hl1⟩
    have HG1 := Lib.hid hg1; have H1 := Lib.hid hl1; clear hg1 hl1
    go_wp2
    go_ret
    exact ⟨rfl, H1.out, Turn.of_grown HG1.out (fun q e => by cases e; exact HOB.out)⟩
  · have hl0 : S.left = 0 := by rcases hs with h | h; exact absurd h hf; exact h
    rw [show decide (S.f2 = 1) = false by simp [hf]] at HD
    have hleft : ({ S with f2 := S.f2 - 1 } : St).left = 0 := hl0
    clear hs hf hl0
    generalize ({ S with f2 := S.f2 - 1 } : St) = T at *
    have hm1 : ((count * 256 : Nat) : Int) % 256 = 0 := by omega
    have hm2 : ((count * 256 : Nat) : Int) / 256 = (count : Int) := by omega
    have hm3 : ((count : Int) == 0) = false := by simp; omega
    have hbig : count * 256 ≤ 9223372036854775807 := by omega
    generalize count * 256 = n at *
    have hm4 : (n : Int).tmod 256 = 0 := by rw [Int.tmod_eq_emod_of_nonneg (by omega)]; exact hm1
    have hm5 : (n : Int).tdiv 256 = (count : Int) := by rw [Int.tdiv_eq_ediv_of_nonneg (by omega)]; exact hm2
    have hw5 : IntKind.i64.wrap (count : Int) = (count : Int) := IntWalk.i64_in _ (by omega)
    go_enter Try.func28, Try.ntmps28
    go_wp2_with fail
    refine HH.out.mono ?_
    rintro e w' ⟨rfl, rfl⟩
    go_wp2_with fail
    refine HD.out.mono ?_
    rintro e w1 ⟨rfl, hg1, hl1⟩
    have hc5 := hl1.r5
    rw [hleft] at hc5
    have HG1 := Lib.hid hg1; have H1 := Lib.hid hl1; clear hg1 hl1 hleft
    go_wp2
    go_ret
    exact ⟨rfl, H1.out, Turn.of_grown HG1.out (fun q e => by cases e; exact HOB.out)⟩
end Go.Proofs.Ytkfijgdbaihhpaa.Dsk
