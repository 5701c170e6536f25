/- The walk over fill: the table's 256 numbers are laid into the object's own block, and nothing else is turned. -/
import Derived.Test.YteaokeiolgjhaaaGreatPBytes
import Derived.Test.YteaokeiolgjhaaaGreatMem
import Derived.Deep.RegionWith
import Derived.StillTailTactics
namespace Go.Proofs.YteaokeiolgjhaaaGreat.Crc
open Go.RowKit CrcMath Mem

/-- The cells when the first k numbers are laid. -/
def laid (cs : Array Value) : Nat → Array Value
  | 0 => cs
  | k + 1 => (laid cs k).setIfInBounds (3 + k) (.int .u32 (Lk 8 k : Nat))
theorem laid_size (cs : Array Value) (k : Nat) : (laid cs k).size = cs.size := by
  induction k with
  | zero => rfl
  | succ k ih => simpa [laid] using ih
theorem laid_low (cs : Array Value) (k j : Nat) (h : j < 3) : (laid cs k)[j]? = cs[j]? := by
  induction k with
  | zero => rfl
  | succ k ih => rw [laid, Array.getElem?_setIfInBounds_ne (by omega)]; exact ih
theorem laid_at (cs : Array Value) (hcs : cs.size = 259) (k i : Nat) (hk : k ≤ 256) (h : i < k) : (laid cs k)[3 + i]? = some (.int .u32 (Lk 8 i : Nat)) := by
  induction k with
  | zero => omega
  | succ k ih =>
    rw [laid]
    by_cases hi : i = k
    · subst hi
      rw [Array.getElem?_setIfInBounds_self_of_lt (by rw [laid_size]; omega)]
    · rw [Array.getElem?_setIfInBounds_ne (by omega)]
      exact ih (by omega) (by omega)

set_option maxRecDepth 100000 in
set_option maxHeartbeats 800000 in
theorem fill_any (b : Nat) (cs : Array Value) (w : World) (hb : Blk w b 197 cs) (hcs : cs.size = 259) :
    Calls Tryz.prog 198 #[.pointer (some ⟨b, 0, none⟩)] w fun e w' => e = .returned (.tuple #[]) ∧ w.grownBy w' (some b) ∧ Blk w' b 197 (laid cs 256) := by
  go_enter Tryz.func198, Tryz.ntmps198
  go_wp2
  go_loopw [2, 3] (fun _ i wr => ∃ k : Nat, k ≤ 256 ∧ i = .int .i64 k ∧ w.grownBy wr (some b) ∧ Blk wr b 197 (laid cs k)) (fun _ i _ => 256 - (intOf i).toNat)
  case atStart => exact ⟨0, by omega, rfl, World.grownBy.refl _ _, hb⟩
  case round =>
    obtain ⟨k, hk, rfl, hg, hbk⟩ := hrel
    by_cases hlt : k < 256
    · have hc : wr.cell? ⟨b, 3 + k, none⟩ = some ((laid cs k)[3 + k]'(by rw [laid_size]; omega)) := by
        rw [hbk.cell]
        exact Array.getElem?_eq_getElem _
      have hf := hbk.frozen (3 + k)
      have hwr : IntKind.u32.wrap (k : Int) = k := by rw [IntKind.wrap_u32']; omega
      have h256 : (k : Int) < 256 := by omega
      have h0 : (0 : Int) ≤ k := by omega
      go_wp2_with fail
      go_region_with (go_at_call 208; refine (eight_any k _ (by omega)).mono ?_; rintro e w' ⟨rfl, rfl⟩)
      go_wp2
      go_roundw
      case rel => exact ⟨k + 1, by omega, by go_num, only_set (only_drew hg) _ _, hbk.set_ _ _⟩
      case measure => simp [intOf]; omega
    · go_wp2
      obtain rfl : k = 256 := by omega
      go_end0
      exact ⟨rfl, hg, hbk⟩
end Go.Proofs.YteaokeiolgjhaaaGreat.Crc
