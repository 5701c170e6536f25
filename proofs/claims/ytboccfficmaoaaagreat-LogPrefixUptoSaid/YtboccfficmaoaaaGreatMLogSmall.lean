/- The small calls of package log: size, place, Room, Tail, Drop, pass, New. -/
import Derived.Test.YtboccfficmaoaaaGreatMSupSave
import Derived.Deep.QuietTactic
import Derived.BigQuiet
namespace Go.Proofs.YtboccfficmaoaaaGreat.Log
open Go.RowKit CrcMath CodecMath Mem Crc Codec DiskSpec Dsk Sup

set_option maxHeartbeats 400000 in
theorem size_any (n : Nat) (w : World) (h1 : n ≤ 1099511627776) : Calls Tryz.prog 61 #[.int .i64 (n : Nat)] w fun e w' => e = .returned (.int .i64 (1 + n : Nat)) ∧ w' = w := by
  go_enter Tryz.func61, Tryz.ntmps61
  go_wp2
  go_ret
  exact ⟨ret_int (by omega), rfl⟩
set_option maxHeartbeats 800000 in
theorem log_room {w : World} {g b tb : Nat} {L : Lg} (h : LBlk w g L b tb) (hk : L.taken ≤ L.ln) (hl : L.ln ≤ 1099511627776) :
    Calls Tryz.prog 59 #[.pointer (some ⟨g, 0, none⟩)] w fun e w' => e = .returned (.int .i64 (L.room : Nat)) ∧ ∃ m, w' = w.drewN m := by
  obtain ⟨_, _, _, _, x6, _, _, x11, x12⟩ := h.cells
  cases hb : L.broken with
  | true =>
    rw [hb] at x12
    have HR := Lib.hid (show L.room = 0 by simp [Lg.room, hb])
    clear hb
    go_enter Tryz.func59, Tryz.ntmps59
    go_wp2
    go_ret
    exact ⟨by rw [HR.out]; rfl, 0, rfl⟩
  | false =>
    rw [hb] at x12
    have HR := Lib.hid (show L.room = L.ln - L.taken by simp [Lg.room, hb])
    clear hb
    go_enter Tryz.func59, Tryz.ntmps59
    go_wp2_with fail
    go_quiet (fail)
    go_wp2
    go_ret
    exact ⟨by rw [HR.out]; exact ret_int (by omega), _, rfl⟩
set_option maxHeartbeats 800000 in
theorem log_tail {w : World} {g b tb : Nat} {L : Lg} (h : LBlk w g L b tb) :
    Calls Tryz.prog 28 #[.pointer (some ⟨g, 0, none⟩)] w fun e w' => e = .returned (.tuple #[.int .i64 (L.tail : Nat), .int .i64 (L.seq : Nat)]) ∧ ∃ m, w' = w.drewN m := by
  obtain ⟨_, _, _, _, _, x9, x10, _, _⟩ := h.cells
  go_enter Tryz.func28, Tryz.ntmps28
  go_wp2_with fail
  go_quiet (fail)
  go_wp2
  go_ret2
  exact ⟨rfl, _, rfl⟩
set_option maxHeartbeats 800000 in
theorem log_place {w : World} {g b tb : Nat} {L : Lg} (h : LBlk w g L b tb) (k : Nat) (hk : k ≤ 1099511627776) (ht : L.tail ≤ 1099511627776) (h1 : 1 ≤ L.ln) :
    Calls Tryz.prog 93 #[.pointer (some ⟨g, 0, none⟩), .int .i64 (k : Nat)] w fun e w' => e = .returned (.int .i64 ((L.tail + k) % L.ln : Nat)) ∧ ∃ m, w' = w.drewN m := by
  obtain ⟨_, _, _, _, x6, x9, _, _, _⟩ := h.cells
  have hw1 : IntKind.i64.wrap ((L.tail : Int) + (k : Int)) = (L.tail : Int) + (k : Int) := IntWalk.i64_in _ (by omega)
  have hne : ¬ ((L.ln : Int) = 0) := by omega
  have hnb : ((L.ln : Int) == 0) = false := by simp; omega
  have HV := Lib.hid (show ((L.tail : Int) + (k : Int)).tmod (L.ln : Int) = (((L.tail + k) % L.ln : Nat) : Int) from by
    rw [Int.tmod_eq_emod_of_nonneg (by omega)]; simp)
  have HW := Lib.hid (show IntKind.i64.wrap ((((L.tail + k) % L.ln : Nat)) : Int) = (((L.tail + k) % L.ln : Nat) : Int) from IntWalk.i64_in _ (by have := Nat.mod_lt (L.tail + k) (show 0 < L.ln by omega); have := Nat.mod_le (L.tail + k) L.ln; omega))
  go_enter Tryz.func93, Tryz.ntmps93
  go_wp2_with fail
  go_quiet (fail)
  go_wp2
  go_ret
  exact ⟨ret_int (by first | exact HV.out | (rw [HV.out, HW.out]) | (simp [HV.out])), _, rfl⟩
end Go.Proofs.YtboccfficmaoaaaGreat.Log
