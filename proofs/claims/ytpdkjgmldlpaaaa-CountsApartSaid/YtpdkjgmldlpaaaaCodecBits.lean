/- The walks over the project's small functions for records: within, allWithin, seal, openSector, openBody, comesBack, mark, readAll, neverWritten. -/
import Derived.Test.YtpdkjgmldlpaaaaCur
import Derived.Test.YtpdkjgmldlpaaaaRefCounts
import Derived.Lib.BufferWrite
import Derived.Lib.Bytes
import Derived.Laws.BytesArg
namespace Go.Proofs.Ytpdkjgmldlpaaaa.Codec
open Go.RowKit CrcMath CodecMath Mem Crc

set_option maxHeartbeats 400000 in
theorem within_any (n m : Int) (w : World) : Calls Try.prog 53 #[.int .i64 n, .int .i64 m] w fun e w' => e = .returned (.bool (inB n m)) ∧ w = w' := by
  by_cases h : 0 ≤ n
  · have hi : inB n m = decide (n ≤ m) := by simp [inB, h]
    have HI := Lib.hid hi; clear hi
    go_enter Try.func53, Try.ntmps53
    go_wp2
    go_ret
    exact ⟨by rw [HI.out]; rfl, rfl⟩
  · have hi : inB n m = false := by simp [inB, h]
    have HI := Lib.hid hi; clear hi
    have hd : decide (0 ≤ n) = false := by simp; omega
    go_enter Try.func53, Try.ntmps53
    go_wp2
    go_ret
    exact ⟨by rw [HI.out]; rfl, rfl⟩

set_option maxRecDepth 100000 in
set_option maxHeartbeats 800000 in
theorem allwithin_cells (A : Option Addr) (n c : Nat) (l : List Int) (m : Int) (w : World) (hlen : l.length = n) (hl : 0 < n → ∃ g o, A = some ⟨g, o, none⟩ ∧ ∀ j, j < n → w.cell? ⟨g, o + j, none⟩ = some (.int .i64 (l.getD j 0))) (hn : n ≤ 9223372036854775807) :
    Calls Try.prog 46 #[.slice A n c, .int .i64 m] w fun e w' => e = .returned (.bool (allB l m)) ∧ w = w' := by
  have HLEN := Lib.hid hlen; have HL := Lib.hid hl; clear hlen hl
  go_enter Try.func46, Try.ntmps46
  go_wp2_with fail
  go_loop [6, 9] (fun _ i => ∃ j : Nat, j ≤ n ∧ i = .int .i64 j ∧ (∀ q, q < j → inB (l.getD q 0) m = true)) (fun _ i => n - (intOf i).toNat)
  case atStart => exact ⟨0, by omega, rfl, fun q hq => by omega⟩
  case round =>
    obtain ⟨j, hj, rfl, hin⟩ := hrel
    have HIN := Lib.hid hin; clear hin
    by_cases hlt : j < n
    · obtain ⟨g, o, rfl, hc⟩ := HL.out (by omega)
      have hcj := hc j hlt
      clear hc
      cases hib : inB (l.getD j 0) m with
      | false =>
        have HNO := Lib.hid (allB_no j (by rw [HLEN.out]; exact hlt) hib)
        generalize l.getD j 0 = x at *
        have HIB := Lib.hid hib; clear hib
        go_wp2_with fail
        refine (within_any x _ _).mono ?_
        rintro e w2 ⟨rfl, rfl⟩
        rw [HIB.out]
        go_wp2
        go_ret
        exact ⟨by rw [HNO.out]; rfl, rfl⟩
      | true =>
        have hin' : ∀ q, q < j + 1 → inB (l.getD q 0) m = true := by
          intro q hq
          by_cases e : q = j
          · subst e; exact hib
          · exact HIN.out q (by omega)
        have HIN' := Lib.hid hin'; clear hin'
        generalize l.getD j 0 = x at *
        have HIB := Lib.hid hib; clear hib
        go_wp2_with fail
        refine (within_any x _ _).mono ?_
        rintro e w2 ⟨rfl, rfl⟩
        rw [HIB.out]
        go_wp2
        go_round
        case rel => exact ⟨j + 1, by omega, by go_num, HIN'.out⟩
        case measure => simp [intOf]; omega
    · obtain rfl : j = n := by omega
      have HY := Lib.hid (allB_mk j HLEN.out HIN.out)
      go_wp2
      go_ret
      exact ⟨by rw [HY.out]; rfl, rfl⟩

theorem allwithin_any (b : Nat) (A : Option Addr) (n c : Nat) (l : List Int) (m : Int) (w : World) (hl : Ints w b A n l) (hn : n ≤ 9223372036854775807) :
    Calls Try.prog 46 #[.slice A n c, .int .i64 m] w fun e w' => e = .returned (.bool (allB l m)) ∧ w = w' :=
  allwithin_cells A n c l m w hl.1 (fun h => by obtain ⟨g, o, e, _, _, hc⟩ := hl.2.2 h; exact ⟨g, o, e, hc⟩) hn

theorem strs_eq (l l2 : List Nat) (h : ∀ x ∈ l, x < 256) (h2 : ∀ x ∈ l2, x < 256) : ((strOfNums (l.map fun x : Nat => (x : Int))).toList == (strOfNums (l2.map fun x : Nat => (x : Int))).toList) = decide (l = l2) := by
  have e : ∀ q : List Nat, (strOfNums (q.map fun x : Nat => (x : Int))).toList = q.map UInt8.ofNat := by
    intro q
    rw [Lib.strOfNums_toList, Lib.bytesOf, List.map_map]
    rfl
  rw [e, e, Bool.eq_iff_iff]
  simp only [beq_iff_eq, decide_eq_true_eq]
  refine ⟨fun hh => ?_, fun hh => by rw [hh]⟩
  have h3 := congrArg (List.map UInt8.toNat) hh
  rw [List.map_map, List.map_map] at h3
  have e2 : ∀ q : List Nat, (∀ x ∈ q, x < 256) → q.map (UInt8.toNat ∘ UInt8.ofNat) = q := by
    intro q hq
    conv => rhs; rw [← List.map_id q]
    refine List.map_congr_left fun x hx => ?_
    simp [Nat.mod_eq_of_lt (hq x hx)]
  rwa [e2 l h, e2 l2 h2] at h3
theorem run_str {w : World} {b n : Nat} {A : Option Addr} {l : List Nat} (h : Bytes w b A n l) (c : Nat) : (convert 31 9 (.slice A n c)).run Try.prog w = .ok (.string (strOfNums (l.map fun x : Nat => (x : Int)))) w := by
  by_cases h0 : n = 0
  · subst h0
    obtain rfl : l = [] := List.eq_nil_of_length_eq_zero h.1
    rw [run_convert_bytes_string w 31 9 5 _ 0 c Try.underlying31 Try.underlying5 Try.underlying9]
    cases A <;> simp [Conv.bytesToString, loadCells]
    all_goals rfl
  · obtain ⟨g, o, rfl, _, _, hc⟩ := h.2.2 (by omega)
    refine run_convert_bytes_arg (P := Try.prog) w 31 5 Try.underlying31 Try.underlying5 g o n c _ (by rw [List.length_map, h.1]) (fun i hi => ?_) _ Try.underlying9
    rw [hc i hi]
    have : i < l.length := by rw [h.1]; exact hi
    simp [List.getD_eq_getElem?_getD, this]
set_option maxRecDepth 100000 in
set_option maxHeartbeats 800000 in
theorem equal_any (b b2 : Nat) (A A2 : Option Addr) (n n2 c c2 : Nat) (l l2 : List Nat) (w : World) (hl : Bytes w b A n l) (hl2 : Bytes w b2 A2 n2 l2) :
    Calls Try.prog 52 #[.slice A n c, .slice A2 n2 c2] w fun e w' => e = .returned (.bool (decide (l = l2))) ∧ w = w' := by
  have k1 := run_str hl c
  have k2 := run_str hl2 c2
  have HE := Lib.hid (strs_eq l l2 hl.2.1 hl2.2.1)
  clear hl hl2
  go_enter Try.func52, Try.ntmps52
  go_wp2
  go_ret
  exact ⟨by rw [← HE.out]; rfl, rfl⟩
set_option maxRecDepth 100000 in
set_option maxHeartbeats 800000 in
theorem comesback_any (b b2 : Nat) (A A2 : Option Addr) (n n2 c c2 : Nat) (l l2 : List Nat) (w : World) (hl : Bytes w b A n l) (hl2 : Bytes w b2 A2 n2 l2) :
    Calls Try.prog 42 #[.slice A n c, .slice A2 n2 c2, .int .i64 0] w fun e w' => e = .returned (.bool (decide (l = l2))) ∧ w = w' := by
  have HL := Lib.hid hl; have HL2 := Lib.hid hl2; clear hl hl2
  generalize hd : decide (l = l2) = d at *
  have HD := Lib.hid hd; clear hd
  go_enter Try.func42, Try.ntmps42
  go_wp2_with fail
  refine (equal_any b b2 A A2 n n2 c c2 l l2 _ HL.out HL2.out).mono ?_
  rintro e w1 ⟨rfl, rfl⟩
  rw [HD.out]
  go_wp2
  go_ret
  exact ⟨rfl, rfl⟩
set_option maxRecDepth 100000 in
theorem comesback_err (A A2 : Option Addr) (n n2 c c2 : Nat) (w : World) :
    Calls Try.prog 42 #[.slice A n c, .slice A2 n2 c2, .int .i64 1] w fun e w' => e = .returned (.bool false) ∧ w = w' := by
  go_enter Try.func42, Try.ntmps42
  go_wp2
  go_ret
  exact ⟨rfl, rfl⟩
end Go.Proofs.Ytpdkjgmldlpaaaa.Codec
