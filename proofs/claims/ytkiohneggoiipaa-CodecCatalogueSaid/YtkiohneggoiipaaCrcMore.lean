/- The walks over More and Sum. -/
import Derived.Test.YtkiohneggoiipaaOnce
namespace Go.Proofs.Ytkiohneggoiipaa.Crc
open Go.RowKit CrcMath Mem

/-- The table's step in the walk's own spelling. -/
theorem step_u8 {x y : Nat} (hy : y < 256) : bits BinOp.xor IntKind.u8 ((x : Int) % 256) (y : Int) = ((x % 256 ^^^ y : Nat) : Int) := by
  rw [show ((x : Int) % 256) = ((x % 256 : Nat) : Int) from by omega, u8_xor_nat _ _ (by omega) hy]
theorem step_u32 {x y : Nat} (hx : x < 4294967296) (hy : y < 256) : bits BinOp.xor IntKind.u32 ((Lk 8 (x % 256 ^^^ y) : Nat) : Int) ((x : Int) / 256) = ((B x y : Nat) : Int) := by
  rw [show ((x : Int) / 256) = ((x / 256 : Nat) : Int) from by omega, u32_xor_nat _ _ (Lk_lt (Nat.lt_trans (Nat.xor_lt_two_pow (n := 8) (by omega) hy) (by omega)) 8) (by omega), B_table]
set_option maxRecDepth 100000 in
set_option maxHeartbeats 800000 in
theorem more_any (b : Nat) (s : Nat) (A : Option Addr) (n c : Nat) (l : List Nat) (w : World) (h : Tab w b) (hs : s < 4294967296) (hl : Bytes w b A n l) (hn : n ≤ 9223372036854775807) :
    Calls Try.prog 80 #[.pointer (some ⟨b, 0, none⟩), .int .u32 s, .slice A n c] w fun e w' => e = .returned (.int .u32 (M s l : Nat)) ∧ After w b w' := by
  have hmf : ∀ (fn : Fn) (first cap : Array Value) (w : World), (Instr.makeFunc fn first cap).run Try.prog w = .ok (.func fn first cap) w := fun _ _ _ _ => rfl
  have H := Lib.hid h; clear h
  have HL := Lib.hid hl; clear hl
  go_enter Try.func80, Try.ntmps80
  go_wp2_with (go_at_call 82; refine (do_any b _ H.out).mono ?_; rintro e w1 ⟨rfl, ha⟩)
  have HA := Lib.hid ha
  obtain ⟨hg, hr, _⟩ := ha
  obtain ⟨cs, hb, hcs, hc0, hct⟩ := hr
  have hl1 := HL.out.keep hg
  obtain ⟨hlen, hby, hcell⟩ := hl1
  have HC := Lib.hid hcell; have HCT := Lib.hid hct; have HLEN := Lib.hid hlen; clear hcell hct hc0 hlen hcs
  have hfl := flip_u32 hs
  have hM : M s l = 4294967295 - C (4294967295 - s) l := rfl
  have HM := Lib.hid hM; clear hM
  generalize hs' : 4294967295 - s = s' at *
  have hs'l : s' < 4294967296 := by omega
  clear hs'
  go_loop [1, 19] (fun v i => ∃ k : Nat, k ≤ n ∧ i = .int .i64 k ∧ v = .int .u32 (C s' (l.take k) : Nat)) (fun _ i => n - (intOf i).toNat)
  case atStart => exact ⟨0, by omega, rfl, by simp [hfl, C]⟩
  case round =>
    obtain ⟨k, hk, rfl, rfl⟩ := hrel
    have hxl := C_lt (l.take k) hs'l (fun x hx' => hby x (List.mem_of_mem_take hx'))
    by_cases hlt : k < n
    · obtain ⟨g, o, rfl, _, _, hc⟩ := HC.out (by omega)
      have hck := hc k hlt
      clear hc
      have hyl := getD_lt hby k
      have hsn : C s' (l.take (k + 1)) = B (C s' (l.take k)) (l.getD k 0) := by rw [take_getD l k (by rw [HLEN.out]; exact hlt), C_snoc]
      have HSN := Lib.hid hsn; clear hsn
      generalize hx : C s' (l.take k) = x at *
      generalize hy : l.getD k 0 = y at *
      clear hx hy hfl
      have h8 := step_u8 (x := x) hyl
      have h32 := step_u32 hxl hyl
      have hzl : x % 256 ^^^ y < 256 := Nat.xor_lt_two_pow (n := 8) (by omega) hyl
      have hcell : w1.cell? ⟨b, 3 + (x % 256 ^^^ y), none⟩ = some (.int .u32 (Lk 8 (x % 256 ^^^ y) : Nat)) := by rw [hb.cell]; exact HCT.out _ hzl
      generalize hz : x % 256 ^^^ y = z at *
      clear hz
      have h0 : (0 : Int) ≤ z := by omega
      have h256 : (z : Int) < 256 := by omega
      go_wp2
      go_round
      case rel => exact ⟨k + 1, by omega, by go_num, by rw [HSN.out]⟩
      case measure => simp [intOf]; omega
    · obtain rfl : k = n := by omega
      have htk : l.take k = l := List.take_of_length_le (by rw [HLEN.out]; exact Nat.le_refl _)
      rw [htk] at hxl
      have hf2 := flip_u32 hxl
      clear hfl
      go_wp2
      go_ret
      exact ⟨ret_int (by rw [HM.out]), HA.out⟩

theorem sum_any (b : Nat) (A : Option Addr) (n c : Nat) (l : List Nat) (w : World) (h : Tab w b) (hl : Bytes w b A n l) (hn : n ≤ 9223372036854775807) :
    Calls Try.prog 76 #[.pointer (some ⟨b, 0, none⟩), .slice A n c] w fun e w' => e = .returned (.int .u32 (M 0 l : Nat)) ∧ After w b w' := by
  have H := Lib.hid h; clear h
  have HL := Lib.hid hl; clear hl
  go_enter Try.func76, Try.ntmps76
  go_wp2_with (go_at_call 80; refine (more_any b 0 A n c l _ H.out (by omega) HL.out hn).mono ?_; rintro e w1 ⟨rfl, ha⟩)
  have HA := Lib.hid ha; clear ha
  go_ret
  exact ⟨rfl, HA.out⟩

/-- Asked where the numbers are laid: nothing is turned. -/
theorem sum_ready (b : Nat) (A : Option Addr) (n c : Nat) (l : List Nat) (w : World) (h : Ready w b) (hl : Bytes w b A n l) (hn : n ≤ 9223372036854775807) :
    Calls Try.prog 76 #[.pointer (some ⟨b, 0, none⟩), .slice A n c] w fun e w' => e = .returned (.int .u32 (M 0 l : Nat)) ∧ w' = w :=
  (sum_any b A n c l w (.inr h) hl hn).mono fun _ _ ⟨he, ha⟩ => ⟨he, ha.2.2 h⟩
theorem more_ready (b : Nat) (s : Nat) (A : Option Addr) (n c : Nat) (l : List Nat) (w : World) (h : Ready w b) (hs : s < 4294967296) (hl : Bytes w b A n l) (hn : n ≤ 9223372036854775807) :
    Calls Try.prog 80 #[.pointer (some ⟨b, 0, none⟩), .int .u32 s, .slice A n c] w fun e w' => e = .returned (.int .u32 (M s l : Nat)) ∧ w' = w :=
  (more_any b s A n c l w (.inr h) hs hl hn).mono fun _ _ ⟨he, ha⟩ => ⟨he, ha.2.2 h⟩
end Go.Proofs.Ytkiohneggoiipaa.Crc
