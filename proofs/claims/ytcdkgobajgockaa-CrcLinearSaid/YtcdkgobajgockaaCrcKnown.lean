/- The walks over New, the law's test of a known sum, and the document's own answer. -/
import Derived.Test.YtcdkgobajgockaaCrcMore
import Derived.Lib.SlBytesConst
namespace Go.Proofs.Ytcdkgobajgockaa.Crc
open Go.RowKit CrcMath Mem

def zeroCs : Array Value := #[.int .u32 0, .int .i32 0, .int .u32 0] ++ Array.replicate 256 (.int .u32 0)
theorem zeroTable (w : World) : (zeroValue 46).run Try.prog w = .ok (.agg zeroCs) w := by kernel_rfl
theorem fresh_zero : FreshC zeroCs := ⟨by simp [zeroCs], by simp [zeroCs], by simp [zeroCs]⟩

set_option maxRecDepth 100000 in
set_option maxHeartbeats 800000 in
theorem new_any (w : World) :
    Calls Try.prog 7 #[] w fun e w' => e = .returned (.pointer (some ⟨w.heap.size, 0, none⟩)) ∧ w' = w.alloc (.cells zeroCs 46) := by
  have hz := zeroTable
  go_enter Try.func7, Try.ntmps7
  go_wp2
  go_ret
  exact ⟨rfl, rfl⟩

def digits : Array Value := #[.int .u8 49, .int .u8 50, .int .u8 51, .int .u8 52, .int .u8 53, .int .u8 54, .int .u8 55, .int .u8 56, .int .u8 57]
theorem digits_bytes (w : World) (b : Nat) (hne : w.heap.size ≠ b) : Bytes (w.alloc (.cells digits 5 (9, 10))) b (some ⟨w.heap.size, 0, none⟩) 9 [49, 50, 51, 52, 53, 54, 55, 56, 57] := by
  refine ⟨rfl, by decide, fun _ => ⟨w.heap.size, 0, rfl, by simp, hne, fun j hj => ?_⟩⟩
  rw [World.cell?_alloc_mark]
  match j, hj with
  | 0, _ | 1, _ | 2, _ | 3, _ | 4, _ | 5, _ | 6, _ | 7, _ | 8, _ => rfl

set_option maxRecDepth 100000 in
set_option maxHeartbeats 800000 in
theorem known_any (b : Nat) (w : World) (h : Tab w b) (hbw : b < w.heap.size) :
    Calls Try.prog 8 #[.pointer (some ⟨b, 0, none⟩)] w fun e w' => e = .returned (.bool true) ∧ (w.grownBy w' (some b) ∧ Ready w' b) := by
  have kc := fun (w : World) (C : Array Value) (n c : Nat) => Lib.run_convert_bytes_const (P := Try.prog) w 22 5 C n c Try.underlying22 Try.underlying5
  have hT : Tab (w.alloc (.cells digits 5 (9, 10))) b := by
    rcases h with ⟨cs, hb, hf⟩ | ⟨cs, hb, hf⟩
    · exact .inl ⟨cs, hb.alloc _, hf⟩
    · exact .inr ⟨cs, hb.alloc _, hf⟩
  have hD := digits_bytes w b (by omega)
  have HT := Lib.hid hT; have HD := Lib.hid hD; clear h hT hD
  go_enter Try.func8, Try.ntmps8
  go_wp2_with fail
  refine (sum_any b _ 9 9 _ _ HT.out HD.out (by omega)).mono ?_
  rintro e w1 ⟨rfl, hg1, hr1, _⟩
  have HR1 := Lib.hid hr1; clear hr1
  rw [M_digits]
  go_wp2_with fail
  refine (sum_ready b _ 0 0 _ _ HR1.out (Bytes.none_ _ _ _) (by omega)).mono ?_
  rintro e w2 ⟨rfl, hw⟩
  subst hw
  rw [M_none 0 (by omega)]
  go_wp2
  go_ret
  exact ⟨rfl, World.grownBy.trans (World.grownBy_alloc w _ _) hg1, HR1.out⟩
end Go.Proofs.Ytcdkgobajgockaa.Crc
