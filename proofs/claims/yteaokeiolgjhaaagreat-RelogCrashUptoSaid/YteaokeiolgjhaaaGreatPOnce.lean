/- Texts of this seat's proofs: Once, CrcMore, CrcNew, CrcBytes. -/
import Derived.Test.YteaokeiolgjhaaaGreatPCrcFill
import Derived.Test.YteaokeiolgjhaaaGreatOnceParts
import Derived.Test.YteaokeiolgjhaaaGreatPBytes
/- sync.Once in a table, one goroutine: asked for the first time it fills the table; asked again it does nothing. -/
namespace Go.Proofs.YteaokeiolgjhaaaGreat.Crc
open Go.RowKit CrcMath Mem
open Go.MuLone

/-- A table that nobody has asked; one whose numbers are laid. -/
def FreshC (cs : Array Value) : Prop := cs.size = 259 ∧ cs[0]? = some (.int .u32 0) ∧ cs[1]? = some (.int .i32 0)
def ReadyC (cs : Array Value) : Prop := cs.size = 259 ∧ cs[0]? = some (.int .u32 1) ∧ ∀ i, i < 256 → cs[3 + i]? = some (.int .u32 (Lk 8 i : Nat))
def Fresh (w : World) (b : Nat) : Prop := ∃ cs, Blk w b 197 cs ∧ FreshC cs
def Ready (w : World) (b : Nat) : Prop := ∃ cs, Blk w b 197 cs ∧ ReadyC cs

theorem ready_of_fresh {cs : Array Value} (h : FreshC cs) : ReadyC (((laid (cs.setIfInBounds 1 (.int .i32 1)) 256).setIfInBounds 0 (.int .u32 1)).setIfInBounds 1 (.int .i32 0)) := by
  obtain ⟨hs, _, _⟩ := h
  refine ⟨by simp [laid_size, hs], ?_, fun i hi => ?_⟩
  · rw [Array.getElem?_setIfInBounds_ne (by omega), Array.getElem?_setIfInBounds_self_of_lt (by rw [laid_size]; simp; omega)]
  · rw [Array.getElem?_setIfInBounds_ne (by omega), Array.getElem?_setIfInBounds_ne (by omega), laid_at _ (by simpa using hs) 256 i (by omega) hi]

set_option maxRecDepth 100000 in
set_option maxHeartbeats 1600000 in
theorem slow_any (b : Nat) (cs : Array Value) (w : World) (hb : Blk w b 197 cs) (hf : FreshC cs) :
    Calls Tryz.prog 207 #[.pointer (some ⟨b, 0, none⟩), .func (.func 198) #[.pointer (some ⟨b, 0, none⟩)] #[]] w fun e w' => e = .returned (.tuple #[]) ∧ (w.grownBy w' (some b) ∧ Ready w' b) := by
  have hf' := hf
  obtain ⟨hs, c0, c1⟩ := hf
  have h0 : w.cell? ⟨b, 0, none⟩ = some (.int .u32 0) := by rw [hb.cell]; exact c0
  have h1 : w.cell? ⟨b, 1, none⟩ = some (.int .i32 0) := by rw [hb.cell]; exact c1
  have f1 : w.frozen? ⟨b, 1, none⟩ = false := hb.frozen 1
  have hb1 := hb.set_ 1 (.int .i32 1)
  have hs1 : (cs.setIfInBounds 1 (Value.int .i32 1)).size = 259 := by simpa using hs
  have hl := run_call_load (P := Tryz.prog) Tryz.func210 (by kernel_rfl) (by kernel_rfl) (by kernel_rfl) .u32 (by kernel_rfl) (w := w.setCell ⟨b, 1, none⟩ (.int .i32 1)) (a := ⟨b, 0, none⟩) (x := 0) ((World.cell?_setCell_other _ ⟨b, 1, none⟩ ⟨b, 0, none⟩ _ (by simp)).trans h0)
  have hnot : ∀ (x : Bool) (w : World), (Op.unary .not (.bool x)).run Tryz.prog w = .ok (.bool (!x)) w := fun _ _ => rfl
  have HB := Lib.hid hb; have HS := Lib.hid hs1; have HB1 := Lib.hid hb1; have HF := Lib.hid hf'
  clear hb hs1 hb1 hf' c0 c1 hs
  go_enter_defers Tryz.func207, Tryz.ntmps207
  go_wp2_with (go_at_call 211; refine (lock_free Tryz.muLib ⟨b, 1, none⟩ _ h1 f1).mono ?_; rintro e w' ⟨rfl, rfl⟩)
  go_wp2_with (first
    | (go_at_call 198; refine (fill_any b _ _ HB1.out HS.out).mono ?_; rintro e w1 ⟨rfl, hg1, hk1⟩)
    | (go_at_call 206; go_in))
  have hk0 := laid_low (cs.setIfInBounds 1 (.int .i32 1)) 256 0 (by omega)
  have hk01 := laid_low (cs.setIfInBounds 1 (.int .i32 1)) 256 1 (by omega)
  rw [Array.getElem?_setIfInBounds_ne (by omega)] at hk0
  rw [Array.getElem?_setIfInBounds_self_of_lt (by have := HF.out.1; omega)] at hk01
  refine leaves_cons (f := 213) (args := #[.pointer (some ⟨b, 0, none⟩), .bool true]) (by simp) (by simp [go_sem]) ?_
  refine (Once.store_deferred ⟨b, 0, none⟩ (.int .u32 0) .returning _ ?_ (hk1.frozen 0)).mono ?_
  · rw [hk1.cell, hk0]; exact HF.out.2.1
  rintro e u' w'' ⟨rfl, rfl, rfl⟩
  refine leaves_cons (f := 212) (args := #[.pointer (some ⟨b, 1, none⟩)]) (by simp [settle]) (by simp [go_sem]) ?_
  have hk2 := (hk1.drew).set_ 0 (.int .u32 1)
  refine (unlock_deferred Tryz.muLib ⟨b, 1, none⟩ _ _ ?_ (hk2.frozen 1)).mono ?_
  · rw [hk2.cell, Array.getElem?_setIfInBounds_ne (by omega), hk01]
  rintro e u' w'' ⟨rfl, rfl, rfl⟩
  refine ⟨_, results_none rfl _ _ _, rfl, ?_, _, hk2.set_ 1 (.int .i32 0), ready_of_fresh HF.out⟩
  exact only_set (only_set (only_drew (World.grownBy.trans (only_set (World.grownBy.refl w (some b)) 1 (.int .i32 1)) hg1)) _ _) _ _

set_option maxRecDepth 100000 in
set_option maxHeartbeats 800000 in
theorem do_fresh (b : Nat) (cs : Array Value) (w : World) (hb : Blk w b 197 cs) (hf : FreshC cs) :
    Calls Tryz.prog 197 #[.pointer (some ⟨b, 0, none⟩), .func (.func 198) #[.pointer (some ⟨b, 0, none⟩)] #[]] w fun e w' => e = .returned (.tuple #[]) ∧ (w.grownBy w' (some b) ∧ Ready w' b) := by
  have h0 : w.cell? ⟨b, 0, none⟩ = some (.int .u32 0) := by rw [hb.cell]; exact hf.2.1
  have hl := run_call_load (P := Tryz.prog) Tryz.func210 (by kernel_rfl) (by kernel_rfl) (by kernel_rfl) .u32 (by kernel_rfl) h0
  have hnot : ∀ (x : Bool) (w : World), (Op.unary .not (.bool x)).run Tryz.prog w = .ok (.bool (!x)) w := fun _ _ => rfl
  have HB := Lib.hid hb; have HF := Lib.hid hf
  clear hb hf
  go_enter Tryz.func197, Tryz.ntmps197
  go_wp2_with (first
    | (go_at_call 207; refine (slow_any b cs _ HB.out HF.out).mono ?_; rintro e w1 ⟨rfl, hq⟩)
    | (go_at_call 206; go_in))
  go_end0
  exact ⟨rfl, hq⟩

set_option maxHeartbeats 800000 in
theorem do_ready (b : Nat) (cs : Array Value) (fv : Value) (w : World) (hb : Blk w b 197 cs) (hf : ReadyC cs) :
    Calls Tryz.prog 197 #[.pointer (some ⟨b, 0, none⟩), fv] w fun e w' => e = .returned (.tuple #[]) ∧ w = w' := by
  have h0 : w.cell? ⟨b, 0, none⟩ = some (.int .u32 1) := by rw [hb.cell]; exact hf.2.1
  have hl := run_call_load (P := Tryz.prog) Tryz.func210 (by kernel_rfl) (by kernel_rfl) (by kernel_rfl) .u32 (by kernel_rfl) h0
  have hnot : ∀ (x : Bool) (w : World), (Op.unary .not (.bool x)).run Tryz.prog w = .ok (.bool (!x)) w := fun _ _ => rfl
  clear hb hf
  go_enter Tryz.func197, Tryz.ntmps197
  go_wp2
  go_end0
  exact ⟨rfl, rfl⟩

/-- A table, asked or not: Do leaves its numbers laid. -/
def Tab (w : World) (b : Nat) : Prop := Fresh w b ∨ Ready w b
/-- What asking a table leaves: nothing is turned but the table, whose numbers are laid; and where they were laid, nothing at all. -/
def After (w : World) (b : Nat) (w' : World) : Prop := w.grownBy w' (some b) ∧ Ready w' b ∧ (Ready w b → w' = w)
theorem do_any (b : Nat) (w : World) (h : Tab w b) :
    Calls Tryz.prog 197 #[.pointer (some ⟨b, 0, none⟩), .func (.func 198) #[.pointer (some ⟨b, 0, none⟩)] #[]] w fun e w' => e = .returned (.tuple #[]) ∧ After w b w' := by
  rcases h with ⟨cs, hb, hf⟩ | ⟨cs, hb, hf⟩
  · refine (do_fresh b cs w hb hf).mono ?_
    rintro e w' ⟨he, hg, hr⟩
    refine ⟨he, hg, hr, ?_⟩
    rintro ⟨cs', hb', hf'⟩
    have e1 : cs = cs' := by have := hb.symm.trans hb'; simpa using this
    subst e1
    have := hf.2.1.symm.trans hf'.2.1
    simp at this
  · exact (do_ready b cs _ w hb hf).mono (by rintro e w' ⟨rfl, rfl⟩; exact ⟨rfl, World.grownBy.refl _ _, ⟨cs, hb, hf⟩, fun _ => rfl⟩)
end Go.Proofs.YteaokeiolgjhaaaGreat.Crc
/- The walks over More and Sum. -/
namespace Go.Proofs.YteaokeiolgjhaaaGreat.Crc
open Go.RowKit CrcMath Mem

/-- The table's step in the walk's own spelling. -/
theorem step_u8 {x y : Nat} (hy : y < 256) : bits BinOp.xor IntKind.u8 ((x : Int) % 256) (y : Int) = ((x % 256 ^^^ y : Nat) : Int) := by
  rw [show ((x : Int) % 256) = ((x % 256 : Nat) : Int) from by omega, u8_xor_nat _ _ (by omega) hy]
theorem step_u32 {x y : Nat} (hx : x < 4294967296) (hy : y < 256) : bits BinOp.xor IntKind.u32 ((Lk 8 (x % 256 ^^^ y) : Nat) : Int) ((x : Int) / 256) = ((B x y : Nat) : Int) := by
  rw [show ((x : Int) / 256) = ((x / 256 : Nat) : Int) from by omega, u32_xor_nat _ _ (Lk_lt (Nat.lt_trans (Nat.xor_lt_two_pow (n := 8) (by omega) hy) (by omega)) 8) (by omega), B_table]
set_option maxRecDepth 100000 in
set_option maxHeartbeats 800000 in
theorem more_any (b : Nat) (s : Nat) (A : Option Addr) (n c : Nat) (l : List Nat) (w : World) (h : Tab w b) (hs : s < 4294967296) (hl : Bytes w b A n l) (hn : n ≤ 9223372036854775807) :
    Calls Tryz.prog 177 #[.pointer (some ⟨b, 0, none⟩), .int .u32 s, .slice A n c] w fun e w' => e = .returned (.int .u32 (M s l : Nat)) ∧ After w b w' := by
  have hmf : ∀ (fn : Fn) (first cap : Array Value) (w : World), (Instr.makeFunc fn first cap).run Tryz.prog w = .ok (.func fn first cap) w := fun _ _ _ _ => rfl
  have H := Lib.hid h; clear h
  have HL := Lib.hid hl; clear hl
  go_enter Tryz.func177, Tryz.ntmps177
  go_wp2_with (go_at_call 197; refine (do_any b _ H.out).mono ?_; rintro e w1 ⟨rfl, ha⟩)
  have HA := Lib.hid ha
  obtain ⟨hg, hr, _⟩ := ha
  obtain ⟨cs, hb, hcs, hc0, hct⟩ := hr
  have hl1 := HL.out.keep hg
  obtain ⟨hlen, hby, hcell⟩ := hl1
  have HC := Lib.hid hcell; have HCT := Lib.hid hct; have HLEN := Lib.hid hlen; clear hcell hct hc0 hlen hcs
  have hfl := flip_u32 hs
  have hM : M s l = 4294967295 - C (4294967295 - s) l := rfl
  have HM := Lib.hid hM; clear hM
  generalize hs' : 4294967295 - s = s' at *
  have hs'l : s' < 4294967296 := by omega
  clear hs'
  go_loop [1, 19] (fun v i => ∃ k : Nat, k ≤ n ∧ i = .int .i64 k ∧ v = .int .u32 (C s' (l.take k) : Nat)) (fun _ i => n - (intOf i).toNat)
  case atStart => exact ⟨0, by omega, rfl, by simp [hfl, C]⟩
  case round =>
    obtain ⟨k, hk, rfl, rfl⟩ := hrel
    have hxl := C_lt (l.take k) hs'l (fun x hx' => hby x (List.mem_of_mem_take hx'))
    by_cases hlt : k < n
    · obtain ⟨g, o, rfl, _, _, hc⟩ := HC.out (by omega)
      have hck := hc k hlt
      clear hc
      have hyl := getD_lt hby k
      have hsn : C s' (l.take (k + 1)) = B (C s' (l.take k)) (l.getD k 0) := by rw [take_getD l k (by rw [HLEN.out]; exact hlt), C_snoc]
      have HSN := Lib.hid hsn; clear hsn
      generalize hx : C s' (l.take k) = x at *
      generalize hy : l.getD k 0 = y at *
      clear hx hy hfl
      have h8 := step_u8 (x := x) hyl
      have h32 := step_u32 hxl hyl
      have hzl : x % 256 ^^^ y < 256 := Nat.xor_lt_two_pow (n := 8) (by omega) hyl
      have hcell : w1.cell? ⟨b, 3 + (x % 256 ^^^ y), none⟩ = some (.int .u32 (Lk 8 (x % 256 ^^^ y) : Nat)) := by rw [hb.cell]; exact HCT.out _ hzl
      generalize hz : x % 256 ^^^ y = z at *
      clear hz
      have h0 : (0 : Int) ≤ z := by omega
      have h256 : (z : Int) < 256 := by omega
      go_wp2
      go_round
      case rel => exact ⟨k + 1, by omega, by go_num, by rw [HSN.out]⟩
      case measure => simp [intOf]; omega
    · obtain rfl : k = n := by omega
      have htk : l.take k = l := List.take_of_length_le (by rw [HLEN.out]; exact Nat.le_refl _)
      rw [htk] at hxl
      have hf2 := flip_u32 hxl
      clear hfl
      go_wp2
      go_ret
      exact ⟨ret_int (by rw [HM.out]), HA.out⟩

theorem sum_any (b : Nat) (A : Option Addr) (n c : Nat) (l : List Nat) (w : World) (h : Tab w b) (hl : Bytes w b A n l) (hn : n ≤ 9223372036854775807) :
    Calls Tryz.prog 144 #[.pointer (some ⟨b, 0, none⟩), .slice A n c] w fun e w' => e = .returned (.int .u32 (M 0 l : Nat)) ∧ After w b w' := by
  have H := Lib.hid h; clear h
  have HL := Lib.hid hl; clear hl
  go_enter Tryz.func144, Tryz.ntmps144
  go_wp2_with (go_at_call 177; refine (more_any b 0 A n c l _ H.out (by omega) HL.out hn).mono ?_; rintro e w1 ⟨rfl, ha⟩)
  have HA := Lib.hid ha; clear ha
  go_ret
  exact ⟨rfl, HA.out⟩

/-- Asked where the numbers are laid: nothing is turned. -/
theorem sum_ready (b : Nat) (A : Option Addr) (n c : Nat) (l : List Nat) (w : World) (h : Ready w b) (hl : Bytes w b A n l) (hn : n ≤ 9223372036854775807) :
    Calls Tryz.prog 144 #[.pointer (some ⟨b, 0, none⟩), .slice A n c] w fun e w' => e = .returned (.int .u32 (M 0 l : Nat)) ∧ w' = w :=
  (sum_any b A n c l w (.inr h) hl hn).mono fun _ _ ⟨he, ha⟩ => ⟨he, ha.2.2 h⟩
theorem more_ready (b : Nat) (s : Nat) (A : Option Addr) (n c : Nat) (l : List Nat) (w : World) (h : Ready w b) (hs : s < 4294967296) (hl : Bytes w b A n l) (hn : n ≤ 9223372036854775807) :
    Calls Tryz.prog 177 #[.pointer (some ⟨b, 0, none⟩), .int .u32 s, .slice A n c] w fun e w' => e = .returned (.int .u32 (M s l : Nat)) ∧ w' = w :=
  (more_any b s A n c l w (.inr h) hs hl hn).mono fun _ _ ⟨he, ha⟩ => ⟨he, ha.2.2 h⟩
end Go.Proofs.YteaokeiolgjhaaaGreat.Crc
/- The walk over New. -/
namespace Go.Proofs.YteaokeiolgjhaaaGreat.Crc
open Go.RowKit CrcMath Mem

def zeroCs : Array Value := #[.int .u32 0, .int .i32 0, .int .u32 0] ++ Array.replicate 256 (.int .u32 0)
theorem zeroTable (w : World) : (zeroValue 197).run Tryz.prog w = .ok (.agg zeroCs) w := by kernel_rfl
theorem fresh_zero : FreshC zeroCs := ⟨by simp [zeroCs], by simp [zeroCs], by simp [zeroCs]⟩

set_option maxRecDepth 100000 in
set_option maxHeartbeats 800000 in
theorem new_any (w : World) :
    Calls Tryz.prog 91 #[] w fun e w' => e = .returned (.pointer (some ⟨w.heap.size, 0, none⟩)) ∧ w' = w.alloc (.cells zeroCs 197) := by
  have hz := zeroTable
  go_enter Tryz.func91, Tryz.ntmps91
  go_wp2
  go_ret
  exact ⟨rfl, rfl⟩

end Go.Proofs.YteaokeiolgjhaaaGreat.Crc
/- What stays of a table whose numbers are laid; all of layer 1's texts in one. -/
namespace Go.Proofs.YteaokeiolgjhaaaGreat.Crc
open Go.RowKit CrcMath Mem
theorem Ready.keep {w w' : World} {b : Nat} {row : Option Nat} (h : Ready w b) (hg : w.grownBy w' row) (hne : some b ≠ row) : Ready w' b := by
  obtain ⟨cs, hb, hc⟩ := h
  exact ⟨cs, hb.grown hg hne, hc⟩
theorem Ready.drewN {w : World} {b : Nat} (h : Ready w b) (n : Nat) : Ready (w.drewN n) b := h
end Go.Proofs.YteaokeiolgjhaaaGreat.Crc
