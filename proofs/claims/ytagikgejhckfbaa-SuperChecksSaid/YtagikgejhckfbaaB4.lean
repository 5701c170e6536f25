/- Shared texts of this seat's proofs: Once, CrcMore, CrcNew, CrcBytes, CodecBits2, CodecCounts, CodecSuper, SupSpec, SupSmall, MapIs. -/
import Derived.Test.YtagikgejhckfbaaB3
import Derived.Maps.OwnSet
import Derived.Lib.SlKeysI
import Derived.WalkKit
/- sync.Once in a table, one goroutine: asked for the first time it fills the table; asked again it does nothing. -/
namespace Go.Proofs.Ytagikgejhckfbaa.Crc
open Go.RowKit CrcMath Mem
open Go.MuLone

/-- A table that nobody has asked; one whose numbers are laid. -/
def FreshC (cs : Array Value) : Prop := cs.size = 259 ∧ cs[0]? = some (.int .u32 0) ∧ cs[1]? = some (.int .i32 0)
def ReadyC (cs : Array Value) : Prop := cs.size = 259 ∧ cs[0]? = some (.int .u32 1) ∧ ∀ i, i < 256 → cs[3 + i]? = some (.int .u32 (Lk 8 i : Nat))
def Fresh (w : World) (b : Nat) : Prop := ∃ cs, Blk w b 62 cs ∧ FreshC cs
def Ready (w : World) (b : Nat) : Prop := ∃ cs, Blk w b 62 cs ∧ ReadyC cs

theorem ready_of_fresh {cs : Array Value} (h : FreshC cs) : ReadyC (((laid (cs.setIfInBounds 1 (.int .i32 1)) 256).setIfInBounds 0 (.int .u32 1)).setIfInBounds 1 (.int .i32 0)) := by
  obtain ⟨hs, _, _⟩ := h
  refine ⟨by simp [laid_size, hs], ?_, fun i hi => ?_⟩
  · rw [Array.getElem?_setIfInBounds_ne (by omega), Array.getElem?_setIfInBounds_self_of_lt (by rw [laid_size]; simp; omega)]
  · rw [Array.getElem?_setIfInBounds_ne (by omega), Array.getElem?_setIfInBounds_ne (by omega), laid_at _ (by simpa using hs) 256 i (by omega) hi]

set_option maxRecDepth 100000 in
set_option maxHeartbeats 1600000 in
theorem slow_any (b : Nat) (cs : Array Value) (w : World) (hb : Blk w b 62 cs) (hf : FreshC cs) :
    Calls Try.prog 75 #[.pointer (some ⟨b, 0, none⟩), .func (.func 62) #[.pointer (some ⟨b, 0, none⟩)] #[]] w fun e w' => e = .returned (.tuple #[]) ∧ (w.grownBy w' (some b) ∧ Ready w' b) := by
  have hf' := hf
  obtain ⟨hs, c0, c1⟩ := hf
  have h0 : w.cell? ⟨b, 0, none⟩ = some (.int .u32 0) := by rw [hb.cell]; exact c0
  have h1 : w.cell? ⟨b, 1, none⟩ = some (.int .i32 0) := by rw [hb.cell]; exact c1
  have f1 : w.frozen? ⟨b, 1, none⟩ = false := hb.frozen 1
  have hb1 := hb.set_ 1 (.int .i32 1)
  have hs1 : (cs.setIfInBounds 1 (Value.int .i32 1)).size = 259 := by simpa using hs
  have hl := run_call_load (P := Try.prog) Try.func83 (by kernel_rfl) (by kernel_rfl) (by kernel_rfl) .u32 (by kernel_rfl) (w := w.setCell ⟨b, 1, none⟩ (.int .i32 1)) (a := ⟨b, 0, none⟩) (x := 0) ((World.cell?_setCell_other _ ⟨b, 1, none⟩ ⟨b, 0, none⟩ _ (by simp)).trans h0)
  have hnot : ∀ (x : Bool) (w : World), (Op.unary .not (.bool x)).run Try.prog w = .ok (.bool (!x)) w := fun _ _ => rfl
  have HB := Lib.hid hb; have HS := Lib.hid hs1; have HB1 := Lib.hid hb1; have HF := Lib.hid hf'
  clear hb hs1 hb1 hf' c0 c1 hs
  go_enter_defers Try.func75, Try.ntmps75
  go_wp2_with (go_at_call 84; refine (lock_free Try.muLib ⟨b, 1, none⟩ _ h1 f1).mono ?_; rintro e w' ⟨rfl, rfl⟩)
  go_wp2_with (first
    | (go_at_call 62; refine (fill_any b _ _ HB1.out HS.out).mono ?_; rintro e w1 ⟨rfl, hg1, hk1⟩)
    | (go_at_call 74; go_in))
  have hk0 := laid_low (cs.setIfInBounds 1 (.int .i32 1)) 256 0 (by omega)
  have hk01 := laid_low (cs.setIfInBounds 1 (.int .i32 1)) 256 1 (by omega)
  rw [Array.getElem?_setIfInBounds_ne (by omega)] at hk0
  rw [Array.getElem?_setIfInBounds_self_of_lt (by have := HF.out.1; omega)] at hk01
  refine leaves_cons (f := 86) (args := #[.pointer (some ⟨b, 0, none⟩), .bool true]) (by simp) (by simp [go_sem]) ?_
  refine (Once.store_deferred ⟨b, 0, none⟩ (.int .u32 0) .returning _ ?_ (hk1.frozen 0)).mono ?_
  · rw [hk1.cell, hk0]; exact HF.out.2.1
  rintro e u' w'' ⟨rfl, rfl, rfl⟩
  refine leaves_cons (f := 85) (args := #[.pointer (some ⟨b, 1, none⟩)]) (by simp [settle]) (by simp [go_sem]) ?_
  have hk2 := (hk1.drew).set_ 0 (.int .u32 1)
  refine (unlock_deferred Try.muLib ⟨b, 1, none⟩ _ _ ?_ (hk2.frozen 1)).mono ?_
  · rw [hk2.cell, Array.getElem?_setIfInBounds_ne (by omega), hk01]
  rintro e u' w'' ⟨rfl, rfl, rfl⟩
  refine ⟨_, results_none rfl _ _ _, rfl, ?_, _, hk2.set_ 1 (.int .i32 0), ready_of_fresh HF.out⟩
  exact only_set (only_set (only_drew (World.grownBy.trans (only_set (World.grownBy.refl w (some b)) 1 (.int .i32 1)) hg1)) _ _) _ _

set_option maxRecDepth 100000 in
set_option maxHeartbeats 800000 in
theorem do_fresh (b : Nat) (cs : Array Value) (w : World) (hb : Blk w b 62 cs) (hf : FreshC cs) :
    Calls Try.prog 61 #[.pointer (some ⟨b, 0, none⟩), .func (.func 62) #[.pointer (some ⟨b, 0, none⟩)] #[]] w fun e w' => e = .returned (.tuple #[]) ∧ (w.grownBy w' (some b) ∧ Ready w' b) := by
  have h0 : w.cell? ⟨b, 0, none⟩ = some (.int .u32 0) := by rw [hb.cell]; exact hf.2.1
  have hl := run_call_load (P := Try.prog) Try.func83 (by kernel_rfl) (by kernel_rfl) (by kernel_rfl) .u32 (by kernel_rfl) h0
  have hnot : ∀ (x : Bool) (w : World), (Op.unary .not (.bool x)).run Try.prog w = .ok (.bool (!x)) w := fun _ _ => rfl
  have HB := Lib.hid hb; have HF := Lib.hid hf
  clear hb hf
  go_enter Try.func61, Try.ntmps61
  go_wp2_with (first
    | (go_at_call 75; refine (slow_any b cs _ HB.out HF.out).mono ?_; rintro e w1 ⟨rfl, hq⟩)
    | (go_at_call 74; go_in))
  go_end0
  exact ⟨rfl, hq⟩

set_option maxHeartbeats 800000 in
theorem do_ready (b : Nat) (cs : Array Value) (fv : Value) (w : World) (hb : Blk w b 62 cs) (hf : ReadyC cs) :
    Calls Try.prog 61 #[.pointer (some ⟨b, 0, none⟩), fv] w fun e w' => e = .returned (.tuple #[]) ∧ w = w' := by
  have h0 : w.cell? ⟨b, 0, none⟩ = some (.int .u32 1) := by rw [hb.cell]; exact hf.2.1
  have hl := run_call_load (P := Try.prog) Try.func83 (by kernel_rfl) (by kernel_rfl) (by kernel_rfl) .u32 (by kernel_rfl) h0
  have hnot : ∀ (x : Bool) (w : World), (Op.unary .not (.bool x)).run Try.prog w = .ok (.bool (!x)) w := fun _ _ => rfl
  clear hb hf
  go_enter Try.func61, Try.ntmps61
  go_wp2
  go_end0
  exact ⟨rfl, rfl⟩

/-- A table, asked or not: Do leaves its numbers laid. -/
def Tab (w : World) (b : Nat) : Prop := Fresh w b ∨ Ready w b
/-- What asking a table leaves: nothing is turned but the table, whose numbers are laid; and where they were laid, nothing at all. -/
def After (w : World) (b : Nat) (w' : World) : Prop := w.grownBy w' (some b) ∧ Ready w' b ∧ (Ready w b → w' = w)
theorem do_any (b : Nat) (w : World) (h : Tab w b) :
    Calls Try.prog 61 #[.pointer (some ⟨b, 0, none⟩), .func (.func 62) #[.pointer (some ⟨b, 0, none⟩)] #[]] w fun e w' => e = .returned (.tuple #[]) ∧ After w b w' := by
  rcases h with ⟨cs, hb, hf⟩ | ⟨cs, hb, hf⟩
  · refine (do_fresh b cs w hb hf).mono ?_
    rintro e w' ⟨he, hg, hr⟩
    refine ⟨he, hg, hr, ?_⟩
    rintro ⟨cs', hb', hf'⟩
    have e1 : cs = cs' := by have := hb.symm.trans hb'; simpa using this
    subst e1
    have := hf.2.1.symm.trans hf'.2.1
    simp at this
  · exact (do_ready b cs _ w hb hf).mono (by rintro e w' ⟨rfl, rfl⟩; exact ⟨rfl, World.grownBy.refl _ _, ⟨cs, hb, hf⟩, fun _ => rfl⟩)
end Go.Proofs.Ytagikgejhckfbaa.Crc
/- The walks over More and Sum. -/
namespace Go.Proofs.Ytagikgejhckfbaa.Crc
open Go.RowKit CrcMath Mem

/-- The table's step in the walk's own spelling. -/
theorem step_u8 {x y : Nat} (hy : y < 256) : bits BinOp.xor IntKind.u8 ((x : Int) % 256) (y : Int) = ((x % 256 ^^^ y : Nat) : Int) := by
  rw [show ((x : Int) % 256) = ((x % 256 : Nat) : Int) from by omega, u8_xor_nat _ _ (by omega) hy]
theorem step_u32 {x y : Nat} (hx : x < 4294967296) (hy : y < 256) : bits BinOp.xor IntKind.u32 ((Lk 8 (x % 256 ^^^ y) : Nat) : Int) ((x : Int) / 256) = ((B x y : Nat) : Int) := by
  rw [show ((x : Int) / 256) = ((x / 256 : Nat) : Int) from by omega, u32_xor_nat _ _ (Lk_lt (Nat.lt_trans (Nat.xor_lt_two_pow (n := 8) (by omega) hy) (by omega)) 8) (by omega), B_table]
set_option maxRecDepth 100000 in
set_option maxHeartbeats 800000 in
theorem more_any (b : Nat) (s : Nat) (A : Option Addr) (n c : Nat) (l : List Nat) (w : World) (h : Tab w b) (hs : s < 4294967296) (hl : Bytes w b A n l) (hn : n ≤ 9223372036854775807) :
    Calls Try.prog 56 #[.pointer (some ⟨b, 0, none⟩), .int .u32 s, .slice A n c] w fun e w' => e = .returned (.int .u32 (M s l : Nat)) ∧ After w b w' := by
  have hmf : ∀ (fn : Fn) (first cap : Array Value) (w : World), (Instr.makeFunc fn first cap).run Try.prog w = .ok (.func fn first cap) w := fun _ _ _ _ => rfl
  have H := Lib.hid h; clear h
  have HL := Lib.hid hl; clear hl
  go_enter Try.func56, Try.ntmps56
  go_wp2_with (go_at_call 61; refine (do_any b _ H.out).mono ?_; rintro e w1 ⟨rfl, ha⟩)
  have HA := Lib.hid ha
  obtain ⟨hg, hr, _⟩ := ha
  obtain ⟨cs, hb, hcs, hc0, hct⟩ := hr
  have hl1 := HL.out.keep hg
  obtain ⟨hlen, hby, hcell⟩ := hl1
  have HC := Lib.hid hcell; have HCT := Lib.hid hct; have HLEN := Lib.hid hlen; clear hcell hct hc0 hlen hcs
  have hfl := flip_u32 hs
  have hM : M s l = 4294967295 - C (4294967295 - s) l := rfl
  have HM := Lib.hid hM; clear hM
  generalize hs' : 4294967295 - s = s' at *
  have hs'l : s' < 4294967296 := by omega
  clear hs'
  go_loop [1, 19] (fun v i => ∃ k : Nat, k ≤ n ∧ i = .int .i64 k ∧ v = .int .u32 (C s' (l.take k) : Nat)) (fun _ i => n - (intOf i).toNat)
  case atStart => exact ⟨0, by omega, rfl, by simp [hfl, C]⟩
  case round =>
    obtain ⟨k, hk, rfl, rfl⟩ := hrel
    have hxl := C_lt (l.take k) hs'l (fun x hx' => hby x (List.mem_of_mem_take hx'))
    by_cases hlt : k < n
    · obtain ⟨g, o, rfl, _, _, hc⟩ := HC.out (by omega)
      have hck := hc k hlt
      clear hc
      have hyl := getD_lt hby k
      have hsn : C s' (l.take (k + 1)) = B (C s' (l.take k)) (l.getD k 0) := by rw [take_getD l k (by rw [HLEN.out]; exact hlt), C_snoc]
      have HSN := Lib.hid hsn; clear hsn
      generalize hx : C s' (l.take k) = x at *
      generalize hy : l.getD k 0 = y at *
      clear hx hy hfl
      have h8 := step_u8 (x := x) hyl
      have h32 := step_u32 hxl hyl
      have hzl : x % 256 ^^^ y < 256 := Nat.xor_lt_two_pow (n := 8) (by omega) hyl
      have hcell : w1.cell? ⟨b, 3 + (x % 256 ^^^ y), none⟩ = some (.int .u32 (Lk 8 (x % 256 ^^^ y) : Nat)) := by rw [hb.cell]; exact HCT.out _ hzl
      generalize hz : x % 256 ^^^ y = z at *
      clear hz
      have h0 : (0 : Int) ≤ z := by omega
      have h256 : (z : Int) < 256 := by omega
      go_wp2
      go_round
      case rel => exact ⟨k + 1, by omega, by go_num, by rw [HSN.out]⟩
      case measure => simp [intOf]; omega
    · obtain rfl : k = n := by omega
      have htk : l.take k = l := List.take_of_length_le (by rw [HLEN.out]; exact Nat.le_refl _)
      rw [htk] at hxl
      have hf2 := flip_u32 hxl
      clear hfl
      go_wp2
      go_ret
      exact ⟨ret_int (by rw [HM.out]), HA.out⟩

theorem sum_any (b : Nat) (A : Option Addr) (n c : Nat) (l : List Nat) (w : World) (h : Tab w b) (hl : Bytes w b A n l) (hn : n ≤ 9223372036854775807) :
    Calls Try.prog 50 #[.pointer (some ⟨b, 0, none⟩), .slice A n c] w fun e w' => e = .returned (.int .u32 (M 0 l : Nat)) ∧ After w b w' := by
  have H := Lib.hid h; clear h
  have HL := Lib.hid hl; clear hl
  go_enter Try.func50, Try.ntmps50
  go_wp2_with (go_at_call 56; refine (more_any b 0 A n c l _ H.out (by omega) HL.out hn).mono ?_; rintro e w1 ⟨rfl, ha⟩)
  have HA := Lib.hid ha; clear ha
  go_ret
  exact ⟨rfl, HA.out⟩

/-- Asked where the numbers are laid: nothing is turned. -/
theorem sum_ready (b : Nat) (A : Option Addr) (n c : Nat) (l : List Nat) (w : World) (h : Ready w b) (hl : Bytes w b A n l) (hn : n ≤ 9223372036854775807) :
    Calls Try.prog 50 #[.pointer (some ⟨b, 0, none⟩), .slice A n c] w fun e w' => e = .returned (.int .u32 (M 0 l : Nat)) ∧ w' = w :=
  (sum_any b A n c l w (.inr h) hl hn).mono fun _ _ ⟨he, ha⟩ => ⟨he, ha.2.2 h⟩
theorem more_ready (b : Nat) (s : Nat) (A : Option Addr) (n c : Nat) (l : List Nat) (w : World) (h : Ready w b) (hs : s < 4294967296) (hl : Bytes w b A n l) (hn : n ≤ 9223372036854775807) :
    Calls Try.prog 56 #[.pointer (some ⟨b, 0, none⟩), .int .u32 s, .slice A n c] w fun e w' => e = .returned (.int .u32 (M s l : Nat)) ∧ w' = w :=
  (more_any b s A n c l w (.inr h) hs hl hn).mono fun _ _ ⟨he, ha⟩ => ⟨he, ha.2.2 h⟩
end Go.Proofs.Ytagikgejhckfbaa.Crc
/- The walk over New. -/
namespace Go.Proofs.Ytagikgejhckfbaa.Crc
open Go.RowKit CrcMath Mem

def zeroCs : Array Value := #[.int .u32 0, .int .i32 0, .int .u32 0] ++ Array.replicate 256 (.int .u32 0)
theorem zeroTable (w : World) : (zeroValue 62).run Try.prog w = .ok (.agg zeroCs) w := by kernel_rfl
theorem fresh_zero : FreshC zeroCs := ⟨by simp [zeroCs], by simp [zeroCs], by simp [zeroCs]⟩

set_option maxRecDepth 100000 in
set_option maxHeartbeats 800000 in
theorem new_any (w : World) :
    Calls Try.prog 9 #[] w fun e w' => e = .returned (.pointer (some ⟨w.heap.size, 0, none⟩)) ∧ w' = w.alloc (.cells zeroCs 62) := by
  have hz := zeroTable
  go_enter Try.func9, Try.ntmps9
  go_wp2
  go_ret
  exact ⟨rfl, rfl⟩

end Go.Proofs.Ytagikgejhckfbaa.Crc
/- What stays of a table whose numbers are laid; all of layer 1's texts in one. -/
namespace Go.Proofs.Ytagikgejhckfbaa.Crc
open Go.RowKit CrcMath Mem
theorem Ready.keep {w w' : World} {b : Nat} {row : Option Nat} (h : Ready w b) (hg : w.grownBy w' row) (hne : some b ≠ row) : Ready w' b := by
  obtain ⟨cs, hb, hc⟩ := h
  exact ⟨cs, hb.grown hg hne, hc⟩
theorem Ready.drewN {w : World} {b : Nat} (h : Ready w b) (n : Nat) : Ready (w.drewN n) b := h
end Go.Proofs.Ytagikgejhckfbaa.Crc
/- The walks over the project's small functions for records, second part: seal, openSector, openBody, mark, neverWritten. -/
namespace Go.Proofs.Ytagikgejhckfbaa.Codec
open Go.RowKit CrcMath CodecMath Mem Crc

theorem tab_keep {w w' : World} {b : Nat} (h : Tab w b) {row : Option Nat} (hg : w.grownBy w' row) (hne : some b ≠ row) : Tab w' b := by
  rcases h with ⟨cs, hb, hf⟩ | ⟨cs, hb, hf⟩
  · exact .inl ⟨cs, hb.grown hg hne, hf⟩
  · exact .inr ⟨cs, hb.grown hg hne, hf⟩
/-- The table b, and what a call that asks it may turn: nothing more than block g, where its numbers are laid. -/
def Asks (w : World) (b g s : Nat) : Prop := (Ready w b ∧ s = g) ∨ (Tab w b ∧ s = b)
theorem blk_bytes {w : World} {b g : Nat} {t : TypeId} {L : List Nat} (h : Blk w g t (u8s L).toArray) (hne : g ≠ b) (hl : ∀ x ∈ L, x < 256) : Bytes w b (some ⟨g, 0, none⟩) L.length L :=
  ⟨rfl, hl, fun _ => ⟨g, 0, rfl, h.lt, hne, fun j hj => by rw [Nat.zero_add, h.cell, List.getElem?_toArray, u8s_at _ _ hj]⟩⟩
theorem frame_lay (pre : List Nat) (h : pre.length ≤ 252) : lay (fill pre 256) 252 (le4 (M 0 (fill pre 252))) = frame pre := by
  have h1 : (fill pre 256).take 252 = fill pre 252 := by
    simp only [fill, List.take_append, List.take_replicate]
    rw [List.take_of_length_le h]
    congr 2
    omega
  simp only [lay, splice, le4_length]
  rw [h1, List.drop_of_length_le (by rw [fill_length _ _ (by omega)]; exact Nat.le_refl _), List.append_nil]
  rfl
theorem take_fill (pre : List Nat) (h : pre.length ≤ 252) : (fill pre 256).take 252 = fill pre 252 := by
  simp only [fill, List.take_append, List.take_replicate]
  rw [List.take_of_length_le h]
  congr 2
  omega
theorem le4_take_up (s j : Nat) (h : j < 4) : (le4 s).take (j + 1) = (le4 s).take j ++ [s / 256 ^ j % 256] := le4_take s j h

set_option maxRecDepth 100000 in
set_option maxHeartbeats 800000 in
theorem seal_any (b g s : Nat) (pre : List Nat) (w : World) (hT : Asks w b g s) (hg : Blk w g 73 (u8s (fill pre 256)).toArray) (hpre : pre.length ≤ 252) (hlt : ∀ x ∈ pre, x < 256) (hbg : g ≠ b) :
    Calls Try.prog 40 #[.pointer (some ⟨b, 0, none⟩), .pointer (some ⟨g, 0, none⟩)] w fun e w' =>
      e = .returned (.slice (some ⟨g, 0, none⟩) 256 256) ∧ Left w w' g s ∧ Ready w' b ∧ Blk w' g 73 (u8s (frame pre)).toArray := by
  have hlen := fill_length pre 256 (by omega)
  have hb := (blk_bytes hg hbg (fill_lt pre 256 hlt)).take_ 252 (by omega)
  rw [take_fill pre hpre] at hb
  have HB := Lib.hid hb
  have HFR := Lib.hid (frame_lay pre hpre)
  have hml : M 0 (fill pre 252) < 4294967296 := M_lt _ _
  have HG := Lib.hid hg; have HLEN := Lib.hid hlen; have HA := Lib.hid hT
  have hTab : Tab w b := hT.elim (fun h => .inr h.1) (fun h => h.1)
  clear hT hg hlen hb
  go_enter Try.func40, Try.ntmps40
  go_wp2_with fail
  refine (sum_any b _ 252 _ _ _ hTab HB.out (by omega)).mono ?_
  rintro e w1 ⟨rfl, hga, hra, hsame⟩
  have hl0 : Left w w1 g s := by
    rcases HA.out with ⟨h, _⟩ | ⟨_, rfl⟩
    · rw [hsame h]; exact Left.of0 (World.grownBy.refl _ _) _ _
    · exact Left.of2 hga _
  have HG1 := Lib.hid (HG.out.grown hga (by simpa using hbg))
  have HL0 := Lib.hid hl0; have HR1 := Lib.hid hra
  clear hga hra hsame hl0 hTab
  generalize M 0 (fill pre 252) = sm at *
  go_wp2_with fail
  go_loopw [7, 18] (fun _ i wr => ∃ j : Nat, j ≤ 4 ∧ i = .int .i64 j ∧ w1.grownBy wr (some g) ∧ Blk wr g 73 (u8s (lay (fill pre 256) 252 ((le4 sm).take j))).toArray) (fun _ i _ => 4 - (intOf i).toNat)
  case atStart => exact ⟨0, by omega, rfl, World.grownBy.refl _ _, by simpa [lay_nil] using HG1.out⟩
  case round =>
    obtain ⟨j, hj, rfl, hgw, hbw⟩ := hrel
    have HBW := Lib.hid hbw; have HGW := Lib.hid hgw; clear hbw hgw
    by_cases hlt : j < 4
    · have hlen : (lay (fill pre 256) 252 ((le4 sm).take j)).length = 256 := by rw [lay_length _ _ _ (by rw [List.length_take, le4_length, HLEN.out]; omega), HLEN.out]
      have hcell := HBW.out.cell (252 + j)
      rw [List.getElem?_toArray, u8s_at _ _ (by omega)] at hcell
      have hfr := HBW.out.frozen (252 + j)
      have hst := lay_set (fill pre 256) 252 ((le4 sm).take j) (sm / 256 ^ j % 256) (by rw [List.length_take, le4_length, HLEN.out]; omega)
      rw [List.length_take, le4_length, Nat.min_eq_left (by omega), ← le4_take_up sm j hlt] at hst
      have HST := Lib.hid hst; have HBY := Lib.hid (byte_of_sum sm j); clear hst hlen
      go_wp2_with fail
      go_roundw
      case rel =>
        refine ⟨j + 1, by omega, by go_num, only_set HGW.out _ _, ?_⟩
        rw [HBY.out]
        have h := HBW.out.set_ (252 + j) (.int .u8 ((sm / 256 ^ j % 256 : Nat) : Int))
        rw [u8s_set, HST.out] at h
        exact h
      case measure => simp [intOf]; omega
    · obtain rfl : j = 4 := by omega
      go_wp2
      go_ret
      refine ⟨rfl, HL0.out.trans (Left.of1 HGW.out s), HR1.out.keep HGW.out (by simpa using fun e => hbg e.symm), ?_⟩
      have h := HBW.out
      rw [List.take_of_length_le (by rw [le4_length]; exact Nat.le_refl _), HFR.out] at h
      exact h

theorem zero256 (w : World) : (zeroValue 73).run Try.prog w = .ok (.agg (Array.replicate 256 (.int .u8 0))) w := by kernel_rfl
theorem u8_one : (Try.prog.info? 5).map (·.size) = some 1 := by kernel_rfl
theorem fill_zero (N : Nat) : (u8s (fill [] N)).toArray = Array.replicate N (.int .u8 0) := by
  simp [fill, u8s]
/-- What opening leaves: a block of the call's own with just these bytes. -/
def Opened (w : World) (t : TypeId) (N : Nat) (l : List Nat) (e : Ending) (w' : World) : Prop :=
  e = .returned (.tuple #[.slice (some ⟨w.heap.size, 0, none⟩) N N, .bool true]) ∧ w.grownBy w' none ∧ Blk w' w.heap.size t (u8s l).toArray
theorem grown_setRow {w W : World} {h : Nat} (hg : w.grownBy W none) (hh : w.heap.size ≤ h) (cs : Array Value) : w.grownBy (W.setRow h cs) none :=
  ⟨hg.os, hg.tape, hg.output, by simpa [World.setRow] using hg.size, fun k hk _ => (setRow_other W h k cs (by omega)).trans (hg.block k hk (by simp))⟩
theorem blk_setRow {W : World} {h : Nat} {t : TypeId} {cs : Array Value} (hb : Blk W h t cs) (ds : Array Value) : Blk (W.setRow h ds) h t ds := setRow_heap W h cs ds t (0, 0) hb
/-- All of an array is written over by a slice's bytes. -/
theorem run_copy_full {W : World} {h g o c N b : Nat} {t : TypeId} {cs : Array Value} {l : List Nat} (hb : Blk W h t cs) (hs : cs.size = N) (hl : Bytes W b (some ⟨g, o, none⟩) N l) (ty : TypeId) :
    (Builtin.copy_ #[39, 39] ty #[.slice (some ⟨h, 0, none⟩) N N, .slice (some ⟨g, o, none⟩) N c]).run Try.prog W = .ok (.int .i64 N) (W.setRow h (u8s l).toArray) := by
  have hlen := hl.1
  have := run_copy_row (P := Try.prog) W 39 39 ty 5 h 0 N N ⟨g, o, none⟩ N c cs t (u8s l) Try.underlying39 u8_one hb
    (by rw [u8s_length, hlen]; simp) (fun j v hv => by
      have hj : j < l.length := by
        rcases Nat.lt_or_ge j l.length with h1 | h1
        · exact h1
        · rw [List.getElem?_eq_none (by rw [u8s_length]; exact h1)] at hv; cases hv
      obtain ⟨g', o', e, _, _, hc⟩ := hl.2.2 (by omega)
      simp only [Option.some.injEq, Addr.mk.injEq, and_true] at e
      obtain ⟨rfl, rfl⟩ := e
      have e1 : (⟨g, o, none⟩ : Addr).add j = ⟨g, o + j, none⟩ := by unfold Addr.add; split <;> simp_all
      rw [e1, hc j (by omega), ← hv, u8s_at _ _ hj]) (by rw [u8s_length, hlen]; omega) (u8s_one l)
  rw [this, u8s_length, hlen]
  have hd : cs.toList.drop (0 + N) = [] := List.drop_of_length_le (by simp; omega)
  rw [hd, List.append_nil, List.take_zero, List.nil_append]
  rfl

set_option maxRecDepth 100000 in
set_option maxHeartbeats 800000 in
theorem opensector_any (b b2 : Nat) (A : Option Addr) (c : Nat) (l : List Nat) (w : World) (hl : Bytes w b2 A 256 l) :
    Calls Try.prog 43 #[.pointer (some ⟨b, 0, none⟩), .slice A 256 c] w (Opened w 73 256 l) := by
  obtain ⟨g, o, rfl, hlt, _, hc⟩ := hl.2.2 (by omega)
  have hz := zero256
  have hb0 := Blk.new w 73 (Array.replicate 256 (.int .u8 0))
  have hcp := run_copy_full (c := c) hb0 (by simp) (bytes_keepN hl (World.grownBy_alloc w _ none))
  have HB := Lib.hid (blk_setRow hb0 (u8s l).toArray)
  have HG := Lib.hid (grown_setRow (World.grownBy_alloc w (.cells (Array.replicate 256 (.int .u8 0)) 73) none) (Nat.le_refl _) (u8s l).toArray)
  clear hc hl hb0
  generalize hcs : (u8s l).toArray = cs at *
  have HCS := Lib.hid hcs; clear hcs
  generalize hzz : Array.replicate 256 (Value.int .u8 0) = zs at *
  clear hzz
  go_enter Try.func43, Try.ntmps43
  go_wp2
  go_ret2
  exact ⟨rfl, HG.out, by rw [HCS.out]; exact HB.out⟩
set_option maxRecDepth 100000 in
theorem opensector_nil (A : Option Addr) (n c : Nat) (w : World) :
    Calls Try.prog 43 #[.pointer none, .slice A n c] w fun e w' => e = .returned (.tuple #[.slice none 0 0, .bool false]) ∧ w = w' := by
  go_enter Try.func43, Try.ntmps43
  go_wp2
  go_ret2
  exact ⟨rfl, rfl⟩
set_option maxRecDepth 100000 in
theorem opensector_no (b : Nat) (A : Option Addr) (n c : Nat) (w : World) (hn : n ≠ 256) :
    Calls Try.prog 43 #[.pointer (some ⟨b, 0, none⟩), .slice A n c] w fun e w' => e = .returned (.tuple #[.slice none 0 0, .bool false]) ∧ w = w' := by
  have hne : (((n : Nat) : Int) != 256) = true := by simp; omega
  go_enter Try.func43, Try.ntmps43
  go_wp2
  go_ret2
  exact ⟨rfl, rfl⟩
theorem u8s_bytes (s : ByteArray) : Lib.byteCells s.data.toList = u8s (s.data.toList.map UInt8.toNat) := by simp [Lib.byteCells, u8s]
set_option maxRecDepth 100000 in
set_option maxHeartbeats 800000 in
/-- A mark of four bytes is written at the cursor's place. -/
theorem mark_any (p g k n : Nat) (t : TypeId) (L : List Nat) (s : ByteArray) (xs : List Nat) (w : World) (hc : Cur w p g k n) (hg : Blk w g t (u8s L).toArray) (ht : t ≠ 89)
    (hs : s.data.toList.map UInt8.toNat = xs) (h4 : s.size = 4) (h : 4 ≤ n) (hn : k + n ≤ L.length) (hL : L.length ≤ 4096) :
    Calls Try.prog 38 #[.pointer (some ⟨p, 0, none⟩), .string s] w fun e w' =>
      e = .returned (.tuple #[]) ∧ Left w w' p g ∧ Cur w' p g (k + 4) (n - 4) ∧ Blk w' g t (u8s (lay L k xs)).toArray := by
  have hpg := hc.ne hg ht
  have HG := Lib.hid hg; have HC := Lib.hid hc; have HS := Lib.hid hs; clear hc hg hs
  have h4' : (s.size : Int) = 4 := by omega
  go_enter Try.func38, Try.ntmps38
  go_wp2_with fail
  refine (take_any p g k n 4 w HC.out h (by omega)).mono ?_
  rintro e w1 ⟨⟨k0, rfl, hk⟩, hgr, hc1⟩
  obtain rfl := hk (by omega)
  have hb1 := HG.out.grown hgr (by simpa using fun e => hpg e.symm)
  have hcp := fun ty => Lib.run_copy_row_string (P := Try.prog) w1 39 9 ty 5 g k0 4 4 s _ t Try.underlying39 u8_one hb1 (by omega) (by simp [u8s_length]; omega)
  have hspl : (u8s L).toArray.toList.take k0 ++ Lib.byteCells s.data.toList ++ (u8s L).toArray.toList.drop (k0 + s.size) = u8s (lay L k0 xs) := by
    have hx : (u8s xs).length = s.size := by rw [← HS.out, u8s_length, List.length_map, Array.length_toList]; rfl
    rw [u8s_lay, splice, u8s_bytes, HS.out, List.append_assoc, hx]
  rw [hspl] at hcp
  have HB := Lib.hid (blk_setRow hb1 (u8s (lay L k0 xs)).toArray)
  have HC1 := Lib.hid hc1; have HGR := Lib.hid (Left.of1 hgr g)
  have hset : Left w1 (w1.setRow g (u8s (lay L k0 xs)).toArray) p g := ⟨rfl, rfl, rfl, by simp [World.setRow], fun i _ _ h2 => setRow_other w1 g i _ h2⟩
  have hc2 : Cur (w1.setRow g (u8s (lay L k0 xs)).toArray) p g (k0 + 4) (n - 4) := by
    obtain ⟨k1, hb, hk1⟩ := hc1
    exact ⟨k1, (setRow_other w1 g p _ hpg).trans hb, hk1⟩
  have HSET := Lib.hid hset; have HC2 := Lib.hid hc2
  clear hb1 hc1 hgr hk hspl hset hc2
  generalize hcs : (u8s (lay L k0 xs)).toArray = cs at *
  have HCS := Lib.hid hcs; clear hcs
  go_wp2
  go_end0
  exact ⟨rfl, HGR.out.trans HSET.out, HC2.out, by rw [HCS.out]; exact HB.out⟩

theorem all_zero {l : List Nat} (h : ∀ q, q < l.length → l.getD q 0 = 0) : l = List.replicate l.length 0 := by
  refine List.ext_getElem (by simp) (fun i h1 h2 => ?_)
  have := h i h1
  rw [List.getD_eq_getElem?_getD, List.getElem?_eq_getElem h1] at this
  simpa using this
theorem not_zero {l : List Nat} (j : Nat) (h : l.getD j 0 ≠ 0) : l ≠ List.replicate l.length 0 := by
  intro e
  apply h
  rw [e, List.getD_eq_getElem?_getD, List.getElem?_replicate]
  split <;> rfl
end Go.Proofs.Ytagikgejhckfbaa.Codec
/- The project's calls for counts: PutCounts, GetCounts. -/
namespace Go.Proofs.Ytagikgejhckfbaa.Codec
open Go.RowKit CrcMath CodecMath Mem Crc

/-- What a call of the project's that writes a record leaves: its bytes as an array of its own, or ErrArg. -/
def Gave (w : World) (t : TypeId) (o : Option (List Nat)) (e : Ending) (w' : World) : Prop :=
  w.grownBy w' none ∧ ((∃ l g, o = some l ∧ e = .returned (.tuple #[.slice (some ⟨g, 0, none⟩) l.length l.length, .int .i64 0]) ∧ w.heap.size ≤ g ∧ Blk w' g t (u8s l).toArray ∧ ∀ x ∈ l, x < 256) ∨
    (o = none ∧ e = .returned (.tuple #[.slice none 0 0, .int .i64 1])))
/-- The cursor over a new array. -/
theorem cur_new (w : World) (g N : Nat) (k : Nat) (hk : k = 0) : Cur (w.alloc (.cells #[.slice (some ⟨g, 0, none⟩) N N] 89)) w.heap.size g k N := ⟨0, Blk.new w _ _, fun _ => hk.symm⟩

theorem own_of_blk {w : World} {g base n : Nat} {e : TypeId} {xs : List Value} (h : Blk w g e xs.toArray) (hn : xs.length = n) (hb : base ≤ g) (hm : n ≤ maxLen) : Own w base e 1 (.slice (some ⟨g, 0, none⟩) n n) n xs :=
  .inr ⟨g, xs.toArray, _, rfl, hb, h, hm, by simp, by omega⟩
theorem int_one : (Try.prog.info? 3).map (·.size) = some 1 := by kernel_rfl
theorem set_zeros (xs : List Value) (v z : Value) (c j : Nat) (hx : xs.length = j) (hj : j < c) : (xs ++ List.replicate (c - j) z).toArray.setIfInBounds j v = (xs ++ [v] ++ List.replicate (c - (j + 1)) z).toArray := by
  obtain ⟨q, hq⟩ : ∃ q, c - j = q + 1 := ⟨c - j - 1, by omega⟩
  rw [hq, show c - (j + 1) = q from by omega]
  simp only [List.setIfInBounds_toArray]
  rw [List.set_append, if_neg (by omega), hx, Nat.sub_self, List.replicate_succ]
  simp
theorem made_ints (n : Nat) : madeCells (Value.int .i64 0).cells n = (List.replicate n (Value.int .i64 0)).toArray := by
  refine Array.ext (by simp [size_madeCells]) (fun i h1 h2 => ?_)
  simp [madeCells, Value.cells, Nat.mod_one]
theorem run_ints (n : Nat) (w : World) (h : n ≤ 4096) : (Instr.makeSlice 29 (.int .i64 n) (.int .i64 n)).run Try.prog w = .ok (.slice (some ⟨w.heap.size, 0, none⟩) n n) (w.alloc (.cells (List.replicate n (Value.int .i64 0)).toArray 3)) := by
  obtain ⟨i0, hi0, hz0, hz1, hz2⟩ := info_parts int_info
  have h := run_make (P := Try.prog) w 29 3 i0 _ Try.underlying29 hi0 hz0 .i64 .i64 n n (by omega) (Int.le_refl _) (by rw [hz2]; omega) (by omega)
  rw [h, hz1, Nat.mul_one, Int.toNat_natCast, made_ints]
theorem Gave.none_ {w : World} {t : TypeId} {e : Ending} {w' : World} (h : Gave w t none e w') : w.grownBy w' none ∧ e = .returned (.tuple #[.slice none 0 0, .int .i64 1]) := by
  obtain ⟨hg, ⟨l, g, ho, _⟩ | ⟨_, he⟩⟩ := h
  · cases ho
  · exact ⟨hg, he⟩
theorem Gave.some_ {w : World} {t : TypeId} {e : Ending} {w' : World} {l : List Nat} (h : Gave w t (some l) e w') :
    w.grownBy w' none ∧ ∃ g, e = .returned (.tuple #[.slice (some ⟨g, 0, none⟩) l.length l.length, .int .i64 0]) ∧ w.heap.size ≤ g ∧ Blk w' g t (u8s l).toArray ∧ ∀ x ∈ l, x < 256 := by
  obtain ⟨hg, ⟨l', g, ho, he, rest⟩ | ⟨ho, _⟩⟩ := h
  · obtain rfl : l = l' := by injection ho
    exact ⟨hg, g, he, rest⟩
  · cases ho

end Go.Proofs.Ytagikgejhckfbaa.Codec
/- The project's calls for superblocks: PutSuper, GetSuper. -/
namespace Go.Proofs.Ytagikgejhckfbaa.Codec
open Go.RowKit CrcMath CodecMath Mem Crc

/-- What a call that writes a sector leaves; S: the block that it may turn (the table's, where its numbers are not laid yet). -/
def Gives (w : World) (S : Option Nat) (b : Nat) (o : Option (List Nat)) (e : Ending) (w' : World) : Prop :=
  w.grownBy w' S ∧ ((∃ l g, o = some l ∧ e = .returned (.tuple #[.slice (some ⟨g, 0, none⟩) l.length l.length, .int .i64 0]) ∧ w.heap.size ≤ g ∧ Blk w' g 73 (u8s l).toArray ∧ (∀ x ∈ l, x < 256) ∧ Ready w' b) ∨
    (o = none ∧ e = .returned (.tuple #[.slice none 0 0, .int .i64 1])))
/-- The same, told of the table: where nothing is written, nothing has turned. -/
def GivesT (w : World) (S : Option Nat) (b : Nat) (o : Option (List Nat)) (e : Ending) (w' : World) : Prop :=
  w.grownBy w' S ∧ ((∃ l g, o = some l ∧ e = .returned (.tuple #[.slice (some ⟨g, 0, none⟩) l.length l.length, .int .i64 0]) ∧ w.heap.size ≤ g ∧ Blk w' g 73 (u8s l).toArray ∧ (∀ x ∈ l, x < 256) ∧ Ready w' b) ∨
    (o = none ∧ e = .returned (.tuple #[.slice none 0 0, .int .i64 1]) ∧ w.grownBy w' none))
theorem GivesT.gives {w : World} {S : Option Nat} {b : Nat} {o : Option (List Nat)} {e : Ending} {w' : World} (h : GivesT w S b o e w') : Gives w S b o e w' := by
  obtain ⟨hg, hl | ⟨h1, h2, _⟩⟩ := h
  · exact ⟨hg, .inl hl⟩
  · exact ⟨hg, .inr ⟨h1, h2⟩⟩
/-- What a table is, and what asking it may turn. -/
def TabS (w : World) (b : Nat) (S : Option Nat) : Prop := (Ready w b ∧ S = none) ∨ (Tab w b ∧ S = some b)
theorem TabS.asks {w w1 : World} {b : Nat} {S : Option Nat} (h : TabS w b S) (hg : w.grownBy w1 none) (g : Nat) : ∃ s, Asks w1 b g s ∧ (∀ w2, Left w1 w2 g s → w.heap.size ≤ g → w.grownBy w2 S) := by
  rcases h with ⟨h, rfl⟩ | ⟨h, rfl⟩
  · exact ⟨g, .inl ⟨h.keep hg (by simp), rfl⟩, fun w2 hl hge => hl.new hg hge hge⟩
  · refine ⟨b, .inr ⟨tab_keep h hg (by simp), rfl⟩, fun w2 hl hge => ?_⟩
    exact ⟨hl.os.trans hg.os, hl.tape.trans hg.tape, hl.output.trans hg.output, Nat.le_trans hg.size hl.size, fun k hk hne => (hl.block k (Nat.lt_of_lt_of_le hk hg.size) (by omega) (by simpa using hne)).trans (hg.block k hk (by simp))⟩
theorem TabS.lt {w : World} {b : Nat} {S : Option Nat} (h : TabS w b S) : b < w.heap.size := by
  rcases h with ⟨⟨_, h, _⟩, _⟩ | ⟨⟨_, h, _⟩ | ⟨_, h, _⟩, _⟩ <;> exact h.lt
theorem grown_any_row {w w' : World} (h : w.grownBy w' none) (S : Option Nat) : w.grownBy w' S := ⟨h.os, h.tape, h.output, h.size, fun i hi _ => h.block i hi (by simp)⟩
/-- A new array and a cursor over it. -/
theorem start_row {w W : World} (hg : w.grownBy W none) (t : TypeId) (N : Nat) (zs : Array Value) (hz : (u8s (fill [] N)).toArray = zs) :
    w.grownBy ((W.alloc (.cells zs t)).alloc (.cells #[.slice (some ⟨W.heap.size, 0, none⟩) N N] 89)) none ∧
    Cur ((W.alloc (.cells zs t)).alloc (.cells #[.slice (some ⟨W.heap.size, 0, none⟩) N N] 89)) (W.heap.size + 1) W.heap.size 0 N ∧
    Blk ((W.alloc (.cells zs t)).alloc (.cells #[.slice (some ⟨W.heap.size, 0, none⟩) N N] 89)) W.heap.size t (u8s (fill [] N)).toArray := by
  refine ⟨(hg.trans (World.grownBy_alloc W _ none)).trans (World.grownBy_alloc _ _ none), ?_, ?_⟩
  · simpa using cur_new (W.alloc (.cells zs t)) W.heap.size N 0 rfl
  · rw [hz]
    exact (Blk.new W _ zs).alloc _
/-- What of a superblock stands when j of its numbers are written. -/
def superP (s : List Int) (j : Nat) : List Nat := [80, 83, 85, 80] ++ ((s.take j).flatMap fun n => be 8 n.toNat)
theorem superP_len (s : List Int) (j : Nat) (hs : s.length = 7) (h : j ≤ 7) : (superP s j).length = 4 + 8 * j := by
  rw [superP, List.length_append, flat_len, List.length_take, hs, Nat.min_eq_left h]; rfl
theorem superP_succ (s : List Int) (j : Nat) (hs : s.length = 7) (h : j < 7) : superP s (j + 1) = superP s j ++ be 8 (s.getD j 0).toNat := by
  rw [superP, take_flat s 8 j (by omega), ← List.append_assoc]; rfl
theorem superP_all (s : List Int) (hs : s.length = 7) : superP s 7 = superB s := by rw [superP, List.take_of_length_le (by omega)]; rfl
theorem index7 (a0 a1 a2 a3 a4 a5 a6 : Int) (j : Nat) (hj : j < 7) (w : World) :
    (Instr.index 84 (.agg #[.int .i64 a0, .int .i64 a1, .int .i64 a2, .int .i64 a3, .int .i64 a4, .int .i64 a5, .int .i64 a6]) (.int .i64 j)).run Try.prog w = .ok (.int .i64 ([a0, a1, a2, a3, a4, a5, a6].getD j 0)) w := by
  obtain rfl | rfl | rfl | rfl | rfl | rfl | rfl : j = 0 ∨ j = 1 ∨ j = 2 ∨ j = 3 ∨ j = 4 ∨ j = 5 ∨ j = 6 := by omega
  · kernel_rfl
  · kernel_rfl
  · kernel_rfl
  · kernel_rfl
  · kernel_rfl
  · kernel_rfl
  · kernel_rfl
theorem superOk_of (s : List Int) : superOk s = allB s 1099511627776 := rfl

set_option maxRecDepth 100000 in
set_option maxHeartbeats 1600000 in
theorem put_super_core (b : Nat) (S : Option Nat) (a0 a1 a2 a3 a4 a5 a6 : Int) (w : World) (hT : TabS w b S) :
    Calls Try.prog 21 #[.pointer (some ⟨b, 0, none⟩), .agg #[.int .i64 a0, .int .i64 a1, .int .i64 a2, .int .i64 a3, .int .i64 a4, .int .i64 a5, .int .i64 a6]] w (GivesT w S b (superW [a0, a1, a2, a3, a4, a5, a6])) := by
  have HT := Lib.hid hT; clear hT
  have hz := zero256
  go_enter Try.func21, Try.ntmps21
  go_wp2_with fail
  generalize hs : [a0, a1, a2, a3, a4, a5, a6] = s at *
  have hlen : s.length = 7 := by subst hs; rfl
  have hget : ∀ j, j < 7 → (#[Value.int .i64 a0, .int .i64 a1, .int .i64 a2, .int .i64 a3, .int .i64 a4, .int .i64 a5, .int .i64 a6] : Array Value)[j]? = some (.int .i64 (s.getD j 0)) := by
    subst hs
    intro j hj
    match j, hj with
    | 0, _ | 1, _ | 2, _ | 3, _ | 4, _ | 5, _ | 6, _ => rfl
  have HLEN := Lib.hid hlen; have HGET := Lib.hid hget; have HS := Lib.hid hs; clear hlen hget hs
  have hg0 := (World.grownBy_alloc w (.cells #[.int .i64 a0, .int .i64 a1, .int .i64 a2, .int .i64 a3, .int .i64 a4, .int .i64 a5, .int .i64 a6] 23) none).trans (World.grownBy_alloc _ (.cells #[.int .i64 a0, .int .i64 a1, .int .i64 a2, .int .i64 a3, .int .i64 a4, .int .i64 a5, .int .i64 a6] 84) none)
  have hb0 := Blk.new (w.alloc (.cells #[.int .i64 a0, .int .i64 a1, .int .i64 a2, .int .i64 a3, .int .i64 a4, .int .i64 a5, .int .i64 a6] 23)) 84 #[.int .i64 a0, .int .i64 a1, .int .i64 a2, .int .i64 a3, .int .i64 a4, .int .i64 a5, .int .i64 a6]
  rw [World.size_alloc] at hb0
  have HG0 := Lib.hid hg0; have HB0 := Lib.hid hb0; clear hg0 hb0
  refine (allwithin_cells (some ⟨w.heap.size + 1, 0, none⟩) 7 7 s 1099511627776 _ HLEN.out (fun _ => ⟨_, 0, rfl, fun j hj => ?_⟩) (by omega)).mono ?_
  · rw [Nat.zero_add, HB0.out.cell]
    exact HGET.out j hj
  rintro e w1 ⟨rfl, rfl⟩
  cases hall : allB s 1099511627776 with
  | false =>
    have HNO := Lib.hid (show superW s = none by simp [superW, superOk_of, hall])
    clear hall
    go_wp2
    go_ret2
    exact ⟨grown_any_row HG0.out S, .inr ⟨by first | exact HNO.out | (rw [HS.out]; exact HNO.out), rfl, HG0.out⟩⟩
  | true =>
    have HYES := Lib.hid (show superW s = some (frame (superB s)) by simp [superW, superOk_of, hall])
    have HBD := Lib.hid (fun j hj => allB_yes hall j (by rw [HLEN.out]; exact hj) : ∀ j, j < 7 → 0 ≤ s.getD j 0 ∧ s.getD j 0 ≤ 1099511627776)
    clear hall
    have hfz := fill_zero 256
    have HFZ := Lib.hid hfz; clear hfz
    generalize hzz : Array.replicate 256 (Value.int .u8 0) = zs at *
    clear hzz
    have hst := start_row HG0.out 73 256 zs HFZ.out
    simp only [World.size_alloc] at hst
    obtain ⟨hg1, hc1, hb1⟩ := hst
    have HG1 := Lib.hid hg1; have HC1 := Lib.hid hc1; have HB1 := Lib.hid hb1; have HBA := Lib.hid ((HB0.out.alloc (.cells zs 73)).alloc (.cells #[.slice (some ⟨w.heap.size + 1 + 1, 0, none⟩) 256 256] 89))
    clear hg1 hc1 hb1
    go_wp2_with fail
    refine (mark_any _ _ 0 256 _ _ _ [80, 83, 85, 80] _ HC1.out HB1.out (by decide) rfl rfl (by omega) (by rw [fill_length _ _ (by simp)]; omega) (by rw [fill_length _ _ (by simp)]; omega)).mono ?_
    rintro e w2 ⟨rfl, hlf, hc2, hb2⟩
    rw [show lay (fill [] 256) 0 [80, 83, 85, 80] = fill [80, 83, 85, 80] 256 from lay_fill [] [80, 83, 85, 80] 256] at hb2
    have hba := hlf.blk HBA.out (by omega) (by omega)
    have hx0 := hba.cell 0; have hx1 := hba.cell 1; have hx2 := hba.cell 2; have hx3 := hba.cell 3; have hx4 := hba.cell 4; have hx5 := hba.cell 5; have hx6 := hba.cell 6
    simp only [List.getElem?_toArray, List.getElem?_cons_zero, List.getElem?_cons_succ] at hx0 hx1 hx2 hx3 hx4 hx5 hx6
    have HG2 := Lib.hid (hlf.new HG1.out (by omega) (by omega)); have HC2 := Lib.hid hc2; have HB2 := Lib.hid hb2
    clear hlf hc2 hb2 hba
    clear HG1 HC1 HB1 HBA HG0 HB0
    go_wp2_with fail
    go_loopw [10, 36] (fun _ i wr => ∃ j : Nat, j ≤ 7 ∧ i = .int .i64 j ∧ w.grownBy wr none ∧ Cur wr (w.heap.size + 1 + 1 + 1) (w.heap.size + 1 + 1) (4 + 8 * j) (252 - 8 * j) ∧
      Blk wr (w.heap.size + 1 + 1) 73 (u8s (fill (superP s j) 256)).toArray) (fun _ i _ => 7 - (intOf i).toNat)
    case atStart =>
      refine ⟨0, by omega, rfl, HG2.out, HC2.out, ?_⟩
      exact HB2.out
    case round =>
      obtain ⟨j, hj, rfl, hg, hc, hb⟩ := hrel
      have HG := Lib.hid hg; have HC := Lib.hid hc; have HBK := Lib.hid hb
      clear hg hc hb
      have hpl := superP_len s j HLEN.out hj
      by_cases hlt : j < 7
      · obtain ⟨hx0, hx1⟩ := HBD.out j hlt
        have hly := lay_fill (superP s j) (be 8 (s.getD j 0).toNat) 256
        rw [hpl, ← superP_succ s j HLEN.out hlt] at hly
        have hfl := fill_length (superP s j) 256 (by omega)
        have HLY := Lib.hid hly; have HFL := Lib.hid hfl; clear hly hpl hfl
        have hix := index7 a0 a1 a2 a3 a4 a5 a6 j hlt wr
        rw [HS.out] at hix
        generalize s.getD j 0 = x at *
        obtain ⟨m, rfl⟩ := Int.eq_ofNat_of_zero_le hx0
        rw [Int.toNat_natCast] at HLY
        go_wp2_with fail
        refine (write_any _ _ (4 + 8 * j) (252 - 8 * j) 8 m _ _ _ HC.out HBK.out (by decide) (by omega) (by rw [HFL.out]; omega) (by rw [HFL.out]; omega) (by omega)).mono ?_
        rintro e w3 ⟨rfl, hlf, hc3, hb3⟩
        rw [HLY.out] at hb3
        have HG3 := Lib.hid (hlf.new HG.out (by omega) (by omega)); have HC3 := Lib.hid hc3; have HB3 := Lib.hid hb3
        clear hlf hc3 hb3 hix
        go_wp2_with fail
        go_roundw
        case rel =>
          refine ⟨j + 1, by omega, by go_num, HG3.out, ?_, HB3.out⟩
          have h := HC3.out
          rwa [show 4 + 8 * j + 8 = 4 + 8 * (j + 1) from by omega, show 252 - 8 * j - 8 = 252 - 8 * (j + 1) from by omega] at h
        case measure => simp [intOf]; omega
      · obtain rfl : j = 7 := by omega
        have hbk := HBK.out
        rw [superP_all s HLEN.out] at hbk
        have HBL := Lib.hid hbk
        obtain ⟨sb, hasks, hleft⟩ := HT.out.asks HG.out (w.heap.size + 1 + 1)
        have HAS := Lib.hid hasks; have HLE := Lib.hid hleft
        have hblt := HT.out.lt
        clear hbk hasks hleft hpl
        go_wp2_with fail
        refine (seal_any b (w.heap.size + 1 + 1) sb (superB s) _ HAS.out HBL.out (by rw [superB_len s HLEN.out]; omega) (superB_lt s) (by omega)).mono ?_
        rintro e w3 ⟨rfl, hlf, hr3, hb3⟩
        have HG3 := Lib.hid (HLE.out _ hlf (by omega)); have HR3 := Lib.hid hr3; have HB3 := Lib.hid hb3
        clear hlf hr3 hb3
        go_wp2
        go_ret2
        refine ⟨HG3.out, .inl ⟨_, w.heap.size + 1 + 1, by first | exact HYES.out | (rw [HS.out]; exact HYES.out), ?_, by omega, HB3.out, frame_lt _ (superB_lt s), HR3.out⟩⟩
        rw [frame_length _ (by rw [superB_len s HLEN.out]; omega)]
        rfl

theorem put_super_any (b : Nat) (S : Option Nat) (a0 a1 a2 a3 a4 a5 a6 : Int) (w : World) (hT : TabS w b S) :
    Calls Try.prog 21 #[.pointer (some ⟨b, 0, none⟩), .agg #[.int .i64 a0, .int .i64 a1, .int .i64 a2, .int .i64 a3, .int .i64 a4, .int .i64 a5, .int .i64 a6]] w (Gives w S b (superW [a0, a1, a2, a3, a4, a5, a6])) :=
  (put_super_core b S a0 a1 a2 a3 a4 a5 a6 w hT).mono fun _ _ h => h.gives
theorem Gives.gave {w : World} {b : Nat} {o : Option (List Nat)} {e : Ending} {w' : World} (h : Gives w none b o e w') : Gave w 73 o e w' := by
  obtain ⟨hg, ⟨l, g, ho, he, hge, hb, hl, _⟩ | hn⟩ := h
  · exact ⟨hg, .inl ⟨l, g, ho, he, hge, hb, hl⟩⟩
  · exact ⟨hg, .inr hn⟩
theorem codec_put_super (b : Nat) (a0 a1 a2 a3 a4 a5 a6 : Int) (w : World) (hR : Ready w b) :
    Calls Try.prog 21 #[.pointer (some ⟨b, 0, none⟩), .agg #[.int .i64 a0, .int .i64 a1, .int .i64 a2, .int .i64 a3, .int .i64 a4, .int .i64 a5, .int .i64 a6]] w (Gave w 73 (superW [a0, a1, a2, a3, a4, a5, a6])) :=
  (put_super_any b none a0 a1 a2 a3 a4 a5 a6 w (.inl ⟨hR, rfl⟩)).mono fun _ _ h => h.gave
set_option maxRecDepth 100000 in
theorem codec_put_super_nil (a0 a1 a2 a3 a4 a5 a6 : Int) (w : World) :
    Calls Try.prog 21 #[.pointer none, .agg #[.int .i64 a0, .int .i64 a1, .int .i64 a2, .int .i64 a3, .int .i64 a4, .int .i64 a5, .int .i64 a6]] w (Gave w 73 none) := by
  go_enter Try.func21, Try.ntmps21
  go_wp2
  go_ret2
  exact ⟨(World.grownBy_alloc w _ none).trans (World.grownBy_alloc _ _ none), .inr ⟨rfl, rfl⟩⟩
end Go.Proofs.Ytagikgejhckfbaa.Codec
/- Superblocks on a disk in plain words: which may be on it; what Save and Load answer and leave. No program is named. -/
namespace Go.Proofs.Ytagikgejhckfbaa.Sup
open Go.RowKit CrcMath CodecMath Codec DiskSpec Dsk

/-- Does a superblock's pages and log stand on so many sectors? -/
def roomB (s : List Int) (n : Int) : Bool :=
  decide (16 ≤ s.getD 2 0) && (decide (s.getD 2 0 ≤ 1024) && (decide (2 + s.getD 2 0 ≤ s.getD 3 0) && (decide (64 ≤ s.getD 4 0) && (decide (s.getD 3 0 + s.getD 4 0 ≤ n) && decide (s.getD 5 0 < s.getD 4 0)))))
/-- May it be on a disk of so many sectors? -/
def mayB (s : List Int) (n : Int) : Bool := superOk s && roomB s n
def checkE (s : List Int) (n : Int) : Int := if mayB s n then 0 else 1
theorem superOk_none {s : List Int} (h : superW s = none) : superOk s = false := by
  cases hh : superOk s with
  | false => rfl
  | true => simp [superW, hh] at h
theorem superOk_no (s : List Int) (j : Nat) (hj : j < s.length) (h : inB (s.getD j 0) 1099511627776 = false) : superOk s = false := superOk_none (superW_no s j hj h)
theorem superOk_yes (s : List Int) (n : Nat) (hn : s.length = n) (h : ∀ j, j < n → inB (s.getD j 0) 1099511627776 = true) : superOk s = true := by
  cases hh : superOk s with
  | true => rfl
  | false => have := superW_yes s n hn h; simp [superW, hh] at this
theorem superOk_at {s : List Int} (h : superOk s = true) (j : Nat) (hj : j < s.length) : 0 ≤ s.getD j 0 ∧ s.getD j 0 ≤ 1099511627776 := by
  rw [superOk, List.all_eq_true] at h
  have := h (s.getD j 0) (by rw [List.getD_eq_getElem?_getD, List.getElem?_eq_getElem hj]; exact List.getElem_mem hj)
  exact inB_yes this
theorem mayB_ok {s : List Int} {n : Int} (h : mayB s n = true) : superOk s = true := by
  unfold mayB at h
  cases hh : superOk s with
  | true => rfl
  | false => simp [hh] at h
theorem superW_may {s : List Int} {n : Int} (h : mayB s n = true) : superW s = some (frame (superB s)) := by simp [superW, mayB_ok h]

/-! ### Save -/
def gen (s : List Int) : Int := s.getD 0 0
def saveE (S : St) (s : List Int) : Int × St := if mayB s S.n then writeE S true ((gen s).tmod 2) (frame (superB s)) else (1, S)

/-! ### Load -/
/-- Is a superblock sound at place i of n sectors? -/
def soundS (n : Int) (i : Int) (s : List Int) : Bool := mayB s n && decide ((gen s).tmod 2 = i)
/-- A sound superblock in bytes. -/
def sound (n : Int) (i : Int) (l : List Nat) : Option (List Int) := (superR l).filter (soundS n i)
theorem sound_def (n : Int) (i : Int) (l : List Nat) : sound n i l = (superR l).filter (soundS n i) := rfl
/-- The better of what was found and what is found now. -/
def newer (a b : Option (List Int)) : Option (List Int) :=
  match a, b with
  | a, none => a
  | none, some s => some s
  | some u, some s => if gen u < gen s then some s else some u
def bestOf (n : Int) (l0 l1 : List Nat) : Option (List Int) := newer (sound n 0 l0) (sound n 1 l1)
def zero7' : List Int := [0, 0, 0, 0, 0, 0, 0]
/-- Behind two reads: the disk. -/
def loadS (S : St) : St := (readE (readE S 0 1).2 1 1).2
def loadE (S : St) : Int :=
  if S.n < 2 then 1 else if (readE S 0 1).1 ≠ 0 ∨ (readE (readE S 0 1).2 1 1).1 ≠ 0 then 10
  else if (bestOf S.n (readL S 0 1) (readL (readE S 0 1).2 1 1)).isSome then 0 else 14
def loadV (S : St) : List Int :=
  if S.n < 2 then zero7' else if (readE S 0 1).1 ≠ 0 ∨ (readE (readE S 0 1).2 1 1).1 ≠ 0 then zero7'
  else (bestOf S.n (readL S 0 1) (readL (readE S 0 1).2 1 1)).getD zero7'
def loadT (S : St) : St := if S.n < 2 then S else loadS S
theorem soundS_true {n i : Int} {s : List Int} (h : soundS n i s = true) : mayB s n = true ∧ (gen s).tmod 2 = i := by
  rw [soundS, Bool.and_eq_true, decide_eq_true_eq] at h
  exact h
theorem sound_len {n i : Int} {l : List Nat} {s : List Int} (h : sound n i l = some s) : s.length = 7 ∧ superW s = some l ∧ mayB s n = true ∧ (gen s).tmod 2 = i := by
  rw [sound_def, Option.filter_eq_some_iff] at h
  obtain ⟨h1, h2⟩ := h
  obtain ⟨h3, h4⟩ := superR_some h1
  obtain ⟨h5, h6⟩ := soundS_true h2
  exact ⟨h4, h3, h5, h6⟩
theorem sound_of {n i : Int} {s : List Int} (hl : s.length = 7) (h : mayB s n = true) (hi : (gen s).tmod 2 = i) : sound n i (frame (superB s)) = some s := by
  rw [sound_def, Option.filter_eq_some_iff]
  refine ⟨superR_of hl (superW_may h), ?_⟩
  rw [soundS, h, hi]
  simp
theorem sound_no {n i : Int} {l : List Nat} (h : superR l = none) : sound n i l = none := by rw [sound_def, h]; rfl
theorem sound_yes {n i : Int} {l : List Nat} {s : List Int} (h : superR l = some s) : sound n i l = if soundS n i s then some s else none := by
  rw [sound_def, h]
  rfl
end Go.Proofs.Ytagikgejhckfbaa.Sup
/- The small calls of package super: mayBeWritten, hasRoom, place, Check. -/
namespace Go.Proofs.Ytagikgejhckfbaa.Sup
open Go.RowKit CrcMath CodecMath Mem Crc Codec

set_option maxRecDepth 100000 in
set_option maxHeartbeats 1600000 in
theorem may_any (a0 a1 a2 a3 a4 a5 a6 : Int) (w : World) :
    Calls Try.prog 17 #[.agg #[.int .i64 a0, .int .i64 a1, .int .i64 a2, .int .i64 a3, .int .i64 a4, .int .i64 a5, .int .i64 a6]] w fun e w' => e = .returned (.bool (superOk [a0, a1, a2, a3, a4, a5, a6])) ∧ w.grownBy w' none := by
  have HG0 := Lib.hid (World.grownBy_alloc w (.cells #[.int .i64 a0, .int .i64 a1, .int .i64 a2, .int .i64 a3, .int .i64 a4, .int .i64 a5, .int .i64 a6] 23) none)
  go_enter Try.func17, Try.ntmps17
  go_wp2_with fail
  generalize hs : [a0, a1, a2, a3, a4, a5, a6] = s
  have hlen : s.length = 7 := by subst hs; rfl
  have HLEN := Lib.hid hlen; have HS := Lib.hid hs; clear hlen hs
  go_loopw [4, 20] (fun _ i wr => ∃ j : Nat, j ≤ 7 ∧ i = .int .i64 j ∧ wr = w.alloc (.cells #[.int .i64 a0, .int .i64 a1, .int .i64 a2, .int .i64 a3, .int .i64 a4, .int .i64 a5, .int .i64 a6] 23) ∧ ∀ q, q < j → inB (s.getD q 0) 1099511627776 = true) (fun _ i _ => 7 - (intOf i).toNat)
  case atStart => exact ⟨0, by omega, rfl, rfl, fun q hq => by omega⟩
  case round =>
    obtain ⟨j, hj, rfl, rfl, hall⟩ := hrel
    have HALL := Lib.hid hall; clear hall
    by_cases hlt : j < 7
    · have hix := index7 a0 a1 a2 a3 a4 a5 a6 j hlt (w.alloc (.cells #[.int .i64 a0, .int .i64 a1, .int .i64 a2, .int .i64 a3, .int .i64 a4, .int .i64 a5, .int .i64 a6] 23))
      rw [HS.out] at hix
      have HX := Lib.hid (show s.getD j 0 = s.getD j 0 from rfl)
      generalize hx : s.getD j 0 = x at hix
      have HX := Lib.hid hx; clear hx
      by_cases h0 : x < 0
      · have HNO := Lib.hid (superOk_no s j (by rw [HLEN.out]; exact hlt) (by rw [HX.out]; exact inB_not (by omega)))
        go_wp2
        go_ret
        exact ⟨by rw [HS.out, HNO.out]; first | done | rfl, HG0.out⟩
      · by_cases h1 : 1099511627776 < x
        · have HNO := Lib.hid (superOk_no s j (by rw [HLEN.out]; exact hlt) (by rw [HX.out]; exact inB_not (by omega)))
          go_wp2
          go_ret
          exact ⟨by rw [HS.out, HNO.out]; first | done | rfl, HG0.out⟩
        · have HIN := Lib.hid (show inB (s.getD j 0) 1099511627776 = true from by rw [HX.out]; exact inB_mk (by omega))
          go_wp2
          go_roundw
          case rel =>
            refine ⟨j + 1, by omega, by go_num, by first | exact trivial | rfl, fun q hq => ?_⟩
            rcases Nat.lt_or_ge q j with h | h
            · exact HALL.out q h
            · obtain rfl : q = j := by omega
              exact HIN.out
          case measure => simp [intOf]; omega
    · obtain rfl : j = 7 := by omega
      have HY := Lib.hid (superOk_yes s 7 HLEN.out HALL.out)
      go_wp2
      go_ret
      exact ⟨by rw [HS.out, HY.out]; first | done | rfl, HG0.out⟩

set_option maxRecDepth 100000 in
set_option maxHeartbeats 1600000 in
theorem room_any (a0 a1 a2 a3 a4 a5 a6 n : Int) (w : World) (hok : superOk [a0, a1, a2, a3, a4, a5, a6] = true) :
    Calls Try.prog 18 #[.agg #[.int .i64 a0, .int .i64 a1, .int .i64 a2, .int .i64 a3, .int .i64 a4, .int .i64 a5, .int .i64 a6], .int .i64 n] w fun e w' => e = .returned (.bool (roomB [a0, a1, a2, a3, a4, a5, a6] n)) ∧ w.grownBy w' none := by
  have HG0 := Lib.hid (World.grownBy_alloc w (.cells #[.int .i64 a0, .int .i64 a1, .int .i64 a2, .int .i64 a3, .int .i64 a4, .int .i64 a5, .int .i64 a6] 23) none)
  have b2 : 0 ≤ a2 ∧ a2 ≤ 1099511627776 := superOk_at hok 2 (by simp)
  have b3 : 0 ≤ a3 ∧ a3 ≤ 1099511627776 := superOk_at hok 3 (by simp)
  have b4 : 0 ≤ a4 ∧ a4 ≤ 1099511627776 := superOk_at hok 4 (by simp)
  clear hok
  have hw1 : IntKind.i64.wrap (2 + a2) = 2 + a2 := IntWalk.i64_in _ (by omega)
  have hw2 : IntKind.i64.wrap (a3 + a4) = a3 + a4 := IntWalk.i64_in _ (by omega)
  have hr : roomB [a0, a1, a2, a3, a4, a5, a6] n = (decide (16 ≤ a2) && (decide (a2 ≤ 1024) && (decide (2 + a2 ≤ a3) && (decide (64 ≤ a4) && (decide (a3 + a4 ≤ n) && decide (a5 < a4)))))) := rfl
  generalize roomB [a0, a1, a2, a3, a4, a5, a6] n = r at *
  clear b2 b3 b4
  by_cases h1 : 16 ≤ a2
  · by_cases h2 : a2 ≤ 1024
    · by_cases h3 : 2 + a2 ≤ a3
      · by_cases h4 : 64 ≤ a4
        · by_cases h5 : a3 + a4 ≤ n
          · have HR := Lib.hid (show r = decide (a5 < a4) by simp [hr, h1, h2, h3, h4, h5]); clear hr
            go_enter Try.func18, Try.ntmps18
            go_wp2
            go_ret
            exact ⟨by rw [HR.out]; first | done | rfl, HG0.out⟩
          · have HR := Lib.hid (show r = false by simp [hr, h5]); clear hr
            go_enter Try.func18, Try.ntmps18
            go_wp2
            go_ret
            exact ⟨by rw [HR.out]; first | done | rfl, HG0.out⟩
        · have HR := Lib.hid (show r = false by simp [hr, h4]); clear hr
          go_enter Try.func18, Try.ntmps18
          go_wp2
          go_ret
          exact ⟨by rw [HR.out]; first | done | rfl, HG0.out⟩
      · have HR := Lib.hid (show r = false by simp [hr, h3]); clear hr
        go_enter Try.func18, Try.ntmps18
        go_wp2
        go_ret
        exact ⟨by rw [HR.out]; first | done | rfl, HG0.out⟩
    · have HR := Lib.hid (show r = false by simp [hr, h2]); clear hr
      go_enter Try.func18, Try.ntmps18
      go_wp2
      go_ret
      exact ⟨by rw [HR.out]; first | done | rfl, HG0.out⟩
  · have HR := Lib.hid (show r = false by simp [hr, h1]); clear hr
    go_enter Try.func18, Try.ntmps18
    go_wp2
    go_ret
    exact ⟨by rw [HR.out]; first | done | rfl, HG0.out⟩

set_option maxHeartbeats 800000 in
theorem place_any (a0 a1 a2 a3 a4 a5 a6 : Int) (w : World) :
    Calls Try.prog 22 #[.agg #[.int .i64 a0, .int .i64 a1, .int .i64 a2, .int .i64 a3, .int .i64 a4, .int .i64 a5, .int .i64 a6]] w fun e w' => e = .returned (.int .i64 (a0.tmod 2)) ∧ w.grownBy w' none := by
  have HG0 := Lib.hid (World.grownBy_alloc w (.cells #[.int .i64 a0, .int .i64 a1, .int .i64 a2, .int .i64 a3, .int .i64 a4, .int .i64 a5, .int .i64 a6] 23) none)
  go_enter Try.func22, Try.ntmps22
  go_wp2
  go_ret
  exact ⟨rfl, HG0.out⟩

set_option maxRecDepth 100000 in
set_option maxHeartbeats 1600000 in
theorem check_any (a0 a1 a2 a3 a4 a5 a6 n : Int) (w : World) :
    Calls Try.prog 6 #[.agg #[.int .i64 a0, .int .i64 a1, .int .i64 a2, .int .i64 a3, .int .i64 a4, .int .i64 a5, .int .i64 a6], .int .i64 n] w fun e w' => e = .returned (.int .i64 (checkE [a0, a1, a2, a3, a4, a5, a6] n)) ∧ w.grownBy w' none := by
  have hb := Blk.new w 23 #[.int .i64 a0, .int .i64 a1, .int .i64 a2, .int .i64 a3, .int .i64 a4, .int .i64 a5, .int .i64 a6]
  have HG0 := Lib.hid (World.grownBy_alloc w (.cells #[.int .i64 a0, .int .i64 a1, .int .i64 a2, .int .i64 a3, .int .i64 a4, .int .i64 a5, .int .i64 a6] 23) none)
  have HB := Lib.hid hb; clear hb
  cases hok : superOk [a0, a1, a2, a3, a4, a5, a6] with
  | false =>
    have HM := Lib.hid (show checkE [a0, a1, a2, a3, a4, a5, a6] n = 1 by simp [checkE, mayB, hok])
    have HOK := Lib.hid hok; clear hok
    go_enter Try.func6, Try.ntmps6
    go_wp2_with fail
    refine (may_any a0 a1 a2 a3 a4 a5 a6 _).mono ?_
    rintro e w1 ⟨rfl, hg1⟩
    have HG1 := Lib.hid (HG0.out.trans hg1); clear hg1
    rw [HOK.out]
    go_wp2
    go_ret
    exact ⟨by rw [HM.out]; first | done | rfl, HG1.out⟩
  | true =>
    have HROOM := Lib.hid (fun wx => room_any a0 a1 a2 a3 a4 a5 a6 n wx hok)
    have hm : checkE [a0, a1, a2, a3, a4, a5, a6] n = if roomB [a0, a1, a2, a3, a4, a5, a6] n then 0 else 1 := by simp [checkE, mayB, hok]
    have HOK := Lib.hid hok; have HM := Lib.hid hm; clear hok hm
    generalize roomB [a0, a1, a2, a3, a4, a5, a6] n = r at *
    go_enter Try.func6, Try.ntmps6
    go_wp2_with fail
    refine (may_any a0 a1 a2 a3 a4 a5 a6 _).mono ?_
    rintro e w1 ⟨rfl, hg1⟩
    have HG1 := Lib.hid (HG0.out.trans hg1)
    have hb1 := HB.out.grown hg1 (by simp)
    have x0 := hb1.cell 0; have x1 := hb1.cell 1; have x2 := hb1.cell 2; have x3 := hb1.cell 3; have x4 := hb1.cell 4; have x5 := hb1.cell 5; have x6 := hb1.cell 6
    simp only [List.getElem?_toArray, List.getElem?_cons_zero, List.getElem?_cons_succ] at x0 x1 x2 x3 x4 x5 x6
    clear hg1 hb1
    rw [HOK.out]
    go_wp2_with fail
    refine (HROOM.out _).mono ?_
    rintro e w2 ⟨rfl, hg2⟩
    have HG2 := Lib.hid (HG1.out.trans hg2); clear hg2 x0 x1 x2 x3 x4 x5 x6
    cases r with
    | false =>
      go_wp2
      go_ret
      exact ⟨by rw [HM.out]; first | done | rfl, HG2.out⟩
    | true =>
      go_wp2
      go_ret
      exact ⟨by rw [HM.out]; first | done | rfl, HG2.out⟩
end Go.Proofs.Ytagikgejhckfbaa.Sup
/- A map from whole numbers to values of one cell, in a block: told by a function of the key. No program's function is named. -/
namespace Go.Proofs.Ytagikgejhckfbaa.Mem
open Go.RowKit Go.Maps Go.ChangeMaps Go.MapKept

/-- An element's value is told as it is. -/
def heldR (v : Value) : Option (DataW Value × List MemPlace) := some (.held v, [])
/-- Key k. -/
abbrev keyL (k : Nat) : Lit := .int .i64 (k : Nat)
def entriesOf : DataW Value → List (Lit × DataW Value)
  | .map es => es
  | _ => []
/-- Block b is a map with keys below n: at key k there is f k, if anything. -/
def MapIs (P : Program) (K : TypeId) (w : World) (b n : Nat) (f : Nat → Option Value) : Prop :=
  ∃ D : DataW Value, w.ownsMap P K heldR b (Maps.size D) D ∧ (∀ k z, D.atKey (keyL k) z = match f k with | some v => .held v | none => z) ∧ (∀ p ∈ entriesOf D, ∃ k, k < n ∧ p.1 = keyL k)

section
variable {P : Program} {K : TypeId} {w w' : World} {b n : Nat} {f : Nat → Option Value}

theorem owns_tight {D : DataW Value} {m : Nat} (h : w.ownsMap P K heldR b m D) : w.ownsMap P K heldR b (Maps.size D) D := by
  obtain ⟨es, clock, hb, F, hs, rfl⟩ := h
  exact ⟨es, clock, hb, F, by simp [Maps.size, length_sorted], rfl⟩
theorem keyL_inj {a c : Nat} (h : keyL a = keyL c) : a = c := by
  simp only [keyL, Lit.int.injEq, true_and] at h
  omega
theorem keyL_ne {a c : Nat} (h : a ≠ c) : keyL a ≠ keyL c := fun e => h (keyL_inj e)
theorem keyL_is (k : Nat) : WideAt.IsKeyLit (keyL k) := trivial

theorem MapIs.lt (h : MapIs P K w b n f) : b < w.heap.size := let ⟨_, h, _⟩ := h; h.lt
theorem MapIs.of_block (h : MapIs P K w b n f) (hb : w'.heap[b]? = w.heap[b]?) : MapIs P K w' b n f := by
  obtain ⟨D, ⟨es, clock, h1, h2⟩, h3⟩ := h
  exact ⟨D, ⟨es, clock, hb.trans h1, h2⟩, h3⟩
theorem MapIs.made (w : World) (P : Program) (K : TypeId) (n : Nat) : MapIs P K (w.alloc (.map #[] 0)) w.heap.size n (fun _ => none) :=
  ⟨.map [], World.ownsMap_made w P K heldR, fun _ _ => rfl, fun p hp => by cases hp⟩

/-- The keys that stand in the map. -/
theorem MapIs.keys_perm {D : DataW Value} (ht : Tidy D) (ha : ∀ k z, D.atKey (keyL k) z = match f k with | some v => .held v | none => z) (he : ∀ p ∈ entriesOf D, ∃ k, k < n ∧ p.1 = keyL k) :
    (intKeys D).Perm (((List.range n).filter fun k => (f k).isSome).map fun k => ((k : Nat) : Int)) := by
  obtain ⟨es, rfl, hp⟩ := ht
  have he' : ∀ p ∈ es, ∃ k, k < n ∧ p.1 = keyL k := he
  have hnd : (intKeys (.map es : DataW Value)).Nodup := by
    show (es.map fun p => intOf p.1).Nodup
    rw [List.Nodup, List.pairwise_map]
    refine List.Pairwise.imp_of_mem ?_ hp
    intro p q hp1 hq1 hne e
    obtain ⟨k, _, h1⟩ := he' p hp1
    obtain ⟨j, _, h2⟩ := he' q hq1
    rw [h1, h2] at e hne
    simp only [intOf] at e
    exact hne (by rw [show k = j by omega])
  have hnd2 : (((List.range n).filter fun k => (f k).isSome).map fun k => ((k : Nat) : Int)).Nodup := by
    rw [List.Nodup, List.pairwise_map]
    exact (List.Pairwise.filter _ List.nodup_range).imp (fun h e => h (by omega))
  refine (List.perm_ext_iff_of_nodup hnd hnd2).2 fun z => ?_
  constructor
  · intro hz
    obtain ⟨p, hp1, rfl⟩ := List.mem_map.1 (show z ∈ es.map fun p => intOf p.1 from hz)
    obtain ⟨k, hk, h1⟩ := he' p hp1
    refine List.mem_map.2 ⟨k, List.mem_filter.2 ⟨by simpa using hk, ?_⟩, by rw [h1]; rfl⟩
    cases hf : f k with
    | some v => rfl
    | none =>
      have hh : has (.map es : DataW Value) (keyL k) = false := has_false_of_atKey (fun z => by rw [ha, hf])
      have := List.any_eq_false.1 hh p hp1
      rw [h1, WideAt.sameKey_self (keyL_is k)] at this
      simp at this
  · intro hz
    obtain ⟨k, hk, rfl⟩ := List.mem_map.1 hz
    obtain ⟨hkn, hks⟩ := List.mem_filter.1 hk
    obtain ⟨v, hv⟩ := Option.isSome_iff_exists.1 hks
    have hh : has (.map es : DataW Value) (keyL k) = true := has_true_of_atKey (y := .held v) (fun z => by rw [ha, hv])
    obtain ⟨p, hp1, hp2⟩ := List.any_eq_true.1 hh
    have e := WideAt.sameKey_eq hp2
    exact List.mem_map.2 ⟨p, hp1, by rw [e]; rfl⟩

theorem size_keys {D : DataW Value} : (intKeys D).length = Maps.size D := by
  cases D <;> simp [intKeys, Maps.size]

theorem MapIs.size_le {D : DataW Value} (ht : Tidy D) (ha : ∀ k z, D.atKey (keyL k) z = match f k with | some v => .held v | none => z) (he : ∀ p ∈ entriesOf D, ∃ k, k < n ∧ p.1 = keyL k) : Maps.size D ≤ n := by
  rw [← size_keys, (MapIs.keys_perm ht ha he).length_eq, List.length_map]
  exact Nat.le_trans (List.length_filter_le _ _) (by simp)

variable {t E : TypeId}

/-- 'm[k]'. -/
theorem MapIs.look (h : MapIs P K w b n f) (hK : P.underlying K = some (.int .i64)) (ht : P.underlying t = some (.map K E)) {z : Value} (hz : (zeroValue E).run P w = .ok z w) (k : Nat) (hk : k < 9223372036854775808) :
    (Instr.lookup t (.map (some b)) (.int .i64 (k : Nat)) false).run P w = .ok ((f k).getD z) w := by
  obtain ⟨D, hown, ha, he⟩ := h
  have hkey : keyOf P K (.int .i64 (k : Nat)) = some (keyL k) := keyOf_int_mk hK (by simp [Lit.wf, IntKind.min, IntKind.max, IntKind.signed, IntKind.bits]; omega)
  obtain ⟨v, ps, hrun, hv⟩ := hown.lookup (int_keyed hK) ht hz (zd := .held z) (zp := []) rfl hkey
  rw [ha] at hv
  rw [hrun]
  cases hf : f k <;> simp [hf, heldR] at hv <;> simp [hv]

/-- 'm[k] = v'. -/
theorem MapIs.store (h : MapIs P K w b n f) (hK : P.underlying K = some (.int .i64)) (ht : P.underlying t = some (.map K E)) (k : Nat) (hk : k < n) (hn : n < 9223372036854775807) (hn2 : n < maxLen) (v : Value) :
    ∃ w', (Instr.mapUpdate t (.map (some b)) (.int .i64 (k : Nat)) v).run P w = .ok () w' ∧ MapIs P K w' b n (fun j => if j = k then some v else f j) ∧ w.grownBy w' (some b) := by
  obtain ⟨D, hown, ha, he⟩ := h
  have hkey : keyOf P K (.int .i64 (k : Nat)) = some (keyL k) := keyOf_int_mk hK (by simp [Lit.wf, IntKind.min, IntKind.max, IntKind.signed, IntKind.bits]; omega)
  have htd := hown.tidy (int_keyed hK)
  have hsz := MapIs.size_le htd ha he
  obtain ⟨w', hrun, h1, h2⟩ := hown.update (int_keyed hK) ht (by omega) (d := .held v) (ps := []) hkey (show heldR v = _ from rfl)
  refine ⟨w', hrun, ⟨_, owns_tight h1, fun j z => ?_, fun p hp => ?_⟩, h2⟩
  · by_cases e : j = k
    · subst e
      rw [atKey_put_same htd.isMap (keyL_is j)]
      simp
    · rw [atKey_put_other (keyL_ne e), ha]
      simp [e]
  · obtain ⟨es, rfl, _⟩ := htd
    have hp' : p ∈ DataW.insert (keyL k, .held v) (es.filter fun p => !p.1.sameKey (keyL k)) := hp
    rcases mem_insert_iff.1 hp' with rfl | hp'
    · exact ⟨k, hk, rfl⟩
    · exact he p (List.mem_filter.1 hp').1

/-- 'delete(m, k)'. -/
theorem MapIs.drop (h : MapIs P K w b n f) (hK : P.underlying K = some (.int .i64)) (ht : P.underlying t = some (.map K E)) (k : Nat) (hk : k < 9223372036854775808) (ty : TypeId) :
    ∃ w', (Builtin.delete_ #[t, K] ty #[.map (some b), .int .i64 (k : Nat)]).run P w = .ok (.tuple #[]) w' ∧ MapIs P K w' b n (fun j => if j = k then none else f j) ∧ w.grownBy w' (some b) := by
  obtain ⟨D, hown, ha, he⟩ := h
  have hkey : keyOf P K (.int .i64 (k : Nat)) = some (keyL k) := keyOf_int_mk hK (by simp [Lit.wf, IntKind.min, IntKind.max, IntKind.signed, IntKind.bits]; omega)
  have htd := hown.tidy (int_keyed hK)
  obtain ⟨w', hrun, h1, h2⟩ := hown.drop (int_keyed hK) ht hkey ty
  refine ⟨w', hrun, ⟨_, owns_tight h1, fun j z => ?_, fun p hp => ?_⟩, h2.grown⟩
  · by_cases e : j = k
    · subst e
      rw [atKey_del_same]
      simp
    · rw [atKey_del_other (keyL_ne e), ha]
      simp [e]
  · obtain ⟨es, rfl, _⟩ := htd
    have hp' : p ∈ es.filter fun p => !p.1.sameKey (keyL k) := hp
    exact he p (List.mem_filter.1 hp').1

/-- 'clear(m)'. -/
theorem MapIs.clear (h : MapIs P K w b n f) (ht : P.underlying t = some (.map K E)) (ty : TypeId) :
    ∃ w', (Builtin.clear_ #[t] ty #[.map (some b)]).run P w = .ok (.tuple #[]) w' ∧ MapIs P K w' b n (fun _ => none) ∧ w.grownBy w' (some b) := by
  obtain ⟨D, ⟨es, clock, hb, F, _⟩, ha, he⟩ := h
  refine ⟨setBlock w b (.map #[] clock), ?_, ⟨.map [], ⟨#[], clock, heap_setBlock_same hb _, ⟨by simp, stamped_empty clock, by simp⟩, Nat.le_refl _, rfl⟩, fun _ _ => rfl, fun p hp => by cases hp⟩,
    ⟨rfl, rfl, rfl, by simp [setBlock], fun i _ hi => heap_setBlock_other hb _ (fun e => hi (by rw [e]))⟩⟩
  simp [Builtin.clear_, run_underlying ht, MapKept.run_getObj_map hb, MapKept.run_setObj_map _ hb, Result.andThen, setBlock]
end
end Go.Proofs.Ytagikgejhckfbaa.Mem
