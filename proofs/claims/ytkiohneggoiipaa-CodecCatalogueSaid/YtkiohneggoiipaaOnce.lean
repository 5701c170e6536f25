/- sync.Once in a table, one goroutine: asked for the first time it fills the table; asked again it does nothing. -/
import Derived.Test.YtkiohneggoiipaaCrcFill
import Derived.Test.YtkiohneggoiipaaOnceParts
namespace Go.Proofs.Ytkiohneggoiipaa.Crc
open Go.RowKit CrcMath Mem
open Go.MuLone

/-- A table that nobody has asked; one whose numbers are laid. -/
def FreshC (cs : Array Value) : Prop := cs.size = 259 ∧ cs[0]? = some (.int .u32 0) ∧ cs[1]? = some (.int .i32 0)
def ReadyC (cs : Array Value) : Prop := cs.size = 259 ∧ cs[0]? = some (.int .u32 1) ∧ ∀ i, i < 256 → cs[3 + i]? = some (.int .u32 (Lk 8 i : Nat))
def Fresh (w : World) (b : Nat) : Prop := ∃ cs, Blk w b 104 cs ∧ FreshC cs
def Ready (w : World) (b : Nat) : Prop := ∃ cs, Blk w b 104 cs ∧ ReadyC cs

theorem ready_of_fresh {cs : Array Value} (h : FreshC cs) : ReadyC (((laid (cs.setIfInBounds 1 (.int .i32 1)) 256).setIfInBounds 0 (.int .u32 1)).setIfInBounds 1 (.int .i32 0)) := by
  obtain ⟨hs, _, _⟩ := h
  refine ⟨by simp [laid_size, hs], ?_, fun i hi => ?_⟩
  · rw [Array.getElem?_setIfInBounds_ne (by omega), Array.getElem?_setIfInBounds_self_of_lt (by rw [laid_size]; simp; omega)]
  · rw [Array.getElem?_setIfInBounds_ne (by omega), Array.getElem?_setIfInBounds_ne (by omega), laid_at _ (by simpa using hs) 256 i (by omega) hi]

set_option maxRecDepth 100000 in
set_option maxHeartbeats 1600000 in
theorem slow_any (b : Nat) (cs : Array Value) (w : World) (hb : Blk w b 104 cs) (hf : FreshC cs) :
    Calls Try.prog 86 #[.pointer (some ⟨b, 0, none⟩), .func (.func 83) #[.pointer (some ⟨b, 0, none⟩)] #[]] w fun e w' => e = .returned (.tuple #[]) ∧ (w.grownBy w' (some b) ∧ Ready w' b) := by
  have hf' := hf
  obtain ⟨hs, c0, c1⟩ := hf
  have h0 : w.cell? ⟨b, 0, none⟩ = some (.int .u32 0) := by rw [hb.cell]; exact c0
  have h1 : w.cell? ⟨b, 1, none⟩ = some (.int .i32 0) := by rw [hb.cell]; exact c1
  have f1 : w.frozen? ⟨b, 1, none⟩ = false := hb.frozen 1
  have hb1 := hb.set_ 1 (.int .i32 1)
  have hs1 : (cs.setIfInBounds 1 (Value.int .i32 1)).size = 259 := by simpa using hs
  have hl := run_call_load (P := Try.prog) Try.func88 (by kernel_rfl) (by kernel_rfl) (by kernel_rfl) .u32 (by kernel_rfl) (w := w.setCell ⟨b, 1, none⟩ (.int .i32 1)) (a := ⟨b, 0, none⟩) (x := 0) ((World.cell?_setCell_other _ ⟨b, 1, none⟩ ⟨b, 0, none⟩ _ (by simp)).trans h0)
  have hnot : ∀ (x : Bool) (w : World), (Op.unary .not (.bool x)).run Try.prog w = .ok (.bool (!x)) w := fun _ _ => rfl
  have HB := Lib.hid hb; have HS := Lib.hid hs1; have HB1 := Lib.hid hb1; have HF := Lib.hid hf'
  clear hb hs1 hb1 hf' c0 c1 hs
  go_enter_defers Try.func86, Try.ntmps86
  go_wp2_with (go_at_call 89; refine (lock_free Try.muLib ⟨b, 1, none⟩ _ h1 f1).mono ?_; rintro e w' ⟨rfl, rfl⟩)
  go_wp2_with (first
    | (go_at_call 83; refine (fill_any b _ _ HB1.out HS.out).mono ?_; rintro e w1 ⟨rfl, hg1, hk1⟩)
    | (go_at_call 85; go_in))
  have hk0 := laid_low (cs.setIfInBounds 1 (.int .i32 1)) 256 0 (by omega)
  have hk01 := laid_low (cs.setIfInBounds 1 (.int .i32 1)) 256 1 (by omega)
  rw [Array.getElem?_setIfInBounds_ne (by omega)] at hk0
  rw [Array.getElem?_setIfInBounds_self_of_lt (by have := HF.out.1; omega)] at hk01
  refine leaves_cons (f := 91) (args := #[.pointer (some ⟨b, 0, none⟩), .bool true]) (by simp) (by simp [go_sem]) ?_
  refine (Once.store_deferred ⟨b, 0, none⟩ (.int .u32 0) .returning _ ?_ (hk1.frozen 0)).mono ?_
  · rw [hk1.cell, hk0]; exact HF.out.2.1
  rintro e u' w'' ⟨rfl, rfl, rfl⟩
  refine leaves_cons (f := 90) (args := #[.pointer (some ⟨b, 1, none⟩)]) (by simp [settle]) (by simp [go_sem]) ?_
  have hk2 := (hk1.drew).set_ 0 (.int .u32 1)
  refine (unlock_deferred Try.muLib ⟨b, 1, none⟩ _ _ ?_ (hk2.frozen 1)).mono ?_
  · rw [hk2.cell, Array.getElem?_setIfInBounds_ne (by omega), hk01]
  rintro e u' w'' ⟨rfl, rfl, rfl⟩
  refine ⟨_, results_none rfl _ _ _, rfl, ?_, _, hk2.set_ 1 (.int .i32 0), ready_of_fresh HF.out⟩
  exact only_set (only_set (only_drew (World.grownBy.trans (only_set (World.grownBy.refl w (some b)) 1 (.int .i32 1)) hg1)) _ _) _ _

set_option maxRecDepth 100000 in
set_option maxHeartbeats 800000 in
theorem do_fresh (b : Nat) (cs : Array Value) (w : World) (hb : Blk w b 104 cs) (hf : FreshC cs) :
    Calls Try.prog 82 #[.pointer (some ⟨b, 0, none⟩), .func (.func 83) #[.pointer (some ⟨b, 0, none⟩)] #[]] w fun e w' => e = .returned (.tuple #[]) ∧ (w.grownBy w' (some b) ∧ Ready w' b) := by
  have h0 : w.cell? ⟨b, 0, none⟩ = some (.int .u32 0) := by rw [hb.cell]; exact hf.2.1
  have hl := run_call_load (P := Try.prog) Try.func88 (by kernel_rfl) (by kernel_rfl) (by kernel_rfl) .u32 (by kernel_rfl) h0
  have hnot : ∀ (x : Bool) (w : World), (Op.unary .not (.bool x)).run Try.prog w = .ok (.bool (!x)) w := fun _ _ => rfl
  have HB := Lib.hid hb; have HF := Lib.hid hf
  clear hb hf
  go_enter Try.func82, Try.ntmps82
  go_wp2_with (first
    | (go_at_call 86; refine (slow_any b cs _ HB.out HF.out).mono ?_; rintro e w1 ⟨rfl, hq⟩)
    | (go_at_call 85; go_in))
  go_end0
  exact ⟨rfl, hq⟩

set_option maxHeartbeats 800000 in
theorem do_ready (b : Nat) (cs : Array Value) (fv : Value) (w : World) (hb : Blk w b 104 cs) (hf : ReadyC cs) :
    Calls Try.prog 82 #[.pointer (some ⟨b, 0, none⟩), fv] w fun e w' => e = .returned (.tuple #[]) ∧ w = w' := by
  have h0 : w.cell? ⟨b, 0, none⟩ = some (.int .u32 1) := by rw [hb.cell]; exact hf.2.1
  have hl := run_call_load (P := Try.prog) Try.func88 (by kernel_rfl) (by kernel_rfl) (by kernel_rfl) .u32 (by kernel_rfl) h0
  have hnot : ∀ (x : Bool) (w : World), (Op.unary .not (.bool x)).run Try.prog w = .ok (.bool (!x)) w := fun _ _ => rfl
  clear hb hf
  go_enter Try.func82, Try.ntmps82
  go_wp2
  go_end0
  exact ⟨rfl, rfl⟩

/-- A table, asked or not: Do leaves its numbers laid. -/
def Tab (w : World) (b : Nat) : Prop := Fresh w b ∨ Ready w b
/-- What asking a table leaves: nothing is turned but the table, whose numbers are laid; and where they were laid, nothing at all. -/
def After (w : World) (b : Nat) (w' : World) : Prop := w.grownBy w' (some b) ∧ Ready w' b ∧ (Ready w b → w' = w)
theorem do_any (b : Nat) (w : World) (h : Tab w b) :
    Calls Try.prog 82 #[.pointer (some ⟨b, 0, none⟩), .func (.func 83) #[.pointer (some ⟨b, 0, none⟩)] #[]] w fun e w' => e = .returned (.tuple #[]) ∧ After w b w' := by
  rcases h with ⟨cs, hb, hf⟩ | ⟨cs, hb, hf⟩
  · refine (do_fresh b cs w hb hf).mono ?_
    rintro e w' ⟨he, hg, hr⟩
    refine ⟨he, hg, hr, ?_⟩
    rintro ⟨cs', hb', hf'⟩
    have e1 : cs = cs' := by have := hb.symm.trans hb'; simpa using this
    subst e1
    have := hf.2.1.symm.trans hf'.2.1
    simp at this
  · exact (do_ready b cs _ w hb hf).mono (by rintro e w' ⟨rfl, rfl⟩; exact ⟨rfl, World.grownBy.refl _ _, ⟨cs, hb, hf⟩, fun _ => rfl⟩)
end Go.Proofs.Ytkiohneggoiipaa.Crc
