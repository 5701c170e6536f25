/- A set of pages as words in memory: each of the project's calls over it. -/
import Derived.Test.YtldbfhgkicphkaaDoorAlcFns
import Derived.Test.YtldbfhgkicphkaaDoorOwn
import Derived.LoopTactic
import Derived.RegionTactic
import Derived.Deep.RegionWith
import Derived.Deep.QuietTactic
import Derived.Deep.OwnRows
namespace Go.Proofs.YtldbfhgkicphkaaDoor.Alc
open Go.RowKit Mem AlcBits
set_option linter.unusedVariables false
set_option linter.unusedSimpArgs false

/-- The words of a set, m of them. -/
def wds (F : Nat → Bool) (m : Nat) : Array Value := ((List.range m).map fun i => Value.int .u64 ((wd F i : Nat) : Int)).toArray
theorem wds_size (F : Nat → Bool) (m : Nat) : (wds F m).size = m := by simp [wds]
theorem wds_at {F : Nat → Bool} {m i : Nat} (h : i < m) : (wds F m)[i]? = some (.int .u64 ((wd F i : Nat) : Int)) := by
  simp [wds, h]
theorem wds_ext {F G : Nat → Bool} {m : Nat} (h : ∀ i, i < m → wd F i = wd G i) : wds F m = wds G m := by
  unfold wds
  congr 1
  refine List.map_congr_left fun i hi => ?_
  rw [h i (by simpa using hi)]
theorem wds_congr {F G : Nat → Bool} {m : Nat} (h : ∀ p, p < 64 * m → F p = G p) : wds F m = wds G m :=
  wds_ext fun i hi => wd_congr fun j hj => h _ (by omega)
theorem wds_set (F G : Nat → Bool) (m k : Nat) (hk : k < m) (h : ∀ i, i < m → i ≠ k → wd F i = wd G i) : (wds F m).setIfInBounds k (.int .u64 ((wd G k : Nat) : Int)) = wds G m := by
  apply Array.ext_getElem?
  intro i
  by_cases hi : i = k
  · subst hi
    rw [Array.getElem?_setIfInBounds_self_of_lt (by rw [wds_size]; exact hk), wds_at hk]
  · rw [Array.getElem?_setIfInBounds_ne (by omega)]
    by_cases hm : i < m
    · rw [wds_at hm, wds_at hm, h i hm hi]
    · rw [Array.getElem?_eq_none (by rw [wds_size]; omega), Array.getElem?_eq_none (by rw [wds_size]; omega)]
theorem wds_ins {F : Nat → Bool} {m p : Nat} (hp : p / 64 < m) : (wds F m).setIfInBounds (p / 64) (.int .u64 ((wd (ins F p) (p / 64) : Nat) : Int)) = wds (ins F p) m :=
  wds_set F _ m _ hp fun i _ h => (wd_ins_else F p i h).symm
theorem wds_del {F : Nat → Bool} {m p : Nat} (hp : p / 64 < m) : (wds F m).setIfInBounds (p / 64) (.int .u64 ((wd (del F p) (p / 64) : Nat) : Int)) = wds (del F p) m :=
  wds_set F _ m _ hp fun i _ h => (wd_del_else F p i h).symm
theorem wds_none (m : Nat) : wds (fun _ => false) m = ((List.range m).map fun _ => Value.int .u64 0).toArray := by
  unfold wds
  congr 1

/-- A set in memory: block g. -/
abbrev SetAt (w : World) (g : Nat) (F : Nat → Bool) (m : Nat) : Prop := Blk w g 55 (wds F m)

theorem made_row (z : Value) (n : Nat) : madeCells #[z] n = (List.replicate n z).toArray := by
  refine Array.ext (by simp [size_madeCells]) (fun i h1 h2 => ?_)
  simp [madeCells, Nat.mod_one]
theorem wds_zero (m : Nat) : wds (fun _ => false) m = (List.replicate m (Value.int .u64 0)).toArray := by
  rw [wds_none, List.map_const', List.length_range]
theorem word_info : (Tryd.prog.info? 55).map (fun i => (i.zero, i.size, i.bytes)) = some (some (Value.int .u64 0), 1, 8) := by kernel_rfl
theorem run_words (m : Nat) (h : m ≤ 16) (w : World) : (Instr.makeSlice 44 (.int .i64 m) (.int .i64 m)).run Tryd.prog w = .ok (.slice (some ⟨w.heap.size, 0, none⟩) m m) (w.alloc (.cells (wds (fun _ => false) m) 55)) := by
  rw [run_make_row' (P := Tryd.prog) 44 55 _ 8 Tryd.underlying44 word_info rfl .i64 .i64 m (by omega) (by omega), made_row, wds_zero]

section
variable {w : World} {g m p : Nat} {F G : Nat → Bool}
set_option maxHeartbeats 1000000 in
theorem newSet_call (n m : Nat) (w : World) (hn : n ≤ 1024) (hm : m = (n + 63) / 64) :
    Calls Tryd.prog 28 #[.int .i64 n] w fun e w' => e = .returned (.slice (some ⟨w.heap.size, 0, none⟩) m m) ∧ w' = w.alloc (.cells (wds (fun _ => false) m) 55) := by
  have hmk := run_words m (by omega)
  have hq : ((n : Int) + 64 - 1) / 64 = (m : Int) := by omega
  clear hm
  go_enter Tryd.func28, Tryd.ntmps28
  go_wp2
  go_ret
  exact ⟨rfl, rfl⟩
set_option maxHeartbeats 1000000 in
theorem has_call (hb : SetAt w g F m) (hm : m ≤ 16) (hp : p / 64 < m) :
    Calls Tryd.prog 34 #[.slice (some ⟨g, 0, none⟩) m m, .int .i64 p] w fun e w' => e = .returned (.bool (F p)) ∧ ∃ n, w' = w.drewN n := by
  have hc : w.cell? ⟨g, p / 64, none⟩ = some (.int .u64 ((wd F (p / 64) : Nat) : Int)) := by rw [hb.cell, wds_at hp]
  have hand : bits .and .u64 ((wd F (p / 64) : Nat) : Int) ((2 ^ (p % 64) : Nat) : Int) = ((wd F (p / 64) &&& 2 ^ (p % 64) : Nat) : Int) := u64_and_nat _ _ (wd_lt _ _) (bit_lt p)
  have hres : (((wd F (p / 64) &&& 2 ^ (p % 64) : Nat) : Int) != 0) = F p := by
    have := wd_has F p
    cases hF : F p <;> rw [hF] at this <;> simp at this ⊢ <;> omega
  have hbit := fun w => bit_call p w
  generalize F p = r at hres ⊢
  generalize wd F (p / 64) = x at hc hand hres
  generalize 2 ^ (p % 64) = y at hand hres hbit
  generalize x &&& y = z at hand hres
  obtain ⟨k, hk⟩ : ∃ k, p / 64 = k := ⟨_, rfl⟩
  have hq : (p : Int) / 64 = (k : Int) := by omega
  rw [hk] at hc hp
  have h0 : (0 : Int) ≤ k := by omega
  have h1 : (k : Int) < m := by omega
  have hkw : IntKind.i64.wrap (k : Int) = k := wrap_i64n (by omega)
  have HB := Lib.hid hbit; clear hbit hb hk
  go_enter Tryd.func34, Tryd.ntmps34
  go_wp2_with fail
  go_quiet ((go_at_call 39; exact Calls.quiet_of_same (HB.out _)))
  go_wp2
  go_ret
  exact ⟨by rw [← hres]; rfl, _, rfl⟩
set_option maxHeartbeats 1000000 in
theorem put_call (hb : SetAt w g F m) (hm : m ≤ 16) (hp : p / 64 < m) :
    Calls Tryd.prog 29 #[.slice (some ⟨g, 0, none⟩) m m, .int .i64 p] w fun e w' => e = .returned (.tuple #[]) ∧ w.grownBy w' (some g) ∧ SetAt w' g (ins F p) m := by
  have hc : w.cell? ⟨g, p / 64, none⟩ = some (.int .u64 ((wd F (p / 64) : Nat) : Int)) := by rw [hb.cell, wds_at hp]
  have hor : bits .or .u64 ((wd F (p / 64) : Nat) : Int) ((2 ^ (p % 64) : Nat) : Int) = ((wd (ins F p) (p / 64) : Nat) : Int) := by
    rw [u64_or_nat _ _ (wd_lt _ _) (bit_lt p), wd_ins]
  have hbit := fun w => bit_call p w
  have hset := wds_ins (F := F) hp
  have hf := hb.frozen (p / 64)
  generalize wd F (p / 64) = x at hc hor
  generalize wd (ins F p) (p / 64) = z at hor hset
  generalize 2 ^ (p % 64) = y at hor hbit
  obtain ⟨k, hk⟩ : ∃ k, p / 64 = k := ⟨_, rfl⟩
  have hq : (p : Int) / 64 = (k : Int) := by omega
  rw [hk] at hc hp hset hf
  have h0 : (0 : Int) ≤ k := by omega
  have h1 : (k : Int) < m := by omega
  have hkw : IntKind.i64.wrap (k : Int) = k := wrap_i64n (by omega)
  have HB := Lib.hid hbit; have HS := Lib.hid hset; have HW := Lib.hid hb; clear hbit hb hk hset
  go_enter Tryd.func29, Tryd.ntmps29
  go_wp2_with fail
  go_region_with (go_at_call 39; refine (HB.out _).mono ?_; rintro e w' ⟨rfl, rfl⟩)
  all_goals go_wp2
  all_goals go_end0
  all_goals exact ⟨rfl, by repeat (first | exact World.grownBy.refl _ _ | apply only_drew | apply only_set), by show Blk _ _ _ _; rw [← HS.out]; exact HW.out.set_ _ _⟩
set_option maxHeartbeats 1000000 in
theorem remove_call (hb : SetAt w g F m) (hm : m ≤ 16) (hp : p / 64 < m) :
    Calls Tryd.prog 30 #[.slice (some ⟨g, 0, none⟩) m m, .int .i64 p] w fun e w' => e = .returned (.tuple #[]) ∧ w.grownBy w' (some g) ∧ SetAt w' g (del F p) m := by
  have hc : w.cell? ⟨g, p / 64, none⟩ = some (.int .u64 ((wd F (p / 64) : Nat) : Int)) := by rw [hb.cell, wds_at hp]
  have hor : bits .andNot .u64 ((wd F (p / 64) : Nat) : Int) ((2 ^ (p % 64) : Nat) : Int) = ((wd (del F p) (p / 64) : Nat) : Int) := by
    rw [u64_andNot_nat _ _ (wd_lt _ _) (bit_lt p), wd_del]
  have hbit := fun w => bit_call p w
  have hset := wds_del (F := F) hp
  have hf := hb.frozen (p / 64)
  generalize wd F (p / 64) = x at hc hor
  generalize wd (del F p) (p / 64) = z at hor hset
  generalize 2 ^ (p % 64) = y at hor hbit
  obtain ⟨k, hk⟩ : ∃ k, p / 64 = k := ⟨_, rfl⟩
  have hq : (p : Int) / 64 = (k : Int) := by omega
  rw [hk] at hc hp hset hf
  have h0 : (0 : Int) ≤ k := by omega
  have h1 : (k : Int) < m := by omega
  have hkw : IntKind.i64.wrap (k : Int) = k := wrap_i64n (by omega)
  have HB := Lib.hid hbit; have HS := Lib.hid hset; have HW := Lib.hid hb; clear hbit hb hk hset
  go_enter Tryd.func30, Tryd.ntmps30
  go_wp2_with fail
  go_region_with (go_at_call 39; refine (HB.out _).mono ?_; rintro e w' ⟨rfl, rfl⟩)
  all_goals go_wp2
  all_goals go_end0
  all_goals exact ⟨rfl, by repeat (first | exact World.grownBy.refl _ _ | apply only_drew | apply only_set), by show Blk _ _ _ _; rw [← HS.out]; exact HW.out.set_ _ _⟩
/-- What is put in up to a place. -/
def upTo (F G : Nat → Bool) (k : Nat) : Nat → Bool := fun p => F p || (decide (p < 64 * k) && G p)
theorem upTo_step (F G : Nat → Bool) {m k : Nat} (hk : k < m) : (wds (upTo F G k) m).setIfInBounds k (.int .u64 ((wd F k ||| wd G k : Nat) : Int)) = wds (upTo F G (k + 1)) m := by
  rw [wd_or, show wd (fun p => F p || G p) k = wd (upTo F G (k + 1)) k from wd_congr fun j hj => by simp only [upTo]; rw [decide_eq_true (by omega), Bool.true_and]]
  refine wds_set _ _ m k hk fun i hi hne => wd_congr fun j hj => ?_
  simp only [upTo]
  rw [show (decide (64 * i + j < 64 * k)) = decide (64 * i + j < 64 * (k + 1)) from decide_eq_decide.2 (by omega)]
set_option maxHeartbeats 1000000 in
theorem putAll_call {g2 : Nat} (hb : SetAt w g F m) (hb2 : SetAt w g2 G m) (hne : g2 ≠ g) (hm : m ≤ 16) :
    Calls Tryd.prog 35 #[.slice (some ⟨g, 0, none⟩) m m, .slice (some ⟨g2, 0, none⟩) m m] w fun e w' => e = .returned (.tuple #[]) ∧ w.grownBy w' (some g) ∧ SetAt w' g (fun p => F p || G p) m := by
  have HB := Lib.hid hb; have HB2 := Lib.hid hb2; clear hb hb2
  go_enter Tryd.func35, Tryd.ntmps35
  go_wp2
  go_loopw [4, 5, 8] (fun _ _ i wr => ∃ k : Nat, k ≤ m ∧ i = .int .i64 k ∧ w.grownBy wr (some g) ∧ SetAt wr g (upTo F G k) m) (fun _ _ i _ => m - (intOf i).toNat)
  case atStart => exact ⟨0, by omega, rfl, World.grownBy.refl _ _, by rw [show upTo F G 0 = F from funext fun p => by simp [upTo]]; exact HB.out⟩
  case round =>
    obtain ⟨k, hk, rfl, hg, hbk⟩ := hrel
    by_cases hlt : k < m
    · have hc : wr.cell? ⟨g, k, none⟩ = some (.int .u64 ((wd F k : Nat) : Int)) := by
        rw [hbk.cell, wds_at hlt, show wd (upTo F G k) k = wd F k from wd_congr fun j hj => by simp only [upTo]; rw [decide_eq_false (by omega), Bool.false_and, Bool.or_false]]
      have hc2 : wr.cell? ⟨g2, k, none⟩ = some (.int .u64 ((wd G k : Nat) : Int)) := by
        rw [(HB2.out.grown hg (by simpa using hne)).cell, wds_at hlt]
      have hor : bits .or .u64 ((wd F k : Nat) : Int) ((wd G k : Nat) : Int) = ((wd F k ||| wd G k : Nat) : Int) := u64_or_nat _ _ (wd_lt _ _) (wd_lt _ _)
      have hst := upTo_step F G hlt
      have hf := hbk.frozen k
      have h0 : (0 : Int) ≤ k := by omega
      have h1 : (k : Int) < m := by omega
      have hw1 : IntKind.i64.wrap ((k : Int) + 1) = ((k + 1 : Nat) : Int) := wrap_i64n (n := k + 1) (by omega)
      generalize wd F k ||| wd G k = z at hor hst
      generalize wd F k = x at hc hor
      generalize wd G k = y at hc2 hor
      have HK := Lib.hid hbk; have HG := Lib.hid hg; have HS := Lib.hid hst; clear hbk hg hst
      go_wp2
      go_roundw
      case rel => exact ⟨k + 1, by omega, by go_num, only_set HG.out _ _, by show Blk _ _ _ _; rw [← HS.out]; exact HK.out.set_ _ _⟩
      case measure => simp [intOf]; omega
    · go_wp2
      obtain rfl : k = m := by omega
      go_end0
      refine ⟨rfl, hg, ?_⟩
      have e : wds (upTo F G k) k = wds (fun p => F p || G p) k := wds_congr fun p hp => by simp only [upTo]; rw [decide_eq_true hp, Bool.true_and]
      show Blk _ _ _ _
      rw [← e]
      exact hbk
/-! ### How many, and the next one -/
theorem cnt_word (F : Nat → Bool) (k : Nat) : cnt F (64 * k) + cnt (wd F k).testBit 64 = cnt F (64 * (k + 1)) := by
  rw [show 64 * (k + 1) = 64 * k + 64 from rfl, cnt_add]
  congr 1
  exact cnt_congr fun j hj => by rw [wd_bit, decide_eq_true hj, Bool.true_and]
set_option maxHeartbeats 1000000 in
theorem count_call (hb : SetAt w g F m) (hm : m ≤ 16) :
    Calls Tryd.prog 37 #[.slice (some ⟨g, 0, none⟩) m m] w fun e w' => e = .returned (.int .i64 ((cnt F (64 * m) : Nat) : Int)) ∧ w' = w := by
  have HB := Lib.hid hb; clear hb
  have HO := Lib.hid (fun x hx => ones_call x w hx)
  go_enter Tryd.func37, Tryd.ntmps37
  go_wp2_with fail
  go_loopw [3, 5, 8] (fun n _ i wr => ∃ k : Nat, k ≤ m ∧ i = .int .i64 k ∧ n = .int .i64 ((cnt F (64 * k) : Nat) : Int) ∧ wr = w) (fun _ _ i _ => m - (intOf i).toNat)
  case atStart => exact ⟨0, by omega, rfl, rfl, rfl⟩
  case round =>
    obtain ⟨k, hk, rfl, rfl, rfl⟩ := hrel
    by_cases hlt : k < m
    · have hc : wr.cell? ⟨g, k, none⟩ = some (.int .u64 ((wd F k : Nat) : Int)) := by rw [HB.out.cell, wds_at hlt]
      have hone := HO.out _ (wd_lt F k)
      have hsum := cnt_word F k
      have hle := cnt_le F (64 * (k + 1))
      have h0 : (0 : Int) ≤ k := by omega
      have h1 : (k : Int) < m := by omega
      have hw1 : IntKind.i64.wrap ((k : Int) + 1) = ((k + 1 : Nat) : Int) := wrap_i64n (n := k + 1) (by omega)
      generalize wd F k = x at hc hone hsum
      generalize cnt x.testBit 64 = c at hone hsum
      generalize cnt F (64 * k) = a at hsum ⊢
      have HR := Lib.hid hsum; 
      have hw2 : IntKind.i64.wrap ((a : Int) + (c : Int)) = ((a + c : Nat) : Int) := wrap_i64n (n := a + c) (by omega)
      have HO := Lib.hid hone; clear hone hsum
      go_wp2_with (go_at_call 41; refine HO.out.mono ?_; rintro e w' ⟨rfl, rfl⟩)
      go_roundw
      case rel => exact ⟨k + 1, by omega, by go_num, by rw [← HR.out]; go_num, trivial⟩
      case measure => simp [intOf]; omega
    · go_wp2
      obtain rfl : k = m := by omega
      go_ret
      first | exact ⟨rfl, rfl⟩ | exact ⟨rfl, trivial⟩

/-- The least one from p on, below N; N, or p, if there is none. -/
def Next (T : Nat → Bool) (N p r : Nat) : Prop := p ≤ r ∧ (∀ q, p ≤ q → q < r → q < N → T q = false) ∧ (r < N → T r = true) ∧ (p ≤ N → r ≤ N)
def flipI (fb : Bool) : Int := if fb then 18446744073709551615 else 0
theorem xor_word (F : Nat → Bool) (k : Nat) (fb : Bool) : bits .xor .u64 ((wd F k : Nat) : Int) (flipI fb) = ((wd (fun q => F q ^^ fb) k : Nat) : Int) := by
  cases fb
  · rw [show flipI false = ((0 : Nat) : Int) from rfl, u64_xor_nat _ _ (wd_lt _ _) (by omega), Nat.xor_zero]
    congr 1
    exact wd_congr fun j _ => by simp
  · rw [show flipI true = ((18446744073709551615 : Nat) : Int) from rfl, u64_xor_nat _ _ (wd_lt _ _) (by omega)]
    congr 1
    refine wd_eq (Nat.xor_lt_two_pow (wd_lt _ _) (show _ < 2 ^ 64 by omega) : _ < 2 ^ 64) fun j hj => ?_
    rw [Nat.testBit_xor, wd_bit, show 18446744073709551615 = 2 ^ 64 - 1 from rfl, Nat.testBit_two_pow_sub_one, decide_eq_true hj, Bool.true_and]
/-- What is left of a page's word from the page on. -/
theorem rest_bit (T : Nat → Bool) (p j : Nat) (hj : p % 64 + j < 64) : (wd T (p / 64) / 2 ^ (p % 64)).testBit j = T (p + j) := by
  rw [Nat.testBit_div_two_pow, wd_bit, decide_eq_true (by omega), Bool.true_and, show 64 * (p / 64) + (j + p % 64) = p + j by omega]
theorem rest_none (T : Nat → Bool) (p : Nat) (h : wd T (p / 64) / 2 ^ (p % 64) = 0) (q : Nat) (h1 : p ≤ q) (h2 : q < p + (64 - p % 64)) : T q = false := by
  have := rest_bit T p (q - p) (by omega)
  rw [h, Nat.zero_testBit, show p + (q - p) = q by omega] at this
  exact this.symm
theorem rest_some (T : Nat → Bool) (p : Nat) (h : wd T (p / 64) / 2 ^ (p % 64) ≠ 0) :
    p % 64 + Lib.ctz 64 (wd T (p / 64) / 2 ^ (p % 64)) < 64 ∧ T (p + Lib.ctz 64 (wd T (p / 64) / 2 ^ (p % 64))) = true ∧ ∀ q, p ≤ q → q < p + Lib.ctz 64 (wd T (p / 64) / 2 ^ (p % 64)) → T q = false := by
  have hx : wd T (p / 64) / 2 ^ (p % 64) < 18446744073709551616 := Nat.lt_of_le_of_lt (Nat.div_le_self _ _) (wd_lt _ _)
  obtain ⟨_, h2, h3⟩ := ctz_bit h hx
  generalize hc : Lib.ctz 64 (wd T (p / 64) / 2 ^ (p % 64)) = c at h2 h3 ⊢
  have hb : p % 64 + c < 64 := by
    rw [Nat.testBit_div_two_pow, wd_bit] at h2
    have := (Bool.and_eq_true _ _ ▸ h2).1
    simp at this; omega
  refine ⟨hb, by rw [← rest_bit T p c hb]; exact h2, fun q h1 hq => ?_⟩
  have := rest_bit T p (q - p) (by omega)
  rw [h3 (q - p) (by omega), show p + (q - p) = q by omega] at this
  exact this.symm
set_option maxHeartbeats 2000000 in
theorem seek_call (fb : Bool) (hb : SetAt w g F m) (hm : m ≤ 16) (hp : p ≤ 4096) (hT : Tab w) :
    Calls Tryd.prog 40 #[.slice (some ⟨g, 0, none⟩) m m, .int .i64 p, .int .u64 (flipI fb)] w fun e w' => ∃ r : Nat, e = .returned (.int .i64 r) ∧ Next (fun q => F q ^^ fb) (64 * m) p r ∧ w' = w := by
  have HB := Lib.hid hb; have HT := Lib.hid hT; clear hb hT
  have HX := Lib.hid (xor_word F · fb)
  generalize flipI fb = fl at HX ⊢
  generalize hTT : (fun q => F q ^^ fb) = T at HX ⊢
  go_enter Tryd.func40, Tryd.ntmps40
  go_wp2_with fail
  go_loopw [1, 7] (fun a _ wr => ∃ k : Nat, p ≤ k ∧ k ≤ 5000 ∧ a = .int .i64 k ∧ (∀ q, p ≤ q → q < k → T q = false) ∧ (p ≤ 64 * m → k ≤ 64 * m) ∧ wr = w) (fun a _ _ => 64 * m - (intOf a).toNat)
  case atStart => exact ⟨p, by omega, by omega, rfl, fun q _ _ => by omega, fun h => h, rfl⟩
  case round =>
    obtain ⟨k, hk, hk2, rfl, hno, hle, rfl⟩ := hrel
    have hwm : IntKind.i64.wrap ((m : Int) * 64) = ((64 * m : Nat) : Int) := by rw [← wrap_i64n (n := 64 * m) (by omega)]; congr 1; omega
    by_cases hlt : k < 64 * m
    · have hd : k / 64 < m := by omega
      have hc : wr.cell? ⟨g, k / 64, none⟩ = some (.int .u64 ((wd F (k / 64) : Nat) : Int)) := by rw [HB.out.cell, wds_at hd]
      have hx := HX.out (k / 64)
      have hylt : wd T (k / 64) / 2 ^ (k % 64) < 18446744073709551616 := Nat.lt_of_le_of_lt (Nat.div_le_self _ _) (wd_lt _ _)
      have HN := Lib.hid (rest_none T k); have HS := Lib.hid (rest_some T k)
      have HNO := Lib.hid hno; have HLE := Lib.hid hle; clear hno hle
      obtain ⟨y, hy⟩ : ∃ y, wd T (k / 64) / 2 ^ (k % 64) = y := ⟨_, rfl⟩
      have hsh : ((wd T (k / 64) : Nat) : Int) / 2 ^ (k % 64) = (y : Int) := by
        rw [← hy]; push_cast; rfl
      rw [hy] at HN HS hylt
      clear hy
      obtain ⟨d, hdd⟩ : ∃ d, k / 64 = d := ⟨_, rfl⟩
      have hq : (k : Int) / 64 = (d : Int) := by omega
      have h0 : (0 : Int) ≤ d := by omega
      have h1 : (d : Int) < m := by omega
      have hkw : IntKind.i64.wrap (d : Int) = d := wrap_i64n (by omega)
      rw [hdd] at hd hc hx hsh
      clear hdd
      generalize wd F d = x at hc hx
      generalize wd T d = z at hx hsh
      by_cases hy0 : y = 0
      · have HN2 := Lib.hid (HN.out hy0)
        clear HN HS
        have hne : ((y : Int) != 0) = false := by simp [hy0]
        clear hy0
        have hm64 : k % 64 < 64 := Nat.mod_lt _ (by omega)
        have hw2 : IntKind.i64.wrap (64 - (k : Int) % 64) = ((64 - k % 64 : Nat) : Int) := by rw [← wrap_i64n (n := 64 - k % 64) (by omega)]; congr 1; omega
        have hw3 : IntKind.i64.wrap ((k : Int) + ((64 - k % 64 : Nat) : Int)) = ((k + (64 - k % 64) : Nat) : Int) := wrap_i64n (n := k + (64 - k % 64)) (by omega)
        go_wp2_with fail
        go_roundw
        case rel =>
          refine ⟨k + (64 - k % 64), by omega, by omega, by first | rfl | go_num, fun q h1 h2 => ?_, fun h => ?_, trivial⟩
          · by_cases hqk : q < k
            · exact HNO.out q h1 hqk
            · exact HN2.out q (by omega) h2
          · have := HLE.out h; omega
        case measure => simp [intOf]; omega
      · have HS2 := Lib.hid (HS.out hy0)
        have htz := Lib.hid (tz_call y wr hylt hy0 HT.out)
        clear HN HS
        have hc64 : Lib.ctz 64 y < 64 := by have := HS2.out.1; omega
        generalize Lib.ctz 64 y = c at HS2 htz hc64
        have hne : ((y : Int) != 0) = true := by simp [hy0]
        clear hy0
        have hw2 : IntKind.i64.wrap ((k : Int) + (c : Int)) = ((k + c : Nat) : Int) := wrap_i64n (n := k + c) (by omega)
        go_wp2_with (go_at_call 42; refine htz.out.mono ?_; rintro e w' ⟨rfl, rfl⟩)
        go_ret
        refine ⟨k + c, by first | rfl | go_num, ⟨by omega, fun q h1 h2 _ => ?_, fun _ => HS2.out.2.1, fun h => ?_⟩, by first | rfl | trivial⟩
        · by_cases hqk : q < k
          · exact HNO.out q h1 hqk
          · exact HS2.out.2.2 q (by omega) h2
        · have := HLE.out h; have := HS2.out.1; omega
    · have HNO := Lib.hid hno; have HLE := Lib.hid hle; clear hno hle
      have hnl : ¬ ((k : Int) < 64 * (m : Int)) := by omega
      go_wp2_with fail
      go_ret
      exact ⟨k, rfl, ⟨hk, fun q h1 h2 _ => HNO.out q h1 h2, fun h => absurd h hlt, HLE.out⟩, by first | rfl | trivial⟩
set_option maxHeartbeats 1000000 in
theorem next_call (hb : SetAt w g F m) (hm : m ≤ 16) (hp : p ≤ 4096) (hT : Tab w) :
    Calls Tryd.prog 32 #[.slice (some ⟨g, 0, none⟩) m m, .int .i64 p] w fun e w' => ∃ r : Nat, e = .returned (.int .i64 r) ∧ Next F (64 * m) p r ∧ w' = w := by
  have HS := Lib.hid (seek_call false hb hm hp hT)
  rw [show (fun q => F q ^^ false) = F from funext fun q => by simp, show flipI false = 0 from rfl] at HS
  clear hb hT
  go_enter Tryd.func32, Tryd.ntmps32
  go_wp2_with (go_at_call 40; refine HS.out.mono ?_; rintro e w' ⟨r, rfl, hr, rfl⟩)
  go_ret
  exact ⟨_, rfl, hr, rfl⟩
set_option maxHeartbeats 1000000 in
theorem gap_call (hb : SetAt w g F m) (hm : m ≤ 16) (hp : p ≤ 4096) (hT : Tab w) :
    Calls Tryd.prog 38 #[.slice (some ⟨g, 0, none⟩) m m, .int .i64 p] w fun e w' => ∃ r : Nat, e = .returned (.int .i64 r) ∧ Next (fun q => !F q) (64 * m) p r ∧ w' = w := by
  have HS := Lib.hid (seek_call true hb hm hp hT)
  rw [show (fun q => F q ^^ true) = (fun q => !F q) from funext fun q => by simp, show flipI true = 18446744073709551615 from rfl] at HS
  clear hb hT
  go_enter Tryd.func38, Tryd.ntmps38
  go_wp2_with (go_at_call 40; refine HS.out.mono ?_; rintro e w' ⟨r, rfl, hr, rfl⟩)
  go_ret
  exact ⟨_, rfl, hr, rfl⟩
end
end Go.Proofs.YtldbfhgkicphkaaDoor.Alc
