/- Slices of bytes as lists of numbers: a slice that came in, a row of the call's own. No program's function is named. -/
import Derived.Test.YtlbadapcaooieaaCrcMath
import Derived.Test.YtlbadapcaooieaaMem
import Derived.Test.YtlbadapcaooieaaWords
import Derived.Test.YtlbadapcaooieaaRows
import Derived.WalkKit
import Derived.LoopTactic
import Derived.Lib.Hide
import Derived.Laws.BitsAllLaws
import Derived.ProofKit
import Derived.OpenShut
import Derived.SizedLaws
namespace Go.Proofs.Ytlbadapcaooieaa.Crc
open Go.RowKit CrcMath Mem

theorem ret_int {k : IntKind} {a b : Int} (h : a = b) : Ending.returned (.int k a) = .returned (.int k b) := by rw [h]
/-- A slice of bytes that lies outside block b and reads as the numbers l. -/
def Bytes (w : World) (b : Nat) (A : Option Addr) (n : Nat) (l : List Nat) : Prop :=
  l.length = n ∧ (∀ x ∈ l, x < 256) ∧ (0 < n → ∃ g o, A = some ⟨g, o, none⟩ ∧ g < w.heap.size ∧ g ≠ b ∧ ∀ j, j < n → w.cell? ⟨g, o + j, none⟩ = some (.int .u8 (l.getD j 0 : Nat)))
theorem Bytes.keep {w w' : World} {b n : Nat} {A : Option Addr} {l : List Nat} (h : Bytes w b A n l) (hg : w.grownBy w' (some b)) : Bytes w' b A n l := by
  refine ⟨h.1, h.2.1, fun hn => ?_⟩
  obtain ⟨g, o, e, hlt, hne, hc⟩ := h.2.2 hn
  refine ⟨g, o, e, Nat.lt_of_lt_of_le hlt hg.size, hne, fun j hj => ?_⟩
  rw [hg.cell_far _ hlt (by simpa using hne)]
  exact hc j hj
theorem Bytes.none_ (w : World) (b : Nat) (A : Option Addr) : Bytes w b A 0 [] := ⟨rfl, by simp, by omega⟩

theorem flip_u32 {x : Nat} (hx : x < 4294967296) : bits BinOp.xor IntKind.u32 IntKind.u32.max (x : Int) = ((4294967295 - x : Nat) : Int) := by
  rw [show IntKind.u32.max = ((4294967295 : Nat) : Int) from by decide, u32_xor_nat _ _ (by omega) hx, Nat.xor_comm, ← not_eq_xor hx]
theorem take_getD (l : List Nat) (k : Nat) (h : k < l.length) : l.take (k + 1) = l.take k ++ [l.getD k 0] := by
  rw [List.take_succ_eq_append_getElem h]; simp [List.getD_eq_getElem?_getD, h]
theorem getD_lt {l : List Nat} (h : ∀ x ∈ l, x < 256) (k : Nat) : l.getD k 0 < 256 := by
  rw [List.getD_eq_getElem?_getD]
  rcases Nat.lt_or_ge k l.length with hk | hk
  · rw [List.getElem?_eq_getElem hk]; exact h _ (List.getElem_mem hk)
  · rw [List.getElem?_eq_none hk]; decide

theorem Bytes.len {w : World} {b n : Nat} {A : Option Addr} {l : List Nat} (h : Bytes w b A n l) : l.length = n := h.1
theorem Bytes.lt {w : World} {b n : Nat} {A : Option Addr} {l : List Nat} (h : Bytes w b A n l) : ∀ x ∈ l, x < 256 := h.2.1

theorem bytes_of_row {w : World} {a : Option Addr} {len cap : Nat} {zs : List Int}
    (h : (a = none ∧ len = 0 ∧ cap = 0 ∧ zs = []) ∨ ∃ x, a = some x ∧ len ≤ cap ∧ cap ≤ maxLen ∧ zs.length = cap ∧ (∀ i, i < zs.length → w.cell? (x.add i) = some (.int .u8 (zs.getD i 0))) ∧ ∀ n ∈ zs, (Lit.int .u8 n).wf = true) :
    ∃ l, Bytes w w.heap.size a len l ∧ len ≤ 9223372036854775807 := by
  rcases h with ⟨rfl, rfl, rfl, rfl⟩ | ⟨x, rfl, hl, hm, hz, hcell, hwf⟩
  · exact ⟨[], Bytes.none_ _ _ _, by omega⟩
  · have hb : ∀ n ∈ zs, 0 ≤ n ∧ n ≤ 255 := fun n hn => by simpa [Lit.wf, IntKind.min, IntKind.max, IntKind.signed, IntKind.bits] using hwf n hn
    have hg : ∀ j, j < cap → 0 ≤ zs.getD j 0 ∧ zs.getD j 0 ≤ 255 := fun j hj => by
      rw [List.getD_eq_getElem?_getD, List.getElem?_eq_getElem (by omega)]
      exact hb _ (List.getElem_mem (by omega))
    refine ⟨(zs.take len).map Int.toNat, ⟨by simp; omega, ?_, fun hn => ?_⟩, by unfold maxLen at hm; omega⟩
    · intro y hy
      obtain ⟨z, hz', rfl⟩ := List.mem_map.1 hy
      have := hb z (List.mem_of_mem_take hz')
      omega
    · obtain ⟨g, o, sp⟩ := x
      have h0 := hcell 0 (by omega)
      have hsp : sp = none := by simpa [Addr.add] using World.cell?_spot h0
      subst hsp
      have hlt : g < w.heap.size := by have := World.block_lt_of_cell? w _ h0; simpa [Addr.add] using this
      refine ⟨g, o, rfl, hlt, by omega, fun j hj => ?_⟩
      have h1 := hcell j (by omega)
      have h2 := hg j (by omega)
      have e1 : (⟨g, o, none⟩ : Addr).add j = ⟨g, o + j, none⟩ := by unfold Addr.add; split <;> simp_all
      rw [e1] at h1
      rw [h1]
      congr 2
      rw [List.getD_eq_getElem?_getD] at h2 ⊢
      rw [List.getElem?_eq_getElem (by omega)] at h2 ⊢
      rw [List.getD_eq_getElem?_getD, List.getElem?_map, List.getElem?_take_of_lt hj, List.getElem?_eq_getElem (by omega)]
      simp at h2 ⊢
      omega

/-- Bytes as cells. -/
def u8s (l : List Nat) : List Value := l.map fun x => .int .u8 (x : Nat)
theorem u8s_length (l : List Nat) : (u8s l).length = l.length := by simp [u8s]
theorem u8s_append (l l' : List Nat) : u8s (l ++ l') = u8s l ++ u8s l' := by simp [u8s]
theorem u8s_one (l : List Nat) : ∀ u ∈ u8s l, u.oneCell' = true := by
  intro u hu
  obtain ⟨x, _, rfl⟩ := List.mem_map.1 hu
  rfl
theorem u8s_at (l : List Nat) (j : Nat) (h : j < l.length) : (u8s l)[j]? = some (.int .u8 (l.getD j 0 : Nat)) := by
  simp [u8s, List.getD_eq_getElem?_getD, h]
theorem Bytes.reads {w : World} {b n : Nat} {A : Option Addr} {l : List Nat} (h : Bytes w b A n l) : Reads w w.heap.size 1 A n (u8s l) := by
  refine ⟨by rw [u8s_length, h.1]; omega, fun hn => ?_⟩
  obtain ⟨g, o, e, hlt, _, hc⟩ := h.2.2 hn
  refine ⟨_, e, hlt, fun j u hu => ?_⟩
  have hj : j < l.length := by
    rcases Nat.lt_or_ge j l.length with h1 | h1
    · exact h1
    · rw [List.getElem?_eq_none (by rw [u8s_length]; exact h1)] at hu; cases hu
  rw [u8s_at l j hj] at hu
  have e1 : (⟨g, o, none⟩ : Addr).add j = ⟨g, o + j, none⟩ := by unfold Addr.add; split <;> simp_all
  rw [e1, hc j (by have := h.1; omega)]
  exact hu
theorem bytes_of_own {w : World} {base n b : Nat} {v : Value} {l : List Nat} (h : w.ownsRow base 5 1 v n (u8s l)) (hb : v.ownBlock ≠ some b) (hl : ∀ x ∈ l, x < 256) :
    ∃ A c, v = .slice A n c ∧ Bytes w b A n l := by
  have hlen : l.length = n := by have := h.1; rw [u8s_length] at this; omega
  rcases h.2 with ⟨rfl, hx⟩ | ⟨g, cap, cur, rfl, _⟩
  · have : l = [] := List.eq_nil_of_length_eq_zero (by omega)
    subst this
    subst hlen
    exact ⟨_, _, rfl, Bytes.none_ _ _ _⟩
  · have hcells := World.ownsRow.cells h (g := g) rfl
    refine ⟨_, _, rfl, hlen, hl, fun hn => ⟨g, 0, rfl, ?_, by simpa [Value.ownBlock] using hb, fun j hj => ?_⟩⟩
    · have := World.block_lt_of_cell? w _ (hcells 0 _ (u8s_at l 0 (by omega)))
      simpa [Addr.add] using this
    · have := hcells j _ (u8s_at l j (by omega))
      have e1 : (⟨g, 0, none⟩ : Addr).add j = ⟨g, 0 + j, none⟩ := by unfold Addr.add; split <;> simp_all
      rw [e1] at this
      exact this
theorem byte_info : (Try.prog.info? 5).map (fun i => (i.zero, i.size, i.bytes)) = some (some (.int .u8 0), 1, 1) := by kernel_rfl
theorem Bytes.at_ {w : World} {b n : Nat} {A : Option Addr} {l : List Nat} (h : Bytes w b A n l) (k : Nat) (hk : k < n) :
    ∃ g o, A = some ⟨g, o, none⟩ ∧ w.cell? ⟨g, o + k, none⟩ = some (.int .u8 (l.getD k 0 : Nat)) ∧ l.getD k 0 < 256 ∧ l.take (k + 1) = l.take k ++ [l.getD k 0] := by
  obtain ⟨g, o, e, _, _, hc⟩ := h.2.2 (by omega)
  exact ⟨g, o, e, hc k hk, getD_lt h.2.1 k, take_getD l k (by rw [h.1]; exact hk)⟩
theorem Bytes.take_ {w : World} {b n : Nat} {A : Option Addr} {l : List Nat} (h : Bytes w b A n l) (k : Nat) (hk : k ≤ n) : Bytes w b A k (l.take k) := by
  refine ⟨by rw [List.length_take, h.1]; omega, fun x hx => h.2.1 x (List.mem_of_mem_take hx), fun hk0 => ?_⟩
  obtain ⟨g, o, e, hlt, hne, hc⟩ := h.2.2 (by omega)
  refine ⟨g, o, e, hlt, hne, fun j hj => ?_⟩
  rw [hc j (by omega)]
  simp [List.getD_eq_getElem?_getD, hj]
theorem reads_new (w : World) (x : Value) : Reads (w.alloc (.cells #[x] 5)).drew (w.heap.size + 1) 1 (some ⟨w.heap.size, 0, none⟩) 1 [x] := by
  refine ⟨rfl, fun _ => ⟨_, rfl, by simp, fun j u hu => ?_⟩⟩
  match j with
  | 0 => simpa [Addr.add] using hu
  | j + 1 => simp at hu
theorem Bytes.drewN {w : World} {b n : Nat} {A : Option Addr} {l : List Nat} (h : Bytes w b A n l) (m : Nat) : Bytes (w.drewN m) b A n l := h
/-- Block g's first n cells read as the bytes ys. -/
def Row (w : World) (g n : Nat) (ys : List Nat) : Prop := ∃ cs, Blk w g 5 cs ∧ ys.length = n ∧ ∀ j, j < n → cs[j]? = some (.int .u8 (ys.getD j 0 : Nat))
theorem Row.set_ {w : World} {g n q : Nat} {ys : List Nat} (h : Row w g n ys) (hq : q < n) (y : Nat) : Row (w.setCell ⟨g, q, none⟩ (.int .u8 (y : Nat))) g n (ys.set q y) := by
  obtain ⟨cs, hb, hl, hc⟩ := h
  have hqs : q < cs.size := by
    rcases Nat.lt_or_ge q cs.size with h | h
    · exact h
    · have := hc q hq; rw [Array.getElem?_eq_none h] at this; cases this
  refine ⟨_, hb.set_ q _, by simpa using hl, fun j hj => ?_⟩
  by_cases e : q = j
  · subst e
    rw [Array.getElem?_setIfInBounds_self_of_lt hqs]
    simp [List.getD_eq_getElem?_getD, hl, hj]
  · rw [Array.getElem?_setIfInBounds_ne (by omega), hc j hj]
    simp [List.getD_eq_getElem?_getD, e]
theorem Row.drew {w : World} {g n : Nat} {ys : List Nat} (h : Row w g n ys) : Row w.drew g n ys := h
theorem Row.cell {w : World} {g n : Nat} {ys : List Nat} (h : Row w g n ys) (j : Nat) (hj : j < n) : w.cell? ⟨g, j, none⟩ = some (.int .u8 (ys.getD j 0 : Nat)) := by
  obtain ⟨cs, hb, _, hc⟩ := h
  rw [hb.cell]; exact hc j hj
theorem Row.frozen {w : World} {g n : Nat} {ys : List Nat} (h : Row w g n ys) (j : Nat) : w.frozen? ⟨g, j, none⟩ = false := by
  obtain ⟨cs, hb, _, _⟩ := h
  exact hb.frozen j
theorem Row.bytes {w : World} {b g n : Nat} {ys : List Nat} (h : Row w g n ys) (hne : g ≠ b) (hl : ∀ x ∈ ys, x < 256) : Bytes w b (some ⟨g, 0, none⟩) n ys := by
  have h' := h
  obtain ⟨cs, hb, hlen, _⟩ := h'
  exact ⟨hlen, hl, fun _ => ⟨g, 0, rfl, hb.lt, hne, fun j hj => by rw [Nat.zero_add]; exact h.cell j hj⟩⟩
theorem row_of_own {w : World} {base n : Nat} {v : Value} {l : List Nat} (h : w.ownsRow base 5 1 v n (u8s l)) (hn : 0 < n) :
    ∃ g cap, v = .slice (some ⟨g, 0, none⟩) n cap ∧ base ≤ g ∧ Row w g n l ∧ n ≤ cap := by
  have hlen : l.length = n := by have := h.1; rw [u8s_length] at this; omega
  rcases h.2 with ⟨rfl, hx⟩ | ⟨g, cap, cur, rfl, hb, hh, hnc, _, _, htake⟩
  · have : l = [] := List.eq_nil_of_length_eq_zero (by omega)
    subst this
    simp at hlen
    omega
  · refine ⟨g, cap, rfl, hb, ⟨cur, hh, hlen, fun j hj => ?_⟩, hnc⟩
    have h1 := u8s_at l j (by omega)
    rw [← htake, List.getElem?_take_of_lt (by omega), Array.getElem?_toList] at h1
    exact h1
end Go.Proofs.Ytlbadapcaooieaa.Crc
