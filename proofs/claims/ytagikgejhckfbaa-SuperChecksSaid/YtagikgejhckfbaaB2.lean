/- Shared texts of this seat's proofs: CodecSpec, Mem, Words, Bytes, CurMath, Own, CrcRef, RefBits. -/
import Derived.Test.YtagikgejhckfbaaB1
import Derived.RowKit
import Derived.Below
import Derived.Laws.OwnMore
import Derived.Deep.Draws
import Derived.Laws.Rows
import Derived.OwnWalk
import Derived.Deep.AppendLies
import Derived.Maps.AppendAt
import Derived.Lib.HexFns
import Derived.Lib.HexFns2
import Derived.Lib.BufferOwn
import Derived.RegionTactic
import Derived.Test.YtagikgejhckfbaaRows
import Derived.WalkKit
import Derived.LoopTactic
import Derived.Lib.Hide
import Derived.Laws.BitsAllLaws
import Derived.ProofKit
import Derived.OpenShut
import Derived.SizedLaws
import Derived.Laws.CopyOwn
import Derived.ArgAppend
import Derived.IntWalk
/- Records as bytes: what may be written, as which bytes; what is read: what may be written and whose bytes these are. No program is named. -/
namespace Go.Proofs.Ytagikgejhckfbaa.Codec
open Go.RowKit CrcMath CodecMath

/-- Is a number 0 to most? -/
def inB (n m : Int) : Bool := decide (0 ≤ n) && decide (n ≤ m)
theorem inB_yes {n m : Int} (h : inB n m = true) : 0 ≤ n ∧ n ≤ m := by simpa [inB] using h
theorem inB_no {n m : Int} (h : inB n m = false) : ¬ (0 ≤ n ∧ n ≤ m) := by intro hh; rw [inB] at h; simp [hh.1, hh.2] at h
theorem inB_mk {n m : Int} (h : 0 ≤ n ∧ n ≤ m) : inB n m = true := by simp [inB, h.1, h.2]
theorem inB_not {n m : Int} (h : ¬ (0 ≤ n ∧ n ≤ m)) : inB n m = false := by
  cases hb : inB n m with
  | false => rfl
  | true => exact absurd (inB_yes hb) h

theorem wrap64_of {n : Nat} (h : n ≤ 9223372036854775807) : wrap64 (n : Int) = n := by unfold wrap64; omega
/-- A sector begins with what was put into it. -/
theorem frame_split (l : List Nat) : ∃ q, frame l = l ++ q := ⟨List.replicate (252 - l.length) 0 ++ le4 (M 0 (fill l 252)), by simp [frame, fill]⟩
/-- Numbers of one width that stand one behind the other are read as they were written. -/
theorem num_flat (pre post : List Nat) (s : List Int) (k i : Nat) (hi : i < s.length) (h : (s.getD i 0).toNat < 256 ^ k) :
    num (pre ++ s.flatMap (fun n => be k n.toNat) ++ post) (pre.length + k * i) k = (s.getD i 0).toNat := by
  have hs : s = s.take i ++ ([s.getD i 0] ++ s.drop (i + 1)) := by
    rw [List.getD_eq_getElem?_getD, List.getElem?_eq_getElem hi]
    simp
  have hl : (pre ++ (s.take i).flatMap (fun n => be k n.toNat)).length = pre.length + k * i := by
    have : ∀ t : List Int, (t.flatMap fun n => be k n.toNat).length = k * t.length := by
      intro t
      induction t with
      | nil => rfl
      | cons a t ih => simp only [List.flatMap_cons, List.length_append, be_length, ih, List.length_cons]; rw [Nat.mul_add]; omega
    rw [List.length_append, this, List.length_take, Nat.min_eq_left (by omega)]
  have e : pre ++ s.flatMap (fun n => be k n.toNat) ++ post = (pre ++ (s.take i).flatMap fun n => be k n.toNat) ++ (be k (s.getD i 0).toNat ++ ((s.drop (i + 1)).flatMap (fun n => be k n.toNat) ++ post)) := by
    conv => lhs; rw [hs]
    simp
  rw [e, ← hl, num_put _ _ _ _ h]

/-! ### Superblocks -/
def superOk (s : List Int) : Bool := s.all fun n => inB n 1099511627776
def superB (s : List Int) : List Nat := [80, 83, 85, 80] ++ s.flatMap fun n => be 8 n.toNat
def superW (s : List Int) : Option (List Nat) := if superOk s then some (frame (superB s)) else none
theorem flat_len (k : Nat) (s : List Int) : (s.flatMap fun n => be k n.toNat).length = k * s.length := by
  induction s with
  | nil => rfl
  | cons a s ih => simp only [List.flatMap_cons, List.length_append, be_length, ih, List.length_cons]; rw [Nat.mul_add]; omega
theorem flat_lt (k : Nat) (s : List Int) : ∀ x ∈ s.flatMap (fun n => be k n.toNat), x < 256 := by
  intro x hx
  obtain ⟨n, _, hn⟩ := List.mem_flatMap.1 hx
  exact be_lt k _ x hn
theorem superB_lt (s : List Int) : ∀ x ∈ superB s, x < 256 := by
  intro x hx
  rcases List.mem_append.1 hx with hx | hx
  · simp at hx; omega
  · exact flat_lt 8 s x hx
theorem superB_len (s : List Int) (h : s.length = 7) : (superB s).length = 60 := by rw [superB, List.length_append, flat_len, h]; rfl
theorem superW_no (s : List Int) (j : Nat) (hj : j < s.length) (h : inB (s.getD j 0) 1099511627776 = false) : superW s = none := by
  have hm : s.getD j 0 ∈ s := by rw [List.getD_eq_getElem?_getD, List.getElem?_eq_getElem hj]; exact List.getElem_mem hj
  have : superOk s = false := by
    rw [superOk, List.all_eq_false]
    exact ⟨_, hm, by rw [h]; simp⟩
  simp [superW, this]
theorem superW_yes (s : List Int) (n : Nat) (hn : s.length = n) (h : ∀ j, j < n → inB (s.getD j 0) 1099511627776 = true) : superW s = some (frame (superB s)) := by
  have : superOk s = true := by
    rw [superOk, List.all_eq_true]
    intro x hx
    obtain ⟨i, hi, rfl⟩ := List.getElem_of_mem hx
    have := h i (by omega)
    simpa [List.getD_eq_getElem?_getD, hi] using this
  simp [superW, this]
theorem take_flat (s : List Int) (k j : Nat) (hj : j < s.length) : (s.take (j + 1)).flatMap (fun n => be k n.toNat) = (s.take j).flatMap (fun n => be k n.toNat) ++ be k (s.getD j 0).toNat := by
  rw [List.take_succ_eq_append_getElem hj, List.flatMap_append]
  simp [List.getD_eq_getElem?_getD, hj]

/-- What is read as a superblock: the numbers whose bytes these are. -/
def superN (l : List Nat) : List Int := [wrap64 (num l 4 8), wrap64 (num l 12 8), wrap64 (num l 20 8), wrap64 (num l 28 8), wrap64 (num l 36 8), wrap64 (num l 44 8), wrap64 (num l 52 8)]
def superR (l : List Nat) : Option (List Int) := if superW (superN l) = some l then some (superN l) else none
theorem superW_some {s : List Int} {l : List Nat} (h : superW s = some l) : l = frame (superB s) ∧ ∀ j, j < s.length → 0 ≤ s.getD j 0 ∧ s.getD j 0 ≤ 1099511627776 := by
  unfold superW at h
  split at h
  · rename_i hok
    refine ⟨by injection h with h; exact h.symm, fun j hj => inB_yes (List.all_eq_true.1 hok _ ?_)⟩
    rw [List.getD_eq_getElem?_getD, List.getElem?_eq_getElem hj]
    exact List.getElem_mem hj
  · cases h
theorem superN_of {s : List Int} {l : List Nat} (hs : s.length = 7) (h : superW s = some l) : superN l = s := by
  obtain ⟨hl, hb⟩ := superW_some h
  obtain ⟨q, hq⟩ := frame_split (superB s)
  rw [hq] at hl
  clear hq h
  have hn : ∀ i, i < 7 → wrap64 (num l (4 + 8 * i) 8 : Nat) = s.getD i 0 := by
    intro i hi
    have hbi := hb i (by omega)
    have h1 := num_flat [80, 83, 85, 80] q s 8 i (by omega) (by omega)
    rw [hl]
    unfold superB
    rw [show 4 + 8 * i = ([80, 83, 85, 80] : List Nat).length + 8 * i from rfl, h1, wrap64_of (by omega)]
    omega
  clear hl hb
  have h0 : wrap64 (num l 4 8 : Nat) = s.getD 0 0 := hn 0 (by omega)
  have h1 : wrap64 (num l 12 8 : Nat) = s.getD 1 0 := hn 1 (by omega)
  have h2 : wrap64 (num l 20 8 : Nat) = s.getD 2 0 := hn 2 (by omega)
  have h3 : wrap64 (num l 28 8 : Nat) = s.getD 3 0 := hn 3 (by omega)
  have h4 : wrap64 (num l 36 8 : Nat) = s.getD 4 0 := hn 4 (by omega)
  have h5 : wrap64 (num l 44 8 : Nat) = s.getD 5 0 := hn 5 (by omega)
  have h6 : wrap64 (num l 52 8 : Nat) = s.getD 6 0 := hn 6 (by omega)
  clear hn
  unfold superN
  rw [h0, h1, h2, h3, h4, h5, h6]
  clear h0 h1 h2 h3 h4 h5 h6
  match s, hs with
  | [a0, a1, a2, a3, a4, a5, a6], _ => rfl
/-- What was written is read. -/
theorem superR_of {s : List Int} {l : List Nat} (hs : s.length = 7) (h : superW s = some l) : superR l = some s := by
  have e := superN_of hs h
  rw [superR, e, if_pos h]
/-- What is read may be written, and these are its bytes. -/
theorem superR_some {s : List Int} {l : List Nat} (h : superR l = some s) : superW s = some l ∧ s.length = 7 := by
  unfold superR at h
  split at h
  · injection h with h
    subst h
    exact ⟨by assumption, rfl⟩
  · cases h
theorem superR_none (l : List Nat) (h : l.length ≠ 256) : superR l = none := by
  cases hr : superR l with
  | none => rfl
  | some s =>
    obtain ⟨h1, h2⟩ := superR_some hr
    obtain ⟨rfl, _⟩ := superW_some h1
    exact absurd (frame_length _ (by rw [superB_len s h2]; omega)) h
theorem superW_len {s : List Int} {l : List Nat} (hs : s.length = 7) (h : superW s = some l) : l.length = 256 := by
  obtain ⟨rfl, _⟩ := superW_some h
  exact frame_length _ (by rw [superB_len s hs]; omega)
/-- A reader that finds what may be written and whose bytes these are, or nothing where there is none, is just this one. -/
theorem superR_is (l : List Nat) (o : Option (List Int)) (h1 : ∀ s, o = some s → s.length = 7 ∧ superW s = some l) (h2 : o = none → ∀ s, s.length = 7 → superW s ≠ some l) : superR l = o := by
  cases o with
  | some s => obtain ⟨a, b⟩ := h1 s rfl; exact superR_of a b
  | none =>
    cases hr : superR l with
    | none => rfl
    | some s => obtain ⟨a, b⟩ := superR_some hr; exact absurd a (h2 rfl s b)
end Go.Proofs.Ytagikgejhckfbaa.Codec
/- Blocks that are known whole; what a call may turn: one block alone. Plain words on worlds, no program. -/
namespace Go.Proofs.Ytagikgejhckfbaa.Mem
open Go.RowKit

/-- Block g is just these cells of one type, none of them frozen. -/
def Blk (w : World) (g : Nat) (t : TypeId) (cs : Array Value) : Prop := w.heap[g]? = some (.cells cs t (0, 0))
section
variable {w w' : World} {g : Nat} {t : TypeId} {cs : Array Value}
theorem Blk.lt (h : Blk w g t cs) : g < w.heap.size := by
  rcases Nat.lt_or_ge g w.heap.size with hlt | hge
  · exact hlt
  · unfold Blk at h; rw [Array.getElem?_eq_none hge] at h; cases h
theorem Blk.cell (h : Blk w g t cs) (i : Nat) : w.cell? ⟨g, i, none⟩ = cs[i]? := cell_of_row w g i cs t (0, 0) h
theorem Blk.frozen (h : Blk w g t cs) (i : Nat) : w.frozen? ⟨g, i, none⟩ = false := by
  unfold Blk at h
  simp [World.frozen?, h]
theorem Blk.new (w : World) (t : TypeId) (cs : Array Value) : Blk (w.alloc (.cells cs t)) w.heap.size t cs := heap_alloc_new w _
theorem Blk.drew (h : Blk w g t cs) : Blk w.drew g t cs := h
theorem Blk.drewN (h : Blk w g t cs) (n : Nat) : Blk (w.drewN n) g t cs := h
theorem Blk.alloc (h : Blk w g t cs) (o : Obj) : Blk (w.alloc o) g t cs := (Below.heap_alloc w o g h.lt).trans h
theorem Blk.set_ (h : Blk w g t cs) (i : Nat) (u : Value) : Blk (w.setCell ⟨g, i, none⟩ u) g t (cs.setIfInBounds i u) := by
  unfold Blk at h ⊢
  simp [World.setCell, Array.getElem?_modify, h]
theorem Blk.far (h : Blk w g t cs) {p : Addr} (hp : g ≠ p.block) (u : Value) : Blk (w.setCell p u) g t cs := (Below.heap_setCell w p u g hp).trans h
theorem Blk.below {B : Nat} (h : Blk w g t cs) (hb : Below B w w') (hg : g < B) : Blk w' g t cs := (hb.block g hg).trans h
theorem Blk.grown {row : Option Nat} (h : Blk w g t cs) (hb : w.grownBy w' row) (hg : some g ≠ row) : Blk w' g t cs := (hb.block g h.lt hg).trans h
end

/-- From w to w' no block has turned that was there, but (it may be) block b. -/
theorem only_set {a w : World} {b : Nat} (h : a.grownBy w (some b)) (i : Nat) (v : Value) : a.grownBy (w.setCell ⟨b, i, none⟩ v) (some b) := Lib.grownBy_setB h i v
theorem only_drew {a w : World} {row : Option Nat} (h : a.grownBy w row) : a.grownBy w.drew row := ⟨h.os, h.tape, h.output, h.size, h.block⟩
/-- Below a block that is not lower than all that was there nothing has turned. -/
theorem below_of_grown {B : Nat} {w w' : World} {row : Option Nat} (h : w.grownBy w' row) (hB : B ≤ w.heap.size) (hr : ∀ k, row = some k → B ≤ k) : Below B w w' :=
  (Below.refl B w).grown h hB hr
/-- Where the one block that may have turned is new, or none is, no block that was there has turned: so with any block named. -/
theorem grown_any {a c : World} (h : a.grownBy c (Value.slice none 0 0).ownBlock) (row : Option Nat) : a.grownBy c row := ⟨h.os, h.tape, h.output, h.size, fun i hi _ => h.block i hi (by simp [Value.ownBlock])⟩
theorem grownBy_new {a b c : World} {row r : Option Nat} (h : a.grownBy b row) (k : b.grownBy c r) (hr : ∀ j, r = some j → a.heap.size ≤ j) : a.grownBy c row :=
  ⟨k.os.trans h.os, k.tape.trans h.tape, k.output.trans h.output, Nat.le_trans h.size k.size, fun i hi hne => (k.block i (Nat.lt_of_lt_of_le hi h.size) (fun e => by have := hr i e.symm; omega)).trans (h.block i hi hne)⟩
theorem own_base {w : World} {base n size : Nat} {e : TypeId} {v : Value} {xs : List Value} (h : w.ownsRow base e size v n xs) : ∀ j, v.ownBlock = some j → base ≤ j := by
  intro j hj
  rcases h.2 with ⟨rfl, _⟩ | ⟨g, cap, cur, rfl, hb, _⟩
  · simp [Value.ownBlock] at hj
  · simp [Value.ownBlock] at hj
    omega
end Go.Proofs.Ytagikgejhckfbaa.Mem
/- Words for slices: a slice that reads as a list of cells; append onto a row of the call's own. The guide's own blocks, laid out to be copied into a proof's texts. -/
namespace Go.Proofs.Ytagikgejhckfbaa.Mem
open Go.RowKit

theorem block_of_add (a : Addr) (n : Nat) : (a.add n).block = a.block := by unfold Addr.add; split <;> rfl
theorem add_of_add (a : Addr) (i j : Nat) : (a.add i).add j = a.add (i + j) := by
  unfold Addr.add
  by_cases hi : i = 0 <;> by_cases hj : j = 0 <;> simp [hi, hj, Nat.add_assoc]

def Reads (w : World) (B size : Nat) (A : Option Addr) (n : Nat) (xs : List Value) : Prop :=
  xs.length = n * size ∧ (0 < n → ∃ ad, A = some ad ∧ ad.block < B ∧ ∀ j u, xs[j]? = some u → w.cell? (ad.add j) = some u)

section
variable {w w' : World} {B B' size n : Nat} {A : Option Addr} {xs : List Value}
theorem Reads.none_ : Reads w B size A 0 [] := ⟨by simp, fun h => absurd h (by omega)⟩
theorem Reads.at_ {k : Nat} (h : Reads w B 1 A n xs) (hk : k < n) : ∃ ad u, A = some ad ∧ ad.block < B ∧ xs[k]? = some u ∧ w.cell? (ad.add k) = some u := by
  obtain ⟨ad, e, hb, hc⟩ := h.2 (by omega)
  have hl : k < xs.length := by have := h.1; omega
  exact ⟨ad, xs[k], e, hb, List.getElem?_eq_getElem hl, hc k _ (List.getElem?_eq_getElem hl)⟩
theorem Reads.keep (h : Reads w B size A n xs) (hk : ∀ p : Addr, p.block < B → w'.cell? p = w.cell? p) : Reads w' B size A n xs :=
  ⟨h.1, fun hn => by
    obtain ⟨ad, e, hb, hc⟩ := h.2 hn
    exact ⟨ad, e, hb, fun j u hu => (hk _ (by rw [block_of_add]; exact hb)).trans (hc j u hu)⟩⟩
theorem Reads.more (h : Reads w B size A n xs) (hB : B ≤ B') : Reads w B' size A n xs :=
  ⟨h.1, fun hn => by
    obtain ⟨ad, e, hb, hc⟩ := h.2 hn
    exact ⟨ad, e, by omega, hc⟩⟩
theorem Reads.below (h : Reads w B size A n xs) (hb : Below B w w') : Reads w' B size A n xs := h.keep fun _ hp => hb.cell hp
theorem Reads.drew (h : Reads w B size A n xs) : Reads w.drew B size A n xs := h
theorem Reads.drewN (h : Reads w B size A n xs) (k : Nat) : Reads (w.drewN k) B size A n xs := h
theorem Reads.alloc (h : Reads w B size A n xs) (hB : B ≤ w.heap.size) (o : Obj) : Reads (w.alloc o) B size A n xs := h.keep fun p hp => World.cell?_alloc_lt w o p (by omega)
theorem Reads.setCell (h : Reads w B size A n xs) {p : Addr} (hB : B ≤ p.block) (u : Value) : Reads (w.setCell p u) B size A n xs :=
  h.keep fun q hq => World.cell?_setCell_other w p q u (fun e => by subst e; omega)
theorem Reads.grown (h : Reads w B size A n xs) {row : Option Nat} (hg : w.grownBy w' row) (hB : B ≤ w.heap.size) (hr : ∀ g, row = some g → B ≤ g) : Reads w' B size A n xs :=
  h.keep fun p hp => World.cell?_of_block (hg.block p.block (by omega) (fun e => by have := hr _ e.symm; omega))
theorem Reads.cut (h : Reads w B size A n xs) {k cap : Nat} (hk : k ≤ n) (hc : n ≤ cap) :
    Reads w B size (if cap = k then A else A.map (·.add (k * size))) (n - k) (xs.drop (k * size)) := by
  refine ⟨by rw [List.length_drop, h.1, Nat.sub_mul], fun hn => ?_⟩
  obtain ⟨ad, rfl, hb, hcell⟩ := h.2 (by omega)
  rw [if_neg (by omega)]
  refine ⟨ad.add (k * size), rfl, by rw [block_of_add]; exact hb, fun j u hu => ?_⟩
  rw [add_of_add]
  exact hcell _ u (by rw [← hu, List.getElem?_drop])
theorem Reads.of_own {base : Nat} {e : TypeId} {c : Nat} (h : w.ownsRow base e size (.slice A n c) n xs) : Reads w w.heap.size size A n xs := by
  refine ⟨h.1, fun hn => ?_⟩
  obtain ⟨g, cap, hv, _, hlt⟩ := h.form hn
  have hA : A = some ⟨g, 0, none⟩ := by injection hv
  subst hA
  exact ⟨_, rfl, hlt, h.cells (g := g) rfl⟩
end

section
variable {P : Program} (w : World)

theorem run_append_of_nil (base : Nat) (t ty e : TypeId) (i : TypeInfo) (size : Nat) (ht : P.underlying t = some (.slice e)) (hi : P.info? e = some i)
    (v : Value) (n : Nat) (xs : List Value) (hown : w.ownsRow base e size v n xs) (c : Nat) : (Builtin.append_ #[t, t] ty #[v, .slice none 0 c]).run P w = .ok v w := by
  rcases hown.2 with ⟨rfl, rfl⟩ | ⟨g, cap, cur, rfl, _, _, hnc, _⟩
  · simp [Builtin.append_, run_underlying ht, sizeOf, typeInfo, hi, Builtin.lenOf, Builtin.firstCells]
  · simp [Builtin.append_, run_underlying ht, sizeOf, typeInfo, hi, Builtin.lenOf, Builtin.firstCells, hnc, storeCells]

theorem run_append_any (base : Nat) (t ty e : TypeId) (i : TypeInfo) (z : Value) (size bytes : Nat) (ht : P.underlying t = some (.slice e)) (hi : P.info? e = some i) (hz : i.zero = some z)
    (hsize : i.size = size) (hby : i.bytes = bytes) (hzs : z.cells.size = size) (hsz : 0 < size)
    (v : Value) (n : Nat) (xs : List Value) (hown : w.ownsRow base e size v n xs)
    (B : Nat) (A : Option Addr) (m c : Nat) (news : List Value) (hr : Reads w B size A m news) (h1 : ∀ u ∈ news, u.oneCell' = true)
    (h63 : n + m ≤ maxLen) (hbytes : (n + m) * bytes ≤ 140737488355328) (hbase : base ≤ w.heap.size) :
    ∃ v' w', (Builtin.append_ #[t, t] ty #[v, .slice A m c]).run P w = .ok v' w' ∧ w'.ownsRow base e size v' (n + m) (xs ++ news) ∧ w.grownBy w' v.ownBlock ∧
      (v'.ownBlock = v.ownBlock ∨ v'.ownBlock = some w.heap.size) := by
  rcases A with _ | ad
  · have hm : m = 0 := by
      rcases Nat.eq_zero_or_pos m with h0 | h0
      · exact h0
      · obtain ⟨ad, h, _⟩ := hr.2 h0
        cases h
    subst hm
    have hn : news = [] := List.eq_nil_of_length_eq_zero (by simpa using hr.1)
    subst hn
    exact ⟨v, w, run_append_of_nil w base t ty e i size ht hi v n xs hown c, by simpa using hown, World.grownBy.refl w _, .inl rfl⟩
  · have hcells : ∀ j u, news[j]? = some u → w.cell? (ad.add j) = some u := by
      intro j u hu
      rcases Nat.eq_zero_or_pos m with h0 | h0
      · subst h0
        have hn : news = [] := List.eq_nil_of_length_eq_zero (by simpa using hr.1)
        subst hn
        simp at hu
      · obtain ⟨ad', h, _, hc⟩ := hr.2 h0
        injection h with h
        subst h
        exact hc j u hu
    obtain ⟨v', w', hrun, h2, h3, _, h5⟩ := run_append_own_at (P := P) w base t ty e i z size bytes ht hi hz hsize hby hzs hsz v n xs hown ad m c news hr.1 hcells h1 h63 hbytes hbase
    exact ⟨v', w', hrun, h2, h3, h5⟩

theorem wp_append_any {o : Oper} {a : Act} {K : Act → World → Prop} {Q : Exit → Act → World → Prop} (s x : Operand) (t : TypeId)
    (ho : o.op = .call { callee := .builtin .append, args := #[s, x], argTypes := #[t, t] })
    (base : Nat) (e : TypeId) (i : TypeInfo) (z : Value) (size bytes : Nat) (ht : P.underlying t = some (.slice e)) (hi : P.info? e = some i) (hz : i.zero = some z)
    (hsize : i.size = size) (hby : i.bytes = bytes) (hzs : z.cells.size = size) (hsz : 0 < size)
    (v : Value) (n : Nat) (xs : List Value) (hs : a.eval s = v) (hown : w.ownsRow base e size v n xs)
    (B : Nat) (A : Option Addr) (m c : Nat) (news : List Value) (hx : a.eval x = .slice A m c) (hr : Reads w B size A m news) (h1 : ∀ u ∈ news, u.oneCell' = true)
    (h63 : n + m ≤ maxLen) (hbytes : (n + m) * bytes ≤ 140737488355328) (hbase : base ≤ w.heap.size)
    (h : ∀ v' w', w'.ownsRow base e size v' (n + m) (xs ++ news) → w.grownBy w' v.ownBlock → (v'.ownBlock = v.ownBlock ∨ v'.ownBlock = some w.heap.size) → K (a.put o.dst v') w') : o.wp P a w K Q := by
  obtain ⟨v', w', hrun, h2, h3, h4⟩ := run_append_any (P := P) w base t o.type e i z size bytes ht hi hz hsize hby hzs hsz v n xs hown B A m c news hr h1 h63 hbytes hbase
  unfold Oper.wp execOp
  simp only [ho, resolve, invoke, builtin, Sem.run_bind, Sem.run_pure, Result.andThen_ok, List.map_toArray, List.map_cons, List.map_nil, hs, hx, hrun]
  exact h v' w' h2 h3 h4

theorem wpList_append_any {ops : Array Oper} {rest : List Oper} {o : Oper} {a : Act} {Q : Exit → Act → World → Prop} (hgd : o.guard = none) (s x : Operand) (t : TypeId)
    (ho : o.op = .call { callee := .builtin .append, args := #[s, x], argTypes := #[t, t] })
    (base : Nat) (e : TypeId) (i : TypeInfo) (z : Value) (size bytes : Nat) (ht : P.underlying t = some (.slice e)) (hi : P.info? e = some i) (hz : i.zero = some z)
    (hsize : i.size = size) (hby : i.bytes = bytes) (hzs : z.cells.size = size) (hsz : 0 < size)
    (v : Value) (n : Nat) (xs : List Value) (hs : a.eval s = v) (hown : w.ownsRow base e size v n xs)
    (B : Nat) (A : Option Addr) (m c : Nat) (news : List Value) (hx : a.eval x = .slice A m c) (hr : Reads w B size A m news) (h1 : ∀ u ∈ news, u.oneCell' = true)
    (h63 : n + m ≤ maxLen) (hbytes : (n + m) * bytes ≤ 140737488355328) (hbase : base ≤ w.heap.size)
    (h : ∀ v' w', w'.ownsRow base e size v' (n + m) (xs ++ news) → w.grownBy w' v.ownBlock → (v'.ownBlock = v.ownBlock ∨ v'.ownBlock = some w.heap.size) → wpList P ops Q rest (a.put o.dst v') w') : wpList P ops Q (o :: rest) a w :=
  wpList_plain hgd fun _ hK => wp_append_any w s x t ho base e i z size bytes ht hi hz hsize hby hzs hsz v n xs hs hown B A m c news hx hr h1 h63 hbytes hbase fun v' w' h2 h3 h4 => hK _ _ (h v' w' h2 h3 h4)

theorem step_append_any {ops : Array Oper} {o : Oper} {a : Act} {K : Act → World → Prop} {Q : Exit → Act → World → Prop} {E : Prop} (hgd : o.guard = none) (s x : Operand) (t : TypeId)
    (ho : o.op = .call { callee := .builtin .append, args := #[s, x], argTypes := #[t, t] })
    (base : Nat) (e : TypeId) (i : TypeInfo) (z : Value) (size bytes : Nat) (ht : P.underlying t = some (.slice e)) (hi : P.info? e = some i) (hz : i.zero = some z)
    (hsize : i.size = size) (hby : i.bytes = bytes) (hzs : z.cells.size = size) (hsz : 0 < size)
    (v : Value) (n : Nat) (xs : List Value) (hs : a.eval s = v) (hown : w.ownsRow base e size v n xs)
    (B : Nat) (A : Option Addr) (m c : Nat) (news : List Value) (hx : a.eval x = .slice A m c) (hr : Reads w B size A m news) (h1 : ∀ u ∈ news, u.oneCell' = true)
    (h63 : n + m ≤ maxLen) (hbytes : (n + m) * bytes ≤ 140737488355328) (hbase : base ≤ w.heap.size)
    (h : ∀ v' w', w'.ownsRow base e size v' (n + m) (xs ++ news) → w.grownBy w' v.ownBlock → (v'.ownBlock = v.ownBlock ∨ v'.ownBlock = some w.heap.size) → K (a.put o.dst v') w') :
    if Region.wanted o (yielded ops a.tmps) = true then Oper.wp P o a w K Q else E := by
  have hw : Region.wanted o (yielded ops a.tmps) = true := by simp [Region.wanted, hgd]
  rw [if_pos hw]
  exact wp_append_any w s x t ho base e i z size bytes ht hi hz hsize hby hzs hsz v n xs hs hown B A m c news hx hr h1 h63 hbytes hbase h
end

end Go.Proofs.Ytagikgejhckfbaa.Mem
/- Slices of bytes as lists of numbers: a slice that came in, a row of the call's own. No program's function is named. -/
namespace Go.Proofs.Ytagikgejhckfbaa.Crc
open Go.RowKit CrcMath Mem

theorem ret_int {k : IntKind} {a b : Int} (h : a = b) : Ending.returned (.int k a) = .returned (.int k b) := by rw [h]
/-- A slice of bytes that lies outside block b and reads as the numbers l. -/
def Bytes (w : World) (b : Nat) (A : Option Addr) (n : Nat) (l : List Nat) : Prop :=
  l.length = n ∧ (∀ x ∈ l, x < 256) ∧ (0 < n → ∃ g o, A = some ⟨g, o, none⟩ ∧ g < w.heap.size ∧ g ≠ b ∧ ∀ j, j < n → w.cell? ⟨g, o + j, none⟩ = some (.int .u8 (l.getD j 0 : Nat)))
theorem Bytes.keep {w w' : World} {b n : Nat} {A : Option Addr} {l : List Nat} (h : Bytes w b A n l) (hg : w.grownBy w' (some b)) : Bytes w' b A n l := by
  refine ⟨h.1, h.2.1, fun hn => ?_⟩
  obtain ⟨g, o, e, hlt, hne, hc⟩ := h.2.2 hn
  refine ⟨g, o, e, Nat.lt_of_lt_of_le hlt hg.size, hne, fun j hj => ?_⟩
  rw [hg.cell_far _ hlt (by simpa using hne)]
  exact hc j hj
theorem Bytes.none_ (w : World) (b : Nat) (A : Option Addr) : Bytes w b A 0 [] := ⟨rfl, by simp, by omega⟩

theorem flip_u32 {x : Nat} (hx : x < 4294967296) : bits BinOp.xor IntKind.u32 IntKind.u32.max (x : Int) = ((4294967295 - x : Nat) : Int) := by
  rw [show IntKind.u32.max = ((4294967295 : Nat) : Int) from by decide, u32_xor_nat _ _ (by omega) hx, Nat.xor_comm, ← not_eq_xor hx]
theorem take_getD (l : List Nat) (k : Nat) (h : k < l.length) : l.take (k + 1) = l.take k ++ [l.getD k 0] := by
  rw [List.take_succ_eq_append_getElem h]; simp [List.getD_eq_getElem?_getD, h]
theorem getD_lt {l : List Nat} (h : ∀ x ∈ l, x < 256) (k : Nat) : l.getD k 0 < 256 := by
  rw [List.getD_eq_getElem?_getD]
  rcases Nat.lt_or_ge k l.length with hk | hk
  · rw [List.getElem?_eq_getElem hk]; exact h _ (List.getElem_mem hk)
  · rw [List.getElem?_eq_none hk]; decide

theorem Bytes.len {w : World} {b n : Nat} {A : Option Addr} {l : List Nat} (h : Bytes w b A n l) : l.length = n := h.1
theorem Bytes.lt {w : World} {b n : Nat} {A : Option Addr} {l : List Nat} (h : Bytes w b A n l) : ∀ x ∈ l, x < 256 := h.2.1

theorem bytes_of_row {w : World} {a : Option Addr} {len cap : Nat} {zs : List Int}
    (h : (a = none ∧ len = 0 ∧ cap = 0 ∧ zs = []) ∨ ∃ x, a = some x ∧ len ≤ cap ∧ cap ≤ maxLen ∧ zs.length = cap ∧ (∀ i, i < zs.length → w.cell? (x.add i) = some (.int .u8 (zs.getD i 0))) ∧ ∀ n ∈ zs, (Lit.int .u8 n).wf = true) :
    ∃ l, Bytes w w.heap.size a len l ∧ len ≤ 9223372036854775807 := by
  rcases h with ⟨rfl, rfl, rfl, rfl⟩ | ⟨x, rfl, hl, hm, hz, hcell, hwf⟩
  · exact ⟨[], Bytes.none_ _ _ _, by omega⟩
  · have hb : ∀ n ∈ zs, 0 ≤ n ∧ n ≤ 255 := fun n hn => by simpa [Lit.wf, IntKind.min, IntKind.max, IntKind.signed, IntKind.bits] using hwf n hn
    have hg : ∀ j, j < cap → 0 ≤ zs.getD j 0 ∧ zs.getD j 0 ≤ 255 := fun j hj => by
      rw [List.getD_eq_getElem?_getD, List.getElem?_eq_getElem (by omega)]
      exact hb _ (List.getElem_mem (by omega))
    refine ⟨(zs.take len).map Int.toNat, ⟨by simp; omega, ?_, fun hn => ?_⟩, by unfold maxLen at hm; omega⟩
    · intro y hy
      obtain ⟨z, hz', rfl⟩ := List.mem_map.1 hy
      have := hb z (List.mem_of_mem_take hz')
      omega
    · obtain ⟨g, o, sp⟩ := x
      have h0 := hcell 0 (by omega)
      have hsp : sp = none := by simpa [Addr.add] using World.cell?_spot h0
      subst hsp
      have hlt : g < w.heap.size := by have := World.block_lt_of_cell? w _ h0; simpa [Addr.add] using this
      refine ⟨g, o, rfl, hlt, by omega, fun j hj => ?_⟩
      have h1 := hcell j (by omega)
      have h2 := hg j (by omega)
      have e1 : (⟨g, o, none⟩ : Addr).add j = ⟨g, o + j, none⟩ := by unfold Addr.add; split <;> simp_all
      rw [e1] at h1
      rw [h1]
      congr 2
      rw [List.getD_eq_getElem?_getD] at h2 ⊢
      rw [List.getElem?_eq_getElem (by omega)] at h2 ⊢
      rw [List.getD_eq_getElem?_getD, List.getElem?_map, List.getElem?_take_of_lt hj, List.getElem?_eq_getElem (by omega)]
      simp at h2 ⊢
      omega

set_option maxRecDepth 100000 in
/-- An argument of bytes, opened: nil, or a row; its length is the datum's, within the form's own reach. -/
theorem open_bytes {H : Type} {enc : TypeId × Value → H} {W : World} {base : Nat} {v : Value} {d : DataW H} {p : List MemPlace} (o : Value.okWide Try.prog W .any base 39 v)
    (h : DataW.Trod enc Try.prog W 0 (fun _ => true) true 39 v d p) {ts : List TypeId} {ds : List (DataW H)} (hsz : (DataW.weightsEach Try.prog ts ds).all (· ≤ reachBytes) = true) {j : Nat} (ht : ts[j]? = some 39) (hd : ds[j]? = some d) :
    ∃ a len cap l, v = .slice a len cap ∧ Bytes W W.heap.size a len l ∧ len ≤ cap ∧ cap ≤ 140737488351232 ∧ (cap = 0 ∨ ∃ el sp, d = .slice el sp ∧ el.length + sp.length = cap) := by
  obtain ⟨a, len, cap, rfl⟩ := Go.WideShapes.okWide_slice Try.underlying39 o
  obtain ⟨fuel, hf⟩ := h
  rcases Go.ChangeShapes.open_ints Try.underlying39 Try.underlying5 (by kernel_rfl) hf with ⟨hcs, _⟩ | ⟨x, l, c, zs, hcs, _, hl, hm, hz, hx, hcell, hwz⟩
  · simp [Value.cells] at hcs
    obtain ⟨rfl, rfl, rfl⟩ := hcs
    exact ⟨_, _, _, [], rfl, Bytes.none_ _ _ _, Nat.le_refl _, by omega, .inl rfl⟩
  · simp [Value.cells] at hcs
    obtain ⟨rfl, rfl, rfl⟩ := hcs
    simp only [Prod.mk.injEq] at hx
    obtain ⟨rfl, _⟩ := hx
    have hz' : zs.length = cap := by simpa using hz
    have := sized_slice hsz ht hd Try.underlying39
    rw [show Try.prog.bytesOf 5 = 1 from by kernel_rfl] at this
    simp only [Go.ChangeShapes.lits, List.length_map, List.length_take, List.length_drop, reachBytes] at this
    obtain ⟨bl, hbl, _⟩ := bytes_of_row (.inr ⟨x, rfl, hl, hm, hz', hcell, hwz⟩)
    exact ⟨_, _, _, bl, rfl, hbl, hl, by omega, .inr ⟨_, _, rfl, by simp [Go.ChangeShapes.lits]; omega⟩⟩

/-- Bytes as cells. -/
def u8s (l : List Nat) : List Value := l.map fun x => .int .u8 (x : Nat)
theorem u8s_length (l : List Nat) : (u8s l).length = l.length := by simp [u8s]
theorem u8s_append (l l' : List Nat) : u8s (l ++ l') = u8s l ++ u8s l' := by simp [u8s]
theorem u8s_one (l : List Nat) : ∀ u ∈ u8s l, u.oneCell' = true := by
  intro u hu
  obtain ⟨x, _, rfl⟩ := List.mem_map.1 hu
  rfl
theorem u8s_at (l : List Nat) (j : Nat) (h : j < l.length) : (u8s l)[j]? = some (.int .u8 (l.getD j 0 : Nat)) := by
  simp [u8s, List.getD_eq_getElem?_getD, h]
theorem Bytes.reads {w : World} {b n : Nat} {A : Option Addr} {l : List Nat} (h : Bytes w b A n l) : Reads w w.heap.size 1 A n (u8s l) := by
  refine ⟨by rw [u8s_length, h.1]; omega, fun hn => ?_⟩
  obtain ⟨g, o, e, hlt, _, hc⟩ := h.2.2 hn
  refine ⟨_, e, hlt, fun j u hu => ?_⟩
  have hj : j < l.length := by
    rcases Nat.lt_or_ge j l.length with h1 | h1
    · exact h1
    · rw [List.getElem?_eq_none (by rw [u8s_length]; exact h1)] at hu; cases hu
  rw [u8s_at l j hj] at hu
  have e1 : (⟨g, o, none⟩ : Addr).add j = ⟨g, o + j, none⟩ := by unfold Addr.add; split <;> simp_all
  rw [e1, hc j (by have := h.1; omega)]
  exact hu
theorem bytes_of_own {w : World} {base n b : Nat} {v : Value} {l : List Nat} (h : w.ownsRow base 5 1 v n (u8s l)) (hb : v.ownBlock ≠ some b) (hl : ∀ x ∈ l, x < 256) :
    ∃ A c, v = .slice A n c ∧ Bytes w b A n l := by
  have hlen : l.length = n := by have := h.1; rw [u8s_length] at this; omega
  rcases h.2 with ⟨rfl, hx⟩ | ⟨g, cap, cur, rfl, _⟩
  · have : l = [] := List.eq_nil_of_length_eq_zero (by omega)
    subst this
    subst hlen
    exact ⟨_, _, rfl, Bytes.none_ _ _ _⟩
  · have hcells := World.ownsRow.cells h (g := g) rfl
    refine ⟨_, _, rfl, hlen, hl, fun hn => ⟨g, 0, rfl, ?_, by simpa [Value.ownBlock] using hb, fun j hj => ?_⟩⟩
    · have := World.block_lt_of_cell? w _ (hcells 0 _ (u8s_at l 0 (by omega)))
      simpa [Addr.add] using this
    · have := hcells j _ (u8s_at l j (by omega))
      have e1 : (⟨g, 0, none⟩ : Addr).add j = ⟨g, 0 + j, none⟩ := by unfold Addr.add; split <;> simp_all
      rw [e1] at this
      exact this
theorem byte_info : (Try.prog.info? 5).map (fun i => (i.zero, i.size, i.bytes)) = some (some (.int .u8 0), 1, 1) := by kernel_rfl
theorem Bytes.at_ {w : World} {b n : Nat} {A : Option Addr} {l : List Nat} (h : Bytes w b A n l) (k : Nat) (hk : k < n) :
    ∃ g o, A = some ⟨g, o, none⟩ ∧ w.cell? ⟨g, o + k, none⟩ = some (.int .u8 (l.getD k 0 : Nat)) ∧ l.getD k 0 < 256 ∧ l.take (k + 1) = l.take k ++ [l.getD k 0] := by
  obtain ⟨g, o, e, _, _, hc⟩ := h.2.2 (by omega)
  exact ⟨g, o, e, hc k hk, getD_lt h.2.1 k, take_getD l k (by rw [h.1]; exact hk)⟩
theorem Bytes.take_ {w : World} {b n : Nat} {A : Option Addr} {l : List Nat} (h : Bytes w b A n l) (k : Nat) (hk : k ≤ n) : Bytes w b A k (l.take k) := by
  refine ⟨by rw [List.length_take, h.1]; omega, fun x hx => h.2.1 x (List.mem_of_mem_take hx), fun hk0 => ?_⟩
  obtain ⟨g, o, e, hlt, hne, hc⟩ := h.2.2 (by omega)
  refine ⟨g, o, e, hlt, hne, fun j hj => ?_⟩
  rw [hc j (by omega)]
  simp [List.getD_eq_getElem?_getD, hj]
theorem reads_new (w : World) (x : Value) : Reads (w.alloc (.cells #[x] 5)).drew (w.heap.size + 1) 1 (some ⟨w.heap.size, 0, none⟩) 1 [x] := by
  refine ⟨rfl, fun _ => ⟨_, rfl, by simp, fun j u hu => ?_⟩⟩
  match j with
  | 0 => simpa [Addr.add] using hu
  | j + 1 => simp at hu
theorem Bytes.drewN {w : World} {b n : Nat} {A : Option Addr} {l : List Nat} (h : Bytes w b A n l) (m : Nat) : Bytes (w.drewN m) b A n l := h
/-- Block g's first n cells read as the bytes ys. -/
def Row (w : World) (g n : Nat) (ys : List Nat) : Prop := ∃ cs, Blk w g 5 cs ∧ ys.length = n ∧ ∀ j, j < n → cs[j]? = some (.int .u8 (ys.getD j 0 : Nat))
theorem Row.set_ {w : World} {g n q : Nat} {ys : List Nat} (h : Row w g n ys) (hq : q < n) (y : Nat) : Row (w.setCell ⟨g, q, none⟩ (.int .u8 (y : Nat))) g n (ys.set q y) := by
  obtain ⟨cs, hb, hl, hc⟩ := h
  have hqs : q < cs.size := by
    rcases Nat.lt_or_ge q cs.size with h | h
    · exact h
    · have := hc q hq; rw [Array.getElem?_eq_none h] at this; cases this
  refine ⟨_, hb.set_ q _, by simpa using hl, fun j hj => ?_⟩
  by_cases e : q = j
  · subst e
    rw [Array.getElem?_setIfInBounds_self_of_lt hqs]
    simp [List.getD_eq_getElem?_getD, hl, hj]
  · rw [Array.getElem?_setIfInBounds_ne (by omega), hc j hj]
    simp [List.getD_eq_getElem?_getD, e]
theorem Row.drew {w : World} {g n : Nat} {ys : List Nat} (h : Row w g n ys) : Row w.drew g n ys := h
theorem Row.cell {w : World} {g n : Nat} {ys : List Nat} (h : Row w g n ys) (j : Nat) (hj : j < n) : w.cell? ⟨g, j, none⟩ = some (.int .u8 (ys.getD j 0 : Nat)) := by
  obtain ⟨cs, hb, _, hc⟩ := h
  rw [hb.cell]; exact hc j hj
theorem Row.frozen {w : World} {g n : Nat} {ys : List Nat} (h : Row w g n ys) (j : Nat) : w.frozen? ⟨g, j, none⟩ = false := by
  obtain ⟨cs, hb, _, _⟩ := h
  exact hb.frozen j
theorem Row.bytes {w : World} {b g n : Nat} {ys : List Nat} (h : Row w g n ys) (hne : g ≠ b) (hl : ∀ x ∈ ys, x < 256) : Bytes w b (some ⟨g, 0, none⟩) n ys := by
  have h' := h
  obtain ⟨cs, hb, hlen, _⟩ := h'
  exact ⟨hlen, hl, fun _ => ⟨g, 0, rfl, hb.lt, hne, fun j hj => by rw [Nat.zero_add]; exact h.cell j hj⟩⟩
theorem row_of_own {w : World} {base n : Nat} {v : Value} {l : List Nat} (h : w.ownsRow base 5 1 v n (u8s l)) (hn : 0 < n) :
    ∃ g cap, v = .slice (some ⟨g, 0, none⟩) n cap ∧ base ≤ g ∧ Row w g n l ∧ n ≤ cap := by
  have hlen : l.length = n := by have := h.1; rw [u8s_length] at this; omega
  rcases h.2 with ⟨rfl, hx⟩ | ⟨g, cap, cur, rfl, hb, hh, hnc, _, _, htake⟩
  · have : l = [] := List.eq_nil_of_length_eq_zero (by omega)
    subst this
    simp at hlen
    omega
  · refine ⟨g, cap, rfl, hb, ⟨cur, hh, hlen, fun j hj => ?_⟩, hnc⟩
    have h1 := u8s_at l j (by omega)
    rw [← htake, List.getElem?_take_of_lt (by omega), Array.getElem?_toList] at h1
    exact h1
end Go.Proofs.Ytagikgejhckfbaa.Crc
/- What writing at a place leaves of a row of bytes; a number read byte by byte. No program is named. -/
namespace Go.Proofs.Ytagikgejhckfbaa.Codec
open Go.RowKit CrcMath CodecMath Mem Crc

/-- The row L with xs written over it from place k on. -/
def lay (L : List Nat) (k : Nat) (xs : List Nat) : List Nat := splice L k xs
theorem lay_length (L : List Nat) (k : Nat) (xs : List Nat) (h : k + xs.length ≤ L.length) : (lay L k xs).length = L.length := length_splice _ _ _ h
theorem lay_nil (L : List Nat) (k : Nat) : lay L k [] = L := by simp [lay, splice]
theorem lay_set (L : List Nat) (k : Nat) (xs : List Nat) (b : Nat) (h : k + xs.length < L.length) : (lay L k xs).set (k + xs.length) b = lay L k (xs ++ [b]) := by
  have hk : (L.take k).length = k := by rw [List.length_take]; omega
  obtain ⟨y, hy⟩ : ∃ y, L.drop (k + xs.length) = y :: L.drop (k + xs.length + 1) := ⟨_, List.drop_eq_getElem_cons h⟩
  simp only [lay, splice, List.length_append, List.length_singleton]
  rw [hy, List.set_append, if_neg (by omega), hk, show k + xs.length - k = xs.length from by omega, List.set_append, if_neg (by omega), Nat.sub_self]
  simp [Nat.add_assoc]
theorem lay_lt (L : List Nat) (k : Nat) (xs : List Nat) (hL : ∀ x ∈ L, x < 256) (hx : ∀ x ∈ xs, x < 256) : ∀ x ∈ lay L k xs, x < 256 := by
  intro x h
  simp only [lay, splice, List.mem_append] at h
  rcases h with h | h | h
  · exact hL x (List.mem_of_mem_take h)
  · exact hx x h
  · exact hL x (List.mem_of_mem_drop h)
theorem lay_fill (pre xs : List Nat) (N : Nat) : lay (fill pre N) pre.length xs = fill (pre ++ xs) N := by
  simp only [lay, splice, fill, List.length_append]
  rw [List.take_left' rfl, ← List.drop_drop, List.drop_left' rfl, List.drop_replicate, ← List.append_assoc, Nat.sub_sub]
theorem fill_more (pre : List Nat) (k N : Nat) (h : pre.length + k ≤ N) : fill (pre ++ List.replicate k 0) N = fill pre N := by
  simp only [fill, List.append_assoc, List.length_append, List.length_replicate, List.replicate_append_replicate]
  congr 2
  omega
theorem u8s_lay (L : List Nat) (k : Nat) (xs : List Nat) : u8s (lay L k xs) = splice (u8s L) k (u8s xs) := by
  simp [lay, splice, u8s, List.map_take, List.map_drop]
theorem u8s_set (L : List Nat) (i b : Nat) : (u8s L).toArray.setIfInBounds i (.int .u8 (b : Nat)) = (u8s (L.set i b)).toArray := by
  simp [u8s, List.map_set]
theorem be_take_up (k m j : Nat) (h : j < k) : (be k m).take (j + 1) = (be k m).take j ++ [m / 256 ^ (k - 1 - j) % 256] := by
  have := be_take k m (k - 1 - j) (by omega)
  rwa [show k - (k - 1 - j) = j + 1 from by omega, show k - (k - 1 - j + 1) = j from by omega] at this
theorem be_small (n : Nat) (h : n < 256) : be 1 n = [n] := by simp [be, Nat.mod_eq_of_lt h]

/-- The bits of a number that was moved up by a byte, and a byte's: their sum. -/
theorem or_byte (x : Int) (b : Nat) (hb : b < 256) : bits BinOp.or IntKind.i64 (wrap64 (x * 256)) (b : Int) = wrap64 (wrap64 (256 * x) + b) := by
  have hx : (BitVec.ofInt 64 (wrap64 (x * 256))).toNat = ((x * 256) % 18446744073709551616).toNat := by
    simp only [BitVec.toNat_ofInt]
    unfold wrap64
    congr 1
    omega
  have hbn : (BitVec.ofInt 64 (b : Int)).toNat = b := ofInt_u64 b (by omega)
  have h0 : ((x * 256) % 18446744073709551616).toNat % 2 ^ 8 = 0 := by omega
  have hk : bits BinOp.or IntKind.i64 (wrap64 (x * 256)) (b : Int) = IntKind.i64.wrap (((BitVec.ofInt 64 (wrap64 (x * 256)) ||| BitVec.ofInt 64 (b : Int)).toNat : Nat) : Int) := rfl
  rw [hk, BitVec.toNat_or, hx, hbn, nat_join 8 _ _ h0 (by omega), IntKind.wrap_i64]
  unfold wrap64
  omega
theorem wrap_mul (x : Int) : wrap64 (wrap64 x * 256) = wrap64 (x * 256) := by unfold wrap64; omega
end Go.Proofs.Ytagikgejhckfbaa.Codec
/- A row of the call's own that may be full and frozen (what '[]byte("text")' makes): append onto it; what one row's growth leaves of another. No program is named. -/
namespace Go.Proofs.Ytagikgejhckfbaa.Mem
open Go.RowKit

/-- The value v is a row of n elements of the call's own (its block is not below base), reading as the cells xs; or it is full, whatever of it is frozen. -/
def Own (w : World) (base : Nat) (e : TypeId) (size : Nat) (v : Value) (n : Nat) (xs : List Value) : Prop :=
  w.ownsRow base e size v n xs ∨
  ∃ g cur fz, v = .slice (some ⟨g, 0, none⟩) n n ∧ base ≤ g ∧ w.heap[g]? = some (.cells cur e fz) ∧ n ≤ maxLen ∧ cur.toList = xs ∧ xs.length = n * size

/-- One row's growth: nothing but its own block has turned, and its new block is its old one, or new. -/
def Grew (w w' : World) (v v' : Value) : Prop := w.grownBy w' v.ownBlock ∧ ∀ j, v'.ownBlock = some j → v.ownBlock = some j ∨ w.heap.size ≤ j

section
variable {w w' w1 w2 : World} {base n size : Nat} {e : TypeId} {v v' v1 v2 : Value} {xs : List Value}
theorem Own.of (h : w.ownsRow base e size v n xs) : Own w base e size v n xs := .inl h
theorem Own.nil (w : World) (base : Nat) (e : TypeId) (size : Nat) : Own w base e size (.slice none 0 0) 0 [] := .inl (World.ownsRow_nil w base e size)
theorem Own.len (h : Own w base e size v n xs) : xs.length = n * size := by
  rcases h with h | ⟨_, _, _, _, _, _, _, _, h⟩
  · exact h.1
  · exact h
theorem Own.base_ (h : Own w base e size v n xs) : ∀ j, v.ownBlock = some j → base ≤ j ∧ j < w.heap.size := by
  rcases h with h | ⟨g, cur, fz, rfl, hb, hh, _⟩
  · exact h.lt
  · intro j hj
    simp [Value.ownBlock] at hj
    subst hj
    exact ⟨hb, (Array.getElem?_eq_some_iff.1 hh).1⟩
theorem Own.keep {row : Option Nat} (h : Own w base e size v n xs) (hg : w.grownBy w' row) (hne : ∀ j, v.ownBlock = some j → row ≠ some j) : Own w' base e size v n xs := by
  rcases h with h | ⟨g, cur, fz, rfl, hb, hh, rest⟩
  · refine .inl ⟨h.1, ?_⟩
    rcases h.2 with hn | ⟨g, cap, cur, rfl, hb, hh, rest⟩
    · exact .inl hn
    · refine .inr ⟨g, cap, cur, rfl, hb, ?_, rest⟩
      rw [hg.block g (Array.getElem?_eq_some_iff.1 hh).1 (fun e => hne g rfl e.symm)]
      exact hh
  · refine .inr ⟨g, cur, fz, rfl, hb, ?_, rest⟩
    rw [hg.block g (Array.getElem?_eq_some_iff.1 hh).1 (fun e => hne g rfl e.symm)]
    exact hh
theorem Own.drew (h : Own w base e size v n xs) : Own w.drew base e size v n xs := h
theorem Own.alloc (h : Own w base e size v n xs) (o : Obj) : Own (w.alloc o) base e size v n xs :=
  h.keep (World.grownBy_alloc w o none) (fun _ _ h => by cases h)
theorem Own.low {b : Nat} (h : Own w base e size v n xs) (hb : b ≤ base) : Own w b e size v n xs := by
  rcases h with h | ⟨g, cur, fz, hv, hbg, rest⟩
  · refine .inl ⟨h.1, ?_⟩
    rcases h.2 with hn | ⟨g, cap, cur, hv, hbg, rest⟩
    · exact .inl hn
    · exact .inr ⟨g, cap, cur, hv, by omega, rest⟩
  · exact .inr ⟨g, cur, fz, hv, by omega, rest⟩
/-- It is a slice that reads as its cells. -/
theorem Own.reads (h : Own w base e size v n xs) (h0 : 0 < n) : ∃ g cap, v = .slice (some ⟨g, 0, none⟩) n cap ∧ base ≤ g ∧ g < w.heap.size ∧ n ≤ cap ∧ cap ≤ maxLen ∧ ∀ j u, xs[j]? = some u → w.cell? ⟨g, j, none⟩ = some u := by
  rcases h with h | ⟨g, cur, fz, rfl, hb, hh, hm, rfl, hl⟩
  · have hc := fun g hg => World.ownsRow.cells h (g := g) hg
    rcases h.2 with ⟨_, rfl⟩ | ⟨g, cap, cur, rfl, hb, hh, h1, h2, _⟩
    · omega
    · refine ⟨g, cap, rfl, hb, (Array.getElem?_eq_some_iff.1 hh).1, h1, h2, fun j u hu => ?_⟩
      have := hc g rfl j u hu
      have e1 : (⟨g, 0, none⟩ : Addr).add j = ⟨g, j, none⟩ := by unfold Addr.add; split <;> simp_all
      rwa [e1] at this
  · refine ⟨g, n, rfl, hb, (Array.getElem?_eq_some_iff.1 hh).1, Nat.le_refl _, hm, fun j u hu => ?_⟩
    rw [cell_of_row w g j cur e fz hh]
    simpa using hu
theorem Own.shape (h : Own w base e size v n xs) : ∃ A cap, v = .slice A n cap ∧ n ≤ cap ∧ cap ≤ maxLen ∧ (A = none → n = 0 ∧ cap = 0) := by
  rcases h with h | ⟨g, cur, fz, rfl, hb, hh, hm, rfl, hl⟩
  · rcases h.2 with ⟨rfl, rfl⟩ | ⟨g, cap, cur, rfl, hb, hh, h1, h2, _⟩
    · exact ⟨_, _, rfl, Nat.le_refl _, by simp [maxLen], fun _ => ⟨rfl, rfl⟩⟩
    · exact ⟨_, _, rfl, h1, h2, fun h => by cases h⟩
  · exact ⟨_, _, rfl, Nat.le_refl _, hm, fun h => by cases h⟩
theorem Grew.refl (w : World) (v : Value) : Grew w w v v := ⟨World.grownBy.refl w _, fun _ h => .inl h⟩
theorem Grew.trans (h : Grew w w1 v v1) (k : Grew w1 w2 v1 v2) : Grew w w2 v v2 := by
  refine ⟨⟨k.1.os.trans h.1.os, k.1.tape.trans h.1.tape, k.1.output.trans h.1.output, Nat.le_trans h.1.size k.1.size, fun i hi hne => ?_⟩, fun j hj => ?_⟩
  · refine (k.1.block i (Nat.lt_of_lt_of_le hi h.1.size) (fun e => ?_)).trans (h.1.block i hi hne)
    rcases h.2 i e.symm with h1 | h1
    · exact hne h1.symm
    · omega
  · rcases k.2 j hj with h1 | h1
    · exact h.2 j h1
    · have := h.1.size; exact .inr (by omega)
theorem Grew.new (hg : w.grownBy w' none) (hv : ∀ j, v'.ownBlock = some j → w.heap.size ≤ j) : Grew w w' v v' :=
  ⟨⟨hg.os, hg.tape, hg.output, hg.size, fun i hi _ => hg.block i hi (by simp)⟩, fun j hj => .inr (hv j hj)⟩
/-- Ahead of a row's growth there was a step that turned nothing that was there. -/
theorem Grew.behind (hg : w.grownBy w1 none) (h : Grew w1 w2 v v2) : Grew w w2 v v2 :=
  ⟨⟨h.1.os.trans hg.os, h.1.tape.trans hg.tape, h.1.output.trans hg.output, Nat.le_trans hg.size h.1.size, fun i hi hne => (h.1.block i (Nat.lt_of_lt_of_le hi hg.size) hne).trans (hg.block i hi (by simp))⟩,
    fun j hj => (h.2 j hj).imp id (fun h1 => Nat.le_trans hg.size h1)⟩
theorem Grew.below (h : Grew w w' v v') {B : Nat} (hB : B ≤ w.heap.size) (hv : ∀ j, v.ownBlock = some j → B ≤ j) : Below B w w' := (Below.refl B w).grown h.1 hB hv
theorem grown_none_of_size {row : Option Nat} (hg : w.grownBy w' row) (hr : ∀ j, row = some j → w.heap.size ≤ j) : w.grownBy w' none :=
  ⟨hg.os, hg.tape, hg.output, hg.size, fun i hi _ => hg.block i hi (fun e => by have := hr i e.symm; omega)⟩
theorem grown_drew (w : World) (row : Option Nat) : w.grownBy w.drew row := ⟨rfl, rfl, rfl, Nat.le_refl _, fun _ _ _ => rfl⟩
theorem grown_trans_none (h : w.grownBy w1 none) (k : w1.grownBy w2 none) : w.grownBy w2 none := World.grownBy.trans h k
end

section
variable {P : Program} (w : World)
theorem run_append_own_full (base : Nat) (t ty e : TypeId) (i : TypeInfo) (z : Value) (size bytes : Nat) (ht : P.underlying t = some (.slice e)) (hi : P.info? e = some i) (hz : i.zero = some z)
    (hsize : i.size = size) (hby : i.bytes = bytes) (hzs : z.cells.size = size) (hsz : 0 < size)
    (v : Value) (n : Nat) (xs : List Value) (hown : Own w base e size v n xs)
    (B : Nat) (A : Option Addr) (m c : Nat) (news : List Value) (hr : Reads w B size A m news) (h1 : ∀ u ∈ news, u.oneCell' = true)
    (h63 : n + m ≤ maxLen) (hbytes : (n + m) * bytes ≤ 140737488355328) (hbase : base ≤ w.heap.size) :
    ∃ v' w', (Builtin.append_ #[t, t] ty #[v, .slice A m c]).run P w = .ok v' w' ∧ Own w' base e size v' (n + m) (xs ++ news) ∧ Grew w w' v v' := by
  rcases hown with hown | ⟨g, cur, fz, rfl, hb, hh, hm, rfl, hl⟩
  · obtain ⟨v', w', h2, h3, h4, h5⟩ := run_append_any (P := P) w base t ty e i z size bytes ht hi hz hsize hby hzs hsz v n xs hown B A m c news hr h1 h63 hbytes hbase
    refine ⟨v', w', h2, .inl h3, h4, fun j hj => ?_⟩
    rcases h5 with h5 | h5
    · exact .inl (h5 ▸ hj)
    · rw [h5] at hj; cases hj; exact .inr (Nat.le_refl _)
  · by_cases h0 : m = 0
    · subst h0
      have hn : news = [] := List.eq_nil_of_length_eq_zero (by simpa using hr.1)
      subst hn
      refine ⟨_, w, ?_, .inr ⟨g, cur, fz, rfl, hb, hh, hm, by simp, by simpa using hl⟩, Grew.refl _ _⟩
      cases A <;> simp [Builtin.append_, run_underlying ht, sizeOf, typeInfo, hi, Builtin.lenOf, Builtin.firstCells, loadCells, loadCellsFrom, storeCells]
    · obtain ⟨ad, rfl, _, hc⟩ := hr.2 (by omega)
      obtain ⟨v', w', h2, h3, h4⟩ := run_append_arg_grows (P := P) w t ty e i z size bytes ht hi hz hsize hby hzs hsz ⟨g, 0, none⟩ n n cur.toList hl
        (fun j u hu => by
          have e1 : (⟨g, 0, none⟩ : Addr).add j = ⟨g, j, none⟩ := by unfold Addr.add; split <;> simp_all
          rw [e1, cell_of_row w g j cur e fz hh]; simpa using hu)
        ad m c news hr.1 hc (by omega) h63 hbytes
      exact ⟨v', w', h2, (Own.of h3).low hbase, Grew.new h4 (fun j hj => (h3.lt j hj).1)⟩

theorem wp_append_own_full {o : Oper} {a : Act} {K : Act → World → Prop} {Q : Exit → Act → World → Prop} (s x : Operand) (t : TypeId)
    (ho : o.op = .call { callee := .builtin .append, args := #[s, x], argTypes := #[t, t] })
    (base : Nat) (e : TypeId) (i : TypeInfo) (z : Value) (size bytes : Nat) (ht : P.underlying t = some (.slice e)) (hi : P.info? e = some i) (hz : i.zero = some z)
    (hsize : i.size = size) (hby : i.bytes = bytes) (hzs : z.cells.size = size) (hsz : 0 < size)
    (v : Value) (n : Nat) (xs : List Value) (hs : a.eval s = v) (hown : Own w base e size v n xs)
    (B : Nat) (A : Option Addr) (m c : Nat) (news : List Value) (hx : a.eval x = .slice A m c) (hr : Reads w B size A m news) (h1 : ∀ u ∈ news, u.oneCell' = true)
    (h63 : n + m ≤ maxLen) (hbytes : (n + m) * bytes ≤ 140737488355328) (hbase : base ≤ w.heap.size)
    (h : ∀ v' w', Own w' base e size v' (n + m) (xs ++ news) → Grew w w' v v' → K (a.put o.dst v') w') : o.wp P a w K Q := by
  obtain ⟨v', w', hrun, h2, h3⟩ := run_append_own_full (P := P) w base t o.type e i z size bytes ht hi hz hsize hby hzs hsz v n xs hown B A m c news hr h1 h63 hbytes hbase
  unfold Oper.wp execOp
  simp only [ho, resolve, invoke, builtin, Sem.run_bind, Sem.run_pure, Result.andThen_ok, List.map_toArray, List.map_cons, List.map_nil, hs, hx, hrun]
  exact h v' w' h2 h3

theorem wpList_append_own_full {ops : Array Oper} {rest : List Oper} {o : Oper} {a : Act} {Q : Exit → Act → World → Prop} (hgd : o.guard = none) (s x : Operand) (t : TypeId)
    (ho : o.op = .call { callee := .builtin .append, args := #[s, x], argTypes := #[t, t] })
    (base : Nat) (e : TypeId) (i : TypeInfo) (z : Value) (size bytes : Nat) (ht : P.underlying t = some (.slice e)) (hi : P.info? e = some i) (hz : i.zero = some z)
    (hsize : i.size = size) (hby : i.bytes = bytes) (hzs : z.cells.size = size) (hsz : 0 < size)
    (v : Value) (n : Nat) (xs : List Value) (hs : a.eval s = v) (hown : Own w base e size v n xs)
    (B : Nat) (A : Option Addr) (m c : Nat) (news : List Value) (hx : a.eval x = .slice A m c) (hr : Reads w B size A m news) (h1 : ∀ u ∈ news, u.oneCell' = true)
    (h63 : n + m ≤ maxLen) (hbytes : (n + m) * bytes ≤ 140737488355328) (hbase : base ≤ w.heap.size)
    (h : ∀ v' w', Own w' base e size v' (n + m) (xs ++ news) → Grew w w' v v' → wpList P ops Q rest (a.put o.dst v') w') : wpList P ops Q (o :: rest) a w :=
  wpList_plain hgd fun _ hK => wp_append_own_full w s x t ho base e i z size bytes ht hi hz hsize hby hzs hsz v n xs hs hown B A m c news hx hr h1 h63 hbytes hbase fun v' w' h2 h3 => hK _ _ (h v' w' h2 h3)

theorem step_append_own_full {ops : Array Oper} {o : Oper} {a : Act} {K : Act → World → Prop} {Q : Exit → Act → World → Prop} {E : Prop} (hgd : o.guard = none) (s x : Operand) (t : TypeId)
    (ho : o.op = .call { callee := .builtin .append, args := #[s, x], argTypes := #[t, t] })
    (base : Nat) (e : TypeId) (i : TypeInfo) (z : Value) (size bytes : Nat) (ht : P.underlying t = some (.slice e)) (hi : P.info? e = some i) (hz : i.zero = some z)
    (hsize : i.size = size) (hby : i.bytes = bytes) (hzs : z.cells.size = size) (hsz : 0 < size)
    (v : Value) (n : Nat) (xs : List Value) (hs : a.eval s = v) (hown : Own w base e size v n xs)
    (B : Nat) (A : Option Addr) (m c : Nat) (news : List Value) (hx : a.eval x = .slice A m c) (hr : Reads w B size A m news) (h1 : ∀ u ∈ news, u.oneCell' = true)
    (h63 : n + m ≤ maxLen) (hbytes : (n + m) * bytes ≤ 140737488355328) (hbase : base ≤ w.heap.size)
    (h : ∀ v' w', Own w' base e size v' (n + m) (xs ++ news) → Grew w w' v v' → K (a.put o.dst v') w') :
    if Region.wanted o (yielded ops a.tmps) = true then Oper.wp P o a w K Q else E := by
  have hw : Region.wanted o (yielded ops a.tmps) = true := by simp [Region.wanted, hgd]
  rw [if_pos hw]
  exact wp_append_own_full w s x t ho base e i z size bytes ht hi hz hsize hby hzs hsz v n xs hs hown B A m c news hx hr h1 h63 hbytes hbase h
end
end Go.Proofs.Ytagikgejhckfbaa.Mem
/- The walks over the document's own answer, bit by bit. -/
namespace Go.Proofs.Ytagikgejhckfbaa.Crc
open Go.RowKit CrcMath Mem

theorem L_odd' {x : Nat} (hx : x < 4294967296) (h : ((x : Int) % 2 == 1) = true) : bits BinOp.xor IntKind.u32 (↑x / 2) 2197175160 = ((L x : Nat) : Int) := by
  have h1 : x % 2 = 1 := by simp at h; omega
  rw [show (↑x / 2 : Int) = ((x / 2 : Nat) : Int) from by omega, show (2197175160 : Int) = ((2197175160 : Nat) : Int) from rfl, u32_xor_nat _ _ (by omega) (by omega)]
  simp [L, h1]
theorem L_even' {x : Nat} (h : ((x : Int) % 2 == 1) = false) : (↑x / 2 : Int) = ((L x : Nat) : Int) := by
  have h1 : ¬ x % 2 = 1 := by simp at h; omega
  simp [L, h1]
theorem xor_u32 {x y : Nat} (hx : x < 4294967296) (hy : y < 256) : bits BinOp.xor IntKind.u32 (x : Int) (y : Int) = ((x ^^^ y : Nat) : Int) := u32_xor_nat _ _ hx (by omega)

set_option maxRecDepth 100000 in
set_option maxHeartbeats 800000 in
theorem ref_more (b : Nat) (s : Nat) (A : Option Addr) (n c : Nat) (l : List Nat) (w : World) (hs : s < 4294967296) (hl : Bytes w b A n l) (hn : n ≤ 9223372036854775807) :
    Calls Try.prog 60 #[.int .u32 s, .slice A n c] w fun e w' => e = .returned (.int .u32 (M s l : Nat)) ∧ w = w' := by
  have hfl := flip_u32 hs
  have hM : M s l = 4294967295 - C (4294967295 - s) l := rfl
  have HM := Lib.hid hM; clear hM
  generalize hs' : 4294967295 - s = s' at *
  have hs'l : s' < 4294967296 := by omega
  clear hs'
  obtain ⟨hlen, hby, hcell⟩ := hl
  have HC := Lib.hid hcell; have HLEN := Lib.hid hlen; clear hcell hlen
  go_enter Try.func60, Try.ntmps60
  go_wp2
  go_loop [5, 6] (fun v i => ∃ k : Nat, k ≤ n ∧ i = .int .i64 k ∧ v = .int .u32 (C s' (l.take k) : Nat)) (fun _ i => n - (intOf i).toNat)
  case atStart => exact ⟨0, by omega, rfl, by simp [C]⟩
  case round =>
    obtain ⟨k, hk, rfl, rfl⟩ := hrel
    have hxl := C_lt (l.take k) hs'l (fun x hx' => hby x (List.mem_of_mem_take hx'))
    by_cases hlt : k < n
    · obtain ⟨g, o, rfl, _, _, hc⟩ := HC.out (by omega)
      have hck := hc k hlt
      clear hc
      have hyl := getD_lt hby k
      have hsn : C s' (l.take (k + 1)) = Lk 8 (C s' (l.take k) ^^^ l.getD k 0) := by rw [take_getD l k (by rw [HLEN.out]; exact hlt), C_snoc]; rfl
      have HSN := Lib.hid hsn; clear hsn
      generalize hx : C s' (l.take k) = x at *
      generalize hy : l.getD k 0 = y at *
      clear hx hy hfl
      have h32 := xor_u32 hxl hyl
      have hzl : x ^^^ y < 4294967296 := Nat.xor_lt_two_pow (n := 32) hxl (by omega)
      generalize hz : x ^^^ y = z at *
      clear hz
      go_wp2
      go_loop [5, 7] (fun v i => ∃ j : Nat, j ≤ 8 ∧ i = .int .i64 j ∧ v = .int .u32 (Lk j z : Nat)) (fun _ i => 8 - (intOf i).toNat)
      case atStart => exact ⟨0, by omega, rfl, rfl⟩
      case round =>
        obtain ⟨j, hj, rfl, rfl⟩ := hrel
        have hb := Lk_lt hzl j
        have HO := Lib.hid (L_odd' hb); have HE := Lib.hid (@L_even' (Lk j z))
        have hp : (0 : Int) ≤ (Lk j z : Nat) := by omega
        go_wp2
        · have h1 := HO.out (by assumption)
          go_round
          case rel => exact ⟨j + 1, by omega, by go_num, by rw [h1]; rfl⟩
          case measure => simp [intOf]; omega
        · have h1 := HE.out (by assumption)
          go_round
          case rel => exact ⟨j + 1, by omega, by go_num, by rw [h1]; rfl⟩
          case measure => simp [intOf]; omega
        · obtain rfl : j = 8 := by omega
          go_round
          case rel => exact ⟨k + 1, by omega, by go_num, by rw [HSN.out]⟩
          case measure => simp [intOf]; omega
    · obtain rfl : k = n := by omega
      have htk : l.take k = l := List.take_of_length_le (by rw [HLEN.out]; exact Nat.le_refl _)
      rw [htk] at hxl
      have hf2 := flip_u32 hxl
      clear hfl
      go_wp2
      go_ret
      exact ⟨ret_int (by rw [HM.out]), rfl⟩

theorem ref_sum (b : Nat) (A : Option Addr) (n c : Nat) (l : List Nat) (w : World) (hl : Bytes w b A n l) (hn : n ≤ 9223372036854775807) :
    Calls Try.prog 55 #[.slice A n c] w fun e w' => e = .returned (.int .u32 (M 0 l : Nat)) ∧ w = w' := by
  have HL := Lib.hid hl; clear hl
  go_enter Try.func55, Try.ntmps55
  go_wp2_with (go_at_call 60; refine (ref_more b 0 A n c l _ (by omega) HL.out hn).mono ?_; rintro e w1 ⟨rfl, rfl⟩)
  go_ret
  exact ⟨rfl, rfl⟩
end Go.Proofs.Ytagikgejhckfbaa.Crc
/- The walks over the small functions of the document's own answer for layer 2: in, put, Number, filled, Same. -/
namespace Go.Proofs.Ytagikgejhckfbaa.Codec
open Go.RowKit CrcMath CodecMath Mem Crc

set_option maxHeartbeats 400000 in
theorem in_any (n m : Int) (w : World) : Calls Try.prog 34 #[.int .i64 n, .int .i64 m] w fun e w' => e = .returned (.bool (inB n m)) ∧ w = w' := by
  by_cases h : 0 ≤ n
  · have hi : inB n m = decide (n ≤ m) := by simp [inB, h]
    have HI := Lib.hid hi; clear hi
    go_enter Try.func34, Try.ntmps34
    go_wp2
    go_ret
    exact ⟨by rw [HI.out]; rfl, rfl⟩
  · have hi : inB n m = false := by simp [inB, h]
    have HI := Lib.hid hi; clear hi
    have hd : decide (0 ≤ n) = false := by simp; omega
    go_enter Try.func34, Try.ntmps34
    go_wp2
    go_ret
    exact ⟨by rw [HI.out]; rfl, rfl⟩

/-- What putting or filling leaves: a row of the call's own that reads as so many bytes more. -/
def Put (w : World) (base : Nat) (v : Value) (n : Nat) (l : List Nat) (e : Ending) (w' : World) : Prop :=
  ∃ v', e = .returned v' ∧ Own w' base 5 1 v' n (u8s l) ∧ Grew w w' v v'

theorem reads_one (w : World) (x : Value) : Reads (w.alloc (.cells #[x] 5)) (w.heap.size + 1) 1 (some ⟨w.heap.size, 0, none⟩) 1 [x] := by
  refine ⟨rfl, fun _ => ⟨_, rfl, by simp, fun j u hu => ?_⟩⟩
  match j with
  | 0 => simpa [Addr.add] using hu
  | j + 1 => simp at hu
theorem byte_of (m i : Nat) : ((m : Int) / 2 ^ (8 * i) % 256) = ((m / 256 ^ i % 256 : Nat) : Int) := by
  rw [show ((2 : Int) ^ (8 * i)) = ((256 ^ i : Nat) : Int) from by rw [← two_pow_8]; simp]
  generalize 256 ^ i = p
  simp

set_option maxRecDepth 100000 in
set_option maxHeartbeats 800000 in
theorem put_any (base : Nat) (v : Value) (n : Nat) (l : List Nat) (m k : Nat) (w : World) (hown : Own w base 5 1 v n (u8s l)) (hb : base ≤ w.heap.size) (hk : k ≤ 8) (hn : n ≤ 70368744177664) :
    Calls Try.prog 35 #[v, .int .i64 m, .int .i64 k] w (Put w base v (n + k) (l ++ be k m)) := by
  obtain ⟨i0, hi0, hz0, hz1, hz2⟩ := info_parts byte_info
  have hi := Lib.hid hi0; have z0 := Lib.hid hz0; have z1 := Lib.hid hz1; have z2 := Lib.hid hz2; clear hi0 hz0 hz1 hz2
  have HO := Lib.hid hown; clear hown
  go_enter Try.func35, Try.ntmps35
  go_wp2
  go_loopw [0, 7] (fun u i wr => ∃ (j : Nat) (i' : Int), j ≤ k ∧ i' = (j : Int) - 1 ∧ i = .int .i64 i' ∧ Own wr base 5 1 u (n + (k - j)) (u8s (l ++ (be k m).take (k - j))) ∧ Grew w wr v u) (fun _ i _ => (intOf i + 1).toNat)
  case atStart => exact ⟨k, _, by omega, rfl, rfl, by simpa using HO.out, Grew.refl _ _⟩
  case round =>
    obtain ⟨j, i', hj, hji, rfl, ho, hg⟩ := hrel
    have HOr := Lib.hid ho; have HG := Lib.hid hg; clear ho hg
    by_cases hj0 : j = 0
    · subst hj0
      obtain rfl : i' = -1 := by omega
      clear hji
      go_wp2
      go_ret
      exact ⟨_, rfl, by have h := HOr.out; rwa [Nat.sub_zero, List.take_of_length_le (by rw [be_length]; omega)] at h, HG.out⟩
    · obtain ⟨q, rfl⟩ : ∃ q, j = q + 1 := ⟨j - 1, by omega⟩
      obtain rfl : i' = (q : Int) := by omega
      have hbt := be_take k m q (by omega)
      have hby := byte_of m q
      have HB := Lib.hid hbt; have HY := Lib.hid hby; clear hbt hby
      have hlen := HOr.out.len
      have hq0 : (0 : Int) ≤ q := by omega
      clear hji
      go_wp2_with (at_builtin
                   refine wpList_append_own_full _ rfl (.tmp 14) (.tmp 20) _ rfl base 5 i0 _ 1 1 Try.underlying39 hi.out z0.out z1.out z2.out rfl (by omega) u0 (n + (k - (q + 1))) _ rfl (HOr.out.alloc _)
                     _ _ 1 1 _ rfl (reads_one _ _) (fun u hu => by simp at hu; subst hu; rfl) (by simp only [maxLen]; omega) (by omega) (by have := HG.out.1.size; simp; omega) ?_
                   intro v' w' hown' hgr'
                   have HO' := Lib.hid hown'; have HG' := Lib.hid hgr'; clear hown' hgr')
      go_roundw
      case rel =>
        refine ⟨q, _, by omega, rfl, rfl, ?_, HG.out.trans (Grew.behind (World.grownBy_alloc wr _ none) HG'.out)⟩
        have h := HO'.out
        rw [HY.out] at h
        rw [HB.out, ← List.append_assoc, u8s_append, show n + (k - q) = n + (k - (q + 1)) + 1 from by omega]
        exact h
      case measure => simp [intOf]

set_option maxRecDepth 100000 in
set_option maxHeartbeats 800000 in
theorem filled_any (base : Nat) (v : Value) (n : Nat) (l : List Nat) (m : Nat) (w : World) (hown : Own w base 5 1 v n (u8s l)) (hb : base ≤ w.heap.size) (hn : n ≤ m) (hm : m ≤ 4096) :
    Calls Try.prog 47 #[v, .int .i64 m] w (Put w base v m (fill l m)) := by
  obtain ⟨i0, hi0, hz0, hz1, hz2⟩ := info_parts byte_info
  have hi := Lib.hid hi0; have z0 := Lib.hid hz0; have z1 := Lib.hid hz1; have z2 := Lib.hid hz2; clear hi0 hz0 hz1 hz2
  have HO := Lib.hid hown; clear hown
  go_enter Try.func47, Try.ntmps47
  go_wp2
  go_loopw [0] (fun u wr => ∃ (j : Nat) (ys : List Nat), j ≤ m ∧ Own wr base 5 1 u j (u8s ys) ∧ Grew w wr v u ∧ fill ys m = fill l m) (fun u _ => m - (match u with | .slice _ j _ => j | _ => 0))
  case atStart => exact ⟨n, l, hn, HO.out, Grew.refl _ _, rfl⟩
  case round =>
    obtain ⟨j, ys, hj, ho, hg, hf⟩ := hrel
    obtain ⟨A, cap, rfl, hjc, hcm, _⟩ := ho.shape
    have HOr := Lib.hid ho; have HG := Lib.hid hg; have HF := Lib.hid hf; clear ho hg hf
    have hlen := HOr.out.len
    rw [u8s_length, Nat.mul_one] at hlen
    have HLEN := Lib.hid hlen; clear hlen
    by_cases hlt : j < m
    · go_wp2_with (at_builtin
                   refine wpList_append_own_full _ rfl (.tmp 9) (.tmp 10) _ rfl base 5 i0 _ 1 1 Try.underlying39 hi.out z0.out z1.out z2.out rfl (by omega) (.slice A j cap) j _ rfl (HOr.out.alloc _)
                     _ _ 1 1 _ rfl (reads_one _ _) (fun u hu => by simp at hu; subst hu; rfl) (by simp only [maxLen]; omega) (by omega) (by have := HG.out.1.size; simp; omega) ?_
                   intro v' w' hown' hgr'
                   have HO' := Lib.hid hown'; have HG' := Lib.hid hgr'; clear hown' hgr')
      obtain ⟨A', cap', hv', hjc', hcm', _⟩ := HO'.out.shape
      go_roundw
      case rel => exact ⟨j + 1, ys ++ [0], by omega, by rw [u8s_append]; exact HO'.out, HG.out.trans (Grew.behind (World.grownBy_alloc wr _ none) HG'.out), by rw [← fill_one _ _ (by rw [HLEN.out]; exact hlt)]; exact HF.out⟩
      case measure => rw [hv']; simp; omega
    · obtain rfl : j = m := by omega
      go_wp2
      go_ret
      exact ⟨_, rfl, by rw [← HF.out, fill_full _ _ (by rw [HLEN.out]; exact Nat.le_refl _)]; exact HOr.out, HG.out⟩

theorem own_bytes {w : World} {base n : Nat} {v : Value} {l : List Nat} (h : Own w base 5 1 v n (u8s l)) (hl : ∀ x ∈ l, x < 256) :
    ∃ A cap, v = .slice A n cap ∧ Bytes w w.heap.size A n l ∧ n ≤ cap ∧ cap ≤ maxLen := by
  have hlen := h.len
  rw [u8s_length, Nat.mul_one] at hlen
  by_cases h0 : n = 0
  · subst h0
    obtain ⟨A, cap, hv, h1, h2, _⟩ := h.shape
    obtain rfl : l = [] := List.eq_nil_of_length_eq_zero hlen
    exact ⟨A, cap, hv, Bytes.none_ _ _ _, h1, h2⟩
  · obtain ⟨g, cap, hv, _, hlt, h1, h2, hc⟩ := h.reads (by omega)
    refine ⟨_, cap, hv, ⟨hlen, hl, fun _ => ⟨g, 0, rfl, hlt, by omega, fun j hj => ?_⟩⟩, h1, h2⟩
    rw [Nat.zero_add]
    exact hc j _ (u8s_at l j (by omega))

theorem byte_of_sum (s i : Nat) : ((s : Int) / 2 ^ (8 * i) % 256) = ((s / 256 ^ i % 256 : Nat) : Int) := byte_of s i
theorem le4_take (s i : Nat) (h : i < 4) : (le4 s).take (i + 1) = (le4 s).take i ++ [s / 256 ^ i % 256] := by
  match i, h with
  | 0, _ => simp [le4]
  | 1, _ => simp [le4]
  | 2, _ => simp [le4]
  | 3, _ => simp [le4]

set_option maxRecDepth 100000 in
set_option maxHeartbeats 800000 in
theorem summed_any (base b : Nat) (v : Value) (n : Nat) (l : List Nat) (A : Option Addr) (m c : Nat) (l2 : List Nat) (w : World) (hown : Own w base 5 1 v n (u8s l)) (hb : base ≤ w.heap.size) (hn : n ≤ 4096)
    (h2 : Bytes w b A m l2) (hm : m ≤ 9223372036854775807) :
    Calls Try.prog 48 #[v, .slice A m c] w (Put w base v (n + 4) (l ++ le4 (M 0 l2))) := by
  obtain ⟨i0, hi0, hz0, hz1, hz2⟩ := info_parts byte_info
  have hi := Lib.hid hi0; have z0 := Lib.hid hz0; have z1 := Lib.hid hz1; have z2 := Lib.hid hz2; clear hi0 hz0 hz1 hz2
  have HO := Lib.hid hown; have H2 := Lib.hid h2; clear hown h2
  go_enter Try.func48, Try.ntmps48
  go_wp2_with (go_at_call 55; refine (ref_sum b _ _ _ l2 _ H2.out hm).mono ?_; rintro e w1 ⟨rfl, rfl⟩)
  have hsl := M_lt 0 l2
  generalize M 0 l2 = s at *
  go_loopw [0, 6] (fun u i wr => ∃ j : Nat, j ≤ 4 ∧ i = .int .i64 j ∧ Own wr base 5 1 u (n + j) (u8s (l ++ (le4 s).take j)) ∧ Grew w wr v u) (fun _ i _ => 4 - (intOf i).toNat)
  case atStart => exact ⟨0, by omega, rfl, by simpa using HO.out, Grew.refl _ _⟩
  case round =>
    obtain ⟨j, hj, rfl, ho, hg⟩ := hrel
    have HOr := Lib.hid ho; have HG := Lib.hid hg; clear ho hg
    by_cases hlt : j < 4
    · have hbt := le4_take s j hlt
      have hby := byte_of_sum s j
      have HB := Lib.hid hbt; have HY := Lib.hid hby; clear hbt hby
      have hq0 : (0 : Int) ≤ j := by omega
      go_wp2_with (at_builtin
                   refine wpList_append_own_full _ rfl (.tmp 13) (.tmp 19) _ rfl base 5 i0 _ 1 1 Try.underlying39 hi.out z0.out z1.out z2.out rfl (by omega) u0 (n + j) _ rfl (HOr.out.alloc _)
                     _ _ 1 1 _ rfl (reads_one _ _) (fun u hu => by simp at hu; subst hu; rfl) (by simp only [maxLen]; omega) (by omega) (by have := HG.out.1.size; simp; omega) ?_
                   intro v' w' hown' hgr'
                   have HO' := Lib.hid hown'; have HG' := Lib.hid hgr'; clear hown' hgr')
      go_roundw
      case rel =>
        refine ⟨j + 1, by omega, by go_num, ?_, HG.out.trans (Grew.behind (World.grownBy_alloc wr _ none) HG'.out)⟩
        have h := HO'.out
        rw [HY.out] at h
        rw [HB.out, ← List.append_assoc, u8s_append]
        exact h
      case measure => simp [intOf]; omega
    · obtain rfl : j = 4 := by omega
      go_wp2
      go_ret
      exact ⟨_, rfl, by have h := HOr.out; rwa [List.take_of_length_le (by rw [le4_length]; omega)] at h, HG.out⟩

theorem u8_lt (l : List Nat) (n : Nat) (h : ∀ x ∈ l, x < 256) : ∀ x ∈ fill l n, x < 256 := fill_lt l n h
set_option maxRecDepth 100000 in
set_option maxHeartbeats 800000 in
theorem framed_any (base : Nat) (v : Value) (n : Nat) (l : List Nat) (w : World) (hown : Own w base 5 1 v n (u8s l)) (hb : base ≤ w.heap.size) (hn : n ≤ 252) (hl : ∀ x ∈ l, x < 256) :
    Calls Try.prog 36 #[v] w (Put w base v 256 (frame l)) := by
  have HO := Lib.hid hown; clear hown
  have HL := Lib.hid hl; clear hl
  go_enter Try.func36, Try.ntmps36
  go_wp2_with fail
  refine (filled_any base v n l 252 _ HO.out hb hn (by omega)).mono ?_
  rintro e w1 ⟨v1, rfl, ho, hg⟩
  have HO1 := Lib.hid ho; have HG := Lib.hid hg; clear ho hg
  obtain ⟨A, cap, hv, hby, _, _⟩ := own_bytes HO1.out (fill_lt _ _ HL.out)
  subst hv
  have HB := Lib.hid hby; clear hby
  have hb1 : base ≤ w1.heap.size := by have := HG.out.1.size; omega
  go_wp2_with fail
  refine (summed_any base w1.heap.size _ 252 (fill l 252) A 252 cap (fill l 252) _ HO1.out hb1 (by omega) HB.out (by omega)).mono ?_
  rintro e w2 ⟨v2, rfl, ho, hg⟩
  have HO2 := Lib.hid ho; have HG2 := Lib.hid hg; clear ho hg
  go_wp2
  go_ret
  exact ⟨_, rfl, HO2.out, HG.out.trans HG2.out⟩

theorem wrap_step (x b : Int) : wrap64 (wrap64 (256 * wrap64 x) + b) = wrap64 (256 * x + b) := by unfold wrap64; omega
theorem num_step (l : List Nat) (a j : Nat) : wrap64 (wrap64 (256 * wrap64 (num l a j)) + ((l.getD (a + j) 0 : Nat) : Int)) = wrap64 (num l a (j + 1) : Nat) := by
  rw [wrap_step]
  show _ = wrap64 ((256 * num l a j + l.getD (a + j) 0 : Nat) : Int)
  simp
theorem num_step0 (l : List Nat) (a j : Nat) (h : l.length ≤ a + j) : wrap64 (wrap64 (256 * wrap64 (num l a j))) = wrap64 (num l a (j + 1) : Nat) := by
  have h1 := num_step l a j
  rw [show l.getD (a + j) 0 = 0 from by simp [List.getD_eq_getElem?_getD, List.getElem?_eq_none h]] at h1
  rw [← h1]
  unfold wrap64
  omega
/-- Nothing but the tape was turned. -/
def Drawn (w w' : World) : Prop := ∃ k, w' = w.drewN k
theorem Drawn.refl (w : World) : Drawn w w := ⟨0, rfl⟩
theorem drawn_grown {w w' : World} (h : Drawn w w') (row : Option Nat) : w.grownBy w' row := by
  obtain ⟨k, rfl⟩ := h
  exact ⟨rfl, rfl, rfl, Nat.le_refl _, fun _ _ _ => rfl⟩
theorem Drawn.drew {w w' : World} (h : Drawn w w') : Drawn w w'.drew := by
  obtain ⟨k, rfl⟩ := h
  exact ⟨k + 1, rfl⟩
theorem Drawn.trans {w w1 w2 : World} (h : Drawn w w1) (k : Drawn w1 w2) : Drawn w w2 := by
  obtain ⟨i, rfl⟩ := h
  obtain ⟨j, rfl⟩ := k
  exact ⟨i + j, World.drewN_drewN _ _ _⟩
theorem same_len {l l' : List Nat} (h : l.length ≠ l'.length) : decide (l = l') = false := by
  rw [decide_eq_false_iff_not]; exact fun e => h (by rw [e])
theorem same_no {l l' : List Nat} (k : Nat) (h : l.getD k 0 ≠ l'.getD k 0) : decide (l = l') = false := by
  rw [decide_eq_false_iff_not]; exact fun e => h (by rw [e])
theorem same_yes {l l' : List Nat} (n : Nat) (h0 : l.length = n) (h1 : l'.length = n) (h : ∀ j, j < n → l.getD j 0 = l'.getD j 0) : decide (l = l') = true := by
  rw [decide_eq_true_iff]
  apply List.ext_getElem (by omega)
  intro i h2 h3
  have := h i (by omega)
  simpa [List.getD_eq_getElem?_getD, h2, h3] using this

end Go.Proofs.Ytagikgejhckfbaa.Codec
