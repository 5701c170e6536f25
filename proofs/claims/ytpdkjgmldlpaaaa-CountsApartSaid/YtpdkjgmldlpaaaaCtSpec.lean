/- Counts in plain words: what each call answers and leaves. No program. -/
import Derived.Test.YtpdkjgmldlpaaaaCodecSpec3
namespace Go.Proofs.Ytpdkjgmldlpaaaa.Cts
open Go.Proofs.Ytpdkjgmldlpaaaa.CrcMath Go.Proofs.Ytpdkjgmldlpaaaa.CodecMath Go.Proofs.Ytpdkjgmldlpaaaa.Codec

/-- The counts now, and what an Undo goes back to. -/
structure Ct where
  N : Nat → Int
  W : Nat → Int
def zeroCt : Ct := ⟨fun _ => 0, fun _ => 0⟩
def upd (f : Nat → Int) (p : Nat) (v : Int) : Nat → Int := fun q => if q = p then v else f q
theorem upd_same (f : Nat → Int) (p : Nat) (v : Int) : upd f p v p = v := if_pos rfl
theorem upd_ne (f : Nat → Int) {p q : Nat} (v : Int) (h : q ≠ p) : upd f p v q = f q := if_neg h
structure CtOk (n : Nat) (x : Ct) : Prop where
  one : 16 ≤ n
  most : n ≤ 1024
  bN : ∀ p, 0 ≤ x.N p ∧ x.N p ≤ 1000
  bW : ∀ p, 0 ≤ x.W p ∧ x.W p ≤ 1000
  oN : ∀ p, n ≤ p → x.N p = 0
  oW : ∀ p, n ≤ p → x.W p = 0
theorem zero_ok {n : Nat} (h1 : 16 ≤ n) (h2 : n ≤ 1024) : CtOk n zeroCt := ⟨h1, h2, fun _ => by simp [zeroCt], fun _ => by simp [zeroCt], fun _ _ => rfl, fun _ _ => rfl⟩
def row (n : Nat) (f : Nat → Int) : List Int := (List.range n).map f
theorem row_length (n : Nat) (f : Nat → Int) : (row n f).length = n := by simp [row]
theorem row_get (n : Nat) (f : Nat → Int) (p : Nat) : (row n f)[p]? = if p < n then some (f p) else none := by
  by_cases h : p < n
  · rw [if_pos h, row, List.getElem?_map, List.getElem?_range h]; rfl
  · rw [if_neg h, List.getElem?_eq_none (by rw [row_length]; omega)]
theorem row_getD {n p : Nat} (f : Nat → Int) (h : p < n) : (row n f).getD p 0 = f p := by
  rw [List.getD_eq_getElem?_getD, row_get, if_pos h]; rfl
theorem row_set (n : Nat) (f : Nat → Int) (p : Nat) (v : Int) : (row n f).set p v = row n (upd f p v) := by
  apply List.ext_getElem?
  intro i
  rw [List.getElem?_set, row_get, row_get, row_length]
  by_cases h : p = i
  · subst h
    by_cases hp : p < n <;> simp [hp, upd_same]
  · rw [if_neg h, upd_ne _ _ (fun e => h e.symm)]
theorem row_congr {n : Nat} {f g : Nat → Int} (h : ∀ p, p < n → f p = g p) : row n f = row n g := by
  apply List.ext_getElem?
  intro i
  rw [row_get, row_get]
  by_cases hi : i < n
  · rw [if_pos hi, if_pos hi, h i hi]
  · rw [if_neg hi, if_neg hi]
def manyN (n : Nat) : Nat := (n + 119) / 120
/-- Is there such a page? -/
def isP (n : Nat) (p : Int) : Bool := decide (0 ≤ p) && decide (p < n)
theorem isP_nat {n : Nat} {p : Int} (h : isP n p = true) : ∃ k : Nat, p = (k : Int) ∧ k < n := by
  simp [isP] at h
  exact ⟨p.toNat, by omega, by omega⟩
theorem isP_of {n k : Nat} (h : k < n) : isP n (k : Int) = true := by simp [isP]; omega
theorem isP_no {n : Nat} {p : Int} (h : isP n p = false) : p < 0 ∨ (n : Int) ≤ p := by
  simp [isP] at h; omega
def getE (n : Nat) (x : Ct) (p : Int) : Int := if isP n p then x.N p.toNat else 0
theorem getE_nat {n k : Nat} (x : Ct) (h : k < n) : getE n x (k : Int) = x.N k := by rw [getE, if_pos (isP_of h)]; rfl
theorem getE_no {n : Nat} {p : Int} (x : Ct) (h : isP n p = false) : getE n x p = 0 := by rw [getE, h]; rfl
def fits (a b : Int) : Bool := decide (0 ≤ a + b) && decide (a + b ≤ 1000)
def addE (n : Nat) (x : Ct) (p by_ : Int) : Int × Ct := if isP n p then (if fits (x.N p.toNat) by_ then (0, ⟨upd x.N p.toNat (x.N p.toNat + by_), x.W⟩) else (21, x)) else (2, x)
theorem addE_no {n : Nat} {x : Ct} {p b : Int} (h : isP n p = false) : addE n x p b = (2, x) := by rw [addE, h]; rfl
theorem addE_bad {n k : Nat} {x : Ct} {b : Int} (h : k < n) (hf : fits (x.N k) b = false) : addE n x (k : Int) b = (21, x) := by
  rw [addE, if_pos (isP_of h), Int.toNat_natCast, hf]; rfl
theorem addE_yes {n k : Nat} {x : Ct} {b : Int} (h : k < n) (hf : fits (x.N k) b = true) : addE n x (k : Int) b = (0, ⟨upd x.N k (x.N k + b), x.W⟩) := by
  rw [addE, if_pos (isP_of h), Int.toNat_natCast, hf]; rfl
theorem CtOk.add {n : Nat} {x : Ct} (h : CtOk n x) (p b : Int) : CtOk n (addE n x p b).2 := by
  cases hp : isP n p with
  | false => rw [addE_no hp]; exact h
  | true =>
    obtain ⟨k, rfl, hk⟩ := isP_nat hp
    cases hf : fits (x.N k) b with
    | false => rw [addE_bad hk hf]; exact h
    | true =>
      rw [addE_yes hk hf]
      simp [fits] at hf
      refine ⟨h.one, h.most, fun q => ?_, h.bW, fun q hq => ?_, h.oW⟩
      · by_cases e : q = k
        · subst e; simp only [upd_same]; exact hf
        · simp only [upd_ne _ _ e]; exact h.bN q
      · simp only [upd_ne x.N (x.N k + b) (show q ≠ k by omega)]; exact h.oN q hq
/-- The i-th page's counts. -/
def listOf (f : Nat → Int) (i : Nat) : List Int := (List.range 120).map fun k => f (120 * i + k)
theorem listOf_length (f : Nat → Int) (i : Nat) : (listOf f i).length = 120 := by rw [listOf, List.length_map, List.length_range]
theorem listOf_getD {f : Nat → Int} {i k : Nat} (h : k < 120) : (listOf f i).getD k 0 = f (120 * i + k) := by
  rw [listOf, List.getD_eq_getElem?_getD, List.getElem?_map, List.getElem?_range h]; rfl
def isI (n : Nat) (i : Int) : Bool := decide (0 ≤ i) && decide (i < manyN n)
theorem isI_nat {n : Nat} {p : Int} (h : isI n p = true) : ∃ k : Nat, p = (k : Int) ∧ k < manyN n := by
  simp [isI] at h
  exact ⟨p.toNat, by omega, by omega⟩
theorem isI_of {n k : Nat} (h : k < manyN n) : isI n (k : Int) = true := by simp [isI]; omega
theorem isI_no {n : Nat} {p : Int} (h : isI n p = false) : p < 0 ∨ (manyN n : Int) ≤ p := by
  simp [isI] at h; omega
def bodyE (n : Nat) (x : Ct) (i : Int) : Option (List Nat) := if isI n i then countsW (listOf x.N i.toNat) else none
theorem list_ok {f : Nat → Int} (h : ∀ p, 0 ≤ f p ∧ f p ≤ 1000) (i : Nat) : allB (listOf f i) 1000 = true :=
  allB_mk 120 (listOf_length f i) (fun j hj => by rw [listOf_getD hj, inB]; have := h (120 * i + j); simp; omega)
theorem list_some {f : Nat → Int} (h : ∀ p, 0 ≤ f p ∧ f p ≤ 1000) (i : Nat) : ∃ l, countsW (listOf f i) = some l := ⟨_, countsW_yes (listOf_length f i) (list_ok h i)⟩
/-- Are there none where there is no page? -/
def tailOk (n i : Nat) (s : List Int) : Bool := (List.range 120).all fun k => decide (120 * i + k < n) || decide (s.getD k 0 = 0)
def lay (n : Nat) (f : Nat → Int) (i : Nat) (s : List Int) : Nat → Int := fun q => if 120 * i ≤ q ∧ q < 120 * i + 120 ∧ q < n then s.getD (q - 120 * i) 0 else f q
def loadE (n : Nat) (x : Ct) (i : Int) (l : List Nat) : Int × Ct :=
  if isI n i then (match countsR l with
    | none => (14, x)
    | some s => if tailOk n i.toNat s then (0, ⟨lay n x.N i.toNat s, lay n x.W i.toNat s⟩) else (14, x))
  else (2, x)
theorem countsR_some {l : List Nat} {s : List Int} (h : countsR l = some s) : s.length = 120 ∧ allB s 1000 = true ∧ countsW s = some l := by
  unfold countsR at h
  by_cases hc : countsW (numsAt l 0 2 2 120) = some l
  · rw [if_pos hc] at h
    injection h with h
    rw [h] at hc
    obtain ⟨_, h1, h2⟩ := countsW_some hc
    exact ⟨h1, h2, hc⟩
  · rw [if_neg hc] at h; cases h
theorem loadE_no {n : Nat} {x : Ct} {i : Int} {l : List Nat} (h : isI n i = false) : loadE n x i l = (2, x) := by rw [loadE, h]; rfl
theorem loadE_none {n i : Nat} {x : Ct} {l : List Nat} (h : i < manyN n) (hr : countsR l = none) : loadE n x (i : Int) l = (14, x) := by rw [loadE, if_pos (isI_of h), hr]
theorem loadE_tail {n i : Nat} {x : Ct} {l : List Nat} {s : List Int} (h : i < manyN n) (hr : countsR l = some s) (ht : tailOk n i s = false) : loadE n x (i : Int) l = (14, x) := by
  rw [loadE, if_pos (isI_of h), hr, Int.toNat_natCast]; simp only [ht]; rfl
theorem loadE_yes {n i : Nat} {x : Ct} {l : List Nat} {s : List Int} (h : i < manyN n) (hr : countsR l = some s) (ht : tailOk n i s = true) : loadE n x (i : Int) l = (0, ⟨lay n x.N i s, lay n x.W i s⟩) := by
  rw [loadE, if_pos (isI_of h), hr, Int.toNat_natCast]; simp only [ht, if_true]
theorem lay_bound {n i : Nat} {f : Nat → Int} {s : List Int} (hl : s.length = 120) (hs : allB s 1000 = true) (h : ∀ p, 0 ≤ f p ∧ f p ≤ 1000) (p : Nat) : 0 ≤ lay n f i s p ∧ lay n f i s p ≤ 1000 := by
  unfold lay
  by_cases hc : 120 * i ≤ p ∧ p < 120 * i + 120 ∧ p < n
  · rw [if_pos hc]; exact allB_yes hs _ (by omega)
  · rw [if_neg hc]; exact h p
theorem CtOk.lay {n : Nat} {x : Ct} {i : Nat} {s : List Int} (h : CtOk n x) (hl : s.length = 120) (hs : allB s 1000 = true) : CtOk n ⟨lay n x.N i s, lay n x.W i s⟩ :=
  ⟨h.one, h.most, lay_bound hl hs h.bN, lay_bound hl hs h.bW, fun p hp => by simp only [Cts.lay]; rw [if_neg (by omega)]; exact h.oN p hp, fun p hp => by simp only [Cts.lay]; rw [if_neg (by omega)]; exact h.oW p hp⟩
theorem CtOk.load {n : Nat} {x : Ct} (h : CtOk n x) (i : Int) (l : List Nat) : CtOk n (loadE n x i l).2 := by
  cases hi : isI n i with
  | false => rw [loadE_no hi]; exact h
  | true =>
    obtain ⟨k, rfl, hk⟩ := isI_nat hi
    cases hr : countsR l with
    | none => rw [loadE_none hk hr]; exact h
    | some s =>
      cases ht : tailOk n k s with
      | false => rw [loadE_tail hk hr ht]; exact h
      | true =>
        rw [loadE_yes hk hr ht]
        obtain ⟨h1, h2, _⟩ := countsR_some hr
        exact h.lay h1 h2
def settleE (x : Ct) : Ct := ⟨x.N, x.N⟩
def undoE (x : Ct) : Ct := ⟨x.W, x.W⟩
theorem CtOk.settle {n : Nat} {x : Ct} (h : CtOk n x) : CtOk n (settleE x) := ⟨h.one, h.most, h.bN, h.bN, h.oN, h.oN⟩
theorem CtOk.undo {n : Nat} {x : Ct} (h : CtOk n x) : CtOk n (undoE x) := ⟨h.one, h.most, h.bW, h.bW, h.oW, h.oW⟩
/-- Is one of the first r counts of part i another one? -/
def chg (x : Ct) (i r : Nat) : Bool := (List.range r).any fun k => decide (x.N (120 * i + k) ≠ x.W (120 * i + k))
theorem chg_zero (x : Ct) (i : Nat) : chg x i 0 = false := rfl
theorem chg_succ (x : Ct) (i r : Nat) : chg x i (r + 1) = (chg x i r || decide (x.N (120 * i + r) ≠ x.W (120 * i + r))) := by
  simp only [chg, List.range_succ, List.any_append, List.any_cons, List.any_nil, Bool.or_false]
theorem chg_far {x : Ct} {n i r : Nat} (h : CtOk n x) (hr : n ≤ 120 * i + r) : ∀ d, chg x i (r + d) = chg x i r
  | 0 => rfl
  | d + 1 => by
    rw [← Nat.add_assoc, chg_succ, chg_far h hr d, h.oN _ (by omega), h.oW _ (by omega)]
    simp
def tch (x : Ct) (i : Nat) : List Int := ((List.range i).filter fun j => chg x j 120).map fun j => ((j : Nat) : Int)
theorem tch_succ (x : Ct) (i : Nat) : tch x (i + 1) = tch x i ++ (if chg x i 120 then [((i : Nat) : Int)] else []) := by
  simp only [tch, List.range_succ, List.filter_append, List.map_append]
  congr 1
  cases h : chg x i 120 <;> simp [h]
theorem tch_lt {x : Ct} {i : Nat} : ∀ y ∈ tch x i, 0 ≤ y ∧ y < i := by
  intro y hy
  simp only [tch, List.mem_map, List.mem_filter, List.mem_range] at hy
  obtain ⟨j, ⟨hj, _⟩, rfl⟩ := hy
  omega
theorem tch_len (x : Ct) (i : Nat) : (tch x i).length ≤ i := by
  simp only [tch, List.length_map]
  exact Nat.le_trans (List.length_filter_le _ _) (by simp)
/-- Which pages of counts were changed. -/
def touchE (n : Nat) (x : Ct) : List Int := tch x (manyN n)
/-- .. as far as a walk over all pages has come. -/
def tchR (x : Ct) (i r : Nat) : List Int := tch x i ++ (if chg x i r then [((i : Nat) : Int)] else [])
theorem tchR_zero (x : Ct) (i : Nat) : tchR x i 0 = tch x i := by simp [tchR, chg_zero]
theorem tchR_full (x : Ct) (i : Nat) : tchR x i 120 = tch x (i + 1) := (tch_succ x i).symm
theorem tchR_end {x : Ct} {n i r : Nat} (h : CtOk n x) (hr : 120 * i + r = n) (h0 : r ≤ 120) (h1 : 1 ≤ r) : tchR x i r = touchE n x := by
  have e : manyN n = i + 1 := by unfold manyN; omega
  rw [touchE, e, ← tchR_full, tchR, tchR]
  have := chg_far h (show n ≤ 120 * i + r by omega) (120 - r)
  rw [show r + (120 - r) = 120 by omega] at this
  rw [this]
theorem tchR_mem (x : Ct) (i r : Nat) : ((i : Nat) : Int) ∈ tchR x i r ↔ chg x i r = true := by
  have hn : ((i : Nat) : Int) ∉ tch x i := fun h => by have := tch_lt _ h; omega
  cases h : chg x i r <;> simp [tchR, h, hn]
theorem tchR_same {x : Ct} {i r : Nat} (h : x.N (120 * i + r) = x.W (120 * i + r) ∨ chg x i r = true) : tchR x i (r + 1) = tchR x i r := by
  have : chg x i (r + 1) = chg x i r := by
    rw [chg_succ]
    rcases h with h | h
    · simp [h]
    · simp [h]
  rw [tchR, tchR, this]
theorem tchR_new {x : Ct} {i r : Nat} (h : x.N (120 * i + r) ≠ x.W (120 * i + r)) (h0 : chg x i r = false) : tchR x i (r + 1) = tchR x i r ++ [((i : Nat) : Int)] := by
  have h1 : chg x i (r + 1) = true := by rw [chg_succ]; simp [h]
  simp [tchR, h0, h1]
theorem tchR_len (x : Ct) (i r : Nat) : (tchR x i r).length ≤ i + 1 := by
  have := tch_len x i
  rw [tchR, List.length_append]
  cases chg x i r <;> simp <;> omega
theorem tchR_lt {x : Ct} {i r : Nat} : ∀ y ∈ tchR x i r, 0 ≤ y ∧ y ≤ i := by
  intro y hy
  rw [tchR, List.mem_append] at hy
  rcases hy with hy | hy
  · have := tch_lt y hy; omega
  · cases h : chg x i r <;> simp [h] at hy
    omega
/-- .. over the first p pages. -/
def tchP (x : Ct) (p : Nat) : List Int := tchR x (p / 120) (p % 120)
theorem tchP_zero (x : Ct) : tchP x 0 = [] := by simp [tchP, tchR, tch, chg]
theorem tchP_at (x : Ct) (p : Nat) : tchR x (p / 120) (p % 120 + 1) = tchP x (p + 1) := by
  unfold tchP
  by_cases h : p % 120 = 119
  · rw [show (p + 1) / 120 = p / 120 + 1 by omega, show (p + 1) % 120 = 0 by omega, h, tchR_full, tchR_zero]
  · rw [show (p + 1) / 120 = p / 120 by omega, show (p + 1) % 120 = p % 120 + 1 by omega]
theorem tchP_no {x : Ct} {p : Nat} (h : x.N p = x.W p) : tchP x (p + 1) = tchP x p := by
  rw [← tchP_at]
  exact tchR_same (.inl (by rwa [show 120 * (p / 120) + p % 120 = p by omega]))
theorem tchP_in {x : Ct} {p : Nat} (h : ((p / 120 : Nat) : Int) ∈ tchP x p) : tchP x (p + 1) = tchP x p := by
  rw [← tchP_at]
  exact tchR_same (.inr ((tchR_mem x _ _).1 h))
theorem tchP_new {x : Ct} {p : Nat} (h : x.N p ≠ x.W p) (h0 : ((p / 120 : Nat) : Int) ∉ tchP x p) : tchP x (p + 1) = tchP x p ++ [((p / 120 : Nat) : Int)] := by
  rw [← tchP_at]
  refine tchR_new (by rwa [show 120 * (p / 120) + p % 120 = p by omega]) ?_
  cases hc : chg x (p / 120) (p % 120) with
  | false => rfl
  | true => exact absurd ((tchR_mem x _ _).2 hc) h0
theorem tchP_end {x : Ct} {n : Nat} (h : CtOk n x) : tchP x n = touchE n x := by
  unfold tchP
  by_cases h0 : n % 120 = 0
  · rw [h0, tchR_zero, touchE, show manyN n = n / 120 by unfold manyN; omega]
  · exact tchR_end h (by omega) (by omega) (by omega)
theorem tchP_len (x : Ct) (p : Nat) : (tchP x p).length ≤ p / 120 + 1 := tchR_len x _ _
theorem tchP_lt {x : Ct} {p : Nat} : ∀ y ∈ tchP x p, 0 ≤ y ∧ y ≤ p := fun y hy => by have := tchR_lt y hy; omega
theorem touchE_lt {x : Ct} {n : Nat} : ∀ y ∈ touchE n x, 0 ≤ y ∧ y < manyN n := fun y hy => tch_lt y hy
theorem touchE_len (x : Ct) (n : Nat) : (touchE n x).length ≤ manyN n := tch_len x _
theorem settle_touch (x : Ct) (n : Nat) : touchE n (settleE x) = [] := by
  have : ∀ i, chg (settleE x) i 120 = false := fun i => by simp [chg, settleE]
  simp [touchE, tch, this]
theorem undo_touch (x : Ct) (n : Nat) : touchE n (undoE x) = [] := by
  have : ∀ i, chg (undoE x) i 120 = false := fun i => by simp [chg, undoE]
  simp [touchE, tch, this]
end Go.Proofs.Ytpdkjgmldlpaaaa.Cts
