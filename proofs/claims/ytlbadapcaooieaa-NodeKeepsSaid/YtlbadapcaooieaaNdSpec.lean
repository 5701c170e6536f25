/- Nodes of a tree in plain words: when one may be, find, put, drop, halves. No program, no world. -/
set_option linter.unusedVariables false
set_option linter.unusedSimpArgs false
namespace Go.Proofs.Ytlbadapcaooieaa.NdSpec

def inK (k : Int) : Bool := decide (0 ≤ k) && decide (k < 1048576)
def inV (v : Int) : Bool := decide (1 ≤ v) && decide (v < 1024)
/-- The Key and the Val at a place may stand there. -/
def okAt (ks vs : List Int) (j : Nat) : Bool := (inK (ks.getD j 0) && inV (vs.getD j 0)) && (decide (j = 0) || decide (ks.getD (j - 1) 0 < ks.getD j 0))
/-- A node may be. -/
def may (lf : Bool) (ks vs : List Int) : Bool := decide (ks.length = vs.length) && decide (ks.length ≤ 8) && (lf || decide (ks.length ≠ 0)) && (List.range ks.length).all (okAt ks vs)
theorem inK_yes {k : Int} (h : inK k = true) : 0 ≤ k ∧ k < 1048576 := by simpa [inK] using h
theorem inK_no {k : Int} (h : inK k = false) : k < 0 ∨ 1048576 ≤ k := by
  simp [inK] at h
  omega
theorem inV_yes {k : Int} (h : inV k = true) : 1 ≤ k ∧ k < 1024 := by simpa [inV] using h
theorem inV_no {k : Int} (h : inV k = false) : k < 1 ∨ 1024 ≤ k := by
  simp [inV] at h
  omega
section
variable {lf : Bool} {ks vs : List Int}
theorem may_len (h : may lf ks vs = true) : ks.length = vs.length ∧ ks.length ≤ 8 ∧ (lf = true ∨ ks.length ≠ 0) ∧ ∀ j, j < ks.length → okAt ks vs j = true := by
  simp only [may, Bool.and_eq_true, Bool.or_eq_true, decide_eq_true_eq, List.all_eq_true, List.mem_range] at h
  exact ⟨h.1.1.1, h.1.1.2, h.1.2, h.2⟩
theorem may_yes (h1 : ks.length = vs.length) (h2 : ks.length ≤ 8) (h3 : lf = true ∨ ks.length ≠ 0) (h4 : ∀ j, j < ks.length → okAt ks vs j = true) : may lf ks vs = true := by
  simp only [may, Bool.and_eq_true, Bool.or_eq_true, decide_eq_true_eq, List.all_eq_true, List.mem_range]
  exact ⟨⟨⟨h1, h2⟩, h3⟩, h4⟩
theorem may_no1 (h : ks.length ≠ vs.length) : may lf ks vs = false := by
  cases e : may lf ks vs
  · rfl
  · exact absurd (may_len e).1 h
theorem may_no2 (h : 8 < ks.length) : may lf ks vs = false := by
  cases e : may lf ks vs
  · rfl
  · have := (may_len e).2.1; omega
theorem may_no3 (h : lf = false) (h0 : ks.length = 0) : may lf ks vs = false := by
  cases e : may lf ks vs
  · rfl
  · rcases (may_len e).2.2.1 with h1 | h1
    · rw [h] at h1; cases h1
    · exact absurd h0 h1
theorem may_no4 (j : Nat) (hj : j < ks.length) (h : okAt ks vs j = false) : may lf ks vs = false := by
  cases e : may lf ks vs
  · rfl
  · have := (may_len e).2.2.2 j hj; rw [h] at this; cases this
theorem okAt_parts {j : Nat} (h : okAt ks vs j = true) : inK (ks.getD j 0) = true ∧ inV (vs.getD j 0) = true ∧ (j = 0 ∨ ks.getD (j - 1) 0 < ks.getD j 0) := by
  simpa [okAt, and_assoc] using h
theorem okAt_mk {j : Nat} (h1 : inK (ks.getD j 0) = true) (h2 : inV (vs.getD j 0) = true) (h3 : j = 0 ∨ ks.getD (j - 1) 0 < ks.getD j 0) : okAt ks vs j = true := by
  simp only [okAt, Bool.and_eq_true, Bool.or_eq_true, decide_eq_true_eq]
  exact ⟨⟨h1, h2⟩, h3⟩
theorem okAt_no1 {j : Nat} (h1 : inK (ks.getD j 0) = false) : okAt ks vs j = false := by unfold okAt; rw [h1]; rfl
theorem okAt_no2 {j : Nat} (h1 : inV (vs.getD j 0) = false) : okAt ks vs j = false := by unfold okAt; rw [h1, Bool.and_false]; rfl
theorem okAt_no12 {j : Nat} (h1 : (inK (ks.getD j 0) && inV (vs.getD j 0)) = false) : okAt ks vs j = false := by unfold okAt; rw [h1]; rfl
theorem okAt_no3 {j : Nat} (h0 : j ≠ 0) (h1 : ks.getD j 0 ≤ ks.getD (j - 1) 0) : okAt ks vs j = false := by
  have : ¬ ks.getD (j - 1) 0 < ks.getD j 0 := by omega
  unfold okAt
  rw [decide_eq_false h0, decide_eq_false this]
  simp
/-- Keys rise. -/
theorem rise (h : may lf ks vs = true) : ∀ i j, i < j → j < ks.length → ks.getD i 0 < ks.getD j 0 := by
  intro i j
  induction j with
  | zero => intro h1; omega
  | succ j ih =>
    intro h1 h2
    have h3 := (okAt_parts ((may_len h).2.2.2 (j + 1) h2)).2.2
    rcases h3 with h3 | h3
    · omega
    · rw [Nat.add_sub_cancel] at h3
      by_cases e : i = j
      · subst e; exact h3
      · have := ih (by omega) (by omega)
        omega
end

/-- How many Keys, from the first on, are less than key. -/
def find : List Int → Int → Nat
  | [], _ => 0
  | x :: l, key => if x < key then find l key + 1 else 0
/-- Whether the next one is key. -/
def isAt (ks : List Int) (key : Int) : Bool := decide (find ks key < ks.length) && decide (ks.getD (find ks key) 0 = key)
theorem find_le : ∀ (ks : List Int) (key : Int), find ks key ≤ ks.length
  | [], _ => Nat.le_refl _
  | x :: l, key => by
    have := find_le l key
    unfold find
    split
    · simp; omega
    · simp
theorem find_of : ∀ (ks : List Int) (key : Int) (j : Nat), j ≤ ks.length → (∀ q, q < j → ks.getD q 0 < key) → (j < ks.length → key ≤ ks.getD j 0) → find ks key = j
  | [], key, j, h0, _, _ => by simp at h0; simp [find, h0]
  | x :: l, key, 0, _, _, h2 => by
    have := h2 (by simp)
    simp at this
    unfold find
    rw [if_neg (by omega)]
  | x :: l, key, j + 1, h0, h1, h2 => by
    have h3 := h1 0 (by omega)
    simp at h3
    unfold find
    rw [if_pos h3, find_of l key j (by simp at h0; omega) (fun q hq => by have := h1 (q + 1) (by omega); simpa using this) (fun h => by have := h2 (by simp; omega); simpa using this)]
theorem find_lt : ∀ (ks : List Int) (key : Int) (q : Nat), q < find ks key → ks.getD q 0 < key
  | [], key, q, h => by simp [find] at h
  | x :: l, key, q, h => by
    unfold find at h
    split at h
    · rename_i hx
      match q with
      | 0 => simpa using hx
      | q + 1 =>
        have := find_lt l key q (by omega)
        simpa using this
    · omega
theorem find_ge : ∀ (ks : List Int) (key : Int), find ks key < ks.length → key ≤ ks.getD (find ks key) 0
  | [], key, h => by simp at h
  | x :: l, key, h => by
    unfold find at h ⊢
    split
    · rename_i hx
      rw [if_pos hx] at h
      have := find_ge l key (by simp at h; omega)
      simpa using this
    · rename_i hx
      simp
      omega
theorem isAt_of {ks : List Int} {key : Int} {j : Nat} (h : find ks key = j) (hj : j < ks.length) : isAt ks key = (ks.getD j 0 == key) := by
  unfold isAt
  rw [h, decide_eq_true hj, Bool.true_and]
  rfl
theorem isAt_end {ks : List Int} {key : Int} (h : find ks key = ks.length) : isAt ks key = false := by
  unfold isAt
  rw [h]
  simp
/-- How many Keys, from the first on, are not above key. -/
def upTo : List Int → Int → Nat
  | [], _ => 0
  | x :: l, key => if x ≤ key then upTo l key + 1 else 0
theorem upTo_le : ∀ (ks : List Int) (key : Int), upTo ks key ≤ ks.length
  | [], _ => Nat.le_refl _
  | x :: l, key => by
    have := upTo_le l key
    unfold upTo
    split
    · simp; omega
    · simp
theorem upTo_of : ∀ (ks : List Int) (key : Int) (j : Nat), j ≤ ks.length → (∀ q, q < j → ks.getD q 0 ≤ key) → (j < ks.length → key < ks.getD j 0) → upTo ks key = j
  | [], key, j, h0, _, _ => by simp at h0; simp [upTo, h0]
  | x :: l, key, 0, _, _, h2 => by
    have := h2 (by simp)
    simp at this
    unfold upTo
    rw [if_neg (by omega)]
  | x :: l, key, j + 1, h0, h1, h2 => by
    have h3 := h1 0 (by omega)
    simp at h3
    unfold upTo
    rw [if_pos h3, upTo_of l key j (by simp at h0; omega) (fun q hq => by have := h1 (q + 1) (by omega); simpa using this) (fun h => by have := h2 (by simp; omega); simpa using this)]
theorem upTo_lt : ∀ (ks : List Int) (key : Int) (q : Nat), q < upTo ks key → ks.getD q 0 ≤ key
  | [], key, q, h => by simp [upTo] at h
  | x :: l, key, q, h => by
    unfold upTo at h
    split at h
    · rename_i hx
      match q with
      | 0 => simpa using hx
      | q + 1 =>
        have := upTo_lt l key q (by omega)
        simpa using this
    · omega
theorem upTo_ge : ∀ (ks : List Int) (key : Int), upTo ks key < ks.length → key < ks.getD (upTo ks key) 0
  | [], key, h => by simp at h
  | x :: l, key, h => by
    unfold upTo at h ⊢
    split
    · rename_i hx
      rw [if_pos hx] at h
      have := upTo_ge l key (by simp at h; omega)
      simpa using this
    · rename_i hx
      simp
      omega

/-- A node that is answered: its Leaf, Keys, Vals. -/
abbrev Nd := Bool × List Int × List Int
def nil : Nd := (false, [], [])
/-- The Keys (or Vals) with x at place j, in front of what stands from place r on. -/
def ins (l : List Int) (j r : Nat) (x : Int) : List Int := l.take j ++ x :: l.drop r
/-- Place r of what stands behind place find. -/
def rest (ks : List Int) (key : Int) : Nat := if isAt ks key then find ks key + 1 else find ks key
def putR (lf : Bool) (ks vs : List Int) (key val : Int) : Int × Nd :=
  if may lf ks vs = false then (22, nil)
  else if (inK key && inV val) = false then (1, nil)
  else if 8 < (ins ks (find ks key) (rest ks key) key).length then (15, nil)
  else (0, lf, ins ks (find ks key) (rest ks key) key, ins vs (find ks key) (rest ks key) val)
/-- The list without what stands at a place. -/
def del (l : List Int) (a : Nat) : List Int := l.take a ++ l.drop (a + 1)
def dropR (lf : Bool) (ks vs : List Int) (i : Int) : Int × Nd :=
  if may lf ks vs = false then (22, nil)
  else if i < 0 ∨ (ks.length : Int) ≤ i then (1, nil)
  else if may lf (del ks i.toNat) (del vs i.toNat) = false then (22, nil)
  else (0, lf, del ks i.toNat, del vs i.toNat)
def half (ks : List Int) : Nat := (ks.length + 1) / 2
def halvesR (lf : Bool) (ks vs : List Int) : Int × Nd × Nd :=
  if ks.length < 2 then (22, nil, nil)
  else (0, (lf, ks.take (half ks), vs.take (half ks)), (lf, ks.drop (half ks), vs.drop (half ks)))
def splitR (lf : Bool) (ks vs : List Int) : Int × Nd × Nd := if may lf ks vs = false then (22, nil, nil) else halvesR lf ks vs
/-- All Keys of one are less than all of another. -/
def seam (ka kb : List Int) : Bool := decide (ka.length = 0) || decide (kb.length = 0) || decide (ka.getD (ka.length - 1) 0 < kb.getD 0 0)
def follows (la : Bool) (ka va : List Int) (lb : Bool) (kb vb : List Int) : Bool := may la ka va && may lb kb vb && (la == lb) && seam ka kb
def joinR (la : Bool) (ka va : List Int) (lb : Bool) (kb vb : List Int) : Int × Nd :=
  if follows la ka va lb kb vb = false then (22, nil)
  else if 8 < ka.length + kb.length then (15, nil)
  else (0, la, ka ++ kb, va ++ vb)
def shareR (la : Bool) (ka va : List Int) (lb : Bool) (kb vb : List Int) : Int × Nd × Nd :=
  if follows la ka va lb kb vb = false then (22, nil, nil) else halvesR la (ka ++ kb) (va ++ vb)
end Go.Proofs.Ytlbadapcaooieaa.NdSpec
