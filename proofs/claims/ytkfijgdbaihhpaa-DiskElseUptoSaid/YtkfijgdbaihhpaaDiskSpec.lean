/- A disk in plain words: what is durable, versions, what is to fail, how many are left ahead of a cut. No program is named. -/
namespace Go.Proofs.Ytkfijgdbaihhpaa.DiskSpec

/-- A disk: sectors; of each what is durable and its versions; of each kind which one fails (0: none); how many are left ahead of a cut (below 0: none is to come). -/
structure St where
  n : Nat
  dur : Nat → List Nat
  ver : Nat → List (List Nat)
  f1 : Nat
  f2 : Nat
  f3 : Nat
  left : Int

/-- Bytes of one sector. -/
def Sec (l : List Nat) : Prop := l.length = 256 ∧ ∀ x ∈ l, x < 256

structure St.ok (S : St) : Prop where
  pos : 1 ≤ S.n
  top : S.n ≤ 4096
  dur : ∀ i, Sec (S.dur i)
  ver : ∀ i, ∀ v ∈ S.ver i, Sec v
  out : ∀ i, S.n ≤ i → S.ver i = []
  f1 : S.f1 ≤ 1099511627776
  f2 : S.f2 ≤ 1099511627776
  f3 : S.f3 ≤ 1099511627776
  l0 : -1 ≤ S.left
  l1 : S.left ≤ 1099511627776

def upd {α : Type} (f : Nat → α) (i : Nat) (a : α) : Nat → α := fun j => if j = i then a else f j
theorem upd_same {α : Type} (f : Nat → α) (i : Nat) (a : α) : upd f i a i = a := by simp [upd]
theorem upd_ne {α : Type} (f : Nat → α) {i j : Nat} (a : α) (h : j ≠ i) : upd f i a j = f j := by simp [upd, h]

/-- What a sector reads as. -/
def St.now (S : St) (i : Nat) : List Nat := (S.ver i).getLastD (S.dur i)
/-- A sector is made durable. -/
def St.settle (S : St) (i : Nat) : St := { S with dur := upd S.dur i (S.now i), ver := upd S.ver i [] }
/-- A sector has one version more. -/
def St.add (S : St) (i : Nat) (v : List Nat) : St := { S with ver := upd S.ver i (S.ver i ++ [v]) }
def St.put (S : St) (fua : Bool) (i : Nat) (v : List Nat) : St := if fua then (S.add i v).settle i else S.add i v
/-- Sector j of bytes. -/
def sec (l : List Nat) (j : Nat) : List Nat := (l.drop (256 * j)).take 256
def St.puts (S : St) (fua : Bool) (at_ : Nat) (l : List Nat) : Nat → St
  | 0 => S
  | j + 1 => (S.puts fua at_ l j).put fua (at_ + j) (sec l j)
def tick (l : Int) : Int := if 0 < l then l - 1 else l
def St.done (S : St) : St := { S with left := tick S.left }
def St.flush (S : St) : St := { S with dur := S.now, ver := fun _ => [] }
def St.dirty (S : St) : List Nat := (List.range S.n).filter fun k => !(S.ver k).isEmpty
/-- The version that a pick names. -/
def pickOf (d : List Nat) (vs : List (List Nat)) (p : Int) : List Nat :=
  if (p % (vs.length + 1 : Int)).toNat = 0 then d else vs.getD ((p % (vs.length + 1 : Int)).toNat - 1) d
def St.crash (S : St) (picks : List Int) : St :=
  { S with dur := fun i => pickOf (S.dur i) (S.ver i) (picks.getD (S.dirty.idxOf i) 0), ver := fun _ => [], f1 := 0, f2 := 0, f3 := 0, left := -1 }
/-- A sector of noughts. -/
def zeros : List Nat := List.replicate 256 0
def St.new (n : Nat) : St := ⟨n, fun _ => zeros, fun _ => [], 0, 0, 0, -1⟩
/-- Are sectors there? -/
def St.has (S : St) (at_ count : Int) : Bool := decide (0 ≤ at_) && (decide (1 ≤ count) && decide (count ≤ S.n - at_))
/-- Bytes of count sectors from at_ on. -/
def St.reads (S : St) (at_ : Nat) : Nat → List Nat
  | 0 => []
  | j + 1 => S.reads at_ j ++ S.now (at_ + j)

theorem Sec.zero : Sec zeros := ⟨List.length_replicate, fun x hx => by rw [(List.mem_replicate.1 hx).2]; omega⟩
theorem St.now_sec {S : St} (h : S.ok) (i : Nat) : Sec (S.now i) := by
  unfold St.now
  cases hv : (S.ver i).getLast? with
  | none =>
    have : S.ver i = [] := List.getLast?_eq_none_iff.1 hv
    rw [this]; exact h.dur i
  | some v =>
    have hm : v ∈ S.ver i := List.mem_of_getLast? hv
    rw [List.getLastD_eq_getLast?, hv]
    exact h.ver i v hm
theorem St.now_nil {S : St} {i : Nat} (h : S.ver i = []) : S.now i = S.dur i := by simp [St.now, h]
theorem sec_sec {l : List Nat} {j : Nat} (h : 256 * (j + 1) ≤ l.length) (hl : ∀ x ∈ l, x < 256) : Sec (sec l j) :=
  ⟨by simp [sec]; omega, fun x hx => hl x (List.mem_of_mem_drop (List.mem_of_mem_take hx))⟩
theorem reads_length {S : St} (h : S.ok) (a : Nat) : ∀ k, (S.reads a k).length = 256 * k
  | 0 => rfl
  | k + 1 => by rw [St.reads, List.length_append, reads_length h a k, (S.now_sec h _).1]; omega
theorem reads_lt {S : St} (h : S.ok) (a : Nat) : ∀ k, ∀ x ∈ S.reads a k, x < 256
  | 0 => by simp [St.reads]
  | k + 1 => by
    intro x hx
    rcases List.mem_append.1 hx with hx | hx
    · exact reads_lt h a k x hx
    · exact (S.now_sec h _).2 x hx

theorem St.ok.settle {S : St} (h : S.ok) (i : Nat) : (S.settle i).ok where
  pos := h.pos
  top := h.top
  dur j := by
    show Sec (upd S.dur i (S.now i) j)
    unfold upd; split
    · exact S.now_sec h i
    · exact h.dur j
  ver j v hv := by
    have hv' : v ∈ upd S.ver i [] j := hv
    unfold upd at hv'; split at hv'
    · cases hv'
    · exact h.ver j v hv'
  out j hj := by
    show upd S.ver i [] j = []
    unfold upd; split
    · rfl
    · exact h.out j hj
  f1 := h.f1
  f2 := h.f2
  f3 := h.f3
  l0 := h.l0
  l1 := h.l1
theorem St.ok.add {S : St} (h : S.ok) {i : Nat} (hi : i < S.n) {v : List Nat} (hv : Sec v) : (S.add i v).ok where
  pos := h.pos
  top := h.top
  dur := h.dur
  ver j u hu := by
    have hu' : u ∈ upd S.ver i (S.ver i ++ [v]) j := hu
    unfold upd at hu'; split at hu'
    · rcases List.mem_append.1 hu' with h1 | h1
      · exact h.ver i u h1
      · simp at h1; subst h1; exact hv
    · exact h.ver j u hu'
  out j hj := by
    have hj' : S.n ≤ j := hj
    show upd S.ver i (S.ver i ++ [v]) j = []
    rw [upd_ne _ _ (by omega)]; exact h.out j hj'
  f1 := h.f1
  f2 := h.f2
  f3 := h.f3
  l0 := h.l0
  l1 := h.l1
theorem St.ok.put {S : St} (h : S.ok) (fua : Bool) {i : Nat} (hi : i < S.n) {v : List Nat} (hv : Sec v) : (S.put fua i v).ok := by
  unfold St.put; split
  · exact (h.add hi hv).settle i
  · exact h.add hi hv
theorem put_n (S : St) (fua : Bool) (i : Nat) (v : List Nat) : (S.put fua i v).n = S.n := by unfold St.put; split <;> rfl
theorem puts_n (S : St) (fua : Bool) (a : Nat) (l : List Nat) : ∀ k, (S.puts fua a l k).n = S.n
  | 0 => rfl
  | k + 1 => by rw [St.puts, put_n, puts_n S fua a l k]
theorem St.ok.puts {S : St} (h : S.ok) (fua : Bool) {a : Nat} {l : List Nat} (hl : ∀ x ∈ l, x < 256) : ∀ k, a + k ≤ S.n → 256 * k ≤ l.length → (S.puts fua a l k).ok
  | 0, _, _ => h
  | k + 1, h1, h2 => by
    have := h.puts fua (a := a) hl k (by omega) (by omega)
    exact this.put fua (by rw [puts_n]; omega) (sec_sec (by omega) hl)
theorem tick_bounds {l : Int} (h0 : -1 ≤ l) (h1 : l ≤ 1099511627776) : -1 ≤ tick l ∧ tick l ≤ 1099511627776 := by
  unfold tick; split <;> omega
theorem St.ok.done {S : St} (h : S.ok) : S.done.ok := { h with l0 := (tick_bounds h.l0 h.l1).1, l1 := (tick_bounds h.l0 h.l1).2 }
theorem St.ok.flush {S : St} (h : S.ok) : S.flush.ok := { h with dur := fun i => S.now_sec h i, ver := fun _ _ hv => (by cases hv), out := fun _ _ => rfl }
theorem pickOf_sec {d : List Nat} {vs : List (List Nat)} (hd : Sec d) (hv : ∀ v ∈ vs, Sec v) (p : Int) : Sec (pickOf d vs p) := by
  unfold pickOf; split
  · exact hd
  · rw [List.getD_eq_getElem?_getD]
    cases hg : vs[(p % (vs.length + 1 : Int)).toNat - 1]? with
    | none => exact hd
    | some v => exact hv v (List.mem_of_getElem? hg)
theorem pickOf_nil (d : List Nat) (p : Int) : pickOf d [] p = d := by
  unfold pickOf; simp
theorem pickOf_zero (d : List Nat) (vs : List (List Nat)) : pickOf d vs 0 = d := by simp [pickOf]
theorem St.ok.crash {S : St} (h : S.ok) (picks : List Int) : (S.crash picks).ok where
  pos := h.pos
  top := h.top
  dur i := pickOf_sec (h.dur i) (h.ver i) _
  ver _ _ hv := by cases hv
  out _ _ := rfl
  f1 := by simp [St.crash]
  f2 := by simp [St.crash]
  f3 := by simp [St.crash]
  l0 := by simp [St.crash]
  l1 := by simp [St.crash]
theorem St.ok.new {n : Nat} (h1 : 1 ≤ n) (h2 : n ≤ 4096) : (St.new n).ok :=
  ⟨h1, h2, fun _ => Sec.zero, fun _ _ hv => (by cases hv), fun _ _ => rfl, Nat.zero_le _, Nat.zero_le _, Nat.zero_le _, Int.le_refl _, by show (-1 : Int) ≤ 1099511627776; omega⟩
theorem mem_dirty {S : St} (i : Nat) : i ∈ S.dirty ↔ i < S.n ∧ S.ver i ≠ [] := by
  simp [St.dirty, List.mem_filter]
theorem dirty_nodup (S : St) : S.dirty.Nodup := List.Pairwise.filter _ List.nodup_range

/-! ### Sectors made durable one behind the other -/
def St.settles (S : St) (l : List Nat) : St := l.foldl St.settle S
theorem settles_snoc (S : St) (l : List Nat) (i : Nat) : S.settles (l ++ [i]) = (S.settles l).settle i := by simp [St.settles]
theorem settles_at (S : St) : ∀ (l : List Nat) (i : Nat), ((S.settles l).dur i = if i ∈ l then S.now i else S.dur i) ∧ ((S.settles l).ver i = if i ∈ l then [] else S.ver i) := by
  intro l
  induction l generalizing S with
  | nil => intro i; simp [St.settles]
  | cons a l ih =>
    intro i
    have h := ih (S.settle a) i
    have e : S.settles (a :: l) = (S.settle a).settles l := rfl
    rw [e, h.1, h.2]
    by_cases hi : i = a
    · subst hi
      constructor
      · simp only [List.mem_cons, true_or, if_true]
        split
        · simp [St.now, St.settle, upd]
        · simp [St.settle, upd]
      · simp only [List.mem_cons, true_or, if_true]
        split
        · rfl
        · simp [St.settle, upd]
    · have e1 : (S.settle a).now i = S.now i := by simp [St.now, St.settle, upd, hi]
      have e2 : (S.settle a).dur i = S.dur i := by simp [St.settle, upd, hi]
      have e3 : (S.settle a).ver i = S.ver i := by simp [St.settle, upd, hi]
      rw [e1, e2, e3]
      simp [hi]
theorem settles_rest (S : St) : ∀ l, (S.settles l).n = S.n ∧ (S.settles l).f1 = S.f1 ∧ (S.settles l).f2 = S.f2 ∧ (S.settles l).f3 = S.f3 ∧ (S.settles l).left = S.left := by
  intro l
  induction l generalizing S with
  | nil => exact ⟨rfl, rfl, rfl, rfl, rfl⟩
  | cons a l ih => exact ih (S.settle a)
theorem St.ext' {S T : St} (h1 : S.n = T.n) (h2 : S.dur = T.dur) (h3 : S.ver = T.ver) (h4 : S.f1 = T.f1) (h5 : S.f2 = T.f2) (h6 : S.f3 = T.f3) (h7 : S.left = T.left) : S = T := by
  cases S; cases T; simp_all
theorem settles_all {S : St} (h : S.ok) : S.settles S.dirty = S.flush := by
  obtain ⟨r1, r2, r3, r4, r5⟩ := settles_rest S S.dirty
  refine St.ext' r1 (funext fun i => ?_) (funext fun i => ?_) r2 r3 r4 r5
  · rw [(settles_at S S.dirty i).1]
    split
    · rfl
    · rename_i hi
      have : S.ver i = [] := by
        rcases Nat.lt_or_ge i S.n with hn | hn
        · exact Classical.byContradiction fun hne => hi ((mem_dirty i).2 ⟨hn, hne⟩)
        · exact h.out i hn
      exact (St.now_nil this).symm
  · rw [(settles_at S S.dirty i).2]
    split
    · rfl
    · rename_i hi
      show S.ver i = []
      rcases Nat.lt_or_ge i S.n with hn | hn
      · exact Classical.byContradiction fun hne => hi ((mem_dirty i).2 ⟨hn, hne⟩)
      · exact h.out i hn
theorem St.ok.settles {S : St} (h : S.ok) : ∀ l, (S.settles l).ok := by
  intro l
  induction l generalizing S with
  | nil => exact h
  | cons a l ih => exact ih (h.settle a)

/-! ### A crash, dirty sector by dirty sector -/
/-- Behind the first k dirty sectors. -/
def St.crashDur (S : St) (picks : List Int) (k : Nat) : Nat → List Nat :=
  fun i => if S.dirty.idxOf i < k then pickOf (S.dur i) (S.ver i) (picks.getD (S.dirty.idxOf i) 0) else S.dur i
theorem crashDur_zero (S : St) (picks : List Int) : S.crashDur picks 0 = S.dur := by funext i; simp [St.crashDur]
theorem crashDur_step (S : St) (picks : List Int) {k a : Nat} (hk : S.dirty[k]? = some a) :
    S.crashDur picks (k + 1) = upd (S.crashDur picks k) a (pickOf (S.dur a) (S.ver a) (picks.getD k 0)) := by
  have hkl : k < S.dirty.length := (List.getElem?_eq_some_iff.1 hk).1
  have hka : S.dirty[k] = a := (List.getElem?_eq_some_iff.1 hk).2
  have hid : S.dirty.idxOf a = k := by
    rw [← hka]
    exact (dirty_nodup S).idxOf_getElem k hkl
  funext i
  by_cases hi : i = a
  · subst hi
    simp [St.crashDur, upd, hid]
  · have hne : S.dirty.idxOf i ≠ k := by
      intro e
      have hil : S.dirty.idxOf i < S.dirty.length := by omega
      have := List.getElem_idxOf hil
      apply hi
      rw [← this, ← hka]
      simp [e]
    simp only [St.crashDur, upd, hi, if_false]
    by_cases h1 : S.dirty.idxOf i < k
    · rw [if_pos h1, if_pos (by omega)]
    · rw [if_neg h1, if_neg (by omega)]
theorem crashDur_skip (S : St) (picks : List Int) {k a : Nat} (hk : S.dirty[k]? = some a) (h : pickOf (S.dur a) (S.ver a) (picks.getD k 0) = S.dur a) : S.crashDur picks (k + 1) = S.crashDur picks k := by
  rw [crashDur_step S picks hk, h]
  have hkl : k < S.dirty.length := (List.getElem?_eq_some_iff.1 hk).1
  have hka : S.dirty[k] = a := (List.getElem?_eq_some_iff.1 hk).2
  have hid : S.dirty.idxOf a = k := by
    rw [← hka]
    exact (dirty_nodup S).idxOf_getElem k hkl
  funext i
  unfold upd
  split
  · rename_i e
    rw [e]
    simp [St.crashDur, hid]
  · rfl
/-- Where as many were gone through as there are, or as there are picks. -/
theorem crashDur_end {S : St} (h : S.ok) (picks : List Int) {k : Nat} (hk : k = S.dirty.length ∨ k = picks.length) : S.crashDur picks k = (S.crash picks).dur := by
  funext i
  show S.crashDur picks k i = pickOf (S.dur i) (S.ver i) (picks.getD (S.dirty.idxOf i) 0)
  unfold St.crashDur
  split
  · rfl
  · rename_i hlt
    rcases hk with rfl | rfl
    · have hn : ¬ i ∈ S.dirty := fun hm => hlt (List.idxOf_lt_length_of_mem hm)
      have : S.ver i = [] := by
        rcases Nat.lt_or_ge i S.n with h1 | h1
        · exact Classical.byContradiction fun hne => hn ((mem_dirty i).2 ⟨h1, hne⟩)
        · exact h.out i h1
      rw [this, pickOf_nil]
    · have : picks.getD (S.dirty.idxOf i) 0 = 0 := by
        rw [List.getD_eq_getElem?_getD, List.getElem?_eq_none (by omega)]; rfl
      rw [this, pickOf_zero]
end Go.Proofs.Ytkfijgdbaihhpaa.DiskSpec
