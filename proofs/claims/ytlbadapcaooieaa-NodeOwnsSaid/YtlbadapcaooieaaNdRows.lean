/- Rows of a law's own that are written over: what is kept. No program's function is named. -/
import Derived.Test.YtlbadapcaooieaaNdSized
namespace Go.Proofs.Ytlbadapcaooieaa.Node
open Go.RowKit CrcMath Mem Crc Codec NdSpec
set_option linter.unusedVariables false
set_option linter.unusedSimpArgs false

theorem putR_len (lf : Bool) (ks vs : List Int) (key val : Int) : (putR lf ks vs key val).2.2.1.length ≤ 8 ∧ (putR lf ks vs key val).2.2.2.length ≤ 8 := by
  unfold putR
  by_cases h1 : may lf ks vs = false
  · rw [if_pos h1]; simp [NdSpec.nil]
  · rw [if_neg h1]
    split
    · simp [NdSpec.nil]
    · split
      · simp [NdSpec.nil]
      · rename_i h3
        have hl := may_len (show may lf ks vs = true by simpa using h1)
        simp only at h3 ⊢
        have e : ∀ (l : List Int) (x : Int), l.length = ks.length → (ins l (find ks key) (rest ks key) x).length = find ks key + (1 + (ks.length - rest ks key)) := by
          intro l x hx
          have := find_le ks key
          unfold ins
          rw [List.length_append, List.length_take, List.length_cons, List.length_drop]
          omega
        rw [e ks key rfl] at h3 ⊢
        rw [e vs val hl.1.symm]
        omega
theorem dropR_len (lf : Bool) (ks vs : List Int) (i : Int) : (dropR lf ks vs i).2.2.1.length ≤ 8 ∧ (dropR lf ks vs i).2.2.2.length ≤ 8 := by
  unfold dropR
  split
  · simp [NdSpec.nil]
  · split
    · simp [NdSpec.nil]
    · split
      · simp [NdSpec.nil]
      · rename_i h
        have hl := may_len (show may lf (del ks i.toNat) (del vs i.toNat) = true by simpa using h)
        simp only
        omega
theorem splitR_len (lf : Bool) (ks vs : List Int) : ((splitR lf ks vs).2.1.2.1.length ≤ 8 ∧ (splitR lf ks vs).2.1.2.2.length ≤ 8) ∧ (splitR lf ks vs).2.2.2.1.length ≤ 8 ∧ (splitR lf ks vs).2.2.2.2.length ≤ 8 := by
  unfold splitR halvesR
  by_cases h1 : may lf ks vs = false
  · rw [if_pos h1]; simp [NdSpec.nil]
  · rw [if_neg h1]
    have hl := may_len (show may lf ks vs = true by simpa using h1)
    split
    · simp [NdSpec.nil]
    · simp only [List.length_take, List.length_drop]
      omega
theorem Told1.own_ {w w' : World} {r : Int × Nd} {e : Ending} (h : Told1 w r e w') : ∃ A A' L L' c c', e = .returned (.tuple #[.agg #[.bool r.2.1, .slice A L c, .slice A' L' c'], .int .i64 r.1]) ∧ w.grownBy w' none ∧
    NdOwn w' w.heap.size (.slice A L c) (.slice A' L' c') r.2.2.1 r.2.2.2 ∧ r.2.2.1.length = L ∧ r.2.2.2.length = L' := by
  obtain ⟨hg, v1, v2, rfl, ho⟩ := h
  obtain ⟨A, A', c, c', rfl, rfl, hat⟩ := ho.at_
  exact ⟨A, A', _, _, c, c', rfl, hg, ho, rfl, rfl⟩
theorem Told2.own2_ {w w' : World} {r : Int × Nd × Nd} {e : Ending} (h : Told2 w r e w') : ∃ A A' L L' c c' B B' M M' d d', e = .returned (.tuple #[.agg #[.bool r.2.1.1, .slice A L c, .slice A' L' c'], .agg #[.bool r.2.2.1, .slice B M d, .slice B' M' d'], .int .i64 r.1]) ∧ w.grownBy w' none ∧
    NdOwn w' w.heap.size (.slice A L c) (.slice A' L' c') r.2.1.2.1 r.2.1.2.2 ∧ NdOwn w' w.heap.size (.slice B M d) (.slice B' M' d') r.2.2.2.1 r.2.2.2.2 ∧ Apart2 (.slice A L c) (.slice A' L' c') (.slice B M d) (.slice B' M' d') ∧
    (r.2.1.2.1.length = L ∧ r.2.1.2.2.length = L') ∧ r.2.2.2.1.length = M ∧ r.2.2.2.2.length = M' := by
  obtain ⟨hg, v1, v2, u1, u2, rfl, ho, ho2, hap⟩ := h
  obtain ⟨A, A', c, c', rfl, rfl, hat⟩ := ho.at_
  obtain ⟨B, B', d, d', rfl, rfl, hat2⟩ := ho2.at_
  exact ⟨A, A', _, _, c, c', B, B', _, _, d, d', rfl, hg, ho, ho2, hap, ⟨rfl, rfl⟩, rfl, rfl⟩
theorem own_of_nil {w : World} {b : Nat} {e : TypeId} {v : Value} {n : Nat} {xs : List Value} (h : w.ownsRow b e 1 v (0 + n) ([] ++ xs)) : w.ownsRow b e 1 v (([] : List Int).length + n) (i64s [] ++ xs) := h

/-- A row of numbers of the law's own: whatever it reads as. -/
def IRow (w : World) (S0 g : Nat) (v : Value) (n : Nat) : Prop := (∃ xs : List Int, Sole w S0 3 1 v n (i64s xs)) ∧ ∀ b, v.ownBlock = some b → b ≠ g
section
variable {w w' : World} {S0 g n : Nat} {v : Value} {K : Nat → Prop}
theorem IRow.kept (h : IRow w S0 g v n) (hk : Kept K w w') (hb : ∀ b, v.ownBlock = some b → K b) : IRow w' S0 g v n := by
  obtain ⟨⟨xs, hs⟩, h2⟩ := h
  exact ⟨⟨xs, hk.own hs hb⟩, h2⟩
theorem IRow.lt (h : IRow w S0 g v n) : ∀ b, v.ownBlock = some b → S0 ≤ b ∧ b < w.heap.size := by
  obtain ⟨⟨xs, hs⟩, _⟩ := h
  exact hs.base_
theorem IRow.quiet (h : IRow w S0 g v n) (hg : w.grownBy w' none) : IRow w' S0 g v n := by
  obtain ⟨⟨xs, hs⟩, h2⟩ := h
  exact ⟨⟨xs, hs.keep hg (fun _ _ e => by cases e)⟩, h2⟩
theorem IRow.far (h : IRow w S0 g v n) {b j : Nat} (hb : v.ownBlock ≠ some b) (u : Value) : IRow (w.setCell ⟨b, j, none⟩ u) S0 g v n := by
  obtain ⟨⟨xs, hs⟩, h2⟩ := h
  exact ⟨⟨xs, hs.keep (only_set (World.grownBy.refl w (some b)) j u) (fun q hq e => by cases e; exact hb hq)⟩, h2⟩
theorem IRow.row (h : IRow w S0 g v n) {row : Option Nat} (hg : w.grownBy w' row) (hb : ∀ b, v.ownBlock = some b → row ≠ some b) : IRow w' S0 g v n := by
  obtain ⟨⟨xs, hs⟩, h2⟩ := h
  exact ⟨⟨xs, hs.keep hg hb⟩, h2⟩
/-- A cell of it. -/
theorem IRow.cell {A : Option Addr} {c : Nat} (h : IRow w S0 g (.slice A n c) n) {j : Nat} (hj : j < n) : ∃ b x, A = some ⟨b, 0, none⟩ ∧ w.cell? ⟨b, j, none⟩ = some (.int .i64 x) ∧ w.frozen? ⟨b, j, none⟩ = false ∧ b < w.heap.size ∧ ∀ u : Int, IRow (w.setCell ⟨b, j, none⟩ (.int .i64 u)) S0 g (.slice A n c) n := by
  obtain ⟨⟨xs, hs⟩, h2⟩ := h
  have hlen : xs.length = n := by have := hs.1; rw [i64s_length, Nat.mul_one] at this; exact this
  rcases hs.2 with ⟨h0, _⟩ | ⟨b, cap, cur, hv, hb, hh, h1, h3, h4, h5⟩
  · injection h0 with h0 h0' _; subst h0'; omega
  · injection hv with hA hn hc
    subst hA hc
    have hB : Blk w b 3 cur := hh
    have hcj : cur[j]? = some (.int .i64 (xs.getD j 0)) := by
      have e1 : (cur.toList.take (n * 1))[j]? = cur[j]? := by rw [List.getElem?_take_of_lt (by omega), Array.getElem?_toList]
      rw [← e1, h5, i64s_at xs j (by omega)]
    refine ⟨b, xs.getD j 0, rfl, by rw [hB.cell]; exact hcj, hB.frozen j, hB.lt, fun u => ⟨⟨xs.set j u, ?_, .inr ⟨b, c, cur.setIfInBounds j (.int .i64 u), rfl, hb, hB.set_ j _, h1, h3, ?_, ?_⟩⟩, h2⟩⟩
    · rw [i64s_length, List.length_set, hlen, Nat.mul_one]
    · rw [Array.size_setIfInBounds]; exact h4
    · rw [Array.toList_setIfInBounds, Nat.mul_one, List.take_set, ← Nat.mul_one n, h5]
      simp [i64s, List.map_set]
end
theorem Kept.set {K : Nat → Prop} {W0 w : World} (h : Kept K W0 w) {b j : Nat} (hb : ¬ K b) (ht : ∀ g, K g → g < W0.heap.size) (u : Value) : Kept K W0 (w.setCell ⟨b, j, none⟩ u) :=
  h.then_ (only_set (World.grownBy.refl w (some b)) j u) ht (fun g e => by cases e; exact hb)
theorem Kept.mono {K K' : Nat → Prop} {W0 w : World} (h : Kept K W0 w) (hk : ∀ g, K' g → K g) : Kept K' W0 w := ⟨h.os, h.tape, h.output, h.size, fun g hg => h.block g (hk g hg)⟩
theorem Kept.trans {K : Nat → Prop} {W0 w w' : World} (h : Kept K W0 w) (k : Kept K w w') : Kept K W0 w' := ⟨k.os.trans h.os, k.tape.trans h.tape, k.output.trans h.output, Nat.le_trans h.size k.size, fun g hg => (k.block g hg).trans (h.block g hg)⟩
theorem IRow.of {w : World} {base S0 g n : Nat} {v : Value} {l : List Int} (h : Sole w base 3 1 v l.length (i64s l)) (hn : l.length = n) (hb : S0 ≤ base) (hg : ∀ b, v.ownBlock = some b → b ≠ g) : IRow w S0 g v n := by
  subst hn
  exact ⟨⟨l, h.low hb⟩, hg⟩
/-- Append of a number to it. -/
theorem IRow.app {w w' : World} {S0 g n : Nat} {v v' : Value} {xs : List Int} {u : Int} (hg : g < w.heap.size) (h2 : ∀ b, v.ownBlock = some b → b ≠ g) (ho : w'.ownsRow S0 3 1 v' (n + 1) (i64s xs ++ [.int .i64 u])) (hw : v'.ownBlock = v.ownBlock ∨ v'.ownBlock = some w.heap.size) : IRow w' S0 g v' (n + 1) := by
  refine ⟨⟨xs ++ [u], by rw [i64s_append]; exact ho⟩, fun b hb => ?_⟩
  rcases hw with e | e
  · exact h2 b (e ▸ hb)
  · rw [e] at hb
    cases hb
    omega
theorem reads_blk {w : World} {g k size : Nat} {t : TypeId} {xs : List Value} (hb : Blk w g t xs.toArray) (hl : xs.length = k * size) : Reads w (g + 1) size (some ⟨g, 0, none⟩) k xs := by
  refine ⟨hl, fun _ => ⟨_, rfl, Nat.lt_succ_self _, fun j u hu => ?_⟩⟩
  have e1 : (⟨g, 0, none⟩ : Addr).add j = ⟨g, j, none⟩ := by unfold Addr.add; split <;> simp_all
  rw [e1, hb.cell]
  simpa using hu
theorem owns_some' {w : World} {base c k : Nat} {e : TypeId} {v : Value} {xs : List Value} (h : w.ownsRow base e c v k xs) (hk : 0 < k) : ∃ g cap cur, v = .slice (some ⟨g, 0, none⟩) k cap ∧ base ≤ g ∧ Blk w g e cur ∧ k ≤ cap ∧ cap ≤ maxLen ∧ cur.toList.take (k * c) = xs := by
  obtain ⟨h1, h2 | ⟨g, cap, cur, rfl, hb, hh, h3, h4, h5, h6⟩⟩ := h
  · omega
  · exact ⟨g, cap, cur, rfl, hb, hh, h3, h4, h6⟩
end Go.Proofs.Ytlbadapcaooieaa.Node
