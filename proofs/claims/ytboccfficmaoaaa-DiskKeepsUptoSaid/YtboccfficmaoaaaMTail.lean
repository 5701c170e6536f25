/- A row of bytes that begins anywhere in its block: one byte is appended, its last one is kept. -/
import Derived.Test.YtboccfficmaoaaaMDiskNew
import Derived.Deep.AppendSrc
import Derived.Laws.AppendOwn
namespace Go.Proofs.Ytboccfficmaoaaa.Dsk
open Go.RowKit Mem Crc DiskSpec

/-- A row of the call's own, from anywhere in its block on. -/
def Tail (w : World) (base : Nat) (v : Value) (xs : List Nat) : Prop :=
  (v = .slice none 0 0 ∧ xs = []) ∨ ∃ g off cap cur, v = .slice (some ⟨g, off, none⟩) xs.length cap ∧ base ≤ g ∧ Blk w g 5 cur ∧ xs.length ≤ cap ∧ off + cap ≤ cur.size ∧ cap ≤ maxLen ∧
    ∀ j x, xs[j]? = some x → cur[off + j]? = some (.int .u8 (x : Nat))
section
variable {w w' : World} {base : Nat} {v : Value} {xs : List Nat}
theorem Tail.nil (w : World) (base : Nat) : Tail w base (.slice none 0 0) [] := .inl ⟨rfl, rfl⟩
theorem Tail.block (h : Tail w base v xs) : ∀ g, v.ownBlock = some g → base ≤ g ∧ ∃ cur, Blk w g 5 cur := by
  intro g hg
  rcases h with ⟨rfl, _⟩ | ⟨g', off, cap, cur, rfl, hb, hh, _⟩
  · cases hg
  · cases hg; exact ⟨hb, cur, hh⟩
theorem Tail.keep {row : Option Nat} (h : Tail w base v xs) (hg : w.grownBy w' row) (hn : ∀ g, v.ownBlock = some g → row ≠ some g) : Tail w' base v xs := by
  rcases h with h | ⟨g, off, cap, cur, rfl, hb, hh, rest⟩
  · exact .inl h
  · exact .inr ⟨g, off, cap, cur, rfl, hb, hh.grown hg (fun e => hn g rfl e.symm), rest⟩
theorem Tail.turn {o o' : Nat → Prop} (h : Tail w base v xs) (ht : Turn w w' o o') (hn : ∀ g, v.ownBlock = some g → ¬ o g) : Tail w' base v xs := by
  rcases h with h | ⟨g, off, cap, cur, rfl, hb, hh, rest⟩
  · exact .inl h
  · exact .inr ⟨g, off, cap, cur, rfl, hb, (ht.block g hh.lt (hn g rfl)).trans hh, rest⟩
theorem Tail.at_ (h : Tail w base v xs) {j : Nat} {x : Nat} (hx : xs[j]? = some x) : ∃ g off cap, v = .slice (some ⟨g, off, none⟩) xs.length cap ∧ w.cell? ⟨g, off + j, none⟩ = some (.int .u8 (x : Nat)) := by
  rcases h with ⟨_, rfl⟩ | ⟨g, off, cap, cur, rfl, hb, hh, _, _, _, hc⟩
  · simp at hx
  · exact ⟨g, off, cap, rfl, by rw [hh.cell]; exact hc j x hx⟩
theorem Tail.shape (h : Tail w base v xs) : ∃ A cap, v = .slice A xs.length cap ∧ xs.length ≤ cap ∧ cap ≤ maxLen := by
  rcases h with ⟨rfl, rfl⟩ | ⟨g, off, cap, cur, rfl, _, _, h1, _, h2, _⟩
  · exact ⟨none, 0, rfl, Nat.le_refl _, by simp [maxLen]⟩
  · exact ⟨_, cap, rfl, h1, h2⟩
/-- The last one is kept. -/
theorem Tail.last (h : Tail w base v xs) (hn : xs ≠ []) : ∃ g off cap, v = .slice (some ⟨g, off, none⟩) xs.length cap ∧ xs.length ≤ cap ∧ Tail w base (.slice (some ⟨g, off + (xs.length - 1), none⟩) 1 (cap - (xs.length - 1))) [xs.getLastD 0] := by
  rcases h with ⟨_, e⟩ | ⟨g, off, cap, cur, rfl, hb, hh, h1, h2, h3, hc⟩
  · exact absurd e hn
  · have hp : 0 < xs.length := List.length_pos_iff.2 hn
    refine ⟨g, off, cap, rfl, h1, .inr ⟨g, off + (xs.length - 1), cap - (xs.length - 1), cur, rfl, hb, hh, by simp; omega, by omega, by omega, fun j x hx => ?_⟩⟩
    have hj : j = 0 := by have := (List.getElem?_eq_some_iff.1 hx).1; simp at this; omega
    subst hj
    simp at hx
    subst hx
    have e : xs[xs.length - 1]? = some (xs.getLast?.getD 0) := by
      rw [List.getLast?_eq_getElem?, List.getElem?_eq_getElem (by omega)]; rfl
    rw [Nat.add_zero]
    exact hc _ _ e
/-- One byte more. -/
theorem Tail.append (h : Tail w base v xs) (ty : TypeId) (s : Nat) (y : Nat) (hy : w.cell? ⟨s, 0, none⟩ = some (.int .u8 (y : Nat))) (hroom : xs.length < 1099511627776) (hb : base ≤ w.heap.size) :
    ∃ A c w1, (Builtin.append_ #[22, 22] ty #[v, .slice (some ⟨s, 0, none⟩) 1 1]).run Try.prog w = .ok (.slice A (xs.length + 1) c) w1 ∧ Tail w1 base (.slice A (xs.length + 1) c) (xs ++ [y]) ∧ w.grownBy w1 v.ownBlock ∧
      ((Value.slice A (xs.length + 1) c).ownBlock = v.ownBlock ∨ (Value.slice A (xs.length + 1) c).ownBlock = some w.heap.size) := by
  obtain ⟨i0, hi0, hz0, hz1, hz2⟩ := info_parts byte_info
  have hu : Try.prog.underlying 22 = some (.slice 5) := Try.underlying22
  have hnews : ∀ j u, [Value.int .u8 (y : Nat)][j]? = some u → w.cell? ((⟨s, 0, none⟩ : Addr).add j) = some u := fun j u hj => by
    have : j = 0 := by have := (List.getElem?_eq_some_iff.1 hj).1; simp at this; omega
    subst this
    simp at hj
    subst hj
    rw [Addr.add_mid]; exact hy
  have hcs : (Value.int .u8 0).cells.size = 1 := rfl
  have hsrc : Src Try.prog i0.size 22 (.slice (some ⟨s, 0, none⟩) 1 1) 1 [Value.int .u8 (y : Nat)] w := Src.ofSlice w hu ⟨s, 0, none⟩ 1 1 _ (by rw [hz1]; rfl) hnews (fun u hu => by simp at hu; subst hu; rfl)
  have key : ∀ j x, (xs ++ [y])[j]? = some x → (xs[j]? = some x) ∨ (j = xs.length ∧ x = y) := fun j x hx => by
    rcases Nat.lt_or_ge j xs.length with hj | hj
    · rw [List.getElem?_append_left hj] at hx; exact .inl hx
    · rw [List.getElem?_append_right hj] at hx
      have h1 := (List.getElem?_eq_some_iff.1 hx).1
      have hj0 : j = xs.length := by simp at h1; omega
      subst hj0
      simp at hx
      exact .inr ⟨rfl, hx.symm⟩
  rcases h with ⟨rfl, rfl⟩ | ⟨g, off, cap, cur, rfl, hbg, hh, h1, h2, h3, hc⟩
  · have hr := run_append_nil (P := Try.prog) w 22 ty 5 i0 _ hu hi0 hz0 ⟨s, 0, none⟩ 1 1 _ (by rw [hz1]; rfl) hnews (by omega) (by omega) (by rw [hz2]; omega)
    have hge := grownCap_ge w 1 0 5
    have hle := grownCap_le_maxLen w 1 0 5 (by simp [maxLen])
    refine ⟨_, _, _, hr, .inr ⟨w.heap.size, 0, _, _, rfl, hb, heap_alloc_new w.drew _, hge, by rw [Array.size_append, size_zeroCells, hcs]; simp; omega, hle, fun j x hx => ?_⟩, ⟨rfl, rfl, rfl, by simp, fun k hk _ => Below.heap_alloc w.drew _ k hk⟩, .inr rfl⟩
    rcases key j x hx with h | ⟨rfl, rfl⟩
    · simp at h
    · rw [Nat.zero_add, Array.getElem?_append_left (by simp)]; simp
  · by_cases hroom2 : xs.length + 1 ≤ cap
    · have hin : off + xs.length < cur.size := by omega
      have hr := run_append_room_src (P := Try.prog) w 22 22 ty 5 i0 hu hi0 g off xs.length cap _ 1 _ hsrc hroom2
        (fun j hj => by simp at hj; subst hj; rw [hz1, Nat.mul_one, Nat.add_zero, hh.cell, Array.getElem?_eq_getElem hin]; rfl) (fun j _ => hh.frozen _)
      rw [hz1, Nat.mul_one] at hr
      refine ⟨_, _, _, hr, .inr ⟨g, off, cap, _, by simp, hbg, hh.set_ (off + xs.length) _, by simpa using hroom2, by simpa using h2, h3, fun j x hx => ?_⟩, Lib.grownBy_setB (World.grownBy.refl w (some g)) _ _, .inl rfl⟩
      rw [Array.getElem?_setIfInBounds]
      rcases key j x hx with h | ⟨rfl, rfl⟩
      · have hj := (List.getElem?_eq_some_iff.1 h).1
        rw [if_neg (by omega)]; exact hc j x h
      · rw [if_pos rfl, if_pos hin]
    · have hfull : cap = xs.length := by omega
      have holds : ∀ j u, (u8s xs)[j]? = some u → w.cell? ((⟨g, off, none⟩ : Addr).add j) = some u := fun j u hj => by
        have hjl : j < xs.length := by have := (List.getElem?_eq_some_iff.1 hj).1; rwa [u8s_length] at this
        rw [u8s_at xs j hjl] at hj
        rw [Addr.add_mid, hh.cell, ← hj]
        exact hc j _ (by rw [List.getD_eq_getElem?_getD, List.getElem?_eq_getElem hjl]; rfl)
      have hr := run_append_grow (P := Try.prog) w 22 ty 5 i0 _ hu hi0 hz0 ⟨g, off, none⟩ xs.length cap (u8s xs) (by rw [hz1, Nat.mul_one, u8s_length]) holds ⟨s, 0, none⟩ 1 1 _ (by rw [hz1]; rfl) hnews (by omega) (by omega)
        (growslice_fits (by omega) (by rw [hz2]; omega))
      have hge := grownCap_ge w (xs.length + 1) cap 5
      have hle := grownCap_le_maxLen w (xs.length + 1) cap 5 (by simp only [maxLen]; omega)
      refine ⟨_, _, _, hr, .inr ⟨w.heap.size, 0, _, _, by simp, hb, heap_alloc_new w.drew _, by simpa using hge, by rw [Array.size_append, size_zeroCells, hcs]; simp [u8s_length]; omega, hle, fun j x hx => ?_⟩, ⟨rfl, rfl, rfl, by simp, fun k hk _ => Below.heap_alloc w.drew _ k hk⟩, .inr rfl⟩
      rw [Nat.zero_add, Array.getElem?_append_left (by
        have := (List.getElem?_eq_some_iff.1 hx).1
        simp at this
        simp [u8s_length]; omega)]
      rcases key j x hx with h | ⟨rfl, rfl⟩
      · have hj := (List.getElem?_eq_some_iff.1 h).1
        rw [Array.getElem?_append_left (by simpa [u8s_length] using hj), List.getElem?_toArray, u8s_at xs j hj, List.getD_eq_getElem?_getD, h]; rfl
      · rw [Array.getElem?_append_right (by simp [u8s_length])]
        simp [u8s_length]
end
end Go.Proofs.Ytboccfficmaoaaa.Dsk
