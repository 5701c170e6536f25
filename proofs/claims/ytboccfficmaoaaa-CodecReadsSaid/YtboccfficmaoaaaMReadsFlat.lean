/- What readers answer, told in one form whether or not there is a record. -/
import Derived.Test.YtboccfficmaoaaaMCodecPageGet
import Derived.Test.YtboccfficmaoaaaMCatalogues
import Derived.Test.YtboccfficmaoaaaMRefNode
import Derived.Test.YtboccfficmaoaaaMRefPageGet
namespace Go.Proofs.Ytboccfficmaoaaa.Codec
open Go.RowKit CrcMath CodecMath Mem Crc

theorem bytes_none (w : World) (b : Nat) : Bytes w b none 0 [] := ⟨rfl, by simp, fun h => by omega⟩
def hd4 (r : Option (Int × Int × List Int × Nat)) : Int × Int × List Int × Nat := r.getD (0, 0, [], 0)
theorem head_flat {w w' : World} {r : Option (Int × Int × List Int × Nat)} {e : Ending} (h : SaidHead w r e w') : ∃ A n c, e = .returned (.tuple #[.agg #[.int .i64 (hd4 r).1, .int .i64 (hd4 r).2.1, .slice A n c, .int .u32 ((hd4 r).2.2.2 : Nat)], .bool r.isSome]) ∧
    w.grownBy w' none ∧ Ints w' w'.heap.size A n (hd4 r).2.2.1 ∧ n ≤ maxLen := by
  obtain ⟨hg, ⟨ep, sq, ps, sm, v, rfl, rfl, ho, hr, _⟩ | ⟨rfl, rfl⟩⟩ := h
  · obtain ⟨A, c, rfl, hi, h1, h2⟩ := own_ints ho hr
    exact ⟨A, _, c, rfl, hg, hi, Nat.le_trans h1 h2⟩
  · exact ⟨none, 0, 0, rfl, hg, ints_none _ _ _, by simp [maxLen]⟩
def pg2 (r : Option (Int × List Nat)) : Int × List Nat := r.getD (0, [])
theorem page_flat {w w' : World} {b : Nat} {r : Option (Int × List Nat)} {e : Ending} (hb : b < w.heap.size) (hl : ∀ p, r = some p → p.2.length ≤ 240) (h : SaidPage w r e w') : ∃ A n c, e = .returned (.tuple #[.agg #[.int .i64 (pg2 r).1, .slice A n c], .bool r.isSome]) ∧
    w.grownBy w' none ∧ Bytes w' b A n (pg2 r).2 ∧ n ≤ 240 := by
  obtain ⟨hg, ⟨k, body, v, rfl, rfl, ho⟩ | ⟨rfl, rfl⟩⟩ := h
  · obtain ⟨A, c, rfl, _, hby⟩ := ho.bytes hb
    exact ⟨A, _, c, rfl, hg, hby, hl _ rfl⟩
  · exact ⟨none, 0, 0, rfl, hg, bytes_none _ _, by omega⟩
theorem page_flat' {w w' : World} {r : Option (Int × List Nat)} {e : Ending} (hl : ∀ p, r = some p → p.2.length ≤ 240) (h : ToldPage w r e w') : ∃ A n c, e = .returned (.tuple #[.agg #[.int .i64 (pg2 r).1, .slice A n c], .bool r.isSome]) ∧
    w.grownBy w' none ∧ Bytes w' w'.heap.size A n (pg2 r).2 ∧ n ≤ 240 := by
  obtain ⟨hg, ⟨k, body, v, rfl, rfl, ho, hx⟩ | ⟨rfl, rfl⟩⟩ := h
  · obtain ⟨A, c, rfl, hby, _, _⟩ := own_bytes ho hx
    exact ⟨A, _, c, rfl, hg, hby, hl _ rfl⟩
  · exact ⟨none, 0, 0, rfl, hg, bytes_none _ _, by omega⟩
def im5 (r : Option (Int × Int × Int × Int × List Nat)) : Int × Int × Int × Int × List Nat := r.getD (0, 0, 0, 0, [])
theorem image_flat {w w' : World} {b : Nat} {r : Option (Int × Int × Int × Int × List Nat)} {e : Ending} (hb : b < w.heap.size) (hl : ∀ p, r = some p → p.2.2.2.2.length ≤ 240) (h : SaidImage w r e w') :
    ∃ A n c, e = .returned (.tuple #[.int .i64 (im5 r).1, .int .i64 (im5 r).2.1, .agg #[.int .i64 (im5 r).2.2.1, .int .i64 (im5 r).2.2.2.1, .slice A n c], .bool r.isSome]) ∧ w.grownBy w' none ∧ Bytes w' b A n (im5 r).2.2.2.2 ∧ n ≤ 240 := by
  obtain ⟨hg, ⟨_, _, _, _, body, v, rfl, rfl, ho⟩ | ⟨rfl, rfl⟩⟩ := h
  · obtain ⟨A, c, rfl, _, hby⟩ := ho.bytes hb
    exact ⟨A, _, c, rfl, hg, hby, hl _ rfl⟩
  · exact ⟨none, 0, 0, rfl, hg, bytes_none _ _, by omega⟩
theorem image_flat' {w w' : World} {r : Option (Int × Int × Int × Int × List Nat)} {e : Ending} (hl : ∀ p, r = some p → p.2.2.2.2.length ≤ 240) (h : ToldImage w r e w') :
    ∃ A n c, e = .returned (.tuple #[.int .i64 (im5 r).1, .int .i64 (im5 r).2.1, .agg #[.int .i64 (im5 r).2.2.1, .int .i64 (im5 r).2.2.2.1, .slice A n c], .bool r.isSome]) ∧ w.grownBy w' none ∧ Bytes w' w'.heap.size A n (im5 r).2.2.2.2 ∧ n ≤ 240 := by
  obtain ⟨hg, ⟨_, _, _, _, body, v, rfl, rfl, ho, hx⟩ | ⟨rfl, rfl⟩⟩ := h
  · obtain ⟨A, c, rfl, hby, _, _⟩ := own_bytes ho hx
    exact ⟨A, _, c, rfl, hg, hby, hl _ rfl⟩
  · exact ⟨none, 0, 0, rfl, hg, bytes_none _ _, by omega⟩
def nd3 (r : Option (Bool × List Int × List Int)) : Bool × List Int × List Int := r.getD (false, [], [])
theorem node_flat {w w' : World} {r : Option (Bool × List Int × List Int)} {e : Ending} (h : ToldNode w r e w') : ∃ A n c A' n' c', e = .returned (.tuple #[.agg #[.bool (nd3 r).1, .slice A n c, .slice A' n' c'], .bool r.isSome]) ∧
    w.grownBy w' none ∧ Ints w' w'.heap.size A n (nd3 r).2.1 ∧ Ints w' w'.heap.size A' n' (nd3 r).2.2 ∧ n ≤ maxLen ∧ n' ≤ maxLen := by
  obtain ⟨hg, ⟨lf, ks, vs, v, v', rfl, rfl, ho, ho', _, hr, hr'⟩ | ⟨rfl, rfl⟩⟩ := h
  · obtain ⟨A, c, rfl, hi, h1, h2⟩ := own_ints ho hr
    obtain ⟨A', c', rfl, hi', h1', h2'⟩ := own_ints ho' hr'
    exact ⟨A, _, c, A', _, c', rfl, hg, hi, hi', Nat.le_trans h1 h2, Nat.le_trans h1' h2'⟩
  · exact ⟨none, 0, 0, none, 0, 0, rfl, hg, ints_none _ _ _, ints_none _ _ _, by simp [maxLen], by simp [maxLen]⟩
def ct1 (r : Option (List Int)) : List Int := r.getD []
theorem counts_flat {w w' : World} {r : Option (List Int)} {e : Ending} (h : ToldInts w r e w') : ∃ A n c, e = .returned (.tuple #[.slice A n c, .bool r.isSome]) ∧ w.grownBy w' none ∧ Ints w' w'.heap.size A n (ct1 r) ∧ n ≤ maxLen := by
  obtain ⟨hg, ⟨s, v, rfl, rfl, ho, hr⟩ | ⟨rfl, rfl⟩⟩ := h
  · obtain ⟨A, c, rfl, hi, h1, h2⟩ := own_ints ho hr
    exact ⟨A, _, c, rfl, hg, hi, Nat.le_trans h1 h2⟩
  · exact ⟨none, 0, 0, rfl, hg, ints_none _ _ _, by simp [maxLen]⟩
def ca3 (r : Option (Int × List Int × List Int)) : Int × List Int × List Int := r.getD (0, [], [])
theorem cat_flat {w w' : World} {r : Option (Int × List Int × List Int)} {e : Ending} (h : SaidCat w r e w') : ∃ A n c A' n' c', e = .returned (.tuple #[.agg #[.int .i64 (ca3 r).1, .slice A n c, .slice A' n' c'], .bool r.isSome]) ∧
    w.grownBy w' none ∧ Ints w' w'.heap.size A (6 * n) (ca3 r).2.2 ∧ Ints w' w'.heap.size A' n' (ca3 r).2.1 ∧ n ≤ maxLen ∧ n' ≤ maxLen := by
  obtain ⟨hg, ⟨nx, st, vs, v, v', rfl, rfl, ho, ho', hr, hr'⟩ | ⟨rfl, rfl⟩⟩ := h
  · obtain ⟨A, c, rfl, hi, h1, h2⟩ := own_vols ho hr
    obtain ⟨A', c', rfl, hi', h1', h2'⟩ := own_ints ho' hr'
    exact ⟨A, 8, c, A', _, c', rfl, hg, hi, hi', by simp [maxLen], Nat.le_trans h1' h2'⟩
  · exact ⟨none, 0, 0, none, 0, 0, rfl, hg, ints_none _ _ _, ints_none _ _ _, by simp [maxLen], by simp [maxLen]⟩
theorem pageR_le (l : List Nat) (number : Int) : ∀ p, pageR l number = some p → p.2.length ≤ 240 := by
  intro p h
  unfold pageR at h
  split at h
  · cases h; simp
  · split at h
    · cases h; simp [bodyOf]; omega
    · cases h
theorem imageR_le (l : List Nat) : ∀ p, imageR l = some p → p.2.2.2.2.length ≤ 240 := by
  intro p h
  unfold imageR at h
  split at h
  · cases h; simp [bodyOf]; omega
  · cases h
theorem run_same_sup (w : World) (a0 a1 a2 a3 a4 a5 a6 : Int) :
    (binOp .neq 27 (.agg #[.int .i64 a0, .int .i64 a1, .int .i64 a2, .int .i64 a3, .int .i64 a4, .int .i64 a5, .int .i64 a6]) (.agg #[.int .i64 a0, .int .i64 a1, .int .i64 a2, .int .i64 a3, .int .i64 a4, .int .i64 a5, .int .i64 a6])).run Try.prog w = .ok (.bool false) w := by
  go_simp
end Go.Proofs.Ytboccfficmaoaaa.Codec
