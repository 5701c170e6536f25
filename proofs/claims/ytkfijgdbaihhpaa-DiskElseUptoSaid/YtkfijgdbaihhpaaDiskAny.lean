/- Each call on either disk, whatever it is asked: one contract a call. -/
import Derived.Test.YtkfijgdbaihhpaaRefNew
import Derived.Test.YtkfijgdbaihhpaaRefWrite3
import Derived.Test.YtkfijgdbaihhpaaDiskWrite3
import Derived.Test.YtkfijgdbaihhpaaDiskKnown
namespace Go.Proofs.Ytkfijgdbaihhpaa.Dsk
open Go.RowKit Mem Crc DiskSpec

/-- A disk at block b; the document's disk at block r. -/
def DAt (w : World) (B b : Nat) (S : St) (own : Nat → Prop) : Prop := ∃ bd bm f, Lay w B b bd bm f S own
def RAt (w : World) (B r : Nat) (S : St) (own : Nat → Prop) : Prop := ∃ bl c dv vv vs, RLay w B r bl c dv vv vs S own

/-! ### Plain words: what a call answers, and what it leaves -/
def writeE (S : St) (fua : Bool) (a : Int) (l : List Nat) : Int × St :=
  if l.length = 0 ∨ l.length % 256 ≠ 0 then (1, S)
  else if S.has a (l.length / 256 : Nat) = false then (2, S)
  else if S.f2 = 1 ∨ S.left = 0 then (11, { S with f2 := S.f2 - 1 })
  else (0, (({ S with f2 := S.f2 - 1 } : St).puts fua a.toNat l (l.length / 256)).done)
def readE (S : St) (a count : Int) : Int × St :=
  if S.has a count = false then (2, S) else if S.f1 = 1 then (10, { S with f1 := S.f1 - 1 }) else (0, { S with f1 := S.f1 - 1 })
def readL (S : St) (a count : Int) : List Nat := if S.has a count = false then [] else if S.f1 = 1 then [] else S.reads a.toNat count.toNat
def flushE (S : St) : Int × St :=
  if S.f3 = 1 ∨ S.left = 0 then (12, { S with f3 := S.f3 - 1 }) else (0, ({ S with f3 := S.f3 - 1 } : St).flush.done)
def failE (S : St) (kind n : Int) : Int × St :=
  if n < 1 ∨ 1099511627776 < n then (1, S) else if kind = 1 then (0, { S with f1 := n.toNat }) else if kind = 2 then (0, { S with f2 := n.toNat }) else if kind = 3 then (0, { S with f3 := n.toNat }) else (1, S)
def cutE (S : St) (n : Int) : Int × St := if n < 0 ∨ 1099511627776 < n then (1, S) else (0, { S with left := n })
theorem has_split {S : St} {a c : Int} (h : S.has a c = true) (_hn : S.n ≤ 4096) : ∃ a' c' : Nat, a = a' ∧ c = c' ∧ 1 ≤ c' ∧ a' + c' ≤ S.n := by
  simp [St.has] at h
  exact ⟨a.toNat, c.toNat, by omega, by omega, by omega, by omega⟩
theorem Data.none_ (w : World) (own : Nat → Prop) : Data w own none 0 [] := ⟨rfl, by simp, by omega⟩

theorem disk_write_all {w : World} {B b : Nat} {S : St} {own : Nat → Prop} (h : DAt w B b S own) (a : Int) (A : Option Addr) (n cc : Nat) (l : List Nat) (fua : Bool) (ha : -9223372036854775808 ≤ a ∧ a ≤ 9223372036854775807)
    (hd : Data w own A n l) (hc : n ≤ cc) (hnm : n ≤ 65536) (hroom : ∀ i, (S.ver i).length < 549755813888) (hB : B ≤ w.heap.size) :
    Calls Try.prog 24 #[.pointer (some ⟨b, 0, none⟩), .int .i64 a, .slice A n cc, .bool fua] w fun e w' => e = .returned (.int .i64 (writeE S fua a l).1) ∧ ∃ own', DAt w' B b (writeE S fua a l).2 own' ∧ Turn w w' own own' := by
  obtain ⟨bd, bm, f, h⟩ := h
  have hl := hd.1
  unfold writeE
  rw [hl]
  by_cases h1 : n = 0 ∨ n % 256 ≠ 0
  · rw [if_pos h1]
    refine (disk_write_arg _ a A n cc fua w (by omega) h1).mono ?_
    rintro e w' ⟨rfl, rfl⟩
    exact ⟨rfl, own, ⟨bd, bm, f, h⟩, Turn.refl _ _⟩
  · rw [if_neg h1]
    obtain ⟨k, rfl⟩ : ∃ k, n = k * 256 := ⟨n / 256, by omega⟩
    rw [Nat.mul_div_cancel _ (by omega : 0 < 256)]
    have hk : 1 ≤ k := by omega
    by_cases h2 : S.has a k = false
    · rw [if_pos h2]
      refine (disk_write_range h a A k cc fua ha hk (by omega) h2).mono ?_
      rintro e w' ⟨rfl, rfl⟩
      exact ⟨rfl, own, ⟨bd, bm, f, h⟩, Turn.refl _ _⟩
    · rw [if_neg h2]
      have h2' : S.has a k = true := by simpa using h2
      by_cases h3 : S.f2 = 1 ∨ S.left = 0
      · rw [if_pos h3]
        refine (disk_write_stop h a A k cc fua ha hk (by omega) h2' h3).mono ?_
        rintro e w' ⟨rfl, h4, h5⟩
        exact ⟨rfl, own, ⟨_, _, _, h4⟩, h5⟩
      · rw [if_neg h3]
        obtain ⟨a', c', rfl, hc', _, h5⟩ := has_split h2' h.ok.top
        obtain rfl : k = c' := by omega
        refine (disk_write_ok h a' k A cc l fua hd hc hk h5 (fun e => h3 (.inl e)) (fun e => h3 (.inr e)) hroom hB).mono ?_
        rintro e w' ⟨rfl, f', own', h6, h7⟩
        exact ⟨rfl, own', ⟨_, _, _, h6⟩, h7⟩
theorem disk_flush_all {w : World} {B b : Nat} {S : St} {own : Nat → Prop} (h : DAt w B b S own) :
    Calls Try.prog 25 #[.pointer (some ⟨b, 0, none⟩)] w fun e w' => e = .returned (.int .i64 (flushE S).1) ∧ DAt w' B b (flushE S).2 own ∧ Turn w w' own own := by
  obtain ⟨bd, bm, f, h⟩ := h
  unfold flushE
  by_cases h3 : S.f3 = 1 ∨ S.left = 0
  · rw [if_pos h3]
    refine (disk_flush_stop h h3).mono ?_
    rintro e w' ⟨rfl, h4, h5⟩
    exact ⟨rfl, ⟨_, _, _, h4⟩, h5⟩
  · rw [if_neg h3]
    refine (disk_flush_ok h (fun e => h3 (.inl e)) (fun e => h3 (.inr e))).mono ?_
    rintro e w' ⟨rfl, ⟨f', h6⟩, h7⟩
    exact ⟨rfl, ⟨_, _, _, h6⟩, h7⟩
theorem disk_fail_all {w : World} {B b : Nat} {S : St} {own : Nat → Prop} (h : DAt w B b S own) (kind n : Int) :
    Calls Try.prog 26 #[.pointer (some ⟨b, 0, none⟩), .int .i64 kind, .int .i64 n] w fun e w' => e = .returned (.int .i64 (failE S kind n).1) ∧ DAt w' B b (failE S kind n).2 own ∧ Turn w w' own own := by
  obtain ⟨bd, bm, f, h⟩ := h
  have ho := h.ownB
  unfold failE
  by_cases h1 : n < 1 ∨ 1099511627776 < n
  · rw [if_pos h1]
    refine (disk_fail_no _ kind n w (by unfold failBad; omega)).mono ?_
    rintro e w' ⟨rfl, rfl⟩
    exact ⟨rfl, ⟨bd, bm, f, h⟩, Turn.refl _ _⟩
  · rw [if_neg h1]
    obtain ⟨m, rfl⟩ : ∃ m : Nat, n = m := ⟨n.toNat, by omega⟩
    rw [Int.toNat_natCast]
    split
    · rename_i hk; subst hk
      refine (disk_fail1 h m (by omega) (by omega)).mono ?_
      rintro e w' ⟨rfl, h4, h5⟩
      exact ⟨rfl, ⟨_, _, _, h5⟩, Turn.of_grown h4 (fun q e => by cases e; exact ho)⟩
    · split
      · rename_i hk; subst hk
        refine (disk_fail2 h m (by omega) (by omega)).mono ?_
        rintro e w' ⟨rfl, h4, h5⟩
        exact ⟨rfl, ⟨_, _, _, h5⟩, Turn.of_grown h4 (fun q e => by cases e; exact ho)⟩
      · split
        · rename_i hk; subst hk
          refine (disk_fail3 h m (by omega) (by omega)).mono ?_
          rintro e w' ⟨rfl, h4, h5⟩
          exact ⟨rfl, ⟨_, _, _, h5⟩, Turn.of_grown h4 (fun q e => by cases e; exact ho)⟩
        · refine (disk_fail_no _ kind m w (by unfold failBad; omega)).mono ?_
          rintro e w' ⟨rfl, rfl⟩
          exact ⟨rfl, ⟨bd, bm, f, h⟩, Turn.refl _ _⟩
theorem disk_cut_all {w : World} {B b : Nat} {S : St} {own : Nat → Prop} (h : DAt w B b S own) (n : Int) :
    Calls Try.prog 27 #[.pointer (some ⟨b, 0, none⟩), .int .i64 n] w fun e w' => e = .returned (.int .i64 (cutE S n).1) ∧ DAt w' B b (cutE S n).2 own ∧ Turn w w' own own := by
  obtain ⟨bd, bm, f, h⟩ := h
  have ho := h.ownB
  unfold cutE
  by_cases h1 : n < 0 ∨ 1099511627776 < n
  · rw [if_pos h1]
    refine (disk_cut_no _ n w h1).mono ?_
    rintro e w' ⟨rfl, rfl⟩
    exact ⟨rfl, ⟨bd, bm, f, h⟩, Turn.refl _ _⟩
  · rw [if_neg h1]
    refine (disk_cut h n (by omega) (by omega)).mono ?_
    rintro e w' ⟨rfl, h4, h5⟩
    exact ⟨rfl, ⟨_, _, _, h5⟩, Turn.of_grown h4 (fun q e => by cases e; exact ho)⟩
theorem disk_crash_all {w : World} {B b : Nat} {S : St} {own : Nat → Prop} (h : DAt w B b S own) (A : Option Addr) (n cc : Nat) (picks : List Int) (hp : Picks w own A n picks) (hnm : n ≤ 9223372036854775807) (hroom : ∀ i, (S.ver i).length < 549755813888) :
    Calls Try.prog 16 #[.pointer (some ⟨b, 0, none⟩), .slice A n cc] w fun e w' => e = .returned (.tuple #[]) ∧ DAt w' B b (S.crash picks) own ∧ Turn w w' own own := by
  obtain ⟨bd, bm, f, h⟩ := h
  refine (disk_crash h A n cc picks hp hnm hroom).mono ?_
  rintro e w' ⟨rfl, ⟨f', h6⟩, h7⟩
  exact ⟨rfl, ⟨_, _, _, h6⟩, h7⟩

theorem ref_write_all {w : World} {B b : Nat} {S : St} {own : Nat → Prop} (h : RAt w B b S own) (a : Int) (A : Option Addr) (n cc : Nat) (l : List Nat) (fua : Bool) (ha : -9223372036854775808 ≤ a ∧ a ≤ 9223372036854775807)
    (hd : Data w own A n l) (hc : n ≤ cc) (hnm : n ≤ 65536) (hroom : ∀ i, (S.ver i).length < 549755813888) (hB : B ≤ w.heap.size) :
    Calls Try.prog 28 #[.pointer (some ⟨b, 0, none⟩), .int .i64 a, .slice A n cc, .bool fua] w fun e w' => e = .returned (.int .i64 (writeE S fua a l).1) ∧ ∃ own', RAt w' B b (writeE S fua a l).2 own' ∧ Turn w w' own own' := by
  obtain ⟨bl, c, dv, vv, vs, h⟩ := h
  have hl := hd.1
  unfold writeE
  rw [hl]
  by_cases h1 : n = 0 ∨ n % 256 ≠ 0
  · rw [if_pos h1]
    refine (ref_write_arg _ a A n cc fua w (by omega) h1).mono ?_
    rintro e w' ⟨rfl, rfl⟩
    exact ⟨rfl, own, ⟨bl, c, dv, vv, vs, h⟩, Turn.refl _ _⟩
  · rw [if_neg h1]
    obtain ⟨k, rfl⟩ : ∃ k, n = k * 256 := ⟨n / 256, by omega⟩
    rw [Nat.mul_div_cancel _ (by omega : 0 < 256)]
    have hk : 1 ≤ k := by omega
    by_cases h2 : S.has a k = false
    · rw [if_pos h2]
      refine (ref_write_range h a A k cc fua ha hk (by omega) h2).mono ?_
      rintro e w' ⟨rfl, rfl⟩
      exact ⟨rfl, own, ⟨bl, c, dv, vv, vs, h⟩, Turn.refl _ _⟩
    · rw [if_neg h2]
      have h2' : S.has a k = true := by simpa using h2
      by_cases h3 : S.f2 = 1 ∨ S.left = 0
      · rw [if_pos h3]
        refine (ref_write_stop h a A k cc fua ha hk (by omega) h2' h3).mono ?_
        rintro e w' ⟨rfl, h4, h5⟩
        exact ⟨rfl, own, ⟨_, _, _, _, _, h4⟩, h5⟩
      · rw [if_neg h3]
        obtain ⟨a', c', rfl, hc', _, h5⟩ := has_split h2' h.ok.top
        obtain rfl : k = c' := by omega
        refine (ref_write_ok h a' k A cc l fua hd hc hk h5 (fun e => h3 (.inl e)) (fun e => h3 (.inr e)) hroom hB).mono ?_
        rintro e w' ⟨rfl, dv', vv', vs', own', h6, h7⟩
        exact ⟨rfl, own', ⟨_, _, _, _, _, h6⟩, h7⟩
theorem ref_flush_all {w : World} {B b : Nat} {S : St} {own : Nat → Prop} (h : RAt w B b S own) :
    Calls Try.prog 29 #[.pointer (some ⟨b, 0, none⟩)] w fun e w' => e = .returned (.int .i64 (flushE S).1) ∧ RAt w' B b (flushE S).2 own ∧ Turn w w' own own := by
  obtain ⟨bl, c, dv, vv, vs, h⟩ := h
  unfold flushE
  by_cases h3 : S.f3 = 1 ∨ S.left = 0
  · rw [if_pos h3]
    refine (ref_flush_stop h h3).mono ?_
    rintro e w' ⟨rfl, h4, h5⟩
    exact ⟨rfl, ⟨_, _, _, _, _, h4⟩, h5⟩
  · rw [if_neg h3]
    refine (ref_flush_ok h (fun e => h3 (.inl e)) (fun e => h3 (.inr e))).mono ?_
    rintro e w' ⟨rfl, ⟨dv', vv', vs', h6⟩, h7⟩
    exact ⟨rfl, ⟨_, _, _, _, _, h6⟩, h7⟩
theorem ref_fail_all {w : World} {B b : Nat} {S : St} {own : Nat → Prop} (h : RAt w B b S own) (kind n : Int) :
    Calls Try.prog 30 #[.pointer (some ⟨b, 0, none⟩), .int .i64 kind, .int .i64 n] w fun e w' => e = .returned (.int .i64 (failE S kind n).1) ∧ RAt w' B b (failE S kind n).2 own ∧ Turn w w' own own := by
  obtain ⟨bl, c, dv, vv, vs, h⟩ := h
  have ho := h.ownR
  unfold failE
  by_cases h1 : n < 1 ∨ 1099511627776 < n
  · rw [if_pos h1]
    refine (ref_fail_no _ kind n w (by unfold failBad; omega)).mono ?_
    rintro e w' ⟨rfl, rfl⟩
    exact ⟨rfl, ⟨bl, c, dv, vv, vs, h⟩, Turn.refl _ _⟩
  · rw [if_neg h1]
    obtain ⟨m, rfl⟩ : ∃ m : Nat, n = m := ⟨n.toNat, by omega⟩
    rw [Int.toNat_natCast]
    split
    · rename_i hk; subst hk
      refine (ref_fail1 h m (by omega) (by omega)).mono ?_
      rintro e w' ⟨rfl, h4, h5⟩
      exact ⟨rfl, ⟨_, _, _, _, _, h5⟩, Turn.of_grown h4 (fun q e => by cases e; exact ho)⟩
    · split
      · rename_i hk; subst hk
        refine (ref_fail2 h m (by omega) (by omega)).mono ?_
        rintro e w' ⟨rfl, h4, h5⟩
        exact ⟨rfl, ⟨_, _, _, _, _, h5⟩, Turn.of_grown h4 (fun q e => by cases e; exact ho)⟩
      · split
        · rename_i hk; subst hk
          refine (ref_fail3 h m (by omega) (by omega)).mono ?_
          rintro e w' ⟨rfl, h4, h5⟩
          exact ⟨rfl, ⟨_, _, _, _, _, h5⟩, Turn.of_grown h4 (fun q e => by cases e; exact ho)⟩
        · refine (ref_fail_no _ kind m w (by unfold failBad; omega)).mono ?_
          rintro e w' ⟨rfl, rfl⟩
          exact ⟨rfl, ⟨bl, c, dv, vv, vs, h⟩, Turn.refl _ _⟩
theorem ref_cut_all {w : World} {B b : Nat} {S : St} {own : Nat → Prop} (h : RAt w B b S own) (n : Int) :
    Calls Try.prog 31 #[.pointer (some ⟨b, 0, none⟩), .int .i64 n] w fun e w' => e = .returned (.int .i64 (cutE S n).1) ∧ RAt w' B b (cutE S n).2 own ∧ Turn w w' own own := by
  obtain ⟨bl, c, dv, vv, vs, h⟩ := h
  have ho := h.ownR
  unfold cutE
  by_cases h1 : n < 0 ∨ 1099511627776 < n
  · rw [if_pos h1]
    refine (ref_cut_no _ n w h1).mono ?_
    rintro e w' ⟨rfl, rfl⟩
    exact ⟨rfl, ⟨bl, c, dv, vv, vs, h⟩, Turn.refl _ _⟩
  · rw [if_neg h1]
    refine (ref_cut h n (by omega) (by omega)).mono ?_
    rintro e w' ⟨rfl, h4, h5⟩
    exact ⟨rfl, ⟨_, _, _, _, _, h5⟩, Turn.of_grown h4 (fun q e => by cases e; exact ho)⟩
theorem ref_crash_all {w : World} {B b : Nat} {S : St} {own : Nat → Prop} (h : RAt w B b S own) (A : Option Addr) (n cc : Nat) (picks : List Int) (hp : Picks w own A n picks) (hnm : n ≤ 9223372036854775807) (hroom : ∀ i, (S.ver i).length < 549755813888) :
    Calls Try.prog 18 #[.pointer (some ⟨b, 0, none⟩), .slice A n cc] w fun e w' => e = .returned (.tuple #[]) ∧ RAt w' B b (S.crash picks) own ∧ Turn w w' own own := by
  obtain ⟨bl, c, dv, vv, vs, h⟩ := h
  refine (ref_crash h A n cc picks hp hnm hroom).mono ?_
  rintro e w' ⟨rfl, ⟨dv', vv', vs', h6⟩, h7⟩
  exact ⟨rfl, ⟨_, _, _, _, _, h6⟩, h7⟩

/-- Bytes that the disk has given: a row of the reader's own. -/
def Gave8 (w : World) (base : Nat) (v : Value) (l : List Nat) : Prop := (v = .slice none 0 0 ∧ l = []) ∨ ∃ g cap, v = .slice (some ⟨g, 0, none⟩) l.length cap ∧ base ≤ g ∧ Blk w g 5 (u8s l).toArray
theorem reads_len {S : St} (hok : S.ok) (a c : Nat) : (S.reads a c).length = 256 * c := reads_length hok a c
theorem disk_read_all {w : World} {B b : Nat} {S : St} {own : Nat → Prop} (h : DAt w B b S own) (a count : Int) (ha : -9223372036854775808 ≤ a ∧ a ≤ 9223372036854775807) (hc : -9223372036854775808 ≤ count ∧ count ≤ 9223372036854775807) :
    Calls Try.prog 19 #[.pointer (some ⟨b, 0, none⟩), .int .i64 a, .int .i64 count] w fun e w' => ∃ v, e = .returned (.tuple #[v, .int .i64 (readE S a count).1]) ∧ Gave8 w' w.heap.size v (readL S a count) ∧ DAt w' B b (readE S a count).2 own ∧ Turn w w' own own := by
  obtain ⟨bd, bm, f, h⟩ := h
  unfold readE readL
  by_cases h2 : S.has a count = false
  · rw [if_pos h2, if_pos h2]
    refine (disk_read_no h a count ha hc h2).mono ?_
    rintro e w' ⟨rfl, rfl⟩
    exact ⟨_, rfl, .inl ⟨rfl, rfl⟩, ⟨bd, bm, f, h⟩, Turn.refl _ _⟩
  · have h2' : S.has a count = true := by simpa using h2
    rw [if_neg h2, if_neg h2]
    by_cases h3 : S.f1 = 1
    · rw [if_pos h3, if_pos h3]
      refine (disk_read_fail h a count ha hc h2' h3).mono ?_
      rintro e w' ⟨rfl, h4, h5⟩
      exact ⟨_, rfl, .inl ⟨rfl, rfl⟩, ⟨_, _, _, h4⟩, h5⟩
    · rw [if_neg h3, if_neg h3]
      obtain ⟨a', c', rfl, rfl, h4, h5⟩ := has_split h2' h.ok.top
      have hlen := reads_len h.ok a' c'
      refine (disk_read_ok h a' c' h4 h5 h3).mono ?_
      rintro e w' ⟨g, cap, rfl, h6, h7, h8, h9⟩
      exact ⟨_, rfl, .inr ⟨g, cap, by rw [Int.toNat_natCast, Int.toNat_natCast, hlen], h6, h7⟩, ⟨_, _, _, h8⟩, h9⟩
theorem ref_read_all {w : World} {B b : Nat} {S : St} {own : Nat → Prop} (h : RAt w B b S own) (a count : Int) (ha : -9223372036854775808 ≤ a ∧ a ≤ 9223372036854775807) (hc : -9223372036854775808 ≤ count ∧ count ≤ 9223372036854775807) :
    Calls Try.prog 20 #[.pointer (some ⟨b, 0, none⟩), .int .i64 a, .int .i64 count] w fun e w' => ∃ v, e = .returned (.tuple #[v, .int .i64 (readE S a count).1]) ∧ Own w' w.heap.size 5 1 v (readL S a count).length (u8s (readL S a count)) ∧ RAt w' B b (readE S a count).2 own ∧ Turn w w' own own := by
  obtain ⟨bl, c, dv, vv, vs, h⟩ := h
  unfold readE readL
  by_cases h2 : S.has a count = false
  · rw [if_pos h2, if_pos h2]
    refine (ref_read_no h a count ha hc h2).mono ?_
    rintro e w' ⟨rfl, rfl⟩
    exact ⟨_, rfl, Own.nil _ _ _ _, ⟨bl, c, dv, vv, vs, h⟩, Turn.refl _ _⟩
  · have h2' : S.has a count = true := by simpa using h2
    rw [if_neg h2, if_neg h2]
    by_cases h3 : S.f1 = 1
    · rw [if_pos h3, if_pos h3]
      refine (ref_read_fail h a count ha hc h2' h3).mono ?_
      rintro e w' ⟨rfl, h4, h5⟩
      exact ⟨_, rfl, Own.nil _ _ _ _, ⟨_, _, _, _, _, h4⟩, h5⟩
    · rw [if_neg h3, if_neg h3]
      obtain ⟨a', c', rfl, rfl, h4, h5⟩ := has_split h2' h.ok.top
      have hlen := reads_len h.ok a' c'
      refine (ref_read_ok h a' c' h4 h5 h3).mono ?_
      rintro e w' ⟨v, rfl, h6, h7, h8⟩
      rw [Int.toNat_natCast, Int.toNat_natCast, hlen]
      exact ⟨_, rfl, h6, ⟨_, _, _, _, _, h7⟩, h8⟩
end Go.Proofs.Ytkfijgdbaihhpaa.Dsk
