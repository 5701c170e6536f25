/- Each call on either disk, whatever it is asked: one contract a call. -/
import Derived.Test.YteaokeiolgjhaaaGreatPDiskWrite
import Derived.Test.YteaokeiolgjhaaaGreatPDiskFlush
import Derived.Test.YteaokeiolgjhaaaGreatPDiskRead
import Derived.Test.YteaokeiolgjhaaaGreatPDiskLay
import Derived.Test.YteaokeiolgjhaaaGreatPCrcMath
namespace Go.Proofs.YteaokeiolgjhaaaGreat.Dsk
open Go.RowKit Mem Crc DiskSpec

/-- A disk at block b; the document's disk at block r. -/
def DAt (w : World) (B b : Nat) (S : St) (own : Nat → Prop) : Prop := ∃ bd bm f, Lay w B b bd bm f S own
theorem Data.none_ (w : World) (own : Nat → Prop) : Data w own none 0 [] := ⟨rfl, by simp, by omega⟩

theorem disk_write_all {w : World} {B b : Nat} {S : St} {own : Nat → Prop} (h : DAt w B b S own) (a : Int) (A : Option Addr) (n cc : Nat) (l : List Nat) (fua : Bool) (ha : -9223372036854775808 ≤ a ∧ a ≤ 9223372036854775807)
    (hd : Data w own A n l) (hc : n ≤ cc) (hnm : n ≤ 65536) (hroom : ∀ i, (S.ver i).length < 549755813888) (hB : B ≤ w.heap.size) :
    Calls Tryz.prog 43 #[.pointer (some ⟨b, 0, none⟩), .int .i64 a, .slice A n cc, .bool fua] w fun e w' => e = .returned (.int .i64 (writeE S fua a l).1) ∧ ∃ own', DAt w' B b (writeE S fua a l).2 own' ∧ Turn w w' own own' := by
  obtain ⟨bd, bm, f, h⟩ := h
  have hl := hd.1
  unfold writeE
  rw [hl]
  by_cases h1 : n = 0 ∨ n % 256 ≠ 0
  · rw [if_pos h1]
    refine (disk_write_arg _ a A n cc fua w (by omega) h1).mono ?_
    rintro e w' ⟨rfl, rfl⟩
    exact ⟨rfl, own, ⟨bd, bm, f, h⟩, Turn.refl _ _⟩
  · rw [if_neg h1]
    obtain ⟨k, rfl⟩ : ∃ k, n = k * 256 := ⟨n / 256, by omega⟩
    rw [Nat.mul_div_cancel _ (by omega : 0 < 256)]
    have hk : 1 ≤ k := by omega
    by_cases h2 : S.has a k = false
    · rw [if_pos h2]
      refine (disk_write_range h a A k cc fua ha hk (by omega) h2).mono ?_
      rintro e w' ⟨rfl, rfl⟩
      exact ⟨rfl, own, ⟨bd, bm, f, h⟩, Turn.refl _ _⟩
    · rw [if_neg h2]
      have h2' : S.has a k = true := by simpa using h2
      by_cases h3 : S.f2 = 1 ∨ S.left = 0
      · rw [if_pos h3]
        refine (disk_write_stop h a A k cc fua ha hk (by omega) h2' h3).mono ?_
        rintro e w' ⟨rfl, h4, h5⟩
        exact ⟨rfl, own, ⟨_, _, _, h4⟩, h5⟩
      · rw [if_neg h3]
        obtain ⟨a', c', rfl, hc', _, h5⟩ := has_split h2' h.ok.top
        obtain rfl : k = c' := by omega
        refine (disk_write_ok h a' k A cc l fua hd hc hk h5 (fun e => h3 (.inl e)) (fun e => h3 (.inr e)) hroom hB).mono ?_
        rintro e w' ⟨rfl, f', own', h6, h7⟩
        exact ⟨rfl, own', ⟨_, _, _, h6⟩, h7⟩
theorem disk_flush_all {w : World} {B b : Nat} {S : St} {own : Nat → Prop} (h : DAt w B b S own) :
    Calls Tryz.prog 45 #[.pointer (some ⟨b, 0, none⟩)] w fun e w' => e = .returned (.int .i64 (flushE S).1) ∧ DAt w' B b (flushE S).2 own ∧ Turn w w' own own := by
  obtain ⟨bd, bm, f, h⟩ := h
  unfold flushE
  by_cases h3 : S.f3 = 1 ∨ S.left = 0
  · rw [if_pos h3]
    refine (disk_flush_stop h h3).mono ?_
    rintro e w' ⟨rfl, h4, h5⟩
    exact ⟨rfl, ⟨_, _, _, h4⟩, h5⟩
  · rw [if_neg h3]
    refine (disk_flush_ok h (fun e => h3 (.inl e)) (fun e => h3 (.inr e))).mono ?_
    rintro e w' ⟨rfl, ⟨f', h6⟩, h7⟩
    exact ⟨rfl, ⟨_, _, _, h6⟩, h7⟩
theorem disk_fail_all {w : World} {B b : Nat} {S : St} {own : Nat → Prop} (h : DAt w B b S own) (kind n : Int) :
    Calls Tryz.prog 79 #[.pointer (some ⟨b, 0, none⟩), .int .i64 kind, .int .i64 n] w fun e w' => e = .returned (.int .i64 (failE S kind n).1) ∧ DAt w' B b (failE S kind n).2 own ∧ Turn w w' own own := by
  obtain ⟨bd, bm, f, h⟩ := h
  have ho := h.ownB
  unfold failE
  by_cases h1 : n < 1 ∨ 1099511627776 < n
  · rw [if_pos h1]
    refine (disk_fail_no _ kind n w (by unfold failBad; omega)).mono ?_
    rintro e w' ⟨rfl, rfl⟩
    exact ⟨rfl, ⟨bd, bm, f, h⟩, Turn.refl _ _⟩
  · rw [if_neg h1]
    obtain ⟨m, rfl⟩ : ∃ m : Nat, n = m := ⟨n.toNat, by omega⟩
    rw [Int.toNat_natCast]
    split
    · rename_i hk; subst hk
      refine (disk_fail1 h m (by omega) (by omega)).mono ?_
      rintro e w' ⟨rfl, h4, h5⟩
      exact ⟨rfl, ⟨_, _, _, h5⟩, Turn.of_grown h4 (fun q e => by cases e; exact ho)⟩
    · split
      · rename_i hk; subst hk
        refine (disk_fail2 h m (by omega) (by omega)).mono ?_
        rintro e w' ⟨rfl, h4, h5⟩
        exact ⟨rfl, ⟨_, _, _, h5⟩, Turn.of_grown h4 (fun q e => by cases e; exact ho)⟩
      · split
        · rename_i hk; subst hk
          refine (disk_fail3 h m (by omega) (by omega)).mono ?_
          rintro e w' ⟨rfl, h4, h5⟩
          exact ⟨rfl, ⟨_, _, _, h5⟩, Turn.of_grown h4 (fun q e => by cases e; exact ho)⟩
        · refine (disk_fail_no _ kind m w (by unfold failBad; omega)).mono ?_
          rintro e w' ⟨rfl, rfl⟩
          exact ⟨rfl, ⟨bd, bm, f, h⟩, Turn.refl _ _⟩
theorem disk_cut_all {w : World} {B b : Nat} {S : St} {own : Nat → Prop} (h : DAt w B b S own) (n : Int) :
    Calls Tryz.prog 40 #[.pointer (some ⟨b, 0, none⟩), .int .i64 n] w fun e w' => e = .returned (.int .i64 (cutE S n).1) ∧ DAt w' B b (cutE S n).2 own ∧ Turn w w' own own := by
  obtain ⟨bd, bm, f, h⟩ := h
  have ho := h.ownB
  unfold cutE
  by_cases h1 : n < 0 ∨ 1099511627776 < n
  · rw [if_pos h1]
    refine (disk_cut_no _ n w h1).mono ?_
    rintro e w' ⟨rfl, rfl⟩
    exact ⟨rfl, ⟨bd, bm, f, h⟩, Turn.refl _ _⟩
  · rw [if_neg h1]
    refine (disk_cut h n (by omega) (by omega)).mono ?_
    rintro e w' ⟨rfl, h4, h5⟩
    exact ⟨rfl, ⟨_, _, _, h5⟩, Turn.of_grown h4 (fun q e => by cases e; exact ho)⟩
theorem disk_crash_all {w : World} {B b : Nat} {S : St} {own : Nat → Prop} (h : DAt w B b S own) (A : Option Addr) (n cc : Nat) (picks : List Int) (hp : Picks w own A n picks) (hnm : n ≤ 9223372036854775807) (hroom : ∀ i, (S.ver i).length < 549755813888) :
    Calls Tryz.prog 23 #[.pointer (some ⟨b, 0, none⟩), .slice A n cc] w fun e w' => e = .returned (.tuple #[]) ∧ DAt w' B b (S.crash picks) own ∧ Turn w w' own own := by
  obtain ⟨bd, bm, f, h⟩ := h
  refine (disk_crash h A n cc picks hp hnm hroom).mono ?_
  rintro e w' ⟨rfl, ⟨f', h6⟩, h7⟩
  exact ⟨rfl, ⟨_, _, _, h6⟩, h7⟩

/-- Bytes that the disk has given: a row of the reader's own. -/
def Gave8 (w : World) (base : Nat) (v : Value) (l : List Nat) : Prop := (v = .slice none 0 0 ∧ l = []) ∨ ∃ g cap, v = .slice (some ⟨g, 0, none⟩) l.length cap ∧ base ≤ g ∧ Blk w g 5 (u8s l).toArray
theorem reads_len {S : St} (hok : S.ok) (a c : Nat) : (S.reads a c).length = 256 * c := reads_length hok a c
theorem disk_read_all {w : World} {B b : Nat} {S : St} {own : Nat → Prop} (h : DAt w B b S own) (a count : Int) (ha : -9223372036854775808 ≤ a ∧ a ≤ 9223372036854775807) (hc : -9223372036854775808 ≤ count ∧ count ≤ 9223372036854775807) :
    Calls Tryz.prog 106 #[.pointer (some ⟨b, 0, none⟩), .int .i64 a, .int .i64 count] w fun e w' => ∃ v, e = .returned (.tuple #[v, .int .i64 (readE S a count).1]) ∧ Gave8 w' w.heap.size v (readL S a count) ∧ DAt w' B b (readE S a count).2 own ∧ Turn w w' own own := by
  obtain ⟨bd, bm, f, h⟩ := h
  unfold readE readL
  by_cases h2 : S.has a count = false
  · rw [if_pos h2, if_pos h2]
    refine (disk_read_no h a count ha hc h2).mono ?_
    rintro e w' ⟨rfl, rfl⟩
    exact ⟨_, rfl, .inl ⟨rfl, rfl⟩, ⟨bd, bm, f, h⟩, Turn.refl _ _⟩
  · have h2' : S.has a count = true := by simpa using h2
    rw [if_neg h2, if_neg h2]
    by_cases h3 : S.f1 = 1
    · rw [if_pos h3, if_pos h3]
      refine (disk_read_fail h a count ha hc h2' h3).mono ?_
      rintro e w' ⟨rfl, h4, h5⟩
      exact ⟨_, rfl, .inl ⟨rfl, rfl⟩, ⟨_, _, _, h4⟩, h5⟩
    · rw [if_neg h3, if_neg h3]
      obtain ⟨a', c', rfl, rfl, h4, h5⟩ := has_split h2' h.ok.top
      have hlen := reads_len h.ok a' c'
      refine (disk_read_ok h a' c' h4 h5 h3).mono ?_
      rintro e w' ⟨g, cap, rfl, h6, h7, h8, h9⟩
      exact ⟨_, rfl, .inr ⟨g, cap, by rw [Int.toNat_natCast, Int.toNat_natCast, hlen], h6, h7⟩, ⟨_, _, _, h8⟩, h9⟩
end Go.Proofs.YteaokeiolgjhaaaGreat.Dsk
