/- Texts of this seat's proofs: RefPageGet, RefImageGet. -/
import Derived.Test.YtboccfficmaoaaaGreatMRefPage
import Derived.Test.YtboccfficmaoaaaGreatMRefNode
import Derived.Test.YtboccfficmaoaaaGreatMStructs
import Derived.IntWalk
/- The walk over the document's own answer for pages that are read: GetPage. -/
namespace Go.Proofs.YtboccfficmaoaaaGreat.Codec
open Go.RowKit CrcMath CodecMath Mem Crc

/-- What a call that reads a page leaves. -/
def ToldPage (w : World) (o : Option (Int × List Nat)) (e : Ending) (w' : World) : Prop :=
  w.grownBy w' none ∧ ((∃ kind body v, o = some (kind, body) ∧ e = .returned (.tuple #[.agg #[.int .i64 kind, v], .bool true]) ∧ Own w' w.heap.size 5 1 v body.length (u8s body) ∧ ∀ x ∈ body, x < 256) ∨
    (o = none ∧ e = .returned (.tuple #[.agg #[.int .i64 0, .slice none 0 0], .bool false])))
theorem bodyOf_bytes {w : World} {b c : Nat} {A : Option Addr} {l : List Nat} (h : Bytes w b A 256 l) (_hc : 256 ≤ c) :
    ∃ g o, A = some ⟨g, o, none⟩ ∧ Bytes w b (some ⟨g, o + 12, none⟩) 240 (bodyOf l) := by
  obtain ⟨hlen, hlt, hc⟩ := h
  obtain ⟨g, o, rfl, hg, hne, hcell⟩ := hc (by omega)
  refine ⟨g, o, rfl, by simp [bodyOf]; omega, fun x hx => hlt x (List.mem_of_mem_drop (List.mem_of_mem_take hx)), fun _ => ⟨g, o + 12, rfl, hg, hne, fun j hj => ?_⟩⟩
  rw [show o + 12 + j = o + (12 + j) from by omega, hcell (12 + j) (by omega)]
  congr 3
  simp [bodyOf, List.getD_eq_getElem?_getD, hj]
theorem fill_zeros : fill [] 256 = zeros := rfl
theorem zeros_lt : ∀ x ∈ zeros, x < 256 := fun x hx => by have := (List.mem_replicate.1 hx).2; omega

end Go.Proofs.YtboccfficmaoaaaGreat.Codec
/- The walk over the document's own answer for images of a log that are read: GetImage. -/
namespace Go.Proofs.YtboccfficmaoaaaGreat.Codec
open Go.RowKit CrcMath CodecMath Mem Crc

/-- What a call that reads an image leaves. -/
def ToldImage (w : World) (r : Option (Int × Int × Int × Int × List Nat)) (e : Ending) (w' : World) : Prop :=
  w.grownBy w' none ∧ ((∃ epoch seq number kind body v, r = some (epoch, seq, number, kind, body) ∧ e = .returned (.tuple #[.int .i64 epoch, .int .i64 seq, .agg #[.int .i64 number, .int .i64 kind, v], .bool true]) ∧ Own w' w.heap.size 5 1 v body.length (u8s body) ∧ ∀ x ∈ body, x < 256) ∨
    (r = none ∧ e = .returned (.tuple #[.int .i64 0, .int .i64 0, .agg #[.int .i64 0, .int .i64 0, .slice none 0 0], .bool false])))

end Go.Proofs.YtboccfficmaoaaaGreat.Codec
