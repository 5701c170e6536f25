/- Texts of this seat's proofs: CodecPageWalk, CodecNodeWalk. -/
import Derived.Test.YtboccfficmaoaaaMCodecSuperWalk
import Derived.Test.YtboccfficmaoaaaMCodecPageGet
import Derived.Test.YtboccfficmaoaaaMRefPageGet
import Derived.Test.YtboccfficmaoaaaMOpen
/- The walk over the law CodecPage, by the contracts of what it calls. -/
namespace Go.Proofs.Ytboccfficmaoaaa.Codec
open Go.RowKit CrcMath CodecMath Mem Crc

set_option maxRecDepth 100000 in
set_option maxHeartbeats 800000 in
/-- The laws' test whether two pages are the same. -/
theorem pages_any (b b' : Nat) (k k' : Int) (A A' : Option Addr) (n n' c c' : Nat) (l l' : List Nat) (w : World) (hl : Bytes w b A n l) (hl' : Bytes w b' A' n' l') (hn : n ≤ 9223372036854775807) (hn' : n' ≤ 9223372036854775807) :
    Calls Try.prog 14 #[.agg #[.int .i64 k, .slice A n c], .agg #[.int .i64 k', .slice A' n' c']] w fun e w' => e = .returned (.bool (decide (k = k') && decide (l = l'))) ∧ w.grownBy w' none := by
  have hg := (World.grownBy_alloc w (.cells #[.int .i64 k, .slice A n c] 39) none).trans (World.grownBy_alloc _ (.cells #[.int .i64 k', .slice A' n' c'] 39) none)
  have HG := Lib.hid hg; have HL := Lib.hid (bytes_keepN hl hg); have HL' := Lib.hid (bytes_keepN hl' hg); clear hg hl hl'
  by_cases hk : k = k'
  · subst hk
    generalize hd : decide (l = l') = d
    have HD := Lib.hid hd; clear hd
    go_enter Try.func14, Try.ntmps14
    go_wp2_with fail
    refine (same_any _ _ A A' n n' c c' l l' _ HL.out HL'.out hn hn').mono ?_
    rintro e w1 ⟨rfl, hdr⟩
    have HG1 := Lib.hid (HG.out.trans (drawn_grown hdr none)); clear hdr
    rw [HD.out]
    go_wp2
    go_ret
    exact ⟨by simp, HG1.out⟩
  · have hne : (k == k') = false := by simpa using hk
    have HE := Lib.hid (show (decide (k = k') && decide (l = l')) = false by simp [hk])
    go_enter Try.func14, Try.ntmps14
    go_wp2
    go_ret
    exact ⟨by rw [HE.out]; rfl, HG.out⟩
theorem SaidPage.some_ {w w' : World} {kind : Int} {body : List Nat} {e : Ending} (h : SaidPage w (some (kind, body)) e w') : w.grownBy w' none ∧ ∃ v, e = .returned (.tuple #[.agg #[.int .i64 kind, v], .bool true]) ∧ Lies w' w.heap.size v body := by
  obtain ⟨hg, ⟨k, l, v, ho, he, hb⟩ | ⟨ho, _⟩⟩ := h
  · cases ho
    exact ⟨hg, v, he, hb⟩
  · cases ho
theorem SaidPage.none_ {w w' : World} {e : Ending} (h : SaidPage w none e w') : w.grownBy w' none ∧ e = .returned (.tuple #[.agg #[.int .i64 0, .slice none 0 0], .bool false]) := by
  obtain ⟨hg, ⟨k, l, v, ho, _⟩ | ⟨_, he⟩⟩ := h
  · cases ho
  · exact ⟨hg, he⟩
theorem SaidPage.any {w w' : World} {o : Option (Int × List Nat)} {e : Ending} (h : SaidPage w o e w') : w.grownBy w' none ∧ ∃ k A n c, e = .returned (.tuple #[.agg #[.int .i64 k, .slice A n c], .bool o.isSome]) := by
  obtain ⟨hg, ⟨k, l, v, rfl, rfl, hb⟩ | ⟨rfl, rfl⟩⟩ := h
  · obtain ⟨A, c, rfl, _⟩ := hb
    exact ⟨hg, k, A, _, c, rfl⟩
  · exact ⟨hg, 0, none, 0, 0, rfl⟩
theorem make256 (w : World) : (Instr.makeSlice 22 (.int .i64 256) (.int .i64 256)).run Try.prog w = .ok (.slice (some ⟨w.heap.size, 0, none⟩) 256 256) (w.alloc (.cells (Array.replicate 256 (.int .u8 0)) 5)) := by kernel_rfl
theorem Wrote.some_ {w w' : World} {l : List Nat} {e : Ending} (h : Wrote w (some l) e w') : w.grownBy w' none ∧ ∃ v, e = .returned (.tuple #[v, .int .i64 0]) ∧ Own w' w.heap.size 5 1 v l.length (u8s l) ∧ ∀ x ∈ l, x < 256 := by
  obtain ⟨hg, ⟨l', v, ho, he, rest⟩ | ⟨ho, _⟩⟩ := h
  · cases ho
    exact ⟨hg, v, he, rest⟩
  · cases ho
theorem Wrote.none_ {w w' : World} {e : Ending} (h : Wrote w none e w') : w.grownBy w' none ∧ e = .returned (.tuple #[.slice none 0 0, .int .i64 1]) := by
  obtain ⟨hg, ⟨l', v, ho, _⟩ | ⟨_, he⟩⟩ := h
  · cases ho
  · exact ⟨hg, he⟩
end Go.Proofs.Ytboccfficmaoaaa.Codec
namespace Go.Proofs.Ytboccfficmaoaaa.CodecPage
open Go.ChangeShapes Go.WideShapes Go.ChangeAt Go.RowKit
open Crc CrcMath Mem CodecMath Codec
end Go.Proofs.Ytboccfficmaoaaa.CodecPage
/- The laws' test whether two nodes are the same, and the walk over the law CodecNode, by the contracts of what they call. -/
namespace Go.Proofs.Ytboccfficmaoaaa.Codec
open Go.RowKit CrcMath CodecMath Mem Crc

set_option maxRecDepth 100000 in
set_option maxHeartbeats 800000 in
theorem nodes_same (b b' b2 b2' : Nat) (lf : Bool) (A A' A2 A2' : Option Addr) (n n' m m' c c' d d' : Nat) (ks vs : List Int) (w : World) (hk : Ints w b A n ks) (hk' : Ints w b' A' n' ks) (hv : Ints w b2 A2 m vs) (hv' : Ints w b2' A2' m' vs)
    (hn : n ≤ maxLen) (hn' : n' ≤ maxLen) (hm : m ≤ maxLen) (hm' : m' ≤ maxLen) :
    Calls Try.prog 23 #[.agg #[.bool lf, .slice A n c, .slice A2 m d], .agg #[.bool lf, .slice A' n' c', .slice A2' m' d']] w fun e w' => e = .returned (.bool true) ∧ w.grownBy w' none := by
  have hg := (World.grownBy_alloc w (.cells #[.bool lf, .slice A n c, .slice A2 m d] 51) none).trans (World.grownBy_alloc _ (.cells #[.bool lf, .slice A' n' c', .slice A2' m' d'] 51) none)
  have hx1 := (Blk.new w 51 #[.bool lf, .slice A n c, .slice A2 m d]).alloc (.cells #[.bool lf, .slice A' n' c', .slice A2' m' d'] 51)
  have hx2 := Blk.new (w.alloc (.cells #[.bool lf, .slice A n c, .slice A2 m d] 51)) 51 #[.bool lf, .slice A' n' c', .slice A2' m' d']
  rw [World.size_alloc] at hx2
  have HG := Lib.hid hg; have HK := Lib.hid (ints_keep hk hg (.inl rfl)); have HK' := Lib.hid (ints_keep hk' hg (.inl rfl)); have HV := Lib.hid (ints_keep hv hg (.inl rfl)); have HV' := Lib.hid (ints_keep hv' hg (.inl rfl))
  have HX1 := Lib.hid hx1; have HX2 := Lib.hid hx2
  simp only [maxLen] at hn hn' hm hm'
  clear hg hk hk' hv hv' hx1 hx2
  go_enter Try.func23, Try.ntmps23
  go_wp2_with fail
  refine (ints_any b b' A A' n n' c c' ks ks _ HK.out HK'.out (by omega) (by omega)).mono ?_
  rintro e w1 ⟨rfl, hdr⟩
  rw [show decide (ks = ks) = true from by simp]
  have hd := drawn_grown hdr none
  have HG1 := Lib.hid (HG.out.trans hd); have HV1 := Lib.hid (ints_keep HV.out hd (.inl rfl)); have HV1' := Lib.hid (ints_keep HV'.out hd (.inl rfl))
  have h1 := HX1.out.grown hd (by simp); have h2 := HX2.out.grown hd (by simp)
  have x2 := h1.cell 2; have y2 := h2.cell 2
  simp only [List.getElem?_toArray, List.getElem?_cons_zero, List.getElem?_cons_succ] at x2 y2
  clear hdr hd h1 h2
  go_wp2_with fail
  refine (ints_any b2 b2' A2 A2' m m' d d' vs vs _ HV1.out HV1'.out (by omega) (by omega)).mono ?_
  rintro e w2 ⟨rfl, hdr⟩
  rw [show decide (vs = vs) = true from by simp]
  have HG2 := Lib.hid (HG1.out.trans (drawn_grown hdr none))
  clear hdr x2 y2
  go_wp2
  go_ret
  exact ⟨rfl, HG2.out⟩
theorem ToldNode.some_ {w w' : World} {leaf : Bool} {ks vs : List Int} {e : Ending} (h : ToldNode w (some (leaf, ks, vs)) e w') :
    w.grownBy w' none ∧ ∃ v v', e = .returned (.tuple #[.agg #[.bool leaf, v, v'], .bool true]) ∧ Own w' w.heap.size 3 1 v ks.length (i64s ks) ∧ Own w' w.heap.size 3 1 v' vs.length (i64s vs) ∧
      (∀ g, v.ownBlock = some g → v'.ownBlock ≠ some g) ∧ (∀ x ∈ ks, -9223372036854775808 ≤ x ∧ x ≤ 9223372036854775807) ∧ ∀ x ∈ vs, -9223372036854775808 ≤ x ∧ x ≤ 9223372036854775807 := by
  obtain ⟨hg, ⟨lf, k, q, v, v', ho, he, rest⟩ | ⟨ho, _⟩⟩ := h
  · cases ho
    exact ⟨hg, v, v', he, rest⟩
  · cases ho
theorem ToldNode.none_ {w w' : World} {e : Ending} (h : ToldNode w none e w') : w.grownBy w' none ∧ e = .returned (.tuple #[.agg #[.bool false, .slice none 0 0, .slice none 0 0], .bool false]) := by
  obtain ⟨hg, ⟨lf, k, q, v, v', ho, _⟩ | ⟨_, he⟩⟩ := h
  · cases ho
  · exact ⟨hg, he⟩
end Go.Proofs.Ytboccfficmaoaaa.Codec
namespace Go.Proofs.Ytboccfficmaoaaa.CodecNode
open Go.ChangeShapes Go.WideShapes Go.ChangeAt Go.RowKit
open Crc CrcMath Mem CodecMath Codec
end Go.Proofs.Ytboccfficmaoaaa.CodecNode
