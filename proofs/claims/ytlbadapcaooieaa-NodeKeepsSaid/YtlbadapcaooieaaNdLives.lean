/- The laws' small living: a key is put into a leaf, and found. -/
import Derived.Test.YtlbadapcaooieaaNdPut
namespace Go.Proofs.Ytlbadapcaooieaa.Node
open Go.RowKit CrcMath Mem Crc Codec NdSpec
open Go.ChangeShapes Go.WideShapes
set_option linter.unusedVariables false
set_option linter.unusedSimpArgs false

theorem NdAt.nil (w : World) : NdAt w none none 0 0 0 0 [] [] := ⟨⟨0, ints_none _ _ _⟩, ⟨0, ints_none _ _ _⟩, by omega, by simp [maxLen], by omega, by simp [maxLen]⟩
theorem open_int_at {H : Type} {enc : TypeId × Value → H} {W : World} {base : Nat} {v : Value} {d : DataW H} {p : List MemPlace} (o : Value.okWide Try.prog W .any base 3 v) (h : DataW.Trod enc Try.prog W 0 (fun _ => true) true 3 v d p) :
    ∃ n : Int, v = .int .i64 n ∧ -9223372036854775808 ≤ n ∧ n ≤ 9223372036854775807 := by
  obtain ⟨n, rfl, _, _, hn⟩ := open_int Try.underlying3 o h
  exact ⟨n, rfl, bounds_i64 hn⟩
theorem Told1.open_ {w w' : World} {r : Int × Nd} {e : Ending} (h : Told1 w r e w') : ∃ A A' L L' c c', e = .returned (.tuple #[.agg #[.bool r.2.1, .slice A L c, .slice A' L' c'], .int .i64 r.1]) ∧ w.grownBy w' none ∧ NdAt w' A A' L L' c c' r.2.2.1 r.2.2.2 := by
  obtain ⟨hg, v1, v2, rfl, ho⟩ := h
  obtain ⟨A, A', c, c', rfl, rfl, hat⟩ := ho.at_
  exact ⟨A, A', _, _, c, c', rfl, hg, hat⟩
theorem Told2.open_ {w w' : World} {r : Int × Nd × Nd} {e : Ending} (h : Told2 w r e w') : ∃ A A' L L' c c' B B' M M' d d', e = .returned (.tuple #[.agg #[.bool r.2.1.1, .slice A L c, .slice A' L' c'], .agg #[.bool r.2.2.1, .slice B M d, .slice B' M' d'], .int .i64 r.1]) ∧ w.grownBy w' none ∧
    NdAt w' A A' L L' c c' r.2.1.2.1 r.2.1.2.2 ∧ NdAt w' B B' M M' d d' r.2.2.2.1 r.2.2.2.2 := by
  obtain ⟨hg, v1, v2, u1, u2, rfl, ho, ho2, _⟩ := h
  obtain ⟨A, A', c, c', rfl, rfl, hat⟩ := ho.at_
  obtain ⟨B, B', d, d', rfl, rfl, hat2⟩ := ho2.at_
  exact ⟨A, A', _, _, c, c', B, B', _, _, d, d', rfl, hg, hat, hat2⟩
theorem Told2.own_ {w w' : World} {r : Int × Nd × Nd} {e : Ending} (h : Told2 w r e w') : ∃ A A' L L' c c' B B' M M' d d', e = .returned (.tuple #[.agg #[.bool r.2.1.1, .slice A L c, .slice A' L' c'], .agg #[.bool r.2.2.1, .slice B M d, .slice B' M' d'], .int .i64 r.1]) ∧ w.grownBy w' none ∧
    NdOwn w' w.heap.size (.slice A L c) (.slice A' L' c') r.2.1.2.1 r.2.1.2.2 ∧ NdOwn w' w.heap.size (.slice B M d) (.slice B' M' d') r.2.2.2.1 r.2.2.2.2 := by
  obtain ⟨hg, v1, v2, u1, u2, rfl, ho, ho2, _⟩ := h
  obtain ⟨A, A', c, c', rfl, rfl, hat⟩ := ho.at_
  obtain ⟨B, B', d, d', rfl, rfl, hat2⟩ := ho2.at_
  exact ⟨A, A', _, _, c, c', B, B', _, _, d, d', rfl, hg, ho, ho2⟩
theorem NdOwn.nd {w : World} {base : Nat} {A A' : Option Addr} {L L' c c' : Nat} {ks vs : List Int} (h : NdOwn w base (.slice A L c) (.slice A' L' c') ks vs) : NdAt w A A' L L' c c' ks vs := by
  obtain ⟨F, F', f, f', q1, q2, hat⟩ := h.at_
  simp only [Value.slice.injEq] at q1 q2
  obtain ⟨rfl, q1, rfl⟩ := q1
  obtain ⟨rfl, q2, rfl⟩ := q2
  rw [← q1, ← q2] at hat
  exact hat
theorem below_none {w w' : World} (h : w.grownBy w' none) : Below w.heap.size w w' := below_of_grown h (Nat.le_refl _) (fun _ h => by cases h)
set_option maxRecDepth 100000 in
set_option maxHeartbeats 1600000 in
theorem lives_call (w : World) : Calls Try.prog 13 #[] w fun e w' => e = .returned (.bool true) ∧ w.grownBy w' none := by
  have hp : putR true [] [] 5 9 = (0, true, [5], [9]) := by decide
  have hm : may true [5] [9] = true := by decide
  have hz : may false [] [] = false := by decide
  have hf : find [5] 5 = 0 ∧ isAt [5] 5 = true := by decide
  have HP := Lib.hid (show Calls Try.prog 18 #[.agg #[.bool true, .slice none 0 0, .slice none 0 0], .int .i64 5, .int .i64 9] w (Told1 w (0, true, [5], [9])) from
    hp ▸ put_call true 5 9 (NdAt.nil w) (by omega) (by omega))
  have HF := Lib.hid (fun (W : World) (A A' : Option Addr) (c c' : Nat) (h : NdAt W A A' 1 1 c c' [5] [9]) => by have q := find_call true 5 h; rw [hf.1, hf.2] at q; exact q)
  have HC := Lib.hid (fun (W : World) (A A' : Option Addr) (c c' : Nat) (h : NdAt W A A' 1 1 c c' [5] [9]) => by have q := check_call true h; rw [hm] at q; exact q)
  have HZ := Lib.hid (fun (W : World) => by have q := check_call false (NdAt.nil W); rw [hz] at q; exact q)
  clear hp hm hz hf
  go_enter Try.func13, Try.ntmps13
  go_wp2_with fail
  refine HP.out.mono ?_
  rintro e w1 ⟨hg, v1, v2, rfl, ho⟩
  obtain ⟨A, A', c, c', rfl, rfl, hat⟩ := ho.at_
  simp only [List.length_cons, List.length_nil, Nat.zero_add] at hat ⊢
  have ha := World.grownBy_alloc w1 (.cells #[.bool true, .slice A 1 c, .slice A' 1 c'] 24) none
  have HG := Lib.hid (hg.trans ha)
  have HA := Lib.hid (hat.keep ha)
  have HB := Lib.hid (Blk.new w1 24 #[.bool true, .slice A 1 c, .slice A' 1 c'])
  clear hg ho hat ha
  go_wp2_with fail
  refine (HF.out _ _ _ _ _ HA.out).mono ?_
  rintro e w2 ⟨rfl, hg⟩
  have HG2 := Lib.hid (HG.out.trans hg); have HA2 := Lib.hid (HA.out.keep hg)
  obtain ⟨x0, x1, x2⟩ := box3 (HB.out.grown hg (by simp))
  clear hg
  go_wp2_with fail
  refine (HC.out _ _ _ _ _ HA2.out).mono ?_
  rintro e w3 ⟨rfl, hg⟩
  have HG3 := Lib.hid (HG2.out.trans hg)
  clear hg x0 x1 x2
  go_wp2_with fail
  refine (HZ.out _).mono ?_
  rintro e w4 ⟨rfl, hg⟩
  have HG4 := Lib.hid (HG3.out.trans hg)
  clear hg
  go_wp2_with fail
  go_ret
  exact ⟨rfl, HG4.out⟩
end Go.Proofs.Ytlbadapcaooieaa.Node
