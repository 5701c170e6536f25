/- Are two rows the same: of bytes, of whole numbers. -/
import Derived.Test.YtkfijgdbaihhpaaRefSmall
namespace Go.Proofs.Ytkfijgdbaihhpaa.Dsk
open Go.RowKit Mem Crc DiskSpec

/-- Nothing but the tape was turned. -/
def Drawn (w w' : World) : Prop := ∃ k, w' = w.drewN k
theorem Drawn.refl (w : World) : Drawn w w := ⟨0, rfl⟩
theorem drawn_grown {w w' : World} (h : Drawn w w') (row : Option Nat) : w.grownBy w' row := by
  obtain ⟨k, rfl⟩ := h
  exact ⟨rfl, rfl, rfl, Nat.le_refl _, fun _ _ _ => rfl⟩
theorem Drawn.drew {w w' : World} (h : Drawn w w') : Drawn w w'.drew := by
  obtain ⟨k, rfl⟩ := h
  exact ⟨k + 1, rfl⟩
theorem Drawn.trans {w w1 w2 : World} (h : Drawn w w1) (k : Drawn w1 w2) : Drawn w w2 := by
  obtain ⟨i, rfl⟩ := h
  obtain ⟨j, rfl⟩ := k
  exact ⟨i + j, World.drewN_drewN _ _ _⟩
theorem same_len {l l' : List Nat} (h : l.length ≠ l'.length) : decide (l = l') = false := by
  rw [decide_eq_false_iff_not]; exact fun e => h (by rw [e])
theorem same_no {l l' : List Nat} (k : Nat) (h : l.getD k 0 ≠ l'.getD k 0) : decide (l = l') = false := by
  rw [decide_eq_false_iff_not]; exact fun e => h (by rw [e])
theorem same_yes {l l' : List Nat} (n : Nat) (h0 : l.length = n) (h1 : l'.length = n) (h : ∀ j, j < n → l.getD j 0 = l'.getD j 0) : decide (l = l') = true := by
  rw [decide_eq_true_iff]
  apply List.ext_getElem (by omega)
  intro i h2 h3
  have := h i (by omega)
  simpa [List.getD_eq_getElem?_getD, h2, h3] using this

set_option maxRecDepth 100000 in
set_option maxHeartbeats 800000 in
theorem same_any (b b' : Nat) (A A' : Option Addr) (n n' c c' : Nat) (l l' : List Nat) (w : World) (hl : Bytes w b A n l) (hl' : Bytes w b' A' n' l') (hn : n ≤ 9223372036854775807) (hn' : n' ≤ 9223372036854775807) :
    Calls Try.prog 22 #[.slice A n c, .slice A' n' c'] w fun e w' => e = .returned (.bool (decide (l = l'))) ∧ Drawn w w' := by
  by_cases hnn : n = n'
  · subst hnn
    have hsy := same_yes (l := l) (l' := l') n hl.1 hl'.1
    have HSY := Lib.hid hsy; clear hsy
    have hsn := @same_no l l'
    have HSN := Lib.hid hsn; clear hsn
    have HL := Lib.hid hl; have HL' := Lib.hid hl'; clear hl hl'
    generalize hd : decide (l = l') = d at *
    clear hd
    go_enter Try.func22, Try.ntmps22
    go_wp2
    go_loopw [5] (fun i wr => ∃ j : Nat, j ≤ n ∧ i = .int .i64 j ∧ (∀ q, q < j → l.getD q 0 = l'.getD q 0) ∧ Drawn w wr) (fun i _ => n - (Go.RowKit.intOf i).toNat)
    case atStart => exact ⟨0, by omega, rfl, fun q hq => by omega, Drawn.refl _⟩
    case round =>
      obtain ⟨j, hj, rfl, he, hw⟩ := hrel
      have HE := Lib.hid he; have HW := Lib.hid hw; clear he hw
      by_cases hlt : j < n
      · obtain ⟨g, o, rfl, _, _, hc⟩ := (HL.out.keep (drawn_grown HW.out _)).2.2 (by omega)
        obtain ⟨g', o', rfl, _, _, hc'⟩ := (HL'.out.keep (drawn_grown HW.out _)).2.2 (by omega)
        have hx := hc j hlt
        have hx' := hc' j hlt
        clear hc hc'
        have HXX := Lib.hid (fun h => HSN.out j h)
        have HEE : Hid (l.getD j 0 = l'.getD j 0 → ∀ q, q < j + 1 → l.getD q 0 = l'.getD q 0) := Lib.hid (fun h q hq => by
          by_cases e : q = j
          · subst e; exact h
          · exact HE.out q (by omega))
        generalize l.getD j 0 = x at *
        generalize l'.getD j 0 = y at *
        by_cases hxy : x = y
        · subst hxy
          have HE1 := Lib.hid (HEE.out rfl); clear HEE
          go_wp2_with fail
          go_region
          go_wp2_with fail
          go_roundw
          case rel => exact ⟨j + 1, by omega, by go_num, HE1.out, HW.out.drew⟩
          case measure => simp [Go.RowKit.intOf]; omega
        · have hne : (((x : Nat) : Int) != ((y : Nat) : Int)) = true := by simp; omega
          have hd := HXX.out hxy
          have HD := Lib.hid hd; clear hd
          go_wp2_with fail
          go_region
          go_wp2
          go_ret
          exact ⟨by rw [HD.out]; rfl, HW.out.drew⟩
      · obtain rfl : j = n := by omega
        have hd := HSY.out HE.out
        have HD := Lib.hid hd; clear hd
        go_wp2
        go_ret
        exact ⟨by rw [HD.out]; rfl, HW.out⟩
  · have hd := same_len (l := l) (l' := l') (by rw [hl.1, hl'.1]; exact hnn)
    have HD := Lib.hid hd; clear hd
    have hne : (((n : Nat) : Int) != ((n' : Nat) : Int)) = true := by simp; omega
    clear hl hl'
    go_enter Try.func22, Try.ntmps22
    go_wp2
    go_ret
    exact ⟨by rw [HD.out]; rfl, Drawn.refl _⟩

/-- Whole numbers that are read in. -/
def NatsIn (w : World) (A : Option Addr) (n : Nat) (l : List Nat) : Prop :=
  l.length = n ∧ (0 < n → ∃ g o, A = some ⟨g, o, none⟩ ∧ g < w.heap.size ∧ ∀ j, j < n → w.cell? ⟨g, o + j, none⟩ = some (.int .i64 (l.getD j 0 : Nat)))
theorem NatsIn.drawn {w w' : World} {A : Option Addr} {n : Nat} {l : List Nat} (h : NatsIn w A n l) (hw : Drawn w w') : NatsIn w' A n l := by
  obtain ⟨k, rfl⟩ := hw
  exact h

set_option maxRecDepth 100000 in
set_option maxHeartbeats 800000 in
theorem ints_any (A A' : Option Addr) (n n' c c' : Nat) (l l' : List Nat) (w : World) (hl : NatsIn w A n l) (hl' : NatsIn w A' n' l') (hn : n ≤ 9223372036854775807) (hn' : n' ≤ 9223372036854775807) :
    Calls Try.prog 13 #[.slice A n c, .slice A' n' c'] w fun e w' => e = .returned (.bool (decide (l = l'))) ∧ Drawn w w' := by
  by_cases hnn : n = n'
  · subst hnn
    have hsy := same_yes (l := l) (l' := l') n hl.1 hl'.1
    have HSY := Lib.hid hsy; clear hsy
    have hsn := @same_no l l'
    have HSN := Lib.hid hsn; clear hsn
    have HL := Lib.hid hl; have HL' := Lib.hid hl'; clear hl hl'
    generalize hd : decide (l = l') = d at *
    clear hd
    go_enter Try.func13, Try.ntmps13
    go_wp2
    go_loopw [5] (fun i wr => ∃ j : Nat, j ≤ n ∧ i = .int .i64 j ∧ (∀ q, q < j → l.getD q 0 = l'.getD q 0) ∧ Drawn w wr) (fun i _ => n - (Go.RowKit.intOf i).toNat)
    case atStart => exact ⟨0, by omega, rfl, fun q hq => by omega, Drawn.refl _⟩
    case round =>
      obtain ⟨j, hj, rfl, he, hw⟩ := hrel
      have HE := Lib.hid he; have HW := Lib.hid hw; clear he hw
      by_cases hlt : j < n
      · obtain ⟨g, o, rfl, _, hc⟩ := (HL.out.drawn HW.out).2 (by omega)
        obtain ⟨g', o', rfl, _, hc'⟩ := (HL'.out.drawn HW.out).2 (by omega)
        have hx := hc j hlt
        have hx' := hc' j hlt
        clear hc hc'
        have HXX := Lib.hid (fun h => HSN.out j h)
        have HEE : Hid (l.getD j 0 = l'.getD j 0 → ∀ q, q < j + 1 → l.getD q 0 = l'.getD q 0) := Lib.hid (fun h q hq => by
          by_cases e : q = j
          · subst e; exact h
          · exact HE.out q (by omega))
        generalize l.getD j 0 = x at *
        generalize l'.getD j 0 = y at *
        by_cases hxy : x = y
        · subst hxy
          have HE1 := Lib.hid (HEE.out rfl); clear HEE
          go_wp2_with fail
          go_region
          go_wp2_with fail
          go_roundw
          case rel => exact ⟨j + 1, by omega, by go_num, HE1.out, HW.out.drew⟩
          case measure => simp [Go.RowKit.intOf]; omega
        · have hne : (((x : Nat) : Int) != ((y : Nat) : Int)) = true := by simp; omega
          have hd := HXX.out hxy
          have HD := Lib.hid hd; clear hd
          go_wp2_with fail
          go_region
          go_wp2
          go_ret
          exact ⟨by rw [HD.out]; rfl, HW.out.drew⟩
      · obtain rfl : j = n := by omega
        have hd := HSY.out HE.out
        have HD := Lib.hid hd; clear hd
        go_wp2
        go_ret
        exact ⟨by rw [HD.out]; rfl, HW.out⟩
  · have hd := same_len (l := l) (l' := l') (by rw [hl.1, hl'.1]; exact hnn)
    have HD := Lib.hid hd; clear hd
    have hne : (((n : Nat) : Int) != ((n' : Nat) : Int)) = true := by simp; omega
    clear hl hl'
    go_enter Try.func13, Try.ntmps13
    go_wp2
    go_ret
    exact ⟨by rw [HD.out]; rfl, Drawn.refl _⟩
end Go.Proofs.Ytkfijgdbaihhpaa.Dsk
