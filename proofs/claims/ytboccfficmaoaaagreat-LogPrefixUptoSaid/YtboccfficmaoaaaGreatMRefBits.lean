/- The walks over the small functions of the document's own answer for layer 2: in, put, Number, filled, Same. -/
import Derived.Test.YtboccfficmaoaaaGreatMCodecSpec
import Derived.Test.YtboccfficmaoaaaGreatOwn
import Derived.Test.YtboccfficmaoaaaGreatMBytes
import Derived.IntWalk
namespace Go.Proofs.YtboccfficmaoaaaGreat.Codec
open Go.RowKit CrcMath CodecMath Mem Crc

/-- What putting or filling leaves: a row of the call's own that reads as so many bytes more. -/
def Put (w : World) (base : Nat) (v : Value) (n : Nat) (l : List Nat) (e : Ending) (w' : World) : Prop :=
  ∃ v', e = .returned v' ∧ Own w' base 5 1 v' n (u8s l) ∧ Grew w w' v v'

theorem reads_one (w : World) (x : Value) : Reads (w.alloc (.cells #[x] 5)) (w.heap.size + 1) 1 (some ⟨w.heap.size, 0, none⟩) 1 [x] := by
  refine ⟨rfl, fun _ => ⟨_, rfl, by simp, fun j u hu => ?_⟩⟩
  match j with
  | 0 => simpa [Addr.add] using hu
  | j + 1 => simp at hu
theorem byte_of (m i : Nat) : ((m : Int) / 2 ^ (8 * i) % 256) = ((m / 256 ^ i % 256 : Nat) : Int) := by
  rw [show ((2 : Int) ^ (8 * i)) = ((256 ^ i : Nat) : Int) from by rw [← two_pow_8]; simp]
  generalize 256 ^ i = p
  simp

theorem own_bytes {w : World} {base n : Nat} {v : Value} {l : List Nat} (h : Own w base 5 1 v n (u8s l)) (hl : ∀ x ∈ l, x < 256) :
    ∃ A cap, v = .slice A n cap ∧ Bytes w w.heap.size A n l ∧ n ≤ cap ∧ cap ≤ maxLen := by
  have hlen := h.len
  rw [u8s_length, Nat.mul_one] at hlen
  by_cases h0 : n = 0
  · subst h0
    obtain ⟨A, cap, hv, h1, h2, _⟩ := h.shape
    obtain rfl : l = [] := List.eq_nil_of_length_eq_zero hlen
    exact ⟨A, cap, hv, Bytes.none_ _ _ _, h1, h2⟩
  · obtain ⟨g, cap, hv, _, hlt, h1, h2, hc⟩ := h.reads (by omega)
    refine ⟨_, cap, hv, ⟨hlen, hl, fun _ => ⟨g, 0, rfl, hlt, by omega, fun j hj => ?_⟩⟩, h1, h2⟩
    rw [Nat.zero_add]
    exact hc j _ (u8s_at l j (by omega))

theorem byte_of_sum (s i : Nat) : ((s : Int) / 2 ^ (8 * i) % 256) = ((s / 256 ^ i % 256 : Nat) : Int) := byte_of s i
theorem le4_take (s i : Nat) (h : i < 4) : (le4 s).take (i + 1) = (le4 s).take i ++ [s / 256 ^ i % 256] := by
  match i, h with
  | 0, _ => simp [le4]
  | 1, _ => simp [le4]
  | 2, _ => simp [le4]
  | 3, _ => simp [le4]

theorem u8_lt (l : List Nat) (n : Nat) (h : ∀ x ∈ l, x < 256) : ∀ x ∈ fill l n, x < 256 := fill_lt l n h
theorem wrap_step (x b : Int) : wrap64 (wrap64 (256 * wrap64 x) + b) = wrap64 (256 * x + b) := by unfold wrap64; omega
theorem num_step (l : List Nat) (a j : Nat) : wrap64 (wrap64 (256 * wrap64 (num l a j)) + ((l.getD (a + j) 0 : Nat) : Int)) = wrap64 (num l a (j + 1) : Nat) := by
  rw [wrap_step]
  show _ = wrap64 ((256 * num l a j + l.getD (a + j) 0 : Nat) : Int)
  simp
theorem num_step0 (l : List Nat) (a j : Nat) (h : l.length ≤ a + j) : wrap64 (wrap64 (256 * wrap64 (num l a j))) = wrap64 (num l a (j + 1) : Nat) := by
  have h1 := num_step l a j
  rw [show l.getD (a + j) 0 = 0 from by simp [List.getD_eq_getElem?_getD, List.getElem?_eq_none h]] at h1
  rw [← h1]
  unfold wrap64
  omega
/-- Nothing but the tape was turned. -/
def Drawn (w w' : World) : Prop := ∃ k, w' = w.drewN k
theorem Drawn.refl (w : World) : Drawn w w := ⟨0, rfl⟩
theorem drawn_grown {w w' : World} (h : Drawn w w') (row : Option Nat) : w.grownBy w' row := by
  obtain ⟨k, rfl⟩ := h
  exact ⟨rfl, rfl, rfl, Nat.le_refl _, fun _ _ _ => rfl⟩
theorem Drawn.drew {w w' : World} (h : Drawn w w') : Drawn w w'.drew := by
  obtain ⟨k, rfl⟩ := h
  exact ⟨k + 1, rfl⟩
theorem Drawn.trans {w w1 w2 : World} (h : Drawn w w1) (k : Drawn w1 w2) : Drawn w w2 := by
  obtain ⟨i, rfl⟩ := h
  obtain ⟨j, rfl⟩ := k
  exact ⟨i + j, World.drewN_drewN _ _ _⟩
theorem same_len {l l' : List Nat} (h : l.length ≠ l'.length) : decide (l = l') = false := by
  rw [decide_eq_false_iff_not]; exact fun e => h (by rw [e])
theorem same_no {l l' : List Nat} (k : Nat) (h : l.getD k 0 ≠ l'.getD k 0) : decide (l = l') = false := by
  rw [decide_eq_false_iff_not]; exact fun e => h (by rw [e])
theorem same_yes {l l' : List Nat} (n : Nat) (h0 : l.length = n) (h1 : l'.length = n) (h : ∀ j, j < n → l.getD j 0 = l'.getD j 0) : decide (l = l') = true := by
  rw [decide_eq_true_iff]
  apply List.ext_getElem (by omega)
  intro i h2 h3
  have := h i (by omega)
  simpa [List.getD_eq_getElem?_getD, h2, h3] using this

set_option maxRecDepth 100000 in
set_option maxHeartbeats 800000 in
theorem same_any (b b' : Nat) (A A' : Option Addr) (n n' c c' : Nat) (l l' : List Nat) (w : World) (hl : Bytes w b A n l) (hl' : Bytes w b' A' n' l') (hn : n ≤ 9223372036854775807) (hn' : n' ≤ 9223372036854775807) :
    Calls Tryz.prog 69 #[.slice A n c, .slice A' n' c'] w fun e w' => e = .returned (.bool (decide (l = l'))) ∧ Drawn w w' := by
  by_cases hnn : n = n'
  · subst hnn
    have hsy := same_yes (l := l) (l' := l') n hl.1 hl'.1
    have HSY := Lib.hid hsy; clear hsy
    have hsn := @same_no l l'
    have HSN := Lib.hid hsn; clear hsn
    have HL := Lib.hid hl; have HL' := Lib.hid hl'; clear hl hl'
    generalize hd : decide (l = l') = d at *
    clear hd
    go_enter Tryz.func69, Tryz.ntmps69
    go_wp2
    go_loopw [5] (fun i wr => ∃ j : Nat, j ≤ n ∧ i = .int .i64 j ∧ (∀ q, q < j → l.getD q 0 = l'.getD q 0) ∧ Drawn w wr) (fun i _ => n - (intOf i).toNat)
    case atStart => exact ⟨0, by omega, rfl, fun q hq => by omega, Drawn.refl _⟩
    case round =>
      obtain ⟨j, hj, rfl, he, hw⟩ := hrel
      have HE := Lib.hid he; have HW := Lib.hid hw; clear he hw
      by_cases hlt : j < n
      · obtain ⟨g, o, rfl, _, _, hc⟩ := (HL.out.keep (drawn_grown HW.out _)).2.2 (by omega)
        obtain ⟨g', o', rfl, _, _, hc'⟩ := (HL'.out.keep (drawn_grown HW.out _)).2.2 (by omega)
        have hx := hc j hlt
        have hx' := hc' j hlt
        clear hc hc'
        have HXX := Lib.hid (fun h => HSN.out j h)
        have HEE : Hid (l.getD j 0 = l'.getD j 0 → ∀ q, q < j + 1 → l.getD q 0 = l'.getD q 0) := Lib.hid (fun h q hq => by
          by_cases e : q = j
          · subst e; exact h
          · exact HE.out q (by omega))
        generalize l.getD j 0 = x at *
        generalize l'.getD j 0 = y at *
        by_cases hxy : x = y
        · subst hxy
          have HE1 := Lib.hid (HEE.out rfl); clear HEE
          go_wp2_with fail
          go_region
          go_wp2_with fail
          go_roundw
          case rel => exact ⟨j + 1, by omega, by go_num, HE1.out, HW.out.drew⟩
          case measure => simp [intOf]; omega
        · have hne : (((x : Nat) : Int) != ((y : Nat) : Int)) = true := by simp; omega
          have hd := HXX.out hxy
          have HD := Lib.hid hd; clear hd
          go_wp2_with fail
          go_region
          go_wp2
          go_ret
          exact ⟨by rw [HD.out]; rfl, HW.out.drew⟩
      · obtain rfl : j = n := by omega
        have hd := HSY.out HE.out
        have HD := Lib.hid hd; clear hd
        go_wp2
        go_ret
        exact ⟨by rw [HD.out]; rfl, HW.out⟩
  · have hd := same_len (l := l) (l' := l') (by rw [hl.1, hl'.1]; exact hnn)
    have HD := Lib.hid hd; clear hd
    have hne : (((n : Nat) : Int) != ((n' : Nat) : Int)) = true := by simp; omega
    clear hl hl'
    go_enter Tryz.func69, Tryz.ntmps69
    go_wp2
    go_ret
    exact ⟨by rw [HD.out]; rfl, Drawn.refl _⟩
end Go.Proofs.YtboccfficmaoaaaGreat.Codec
