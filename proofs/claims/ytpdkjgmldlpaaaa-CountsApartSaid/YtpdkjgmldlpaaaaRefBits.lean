/- The walks over the small functions of the document's own answer for layer 2: in, put, Number, filled, Same. -/
import Derived.Test.YtpdkjgmldlpaaaaCodecSpec
import Derived.Test.YtpdkjgmldlpaaaaOwn
import Derived.Test.YtpdkjgmldlpaaaaCrcRef
import Derived.IntWalk
namespace Go.Proofs.Ytpdkjgmldlpaaaa.Codec
open Go.RowKit CrcMath CodecMath Mem Crc

set_option maxHeartbeats 400000 in
theorem in_any (n m : Int) (w : World) : Calls Try.prog 48 #[.int .i64 n, .int .i64 m] w fun e w' => e = .returned (.bool (inB n m)) ∧ w = w' := by
  by_cases h : 0 ≤ n
  · have hi : inB n m = decide (n ≤ m) := by simp [inB, h]
    have HI := Lib.hid hi; clear hi
    go_enter Try.func48, Try.ntmps48
    go_wp2
    go_ret
    exact ⟨by rw [HI.out]; rfl, rfl⟩
  · have hi : inB n m = false := by simp [inB, h]
    have HI := Lib.hid hi; clear hi
    have hd : decide (0 ≤ n) = false := by simp; omega
    go_enter Try.func48, Try.ntmps48
    go_wp2
    go_ret
    exact ⟨by rw [HI.out]; rfl, rfl⟩

/-- What putting or filling leaves: a row of the call's own that reads as so many bytes more. -/
def Put (w : World) (base : Nat) (v : Value) (n : Nat) (l : List Nat) (e : Ending) (w' : World) : Prop :=
  ∃ v', e = .returned v' ∧ Own w' base 5 1 v' n (u8s l) ∧ Grew w w' v v'

theorem reads_one (w : World) (x : Value) : Reads (w.alloc (.cells #[x] 5)) (w.heap.size + 1) 1 (some ⟨w.heap.size, 0, none⟩) 1 [x] := by
  refine ⟨rfl, fun _ => ⟨_, rfl, by simp, fun j u hu => ?_⟩⟩
  match j with
  | 0 => simpa [Addr.add] using hu
  | j + 1 => simp at hu
theorem byte_of (m i : Nat) : ((m : Int) / 2 ^ (8 * i) % 256) = ((m / 256 ^ i % 256 : Nat) : Int) := by
  rw [show ((2 : Int) ^ (8 * i)) = ((256 ^ i : Nat) : Int) from by rw [← two_pow_8]; simp]
  generalize 256 ^ i = p
  simp

set_option maxRecDepth 100000 in
set_option maxHeartbeats 800000 in
theorem put_any (base : Nat) (v : Value) (n : Nat) (l : List Nat) (m k : Nat) (w : World) (hown : Own w base 5 1 v n (u8s l)) (hb : base ≤ w.heap.size) (hk : k ≤ 8) (hn : n ≤ 70368744177664) :
    Calls Try.prog 49 #[v, .int .i64 m, .int .i64 k] w (Put w base v (n + k) (l ++ be k m)) := by
  obtain ⟨i0, hi0, hz0, hz1, hz2⟩ := info_parts byte_info
  have hi := Lib.hid hi0; have z0 := Lib.hid hz0; have z1 := Lib.hid hz1; have z2 := Lib.hid hz2; clear hi0 hz0 hz1 hz2
  have HO := Lib.hid hown; clear hown
  go_enter Try.func49, Try.ntmps49
  go_wp2
  go_loopw [0, 7] (fun u i wr => ∃ (j : Nat) (i' : Int), j ≤ k ∧ i' = (j : Int) - 1 ∧ i = .int .i64 i' ∧ Own wr base 5 1 u (n + (k - j)) (u8s (l ++ (be k m).take (k - j))) ∧ Grew w wr v u) (fun _ i _ => (intOf i + 1).toNat)
  case atStart => exact ⟨k, _, by omega, rfl, rfl, by simpa using HO.out, Grew.refl _ _⟩
  case round =>
    obtain ⟨j, i', hj, hji, rfl, ho, hg⟩ := hrel
    have HOr := Lib.hid ho; have HG := Lib.hid hg; clear ho hg
    by_cases hj0 : j = 0
    · subst hj0
      obtain rfl : i' = -1 := by omega
      clear hji
      go_wp2
      go_ret
      exact ⟨_, rfl, by have h := HOr.out; rwa [Nat.sub_zero, List.take_of_length_le (by rw [be_length]; omega)] at h, HG.out⟩
    · obtain ⟨q, rfl⟩ : ∃ q, j = q + 1 := ⟨j - 1, by omega⟩
      obtain rfl : i' = (q : Int) := by omega
      have hbt := be_take k m q (by omega)
      have hby := byte_of m q
      have HB := Lib.hid hbt; have HY := Lib.hid hby; clear hbt hby
      have hlen := HOr.out.len
      have hq0 : (0 : Int) ≤ q := by omega
      clear hji
      go_wp2_with (at_builtin
                   refine wpList_append_own_full _ rfl (.tmp 14) (.tmp 20) _ rfl base 5 i0 _ 1 1 Try.underlying31 hi.out z0.out z1.out z2.out rfl (by omega) u0 (n + (k - (q + 1))) _ rfl (HOr.out.alloc _)
                     _ _ 1 1 _ rfl (reads_one _ _) (fun u hu => by simp at hu; subst hu; rfl) (by simp only [maxLen]; omega) (by omega) (by have := HG.out.1.size; simp; omega) ?_
                   intro v' w' hown' hgr'
                   have HO' := Lib.hid hown'; have HG' := Lib.hid hgr'; clear hown' hgr')
      go_roundw
      case rel =>
        refine ⟨q, _, by omega, rfl, rfl, ?_, HG.out.trans (Grew.behind (World.grownBy_alloc wr _ none) HG'.out)⟩
        have h := HO'.out
        rw [HY.out] at h
        rw [HB.out, ← List.append_assoc, u8s_append, show n + (k - q) = n + (k - (q + 1)) + 1 from by omega]
        exact h
      case measure => simp [intOf]

theorem own_bytes {w : World} {base n : Nat} {v : Value} {l : List Nat} (h : Own w base 5 1 v n (u8s l)) (hl : ∀ x ∈ l, x < 256) :
    ∃ A cap, v = .slice A n cap ∧ Bytes w w.heap.size A n l ∧ n ≤ cap ∧ cap ≤ maxLen := by
  have hlen := h.len
  rw [u8s_length, Nat.mul_one] at hlen
  by_cases h0 : n = 0
  · subst h0
    obtain ⟨A, cap, hv, h1, h2, _⟩ := h.shape
    obtain rfl : l = [] := List.eq_nil_of_length_eq_zero hlen
    exact ⟨A, cap, hv, Bytes.none_ _ _ _, h1, h2⟩
  · obtain ⟨g, cap, hv, _, hlt, h1, h2, hc⟩ := h.reads (by omega)
    refine ⟨_, cap, hv, ⟨hlen, hl, fun _ => ⟨g, 0, rfl, hlt, by omega, fun j hj => ?_⟩⟩, h1, h2⟩
    rw [Nat.zero_add]
    exact hc j _ (u8s_at l j (by omega))

theorem byte_of_sum (s i : Nat) : ((s : Int) / 2 ^ (8 * i) % 256) = ((s / 256 ^ i % 256 : Nat) : Int) := byte_of s i
theorem le4_take (s i : Nat) (h : i < 4) : (le4 s).take (i + 1) = (le4 s).take i ++ [s / 256 ^ i % 256] := by
  match i, h with
  | 0, _ => simp [le4]
  | 1, _ => simp [le4]
  | 2, _ => simp [le4]
  | 3, _ => simp [le4]

theorem u8_lt (l : List Nat) (n : Nat) (h : ∀ x ∈ l, x < 256) : ∀ x ∈ fill l n, x < 256 := fill_lt l n h
theorem wrap_step (x b : Int) : wrap64 (wrap64 (256 * wrap64 x) + b) = wrap64 (256 * x + b) := by unfold wrap64; omega
theorem num_step (l : List Nat) (a j : Nat) : wrap64 (wrap64 (256 * wrap64 (num l a j)) + ((l.getD (a + j) 0 : Nat) : Int)) = wrap64 (num l a (j + 1) : Nat) := by
  rw [wrap_step]
  show _ = wrap64 ((256 * num l a j + l.getD (a + j) 0 : Nat) : Int)
  simp
theorem num_step0 (l : List Nat) (a j : Nat) (h : l.length ≤ a + j) : wrap64 (wrap64 (256 * wrap64 (num l a j))) = wrap64 (num l a (j + 1) : Nat) := by
  have h1 := num_step l a j
  rw [show l.getD (a + j) 0 = 0 from by simp [List.getD_eq_getElem?_getD, List.getElem?_eq_none h]] at h1
  rw [← h1]
  unfold wrap64
  omega
set_option maxRecDepth 100000 in
set_option maxHeartbeats 800000 in
theorem number_any (b : Nat) (A : Option Addr) (n c : Nat) (l : List Nat) (a k : Nat) (w : World) (hl : Bytes w b A n l) (ha : a + k ≤ 4096) :
    Calls Try.prog 44 #[.slice A n c, .int .i64 a, .int .i64 k] w fun e w' => e = .returned (.int .i64 (wrap64 (num l a k))) ∧ w = w' := by
  have hlen := hl.1
  have HL := Lib.hid hl; have HLEN := Lib.hid hlen; clear hl hlen
  go_enter Try.func44, Try.ntmps44
  go_wp2
  go_loop [7, 8] (fun s i => ∃ j p : Nat, j ≤ k ∧ p = a + j ∧ i = .int .i64 p ∧ s = .int .i64 (wrap64 (num l a j))) (fun _ i => a + k - (intOf i).toNat)
  case atStart => exact ⟨0, a, by omega, rfl, rfl, by simp [num, wrap64]⟩
  case round =>
    obtain ⟨j, p, hj, hp, rfl, rfl⟩ := hrel
    have HP := Lib.hid hp; clear hp
    by_cases hlt : j < k
    · have hpk : (p : Int) < (a : Int) + k := by have := HP.out; omega
      have hp0 : (0 : Int) ≤ p := by omega
      by_cases hn : p < n
      · obtain ⟨g, o, rfl, _, _, hc⟩ := HL.out.2.2 (by omega)
        have hcp := hc p hn
        clear hc
        have hbl := getD_lt HL.out.2.1 p
        have hst := num_step l a j
        rw [← HP.out] at hst
        have HST := Lib.hid hst; clear hst
        generalize l.getD p 0 = y at *
        generalize hx : wrap64 (num l a j) = x at *
        have hxb : -9223372036854775808 ≤ x ∧ x ≤ 9223372036854775807 := by rw [← hx]; unfold wrap64; omega
        clear hx
        obtain ⟨hx0, hx1⟩ := hxb
        go_wp2
        go_round
        case rel => exact ⟨j + 1, p + 1, by omega, by have := HP.out; omega, by go_num, by rw [← HST.out]⟩
        case measure => simp [intOf]; omega
      · have hst := num_step0 l a j (by rw [HLEN.out, ← HP.out]; omega)
        have HST := Lib.hid hst; clear hst
        generalize hx : wrap64 (num l a j) = x at *
        have hxb : -9223372036854775808 ≤ x ∧ x ≤ 9223372036854775807 := by rw [← hx]; unfold wrap64; omega
        clear hx
        obtain ⟨hx0, hx1⟩ := hxb
        go_wp2
        go_round
        case rel => exact ⟨j + 1, p + 1, by omega, by have := HP.out; omega, by go_num, by rw [← HST.out]⟩
        case measure => simp [intOf]; omega
    · obtain rfl : j = k := by omega
      have hpk : ¬ (p : Int) < (a : Int) + j := by have := HP.out; omega
      go_wp2
      go_ret
      exact ⟨rfl, rfl⟩

/-- Nothing but the tape was turned. -/
def Drawn (w w' : World) : Prop := ∃ k, w' = w.drewN k
theorem Drawn.refl (w : World) : Drawn w w := ⟨0, rfl⟩
theorem drawn_grown {w w' : World} (h : Drawn w w') (row : Option Nat) : w.grownBy w' row := by
  obtain ⟨k, rfl⟩ := h
  exact ⟨rfl, rfl, rfl, Nat.le_refl _, fun _ _ _ => rfl⟩
theorem Drawn.drew {w w' : World} (h : Drawn w w') : Drawn w w'.drew := by
  obtain ⟨k, rfl⟩ := h
  exact ⟨k + 1, rfl⟩
theorem Drawn.trans {w w1 w2 : World} (h : Drawn w w1) (k : Drawn w1 w2) : Drawn w w2 := by
  obtain ⟨i, rfl⟩ := h
  obtain ⟨j, rfl⟩ := k
  exact ⟨i + j, World.drewN_drewN _ _ _⟩
theorem same_len {l l' : List Nat} (h : l.length ≠ l'.length) : decide (l = l') = false := by
  rw [decide_eq_false_iff_not]; exact fun e => h (by rw [e])
theorem same_no {l l' : List Nat} (k : Nat) (h : l.getD k 0 ≠ l'.getD k 0) : decide (l = l') = false := by
  rw [decide_eq_false_iff_not]; exact fun e => h (by rw [e])
theorem same_yes {l l' : List Nat} (n : Nat) (h0 : l.length = n) (h1 : l'.length = n) (h : ∀ j, j < n → l.getD j 0 = l'.getD j 0) : decide (l = l') = true := by
  rw [decide_eq_true_iff]
  apply List.ext_getElem (by omega)
  intro i h2 h3
  have := h i (by omega)
  simpa [List.getD_eq_getElem?_getD, h2, h3] using this

set_option maxRecDepth 100000 in
set_option maxHeartbeats 800000 in
theorem same_any (b b' : Nat) (A A' : Option Addr) (n n' c c' : Nat) (l l' : List Nat) (w : World) (hl : Bytes w b A n l) (hl' : Bytes w b' A' n' l') (hn : n ≤ 9223372036854775807) (hn' : n' ≤ 9223372036854775807) :
    Calls Try.prog 45 #[.slice A n c, .slice A' n' c'] w fun e w' => e = .returned (.bool (decide (l = l'))) ∧ Drawn w w' := by
  by_cases hnn : n = n'
  · subst hnn
    have hsy := same_yes (l := l) (l' := l') n hl.1 hl'.1
    have HSY := Lib.hid hsy; clear hsy
    have hsn := @same_no l l'
    have HSN := Lib.hid hsn; clear hsn
    have HL := Lib.hid hl; have HL' := Lib.hid hl'; clear hl hl'
    generalize hd : decide (l = l') = d at *
    clear hd
    go_enter Try.func45, Try.ntmps45
    go_wp2
    go_loopw [5] (fun i wr => ∃ j : Nat, j ≤ n ∧ i = .int .i64 j ∧ (∀ q, q < j → l.getD q 0 = l'.getD q 0) ∧ Drawn w wr) (fun i _ => n - (intOf i).toNat)
    case atStart => exact ⟨0, by omega, rfl, fun q hq => by omega, Drawn.refl _⟩
    case round =>
      obtain ⟨j, hj, rfl, he, hw⟩ := hrel
      have HE := Lib.hid he; have HW := Lib.hid hw; clear he hw
      by_cases hlt : j < n
      · obtain ⟨g, o, rfl, _, _, hc⟩ := (HL.out.keep (drawn_grown HW.out _)).2.2 (by omega)
        obtain ⟨g', o', rfl, _, _, hc'⟩ := (HL'.out.keep (drawn_grown HW.out _)).2.2 (by omega)
        have hx := hc j hlt
        have hx' := hc' j hlt
        clear hc hc'
        have HXX := Lib.hid (fun h => HSN.out j h)
        have HEE : Hid (l.getD j 0 = l'.getD j 0 → ∀ q, q < j + 1 → l.getD q 0 = l'.getD q 0) := Lib.hid (fun h q hq => by
          by_cases e : q = j
          · subst e; exact h
          · exact HE.out q (by omega))
        generalize l.getD j 0 = x at *
        generalize l'.getD j 0 = y at *
        by_cases hxy : x = y
        · subst hxy
          have HE1 := Lib.hid (HEE.out rfl); clear HEE
          go_wp2_with fail
          go_region
          go_wp2_with fail
          go_roundw
          case rel => exact ⟨j + 1, by omega, by go_num, HE1.out, HW.out.drew⟩
          case measure => simp [intOf]; omega
        · have hne : (((x : Nat) : Int) != ((y : Nat) : Int)) = true := by simp; omega
          have hd := HXX.out hxy
          have HD := Lib.hid hd; clear hd
          go_wp2_with fail
          go_region
          go_wp2
          go_ret
          exact ⟨by rw [HD.out]; rfl, HW.out.drew⟩
      · obtain rfl : j = n := by omega
        have hd := HSY.out HE.out
        have HD := Lib.hid hd; clear hd
        go_wp2
        go_ret
        exact ⟨by rw [HD.out]; rfl, HW.out⟩
  · have hd := same_len (l := l) (l' := l') (by rw [hl.1, hl'.1]; exact hnn)
    have HD := Lib.hid hd; clear hd
    have hne : (((n : Nat) : Int) != ((n' : Nat) : Int)) = true := by simp; omega
    clear hl hl'
    go_enter Try.func45, Try.ntmps45
    go_wp2
    go_ret
    exact ⟨by rw [HD.out]; rfl, Drawn.refl _⟩
end Go.Proofs.Ytpdkjgmldlpaaaa.Codec
