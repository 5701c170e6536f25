/- Texts of this seat's proofs: FrameSum, SupHist. -/
import Derived.Test.YtagikgejhckfbaaMCodecSpec
import Derived.KernelRfl
/- Plain facts: the sum of a whole sector is one number for all sectors; which bytes a burst leaves alone. No program is named. -/
namespace Go.Proofs.Ytagikgejhckfbaa.Codec
open Go.RowKit CrcMath CodecMath

theorem byte_flip {u : Nat} (h : u < 256) : 255 - u = u ^^^ 255 := by
  have : ∀ u : Fin 256, 255 - u.val = u.val ^^^ 255 := by decide +kernel
  exact this ⟨u, h⟩
/-- One step over a byte of the sum: what stood in the state goes, whatever it was. -/
theorem sum_step (u D : Nat) : B (u ^^^ D) (255 - u % 256) = u / 256 ^^^ (Lk 8 (D % 256 ^^^ 255) ^^^ D / 256) := by
  rw [← B_table, byte_flip (Nat.mod_lt _ (by omega)), show (u ^^^ D) % 256 = u % 256 ^^^ D % 256 from Nat.xor_mod_two_pow (n := 8), show (u ^^^ D) / 256 = u / 256 ^^^ D / 256 from ?_]
  · have e : (u % 256 ^^^ D % 256) ^^^ (u % 256 ^^^ 255) = D % 256 ^^^ 255 := by
      rw [Nat.xor_comm (u % 256) (D % 256), Nat.xor_assoc, ← Nat.xor_assoc (u % 256) (u % 256), Nat.xor_self, Nat.zero_xor]
    rw [e, ← Nat.xor_assoc, Nat.xor_comm _ (u / 256), Nat.xor_assoc]
  · have := Nat.shiftRight_xor_distrib (a := u) (b := D) (i := 8)
    simpa [Nat.shiftRight_eq_div_pow] using this
def D1 : Nat := Lk 8 (0 % 256 ^^^ 255) ^^^ 0 / 256
def D2 : Nat := Lk 8 (D1 % 256 ^^^ 255) ^^^ D1 / 256
def D3 : Nat := Lk 8 (D2 % 256 ^^^ 255) ^^^ D2 / 256
def D4 : Nat := Lk 8 (D3 % 256 ^^^ 255) ^^^ D3 / 256
theorem sum_bytes (c : Nat) (hc : c < 4294967296) : C c (le4 (4294967295 - c)) = D4 := by
  have b0 : (4294967295 - c) % 256 = 255 - c % 256 := by omega
  have b1 : (4294967295 - c) / 256 % 256 = 255 - c / 256 % 256 := by omega
  have b2 : (4294967295 - c) / 65536 % 256 = 255 - c / 256 / 256 % 256 := by omega
  have b3 : (4294967295 - c) / 16777216 % 256 = 255 - c / 256 / 256 / 256 % 256 := by omega
  have h4 : c / 256 / 256 / 256 / 256 = 0 := by omega
  show B (B (B (B c _) _) _) _ = D4
  rw [b0, b1, b2, b3]
  have e0 := sum_step c 0
  rw [Nat.xor_zero] at e0
  rw [e0]
  have e1 := sum_step (c / 256) D1
  have e2 := sum_step (c / 256 / 256) D2
  have e3 := sum_step (c / 256 / 256 / 256) D3
  show B (B (B (c / 256 ^^^ D1) _) _) _ = D4
  rw [e1]
  show B (B (c / 256 / 256 ^^^ D2) _) _ = D4
  rw [e2]
  show B (c / 256 / 256 / 256 ^^^ D3) _ = D4
  rw [e3, h4, Nat.zero_xor]
  rfl
/-- All sectors have one sum. -/
theorem frame_sum (l : List Nat) (hl : ∀ x ∈ l, x < 256) : M 0 (frame l) = 4294967295 - D4 := by
  have hc := C_lt (fill l 252) (s := 4294967295) (by omega) (fill_lt l 252 hl)
  show 4294967295 - C (4294967295 - 0) (fill l 252 ++ le4 (M 0 (fill l 252))) = _
  rw [C_append]
  show 4294967295 - C (C 4294967295 (fill l 252)) (le4 (4294967295 - C (4294967295 - 0) (fill l 252))) = _
  rw [Nat.sub_zero, sum_bytes _ hc]

/-- Bytes in which no bit was turned from a bit on are as they were. -/
def Outside (xs : List Nat) (bit : Nat) (ys : List Nat) : Prop := ∀ j, ¬ (bit / 8 ≤ j ∧ j ≤ (bit + 31) / 8) → ys.getD j 0 = xs.getD j 0
theorem Outside.set {xs ys : List Nat} {bit k : Nat} (h : Outside xs bit ys) (hk : k < 32) (v : Nat) : Outside xs bit (ys.set ((bit + k) / 8) v) := by
  intro j hj
  rw [← h j hj, List.getD_eq_getElem?_getD, List.getD_eq_getElem?_getD, List.getElem?_set_ne (by omega)]

theorem super_unlike {s : List Int} {l ys : List Nat} {bit c : Nat} (h : superW s = some l) (ht : Turned l bit c 32 ys true) : superR ys = none := by
  obtain ⟨rfl, _⟩ := superW_some h
  cases hr : superR ys with
  | none => rfl
  | some u =>
    obtain ⟨hu, _⟩ := superR_some hr
    obtain ⟨rfl, _⟩ := superW_some hu
    exact absurd ((frame_sum _ (superB_lt s)).trans (frame_sum _ (superB_lt u)).symm) (ht.unlike (frame_lt _ (superB_lt s)))
theorem head_unlike {ep sq : Int} {pages : List Int} {sum : Nat} {l ys : List Nat} {bit c : Nat} (h : headW ep sq pages sum = some l) (ht : Turned l bit c 32 ys true) : headR ys = none := by
  obtain ⟨rfl, _⟩ := headW_some h
  rw [headR, if_neg (fun hu => ?_)]
  obtain ⟨he, _⟩ := headW_some hu
  exact ht.unlike (frame_lt _ (headB_lt _ _ _ _)) ((frame_sum _ (headB_lt _ _ _ _)).trans ((frame_sum _ (headB_lt _ _ _ _)).symm.trans (by rw [← he])))
theorem page_zero_sum (k : Nat) (h1 : 1 ≤ k) (h5 : k ≤ 5) : M 0 ([80, 80, 65, 71, k] ++ List.replicate 247 0) ≠ 0 := by
  obtain rfl | rfl | rfl | rfl | rfl : k = 1 ∨ k = 2 ∨ k = 3 ∨ k = 4 ∨ k = 5 := by omega
  all_goals decide +kernel
theorem page_unlike {nu ki : Int} {body l ys : List Nat} {bit c : Nat} (h : pageW nu ki body = some l) (ht : Turned l bit c 32 ys true) (ho : Outside l bit ys) (other : Int) : pageR ys other = none := by
  obtain ⟨hl, hok⟩ := pageW_some h
  obtain ⟨⟨k1, k5⟩, ⟨n0, n1⟩, hb, hlt⟩ := pageOk_iff hok
  have hne : ys ≠ zeros := by
    rintro rfl
    have h80 : l.getD 0 0 = 80 := (page_fields h).2.2.2
    have hz : ∀ j, zeros.getD j 0 = 0 := fun j => by
      rw [zeros, List.getD_eq_getElem?_getD, List.getElem?_replicate]
      split <;> rfl
    have hbit : bit / 8 = 0 := by
      rcases Nat.eq_zero_or_pos (bit / 8) with h0 | h0
      · exact h0
      · have := ho 0 (by omega)
        rw [hz, h80] at this
        omega
    have hall : ∀ j, 5 ≤ j → l.getD j 0 = 0 := fun j hj => by rw [← ho j (by omega), hz]
    obtain ⟨k, rfl⟩ := Int.eq_ofNat_of_zero_le (show 0 ≤ ki by omega)
    have hk5 : k ≤ 5 := by omega
    have hlen := pageB_len nu (k : Int) body hb
    have hfill : fill (pageB nu (k : Int) body) 252 = pageB nu (k : Int) body := fill_full _ _ (by omega)
    have hfr : l = pageB nu (k : Int) body ++ le4 (M 0 (pageB nu (k : Int) body)) := by rw [hl, frame, hfill]
    have hs0 : M 0 (pageB nu (k : Int) body) = 0 := by
      have hm := M_lt 0 (pageB nu (k : Int) body)
      generalize hM : M 0 (pageB nu (k : Int) body) = m at *
      have g : ∀ i, i < 4 → (le4 m).getD i 0 = 0 := fun i hi => by
        have := hall (252 + i) (by omega)
        rw [hfr, CodecMath.getD_right _ _ _ (by omega), hlen, show 252 + i - 252 = i from by omega] at this
        exact this
      have g0 : m % 256 = 0 := g 0 (by omega)
      have g1 : m / 256 % 256 = 0 := g 1 (by omega)
      have g2 : m / 65536 % 256 = 0 := g 2 (by omega)
      have g3 : m / 16777216 % 256 = 0 := g 3 (by omega)
      omega
    have hpg : pageB nu (k : Int) body = [80, 80, 65, 71, k] ++ List.replicate 247 0 := by
      refine List.ext_getElem (by rw [hlen, List.length_append, List.length_replicate]; rfl) (fun j h1 h2 => ?_)
      have e1 : (pageB nu (k : Int) body).getD j 0 = (pageB nu (k : Int) body)[j] := by rw [List.getD_eq_getElem?_getD, List.getElem?_eq_getElem h1]; rfl
      rw [← e1]
      by_cases hj : j < 5
      · have hke : be 1 k = [k] := by simp [be, Nat.mod_eq_of_lt (show k < 256 by omega)]
        have e2 : pageB nu (k : Int) body = [80, 80, 65, 71, k] ++ (be 4 nu.toNat ++ ([0, 0, 0] ++ body)) := by simp [pageB, hke]
        rw [e2, CodecMath.getD_left _ _ _ (by simpa using hj)]
        obtain rfl | rfl | rfl | rfl | rfl : j = 0 ∨ j = 1 ∨ j = 2 ∨ j = 3 ∨ j = 4 := by omega
        all_goals rfl
      · have := hall j (by omega)
        rw [hfr, CodecMath.getD_left _ _ _ h1] at this
        rw [this, List.getElem_append_right (by simpa using hj), List.getElem_replicate]
    rw [hpg] at hs0
    exact page_zero_sum k (by omega) hk5 hs0
  rw [pageR, if_neg hne, if_neg (fun hu => ?_)]
  obtain ⟨he, hok'⟩ := pageW_some hu
  subst hl
  have hlt' := (pageOk_iff hok').2.2.2
  exact ht.unlike (frame_lt _ (pageB_lt _ _ _ hlt)) ((frame_sum _ (pageB_lt _ _ _ hlt)).trans ((frame_sum _ (pageB_lt _ _ _ hlt')).symm.trans (by rw [← he])))
end Go.Proofs.Ytagikgejhckfbaa.Codec
/- Superblocks that were saved one behind the other on a plain disk, in plain words: what is loaded; what is loaded when the last one is spoilt. No program is named. -/
namespace Go.Proofs.Ytagikgejhckfbaa.Sup
open Go.RowKit CrcMath CodecMath Codec DiskSpec Dsk

/-! ### One byte is changed -/
theorem set_getD_same (l : List Nat) (q : Nat) : l.set q (l.getD q 0 ^^^ 0) = l := by
  rw [Nat.xor_zero]
  apply List.ext_getElem?
  intro i
  rw [List.getElem?_set]
  split
  · rename_i h
    subst h
    split
    · rename_i h2
      rw [List.getD_eq_getElem?_getD, List.getElem?_eq_getElem h2]
      rfl
    · rename_i h2
      rw [List.getElem?_eq_none (by omega)]
  · rfl
theorem turned_byte (l : List Nat) (hl : ∀ x ∈ l, x < 256) (q m : Nat) (hq : q < l.length) : ∀ k, k ≤ 8 → ∃ t, Turned l (8 * q) m k (l.set q (l.getD q 0 ^^^ (m % 2 ^ k))) t := by
  intro k
  induction k with
  | zero =>
    intro _
    refine ⟨false, ?_⟩
    rw [Nat.pow_zero, Nat.mod_one, set_getD_same]
    exact Turned.start l (8 * q) m hl
  | succ k ih =>
    intro hk
    obtain ⟨t, ht⟩ := ih (by omega)
    rw [mod_succ_bit]
    by_cases hb : m / 2 ^ k % 2 = 1
    · rw [if_pos hb]
      refine ⟨true, ?_⟩
      have h1 := ht.turn (by omega) hb
      rw [show (8 * q + k) / 8 = q from by omega, show (8 * q + k) % 8 = k from by omega] at h1
      rw [List.set_set] at h1
      have h2 : (l.set q (l.getD q 0 ^^^ (m % 2 ^ k))).getD q 0 = l.getD q 0 ^^^ (m % 2 ^ k) := by
        rw [List.getD_eq_getElem?_getD, List.getElem?_set_self (by omega)]
        rfl
      rw [h2, Nat.xor_assoc] at h1
      exact h1
    · rw [if_neg hb]
      exact ⟨t, ht.same hb⟩
theorem turned_more {l ys : List Nat} {bit m : Nat} (hm : m < 256) {t : Bool} (h : Turned l bit m 8 ys t) : ∀ k, Turned l bit m (8 + k) ys t := by
  intro k
  induction k with
  | zero => exact h
  | succ k ih =>
    refine ih.same ?_
    have : m / 2 ^ (8 + k) = 0 := Nat.div_eq_of_lt (Nat.lt_of_lt_of_le hm (by
      have : 2 ^ 8 ≤ 2 ^ (8 + k) := Nat.pow_le_pow_right (by omega) (by omega)
      omega))
    rw [this]
    simp
/-- A superblock's sector in which a byte was changed is none. -/
theorem byte_spoils {s : List Int} {l : List Nat} (h : superW s = some l) (hs : s.length = 7) (q m : Nat) (hq : q < 256) (hm : m < 256) (h0 : m ≠ 0) : superR (l.set q (l.getD q 0 ^^^ m)) = none := by
  have hlen := superW_len hs h
  have hlt : ∀ x ∈ l, x < 256 := by
    obtain ⟨rfl, _⟩ := superW_some h
    exact frame_lt _ (superB_lt s)
  obtain ⟨t, ht⟩ := turned_byte l hlt q m (by omega) 8 (Nat.le_refl _)
  rw [show m % 2 ^ 8 = m from Nat.mod_eq_of_lt hm] at ht
  have h32 := turned_more hm ht 24
  rw [show 8 + 24 = 32 from rfl] at h32
  have htt : t = true := by
    refine h32.2.2.2.2 ?_
    show m % 2 ^ (min 32 (8 * l.length - 8 * q)) ≠ 0
    have h8 : 2 ^ 8 ≤ 2 ^ (min 32 (8 * l.length - 8 * q)) := Nat.pow_le_pow_right (by omega) (by omega)
    rw [Nat.mod_eq_of_lt (by omega)]
    exact h0
  subst htt
  exact super_unlike h h32

/-! ### One behind the other -/
/-- What a plain disk of n sectors holds when L was saved, the first with the number g. -/
structure Hist (n : Nat) (dur : Nat → List Nat) (g : Int) (L : List (List Int)) : Prop where
  g0 : 0 ≤ g
  each : ∀ i s, L[i]? = some s → s.length = 7 ∧ mayB s n = true ∧ gen s = g + (i : Nat)
  h0 : L.length = 0 → dur 0 = DiskSpec.zeros ∧ dur 1 = DiskSpec.zeros
  h1 : ∀ s, L[L.length - 1]? = some s → dur (placeOf s) = frame (superB s)
  h2 : 2 ≤ L.length → ∀ s, L[L.length - 2]? = some s → dur (placeOf s) = frame (superB s)
  hz : L.length = 1 → ∀ s, L[0]? = some s → dur (1 - placeOf s) = DiskSpec.zeros
theorem Hist.start (n : Nat) {g : Int} (hg : 0 ≤ g) : Hist n (fun _ => DiskSpec.zeros) g [] :=
  ⟨hg, fun i s h => by simp at h, fun _ => ⟨rfl, rfl⟩, fun s h => by simp at h, fun h => by simp at h, fun h => by simp at h⟩
theorem place_of_gen {s : List Int} (h : 0 ≤ gen s) : (placeOf s : Int) = gen s % 2 := by
  unfold placeOf
  rw [Int.tmod_eq_emod_of_nonneg h]
  omega
theorem Hist.save {n : Nat} {dur : Nat → List Nat} {g : Int} {L : List (List Int)} {s : List Int} (h : Hist n dur g L) (hl : s.length = 7) (hm : mayB s n = true) (hg : gen s = g + (L.length : Nat)) :
    Hist n (upd dur (placeOf s) (frame (superB s))) g (L ++ [s]) := by
  have hp := place_of_gen (s := s) (by have := h.g0; omega)
  refine ⟨h.g0, fun i u hi => ?_, fun h => by simp at h, fun u hu => ?_, fun h2 u hu => ?_, fun h1 u hu => ?_⟩
  · rcases Nat.lt_or_ge i L.length with hlt | hge
    · rw [List.getElem?_append_left hlt] at hi; exact h.each i u hi
    · rw [List.getElem?_append_right hge] at hi
      have h3 := (List.getElem?_eq_some_iff.1 hi).1
      have h4 : i = L.length := by simp at h3; omega
      subst h4
      simp at hi
      subst hi
      exact ⟨hl, hm, hg⟩
  · simp at hu
    subst hu
    exact upd_same _ _ _
  · have e : (L ++ [s]).length - 2 = L.length - 1 := by simp
    rw [e, List.getElem?_append_left (by simp at h2; omega)] at hu
    have h3 := h.each _ u hu
    have hp' := place_of_gen (s := u) (by have := h.g0; omega)
    simp at h2
    rw [upd_ne _ _ (by omega)]
    exact h.h1 u hu
  · simp at h1
    subst h1
    simp at hu
    subst hu
    rw [upd_ne _ _ (by omega)]
    obtain ⟨z0, z1⟩ := h.h0 rfl
    rcases (by omega : 1 - placeOf s = 0 ∨ 1 - placeOf s = 1) with e | e
    · rw [e]; exact z0
    · rw [e]; exact z1
/-- One place holds s: what is loaded. -/
theorem best_at {n : Nat} {dur : Nat → List Nat} {s : List Int} (hl : s.length = 7) (hm : mayB s n = true) (hd : dur (placeOf s) = frame (superB s)) (ho : ∀ p, sound n ((1 - placeOf s : Nat) : Int) (dur (1 - placeOf s)) = some p → gen p < gen s) : bestP n dur = some s := by
  have hg := may_gen hl hm
  obtain ⟨hp, hp2⟩ := place_is hg.1
  have hs := sound_of (n := n) (i := (placeOf s : Int)) hl hm hp
  unfold bestP bestOf
  rcases (by omega : placeOf s = 0 ∨ placeOf s = 1) with e | e
  · rw [e] at hd hs ho
    rw [hd, show sound n 0 (frame (superB s)) = some s from hs]
    cases ho' : sound n 1 (dur 1) with
    | none => rfl
    | some p =>
      have := ho p ho'
      show (if gen s < gen p then some p else some s) = some s
      rw [if_neg (by omega)]
  · rw [e] at hd hs ho
    rw [hd, show sound n 1 (frame (superB s)) = some s from hs]
    cases ho' : sound n 0 (dur 0) with
    | none => rfl
    | some p =>
      have := ho p ho'
      show (if gen p < gen s then some s else some p) = some s
      rw [if_pos this]
/-- One place holds none: what is loaded. -/
theorem best_other {n : Nat} {dur : Nat → List Nat} {a : Nat} (ha : a < 2) (hd : superR (dur a) = none) : bestP n dur = sound n ((1 - a : Nat) : Int) (dur (1 - a)) := by
  unfold bestP bestOf
  rcases (by omega : a = 0 ∨ a = 1) with e | e
  · subst e
    rw [sound_no hd]
    show newer none (sound n 1 (dur 1)) = sound n 1 (dur 1)
    cases sound n 1 (dur 1) <;> rfl
  · subst e
    rw [sound_no hd]
    show newer (sound n 0 (dur 0)) none = sound n 0 (dur 0)
    cases sound n 0 (dur 0) <;> rfl
theorem Hist.none_ {n : Nat} {dur : Nat → List Nat} {g : Int} {L : List (List Int)} (h : Hist n dur g L) (h0 : L.length = 0) : bestP n dur = none := by
  obtain ⟨z0, z1⟩ := h.h0 h0
  unfold bestP bestOf
  rw [z0, z1, sound_no superR_zeros, sound_no superR_zeros]
  rfl
theorem Hist.prev {n : Nat} {dur : Nat → List Nat} {g : Int} {L : List (List Int)} (h : Hist n dur g L) {s : List Int} (hs : L[L.length - 1]? = some s) :
    (L.length = 1 → sound n ((1 - placeOf s : Nat) : Int) (dur (1 - placeOf s)) = none) ∧ (∀ p, 2 ≤ L.length → L[L.length - 2]? = some p → sound n ((1 - placeOf s : Nat) : Int) (dur (1 - placeOf s)) = some p ∧ gen p < gen s) := by
  have hlt : L.length - 1 < L.length := (List.getElem?_eq_some_iff.1 hs).1
  obtain ⟨e1, e2, e3⟩ := h.each _ s hs
  have hps := place_of_gen (s := s) (by have := h.g0; omega)
  refine ⟨fun h1 => ?_, fun p h2 hp => ?_⟩
  · have := h.hz h1 s (by rw [h1] at hs; exact hs)
    rw [this]
    exact sound_no superR_zeros
  · obtain ⟨f1, f2, f3⟩ := h.each _ p hp
    have hpp := place_of_gen (s := p) (by have := h.g0; omega)
    have hpl : 1 - placeOf s = placeOf p := by omega
    have hd := h.h2 h2 p hp
    obtain ⟨hpi, _⟩ := place_is (may_gen f1 f2).1
    rw [hpl, hd]
    exact ⟨sound_of f1 f2 hpi, by omega⟩
theorem Hist.last {n : Nat} {dur : Nat → List Nat} {g : Int} {L : List (List Int)} (h : Hist n dur g L) {s : List Int} (hs : L[L.length - 1]? = some s) : bestP n dur = some s := by
  have hlt : L.length - 1 < L.length := (List.getElem?_eq_some_iff.1 hs).1
  obtain ⟨e1, e2, e3⟩ := h.each _ s hs
  obtain ⟨p1, p2⟩ := h.prev hs
  refine best_at e1 e2 (h.h1 s hs) fun p hp => ?_
  rcases (by omega : L.length = 1 ∨ 2 ≤ L.length) with h1 | h2
  · rw [p1 h1] at hp; cases hp
  · have hq : L[L.length - 2]? = some (L[L.length - 2]'(by omega)) := List.getElem?_eq_getElem (by omega)
    obtain ⟨a, b⟩ := p2 _ h2 hq
    rw [a] at hp
    cases hp
    exact b
/-- The last one's sector is spoilt: the one ahead of it. -/
theorem Hist.spoilt {n : Nat} {dur : Nat → List Nat} {g : Int} {L : List (List Int)} (h : Hist n dur g L) {s : List Int} (hs : L[L.length - 1]? = some s) {y : List Nat} (hy : superR y = none) :
    (L.length = 1 → bestP n (upd dur (placeOf s) y) = none) ∧ (∀ p, 2 ≤ L.length → L[L.length - 2]? = some p → bestP n (upd dur (placeOf s) y) = some p) := by
  have hlt : L.length - 1 < L.length := (List.getElem?_eq_some_iff.1 hs).1
  obtain ⟨e1, e2, e3⟩ := h.each _ s hs
  obtain ⟨_, hp2⟩ := place_is (may_gen e1 e2).1
  obtain ⟨p1, p2⟩ := h.prev hs
  have hb := best_other (n := n) (dur := upd dur (placeOf s) y) hp2 (by rw [upd_same]; exact hy)
  rw [upd_ne _ _ (by omega)] at hb
  exact ⟨fun h1 => by rw [hb]; exact p1 h1, fun p h2 hp => by rw [hb]; exact (p2 p h2 hp).1⟩
end Go.Proofs.Ytagikgejhckfbaa.Sup
