/- Texts of this seat's proofs: FrameSum, SupHist, StoGood, StoGood2. -/
import Derived.Test.YteaokeiolgjhaaaGreatPCodecSpec
import Derived.KernelRfl
/- Plain facts: the sum of a whole sector is one number for all sectors; which bytes a burst leaves alone. No program is named. -/
namespace Go.Proofs.YteaokeiolgjhaaaGreat.Codec
open Go.RowKit CrcMath CodecMath

theorem byte_flip {u : Nat} (h : u < 256) : 255 - u = u ^^^ 255 := by
  have : ∀ u : Fin 256, 255 - u.val = u.val ^^^ 255 := by decide +kernel
  exact this ⟨u, h⟩
/-- One step over a byte of the sum: what stood in the state goes, whatever it was. -/
theorem sum_step (u D : Nat) : B (u ^^^ D) (255 - u % 256) = u / 256 ^^^ (Lk 8 (D % 256 ^^^ 255) ^^^ D / 256) := by
  rw [← B_table, byte_flip (Nat.mod_lt _ (by omega)), show (u ^^^ D) % 256 = u % 256 ^^^ D % 256 from Nat.xor_mod_two_pow (n := 8), show (u ^^^ D) / 256 = u / 256 ^^^ D / 256 from ?_]
  · have e : (u % 256 ^^^ D % 256) ^^^ (u % 256 ^^^ 255) = D % 256 ^^^ 255 := by
      rw [Nat.xor_comm (u % 256) (D % 256), Nat.xor_assoc, ← Nat.xor_assoc (u % 256) (u % 256), Nat.xor_self, Nat.zero_xor]
    rw [e, ← Nat.xor_assoc, Nat.xor_comm _ (u / 256), Nat.xor_assoc]
  · have := Nat.shiftRight_xor_distrib (a := u) (b := D) (i := 8)
    simpa [Nat.shiftRight_eq_div_pow] using this
def D1 : Nat := Lk 8 (0 % 256 ^^^ 255) ^^^ 0 / 256
def D2 : Nat := Lk 8 (D1 % 256 ^^^ 255) ^^^ D1 / 256
def D3 : Nat := Lk 8 (D2 % 256 ^^^ 255) ^^^ D2 / 256
def D4 : Nat := Lk 8 (D3 % 256 ^^^ 255) ^^^ D3 / 256
theorem sum_bytes (c : Nat) (hc : c < 4294967296) : C c (le4 (4294967295 - c)) = D4 := by
  have b0 : (4294967295 - c) % 256 = 255 - c % 256 := by omega
  have b1 : (4294967295 - c) / 256 % 256 = 255 - c / 256 % 256 := by omega
  have b2 : (4294967295 - c) / 65536 % 256 = 255 - c / 256 / 256 % 256 := by omega
  have b3 : (4294967295 - c) / 16777216 % 256 = 255 - c / 256 / 256 / 256 % 256 := by omega
  have h4 : c / 256 / 256 / 256 / 256 = 0 := by omega
  show B (B (B (B c _) _) _) _ = D4
  rw [b0, b1, b2, b3]
  have e0 := sum_step c 0
  rw [Nat.xor_zero] at e0
  rw [e0]
  have e1 := sum_step (c / 256) D1
  have e2 := sum_step (c / 256 / 256) D2
  have e3 := sum_step (c / 256 / 256 / 256) D3
  show B (B (B (c / 256 ^^^ D1) _) _) _ = D4
  rw [e1]
  show B (B (c / 256 / 256 ^^^ D2) _) _ = D4
  rw [e2]
  show B (c / 256 / 256 / 256 ^^^ D3) _ = D4
  rw [e3, h4, Nat.zero_xor]
  rfl
/-- All sectors have one sum. -/
theorem frame_sum (l : List Nat) (hl : ∀ x ∈ l, x < 256) : M 0 (frame l) = 4294967295 - D4 := by
  have hc := C_lt (fill l 252) (s := 4294967295) (by omega) (fill_lt l 252 hl)
  show 4294967295 - C (4294967295 - 0) (fill l 252 ++ le4 (M 0 (fill l 252))) = _
  rw [C_append]
  show 4294967295 - C (C 4294967295 (fill l 252)) (le4 (4294967295 - C (4294967295 - 0) (fill l 252))) = _
  rw [Nat.sub_zero, sum_bytes _ hc]

/-- Bytes in which no bit was turned from a bit on are as they were. -/
def Outside (xs : List Nat) (bit : Nat) (ys : List Nat) : Prop := ∀ j, ¬ (bit / 8 ≤ j ∧ j ≤ (bit + 31) / 8) → ys.getD j 0 = xs.getD j 0
theorem Outside.set {xs ys : List Nat} {bit k : Nat} (h : Outside xs bit ys) (hk : k < 32) (v : Nat) : Outside xs bit (ys.set ((bit + k) / 8) v) := by
  intro j hj
  rw [← h j hj, List.getD_eq_getElem?_getD, List.getD_eq_getElem?_getD, List.getElem?_set_ne (by omega)]

theorem super_unlike {s : List Int} {l ys : List Nat} {bit c : Nat} (h : superW s = some l) (ht : Turned l bit c 32 ys true) : superR ys = none := by
  obtain ⟨rfl, _⟩ := superW_some h
  cases hr : superR ys with
  | none => rfl
  | some u =>
    obtain ⟨hu, _⟩ := superR_some hr
    obtain ⟨rfl, _⟩ := superW_some hu
    exact absurd ((frame_sum _ (superB_lt s)).trans (frame_sum _ (superB_lt u)).symm) (ht.unlike (frame_lt _ (superB_lt s)))
theorem head_unlike {ep sq : Int} {pages : List Int} {sum : Nat} {l ys : List Nat} {bit c : Nat} (h : headW ep sq pages sum = some l) (ht : Turned l bit c 32 ys true) : headR ys = none := by
  obtain ⟨rfl, _⟩ := headW_some h
  rw [headR, if_neg (fun hu => ?_)]
  obtain ⟨he, _⟩ := headW_some hu
  exact ht.unlike (frame_lt _ (headB_lt _ _ _ _)) ((frame_sum _ (headB_lt _ _ _ _)).trans ((frame_sum _ (headB_lt _ _ _ _)).symm.trans (by rw [← he])))
theorem page_zero_sum (k : Nat) (h1 : 1 ≤ k) (h5 : k ≤ 5) : M 0 ([80, 80, 65, 71, k] ++ List.replicate 247 0) ≠ 0 := by
  obtain rfl | rfl | rfl | rfl | rfl : k = 1 ∨ k = 2 ∨ k = 3 ∨ k = 4 ∨ k = 5 := by omega
  all_goals decide +kernel
theorem page_unlike {nu ki : Int} {body l ys : List Nat} {bit c : Nat} (h : pageW nu ki body = some l) (ht : Turned l bit c 32 ys true) (ho : Outside l bit ys) (other : Int) : pageR ys other = none := by
  obtain ⟨hl, hok⟩ := pageW_some h
  obtain ⟨⟨k1, k5⟩, ⟨n0, n1⟩, hb, hlt⟩ := pageOk_iff hok
  have hne : ys ≠ zeros := by
    rintro rfl
    have h80 : l.getD 0 0 = 80 := (page_fields h).2.2.2
    have hz : ∀ j, zeros.getD j 0 = 0 := fun j => by
      rw [zeros, List.getD_eq_getElem?_getD, List.getElem?_replicate]
      split <;> rfl
    have hbit : bit / 8 = 0 := by
      rcases Nat.eq_zero_or_pos (bit / 8) with h0 | h0
      · exact h0
      · have := ho 0 (by omega)
        rw [hz, h80] at this
        omega
    have hall : ∀ j, 5 ≤ j → l.getD j 0 = 0 := fun j hj => by rw [← ho j (by omega), hz]
    obtain ⟨k, rfl⟩ := Int.eq_ofNat_of_zero_le (show 0 ≤ ki by omega)
    have hk5 : k ≤ 5 := by omega
    have hlen := pageB_len nu (k : Int) body hb
    have hfill : fill (pageB nu (k : Int) body) 252 = pageB nu (k : Int) body := fill_full _ _ (by omega)
    have hfr : l = pageB nu (k : Int) body ++ le4 (M 0 (pageB nu (k : Int) body)) := by rw [hl, frame, hfill]
    have hs0 : M 0 (pageB nu (k : Int) body) = 0 := by
      have hm := M_lt 0 (pageB nu (k : Int) body)
      generalize hM : M 0 (pageB nu (k : Int) body) = m at *
      have g : ∀ i, i < 4 → (le4 m).getD i 0 = 0 := fun i hi => by
        have := hall (252 + i) (by omega)
        rw [hfr, CodecMath.getD_right _ _ _ (by omega), hlen, show 252 + i - 252 = i from by omega] at this
        exact this
      have g0 : m % 256 = 0 := g 0 (by omega)
      have g1 : m / 256 % 256 = 0 := g 1 (by omega)
      have g2 : m / 65536 % 256 = 0 := g 2 (by omega)
      have g3 : m / 16777216 % 256 = 0 := g 3 (by omega)
      omega
    have hpg : pageB nu (k : Int) body = [80, 80, 65, 71, k] ++ List.replicate 247 0 := by
      refine List.ext_getElem (by rw [hlen, List.length_append, List.length_replicate]; rfl) (fun j h1 h2 => ?_)
      have e1 : (pageB nu (k : Int) body).getD j 0 = (pageB nu (k : Int) body)[j] := by rw [List.getD_eq_getElem?_getD, List.getElem?_eq_getElem h1]; rfl
      rw [← e1]
      by_cases hj : j < 5
      · have hke : be 1 k = [k] := by simp [be, Nat.mod_eq_of_lt (show k < 256 by omega)]
        have e2 : pageB nu (k : Int) body = [80, 80, 65, 71, k] ++ (be 4 nu.toNat ++ ([0, 0, 0] ++ body)) := by simp [pageB, hke]
        rw [e2, CodecMath.getD_left _ _ _ (by simpa using hj)]
        obtain rfl | rfl | rfl | rfl | rfl : j = 0 ∨ j = 1 ∨ j = 2 ∨ j = 3 ∨ j = 4 := by omega
        all_goals rfl
      · have := hall j (by omega)
        rw [hfr, CodecMath.getD_left _ _ _ h1] at this
        rw [this, List.getElem_append_right (by simpa using hj), List.getElem_replicate]
    rw [hpg] at hs0
    exact page_zero_sum k (by omega) hk5 hs0
  rw [pageR, if_neg hne, if_neg (fun hu => ?_)]
  obtain ⟨he, hok'⟩ := pageW_some hu
  subst hl
  have hlt' := (pageOk_iff hok').2.2.2
  exact ht.unlike (frame_lt _ (pageB_lt _ _ _ hlt)) ((frame_sum _ (pageB_lt _ _ _ hlt)).trans ((frame_sum _ (pageB_lt _ _ _ hlt')).symm.trans (by rw [← he])))
end Go.Proofs.YteaokeiolgjhaaaGreat.Codec
/- Superblocks that were saved one behind the other on a plain disk, in plain words: what is loaded; what is loaded when the last one is spoilt. No program is named. -/
namespace Go.Proofs.YteaokeiolgjhaaaGreat.Sup
open Go.RowKit CrcMath CodecMath Codec DiskSpec Dsk

/-! ### One byte is changed -/
theorem set_getD_same (l : List Nat) (q : Nat) : l.set q (l.getD q 0 ^^^ 0) = l := by
  rw [Nat.xor_zero]
  apply List.ext_getElem?
  intro i
  rw [List.getElem?_set]
  split
  · rename_i h
    subst h
    split
    · rename_i h2
      rw [List.getD_eq_getElem?_getD, List.getElem?_eq_getElem h2]
      rfl
    · rename_i h2
      rw [List.getElem?_eq_none (by omega)]
  · rfl
theorem turned_byte (l : List Nat) (hl : ∀ x ∈ l, x < 256) (q m : Nat) (hq : q < l.length) : ∀ k, k ≤ 8 → ∃ t, Turned l (8 * q) m k (l.set q (l.getD q 0 ^^^ (m % 2 ^ k))) t := by
  intro k
  induction k with
  | zero =>
    intro _
    refine ⟨false, ?_⟩
    rw [Nat.pow_zero, Nat.mod_one, set_getD_same]
    exact Turned.start l (8 * q) m hl
  | succ k ih =>
    intro hk
    obtain ⟨t, ht⟩ := ih (by omega)
    rw [mod_succ_bit]
    by_cases hb : m / 2 ^ k % 2 = 1
    · rw [if_pos hb]
      refine ⟨true, ?_⟩
      have h1 := ht.turn (by omega) hb
      rw [show (8 * q + k) / 8 = q from by omega, show (8 * q + k) % 8 = k from by omega] at h1
      rw [List.set_set] at h1
      have h2 : (l.set q (l.getD q 0 ^^^ (m % 2 ^ k))).getD q 0 = l.getD q 0 ^^^ (m % 2 ^ k) := by
        rw [List.getD_eq_getElem?_getD, List.getElem?_set_self (by omega)]
        rfl
      rw [h2, Nat.xor_assoc] at h1
      exact h1
    · rw [if_neg hb]
      exact ⟨t, ht.same hb⟩
theorem turned_more {l ys : List Nat} {bit m : Nat} (hm : m < 256) {t : Bool} (h : Turned l bit m 8 ys t) : ∀ k, Turned l bit m (8 + k) ys t := by
  intro k
  induction k with
  | zero => exact h
  | succ k ih =>
    refine ih.same ?_
    have : m / 2 ^ (8 + k) = 0 := Nat.div_eq_of_lt (Nat.lt_of_lt_of_le hm (by
      have : 2 ^ 8 ≤ 2 ^ (8 + k) := Nat.pow_le_pow_right (by omega) (by omega)
      omega))
    rw [this]
    simp
/-- A superblock's sector in which a byte was changed is none. -/
theorem byte_spoils {s : List Int} {l : List Nat} (h : superW s = some l) (hs : s.length = 7) (q m : Nat) (hq : q < 256) (hm : m < 256) (h0 : m ≠ 0) : superR (l.set q (l.getD q 0 ^^^ m)) = none := by
  have hlen := superW_len hs h
  have hlt : ∀ x ∈ l, x < 256 := by
    obtain ⟨rfl, _⟩ := superW_some h
    exact frame_lt _ (superB_lt s)
  obtain ⟨t, ht⟩ := turned_byte l hlt q m (by omega) 8 (Nat.le_refl _)
  rw [show m % 2 ^ 8 = m from Nat.mod_eq_of_lt hm] at ht
  have h32 := turned_more hm ht 24
  rw [show 8 + 24 = 32 from rfl] at h32
  have htt : t = true := by
    refine h32.2.2.2.2 ?_
    show m % 2 ^ (min 32 (8 * l.length - 8 * q)) ≠ 0
    have h8 : 2 ^ 8 ≤ 2 ^ (min 32 (8 * l.length - 8 * q)) := Nat.pow_le_pow_right (by omega) (by omega)
    rw [Nat.mod_eq_of_lt (by omega)]
    exact h0
  subst htt
  exact super_unlike h h32

/-! ### One behind the other -/
/-- What a plain disk of n sectors holds when L was saved, the first with the number g. -/
structure Hist (n : Nat) (dur : Nat → List Nat) (g : Int) (L : List (List Int)) : Prop where
  g0 : 0 ≤ g
  each : ∀ i s, L[i]? = some s → s.length = 7 ∧ mayB s n = true ∧ gen s = g + (i : Nat)
  h0 : L.length = 0 → dur 0 = DiskSpec.zeros ∧ dur 1 = DiskSpec.zeros
  h1 : ∀ s, L[L.length - 1]? = some s → dur (placeOf s) = frame (superB s)
  h2 : 2 ≤ L.length → ∀ s, L[L.length - 2]? = some s → dur (placeOf s) = frame (superB s)
  hz : L.length = 1 → ∀ s, L[0]? = some s → dur (1 - placeOf s) = DiskSpec.zeros
theorem Hist.start (n : Nat) {g : Int} (hg : 0 ≤ g) : Hist n (fun _ => DiskSpec.zeros) g [] :=
  ⟨hg, fun i s h => by simp at h, fun _ => ⟨rfl, rfl⟩, fun s h => by simp at h, fun h => by simp at h, fun h => by simp at h⟩
theorem place_of_gen {s : List Int} (h : 0 ≤ gen s) : (placeOf s : Int) = gen s % 2 := by
  unfold placeOf
  rw [Int.tmod_eq_emod_of_nonneg h]
  omega
theorem Hist.save {n : Nat} {dur : Nat → List Nat} {g : Int} {L : List (List Int)} {s : List Int} (h : Hist n dur g L) (hl : s.length = 7) (hm : mayB s n = true) (hg : gen s = g + (L.length : Nat)) :
    Hist n (upd dur (placeOf s) (frame (superB s))) g (L ++ [s]) := by
  have hp := place_of_gen (s := s) (by have := h.g0; omega)
  refine ⟨h.g0, fun i u hi => ?_, fun h => by simp at h, fun u hu => ?_, fun h2 u hu => ?_, fun h1 u hu => ?_⟩
  · rcases Nat.lt_or_ge i L.length with hlt | hge
    · rw [List.getElem?_append_left hlt] at hi; exact h.each i u hi
    · rw [List.getElem?_append_right hge] at hi
      have h3 := (List.getElem?_eq_some_iff.1 hi).1
      have h4 : i = L.length := by simp at h3; omega
      subst h4
      simp at hi
      subst hi
      exact ⟨hl, hm, hg⟩
  · simp at hu
    subst hu
    exact upd_same _ _ _
  · have e : (L ++ [s]).length - 2 = L.length - 1 := by simp
    rw [e, List.getElem?_append_left (by simp at h2; omega)] at hu
    have h3 := h.each _ u hu
    have hp' := place_of_gen (s := u) (by have := h.g0; omega)
    simp at h2
    rw [upd_ne _ _ (by omega)]
    exact h.h1 u hu
  · simp at h1
    subst h1
    simp at hu
    subst hu
    rw [upd_ne _ _ (by omega)]
    obtain ⟨z0, z1⟩ := h.h0 rfl
    rcases (by omega : 1 - placeOf s = 0 ∨ 1 - placeOf s = 1) with e | e
    · rw [e]; exact z0
    · rw [e]; exact z1
/-- One place holds s: what is loaded. -/
theorem best_at {n : Nat} {dur : Nat → List Nat} {s : List Int} (hl : s.length = 7) (hm : mayB s n = true) (hd : dur (placeOf s) = frame (superB s)) (ho : ∀ p, sound n ((1 - placeOf s : Nat) : Int) (dur (1 - placeOf s)) = some p → gen p < gen s) : bestP n dur = some s := by
  have hg := may_gen hl hm
  obtain ⟨hp, hp2⟩ := place_is hg.1
  have hs := sound_of (n := n) (i := (placeOf s : Int)) hl hm hp
  unfold bestP bestOf
  rcases (by omega : placeOf s = 0 ∨ placeOf s = 1) with e | e
  · rw [e] at hd hs ho
    rw [hd, show sound n 0 (frame (superB s)) = some s from hs]
    cases ho' : sound n 1 (dur 1) with
    | none => rfl
    | some p =>
      have := ho p ho'
      show (if gen s < gen p then some p else some s) = some s
      rw [if_neg (by omega)]
  · rw [e] at hd hs ho
    rw [hd, show sound n 1 (frame (superB s)) = some s from hs]
    cases ho' : sound n 0 (dur 0) with
    | none => rfl
    | some p =>
      have := ho p ho'
      show (if gen p < gen s then some s else some p) = some s
      rw [if_pos this]
/-- One place holds none: what is loaded. -/
theorem best_other {n : Nat} {dur : Nat → List Nat} {a : Nat} (ha : a < 2) (hd : superR (dur a) = none) : bestP n dur = sound n ((1 - a : Nat) : Int) (dur (1 - a)) := by
  unfold bestP bestOf
  rcases (by omega : a = 0 ∨ a = 1) with e | e
  · subst e
    rw [sound_no hd]
    show newer none (sound n 1 (dur 1)) = sound n 1 (dur 1)
    cases sound n 1 (dur 1) <;> rfl
  · subst e
    rw [sound_no hd]
    show newer (sound n 0 (dur 0)) none = sound n 0 (dur 0)
    cases sound n 0 (dur 0) <;> rfl
theorem Hist.none_ {n : Nat} {dur : Nat → List Nat} {g : Int} {L : List (List Int)} (h : Hist n dur g L) (h0 : L.length = 0) : bestP n dur = none := by
  obtain ⟨z0, z1⟩ := h.h0 h0
  unfold bestP bestOf
  rw [z0, z1, sound_no superR_zeros, sound_no superR_zeros]
  rfl
theorem Hist.prev {n : Nat} {dur : Nat → List Nat} {g : Int} {L : List (List Int)} (h : Hist n dur g L) {s : List Int} (hs : L[L.length - 1]? = some s) :
    (L.length = 1 → sound n ((1 - placeOf s : Nat) : Int) (dur (1 - placeOf s)) = none) ∧ (∀ p, 2 ≤ L.length → L[L.length - 2]? = some p → sound n ((1 - placeOf s : Nat) : Int) (dur (1 - placeOf s)) = some p ∧ gen p < gen s) := by
  have hlt : L.length - 1 < L.length := (List.getElem?_eq_some_iff.1 hs).1
  obtain ⟨e1, e2, e3⟩ := h.each _ s hs
  have hps := place_of_gen (s := s) (by have := h.g0; omega)
  refine ⟨fun h1 => ?_, fun p h2 hp => ?_⟩
  · have := h.hz h1 s (by rw [h1] at hs; exact hs)
    rw [this]
    exact sound_no superR_zeros
  · obtain ⟨f1, f2, f3⟩ := h.each _ p hp
    have hpp := place_of_gen (s := p) (by have := h.g0; omega)
    have hpl : 1 - placeOf s = placeOf p := by omega
    have hd := h.h2 h2 p hp
    obtain ⟨hpi, _⟩ := place_is (may_gen f1 f2).1
    rw [hpl, hd]
    exact ⟨sound_of f1 f2 hpi, by omega⟩
theorem Hist.last {n : Nat} {dur : Nat → List Nat} {g : Int} {L : List (List Int)} (h : Hist n dur g L) {s : List Int} (hs : L[L.length - 1]? = some s) : bestP n dur = some s := by
  have hlt : L.length - 1 < L.length := (List.getElem?_eq_some_iff.1 hs).1
  obtain ⟨e1, e2, e3⟩ := h.each _ s hs
  obtain ⟨p1, p2⟩ := h.prev hs
  refine best_at e1 e2 (h.h1 s hs) fun p hp => ?_
  rcases (by omega : L.length = 1 ∨ 2 ≤ L.length) with h1 | h2
  · rw [p1 h1] at hp; cases hp
  · have hq : L[L.length - 2]? = some (L[L.length - 2]'(by omega)) := List.getElem?_eq_getElem (by omega)
    obtain ⟨a, b⟩ := p2 _ h2 hq
    rw [a] at hp
    cases hp
    exact b
/-- The last one's sector is spoilt: the one ahead of it. -/
theorem Hist.spoilt {n : Nat} {dur : Nat → List Nat} {g : Int} {L : List (List Int)} (h : Hist n dur g L) {s : List Int} (hs : L[L.length - 1]? = some s) {y : List Nat} (hy : superR y = none) :
    (L.length = 1 → bestP n (upd dur (placeOf s) y) = none) ∧ (∀ p, 2 ≤ L.length → L[L.length - 2]? = some p → bestP n (upd dur (placeOf s) y) = some p) := by
  have hlt : L.length - 1 < L.length := (List.getElem?_eq_some_iff.1 hs).1
  obtain ⟨e1, e2, e3⟩ := h.each _ s hs
  obtain ⟨_, hp2⟩ := place_is (may_gen e1 e2).1
  obtain ⟨p1, p2⟩ := h.prev hs
  have hb := best_other (n := n) (dur := upd dur (placeOf s) y) hp2 (by rw [upd_same]; exact hy)
  rw [upd_ne _ _ (by omega)] at hb
  exact ⟨fun h1 => by rw [hb]; exact p1 h1, fun p h2 hp => by rw [hb]; exact (p2 p h2 hp).1⟩
end Go.Proofs.YteaokeiolgjhaaaGreat.Sup
/- A store on a disk that does not fail, in plain words: what its disk holds, and what each call leaves of it. No program is named. -/
namespace Go.Proofs.YteaokeiolgjhaaaGreat.Sto
open Go.RowKit CrcMath CodecMath Codec DiskSpec Dsk Sup Log

/-! ### A disk that does not fail -/
structure Quiet6 (S : St) : Prop where
  c : Log.Calm S
  f3 : S.f3 = 0
theorem quiet_plain (n : Nat) (dur : Nat → List Nat) : Quiet6 (plain n dur) := ⟨⟨rfl, rfl, rfl⟩, rfl⟩
theorem write_one {S : St} (h : Log.Calm S) {a : Nat} (ha : a < S.n) {l : List Nat} (hl : l.length = 256) : writeE S false (a : Nat) l = (0, S.add a l) := by
  obtain ⟨n, dur, ver, f1, f2, f3, left⟩ := S
  obtain ⟨h1, h2, h3⟩ := h
  simp only at h1 h2 h3 ha
  subst h1 h2 h3
  unfold writeE
  rw [if_neg (by omega), hl]
  rw [if_neg (by simp [St.has]; omega), if_neg (by simp)]
  have hsec : sec l 0 = l := by
    show (l.drop (256 * 0)).take 256 = l
    rw [Nat.mul_zero, List.drop_zero, List.take_of_length_le (by omega)]
  show (0, St.done (St.add _ (a + 0) (sec l 0))) = _
  rw [hsec, Nat.add_zero]
  rfl
theorem flush_quiet {S : St} (h : Quiet6 S) : flushE S = (0, S.flush) := by
  obtain ⟨n, dur, ver, f1, f2, f3, left⟩ := S
  obtain ⟨⟨h1, h2, h3⟩, h4⟩ := h
  simp only at h1 h2 h3 h4
  subst h1 h2 h3 h4
  rfl
theorem Quiet6.flush {S : St} (h : Quiet6 S) : Quiet6 S.flush := ⟨⟨h.c.f1, h.c.f2, h.c.left⟩, h.f3⟩
theorem Quiet6.add {S : St} (h : Quiet6 S) (a : Nat) (l : List Nat) : Quiet6 (S.add a l) := ⟨⟨h.c.f1, h.c.f2, h.c.left⟩, h.f3⟩
theorem flush_plain {S : St} (h : Quiet6 S) : S.flush = plain S.n S.now := by
  obtain ⟨n, dur, ver, f1, f2, f3, left⟩ := S
  obtain ⟨⟨h1, h2, h3⟩, h4⟩ := h
  simp only at h1 h2 h3 h4
  subst h1 h2 h3 h4
  rfl
theorem crash_quiet (S : St) (picks : List Int) : Quiet6 (S.crash picks) := ⟨⟨rfl, rfl, rfl⟩, rfl⟩
/-- A sector that is durable at once. -/
def St.sup (S : St) (a : Nat) (l : List Nat) : St := { S with dur := upd S.dur a l }
theorem save_quiet {S : St} (h : Quiet6 S) {s : List Int} (hl : s.length = 7) (hm : mayB s S.n = true) (hv : S.ver (placeOf s) = []) : saveE S s = (0, St.sup S (placeOf s) (frame (superB s))) := by
  have hg := may_gen hl hm
  obtain ⟨hp, hp2⟩ := place_is hg.1
  have hn := may_n hl hm
  have hlen := superW_len hl (superW_may hm)
  unfold saveE
  rw [hm, if_pos rfl, hp]
  generalize frame (superB s) = l at *
  generalize placeOf s = a at *
  obtain ⟨n, dur, ver, f1, f2, f3, left⟩ := S
  obtain ⟨⟨h1, h2, h3⟩, h4⟩ := h
  simp only at h1 h2 h3 h4 hv hn
  subst h1 h2 h3 h4
  unfold writeE
  rw [if_neg (by omega), hlen]
  rw [if_neg (by simp [St.has]; omega), if_neg (by simp)]
  have hsec : sec l 0 = l := by
    show (l.drop (256 * 0)).take 256 = l
    rw [Nat.mul_zero, List.drop_zero, List.take_of_length_le (by omega)]
  show (0, St.done (St.settle (St.add _ (a + 0) (sec l 0)) (a + 0))) = _
  rw [hsec, Nat.add_zero]
  congr 1
  have e1 : upd (upd ver a (ver a ++ [l])) a [] = ver := by
    funext i; unfold upd; split
    · rename_i e; subst e; exact hv.symm
    · rfl
  have e2 : St.now { n := n, dur := dur, ver := upd ver a (ver a ++ [l]), f1 := 0, f2 := 0 - 1, f3 := 0, left := -1 } a = l := by simp [St.now, upd]
  show ({ n := n, dur := upd dur a (St.now { n := n, dur := dur, ver := upd ver a (ver a ++ [l]), f1 := 0, f2 := 0 - 1, f3 := 0, left := -1 } a), ver := upd (upd ver a (ver a ++ [l])) a [], f1 := 0, f2 := 0 - 1, f3 := 0, left := tick (-1) } : St) = _
  rw [e1, e2]
  rfl
theorem Quiet6.sup {S : St} (h : Quiet6 S) (a : Nat) (l : List Nat) : Quiet6 (St.sup S a l) := ⟨⟨h.c.f1, h.c.f2, h.c.left⟩, h.f3⟩
theorem putE_f3 (S : St) (L : Lg) (l : List Nat) : (putE S L l).2.f3 = S.f3 := by
  have hw : ∀ (S : St) (a : Int) (l : List Nat), (writeE S false a l).2.f3 = S.f3 := fun S a l => by
    unfold writeE
    split
    · rfl
    · split
      · rfl
      · split
        · rfl
        · exact (puts_rest _ _ _ _).2.2.2.2.1
  unfold putE
  split
  · exact hw _ _ _
  · split
    · exact hw _ _ _
    · rw [hw, hw]
theorem appendE_f3 (S : St) (L : Lg) (l : List Img) : (appendE S L l).2.1.f3 = S.f3 := by
  unfold appendE
  split
  · rfl
  · split
    · rfl
    · split
      · rfl
      · split <;> exact putE_f3 _ _ _

/-! ### Pages at home -/
/-- A page's sector. -/
def pgF (k : Nat) (q : Pg) : List Nat := frame (pageB (k : Int) q.1 q.2)
def HomeOk (k : Nat) (c : List Nat) : Prop := c = DiskSpec.zeros ∨ ∃ q : Pg, pageOk (k : Int) q.1 q.2 = true ∧ c = pgF k q
theorem pgF_len {k : Nat} {q : Pg} (h : pageOk (k : Int) q.1 q.2 = true) : (pgF k q).length = 256 := frame_length _ (by rw [pageB_len _ _ _ (pageOk_iff h).2.2.1]; omega)
/-- Pages are added to their homes. -/
def addH (D : Pgs) : St → List Nat → St
  | S, [] => S
  | S, k :: r => addH D (S.add (2 + k) (pgF k ((D k).getD (0, [])))) r
theorem homes_quiet {D : Pgs} (hD : PgsOk D) : ∀ {ks : List Nat} {S : St}, Log.Calm S → (∀ k ∈ ks, 2 + k < S.n ∧ (D k).isSome = true) → homesE S (ks.map fun k => imgOf k ((D k).getD (0, []))) = (0, addH D S ks)
  | [], S, _, _ => rfl
  | k :: r, S, hc, h => by
    obtain ⟨h1, h2⟩ := h k (List.mem_cons_self ..)
    obtain ⟨q, hq⟩ := Option.isSome_iff_exists.1 h2
    have hw : homeE S (imgOf k ((D k).getD (0, []))) = (0, S.add (2 + k) (pgF k ((D k).getD (0, [])))) := by
      show writeE S false (2 + (k : Int)) (pgF k ((D k).getD (0, []))) = _
      rw [show (2 : Int) + (k : Int) = ((2 + k : Nat) : Int) by omega]
      exact write_one hc h1 (by rw [hq]; exact pgF_len (hD k q hq))
    show (if (homeE S (imgOf k ((D k).getD (0, [])))).1 = 0 then homesE (homeE S (imgOf k ((D k).getD (0, [])))).2 _ else _) = (0, addH D S (k :: r))
    rw [hw, if_pos rfl]
    exact homes_quiet hD ⟨hc.f1, hc.f2, hc.left⟩ (fun j hj => h j (List.mem_cons_of_mem _ hj))
theorem addH_quiet {D : Pgs} : ∀ {ks : List Nat} {S : St}, Quiet6 S → Quiet6 (addH D S ks)
  | [], _, h => h
  | k :: r, S, h => addH_quiet (ks := r) (S := S.add (2 + k) (pgF k ((D k).getD (0, [])))) (h.add _ _)
theorem addH_n {D : Pgs} : ∀ {ks : List Nat} {S : St}, (addH D S ks).n = S.n ∧ (addH D S ks).dur = S.dur
  | [], _ => ⟨rfl, rfl⟩
  | k :: r, S => addH_n (ks := r) (S := S.add (2 + k) (pgF k ((D k).getD (0, []))))
theorem addH_far {D : Pgs} : ∀ {ks : List Nat} {S : St} {p : Nat}, (∀ k ∈ ks, p ≠ 2 + k) → (addH D S ks).ver p = S.ver p
  | [], _, _, _ => rfl
  | k :: r, S, p, h => by
    show (addH D (S.add (2 + k) _) r).ver p = _
    rw [addH_far (fun j hj => h j (List.mem_cons_of_mem _ hj))]
    exact upd_ne _ _ (h k (List.mem_cons_self ..))
theorem add_now (S : St) (a : Nat) (l : List Nat) : (S.add a l).now a = l := by simp [St.now, St.add, upd]
theorem addH_now {D : Pgs} : ∀ {ks : List Nat} {S : St} {k : Nat}, k ∈ ks → (addH D S ks).now (2 + k) = pgF k ((D k).getD (0, []))
  | j :: r, S, k, h => by
    show (addH D (S.add (2 + j) _) r).now (2 + k) = _
    by_cases hr : k ∈ r
    · exact addH_now hr
    · have hj : k = j := by
        rcases List.mem_cons.1 h with h | h
        · exact h
        · exact absurd h hr
      subst hj
      have e : (addH D (S.add (2 + k) (pgF k ((D k).getD (0, [])))) r).now (2 + k) = (S.add (2 + k) (pgF k ((D k).getD (0, [])))).now (2 + k) := now_far addH_n.2 (addH_far (fun i hi e => hr (by rw [show k = i by omega]; exact hi)))
      rw [e, add_now]
theorem addH_cand {D : Pgs} : ∀ {ks : List Nat} {S : St} {p : Nat} {c : List Nat}, Cand (addH D S ks) p c → Cand S p c ∨ ∃ k, k ∈ ks ∧ p = 2 + k ∧ c = pgF k ((D k).getD (0, []))
  | [], _, _, _, h => .inl h
  | k :: r, S, p, c, h => by
    rcases addH_cand (ks := r) h with h | ⟨j, hj, h1, h2⟩
    · by_cases e : p = 2 + k
      · subst e
        rcases cand_at (S := S) (T := S.add (2 + k) (pgF k ((D k).getD (0, [])))) rfl (upd_same _ _ _) h with h | h
        · exact .inl h
        · exact .inr ⟨k, List.mem_cons_self .., rfl, h⟩
      · exact .inl (cand_far (S := S) (T := S.add (2 + k) (pgF k ((D k).getD (0, [])))) rfl (upd_ne _ _ e) h)
    · exact .inr ⟨j, List.mem_cons_of_mem _ hj, h1, h2⟩

/-! ### What a disk holds -/
structure DiskG (N pg ep : Nat) (S : St) : Prop where
  n : S.n = N
  q : Quiet6 S
  v0 : S.ver 0 = []
  v1 : S.ver 1 = []
  homes : ∀ k, k < pg → ∀ c, Cand S (2 + k) c → HomeOk k c
  far : ∀ i, 2 + pg ≤ i → ∀ c, Cand S i c → Old (ep + 1) 0 c
theorem DiskG.vp {N pg ep : Nat} {S : St} (h : DiskG N pg ep S) (s : List Int) (hs : 0 ≤ gen s) : S.ver (placeOf s) = [] := by
  obtain ⟨_, h2⟩ := place_is hs
  rcases (by omega : placeOf s = 0 ∨ placeOf s = 1) with e | e
  · rw [e]; exact h.v0
  · rw [e]; exact h.v1
theorem DiskG.flush {N pg ep : Nat} {S : St} (h : DiskG N pg ep S) : DiskG N pg ep S.flush :=
  ⟨h.n, h.q.flush, rfl, rfl, fun k hk c hc => by rw [cand_flushed (S := S) rfl (fun _ => rfl) hc]; exact h.homes k hk _ (cand_now S _), fun i hi c hc => by rw [cand_flushed (S := S) rfl (fun _ => rfl) hc]; exact h.far i hi _ (cand_now S _)⟩
theorem DiskG.crash {N pg ep : Nat} {S : St} (h : DiskG N pg ep S) (picks : List Int) : DiskG N pg ep (S.crash picks) := by
  have hc : ∀ p c, Cand (S.crash picks) p c → Cand S p c := fun p c hc => by
    have : c = (S.crash picks).now p := by
      rcases hc with hc | hc
      · exact hc
      · cases hc
    rw [this]; exact cand_crash S picks p
  exact ⟨h.n, crash_quiet S picks, rfl, rfl, fun k hk c hcc => h.homes k hk c (hc _ _ hcc), fun i hi c hcc => h.far i hi c (hc _ _ hcc)⟩
theorem DiskG.later {N pg ep : Nat} {S : St} (h : DiskG N pg ep S) : DiskG N pg (ep + 1) S :=
  ⟨h.n, h.q, h.v0, h.v1, h.homes, fun i hi c hc => (h.far i hi c hc).more (.inl (by omega))⟩
theorem cand_sup {S : St} {a p : Nat} {l c : List Nat} (hp : p ≠ a) (h : Cand (St.sup S a l) p c) : Cand S p c := by
  unfold Cand at *
  have e : (St.sup S a l).dur p = S.dur p := upd_ne _ _ hp
  rw [e] at h
  exact h
theorem now_sup {S : St} {a p : Nat} {l : List Nat} (hp : p ≠ a) : (St.sup S a l).now p = S.now p := by
  unfold St.now
  have e : (St.sup S a l).dur p = S.dur p := upd_ne _ _ hp
  rw [e]; rfl
theorem DiskG.sup {N pg ep : Nat} {S : St} (h : DiskG N pg ep S) {a : Nat} (ha : a < 2) (l : List Nat) : DiskG N pg ep (St.sup S a l) :=
  ⟨h.n, h.q.sup a l, h.v0, h.v1, fun k hk c hc => h.homes k hk c (cand_sup (by omega) hc), fun i hi c hc => h.far i hi c (cand_sup (by omega) hc)⟩
theorem DiskG.addH {N pg ep : Nat} {S : St} (h : DiskG N pg ep S) {D : Pgs} (hD : PgsOk D) {ks : List Nat} (hk : ∀ k ∈ ks, k < pg ∧ (D k).isSome = true) : DiskG N pg ep (addH D S ks) := by
  refine ⟨addH_n.1.trans h.n, addH_quiet h.q, (addH_far (fun k _ => by omega)).trans h.v0, (addH_far (fun k _ => by omega)).trans h.v1, fun k hkp c hc => ?_, fun i hi c hc => ?_⟩
  · rcases addH_cand hc with hc | ⟨j, hj, h1, h2⟩
    · exact h.homes k hkp c hc
    · obtain rfl : k = j := by omega
      obtain ⟨q, hq⟩ := Option.isSome_iff_exists.1 (hk k hj).2
      rw [hq] at h2
      exact .inr ⟨q, hD k q hq, h2⟩
  · rcases addH_cand hc with hc | ⟨j, hj, h1, h2⟩
    · exact h.far i hi c hc
    · have := (hk j hj).1; omega
/-- A record that is put behind the log's tail. -/
theorem DiskG.put {N pg ep : Nat} {S T : St} (h : DiskG N pg ep S) {L : Lg} {l : List Img} (hp : Put S T L (recB L.ep L.seq l) (1 + l.length)) (hc : Log.Calm T) (h3 : T.f3 = S.f3) (hlo : 2 + pg ≤ L.st) (hep : L.ep = ep)
    (hok : ∀ x ∈ l, imgOk x = true) (h1 : 1 ≤ l.length) (h40 : l.length ≤ 40) (he : L.ep ≤ 4294967295) (hs : L.seq ≤ 1099511627775) : DiskG N pg ep T := by
  have hsec : ∀ i, 2 + pg ≤ L.sec i := fun i => by unfold Lg.sec; omega
  refine ⟨hp.n.trans h.n, ⟨hc, h3.trans h.q.f3⟩, (hp.far 0 (fun i _ e => by have := hsec i; omega)).trans h.v0, (hp.far 1 (fun i _ e => by have := hsec i; omega)).trans h.v1, fun k hkp c hcc => ?_, fun i hi c hcc => ?_⟩
  · exact h.homes k hkp c (cand_far hp.dur (hp.far _ (fun i _ e => by have := hsec i; omega)) hcc)
  · by_cases hx : ∃ j, j < 1 + l.length ∧ i = L.sec j
    · obtain ⟨j, hj, rfl⟩ := hx
      rcases cand_at hp.dur (hp.at_ j hj) hcc with hcc | hcc
      · exact h.far _ hi c hcc
      · subst hcc hep
        exact (old_rec hok h1 h40 he hs hj).more (.inl (by omega))
    · exact h.far i hi c (cand_far hp.dur (hp.far i (fun j hj e => hx ⟨j, hj, e⟩)) hcc)
/-! ### Superblocks -/
/-- The superblock that is loaded. -/
structure SupG (N : Nat) (S : St) (s : List Int) : Prop where
  len : s.length = 7
  may : mayB s N = true
  at_ : S.dur (placeOf s) = frame (superB s)
  less : ∀ p, sound N ((1 - placeOf s : Nat) : Int) (S.dur (1 - placeOf s)) = some p → gen p < gen s
theorem SupG.same {N : Nat} {S T : St} {s : List Int} (h : SupG N S s) (h0 : T.dur 0 = S.dur 0) (h1 : T.dur 1 = S.dur 1) : SupG N T s := by
  obtain ⟨_, h2⟩ := place_is (may_gen h.len h.may).1
  refine ⟨h.len, h.may, ?_, fun p hp => h.less p ?_⟩
  · rcases (by omega : placeOf s = 0 ∨ placeOf s = 1) with e | e
    · rw [e, h0, ← h.at_, e]
    · rw [e, h1, ← h.at_, e]
  · rw [← hp]
    rcases (by omega : 1 - placeOf s = 0 ∨ 1 - placeOf s = 1) with e | e
    · rw [e, h0]
    · rw [e, h1]
theorem SupG.best {N : Nat} {S : St} {s : List Int} (h : SupG N S s) : bestP N S.dur = some s := best_at h.len h.may h.at_ h.less
theorem SupG.next {N : Nat} {S : St} {s t : List Int} (h : SupG N S s) (hl : t.length = 7) (hm : mayB t N = true) (hg : gen t = gen s + 1) : SupG N (St.sup S (placeOf t) (frame (superB t))) t := by
  have hs := may_gen h.len h.may
  obtain ⟨p1, p2⟩ := place_is hs.1
  obtain ⟨q1, q2⟩ := place_is (may_gen hl hm).1
  have e1 := place_of_gen hs.1
  have e2 := place_of_gen (may_gen hl hm).1
  have hne : 1 - placeOf t = placeOf s := by omega
  refine ⟨hl, hm, upd_same _ _ _, fun p hp => ?_⟩
  have hd : (St.sup S (placeOf t) (frame (superB t))).dur (1 - placeOf t) = S.dur (1 - placeOf t) := upd_ne _ _ (by omega)
  rw [hd, hne, h.at_, sound_of h.len h.may p1] at hp
  cases hp
  omega
end Go.Proofs.YteaokeiolgjhaaaGreat.Sto
/- A store on a disk that does not fail, in plain words: checkpoints and commits. No program is named. -/
namespace Go.Proofs.YteaokeiolgjhaaaGreat.Sto
open Go.RowKit CrcMath CodecMath Codec DiskSpec Dsk Sup Log

/-! ### Which superblocks may be -/
theorem may_facts {x : Sb} {N : Nat} (h : mayB x.l (N : Int) = true) : 16 ≤ x.pg ∧ x.pg ≤ 1024 ∧ 2 + x.pg ≤ x.st ∧ 64 ≤ x.ln ∧ x.st + x.ln ≤ N ∧ x.hd < x.ln ∧ x.gn ≤ 1099511627776 ∧ x.ep ≤ 1099511627776 ∧ x.sq ≤ 1099511627776 := by
  have ho := mayB_ok h
  have k0 := (superOk_at ho 0 (by simp [Sb.l])).2; have k1 := (superOk_at ho 1 (by simp [Sb.l])).2; have k6 := (superOk_at ho 6 (by simp [Sb.l])).2
  have hr : roomB x.l N = true := by
    unfold mayB at h
    rw [Bool.and_eq_true] at h
    exact h.2
  simp [Sb.l] at k0 k1 k6
  simp [roomB, Sb.l] at hr
  omega
theorem may_mk {x : Sb} {N : Nat} (h1 : 16 ≤ x.pg ∧ x.pg ≤ 1024) (h2 : 2 + x.pg ≤ x.st) (h3 : 64 ≤ x.ln) (h4 : x.st + x.ln ≤ N) (h5 : x.hd < x.ln) (h6 : x.gn ≤ 1099511627776 ∧ x.ep ≤ 1099511627776 ∧ x.sq ≤ 1099511627776) (hN : N ≤ 4096) : mayB x.l (N : Int) = true := by
  have hok : superOk x.l = true := superOk_yes _ 7 rfl (fun j hj => by
    have : j = 0 ∨ j = 1 ∨ j = 2 ∨ j = 3 ∨ j = 4 ∨ j = 5 ∨ j = 6 := by omega
    rcases this with rfl | rfl | rfl | rfl | rfl | rfl | rfl <;> (refine inB_mk ?_; simp [Sb.l]; omega))
  unfold mayB
  rw [hok]
  simp [roomB, Sb.l]
  omega
theorem gen_l (x : Sb) : gen x.l = (x.gn : Int) := rfl
/-! ### The ring, where only its sectors count -/
theorem ring_sub {S T : St} {B L : Lg} {ls : List (List Img)} {sure : Nat} (h : Ring S B ls none sure L) (h1 : ∀ o c, o < B.ln → Cand T (B.sec o) c → Cand S (B.sec o) c) (h2 : ∀ o, o < B.ln → T.now (B.sec o) = S.now (B.sec o)) : Ring T B ls none sure L :=
  have ha := h.all
  { h with
    now := fun o ho => (h2 o (by omega)).trans (h.now o ho)
    cand := fun o c ho hc => h.cand o c ho (h1 o c (by omega) hc)
    held := fun o c ho hc => h.held o c ho (h1 o c (by have := total_take ls sure; omega) hc)
    rest := fun o c ho ho2 hc => h.rest o c ho ho2 (h1 o c ho2 hc) }
theorem sec_ge (L : Lg) (o : Nat) : L.st ≤ L.sec o := by unfold Lg.sec; omega
theorem ring_flush {S : St} {B L : Lg} {ls : List (List Img)} {sure : Nat} (h : Ring S B ls none sure L) : Ring S.flush B ls none ls.length L := h.flush rfl (fun _ => rfl)
theorem ring_addH {S : St} {B L : Lg} {ls : List (List Img)} {sure pg : Nat} (h : Ring S B ls none sure L) (hst : 2 + pg ≤ B.st) {D : Pgs} {ks : List Nat} (hk : ∀ k ∈ ks, k < pg) : Ring (addH D S ks) B ls none sure L := by
  have hf : ∀ o, (addH D S ks).ver (B.sec o) = S.ver (B.sec o) := fun o => addH_far (fun k hk2 e => by have := hk k hk2; have := sec_ge B o; omega)
  exact ring_sub h (fun o c _ hc => cand_far addH_n.2 (hf o) hc) (fun o _ => now_far addH_n.2 (hf o))
theorem ring_sup {S : St} {B L : Lg} {ls : List (List Img)} {sure : Nat} (h : Ring S B ls none sure L) (hst : 2 ≤ B.st) {a : Nat} (ha : a < 2) (l : List Nat) : Ring (St.sup S a l) B ls none sure L :=
  ring_sub h (fun o c _ hc => cand_sup (by have := sec_ge B o; omega) hc) (fun o _ => now_sup (by have := sec_ge B o; omega))
/-! ### Rows of images -/
theorem mayW_nodup : ∀ {l : List Img} {seen : List Int}, (∀ x ∈ l, imgOk x = true) → (nos l).Nodup → (∀ x ∈ l, x.1 ∉ seen) → mayW seen l = true
  | [], _, _, _, _ => rfl
  | x :: r, seen, h1, h2, h3 => by
    have h2' : (x.1 :: nos r).Nodup := h2
    rw [List.nodup_cons] at h2'
    rw [mayW, h1 x (List.mem_cons_self ..), Bool.true_and, Bool.and_eq_true]
    refine ⟨?_, mayW_nodup (fun y hy => h1 y (List.mem_cons_of_mem _ hy)) h2'.2 (fun y hy e => ?_)⟩
    · have := h3 x (List.mem_cons_self ..)
      simpa using this
    · rcases List.mem_cons.1 e with e | e
      · exact h2'.1 (by rw [← e]; exact List.mem_map.2 ⟨y, hy, rfl⟩)
      · exact h3 y (List.mem_cons_of_mem _ hy) e
theorem nos_rising (U : Pgs) : nos (rising U) = (keys U).map fun k => ((k : Nat) : Int) := by
  unfold nos rising
  rw [List.map_map]; rfl
theorem rising_may {U : Pgs} (h : PgsOk U) : mayW [] (rising U) = true := by
  refine mayW_nodup (rising_ok h) ?_ (fun x _ => by simp)
  rw [nos_rising]
  have := keys_nodup U
  rw [List.Nodup, List.pairwise_map]
  exact this.imp (fun h e => h (by omega))
theorem rising_num {U : Pgs} {y : Img} (hy : y ∈ rising U) : ∃ k, y.1 = (k : Nat) ∧ (U k).isSome = true := by
  obtain ⟨k, hk, rfl⟩ := List.mem_map.1 hy
  exact ⟨k, rfl, (mem_keys.1 hk).2⟩
theorem putImgs_keys (U : Pgs) (j : Nat) : ∀ (ks : List Nat) (D : Pgs), putImgs D (ks.map fun k => imgOf k ((U k).getD (0, []))) j = if j ∈ ks then some ((U j).getD (0, [])) else D j
  | [], D => by simp [putImgs]
  | k :: r, D => by
    show putImgs (upd D ((k : Nat) : Int).toNat (some ((U k).getD (0, [])))) (r.map _) j = _
    rw [putImgs_keys U j r]
    have e : ((k : Nat) : Int).toNat = k := by omega
    rw [e]
    by_cases h1 : j ∈ r
    · rw [if_pos h1, if_pos (List.mem_cons_of_mem _ h1)]
    · rw [if_neg h1]
      by_cases h2 : j = k
      · subst h2
        rw [upd_same, if_pos (List.mem_cons_self ..)]
      · rw [upd_ne _ _ h2, if_neg (by simp [h1, h2])]
theorem putImgs_rising {D U : Pgs} (h : PgsOk U) : putImgs D (rising U) = over D U := by
  funext j
  have h1 : putImgs D (rising U) j = if j ∈ keys U then some ((U j).getD (0, [])) else D j := putImgs_keys U j (keys U) D
  rw [h1]
  unfold over
  cases hj : U j with
  | some q =>
    have : j ∈ keys U := mem_keys.2 ⟨h.lt hj, by rw [hj]; rfl⟩
    rw [if_pos this]; rfl
  | none =>
    have : j ∉ keys U := fun hm => by
      have := (mem_keys.1 hm).2
      rw [hj] at this; cases this
    rw [if_neg this]
theorem latest_snoc (q : Int) (ls : List (List Img)) (l : List Img) : latestOf (recsOf q (ls ++ [l])) = putImgs (latestOf (recsOf q ls)) l := by
  rw [recsOf_snoc]
  unfold latestOf
  rw [List.foldl_append]
  rfl

theorem over_some {D U : Pgs} {k : Nat} (h : (over D U k).isSome = true) : (U k).isSome = true ∨ (D k).isSome = true := by
  unfold over at h
  cases hu : U k with
  | some q => exact .inl rfl
  | none => rw [hu] at h; exact .inr h
theorem over_keys {D U : Pgs} (h : keys U ≠ []) : keys (over D U) ≠ [] := fun hx => by
  obtain ⟨k, hk⟩ : ∃ k, k ∈ keys U := by
    cases hku : keys U with
    | nil => exact absurd hku h
    | cons a r => exact ⟨a, List.mem_cons_self ..⟩
  have h2 := mem_keys.1 hk
  have : k ∈ keys (over D U) := mem_keys.2 ⟨h2.1, by
    unfold over
    obtain ⟨q, hq⟩ := Option.isSome_iff_exists.1 h2.2
    rw [hq]; rfl⟩
  rw [hx] at this
  cases this
/-! ### What a store is, on a disk that does not fail -/
/-- A transaction's pages. -/
structure UOk (pg : Nat) (U : Pgs) : Prop where
  ok : PgsOk U
  lt : ∀ k, (U k).isSome = true → k < pg
  most : (keys U).length ≤ 40
structure GoodS (N pg : Nat) (s : Sto) (ls : List (List Img)) (sure : Nat) : Prop where
  d : DiskG N pg s.x.ep s.S
  pgs : s.x.pg = pg
  top : N ≤ 4096
  sup : SupG N s.S s.x.l
  ring : Ring s.S s.x.log ls none sure s.L
  sound : s.L.broken = false
  ok : s.L.ok N
  dok : PgsOk s.D
  dlt : ∀ k, (s.D k).isSome = true → k < pg
  dls : s.D = latestOf (recsOf (s.x.sq : Int) ls)
  emp : keys s.D = [] → ls = []
  nums : ∀ l ∈ ls, ∀ y ∈ l, y.1 < (pg : Int)
  w : ∀ U, s.W = some U → UOk pg U
section
variable {N pg : Nat} {s : Sto} {ls : List (List Img)} {sure : Nat}
theorem GoodS.may (h : GoodS N pg s ls sure) : mayB s.x.l (N : Int) = true := h.sup.may
theorem GoodS.room (h : GoodS N pg s ls sure) : s.L.room = s.x.ln - total ls := by
  unfold Lg.room
  rw [h.sound, h.ring.ln, h.ring.taken]
  rfl
theorem GoodS.seq (h : GoodS N pg s ls sure) : s.L.seq = s.x.sq + ls.length := (h.ring.whole h.sound).1
theorem GoodS.idle (h : GoodS N pg s ls sure) : GoodS N pg s.idle ls sure := { h with w := fun U hU => by cases hU }
theorem GoodS.begun (h : GoodS N pg s ls sure) {U : Pgs} (hU : UOk pg U) : GoodS N pg { s with W := some U } ls sure := { h with w := fun V hV => by cases hV; exact hU }
/-- The disk is flushed. -/
theorem GoodS.flush (h : GoodS N pg s ls sure) : GoodS N pg { s with S := s.S.flush } ls ls.length :=
  { h with
    d := h.d.flush
    sup := h.sup.same (St.now_nil h.d.v0) (St.now_nil h.d.v1)
    ring := ring_flush h.ring }
/-- What is dirty is brought home. -/
theorem GoodS.home (h : GoodS N pg s ls sure) : bringE s.S s.D = (0, (addH s.D s.S (keys s.D)).flush) ∧ GoodS N pg { s with S := (addH s.D s.S (keys s.D)).flush } ls ls.length := by
  have hm := may_facts h.may
  have hp := h.pgs
  have hks : ∀ k ∈ keys s.D, k < pg ∧ (s.D k).isSome = true := fun k hk => ⟨h.dlt k (mem_keys.1 hk).2, (mem_keys.1 hk).2⟩
  have hd := h.d.addH h.dok hks
  have hq : Quiet6 (addH s.D s.S (keys s.D)) := addH_quiet h.d.q
  have e : homesE s.S (rising s.D) = (0, addH s.D s.S (keys s.D)) := homes_quiet h.dok h.d.q.c (fun k hk => ⟨by have := (hks k hk).1; have := h.d.n; omega, (hks k hk).2⟩)
  have hs := h.sup.same (T := addH s.D s.S (keys s.D)) (by rw [addH_n.2]) (by rw [addH_n.2])
  have hr := ring_addH (D := s.D) h.ring (show 2 + pg ≤ s.x.st by omega) (fun k hk => (hks k hk).1)
  generalize addH s.D s.S (keys s.D) = T at *
  have hg : GoodS N pg { s with S := T } ls sure := { h with d := hd, sup := hs, ring := hr }
  refine ⟨?_, hg.flush⟩
  have key : ∀ (T : St) (R : Int × St), R = (0, T) → (if R.1 = 0 then flushE R.2 else R) = flushE T := by rintro T R rfl; rfl
  unfold bringE
  exact (key _ _ e).trans (flush_quiet hq)
/-- What a checkpoint leaves. -/
theorem GoodS.ckpt (h : GoodS N pg s ls sure) (hgn : s.x.gn < 1099511627776) (hsq : s.L.seq ≤ 1099511627776) (hk : ¬ (keys s.D = [] ∧ 0 < s.L.room)) :
    ∃ T, ckptE s = (0, { s with S := T, L := s.L.drop, x := s.past, D := noPgs }) ∧ GoodS N pg { s with S := T, L := s.L.drop, x := s.past, D := noPgs } [] 0 ∧
      T.ver = (fun _ => []) ∧ ∀ k, k < pg → T.now (2 + k) = (match s.D k with | some q => pgF k q | none => s.S.now (2 + k)) := by
  have hm := may_facts h.may
  have hp := h.pgs
  have h1 := h.flush
  obtain ⟨e2, h2⟩ := h1.home
  dsimp only at e2 h2
  have hhome : ∀ k, k < pg → (addH s.D s.S.flush (keys s.D)).now (2 + k) = (match s.D k with | some q => pgF k q | none => s.S.now (2 + k)) := fun k hk2 => by
    cases hq : s.D k with
    | some q =>
      have hmk : k ∈ keys s.D := mem_keys.2 ⟨h.dok.lt hq, by rw [hq]; rfl⟩
      rw [addH_now hmk, hq]; rfl
    | none =>
      have hmk : k ∉ keys s.D := fun hx => by
        have := (mem_keys.1 hx).2
        rw [hq] at this; cases this
      exact (now_far (S := s.S.flush) addH_n.2 (addH_far (p := 2 + k) (fun j hj e => hmk (by rw [show k = j by omega]; exact hj)))).trans (St.now_nil (S := s.S.flush) rfl)
  generalize addH s.D s.S.flush (keys s.D) = T0 at *
  have htl := h.ok.tail
  have hln : s.L.ln = s.x.ln := h.ring.ln
  have hmay : mayB s.past.l (N : Int) = true := may_mk (x := s.past) ⟨hm.1, hm.2.1⟩ hm.2.2.1 hm.2.2.2.1 hm.2.2.2.2.1 (show s.L.tail < s.x.ln by omega) ⟨(show s.x.gn + 1 ≤ _ by omega), hm.2.2.2.2.2.2.2.1, hsq⟩ h.top
  have hg0 : 0 ≤ gen s.past.l := by rw [gen_l]; omega
  have hpl := (place_is hg0).2
  have e3 := save_quiet h2.d.q (s := s.past.l) rfl (by have := h2.d.n; rw [this]; exact hmay) rfl
  refine ⟨St.sup T0.flush (placeOf s.past.l) (frame (superB s.past.l)), ?_, ?_, rfl, fun k hk2 => ?_⟩
  · unfold ckptE
    rw [if_neg hk, if_neg (by omega), flush_quiet h.d.q, if_pos rfl]
    unfold ckBring
    rw [e2, if_pos rfl]
    unfold ckSave
    dsimp only
    rw [e3, if_pos rfl]
  · have hr := ring_sup h2.ring (show 2 ≤ s.x.st by omega) hpl (frame (superB s.past.l))
    exact {
      d := h2.d.sup hpl _
      pgs := h.pgs
      top := h.top
      sup := h2.sup.next rfl hmay (by rw [gen_l, gen_l]; show ((s.x.gn + 1 : Nat) : Int) = (s.x.gn : Int) + 1; omega)
      ring := hr.drop (fun _ _ hc => hc) (C := s.past.log) ⟨rfl, rfl, show s.L.tail < s.x.ln by omega⟩ rfl rfl rfl rfl rfl
      sound := rfl
      ok := ⟨h.ok.fit, h.ok.low, h.ok.tail, Nat.zero_le _, h.ok.ep, h.ok.seq⟩
      dok := PgsOk.none_
      dlt := fun k hk => by cases hk
      dls := rfl
      emp := fun _ => rfl
      nums := fun l hl => by cases hl
      w := h.w }
  · rw [now_sup (by omega)]
    exact hhome k hk2
/-- A record is put into the log. -/
theorem GoodS.log (h : GoodS N pg s ls sure) {U : Pgs} (hU : UOk pg U) (hne : keys U ≠ []) (he : s.x.ep ≤ 4294967295) (hs : s.L.seq ≤ 1099511627775) (hr : 1 + (keys U).length ≤ s.L.room) :
    ∃ T, logE s (rising U) = (0, { s with S := T, L := s.L.pass (1 + (keys U).length) }) ∧ GoodS N pg { s with S := T, L := s.L.pass (1 + (keys U).length), D := over s.D U } (ls ++ [rising U]) sure ∧ (∀ k, k < pg → T.now (2 + k) = s.S.now (2 + k)) ∧ ∀ i, (T.ver i).length ≤ (s.S.ver i).length + 1 := by
  have hm := may_facts h.may
  have hp := h.pgs
  have hlen := rising_len U
  have h1 : 1 ≤ (rising U).length := by
    rw [hlen]
    cases hku : keys U with
    | nil => exact absurd hku hne
    | cons a r => simp
  have hmw := rising_may hU.ok
  have hep : s.L.ep = s.x.ep := h.ring.ep
  have hst : s.L.st = s.x.st := h.ring.st
  have hok : s.L.ok s.S.n := by rw [h.d.n]; exact h.ok
  have h40 : (rising U).length ≤ 40 := by rw [hlen]; exact hU.most
  obtain ⟨T, e, hput, hcalm⟩ := append_calm h.d.q.c hok h40 h1 hmw (by rw [hlen]; omega)
  have hring := (h.ring.append hok (rising U)).2
  have hf3 := appendE_f3 s.S s.L (rising U)
  rw [e] at hring hf3
  dsimp only at hring hf3
  rcases hring with ⟨_, _, hring⟩ | ⟨hx, _⟩
  · rw [hlen] at e hring hput
    have hdg := h.d.put (by rw [hlen]; exact hput) hcalm hf3 (show 2 + pg ≤ s.L.st by omega) hep (rising_ok hU.ok) h1 h40 (by omega) hs
    have hroom := h.room
    generalize (keys U).length = m at *
    refine ⟨T, ?_, ?_, fun k hk => ?_, fun i => hput.lens i⟩
    · unfold logE
      rw [e]
    · exact {
        d := hdg
        pgs := h.pgs
        top := h.top
        sup := h.sup.same (by rw [hput.dur]) (by rw [hput.dur])
        ring := hring
        sound := h.sound
        ok := by
          have hl2 := h.ok.low
          have hl3 := room_ln s.L
          have h6 : s.L.ln = s.x.ln := h.ring.ln
          have h7 : s.L.taken = total ls := h.ring.taken
          exact ⟨h.ok.fit, h.ok.low, Nat.mod_lt _ (by omega), (show s.L.taken + (1 + m) ≤ s.L.ln by omega), h.ok.ep, (show s.L.seq + 1 ≤ _ by omega)⟩
        dok := h.dok.over hU.ok
        dlt := fun k hk => by
          rcases over_some hk with hk | hk
          · exact hU.lt k hk
          · exact h.dlt k hk
        dls := by rw [latest_snoc, putImgs_rising hU.ok, ← h.dls]
        emp := fun hx => absurd hx (over_keys hne)
        nums := fun l hl y hy => by
          rcases List.mem_append.1 hl with hl | hl
          · exact h.nums l hl y hy
          · rw [List.mem_singleton] at hl
            rw [hl] at hy
            obtain ⟨k, e1, e2⟩ := rising_num hy
            have := hU.lt k e2
            omega
        w := h.w }
    · exact hput.same (fun i _ e => by have := sec_ge s.L i; omega)
  · exact absurd rfl hx
/-- What the pages are. -/
def Sees (pg : Nat) (s : Sto) (C : Pgs) : Prop := ∀ k, k < pg → match s.D k with | some q => C k = some q | none => (C k = none ∧ s.S.now (2 + k) = DiskSpec.zeros) ∨ ∃ q, C k = some q ∧ pageOk (k : Int) q.1 q.2 = true ∧ s.S.now (2 + k) = pgF k q
end
end Go.Proofs.YteaokeiolgjhaaaGreat.Sto
