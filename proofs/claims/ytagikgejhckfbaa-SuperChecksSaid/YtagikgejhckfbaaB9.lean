/- Shared texts of this seat's proofs: FrameSum. -/
import Derived.Test.YtagikgejhckfbaaB8
import Derived.KernelRfl
/- Plain facts: the sum of a whole sector is one number for all sectors; which bytes a burst leaves alone. No program is named. -/
namespace Go.Proofs.Ytagikgejhckfbaa.Codec
open Go.RowKit CrcMath CodecMath

theorem byte_flip {u : Nat} (h : u < 256) : 255 - u = u ^^^ 255 := by
  have : ∀ u : Fin 256, 255 - u.val = u.val ^^^ 255 := by decide +kernel
  exact this ⟨u, h⟩
/-- One step over a byte of the sum: what stood in the state goes, whatever it was. -/
theorem sum_step (u D : Nat) : B (u ^^^ D) (255 - u % 256) = u / 256 ^^^ (Lk 8 (D % 256 ^^^ 255) ^^^ D / 256) := by
  rw [← B_table, byte_flip (Nat.mod_lt _ (by omega)), show (u ^^^ D) % 256 = u % 256 ^^^ D % 256 from Nat.xor_mod_two_pow (n := 8), show (u ^^^ D) / 256 = u / 256 ^^^ D / 256 from ?_]
  · have e : (u % 256 ^^^ D % 256) ^^^ (u % 256 ^^^ 255) = D % 256 ^^^ 255 := by
      rw [Nat.xor_comm (u % 256) (D % 256), Nat.xor_assoc, ← Nat.xor_assoc (u % 256) (u % 256), Nat.xor_self, Nat.zero_xor]
    rw [e, ← Nat.xor_assoc, Nat.xor_comm _ (u / 256), Nat.xor_assoc]
  · have := Nat.shiftRight_xor_distrib (a := u) (b := D) (i := 8)
    simpa [Nat.shiftRight_eq_div_pow] using this
def D1 : Nat := Lk 8 (0 % 256 ^^^ 255) ^^^ 0 / 256
def D2 : Nat := Lk 8 (D1 % 256 ^^^ 255) ^^^ D1 / 256
def D3 : Nat := Lk 8 (D2 % 256 ^^^ 255) ^^^ D2 / 256
def D4 : Nat := Lk 8 (D3 % 256 ^^^ 255) ^^^ D3 / 256
theorem sum_bytes (c : Nat) (hc : c < 4294967296) : C c (le4 (4294967295 - c)) = D4 := by
  have b0 : (4294967295 - c) % 256 = 255 - c % 256 := by omega
  have b1 : (4294967295 - c) / 256 % 256 = 255 - c / 256 % 256 := by omega
  have b2 : (4294967295 - c) / 65536 % 256 = 255 - c / 256 / 256 % 256 := by omega
  have b3 : (4294967295 - c) / 16777216 % 256 = 255 - c / 256 / 256 / 256 % 256 := by omega
  have h4 : c / 256 / 256 / 256 / 256 = 0 := by omega
  show B (B (B (B c _) _) _) _ = D4
  rw [b0, b1, b2, b3]
  have e0 := sum_step c 0
  rw [Nat.xor_zero] at e0
  rw [e0]
  have e1 := sum_step (c / 256) D1
  have e2 := sum_step (c / 256 / 256) D2
  have e3 := sum_step (c / 256 / 256 / 256) D3
  show B (B (B (c / 256 ^^^ D1) _) _) _ = D4
  rw [e1]
  show B (B (c / 256 / 256 ^^^ D2) _) _ = D4
  rw [e2]
  show B (c / 256 / 256 / 256 ^^^ D3) _ = D4
  rw [e3, h4, Nat.zero_xor]
  rfl
/-- All sectors have one sum. -/
theorem frame_sum (l : List Nat) (hl : ∀ x ∈ l, x < 256) : M 0 (frame l) = 4294967295 - D4 := by
  have hc := C_lt (fill l 252) (s := 4294967295) (by omega) (fill_lt l 252 hl)
  show 4294967295 - C (4294967295 - 0) (fill l 252 ++ le4 (M 0 (fill l 252))) = _
  rw [C_append]
  show 4294967295 - C (C 4294967295 (fill l 252)) (le4 (4294967295 - C (4294967295 - 0) (fill l 252))) = _
  rw [Nat.sub_zero, sum_bytes _ hc]

/-- Bytes in which no bit was turned from a bit on are as they were. -/
def Outside (xs : List Nat) (bit : Nat) (ys : List Nat) : Prop := ∀ j, ¬ (bit / 8 ≤ j ∧ j ≤ (bit + 31) / 8) → ys.getD j 0 = xs.getD j 0
theorem Outside.set {xs ys : List Nat} {bit k : Nat} (h : Outside xs bit ys) (hk : k < 32) (v : Nat) : Outside xs bit (ys.set ((bit + k) / 8) v) := by
  intro j hj
  rw [← h j hj, List.getD_eq_getElem?_getD, List.getD_eq_getElem?_getD, List.getElem?_set_ne (by omega)]

theorem super_unlike {s : List Int} {l ys : List Nat} {bit c : Nat} (h : superW s = some l) (ht : Turned l bit c 32 ys true) : superR ys = none := by
  obtain ⟨rfl, _⟩ := superW_some h
  cases hr : superR ys with
  | none => rfl
  | some u =>
    obtain ⟨hu, _⟩ := superR_some hr
    obtain ⟨rfl, _⟩ := superW_some hu
    exact absurd ((frame_sum _ (superB_lt s)).trans (frame_sum _ (superB_lt u)).symm) (ht.unlike (frame_lt _ (superB_lt s)))
theorem head_unlike {ep sq : Int} {pages : List Int} {sum : Nat} {l ys : List Nat} {bit c : Nat} (h : headW ep sq pages sum = some l) (ht : Turned l bit c 32 ys true) : headR ys = none := by
  obtain ⟨rfl, _⟩ := headW_some h
  rw [headR, if_neg (fun hu => ?_)]
  obtain ⟨he, _⟩ := headW_some hu
  exact ht.unlike (frame_lt _ (headB_lt _ _ _ _)) ((frame_sum _ (headB_lt _ _ _ _)).trans ((frame_sum _ (headB_lt _ _ _ _)).symm.trans (by rw [← he])))
theorem page_zero_sum (k : Nat) (h1 : 1 ≤ k) (h5 : k ≤ 5) : M 0 ([80, 80, 65, 71, k] ++ List.replicate 247 0) ≠ 0 := by
  obtain rfl | rfl | rfl | rfl | rfl : k = 1 ∨ k = 2 ∨ k = 3 ∨ k = 4 ∨ k = 5 := by omega
  all_goals decide +kernel
theorem page_unlike {nu ki : Int} {body l ys : List Nat} {bit c : Nat} (h : pageW nu ki body = some l) (ht : Turned l bit c 32 ys true) (ho : Outside l bit ys) (other : Int) : pageR ys other = none := by
  obtain ⟨hl, hok⟩ := pageW_some h
  obtain ⟨⟨k1, k5⟩, ⟨n0, n1⟩, hb, hlt⟩ := pageOk_iff hok
  have hne : ys ≠ zeros := by
    rintro rfl
    have h80 : l.getD 0 0 = 80 := (page_fields h).2.2.2
    have hz : ∀ j, zeros.getD j 0 = 0 := fun j => by
      rw [zeros, List.getD_eq_getElem?_getD, List.getElem?_replicate]
      split <;> rfl
    have hbit : bit / 8 = 0 := by
      rcases Nat.eq_zero_or_pos (bit / 8) with h0 | h0
      · exact h0
      · have := ho 0 (by omega)
        rw [hz, h80] at this
        omega
    have hall : ∀ j, 5 ≤ j → l.getD j 0 = 0 := fun j hj => by rw [← ho j (by omega), hz]
    obtain ⟨k, rfl⟩ := Int.eq_ofNat_of_zero_le (show 0 ≤ ki by omega)
    have hk5 : k ≤ 5 := by omega
    have hlen := pageB_len nu (k : Int) body hb
    have hfill : fill (pageB nu (k : Int) body) 252 = pageB nu (k : Int) body := fill_full _ _ (by omega)
    have hfr : l = pageB nu (k : Int) body ++ le4 (M 0 (pageB nu (k : Int) body)) := by rw [hl, frame, hfill]
    have hs0 : M 0 (pageB nu (k : Int) body) = 0 := by
      have hm := M_lt 0 (pageB nu (k : Int) body)
      generalize hM : M 0 (pageB nu (k : Int) body) = m at *
      have g : ∀ i, i < 4 → (le4 m).getD i 0 = 0 := fun i hi => by
        have := hall (252 + i) (by omega)
        rw [hfr, CodecMath.getD_right _ _ _ (by omega), hlen, show 252 + i - 252 = i from by omega] at this
        exact this
      have g0 : m % 256 = 0 := g 0 (by omega)
      have g1 : m / 256 % 256 = 0 := g 1 (by omega)
      have g2 : m / 65536 % 256 = 0 := g 2 (by omega)
      have g3 : m / 16777216 % 256 = 0 := g 3 (by omega)
      omega
    have hpg : pageB nu (k : Int) body = [80, 80, 65, 71, k] ++ List.replicate 247 0 := by
      refine List.ext_getElem (by rw [hlen, List.length_append, List.length_replicate]; rfl) (fun j h1 h2 => ?_)
      have e1 : (pageB nu (k : Int) body).getD j 0 = (pageB nu (k : Int) body)[j] := by rw [List.getD_eq_getElem?_getD, List.getElem?_eq_getElem h1]; rfl
      rw [← e1]
      by_cases hj : j < 5
      · have hke : be 1 k = [k] := by simp [be, Nat.mod_eq_of_lt (show k < 256 by omega)]
        have e2 : pageB nu (k : Int) body = [80, 80, 65, 71, k] ++ (be 4 nu.toNat ++ ([0, 0, 0] ++ body)) := by simp [pageB, hke]
        rw [e2, CodecMath.getD_left _ _ _ (by simpa using hj)]
        obtain rfl | rfl | rfl | rfl | rfl : j = 0 ∨ j = 1 ∨ j = 2 ∨ j = 3 ∨ j = 4 := by omega
        all_goals rfl
      · have := hall j (by omega)
        rw [hfr, CodecMath.getD_left _ _ _ h1] at this
        rw [this, List.getElem_append_right (by simpa using hj), List.getElem_replicate]
    rw [hpg] at hs0
    exact page_zero_sum k (by omega) hk5 hs0
  rw [pageR, if_neg hne, if_neg (fun hu => ?_)]
  obtain ⟨he, hok'⟩ := pageW_some hu
  subst hl
  have hlt' := (pageOk_iff hok').2.2.2
  exact ht.unlike (frame_lt _ (pageB_lt _ _ _ hlt)) ((frame_sum _ (pageB_lt _ _ _ hlt)).trans ((frame_sum _ (pageB_lt _ _ _ hlt')).symm.trans (by rw [← he])))
end Go.Proofs.Ytagikgejhckfbaa.Codec
