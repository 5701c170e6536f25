/- maps.Copy of pages. -/
import Derived.Test.YteaokeiolgjhaaaGreatPStoSmall
import Derived.Maps.RangeWalk
namespace Go.Proofs.YteaokeiolgjhaaaGreat.Sto
open Go.RowKit Go.Maps Go.Shelf CrcMath CodecMath Mem Crc Codec DiskSpec Dsk Sup Log

/-- What a copy that is under way has done. -/
def mixed (Ds : DataW Value) (left : Lit → Bool) (fs fd : Nat → Option Value) (j : Nat) : Option Value := if (Maps.has Ds (keyL j) && !left (keyL j)) = true then fs j else fd j
theorem mixed_start {Ds : DataW Value} {fs fd : Nat → Option Value} : mixed Ds (Maps.has Ds) fs fd = fd := by
  funext j
  unfold mixed
  cases Maps.has Ds (keyL j) <;> rfl
theorem mixed_step {Ds : DataW Value} {left : Lit → Bool} {fs fd : Nat → Option Value} {k : Nat} {c : Value} (hh : Maps.has Ds (keyL k) = true) (hf : fs k = some c) :
    (fun j => if j = k then some c else mixed Ds left fs fd j) = mixed Ds (fun z => left z && !z.sameKey (keyL k)) fs fd := by
  funext j
  unfold mixed
  by_cases e : j = k
  · subst e
    have hss := WideAt.sameKey_self (keyL_is j)
    rw [if_pos rfl, hh]
    simp only [hss, Bool.not_true, Bool.and_false, Bool.not_false, Bool.and_true]
    exact hf.symm
  · rw [if_neg e]
    have hne : (keyL j).sameKey (keyL k) = false := by
      cases hh : (keyL j).sameKey (keyL k) with
      | false => rfl
      | true => exact absurd (keyL_inj (WideAt.sameKey_eq hh)) e
    simp only [hne, Bool.not_false, Bool.and_true]
theorem copy_at {Ds : DataW Value} {fs : Nat → Option Value} {n : Nat} {kl : Lit} {c : Value} (htd : Tidy Ds) (ha : ∀ k z, Ds.atKey (keyL k) z = match fs k with | some v => .held v | none => z) (he : ∀ p ∈ entriesOf Ds, ∃ k, k < n ∧ p.1 = keyL k)
    (hat : ∀ zd, Ds.atKey kl zd = .held c) : ∃ k, k < n ∧ kl = keyL k ∧ fs k = some c ∧ Maps.has Ds (keyL k) = true := by
  have hh : Maps.has Ds kl = true := has_true_of_atKey hat
  obtain ⟨es, rfl, _⟩ := htd
  obtain ⟨p, hp1, hp2⟩ := List.any_eq_true.1 hh
  obtain ⟨k, hk, h1⟩ := he p hp1
  have e := WideAt.sameKey_eq hp2
  have hkl : kl = keyL k := by rw [← e, h1]
  subst hkl
  refine ⟨k, hk, rfl, ?_, hh⟩
  have h2 := hat (.held (.bool true))
  have h3 := hat (.held (.bool false))
  rw [ha] at h2 h3
  cases hf : fs k with
  | none => rw [hf] at h2 h3; simp only at h2 h3; rw [← h2] at h3; cases h3
  | some v => rw [hf] at h2; simp only [DataW.held.injEq] at h2; rw [h2]
set_option maxRecDepth 100000 in
set_option maxHeartbeats 1600000 in
theorem copy_call {w : World} {bd bs : Nat} {fd fs : Nat → Option Value} (hd : MapIs Tryz.prog 3 w bd 1024 fd) (hs : MapIs Tryz.prog 3 w bs 1024 fs) (hne : bd ≠ bs) (hpg : ∀ k c, fs k = some c → ∃ a A n m, c = .agg #[.int .i64 a, .slice A n m]) :
    Calls Tryz.prog 56 #[.map (some bd), .map (some bs)] w fun e w' => e = .returned (.tuple #[]) ∧ MapIs Tryz.prog 3 w' bd 1024 (fun j => match fs j with | some v => some v | none => fd j) ∧ w.grownBy w' (some bd) := by
  obtain ⟨Ds, hso, hsa, hse⟩ := hs
  have K := int_keyed (k := 3) Tryz.underlying3
  have HTD := Lib.hid (hso.tidy K)
  have HA := Lib.hid hsa; have HE := Lib.hid hse; have HPG := Lib.hid hpg
  have HD := Lib.hid hd
  have HS := Lib.hid hso
  have HBD := Lib.hid hd.lt
  have HBS := Lib.hid hso.lt
  clear hsa hse hpg hd
  go_enter Tryz.func56, Tryz.ntmps56
  go_wp2_with (first
    | (at_range; refine wpList_range_own _ rfl _ 102 rfl 3 40 K Tryz.underlying102 heldR bs (Maps.size Ds) _ rfl HS.out ?_; intro w0 hrg0 hg0 hs0)
    | go_in)
  go_frame
  go_loopw [4, 5, 8] (fun _ _ _ wr => ∃ (left : Lit → Bool) (cnt : Nat), wr.ranges Tryz.prog 3 heldR bs w.heap.size (Maps.size Ds) Ds left cnt ∧ MapIs Tryz.prog 3 wr bd 1024 (mixed Ds left fs fd) ∧ w.grownBy wr (some bd))
    (fun _ _ _ wr => wr.rangeLeft bs w.heap.size)
  case atStart =>
    exact ⟨_, _, hrg0, by rw [mixed_start]; exact HD.out.of_block (hg0.block bd HD.out.lt (by simp)), grown_any hg0 _⟩
  case round =>
    obtain ⟨left, cnt, hrg, hout, hgw⟩ := hrel
    go_wp2_with (first
      | (at_next; refine wpList_next_ranges _ rfl _ rfl 3 K heldR id id (fun key _ _ => ⟨key, rfl⟩) (fun v _ _ => ⟨v, rfl⟩) bs w.heap.size (Maps.size Ds) _ _ _ rfl hrg ?_ ?_)
      | go_in)
    · intro hc0 hl0
      go_wp2
      go_end0
      refine ⟨rfl, ?_, hgw⟩
      have e : mixed Ds left fs fd = fun j => match fs j with | some v => some v | none => fd j := by
        funext j
        unfold mixed
        rw [hl0]
        cases hf : fs j with
        | none =>
          have hh : Maps.has Ds (keyL j) = false := has_false_of_atKey (fun z => by rw [HA.out, hf])
          rw [hh]; rfl
        | some v =>
          have hh : Maps.has Ds (keyL j) = true := has_true_of_atKey (y := .held v) (fun z => by rw [HA.out, hf])
          rw [hh]; rfl
      rw [← e]
      exact hout
    · intro x c kl yd yp w1 cnt1 hkey hlx hv hat hrg1 hlt hg1 hs1 hen
      have hyd : yd = .held c := by
        have : some (DataW.held c, ([] : List MemPlace)) = some (yd, yp) := hv
        injection this with this
        injection this with this
        exact this.symm
      subst hyd
      obtain ⟨k, hk, rfl, hf, hh⟩ := copy_at HTD.out HA.out HE.out hat
      obtain ⟨z, rfl, hz, _⟩ := Maps.keyOf_int_inv Tryz.underlying3 hkey
      obtain rfl : z = (k : Int) := by injection hz with _ hz; exact hz.symm
      obtain ⟨a, A, n, m, rfl⟩ := HPG.out k c hf
      have hga := World.grownBy_alloc w1 (.cells #[.int .i64 a, .slice A n m] 40) none
      have hout1 := hout.of_block (hg1.block bd hout.lt (fun e => by have := HBD.out; cases e; omega))
      have hout2 := hout1.of_block (hga.block bd hout1.lt (by simp))
      obtain ⟨w3, hr3, hm3, hg3⟩ := hout2.store (t := 102) (E := 40) Tryz.underlying3 Tryz.underlying102 k hk (by omega) (by simp [maxLen]) (.agg #[.int .i64 a, .slice A n m])
      rw [mixed_step hh hf] at hm3
      have HM3 := Lib.hid hm3
      have HG3 := Lib.hid hg3
      have HRG3 := Lib.hid ((hrg1.kept hga (by simp) (by simp)).kept hg3 (fun e => hne (by cases e; rfl)) (fun e => by have := HBD.out; cases e; omega))
      have HGA := Lib.hid hga
      clear hm3 hg3 hga hout1 hout2
      go_wp2_with fail
      go_roundw
      case rel => exact ⟨_, cnt1, HRG3.out, HM3.out, ((hgw.andThen hg1 (fun j hj => .inl (by cases hj; exact Nat.le_refl _))).trans (grown_any HGA.out _)).trans HG3.out⟩
      case measure => rw [HRG3.out.left_eq, hrg.left_eq]; exact hlt
end Go.Proofs.YteaokeiolgjhaaaGreat.Sto
