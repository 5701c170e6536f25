/- Two rows of runs that are the same, compared: true; the first is written over. -/
import Derived.Test.YtldbfhgkicphkaaDoorAlcRef2
namespace Go.Proofs.YtldbfhgkicphkaaDoor.Alc
open Go.RowKit Mem AlcBits
set_option linter.unusedVariables false
set_option linter.unusedSimpArgs false

theorem enCs_at : ∀ (l : List (Nat × Nat)) (k : Nat) (x : Nat × Nat), l[k]? = some x → (enCs l)[k * 2]? = some (.int .i64 (x.1 : Nat)) ∧ (enCs l)[k * 2 + 1]? = some (.int .i64 (x.2 : Nat))
  | [], k, x, h => by simp at h
  | y :: l, 0, x, h => by
    simp at h
    subst h
    exact ⟨rfl, rfl⟩
  | y :: l, k + 1, x, h => by
    have := enCs_at l k x (by simpa using h)
    rw [show (k + 1) * 2 = k * 2 + 2 by omega, show enCs (y :: l) = .int .i64 (y.1 : Nat) :: .int .i64 (y.2 : Nat) :: enCs l from rfl]
    exact this
/-- A row in a block. -/
theorem owns_some {w : World} {base c k : Nat} {e : TypeId} {v : Value} {xs : List Value} (h : w.ownsRow base e c v k xs) (hk : 0 < k) : ∃ g cap cur, v = .slice (some ⟨g, 0, none⟩) k cap ∧ base ≤ g ∧ Blk w g e cur ∧ k ≤ cap ∧ cap ≤ maxLen ∧ cur.size = cap * c ∧ cur.toList.take (k * c) = xs := by
  obtain ⟨h1, h2 | ⟨g, cap, cur, rfl, hb, hh, h3, h4, h5, h6⟩⟩ := h
  · omega
  · exact ⟨g, cap, cur, rfl, hb, hh, h3, h4, h5, h6⟩
theorem take_at {cur : Array Value} {m i : Nat} {xs : List Value} (h : cur.toList.take m = xs) (hi : i < m) : cur[i]? = xs[i]? := by
  rw [← h, List.getElem?_take_of_lt hi, Array.getElem?_toList]
set_option maxHeartbeats 4000000 in
theorem entries_call {w : World} {ba bb : Nat} {va vb : Value} {l : List (Nat × Nat)} (ha : w.ownsRow ba 40 2 va l.length (enCs l)) (hb : w.ownsRow bb 40 2 vb l.length (enCs l)) (hne : ∀ j, va.ownBlock = some j → vb.ownBlock ≠ some j) (hl : l.length ≤ 1024) :
    Calls Tryd.prog 24 #[va, vb] w fun e w' => e = .returned (.bool true) ∧ w.grownBy w' va.ownBlock := by
  by_cases h0 : l = []
  · subst h0
    have sh : ∀ {v : Value} {b : Nat}, w.ownsRow b 40 2 v 0 [] → ∃ A c, v = .slice A 0 c := by
      intro v b h
      obtain ⟨h1, h2 | ⟨g, cap, cur, rfl, hb, hh, h3⟩⟩ := h
      · exact ⟨_, _, h2.1⟩
      · exact ⟨_, _, rfl⟩
    obtain ⟨A1, c1, rfl⟩ := sh ha
    obtain ⟨A2, c2, rfl⟩ := sh hb
    clear ha hb hne
    go_enter Tryd.func24, Tryd.ntmps24
    go_wp2_with fail
    go_loopw [5, 6] (fun s i wr => s = .bool true ∧ i = .int .i64 0 ∧ wr = w) (fun _ _ _ => 0)
    case atStart => exact ⟨rfl, rfl, rfl⟩
    case round =>
      obtain ⟨rfl, rfl, rfl⟩ := hrel
      go_wp2_with fail
      go_ret
      exact ⟨rfl, World.grownBy.refl _ _⟩
  · have hpos : 0 < l.length := List.length_pos_iff.2 h0
    obtain ⟨g, ca, cur, rfl, _, hbg, hk1, hk2, hsz, htk⟩ := owns_some ha hpos
    obtain ⟨g2, cb, cur2, rfl, _, hbg2, hk3, hk4, hsz2, htk2⟩ := owns_some hb hpos
    have hgg : g2 ≠ g := fun e => hne g rfl (by rw [e]; rfl)
    obtain ⟨N, hN⟩ : ∃ N, l.length = N := ⟨_, rfl⟩
    have HB := Lib.hid hbg; have HB2 := Lib.hid hbg2; have HTK := Lib.hid htk; have HTK2 := Lib.hid htk2; have HN := Lib.hid hN
    rw [hN] at hpos hl hk1 hk3 ⊢
    have hsz' : N * 2 ≤ cur.size := by omega
    have hee : ((N : Int) == (N : Int)) = true := by simp
    clear ha hb hne hbg hbg2 htk htk2 h0 hN hsz hsz2
    go_enter Tryd.func24, Tryd.ntmps24
    go_wp2_with fail
    go_loopw [5, 6] (fun s i wr => s = .bool true ∧ ∃ k : Nat, k ≤ N ∧ i = .int .i64 k ∧ w.grownBy wr (some g) ∧ ∃ cur', Blk wr g 40 cur' ∧ cur'.size = cur.size ∧ ∀ j, k * 2 ≤ j → cur'[j]? = cur[j]?) (fun _ i _ => N - (intOf i).toNat)
    case atStart => exact ⟨by first | rfl | simp, 0, by omega, rfl, World.grownBy.refl _ _, cur, HB.out, rfl, fun _ _ => rfl⟩
    case round =>
      obtain ⟨rfl, k, hk, rfl, hg, cur', hbk, hsk, hat⟩ := hrel
      by_cases hlt : k < N
      · have hkl : k < l.length := by rw [HN.out]; exact hlt
        obtain ⟨x, hx⟩ : ∃ x, l[k]? = some x := ⟨_, List.getElem?_eq_getElem hkl⟩
        obtain ⟨e1, e2⟩ := enCs_at l k x hx
        have hn2 : l.length * 2 = N * 2 := by rw [HN.out]
        have a1 : wr.cell? ⟨g, k * 2, none⟩ = some (.int .i64 (x.1 : Nat)) := by rw [hbk.cell, hat _ (by omega), take_at HTK.out (by omega), e1]
        have a2 : wr.cell? ⟨g, k * 2 + 1, none⟩ = some (.int .i64 (x.2 : Nat)) := by rw [hbk.cell, hat _ (by omega), take_at HTK.out (by omega), e2]
        have hb2 := HB2.out.grown hg (by simpa using hgg)
        have b1 : wr.cell? ⟨g2, k * 2, none⟩ = some (.int .i64 (x.1 : Nat)) := by rw [hb2.cell, take_at HTK2.out (by omega), e1]
        have b2 : wr.cell? ⟨g2, k * 2 + 1, none⟩ = some (.int .i64 (x.2 : Nat)) := by rw [hb2.cell, take_at HTK2.out (by omega), e2]
        have f1 := hbk.frozen (k * 2)
        have f2 := hbk.frozen (k * 2 + 1)
        have h0 : (0 : Int) ≤ k := by omega
        have h1 : (k : Int) < N := by omega
        have hw1 : IntKind.i64.wrap ((k : Int) + 1) = ((k + 1 : Nat) : Int) := wrap_i64n (n := k + 1) (by omega)
        have HK := Lib.hid hbk; have HG := Lib.hid hg; have HS := Lib.hid hsk; have HAT := Lib.hid hat
        have q1 : ((x.1 : Int) == (x.1 : Int)) = true := by simp
        have q2 : ((x.2 : Int) == (x.2 : Int)) = true := by simp
        generalize x.1 = y1 at a1 b1 q1
        generalize x.2 = y2 at a2 b2 q2
        clear hbk hg hsk hat hb2 e1 e2 hx
        go_wp2_with fail
        go_quiet (fail)
        go_wp2_with fail
        have hdr : w.grownBy (wr.drewN nq) (some g) := ⟨HG.out.os, HG.out.tape, HG.out.output, HG.out.size, HG.out.block⟩
        refine ⟨⟨rfl, k + 1, by omega, by go_num, only_set (only_set hdr _ _) _ _, _, ((HK.out.drewN nq).set_ _ _).set_ _ _, by simp [HS.out], fun j hj => ?_⟩, by simp [intOf]; omega⟩
        rw [Array.getElem?_setIfInBounds_ne (by omega), Array.getElem?_setIfInBounds_ne (by omega)]
        exact HAT.out j (by omega)
      · have hkn : ¬ ((k : Int) < N) := by omega
        go_wp2_with fail
        go_ret
        exact ⟨rfl, hg⟩
end Go.Proofs.YtldbfhgkicphkaaDoor.Alc
