/- The free pages as runs: in plain words; the project's Runs. -/
import Derived.Test.YtldbfhgkicphkaaDoorAlcOps
import Derived.Test.YtldbfhgkicphkaaDoorStructs
namespace Go.Proofs.YtldbfhgkicphkaaDoor.Alc
open Go.RowKit Mem AlcBits
set_option linter.unusedVariables false
set_option linter.unusedSimpArgs false

/-- One more page in the last run. -/
def bump : List (Nat × Nat) → List (Nat × Nat)
  | [] => []
  | [x] => [(x.1, x.2 + 1)]
  | x :: y :: r => x :: bump (y :: r)
theorem bump_snoc (l : List (Nat × Nat)) (k v : Nat) : bump (l ++ [(k, v)]) = l ++ [(k, v + 1)] := by
  induction l with
  | nil => rfl
  | cons x l ih =>
    cases l with
    | nil => rfl
    | cons y l => simp only [List.cons_append, bump] at ih ⊢; rw [ih]
theorem bump_len : ∀ (l : List (Nat × Nat)), (bump l).length = l.length
  | [] => rfl
  | [_] => rfl
  | x :: y :: r => by simp only [bump, List.length_cons]; rw [bump_len (y :: r)]; rfl
/-- The runs of what is free below a page. -/
def runsUp (F : Nat → Bool) : Nat → List (Nat × Nat)
  | 0 => []
  | p + 1 => if F p = true then (if 0 < p ∧ F (p - 1) = true then bump (runsUp F p) else runsUp F p ++ [(p, 1)]) else runsUp F p
theorem runsUp_len (F : Nat → Bool) : ∀ p, (runsUp F p).length ≤ p
  | 0 => Nat.le_refl 0
  | p + 1 => by
    have := runsUp_len F p
    simp only [runsUp]
    split
    · split
      · rw [bump_len]; omega
      · simp; omega
    · omega
theorem runsUp_none (F : Nat → Bool) (a : Nat) : ∀ d, (∀ q, a ≤ q → q < a + d → F q = false) → runsUp F (a + d) = runsUp F a
  | 0, _ => rfl
  | d + 1, h => by
    rw [← Nat.add_assoc]
    simp only [runsUp]
    rw [if_neg (by rw [h (a + d) (by omega) (by omega)]; simp)]
    exact runsUp_none F a d fun q h1 h2 => h q h1 (by omega)
theorem runsUp_all (F : Nat → Bool) (a : Nat) (ha : a = 0 ∨ F (a - 1) = false) : ∀ d, (∀ q, a ≤ q → q < a + (d + 1) → F q = true) → runsUp F (a + (d + 1)) = runsUp F a ++ [(a, d + 1)]
  | 0, h => by
    show runsUp F (a + 1) = _
    simp only [runsUp]
    rw [if_pos (h a (by omega) (by omega)), if_neg (by rcases ha with rfl | ha; simp; rw [ha]; simp)]
  | d + 1, h => by
    rw [← Nat.add_assoc a (d + 1) 1]
    show (if F (a + (d + 1)) = true then _ else _) = _
    rw [if_pos (h _ (by omega) (by omega)), if_pos ⟨by omega, h _ (by omega) (by omega)⟩, runsUp_all F a ha d fun q h1 h2 => h q h1 (by omega), bump_snoc]

/-- A run's cells; a row of them. -/
def enC (x : Nat × Nat) : List Value := [.int .i64 ((x.1 : Nat) : Int), .int .i64 ((x.2 : Nat) : Int)]
def enCs (l : List (Nat × Nat)) : List Value := l.flatMap enC
theorem enCs_snoc (l : List (Nat × Nat)) (x : Nat × Nat) : enCs (l ++ [x]) = enCs l ++ enC x := by simp [enCs]
theorem enCs_len (l : List (Nat × Nat)) : (enCs l).length = l.length * 2 := by
  induction l with
  | nil => rfl
  | cons x l ih => rw [enCs, List.flatMap_cons, List.length_append, ← enCs, ih]; simp [enC]; omega
theorem new_ent (w : World) (k v : Value) (j : Nat) (u : Value) (h : [k, v][j]? = some u) : (w.alloc (.cells #[k, v] 40)).cell? ((⟨w.heap.size, 0, none⟩ : Addr).add j) = some u := by
  have hb := Blk.new w 40 #[k, v]
  have e1 : (⟨w.heap.size, 0, none⟩ : Addr).add j = ⟨w.heap.size, j, none⟩ := by unfold Addr.add; split <;> simp_all
  rw [e1, hb.cell, ← h]
  exact List.getElem?_toArray ..
theorem ent_info : (Tryd.prog.info? 40).map (fun i => (i.zero, i.size, i.bytes)) = some (some (Value.agg #[.int .i64 0, .int .i64 0]), 2, 16) := by kernel_rfl
section
variable {w : World} {B q a b s n m : Nat} {F D S : Nat → Bool}
theorem owns_keep {w w' : World} {base c k : Nat} {e : TypeId} {v : Value} {xs : List Value} {row : Option Nat} (h : w.ownsRow base e c v k xs) (hg : w.grownBy w' row) (hne : ∀ j, v.ownBlock = some j → row ≠ some j) : w'.ownsRow base e c v k xs := by
  obtain ⟨h1, h2 | ⟨g, cap, cur, rfl, hb, hh, h3⟩⟩ := h
  · exact ⟨h1, .inl h2⟩
  · refine ⟨h1, .inr ⟨g, cap, cur, rfl, hb, ?_, h3⟩⟩
    have hb2 : Blk w g e cur := hh
    exact hb2.grown hg (fun e => hne g rfl e.symm)
theorem owns_base {w : World} {base c k : Nat} {e : TypeId} {v : Value} {xs : List Value} (h : w.ownsRow base e c v k xs) : ∀ j, v.ownBlock = some j → base ≤ j ∧ j < w.heap.size := by
  obtain ⟨h1, h2 | ⟨g, cap, cur, rfl, hb, hh, h3⟩⟩ := h
  · intro j hj; rw [h2.1] at hj; cases hj
  · intro j hj
    cases hj
    have hb2 : Blk w g e cur := hh
    exact ⟨hb, hb2.lt⟩
set_option maxHeartbeats 4000000 in
theorem runs_call (h : Al w B q a b s n m F D S) :
    Calls Tryd.prog 25 #[.pointer (some ⟨q, 0, none⟩)] w fun e w' => ∃ v, e = .returned v ∧ w'.ownsRow w.heap.size 40 2 v (runsUp F n).length (enCs (runsUp F n)) ∧ w.grownBy w' none := by
  obtain ⟨i0, hi0, hzz⟩ := Option.map_eq_some_iff.1 ent_info
  obtain ⟨hz0, hz1, hz2⟩ : i0.zero = some (Value.agg #[.int .i64 0, .int .i64 0]) ∧ i0.size = 2 ∧ i0.bytes = 16 := by simpa using hzz
  have hi := Lib.hid hi0; have z0 := Lib.hid hz0; have z1 := Lib.hid hz1; have z2 := Lib.hid hz2
  clear hi0 hz0 hz1 hz2 hzz
  have HN0 := Lib.hid (next_call (p := 0) h.hF h.m16 (by omega) h.tab)
  rw [show ((0 : Nat) : Int) = 0 from rfl] at HN0
  have HA := Lib.hid h
  have c0 := h.cells.1
  have c1 := h.cells.2.1
  have hn2 := h.most
  have hm16 := h.m16
  have hnm : n ≤ 64 * m := by have := h.hm; omega
  clear h
  go_enter Tryd.func25, Tryd.ntmps25
  go_wp2_with (go_at_call 32; refine HN0.out.mono ?_; rintro e w' ⟨f0, rfl, hr, rfl⟩; have HR := Lib.hid hr; clear hr)
  go_loopw [3, 4, 5] (fun v f _ wr => ∃ k : Nat, k ≤ 64 * m ∧ f = .int .i64 k ∧ (k < 64 * m → F k = true) ∧ (k < 64 * m → k = 0 ∨ F (k - 1) = false) ∧ wr.ownsRow w'.heap.size 40 2 v (runsUp F k).length (enCs (runsUp F k)) ∧ w'.grownBy wr none) (fun _ f _ _ => 64 * m - (intOf f).toNat)
  case atStart =>
    refine ⟨f0, HR.out.2.2.2 (by omega), rfl, HR.out.2.2.1, ?_, ?_, World.grownBy.refl _ _⟩
    · intro _
      by_cases h0 : f0 = 0
      · exact .inl h0
      · exact .inr (HR.out.2.1 (f0 - 1) (by omega) (by omega) (by have := HR.out.2.2.2 (by omega); omega))
    · have := runsUp_none F 0 f0 (fun x h1 h2 => HR.out.2.1 x h1 (by omega) (by have := HR.out.2.2.2 (by omega); omega))
      rw [Nat.zero_add] at this
      rw [this]
      exact World.ownsRow_nil ..
  case round =>
    obtain ⟨k, hk, rfl, hT, hprev, hrow, hg⟩ := hrel
    have c0' : wr.cell? ⟨q, 0, none⟩ = some (.int .i64 n) := ((HA.out.grown hg).cells).1
    have c1' : wr.cell? ⟨q, 1, none⟩ = some (.slice (some ⟨a, 0, none⟩) m m) := ((HA.out.grown hg).cells).2.1
    have HAr := Lib.hid (HA.out.grown hg)
    have HT := Lib.hid hT; have HPR := Lib.hid hprev; have HROW := Lib.hid hrow; have HG := Lib.hid hg
    clear hT hprev hrow hg
    by_cases hlt : k < n
    · have h1 : (k : Int) < n := by omega
      have HGAP := Lib.hid (gap_call (p := k) HAr.out.hF HAr.out.m16 (by omega) HAr.out.tab)
      have hlen := runsUp_len F k
      have hsr := HG.out.size
      go_wp2_with (first
        | (go_at_call 38
           refine HGAP.out.mono ?_
           rintro x w2 ⟨e, rfl, he, rfl⟩
           have hke : k < e := by
             rcases Nat.lt_or_ge k e with h | h
             · exact h
             · exfalso
               have hek : e = k := by have := he.1; omega
               have h2 : (!F e) = true := he.2.2.1 (by omega)
               have h3 := HT.out (by omega)
               rw [hek, h3] at h2
               cases h2
           have he64 : e ≤ 64 * m := he.2.2.2 hk
           have hw : IntKind.i64.wrap ((e : Int) - (k : Int)) = ((e - k : Nat) : Int) := by rw [← wrap_i64n (n := e - k) (by omega)]; congr 1; omega
           have HE := Lib.hid he
           clear he)
        | (at_builtin
           refine wpList_append_own _ rfl (.tmp 23) (.tmp 29) _ rfl w'.heap.size 40 i0 _ 2 16 Tryd.underlying35 hi.out z0.out z1.out z2.out rfl (by omega) _ (runsUp F k).length _ rfl
             (owns_keep HROW.out (World.grownBy_alloc w2 _ none) (by simp)) ⟨w2.heap.size, 0, none⟩ 1 1 [.int .i64 (k : Nat), .int .i64 ((e - k : Nat) : Int)] rfl rfl (fun j u hu => new_ent _ _ _ j u hu)
             (fun u hu => by simp at hu; rcases hu with rfl | rfl <;> rfl) (by simp only [maxLen]; omega) (by omega) (by simp; omega) ?_
           intro v' w6 hown' hgr' _
           have HO6 := Lib.hid hown'; have HG6 := Lib.hid hgr'; clear hown' hgr'
           have HGN := Lib.hid (grownBy_new (HG.out.trans (World.grownBy_alloc w2 _ none)) HG6.out (fun j hj => (owns_base HROW.out j hj).1))
           have HAn := Lib.hid (HA.out.grown HGN.out)
           have c1n : w6.cell? ⟨q, 1, none⟩ = some (.slice (some ⟨a, 0, none⟩) m m) := HAn.out.cells.2.1)
        | (go_at_call 32
           refine (next_call (p := e) HAn.out.hF HAn.out.m16 (by omega) HAn.out.tab).mono ?_
           rintro x w7 ⟨f, rfl, hf, rfl⟩
           have HF := Lib.hid hf
           clear hf))
      have hf1 : e ≤ f := HF.out.1
      have hfm : f ≤ 64 * m := HF.out.2.2.2 he64
      have hFe : e < f → F e = false := fun h => by
        have := HE.out.2.2.1 (by omega)
        simpa using this
      have hrun : runsUp F f = runsUp F k ++ [(k, e - k)] := by
        obtain ⟨d, hd⟩ : ∃ d, e = k + (d + 1) := ⟨e - k - 1, by omega⟩
        obtain ⟨d2, hd2⟩ : ∃ d, f = e + d := ⟨f - e, by omega⟩
        rw [hd2, runsUp_none F e d2 (fun x h1 h2 => HF.out.2.1 x h1 (by omega) (by omega)), show e - k = d + 1 by omega]
        rw [hd]
        exact runsUp_all F k (HPR.out (by omega)) d fun x h1 h2 => by
          have := HE.out.2.1 x h1 (by omega) (by omega)
          simpa using this
      refine ⟨⟨f, hfm, rfl, HF.out.2.2.1, ?_, ?_, HGN.out⟩, ?_⟩
      · intro hf64
        by_cases hef : e < f
        · exact .inr (HF.out.2.1 (f - 1) (by omega) (by omega) (by omega))
        · have hef2 : f = e := by omega
          have h1 := HF.out.2.2.1 hf64
          have h2 : (!F e) = true := HE.out.2.2.1 (by omega)
          rw [hef2] at h1
          rw [h1] at h2
          cases h2
      · rw [hrun, enCs_snoc, List.length_append]
        exact HO6.out
      · simp [intOf]; omega
    · have hk0 : ¬ ((k : Int) < n) := by omega
      go_wp2_with fail
      go_ret
      have hrun : runsUp F k = runsUp F n := by
        obtain ⟨d, rfl⟩ : ∃ d, k = n + d := ⟨k - n, by omega⟩
        exact runsUp_none F n d (fun x h1 _ => HA.out.outF x h1)
      rw [← hrun]
      exact ⟨_, rfl, HROW.out, HG.out⟩
end
end Go.Proofs.YtldbfhgkicphkaaDoor.Alc
