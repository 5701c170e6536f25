/- The document's own Alloc: Take, Settle, Undo, Free, Runs, New. -/
import Derived.Test.YtldbfhgkicphkaaDoorAlcRef
namespace Go.Proofs.YtldbfhgkicphkaaDoor.Alc
open Go.RowKit Mem AlcBits
set_option linter.unusedVariables false
set_option linter.unusedSimpArgs false
section
variable {w : World} {B r gl cl gs cs n : Nat} {F D S : Nat → Bool}
set_option maxHeartbeats 2000000 in
theorem r_take (h : Rf w B r gl cl gs cs n F D S) :
    Calls Tryd.prog 13 #[.pointer (some ⟨r, 0, none⟩)] w fun e w' => ∃ k ok, e = .returned (.tuple #[.int .i64 (k : Nat), .bool ok]) ∧ Least F n k ok ∧ Rf w' B r gl cl gs cs n (if ok then del F k else F) D S ∧ Turn w w' (own3 r gl gs) (own3 r gl gs) := by
  have c0 := h.cells.1
  have hn2 := h.most
  have HA := Lib.hid h
  clear h
  go_enter Tryd.func13, Tryd.ntmps13
  go_wp2_with fail
  go_loopw [4] (fun i wr => ∃ k : Nat, k ≤ n ∧ i = .int .i64 k ∧ (∀ q, q < k → F q = false) ∧ wr = w) (fun i _ => n - (intOf i).toNat)
  case atStart => exact ⟨0, by omega, rfl, fun q hq => by omega, rfl⟩
  case round =>
    obtain ⟨k, hk, rfl, hno, rfl⟩ := hrel
    have HNO := Lib.hid hno; clear hno
    by_cases hlt : k < n
    · have hc := (HA.out.hl.cell hlt).trans (ls_at hlt)
      have hfz := HA.out.hl.fz k
      have h0 : (0 : Int) ≤ k := by omega
      have h1 : (k : Int) < n := by omega
      have hz : (stL F D k == 0) = F k := stL_zero F D k
      have hw1 : IntKind.i64.wrap ((k : Int) + 1) = ((k + 1 : Nat) : Int) := wrap_i64n (n := k + 1) (by omega)
      by_cases hF : F k = true
      · have HP := Lib.hid (HA.out.put (F' := del F k) (D' := D) hlt 1 (by simp [stL, del, HA.out.dis k hF]) (fun q _ hq => by simp [stL, del, hq]) (fun q hq => HA.out.dis q (by simp [del] at hq; exact hq.2)))
        rw [hF] at hz
        have HF := Lib.hid hF; clear hF
        generalize stL F D k = x at hc hz
        go_wp2_with fail
        go_ret2
        exact ⟨k, true, rfl, .inl ⟨rfl, hlt, HF.out, HNO.out⟩, HP.out⟩
      · have hF' : F k = false := by simpa using hF
        rw [hF'] at hz
        have HF := Lib.hid hF'; clear hF hF'
        generalize stL F D k = x at hc hz
        go_wp2_with fail
        go_roundw
        case rel => exact ⟨k + 1, by omega, by go_num, fun q hq => by
          by_cases hqk : q = k
          · rw [hqk]; exact HF.out
          · exact HNO.out q (by omega), trivial⟩
        case measure => simp [intOf]; omega
    · have hkn : ¬ ((k : Int) < n) := by omega
      go_wp2_with fail
      go_ret2
      first
        | exact ⟨0, false, rfl, .inr ⟨rfl, rfl, fun q hq => HNO.out q (by omega)⟩, HA.out, Turn.refl _ _⟩
        | exact ⟨0, .inl ⟨rfl, .inr ⟨rfl, rfl, fun q hq => HNO.out q (by omega)⟩, HA.out, Turn.refl _ _⟩⟩
theorem cnt_succ (F : Nat → Bool) (k : Nat) : cnt F (k + 1) = cnt F k + (F k).toNat := rfl
set_option maxHeartbeats 2000000 in
theorem r_free (h : Rf w B r gl cl gs cs n F D S) :
    Calls Tryd.prog 21 #[.pointer (some ⟨r, 0, none⟩)] w fun e w' => e = .returned (.int .i64 ((cnt F n : Nat) : Int)) ∧ w' = w := by
  have c0 := h.cells.1
  have hn2 := h.most
  have HA := Lib.hid h
  clear h
  go_enter Tryd.func21, Tryd.ntmps21
  go_wp2_with fail
  go_loopw [3, 4] (fun c i wr => ∃ k : Nat, k ≤ n ∧ i = .int .i64 k ∧ c = .int .i64 ((cnt F k : Nat) : Int) ∧ wr = w) (fun _ i _ => n - (intOf i).toNat)
  case atStart => exact ⟨0, by omega, rfl, rfl, rfl⟩
  case round =>
    obtain ⟨k, hk, rfl, rfl, rfl⟩ := hrel
    have hle := cnt_le F k
    by_cases hlt : k < n
    · have hc := (HA.out.hl.cell hlt).trans (ls_at hlt)
      have h0 : (0 : Int) ≤ k := by omega
      have h1 : (k : Int) < n := by omega
      have hz : (stL F D k == 0) = F k := stL_zero F D k
      have hw1 : IntKind.i64.wrap ((k : Int) + 1) = ((k + 1 : Nat) : Int) := wrap_i64n (n := k + 1) (by omega)
      have HS := Lib.hid (cnt_succ F k)
      have hw2 : IntKind.i64.wrap (((cnt F k : Nat) : Int) + 1) = ((cnt F k + 1 : Nat) : Int) := wrap_i64n (n := cnt F k + 1) (by omega)
      generalize F k = f at hz HS
      generalize stL F D k = x at hc hz
      generalize cnt F k = a at hw2 HS hle ⊢
      cases f
      · go_wp2_with fail
        go_roundw
        case rel => exact ⟨k + 1, by omega, by go_num, by rw [HS.out]; rfl, trivial⟩
        case measure => simp [intOf]; omega
      · go_wp2_with fail
        go_roundw
        case rel => exact ⟨k + 1, by omega, by go_num, by rw [HS.out]; first | rfl | go_num, trivial⟩
        case measure => simp [intOf]; omega
    · have hkn : k = n := by omega
      subst hkn
      go_wp2_with fail
      go_ret
      first | exact ⟨rfl, rfl⟩ | exact ⟨rfl, trivial⟩
theorem int_info : (Tryd.prog.info? 3).map (fun i => (i.zero, i.size, i.bytes)) = some (some (Value.int .i64 0), 1, 8) := by kernel_rfl
set_option maxHeartbeats 2000000 in
theorem copied_call {w : World} {g c n : Nat} {xs : List Value} (h : RowAt w g c n xs) (hl : xs.length = n) (hn : 0 < n) (hn2 : n ≤ 1024) (h1 : ∀ u ∈ xs, u.oneCell' = true) :
    Calls Tryd.prog 36 #[.slice (some ⟨g, 0, none⟩) n c] w fun e w' => ∃ g' c', e = .returned (.slice (some ⟨g', 0, none⟩) n c') ∧ w.heap.size ≤ g' ∧ RowAt w' g' c' n xs ∧ w.grownBy w' none := by
  obtain ⟨i0, hi0, hzz⟩ := Option.map_eq_some_iff.1 int_info
  obtain ⟨hz0, hz1, hz2⟩ : i0.zero = some (Value.int .i64 0) ∧ i0.size = 1 ∧ i0.bytes = 8 := by simpa using hzz
  have hi := Lib.hid hi0; have z0 := Lib.hid hz0; have z1 := Lib.hid hz1; have z2 := Lib.hid hz2
  clear hi0 hz0 hz1 hz2 hzz
  have H1 := Lib.hid h1; have HL := Lib.hid hl; have HH := Lib.hid h
  clear h1 hl h
  go_enter Tryd.func36, Tryd.ntmps36
  go_wp2_with (at_builtin
               refine wpList_append_own _ rfl (.tmp 4) (.tmp 5) _ rfl w.heap.size 3 i0 _ 1 8 Tryd.underlying49 hi.out z0.out z1.out z2.out rfl (by omega) _ 0 _ rfl
                 (World.ownsRow_nil ..) ⟨g, 0, none⟩ n c xs rfl (by rw [HL.out, Nat.mul_one]) (fun j u hu => by
                   have e1 : (⟨g, 0, none⟩ : Addr).add j = ⟨g, j, none⟩ := by unfold Addr.add; split <;> simp_all
                   have hj : j < n := by
                     have := (List.getElem?_eq_some_iff.1 hu).1
                     have := HL.out; omega
                   rw [e1, HH.out.cell hj, hu])
                 H1.out (by simp only [maxLen]; omega) (by omega) (by simp) ?_
               intro v' w6 hown' hgr' _
               have HO6 := Lib.hid hown'; have HG6 := Lib.hid hgr'; clear hown' hgr')
  go_ret
  have ho := HO6.out
  rw [Nat.zero_add, List.nil_append] at ho
  obtain ⟨g', c', rfl, hb, hr⟩ := rowAt_of_owns ho hn
  exact ⟨g', c', rfl, hb, hr, HG6.out⟩
theorem ls_one (F D : Nat → Bool) (n : Nat) : ∀ u ∈ ls F D n, u.oneCell' = true := by
  intro u hu
  simp [ls] at hu
  obtain ⟨i, _, rfl⟩ := hu
  rfl
set_option maxHeartbeats 2000000 in
theorem r_undo (h : Rf w B r gl cl gs cs n F D S) :
    Calls Tryd.prog 19 #[.pointer (some ⟨r, 0, none⟩)] w fun e w' => e = .returned (.tuple #[]) ∧ ∃ gl' cl', Rf w' B r gl' cl' gs cs n S (fun _ => false) S ∧ Turn w w' (own3 r gl gs) (own3 r gl' gs) := by
  have HC := Lib.hid (copied_call h.hs (ls_len _ _ _) (by have := h.one; omega) h.most (ls_one _ _ _))
  obtain ⟨c0, c1⟩ := h.cells
  have HA := Lib.hid h
  clear h
  go_enter Tryd.func19, Tryd.ntmps19
  go_wp2_with (go_at_call 36
               refine HC.out.mono ?_
               rintro e w' ⟨g', c', rfl, hg', hrow, hgr⟩
               have d0 := (HA.out.grown hgr).cells.1
               have df := (HA.out.grown hgr).hr.frozen 0
               have HB := Lib.hid hg'; have HR := Lib.hid hrow; have HG := Lib.hid hgr
               clear hg' hrow hgr)
  go_end0
  have hA := HA.out.grown HG.out
  have hg1 : w'.grownBy (w'.setCell ⟨r, 0, none⟩ (.slice (some ⟨g', 0, none⟩) n c')) (some r) := only_set (World.grownBy.refl _ _) _ _
  have hrg : r < w.heap.size := HA.out.hr.lt
  have hsg : gs < w.heap.size := HA.out.hs.lt
  refine ⟨rfl, g', c', ⟨hA.hr.set_ 0 _, HR.out.grown hg1 (by have := HB.out; simp; omega), hA.hs.grown hg1 (by simpa using hA.rs), by have := HB.out; omega, hA.one, hA.most, fun _ _ => rfl, hA.Br, by have := HB.out; have := HA.out.Br; omega, hA.Bs⟩, ?_⟩
  have t1 : Turn w w' (own3 r gl gs) (own3 r g' gs) := ⟨HG.out.os, HG.out.tape, HG.out.output, HG.out.size, fun i hi _ => HG.out.block i hi (by simp), fun i hi => by
    rcases hi with rfl | rfl | rfl
    · exact .inl (.inl rfl)
    · exact .inr HB.out
    · exact .inl (.inr (.inr rfl))⟩
  exact t1.trans (.of_grown hg1 (fun j hj => by cases hj; exact .inl rfl))
/-- What a Settle's loop has reached. -/
def upF (F D : Nat → Bool) (k : Nat) : Nat → Bool := fun p => F p || (decide (p < k) && D p)
def upD (D : Nat → Bool) (k : Nat) : Nat → Bool := fun p => !decide (p < k) && D p
theorem upF_zero (F D : Nat → Bool) : upF F D 0 = F := by funext p; simp [upF]
theorem upD_zero (D : Nat → Bool) : upD D 0 = D := by funext p; simp [upD]
theorem up_step (F D : Nat → Bool) (k : Nat) (hd : ∀ p, F p = true → D p = false) (p : Nat) (hp : p ≠ k) : stL (upF F D k) (upD D k) p = stL (upF F D (k + 1)) (upD D (k + 1)) p := by
  have : decide (p < k) = decide (p < k + 1) := decide_eq_decide.2 (by omega)
  have h1 : upF F D k p = upF F D (k + 1) p := by unfold upF; rw [this]
  have h2 : upD D k p = upD D (k + 1) p := by unfold upD; rw [this]
  unfold stL
  rw [h1, h2]
theorem up_same (F D : Nat → Bool) (k : Nat) (h : D k = false) : upF F D (k + 1) = upF F D k ∧ upD D (k + 1) = upD D k := by
  constructor
  · funext p
    by_cases hp : p = k
    · simp [upF, hp, h]
    · simp only [upF, show decide (p < k) = decide (p < k + 1) from decide_eq_decide.2 (by omega)]
  · funext p
    by_cases hp : p = k
    · simp [upD, hp, h]
    · simp only [upD, show decide (p < k) = decide (p < k + 1) from decide_eq_decide.2 (by omega)]
theorem up_dis {F D : Nat → Bool} (k : Nat) (hd : ∀ p, F p = true → D p = false) : ∀ p, upF F D k p = true → upD D k p = false := by
  intro p hp
  have := hd p
  by_cases hk : p < k
  · simp [upD, hk]
  · simp [upF, hk] at hp
    simp [upD, hd p hp]
set_option maxHeartbeats 2000000 in
theorem r_settle (h : Rf w B r gl cl gs cs n F D S) (hD : ∀ p, n ≤ p → D p = false) :
    Calls Tryd.prog 17 #[.pointer (some ⟨r, 0, none⟩)] w fun e w' => e = .returned (.tuple #[]) ∧ ∃ gs' cs', Rf w' B r gl cl gs' cs' n (fun p => F p || D p) (fun _ => false) (fun p => F p || D p) ∧ Turn w w' (own3 r gl gs) (own3 r gl gs') := by
  have hn2 := h.most
  have HA := Lib.hid h; have HD := Lib.hid hD
  clear h hD
  go_enter Tryd.func17, Tryd.ntmps17
  go_wp2_with fail
  go_loopw [2] (fun i wr => ∃ k : Nat, k ≤ n ∧ i = .int .i64 k ∧ Rf wr B r gl cl gs cs n (upF F D k) (upD D k) S ∧ Turn w wr (own3 r gl gs) (own3 r gl gs)) (fun i _ => n - (intOf i).toNat)
  case atStart => exact ⟨0, by omega, rfl, by rw [upF_zero, upD_zero]; exact HA.out, Turn.refl _ _⟩
  case round =>
    obtain ⟨k, hk, rfl, hrf, ht⟩ := hrel
    have HT := Lib.hid ht; have HR := Lib.hid hrf
    have c0 := hrf.cells.1
    clear ht hrf
    by_cases hlt : k < n
    · have hc := (HR.out.hl.cell hlt).trans (ls_at hlt)
      have hfz := HR.out.hl.fz k
      have h0 : (0 : Int) ≤ k := by omega
      have h1 : (k : Int) < n := by omega
      have hz : (stL (upF F D k) (upD D k) k == 2) = D k := by
        rw [stL_two (HR.out.dis k)]; simp [upD]
      have hw1 : IntKind.i64.wrap ((k : Int) + 1) = ((k + 1 : Nat) : Int) := wrap_i64n (n := k + 1) (by omega)
      by_cases hDk : D k = true
      · have HP := Lib.hid (HR.out.put (F' := upF F D (k + 1)) (D' := upD D (k + 1)) hlt 0 (by simp [stL, upF, hDk]) (fun q _ hq => up_step F D k HA.out.dis q hq) (up_dis _ HA.out.dis))
        rw [hDk] at hz
        generalize stL (upF F D k) (upD D k) k = x at hc hz
        clear hDk
        go_wp2_with fail
        go_roundw
        case rel => exact ⟨k + 1, by omega, by go_num, HP.out.1, HT.out.trans HP.out.2⟩
        case measure => simp [intOf]; omega
      · have hDk' : D k = false := by simpa using hDk
        rw [hDk'] at hz
        have HS := Lib.hid (up_same F D k hDk')
        generalize stL (upF F D k) (upD D k) k = x at hc hz
        clear hDk hDk'
        go_wp2_with fail
        go_roundw
        case rel => exact ⟨k + 1, by omega, by go_num, by rw [HS.out.1, HS.out.2]; exact HR.out, HT.out⟩
        case measure => simp [intOf]; omega
    · have hkn : k = n := by omega
      subst hkn
      have HC := Lib.hid (copied_call HR.out.hl (ls_len _ _ _) (by have := HR.out.one; omega) HR.out.most (ls_one _ _ _))
      go_wp2_with (go_at_call 36
                   refine HC.out.mono ?_
                   rintro e w' ⟨g', c', rfl, hg', hrow, hgr⟩
                   have d0 := (HR.out.grown hgr).cells.2
                   have df := (HR.out.grown hgr).hr.frozen 1
                   have HB := Lib.hid hg'; have HRW := Lib.hid hrow; have HG := Lib.hid hgr
                   clear hg' hrow hgr)
      go_end0
      have hA := HR.out.grown HG.out
      have hg1 : w'.grownBy (w'.setCell ⟨r, 1, none⟩ (.slice (some ⟨g', 0, none⟩) k c')) (some r) := only_set (World.grownBy.refl _ _) _ _
      have hrg : r < wr.heap.size := HR.out.hr.lt
      have hlg : gl < wr.heap.size := HR.out.hl.lt
      have e1 : upF F D k = fun p => F p || D p := funext fun p => by
        by_cases hp : p < k
        · simp [upF, hp]
        · simp [upF, hp, HD.out p (by omega)]
      have e2 : upD D k = fun _ => false := funext fun p => by
        by_cases hp : p < k
        · simp [upD, hp]
        · simp [upD, HD.out p (by omega)]
      have hrow := HRW.out
      rw [e1, e2] at hrow hA
      refine ⟨rfl, g', c', ⟨hA.hr.set_ 1 _, hA.hl.grown hg1 (by simpa using hA.rl), hrow.grown hg1 (by have := HB.out; simp; omega), by have := HB.out; omega, hA.one, hA.most, fun _ _ => rfl, hA.Br, hA.Bl, by have := HB.out; have := hA.Br; omega⟩, ?_⟩
      have t1 : Turn wr w' (own3 r gl gs) (own3 r gl g') := ⟨HG.out.os, HG.out.tape, HG.out.output, HG.out.size, fun i hi _ => HG.out.block i hi (by simp), fun i hi => by
        rcases hi with rfl | rfl | rfl
        · exact .inl (.inl rfl)
        · exact .inl (.inr (.inl rfl))
        · exact .inr HB.out⟩
      exact (HT.out.trans t1).trans (.of_grown hg1 (fun j hj => by cases hj; exact .inl rfl))
theorem bump_last {l : List (Nat × Nat)} (h : l ≠ []) : ∃ l' x, l = l' ++ [x] ∧ bump l = l' ++ [(x.1, x.2 + 1)] := by
  refine ⟨l.dropLast, l.getLast h, (List.dropLast_concat_getLast h).symm, ?_⟩
  conv => lhs; rw [← List.dropLast_concat_getLast h]
  exact bump_snoc _ _ _
theorem runsUp_ne (F : Nat → Bool) : ∀ k, 0 < k → F (k - 1) = true → runsUp F k ≠ []
  | 0, h, _ => by omega
  | k + 1, _, h => by
    simp only [Nat.add_sub_cancel] at h
    simp only [runsUp]
    rw [if_pos h]
    split
    next h2 =>
      intro e
      have := congrArg List.length e
      rw [bump_len] at this
      exact runsUp_ne F k h2.1 h2.2 (List.eq_nil_of_length_eq_zero this)
    next => simp
theorem runsUp_val (F : Nat → Bool) : ∀ k x, x ∈ runsUp F k → x.1 + x.2 ≤ k
  | 0, x, h => by simp [runsUp] at h
  | k + 1, x, h => by
    simp only [runsUp] at h
    split at h
    next hF =>
      split at h
      next h2 =>
        obtain ⟨l', y, e1, e2⟩ := bump_last (runsUp_ne F k h2.1 h2.2)
        rw [e2] at h
        rcases List.mem_append.1 h with h | h
        · have := runsUp_val F k x (by rw [e1]; exact List.mem_append_left _ h)
          omega
        · have := runsUp_val F k y (by rw [e1]; simp)
          simp at h
          subst h
          simp; omega
      next =>
        rcases List.mem_append.1 h with h | h
        · have := runsUp_val F k x h
          omega
        · simp at h
          subst h
          simp
    next => have := runsUp_val F k x h; omega
/-- The cell of the last one's length. -/
theorem owns_last {w : World} {base g cap : Nat} {l' : List (Nat × Nat)} {x : Nat × Nat} (h : w.ownsRow base 40 2 (.slice (some ⟨g, 0, none⟩) (l'.length + 1) cap) (l'.length + 1) (enCs (l' ++ [x]))) (v : Nat) :
    w.cell? ⟨g, l'.length * 2 + 1, none⟩ = some (.int .i64 (x.2 : Nat)) ∧ w.frozen? ⟨g, l'.length * 2 + 1, none⟩ = false ∧
    (w.setCell ⟨g, l'.length * 2 + 1, none⟩ (.int .i64 (v : Nat))).ownsRow base 40 2 (.slice (some ⟨g, 0, none⟩) (l'.length + 1) cap) (l'.length + 1) (enCs (l' ++ [(x.1, v)])) := by
  obtain ⟨h1, h2 | ⟨g', cap', cur, e, hb, hh, h3, h4, h5, h6⟩⟩ := h
  · cases h2.1
  · injection e with e1 e2 e3
    injection e1 with e1
    injection e1 with e1 _ _
    subst e1 e3
    have hb2 : Blk w g 40 cur := hh
    have hlen := enCs_len l'
    have hat : (enCs (l' ++ [x]))[l'.length * 2 + 1]? = some (.int .i64 (x.2 : Nat)) := by
      rw [enCs_snoc, List.getElem?_append_right (by rw [hlen]; omega), hlen, show l'.length * 2 + 1 - l'.length * 2 = 1 by omega]
      rfl
    refine ⟨?_, hb2.frozen _, ?_, .inr ⟨g, cap, _, rfl, hb, hb2.set_ _ _, h3, h4, by simpa using h5, ?_⟩⟩
    · rw [hb2.cell, ← hat, ← h6, List.getElem?_take_of_lt (by omega), Array.getElem?_toList]
    · rw [enCs_len]; simp
    · rw [Array.toList_setIfInBounds, List.take_set, h6]
      rw [enCs_snoc, enCs_snoc, List.set_append_right _ _ (by rw [hlen]; omega), hlen, show l'.length * 2 + 1 - l'.length * 2 = 1 by omega]
      rfl
set_option maxHeartbeats 4000000 in
theorem r_runs (h : Rf w B r gl cl gs cs n F D S) :
    Calls Tryd.prog 26 #[.pointer (some ⟨r, 0, none⟩)] w fun e w' => ∃ v, e = .returned v ∧ w'.ownsRow w.heap.size 40 2 v (runsUp F n).length (enCs (runsUp F n)) ∧ w.grownBy w' none := by
  obtain ⟨i0, hi0, hzz⟩ := Option.map_eq_some_iff.1 ent_info
  obtain ⟨hz0, hz1, hz2⟩ : i0.zero = some (Value.agg #[.int .i64 0, .int .i64 0]) ∧ i0.size = 2 ∧ i0.bytes = 16 := by simpa using hzz
  have hi := Lib.hid hi0; have z0 := Lib.hid hz0; have z1 := Lib.hid hz1; have z2 := Lib.hid hz2
  clear hi0 hz0 hz1 hz2 hzz
  have HA := Lib.hid h
  have hn2 := h.most
  clear h
  go_enter Tryd.func26, Tryd.ntmps26
  go_wp2_with fail
  go_loopw [3, 4] (fun v i wr => ∃ k : Nat, k ≤ n ∧ i = .int .i64 k ∧ wr.ownsRow w.heap.size 40 2 v (runsUp F k).length (enCs (runsUp F k)) ∧ w.grownBy wr none) (fun _ i _ => n - (intOf i).toNat)
  case atStart => exact ⟨0, by omega, rfl, World.ownsRow_nil .., World.grownBy.refl _ _⟩
  case round =>
    obtain ⟨k, hk, rfl, hrow, hg⟩ := hrel
    have c0 := (HA.out.grown hg).cells.1
    have HAr := Lib.hid (HA.out.grown hg)
    have HROW := Lib.hid hrow; have HG := Lib.hid hg
    clear hrow hg
    by_cases hlt : k < n
    · have hc := (HAr.out.hl.cell hlt).trans (ls_at hlt)
      have h0 : (0 : Int) ≤ k := by omega
      have h1 : (k : Int) < n := by omega
      have hz : (stL F D k == 0) = F k := stL_zero F D k
      have hz2 : (stL F D k != 0) = !F k := by rw [bne, hz]
      have hw1 : IntKind.i64.wrap ((k : Int) + 1) = ((k + 1 : Nat) : Int) := wrap_i64n (n := k + 1) (by omega)
      have hlen := runsUp_len F k
      have hsz := HG.out.size
      by_cases hF : F k = true
      · rw [hF] at hz hz2
        by_cases hb : 0 < k ∧ F (k - 1) = true
        · have HS : Hid (runsUp F (k + 1) = bump (runsUp F k)) := Lib.hid (by simp only [runsUp]; rw [if_pos hF, if_pos hb])
          obtain ⟨l', x, hl, hbump⟩ := bump_last (runsUp_ne F k hb.1 hb.2)
          have hxv := runsUp_val F k x (by rw [hl]; simp)
          obtain ⟨j, rfl⟩ : ∃ j, k = j + 1 := ⟨k - 1, by omega⟩
          have hFj : F j = true := hb.2
          have hcj := (HAr.out.hl.cell (show j < n by omega)).trans (ls_at (show j < n by omega))
          have hzj : (stL F D j == 0) = F j := stL_zero F D j
          rw [hFj] at hzj
          have hrow := HROW.out
          rw [hl, List.length_append] at hrow
          obtain ⟨_, hrow2 | ⟨g, cap, cur, rfl, _⟩⟩ := hrow
          · exact absurd hrow2.2 (by simp)
          · have hown := HROW.out
            rw [hl, List.length_append] at hown
            obtain ⟨hcl, hfl, hnew⟩ := owns_last hown (x.2 + 1)
            have hg1 : w.grownBy (wr.setCell ⟨g, l'.length * 2 + 1, none⟩ (.int .i64 ((x.2 + 1 : Nat) : Int))) none :=
              grownBy_new HG.out (only_set (World.grownBy.refl _ (some g)) _ _) (fun j hj => by cases hj; exact (owns_base HROW.out g rfl).1)
            have HN := Lib.hid hnew; have HG1 := Lib.hid hg1
            rw [hbump] at HS
            have hll : l'.length ≤ j := by rw [hl] at hlen; simp at hlen; omega
            have HLEN : Hid ((l' ++ [(x.1, x.2 + 1)]).length = l'.length + 1) := Lib.hid (by simp)
            have hlen1 : (runsUp F (j + 1)).length = l'.length + 1 := by rw [hl]; simp
            clear hown hnew hg1 hF hb hFj hl hbump
            have h2 : (0 : Int) < ((j + 1 : Nat) : Int) := by omega
            have hw3 : IntKind.i64.wrap (((j + 1 : Nat) : Int) - 1) = (j : Int) := by rw [← wrap_i64n (n := j) (by omega)]; congr 1; omega
            obtain ⟨t, ht⟩ : ∃ t, l'.length = t := ⟨_, rfl⟩
            rw [ht] at hcl hfl hll hlen1
            have hw4 : IntKind.i64.wrap (((t + 1 : Nat) : Int) - 1) = (t : Int) := by rw [← wrap_i64n (n := t) (by omega)]; congr 1; omega
            have hw5 : IntKind.i64.wrap ((x.2 : Int) + 1) = ((x.2 + 1 : Nat) : Int) := wrap_i64n (n := x.2 + 1) (by omega)
            have h3 : (0 : Int) ≤ (j : Int) := by omega
            have h4 : (j : Int) < n := by omega
            have h5 : (0 : Int) ≤ (t : Int) := by omega
            have h6 : (t : Int) < ((t + 1 : Nat) : Int) := by omega
            generalize stL F D (j + 1) = y at hc hz hz2
            generalize stL F D j = z at hcj hzj
            go_wp2_with fail
            have hn := HN.out; have hg2 := HG1.out
            rw [ht, show ((x.2 + 1 : Nat) : Int) = (x.2 : Int) + 1 from rfl] at hn hg2
            refine ⟨⟨j + 1 + 1, by omega, by go_num, ?_, hg2⟩, ?_⟩
            · rw [HS.out, HLEN.out, ht]
              show World.ownsRow _ _ _ _ (.slice _ (t + 1) cap) _ _
              exact hn
            · simp [intOf]; omega
        · have HS : Hid (runsUp F (k + 1) = runsUp F k ++ [(k, 1)]) := Lib.hid (by simp only [runsUp]; rw [if_pos hF, if_neg hb])
          have hprev : k = 0 ∨ (0 < k ∧ F (k - 1) = false) := by
            by_cases h : k = 0
            · exact .inl h
            · exact .inr ⟨by omega, by simpa using fun e => hb ⟨by omega, e⟩⟩
          clear hb
          have HAP : ∀ (v' : Value) (w6 : World), w6.ownsRow w.heap.size 40 2 v' ((runsUp F k).length + 1) (enCs (runsUp F k) ++ [.int .i64 (k : Nat), .int .i64 1]) → w6.ownsRow w.heap.size 40 2 v' (runsUp F (k + 1)).length (enCs (runsUp F (k + 1))) := fun v' w6 h => by
            rw [HS.out, List.length_append, enCs_snoc]
            exact h
          have HAP := Lib.hid HAP
          clear HS
          rcases hprev with rfl | ⟨hk0, hFp⟩
          · generalize stL F D 0 = y at hc hz hz2
            clear hF
            go_wp2_with (at_builtin
                         refine wpList_append_own _ rfl (.tmp 14) (.tmp 17) _ rfl w.heap.size 40 i0 _ 2 16 Tryd.underlying35 hi.out z0.out z1.out z2.out rfl (by omega) _ (runsUp F 0).length _ rfl
                           (owns_keep HROW.out (World.grownBy_alloc wr _ none) (by simp)) ⟨wr.heap.size, 0, none⟩ 1 1 [.int .i64 ((0 : Nat) : Int), .int .i64 1] rfl rfl (fun j u hu => new_ent _ _ _ j u hu)
                           (fun u hu => by simp at hu; rcases hu with rfl | rfl <;> rfl) (by simp only [maxLen]; omega) (by omega) (by simp; omega) ?_
                         intro v' w6 hown' hgr' _
                         have HO6 := Lib.hid hown'; have HG6 := Lib.hid hgr'; clear hown' hgr')
            go_roundw
            case rel => exact ⟨0 + 1, by omega, by go_num, HAP.out _ _ HO6.out, grownBy_new (HG.out.trans (World.grownBy_alloc wr _ none)) HG6.out (fun j hj => (owns_base HROW.out j hj).1)⟩
            case measure => simp [intOf]; omega
          · obtain ⟨j, rfl⟩ : ∃ j, k = j + 1 := ⟨k - 1, by omega⟩
            have hcj := (HAr.out.hl.cell (show j < n by omega)).trans (ls_at (show j < n by omega))
            have hzj : (stL F D j == 0) = F j := stL_zero F D j
            rw [show F j = false from hFp] at hzj
            have h2 : (0 : Int) < ((j + 1 : Nat) : Int) := by omega
            have hw3 : IntKind.i64.wrap (((j + 1 : Nat) : Int) - 1) = (j : Int) := by rw [← wrap_i64n (n := j) (by omega)]; congr 1; omega
            have h3 : (0 : Int) ≤ (j : Int) := by omega
            have h4 : (j : Int) < n := by omega
            generalize stL F D (j + 1) = y at hc hz hz2
            generalize stL F D j = z at hcj hzj
            clear hF hFp
            go_wp2_with (at_builtin
                         refine wpList_append_own _ rfl (.tmp 14) (.tmp 17) _ rfl w.heap.size 40 i0 _ 2 16 Tryd.underlying35 hi.out z0.out z1.out z2.out rfl (by omega) _ (runsUp F (j + 1)).length _ rfl
                           (owns_keep HROW.out (World.grownBy_alloc wr _ none) (by simp)) ⟨wr.heap.size, 0, none⟩ 1 1 [.int .i64 ((j + 1 : Nat) : Int), .int .i64 1] rfl rfl (fun j u hu => new_ent _ _ _ j u hu)
                           (fun u hu => by simp at hu; rcases hu with rfl | rfl <;> rfl) (by simp only [maxLen]; omega) (by omega) (by simp; omega) ?_
                         intro v' w6 hown' hgr' _
                         have HO6 := Lib.hid hown'; have HG6 := Lib.hid hgr'; clear hown' hgr')
            refine ⟨⟨j + 1 + 1, by omega, by go_num, HAP.out _ _ HO6.out, grownBy_new (HG.out.trans (World.grownBy_alloc wr _ none)) HG6.out (fun j hj => (owns_base HROW.out j hj).1)⟩, ?_⟩
            simp [intOf]; omega
      · have hF' : F k = false := by simpa using hF
        rw [hF'] at hz hz2
        have HS := Lib.hid (show runsUp F (k + 1) = runsUp F k from by simp only [runsUp]; rw [if_neg hF])
        generalize stL F D k = x at hc hz hz2
        clear hF hF'
        go_wp2_with fail
        go_roundw
        case rel => exact ⟨k + 1, by omega, by go_num, by rw [HS.out]; exact HROW.out, HG.out⟩
        case measure => simp [intOf]; omega
    · have hkn : k = n := by omega
      subst hkn
      go_wp2_with fail
      go_ret
      exact ⟨_, rfl, HROW.out, HG.out⟩
set_option maxHeartbeats 1000000 in
theorem r_new_none (n : Int) (w : World) (hn : n < 1 ∨ 1024 < n) :
    Calls Tryd.prog 8 #[.int .i64 n] w fun e w' => e = .returned (.pointer none) ∧ w' = w := by
  by_cases h1 : n < 1
  · go_enter Tryd.func8, Tryd.ntmps8
    go_wp2_with fail
    all_goals go_ret
    all_goals exact ⟨rfl, rfl⟩
  · have h2 : 1024 < n := by omega
    clear hn
    go_enter Tryd.func8, Tryd.ntmps8
    go_wp2_with fail
    all_goals go_ret
    all_goals exact ⟨rfl, rfl⟩
theorem run_nums (n : Nat) (h : n ≤ 1024) (w : World) : (Instr.makeSlice 49 (.int .i64 n) (.int .i64 n)).run Tryd.prog w = .ok (.slice (some ⟨w.heap.size, 0, none⟩) n n) (w.alloc (.cells (List.replicate n (Value.int .i64 0)).toArray 3)) := by
  rw [run_make_row' (P := Tryd.prog) 49 3 _ 8 Tryd.underlying49 int_info rfl .i64 .i64 n (by omega) (by omega), made_row]
theorem ls_new (n : Nat) : ls (fun p => decide (p < n)) (fun _ => false) n = List.replicate n (Value.int .i64 0) := by
  apply List.ext_getElem?
  intro i
  by_cases hi : i < n
  · rw [ls_at hi]; simp [stL, hi]
  · rw [List.getElem?_eq_none (by rw [ls_len]; omega), List.getElem?_eq_none (by simp; omega)]
theorem r_at_new (w : World) (n gl gs : Nat) (hn : 1 ≤ n) (hn2 : n ≤ 1024) (hg : (gl = w.heap.size ∧ gs = w.heap.size + 1) ∨ (gl = w.heap.size + 1 ∧ gs = w.heap.size)) :
    Rf (((w.alloc (.cells (Array.replicate n (Value.int .i64 0)) 3)).alloc (.cells (Array.replicate n (Value.int .i64 0)) 3)).alloc (.cells #[.slice (some ⟨gl, 0, none⟩) n n, .slice (some ⟨gs, 0, none⟩) n n] 51))
      w.heap.size (w.heap.size + 1 + 1) gl n gs n n (fun p => decide (p < n)) (fun _ => false) (fun p => decide (p < n)) := by
  have row : ∀ {W : World} {g : Nat}, Blk W g 3 (Array.replicate n (Value.int .i64 0)) → RowAt W g n n (ls (fun p => decide (p < n)) (fun _ => false) n) := fun hb => ⟨_, hb, by simp, Nat.le_refl _, by simp only [maxLen]; omega, by rw [ls_new]; simp⟩
  have h1 := Blk.new w 3 (Array.replicate n (Value.int .i64 0))
  have s1 := grow3 w (.cells (Array.replicate n (Value.int .i64 0)) 3)
  generalize hw1 : w.alloc (.cells (Array.replicate n (Value.int .i64 0)) 3) = w1 at h1 s1 ⊢
  have h2 := Blk.new w1 3 (Array.replicate n (Value.int .i64 0))
  have s2 := grow3 w1 (.cells (Array.replicate n (Value.int .i64 0)) 3)
  have h12 := h1.alloc (.cells (Array.replicate n (Value.int .i64 0)) 3)
  generalize hw2 : w1.alloc (.cells (Array.replicate n (Value.int .i64 0)) 3) = w2 at h2 s2 h12 ⊢
  have h3 := Blk.new w2 51 #[.slice (some ⟨gl, 0, none⟩) n n, .slice (some ⟨gs, 0, none⟩) n n]
  rw [s1] at h2
  rw [show w2.heap.size = w.heap.size + 1 + 1 by omega] at h3
  rcases hg with ⟨rfl, rfl⟩ | ⟨rfl, rfl⟩
  · exact ⟨h3, row (h12.alloc _), row (h2.alloc _), by omega, hn, hn2, fun _ _ => rfl, by omega, by omega, by omega⟩
  · exact ⟨h3, row (h2.alloc _), row (h12.alloc _), by omega, hn, hn2, fun _ _ => rfl, by omega, by omega, by omega⟩
set_option maxHeartbeats 2000000 in
theorem r_new (n : Nat) (w : World) (hn : 1 ≤ n) (hn2 : n ≤ 1024) :
    Calls Tryd.prog 8 #[.int .i64 n] w fun e w' => ∃ r gl cl gs cs, e = .returned (.pointer (some ⟨r, 0, none⟩)) ∧ Rf w' w.heap.size r gl cl gs cs n (fun p => decide (p < n)) (fun _ => false) (fun p => decide (p < n)) ∧ w.grownBy w' none := by
  have hmk := run_nums n hn2
  have hd1 : decide ((n : Int) < 1) = false := decide_eq_false (by omega)
  have hd2 : decide (1024 < (n : Int)) = false := decide_eq_false (by omega)
  go_enter Tryd.func8, Tryd.ntmps8
  go_wp2_with fail
  go_region
  all_goals go_wp2
  all_goals go_ret
  · exact ⟨_, _, _, _, _, rfl, (r_at_new w n _ _ hn hn2 (.inl ⟨rfl, rfl⟩)).grown (grown_drew _ none), only_drew (((World.grownBy_alloc _ _ none).trans (World.grownBy_alloc _ _ none)).trans (World.grownBy_alloc _ _ none))⟩
  · exact ⟨_, _, _, _, _, rfl, (r_at_new w n _ _ hn hn2 (.inr ⟨rfl, rfl⟩)).grown (grown_drew _ none), only_drew (((World.grownBy_alloc _ _ none).trans (World.grownBy_alloc _ _ none)).trans (World.grownBy_alloc _ _ none))⟩
end
end Go.Proofs.YtldbfhgkicphkaaDoor.Alc
