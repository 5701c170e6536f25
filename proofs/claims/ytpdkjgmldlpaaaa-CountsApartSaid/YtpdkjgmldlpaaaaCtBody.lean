/- The project's counts: part, Body, Load. -/
import Derived.Test.YtpdkjgmldlpaaaaCtTouch
import Derived.Laws.CopyRow
import Derived.Lib.MinMax
namespace Go.Proofs.Ytpdkjgmldlpaaaa.Cts
open Go.RowKit CrcMath CodecMath Mem Crc Codec
set_option linter.unusedVariables false
set_option linter.unusedSimpArgs false

section
variable {w : World} {B q rb mb_ n : Nat} {x : Ct}
def endN (n i : Nat) : Nat := min (120 * i + 120) n
set_option maxHeartbeats 1000000 in
theorem part_call (h : CtAt w B q rb mb_ n x) {i : Nat} (hi : i < manyN n) :
    Calls Try.prog 31 #[.pointer (some ⟨q, 0, none⟩), .int .i64 (i : Nat)] w fun e w' => e = .returned (.tuple #[.int .i64 ((120 * i : Nat) : Int), .int .i64 ((endN n i : Nat) : Int)]) ∧ w' = w.drew := by
  obtain ⟨c0, _⟩ := h.cells
  have hn := h.b64
  have hi2 : i ≤ 8 := by unfold manyN at hi; omega
  clear h hi
  go_enter Try.func31, Try.ntmps31
  go_wp2
  go_region
  go_wp2
  go_ret2
  rw [show ((120 * i : Nat) : Int) = (i : Int) * 120 by omega, show ((endN n i : Nat) : Int) = min ((i : Int) * 120 + 120) n by unfold endN; omega]
  exact ⟨rfl, rfl⟩
theorem isReferred_call (w : World) (u : Int) : Calls Try.prog 33 #[.int .i64 u] w fun e w' => e = .returned (.bool (decide (0 < u))) ∧ w' = w := by
  go_enter Try.func33, Try.ntmps33
  go_wp2
  go_ret
  exact ⟨rfl, rfl⟩
set_option maxHeartbeats 1000000 in
theorem indexFunc_call {w : World} {b : Nat} {A : Option Addr} {m c : Nat} {l : List Int} (h : Ints w b A m l) (hm : m ≤ 1048576) :
    Calls Try.prog 43 #[.slice A m c, .func (.func 33) #[] #[]] w fun e w' => w' = w ∧ ((e = .returned (.int .i64 (-1)) ∧ ∀ k, k < m → l.getD k 0 ≤ 0) ∨ ∃ j : Nat, j < m ∧ e = .returned (.int .i64 j) ∧ 0 < l.getD j 0) := by
  have HL := Lib.hid h.1
  have HC := Lib.hid h.2.2
  clear h
  go_enter Try.func43, Try.ntmps43
  go_wp2_with fail
  go_loopw [5, 8] (fun _ i wr => ∃ j : Nat, j ≤ m ∧ i = .int .i64 j ∧ wr = w ∧ ∀ k, k < j → l.getD k 0 ≤ 0) (fun _ i _ => m - (RowKit.intOf i).toNat)
  case atStart => exact ⟨0, by omega, rfl, rfl, fun k hk => by omega⟩
  case round =>
    obtain ⟨j, hj, rfl, rfl, hn⟩ := hrel
    have HN := Lib.hid hn; clear hn
    by_cases hlt : j < m
    · obtain ⟨g, o, rfl, hg, _, hc⟩ := HC.out (by omega)
      have hcj := hc j hlt
      clear hc
      obtain ⟨u, hu⟩ : ∃ u, l.getD j 0 = u := ⟨_, rfl⟩
      rw [hu] at hcj
      have HU := Lib.hid hu; clear hu
      by_cases he : 0 < u
      · have HR := Lib.hid (isReferred_call wr u)
        rw [decide_eq_true he] at HR
        go_wp2_with (go_at_call 33; refine HR.out.mono ?_; rintro e w' ⟨rfl, rfl⟩)
        go_ret
        exact ⟨by first | exact rfl | trivial, .inr ⟨j, hlt, rfl, by rw [HU.out]; exact he⟩⟩
      · have HR := Lib.hid (isReferred_call wr u)
        rw [decide_eq_false he] at HR
        go_wp2_with (go_at_call 33; refine HR.out.mono ?_; rintro e w' ⟨rfl, rfl⟩)
        go_roundw
        case rel =>
          refine ⟨j + 1, by omega, by go_num, by first | exact rfl | trivial, ?_⟩
          intro k hk
          by_cases e : k = j
          · subst e; rw [HU.out]; omega
          · exact HN.out k (by omega)
        case measure => simp [RowKit.intOf]; omega
    · have hjm : j = m := by omega
      subst hjm
      go_wp2_with fail
      go_ret
      exact ⟨by first | exact rfl | trivial, .inl ⟨rfl, HN.out⟩⟩
def anyUp (l : List Int) (m : Nat) : Bool := (List.range m).any fun k => decide (0 < l.getD k 0)
theorem containsFunc_call {w : World} {b : Nat} {A : Option Addr} {m c : Nat} {l : List Int} (h : Ints w b A m l) (hm : m ≤ 1048576) :
    Calls Try.prog 32 #[.slice A m c, .func (.func 33) #[] #[]] w fun e w' => w' = w ∧ e = .returned (.bool (anyUp l m)) := by
  have HI := Lib.hid (indexFunc_call (c := c) h hm)
  clear h
  obtain ⟨d, hd⟩ : ∃ d, anyUp l m = d := ⟨_, rfl⟩
  rw [hd]
  have HD := Lib.hid hd; clear hd
  go_enter Try.func32, Try.ntmps32
  go_wp2_with (go_at_call 43; refine HI.out.mono ?_; rintro e w' ⟨rfl, ⟨rfl, hn⟩ | ⟨j, hj, rfl, hn⟩⟩)
  · obtain rfl : d = false := by
      rw [← HD.out, anyUp, List.any_eq_false]
      intro k hk
      have := hn k (by simpa using hk)
      simp only [decide_eq_true_eq]; omega
    go_ret
    exact ⟨rfl, rfl⟩
  · obtain rfl : d = true := by
      rw [← HD.out, anyUp, List.any_eq_true]
      exact ⟨j, by simpa using hj, by simpa using hn⟩
    go_ret
    exact ⟨rfl, rfl⟩
theorem ints_drop {w : World} {b g o n k : Nat} {l : List Int} (h : Ints w b (some ⟨g, o, none⟩) n l) (hk : k ≤ n) : Ints w b (some ⟨g, o + k, none⟩) (n - k) (l.drop k) := by
  refine ⟨by rw [List.length_drop, h.1], fun y hy => h.2.1 y (List.mem_of_mem_drop hy), fun h0 => ?_⟩
  obtain ⟨g', o', e, hlt, hne, hc⟩ := h.2.2 (by omega)
  cases e
  refine ⟨g, o + k, rfl, hlt, hne, fun j hj => ?_⟩
  rw [Nat.add_assoc, hc (k + j) (by omega)]
  simp [List.getD_eq_getElem?_getD, List.getElem?_drop]
theorem tail_any {n i : Nat} {s : List Int} (hi : i < manyN n) (hs : s.length = 120) (hb : allB s 1000 = true) : anyUp (s.drop (endN n i - 120 * i)) (120 - (endN n i - 120 * i)) = !tailOk n i s := by
  have hi' : 120 * i < n := by unfold manyN at hi; omega
  have he : endN n i = min (120 * i + 120) n := rfl
  cases ht : tailOk n i s with
  | true =>
    rw [anyUp, Bool.not_true, List.any_eq_false]
    intro k hk
    simp only [List.mem_range] at hk
    rw [tailOk, List.all_eq_true] at ht
    have := ht (endN n i - 120 * i + k) (by simp; omega)
    rw [List.getD_eq_getElem?_getD, List.getElem?_drop, ← List.getD_eq_getElem?_getD]
    simp only [Bool.or_eq_true, decide_eq_true_eq] at this
    rcases this with h | h
    · omega
    · rw [h]; simp
  | false =>
    rw [anyUp, Bool.not_false, List.any_eq_true]
    rw [tailOk, List.all_eq_false] at ht
    obtain ⟨k, hk, hk2⟩ := ht
    simp only [List.mem_range, Bool.or_eq_true, decide_eq_true_eq, not_or] at hk hk2
    have hbk := allB_yes hb k (by omega)
    refine ⟨k - (endN n i - 120 * i), by simp; omega, ?_⟩
    rw [List.getD_eq_getElem?_getD, List.getElem?_drop, ← List.getD_eq_getElem?_getD, show endN n i - 120 * i + (k - (endN n i - 120 * i)) = k by omega]
    simp only [decide_eq_true_eq]; omega
theorem one_i64 (l : List Int) : ∀ v ∈ i64s l, v.oneCell' = true := by
  intro v hv
  simp [i64s] at hv
  obtain ⟨y, _, rfl⟩ := hv
  rfl
theorem copy_ints {w : World} {g o m dc gs os s : Nat} {cur l : List Int} (hd : Blk w g 3 (i64s cur).toArray) (hl : l.length = min s m) (hsrc : ∀ j, j < l.length → w.cell? ⟨gs, os + j, none⟩ = some (.int .i64 (l.getD j 0))) (hfit : o + l.length ≤ cur.length) :
    ∃ w', (∀ ty sc, (Builtin.copy_ #[39, 39] ty #[.slice (some ⟨g, o, none⟩) m dc, .slice (some ⟨gs, os, none⟩) s sc]).run Try.prog w = .ok (.int .i64 (l.length : Nat)) w') ∧ w.grownBy w' (some g) ∧ Blk w' g 3 (i64s (cur.take o ++ l ++ cur.drop (o + l.length))).toArray := by
  refine ⟨w.setRow g (i64s (cur.take o ++ l ++ cur.drop (o + l.length))).toArray, fun ty sc => ?_, ⟨rfl, rfl, rfl, by simp [World.setRow], fun k hk hne => setRow_other w g k _ (by intro e; subst e; exact hne rfl)⟩, setRow_heap w g _ _ _ (0, 0) hd⟩
  have hone : (Try.prog.info? 3).map (·.size) = some 1 := by kernel_rfl
  have h := run_copy_row (P := Try.prog) w 39 39 ty 3 g o m dc ⟨gs, os, none⟩ s sc (i64s cur).toArray 3 (i64s l) Try.underlying39 hone hd
    (by rw [i64s_length]; exact hl) (fun j v hv => by
      have hj : j < l.length := by
        have := (List.getElem?_eq_some_iff.1 hv).1
        rwa [i64s_length] at this
      rw [i64s_at _ _ hj] at hv
      injection hv with hv
      subst hv
      have e1 : (⟨gs, os, none⟩ : Addr).add j = ⟨gs, os + j, none⟩ := by unfold Addr.add; split <;> simp_all
      rw [e1]
      exact hsrc j hj) (by rw [i64s_length]; simp [i64s]; exact hfit) (one_i64 l)
  rw [h, i64s_length]
  simp only [i64s, List.map_append, List.map_take, List.map_drop]
  rfl
theorem lay_row {n i : Nat} {f : Nat → Int} {s : List Int} (hi : i < manyN n) (hs : s.length = 120) : (row n f).take (120 * i) ++ s.take (endN n i - 120 * i) ++ (row n f).drop (120 * i + (s.take (endN n i - 120 * i)).length) = row n (lay n f i s) := by
  have hi' : 120 * i < n := by unfold manyN at hi; omega
  have he : endN n i = min (120 * i + 120) n := rfl
  have hl : (s.take (endN n i - 120 * i)).length = endN n i - 120 * i := by rw [List.length_take]; omega
  rw [hl]
  apply List.ext_getElem?
  intro k
  rw [row_get]
  have hr : ∀ j, (row n f)[j]? = if j < n then some (f j) else none := row_get n f
  have hlt : ((row n f).take (120 * i)).length = 120 * i := by rw [List.length_take, row_length]; omega
  rcases Nat.lt_or_ge k (120 * i) with h1 | h1
  · rw [List.append_assoc, List.getElem?_append_left (by omega), List.getElem?_take_of_lt h1, hr, if_pos (by omega), if_pos (by omega), lay, if_neg (by omega)]
  · rcases Nat.lt_or_ge k (endN n i) with h2 | h2
    · rw [List.append_assoc, List.getElem?_append_right (by omega), hlt, List.getElem?_append_left (by omega), List.getElem?_take_of_lt (by omega), if_pos (by omega), lay, if_pos (by omega), List.getD_eq_getElem?_getD, List.getElem?_eq_getElem (by omega)]
      rfl
    · rw [List.getElem?_append_right (by rw [List.length_append]; omega), List.length_append, hlt, hl, List.getElem?_drop, hr]
      rw [show 120 * i + (endN n i - 120 * i) + (k - (120 * i + (endN n i - 120 * i))) = k by omega]
      by_cases h3 : k < n
      · rw [if_pos h3, if_pos h3, lay, if_neg (by omega)]
      · rw [if_neg h3, if_neg h3]
theorem list_row {n i : Nat} {f : Nat → Int} (hi : i < manyN n) (ho : ∀ p, n ≤ p → f p = 0) {l : List Int} (hl : l = ((row n f).drop (120 * i)).take (endN n i - 120 * i)) : (row 120 fun _ => 0).take 0 ++ l ++ (row 120 fun _ => 0).drop (0 + l.length) = listOf f i := by
  have hi' : 120 * i < n := by unfold manyN at hi; omega
  have he : endN n i = min (120 * i + 120) n := rfl
  have hlen : l.length = endN n i - 120 * i := by rw [hl, List.length_take, List.length_drop, row_length]; omega
  rw [List.take_zero, List.nil_append, Nat.zero_add, hlen]
  apply List.ext_getElem?
  intro k
  have hr : (listOf f i)[k]? = if k < 120 then some (f (120 * i + k)) else none := by
    by_cases h : k < 120
    · rw [if_pos h, listOf, List.getElem?_map, List.getElem?_range h]; rfl
    · rw [if_neg h, List.getElem?_eq_none (by rw [listOf_length]; omega)]
  rw [hr]
  rcases Nat.lt_or_ge k (endN n i - 120 * i) with h1 | h1
  · rw [List.getElem?_append_left (by omega), hl, List.getElem?_take_of_lt h1, List.getElem?_drop, row_get, if_pos (by omega), if_pos (by omega)]
  · rw [List.getElem?_append_right (by omega), hlen, List.getElem?_drop, row_get, show endN n i - 120 * i + (k - (endN n i - 120 * i)) = k by omega]
    by_cases h2 : k < 120
    · rw [if_pos h2, if_pos h2, ho _ (by omega)]
    · rw [if_neg h2, if_neg h2]
set_option maxRecDepth 100000 in
set_option maxHeartbeats 2000000 in
theorem body_call (h : CtAt w B q rb mb_ n x) (p : Int) :
    Calls Try.prog 20 #[.pointer (some ⟨q, 0, none⟩), .int .i64 p] w fun e w' =>
      (isI n p = false ∧ e = .returned (.slice none 0 0) ∧ w' = w) ∨
      (isI n p = true ∧ ∃ i l g, p = ((i : Nat) : Int) ∧ i < manyN n ∧ countsW (listOf x.N i) = some l ∧ e = .returned (.slice (some ⟨g, 0, none⟩) 240 240) ∧ w.heap.size ≤ g ∧ Blk w' g 67 (u8s l).toArray ∧ (∀ y ∈ l, y < 256) ∧ w.grownBy w' none) := by
  have HP := Lib.hid (isPart_call h p)
  have HA := Lib.hid h
  cases hp : isI n p with
  | false =>
    rw [hp] at HP
    clear hp h
    go_enter Try.func20, Try.ntmps20
    go_wp2_with (go_at_call 29; refine HP.out.mono ?_; rintro e w' ⟨rfl, rfl⟩)
    go_ret
    exact .inl ⟨by first | exact rfl | trivial, rfl, rfl⟩
  | true =>
    rw [hp] at HP
    obtain ⟨i, rfl, hi⟩ := isI_nat hp
    have HPT := Lib.hid (part_call h hi)
    obtain ⟨l', hl'⟩ := list_some h.ok.bN i
    have HL := Lib.hid hl'; clear hl'
    have hi' : 120 * i < n := by unfold manyN at hi; omega
    have he : endN n i = min (120 * i + 120) n := rfl
    have hn := h.b64
    have hgd := grown_drew w none
    have hsd : w.drew.heap.size = w.heap.size := rfl
    generalize w.drew = wd at *
    have hga := World.grownBy_alloc wd (.cells (List.replicate 120 (Value.int .i64 0)).toArray 3) none
    have hmk : (Instr.makeSlice 39 (.int .i64 120) (.int .i64 120)).run Try.prog wd = .ok (.slice (some ⟨wd.heap.size, 0, none⟩) 120 120) (wd.alloc (.cells (List.replicate 120 (Value.int .i64 0)).toArray 3)) := run_ints 120 wd (by omega)
    have hd0 : Blk (wd.alloc (.cells (List.replicate 120 (Value.int .i64 0)).toArray 3)) wd.heap.size 3 (i64s (row 120 fun _ => 0)).toArray := by
      rw [← zeros_row]; exact Blk.new wd _ _
    have hlr : (((row n x.N).drop (120 * i)).take (endN n i - 120 * i)).length = endN n i - 120 * i := by rw [List.length_take, List.length_drop, row_length]; omega
    have hA2 := (h.grown hgd).grown hga
    obtain ⟨w3, hcp, hg3, hb3⟩ := copy_ints (o := 0) (m := 120) (dc := 120) (gs := rb) (os := 120 * i) (s := endN n i - 120 * i) (l := ((row n x.N).drop (120 * i)).take (endN n i - 120 * i)) hd0
      (by rw [hlr]; omega) (fun j hj => by
        rw [hlr] at hj
        rw [hA2.hr.at_ (show 120 * i + j < n by omega), List.getD_eq_getElem?_getD, List.getElem?_take_of_lt hj, List.getElem?_drop, row_get, if_pos (by omega)]
        rfl) (by rw [hlr, row_length]; omega)
    rw [list_row hi h.ok.oN rfl] at hb3
    rw [hlr] at hcp
    obtain ⟨e0, _⟩ := hA2.cells
    have hg3' : w.grownBy w3 none := grownBy_new (hgd.trans hga) hg3 (fun j hj => by cases hj; omega)
    have hin3 : Ints w3 w3.heap.size (some ⟨wd.heap.size, 0, none⟩) 120 (listOf x.N i) := by
      refine ⟨listOf_length _ _, fun y hy => ?_, fun _ => ⟨wd.heap.size, 0, rfl, hb3.lt, by have := hb3.lt; omega, fun j hj => ?_⟩⟩
      · simp [listOf] at hy
        obtain ⟨k, _, rfl⟩ := hy
        have := h.ok.bN (120 * i + k)
        omega
      · rw [Nat.zero_add, hb3.cell, List.getElem?_toArray, i64s_at _ _ (by rw [listOf_length]; exact hj)]
    have HIN3 := Lib.hid hin3; have HG3 := Lib.hid hg3'; have HSD := Lib.hid hsd
    have s1 : (0 : Int) ≤ ((120 * i : Nat) : Int) := by omega
    have s2 : ((120 * i : Nat) : Int) ≤ ((endN n i : Nat) : Int) := by omega
    have s3 : ((endN n i : Nat) : Int) ≤ (n : Int) := by omega
    have s4 : 120 * i ≤ endN n i := by omega
    have s5 : endN n i ≤ n := by omega
    clear hp h hin3 hg3 hg3' hb3 hlr hA2 hd0 hga hsd hgd he
    generalize endN n i = en at *
    obtain ⟨L, hL⟩ : ∃ L, listOf x.N i = L := ⟨_, rfl⟩
    rw [hL] at HIN3 HL
    have HLL := Lib.hid hL; clear hL
    generalize hzs : (List.replicate 120 (Value.int .i64 0)).toArray = zs at *
    clear hzs
    go_enter Try.func20, Try.ntmps20
    go_wp2_with (first
      | (go_at_call 29; refine HP.out.mono ?_; rintro e w' ⟨rfl, rfl⟩)
      | (go_at_call 31; refine HPT.out.mono ?_; rintro e w' ⟨rfl, rfl⟩)
      | (go_at_call 35; refine (codec_put_counts _ _ 120 120 _ _ HIN3.out (by omega)).mono ?_; rintro e w4 hG; rw [HL.out] at hG; obtain ⟨hg4, g, rfl, hg, hb4, hlt4⟩ := hG.some_; have HG4 := Lib.hid hg4; have HGG := Lib.hid hg; have HB4 := Lib.hid hb4; have HLT4 := Lib.hid hlt4; clear hG hg4 hg hb4 hlt4))
    have h240 := countsW_len HL.out
    go_ret
    exact .inr ⟨by first | exact rfl | trivial, i, l', g, rfl, hi, by rw [HLL.out]; exact HL.out, by rw [h240]; rfl, Nat.le_trans HG3.out.size HGG.out, HB4.out, HLT4.out, HG3.out.trans HG4.out⟩
end
end Go.Proofs.Ytpdkjgmldlpaaaa.Cts
