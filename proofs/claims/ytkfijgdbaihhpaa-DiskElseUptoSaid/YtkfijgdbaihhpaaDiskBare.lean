/- What a step writes, once more: a row of the call's own that may be written. -/
import Derived.Test.YtkfijgdbaihhpaaDiskData
namespace Go.Proofs.Ytkfijgdbaihhpaa.Dsk
open Go.RowKit Mem Crc DiskSpec

/-- A row of the call's own, none of it frozen. -/
def Bare (w : World) (base : Nat) (e : TypeId) (size : Nat) (v : Value) (n : Nat) (xs : List Value) : Prop := w.ownsRow base e size v n xs
section
variable {w w' : World} {base n size : Nat} {e : TypeId} {v : Value} {xs : List Value}
theorem Bare.own (h : Bare w base e size v n xs) : Own w base e size v n xs := .inl h
theorem Bare.nil (w : World) (base : Nat) (e : TypeId) (size : Nat) : Bare w base e size (.slice none 0 0) 0 [] := World.ownsRow_nil w base e size
theorem Bare.base_ (h : Bare w base e size v n xs) : ∀ j, v.ownBlock = some j → base ≤ j ∧ j < w.heap.size := h.own.base_
theorem Bare.keep {row : Option Nat} (h : Bare w base e size v n xs) (hg : w.grownBy w' row) (hne : ∀ j, v.ownBlock = some j → row ≠ some j) : Bare w' base e size v n xs := by
  refine ⟨h.1, ?_⟩
  rcases h.2 with hn | ⟨g, cap, cur, rfl, hb, hh, rest⟩
  · exact .inl hn
  · refine .inr ⟨g, cap, cur, rfl, hb, ?_, rest⟩
    rw [hg.block g (Array.getElem?_eq_some_iff.1 hh).1 (fun e => hne g rfl e.symm)]
    exact hh
theorem Bare.alloc (h : Bare w base e size v n xs) (o : Obj) : Bare (w.alloc o) base e size v n xs :=
  h.keep (World.grownBy_alloc w o none) (fun _ _ h => by cases h)
theorem Bare.low {b : Nat} (h : Bare w base e size v n xs) (hb : b ≤ base) : Bare w b e size v n xs := by
  refine ⟨h.1, ?_⟩
  rcases h.2 with hn | ⟨g, cap, cur, hv, hbg, rest⟩
  · exact .inl hn
  · exact .inr ⟨g, cap, cur, hv, by omega, rest⟩
end
theorem grew_bare {w w' : World} {v v' : Value} (hg : w.grownBy w' v.ownBlock) (h : v'.ownBlock = v.ownBlock ∨ v'.ownBlock = some w.heap.size) : Grew w w' v v' :=
  ⟨hg, fun j hj => by
    rcases h with h | h
    · exact .inl (by rw [← h]; exact hj)
    · rw [h] at hj
      injection hj with hj
      exact .inr (by omega)⟩


set_option maxRecDepth 100000 in
set_option maxHeartbeats 1600000 in
theorem data_sole (kind at_ count bytes fill : Int) (fua : Bool) (pv : Value) (w : World) :
    Calls Try.prog 23 #[.agg #[.int .i64 kind, .int .i64 at_, .int .i64 count, .int .i64 bytes, .int .i64 fill, .bool fua, pv]] w fun e w' =>
      ∃ v, e = .returned v ∧ Bare w' w.heap.size 5 1 v (dataN count bytes).toNat (u8s (dataL count bytes fill)) ∧ w.grownBy w' none := by
  obtain ⟨i0, hi0, hz0, hz1, hz2⟩ := info_parts byte_info
  have hi := Lib.hid hi0; have z0 := Lib.hid hz0; have z1 := Lib.hid hz1; have z2 := Lib.hid hz2; clear hi0 hz0 hz1 hz2
  have hle := dataN_le count bytes
  have HT := Lib.hid (fun j => dataL_take (count := count) (bytes := bytes) (fill := fill) (j := j))
  have HL := Lib.hid (dataL_length count bytes fill)
  have hN : dataN count bytes = 256 * (if count < 0 ∨ 20 < count then 0 else count) + bytes.tmod 256 := rfl
  have HBX := Lib.hid (Blk.new w 34 #[.int .i64 kind, .int .i64 at_, .int .i64 count, .int .i64 bytes, .int .i64 fill, .bool fua, pv])
  have hg0 := World.grownBy_alloc w (.cells #[.int .i64 kind, .int .i64 at_, .int .i64 count, .int .i64 bytes, .int .i64 fill, .bool fua, pv] 34) none
  have hsz : (w.alloc (.cells #[.int .i64 kind, .int .i64 at_, .int .i64 count, .int .i64 bytes, .int .i64 fill, .bool fua, pv] 34)).heap.size = w.heap.size + 1 := by simp
  have hc2 := HBX.out.cell 2
  have hc3 := HBX.out.cell 3
  have h1 := Int.lt_tmod_of_pos bytes (show (0 : Int) < 256 by omega)
  have h2 := Int.tmod_lt_of_pos bytes (show (0 : Int) < 256 by omega)
  generalize hbt : bytes.tmod 256 = bt at *
  have HG0 := Lib.hid hg0; clear hg0
  generalize dataN count bytes = N at *
  generalize dataL count bytes fill = L at *
  have hwN : IntKind.i64.wrap N = N := IntWalk.i64_in _ (by omega)
  by_cases hneg : count < 0
  · rw [if_pos (.inl hneg)] at hN
    obtain rfl : N = bt := by omega
    clear hN
    go_enter Try.func23, Try.ntmps23
    go_wp2_with fail
    go_loopw [5, 6] (fun u i wr => ∃ j : Nat, j ≤ N.toNat ∧ i = .int .i64 j ∧ Bare wr (w.heap.size + 1) 5 1 u j (u8s (L.take j)) ∧ (w.alloc (.cells #[.int .i64 kind, .int .i64 at_, .int .i64 count, .int .i64 bytes, .int .i64 fill, .bool fua, pv] 34)).grownBy wr none) (fun _ i _ => N.toNat - (Go.RowKit.intOf i).toNat)
    case atStart => exact ⟨0, by omega, rfl, by rw [List.take_zero]; exact Bare.nil _ _ _ _, World.grownBy.refl _ _⟩
    case round =>
      obtain ⟨j, hj, rfl, ho, hg⟩ := hrel
      have HO := Lib.hid ho; have HG := Lib.hid hg
      have hc4 := (HBX.out.grown hg (by simp)).cell 4
      have hsz' := hg.size
      clear ho hg
      by_cases hlt : j < N.toNat
      · have hb1 := Lib.hid (wrap_byte fill j)
        have hlt' : (j : Int) < N := by omega
        have hwd : IntKind.i64.wrap ((j : Int) / 256) = (j : Int) / 256 := IntWalk.i64_in _ (by omega)
        have htd : (j : Int).tdiv 256 = (j : Int) / 256 := Int.tdiv_eq_ediv_of_nonneg (by omega)
        go_wp2_with (at_builtin
                     refine wpList_append_any _ rfl (.tmp 26) (.tmp 33) _ rfl (w.heap.size + 1) 5 i0 _ 1 1 Try.underlying43 hi.out z0.out z1.out z2.out rfl (by omega) _ j _ rfl (HO.out.alloc _)
                       _ _ 1 1 _ rfl (reads_one _ _) (fun u hu => by simp at hu; subst hu; rfl) (by simp only [maxLen]; omega) (by omega) (by rw [hsz] at hsz'; simp; omega) ?_
                     intro v' w' hown' hgr0 hbl0
                     have hgr' := grew_bare hgr0 hbl0
                     have HO' := Lib.hid hown'; have HG' := Lib.hid hgr'; clear hown' hgr')
        go_roundw
        case rel =>
          refine ⟨j + 1, by omega, by go_num, ?_, grownBy_new (HG.out.trans (World.grownBy_alloc wr _ none)) HG'.out.1 (fun q hq => by rw [hsz]; exact (HO.out.base_ q hq).1)⟩
          have h := HO'.out
          rw [hb1.out] at h
          rw [HT.out j hlt, u8s_append]
          exact h
        case measure => simp [Go.RowKit.intOf]; omega
      · obtain rfl : j = N.toNat := by omega
        have hlt' : ¬ ((N.toNat : Int) < N) := by omega
        have hdl : decide ((N.toNat : Int) < N) = false := by simp; omega
        go_wp2
        go_ret
        have h := HO.out
        rw [List.take_of_length_le (by rw [HL.out]; exact Nat.le_refl _)] at h
        exact ⟨_, rfl, h.low (by omega), HG0.out.trans HG.out⟩
  by_cases hbig : 20 < count
  · rw [if_pos (.inr hbig)] at hN
    obtain rfl : N = bt := by omega
    clear hN
    go_enter Try.func23, Try.ntmps23
    go_wp2_with fail
    go_loopw [5, 6] (fun u i wr => ∃ j : Nat, j ≤ N.toNat ∧ i = .int .i64 j ∧ Bare wr (w.heap.size + 1) 5 1 u j (u8s (L.take j)) ∧ (w.alloc (.cells #[.int .i64 kind, .int .i64 at_, .int .i64 count, .int .i64 bytes, .int .i64 fill, .bool fua, pv] 34)).grownBy wr none) (fun _ i _ => N.toNat - (Go.RowKit.intOf i).toNat)
    case atStart => exact ⟨0, by omega, rfl, by rw [List.take_zero]; exact Bare.nil _ _ _ _, World.grownBy.refl _ _⟩
    case round =>
      obtain ⟨j, hj, rfl, ho, hg⟩ := hrel
      have HO := Lib.hid ho; have HG := Lib.hid hg
      have hc4 := (HBX.out.grown hg (by simp)).cell 4
      have hsz' := hg.size
      clear ho hg
      by_cases hlt : j < N.toNat
      · have hb1 := Lib.hid (wrap_byte fill j)
        have hlt' : (j : Int) < N := by omega
        have hwd : IntKind.i64.wrap ((j : Int) / 256) = (j : Int) / 256 := IntWalk.i64_in _ (by omega)
        have htd : (j : Int).tdiv 256 = (j : Int) / 256 := Int.tdiv_eq_ediv_of_nonneg (by omega)
        go_wp2_with (at_builtin
                     refine wpList_append_any _ rfl (.tmp 26) (.tmp 33) _ rfl (w.heap.size + 1) 5 i0 _ 1 1 Try.underlying43 hi.out z0.out z1.out z2.out rfl (by omega) _ j _ rfl (HO.out.alloc _)
                       _ _ 1 1 _ rfl (reads_one _ _) (fun u hu => by simp at hu; subst hu; rfl) (by simp only [maxLen]; omega) (by omega) (by rw [hsz] at hsz'; simp; omega) ?_
                     intro v' w' hown' hgr0 hbl0
                     have hgr' := grew_bare hgr0 hbl0
                     have HO' := Lib.hid hown'; have HG' := Lib.hid hgr'; clear hown' hgr')
        go_roundw
        case rel =>
          refine ⟨j + 1, by omega, by go_num, ?_, grownBy_new (HG.out.trans (World.grownBy_alloc wr _ none)) HG'.out.1 (fun q hq => by rw [hsz]; exact (HO.out.base_ q hq).1)⟩
          have h := HO'.out
          rw [hb1.out] at h
          rw [HT.out j hlt, u8s_append]
          exact h
        case measure => simp [Go.RowKit.intOf]; omega
      · obtain rfl : j = N.toNat := by omega
        have hlt' : ¬ ((N.toNat : Int) < N) := by omega
        have hdl : decide ((N.toNat : Int) < N) = false := by simp; omega
        go_wp2
        go_ret
        have h := HO.out
        rw [List.take_of_length_le (by rw [HL.out]; exact Nat.le_refl _)] at h
        exact ⟨_, rfl, h.low (by omega), HG0.out.trans HG.out⟩
  · rw [if_neg (by omega)] at hN
    have hNr := hN.symm
    have hw2 : IntKind.i64.wrap (256 * count) = 256 * count := IntWalk.i64_in _ (by omega)
    clear hN
    go_enter Try.func23, Try.ntmps23
    go_wp2_with fail
    go_loopw [5, 6] (fun u i wr => ∃ j : Nat, j ≤ N.toNat ∧ i = .int .i64 j ∧ Bare wr (w.heap.size + 1) 5 1 u j (u8s (L.take j)) ∧ (w.alloc (.cells #[.int .i64 kind, .int .i64 at_, .int .i64 count, .int .i64 bytes, .int .i64 fill, .bool fua, pv] 34)).grownBy wr none) (fun _ i _ => N.toNat - (Go.RowKit.intOf i).toNat)
    case atStart => exact ⟨0, by omega, rfl, by rw [List.take_zero]; exact Bare.nil _ _ _ _, World.grownBy.refl _ _⟩
    case round =>
      obtain ⟨j, hj, rfl, ho, hg⟩ := hrel
      have HO := Lib.hid ho; have HG := Lib.hid hg
      have hc4 := (HBX.out.grown hg (by simp)).cell 4
      have hsz' := hg.size
      clear ho hg
      by_cases hlt : j < N.toNat
      · have hb1 := Lib.hid (wrap_byte fill j)
        have hlt' : (j : Int) < N := by omega
        have hwd : IntKind.i64.wrap ((j : Int) / 256) = (j : Int) / 256 := IntWalk.i64_in _ (by omega)
        have htd : (j : Int).tdiv 256 = (j : Int) / 256 := Int.tdiv_eq_ediv_of_nonneg (by omega)
        go_wp2_with (at_builtin
                     refine wpList_append_any _ rfl (.tmp 26) (.tmp 33) _ rfl (w.heap.size + 1) 5 i0 _ 1 1 Try.underlying43 hi.out z0.out z1.out z2.out rfl (by omega) _ j _ rfl (HO.out.alloc _)
                       _ _ 1 1 _ rfl (reads_one _ _) (fun u hu => by simp at hu; subst hu; rfl) (by simp only [maxLen]; omega) (by omega) (by rw [hsz] at hsz'; simp; omega) ?_
                     intro v' w' hown' hgr0 hbl0
                     have hgr' := grew_bare hgr0 hbl0
                     have HO' := Lib.hid hown'; have HG' := Lib.hid hgr'; clear hown' hgr')
        go_roundw
        case rel =>
          refine ⟨j + 1, by omega, by go_num, ?_, grownBy_new (HG.out.trans (World.grownBy_alloc wr _ none)) HG'.out.1 (fun q hq => by rw [hsz]; exact (HO.out.base_ q hq).1)⟩
          have h := HO'.out
          rw [hb1.out] at h
          rw [HT.out j hlt, u8s_append]
          exact h
        case measure => simp [Go.RowKit.intOf]; omega
      · obtain rfl : j = N.toNat := by omega
        have hlt' : ¬ ((N.toNat : Int) < N) := by omega
        have hdl : decide ((N.toNat : Int) < N) = false := by simp; omega
        go_wp2
        go_ret
        have h := HO.out
        rw [List.take_of_length_le (by rw [HL.out]; exact Nat.le_refl _)] at h
        exact ⟨_, rfl, h.low (by omega), HG0.out.trans HG.out⟩
end Go.Proofs.Ytkfijgdbaihhpaa.Dsk
