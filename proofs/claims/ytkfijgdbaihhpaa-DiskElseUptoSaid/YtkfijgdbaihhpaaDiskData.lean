/- What a step of a script writes. -/
import Derived.Test.YtkfijgdbaihhpaaDiskSmall
import Derived.Test.YtkfijgdbaihhpaaDiskSpec
namespace Go.Proofs.Ytkfijgdbaihhpaa.Dsk
open Go.RowKit Mem Crc DiskSpec

/-- How many bytes. -/
def dataN (count bytes : Int) : Int := 256 * (if count < 0 ∨ 20 < count then 0 else count) + bytes.tmod 256
/-- Byte i. -/
def dataB (fill : Int) (i : Nat) : Nat := ((fill + ((i / 256 : Nat) : Int)) % 256).toNat
def dataL (count bytes fill : Int) : List Nat := (List.range (dataN count bytes).toNat).map (dataB fill)
theorem dataB_lt (fill : Int) (i : Nat) : dataB fill i < 256 := by unfold dataB; omega
theorem dataL_lt (count bytes fill : Int) : ∀ x ∈ dataL count bytes fill, x < 256 := by
  intro x hx
  obtain ⟨i, _, rfl⟩ := List.mem_map.1 hx
  exact dataB_lt _ _
theorem dataL_length (count bytes fill : Int) : (dataL count bytes fill).length = (dataN count bytes).toNat := by simp [dataL]
theorem dataL_take {count bytes fill : Int} {j : Nat} (h : j < (dataN count bytes).toNat) : (dataL count bytes fill).take (j + 1) = (dataL count bytes fill).take j ++ [dataB fill j] := by
  rw [List.take_succ_eq_append_getElem (by rw [dataL_length]; exact h)]
  simp [dataL]
theorem dataN_le (count bytes : Int) : -256 < dataN count bytes ∧ dataN count bytes ≤ 5375 := by
  unfold dataN
  have h1 := Int.lt_tmod_of_pos bytes (show (0 : Int) < 256 by omega)
  have h2 := Int.tmod_lt_of_pos bytes (show (0 : Int) < 256 by omega)
  split <;> omega
theorem wrap_byte (fill : Int) (j : Nat) : wrap64 (fill + (j : Int) / 256) % 256 = ((dataB fill j : Nat) : Int) := by
  unfold dataB wrap64
  omega
theorem reads_one (w : World) (x : Value) : Reads (w.alloc (.cells #[x] 5)) (w.heap.size + 1) 1 (some ⟨w.heap.size, 0, none⟩) 1 [x] := by
  refine ⟨rfl, fun _ => ⟨_, rfl, by simp, fun j u hu => ?_⟩⟩
  match j with
  | 0 => simpa [Addr.add] using hu
  | j + 1 => simp at hu

set_option maxRecDepth 100000 in
set_option maxHeartbeats 1600000 in
theorem data_any (kind at_ count bytes fill : Int) (fua : Bool) (pv : Value) (w : World) :
    Calls Try.prog 23 #[.agg #[.int .i64 kind, .int .i64 at_, .int .i64 count, .int .i64 bytes, .int .i64 fill, .bool fua, pv]] w fun e w' =>
      ∃ v, e = .returned v ∧ Own w' w.heap.size 5 1 v (dataN count bytes).toNat (u8s (dataL count bytes fill)) ∧ w.grownBy w' none := by
  obtain ⟨i0, hi0, hz0, hz1, hz2⟩ := info_parts byte_info
  have hi := Lib.hid hi0; have z0 := Lib.hid hz0; have z1 := Lib.hid hz1; have z2 := Lib.hid hz2; clear hi0 hz0 hz1 hz2
  have hle := dataN_le count bytes
  have HT := Lib.hid (fun j => dataL_take (count := count) (bytes := bytes) (fill := fill) (j := j))
  have HL := Lib.hid (dataL_length count bytes fill)
  have hN : dataN count bytes = 256 * (if count < 0 ∨ 20 < count then 0 else count) + bytes.tmod 256 := rfl
  have HBX := Lib.hid (Blk.new w 34 #[.int .i64 kind, .int .i64 at_, .int .i64 count, .int .i64 bytes, .int .i64 fill, .bool fua, pv])
  have hg0 := World.grownBy_alloc w (.cells #[.int .i64 kind, .int .i64 at_, .int .i64 count, .int .i64 bytes, .int .i64 fill, .bool fua, pv] 34) none
  have hsz : (w.alloc (.cells #[.int .i64 kind, .int .i64 at_, .int .i64 count, .int .i64 bytes, .int .i64 fill, .bool fua, pv] 34)).heap.size = w.heap.size + 1 := by simp
  have hc2 := HBX.out.cell 2
  have hc3 := HBX.out.cell 3
  have h1 := Int.lt_tmod_of_pos bytes (show (0 : Int) < 256 by omega)
  have h2 := Int.tmod_lt_of_pos bytes (show (0 : Int) < 256 by omega)
  generalize hbt : bytes.tmod 256 = bt at *
  have HG0 := Lib.hid hg0; clear hg0
  generalize dataN count bytes = N at *
  generalize dataL count bytes fill = L at *
  have hwN : IntKind.i64.wrap N = N := IntWalk.i64_in _ (by omega)
  by_cases hneg : count < 0
  · rw [if_pos (.inl hneg)] at hN
    obtain rfl : N = bt := by omega
    clear hN
    go_enter Try.func23, Try.ntmps23
    go_wp2_with fail
    go_loopw [5, 6] (fun u i wr => ∃ j : Nat, j ≤ N.toNat ∧ i = .int .i64 j ∧ Own wr (w.heap.size + 1) 5 1 u j (u8s (L.take j)) ∧ (w.alloc (.cells #[.int .i64 kind, .int .i64 at_, .int .i64 count, .int .i64 bytes, .int .i64 fill, .bool fua, pv] 34)).grownBy wr none) (fun _ i _ => N.toNat - (Go.RowKit.intOf i).toNat)
    case atStart => exact ⟨0, by omega, rfl, by rw [List.take_zero]; exact Own.nil _ _ _ _, World.grownBy.refl _ _⟩
    case round =>
      obtain ⟨j, hj, rfl, ho, hg⟩ := hrel
      have HO := Lib.hid ho; have HG := Lib.hid hg
      have hc4 := (HBX.out.grown hg (by simp)).cell 4
      have hsz' := hg.size
      clear ho hg
      by_cases hlt : j < N.toNat
      · have hb1 := Lib.hid (wrap_byte fill j)
        have hlt' : (j : Int) < N := by omega
        have hwd : IntKind.i64.wrap ((j : Int) / 256) = (j : Int) / 256 := IntWalk.i64_in _ (by omega)
        have htd : (j : Int).tdiv 256 = (j : Int) / 256 := Int.tdiv_eq_ediv_of_nonneg (by omega)
        go_wp2_with (at_builtin
                     refine wpList_append_own_full _ rfl (.tmp 26) (.tmp 33) _ rfl (w.heap.size + 1) 5 i0 _ 1 1 Try.underlying43 hi.out z0.out z1.out z2.out rfl (by omega) _ j _ rfl (HO.out.alloc _)
                       _ _ 1 1 _ rfl (reads_one _ _) (fun u hu => by simp at hu; subst hu; rfl) (by simp only [maxLen]; omega) (by omega) (by rw [hsz] at hsz'; simp; omega) ?_
                     intro v' w' hown' hgr'
                     have HO' := Lib.hid hown'; have HG' := Lib.hid hgr'; clear hown' hgr')
        go_roundw
        case rel =>
          refine ⟨j + 1, by omega, by go_num, ?_, grownBy_new (HG.out.trans (World.grownBy_alloc wr _ none)) HG'.out.1 (fun q hq => by rw [hsz]; exact (HO.out.base_ q hq).1)⟩
          have h := HO'.out
          rw [hb1.out] at h
          rw [HT.out j hlt, u8s_append]
          exact h
        case measure => simp [Go.RowKit.intOf]; omega
      · obtain rfl : j = N.toNat := by omega
        have hlt' : ¬ ((N.toNat : Int) < N) := by omega
        have hdl : decide ((N.toNat : Int) < N) = false := by simp; omega
        go_wp2
        go_ret
        have h := HO.out
        rw [List.take_of_length_le (by rw [HL.out]; exact Nat.le_refl _)] at h
        exact ⟨_, rfl, h.low (by omega), HG0.out.trans HG.out⟩
  by_cases hbig : 20 < count
  · rw [if_pos (.inr hbig)] at hN
    obtain rfl : N = bt := by omega
    clear hN
    go_enter Try.func23, Try.ntmps23
    go_wp2_with fail
    go_loopw [5, 6] (fun u i wr => ∃ j : Nat, j ≤ N.toNat ∧ i = .int .i64 j ∧ Own wr (w.heap.size + 1) 5 1 u j (u8s (L.take j)) ∧ (w.alloc (.cells #[.int .i64 kind, .int .i64 at_, .int .i64 count, .int .i64 bytes, .int .i64 fill, .bool fua, pv] 34)).grownBy wr none) (fun _ i _ => N.toNat - (Go.RowKit.intOf i).toNat)
    case atStart => exact ⟨0, by omega, rfl, by rw [List.take_zero]; exact Own.nil _ _ _ _, World.grownBy.refl _ _⟩
    case round =>
      obtain ⟨j, hj, rfl, ho, hg⟩ := hrel
      have HO := Lib.hid ho; have HG := Lib.hid hg
      have hc4 := (HBX.out.grown hg (by simp)).cell 4
      have hsz' := hg.size
      clear ho hg
      by_cases hlt : j < N.toNat
      · have hb1 := Lib.hid (wrap_byte fill j)
        have hlt' : (j : Int) < N := by omega
        have hwd : IntKind.i64.wrap ((j : Int) / 256) = (j : Int) / 256 := IntWalk.i64_in _ (by omega)
        have htd : (j : Int).tdiv 256 = (j : Int) / 256 := Int.tdiv_eq_ediv_of_nonneg (by omega)
        go_wp2_with (at_builtin
                     refine wpList_append_own_full _ rfl (.tmp 26) (.tmp 33) _ rfl (w.heap.size + 1) 5 i0 _ 1 1 Try.underlying43 hi.out z0.out z1.out z2.out rfl (by omega) _ j _ rfl (HO.out.alloc _)
                       _ _ 1 1 _ rfl (reads_one _ _) (fun u hu => by simp at hu; subst hu; rfl) (by simp only [maxLen]; omega) (by omega) (by rw [hsz] at hsz'; simp; omega) ?_
                     intro v' w' hown' hgr'
                     have HO' := Lib.hid hown'; have HG' := Lib.hid hgr'; clear hown' hgr')
        go_roundw
        case rel =>
          refine ⟨j + 1, by omega, by go_num, ?_, grownBy_new (HG.out.trans (World.grownBy_alloc wr _ none)) HG'.out.1 (fun q hq => by rw [hsz]; exact (HO.out.base_ q hq).1)⟩
          have h := HO'.out
          rw [hb1.out] at h
          rw [HT.out j hlt, u8s_append]
          exact h
        case measure => simp [Go.RowKit.intOf]; omega
      · obtain rfl : j = N.toNat := by omega
        have hlt' : ¬ ((N.toNat : Int) < N) := by omega
        have hdl : decide ((N.toNat : Int) < N) = false := by simp; omega
        go_wp2
        go_ret
        have h := HO.out
        rw [List.take_of_length_le (by rw [HL.out]; exact Nat.le_refl _)] at h
        exact ⟨_, rfl, h.low (by omega), HG0.out.trans HG.out⟩
  · rw [if_neg (by omega)] at hN
    have hNr := hN.symm
    have hw2 : IntKind.i64.wrap (256 * count) = 256 * count := IntWalk.i64_in _ (by omega)
    clear hN
    go_enter Try.func23, Try.ntmps23
    go_wp2_with fail
    go_loopw [5, 6] (fun u i wr => ∃ j : Nat, j ≤ N.toNat ∧ i = .int .i64 j ∧ Own wr (w.heap.size + 1) 5 1 u j (u8s (L.take j)) ∧ (w.alloc (.cells #[.int .i64 kind, .int .i64 at_, .int .i64 count, .int .i64 bytes, .int .i64 fill, .bool fua, pv] 34)).grownBy wr none) (fun _ i _ => N.toNat - (Go.RowKit.intOf i).toNat)
    case atStart => exact ⟨0, by omega, rfl, by rw [List.take_zero]; exact Own.nil _ _ _ _, World.grownBy.refl _ _⟩
    case round =>
      obtain ⟨j, hj, rfl, ho, hg⟩ := hrel
      have HO := Lib.hid ho; have HG := Lib.hid hg
      have hc4 := (HBX.out.grown hg (by simp)).cell 4
      have hsz' := hg.size
      clear ho hg
      by_cases hlt : j < N.toNat
      · have hb1 := Lib.hid (wrap_byte fill j)
        have hlt' : (j : Int) < N := by omega
        have hwd : IntKind.i64.wrap ((j : Int) / 256) = (j : Int) / 256 := IntWalk.i64_in _ (by omega)
        have htd : (j : Int).tdiv 256 = (j : Int) / 256 := Int.tdiv_eq_ediv_of_nonneg (by omega)
        go_wp2_with (at_builtin
                     refine wpList_append_own_full _ rfl (.tmp 26) (.tmp 33) _ rfl (w.heap.size + 1) 5 i0 _ 1 1 Try.underlying43 hi.out z0.out z1.out z2.out rfl (by omega) _ j _ rfl (HO.out.alloc _)
                       _ _ 1 1 _ rfl (reads_one _ _) (fun u hu => by simp at hu; subst hu; rfl) (by simp only [maxLen]; omega) (by omega) (by rw [hsz] at hsz'; simp; omega) ?_
                     intro v' w' hown' hgr'
                     have HO' := Lib.hid hown'; have HG' := Lib.hid hgr'; clear hown' hgr')
        go_roundw
        case rel =>
          refine ⟨j + 1, by omega, by go_num, ?_, grownBy_new (HG.out.trans (World.grownBy_alloc wr _ none)) HG'.out.1 (fun q hq => by rw [hsz]; exact (HO.out.base_ q hq).1)⟩
          have h := HO'.out
          rw [hb1.out] at h
          rw [HT.out j hlt, u8s_append]
          exact h
        case measure => simp [Go.RowKit.intOf]; omega
      · obtain rfl : j = N.toNat := by omega
        have hlt' : ¬ ((N.toNat : Int) < N) := by omega
        have hdl : decide ((N.toNat : Int) < N) = false := by simp; omega
        go_wp2
        go_ret
        have h := HO.out
        rw [List.take_of_length_le (by rw [HL.out]; exact Nat.le_refl _)] at h
        exact ⟨_, rfl, h.low (by omega), HG0.out.trans HG.out⟩
end Go.Proofs.Ytkfijgdbaihhpaa.Dsk
