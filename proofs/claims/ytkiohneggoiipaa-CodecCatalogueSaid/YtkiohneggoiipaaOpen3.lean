/- Catalogues that came in, opened: the volumes stand as one row of numbers, six a volume. No program's function is named. -/
import Derived.Test.YtkiohneggoiipaaOpen2
namespace Go.Proofs.Ytkiohneggoiipaa.Codec
open Go.ChangeShapes Go.WideShapes Go.RowKit CrcMath Mem Crc

/-- The number in a cell. -/
def numAt (w : World) (a : Addr) : Int := match w.cell? a with | some (.int _ n) => n | _ => 0
theorem add_add (a : Addr) (i j : Nat) : (a.add i).add j = a.add (i + j) := by
  unfold Addr.add
  split <;> split <;> (try split) <;> simp_all <;> omega
set_option maxRecDepth 100000 in
/-- A volume that stands in cells. -/
theorem open_vol_in {H : Type} {enc : TypeId × Value → H} {w : World} {fuel : Nat} {cs : List Value} {x : DataW H × List MemPlace} (h : DataW.trod enc Try.prog w 0 (fun _ => true) true fuel 129 cs = some x) :
    cs.length = 6 ∧ ∀ r, r < 6 → ∃ n, cs[r]? = some (.int .i64 n) ∧ -9223372036854775808 ≤ n ∧ n ≤ 9223372036854775807 := by
  obtain ⟨n, hl, hf⟩ := open_struct Try.underlying129 h
  rw [show Try.prog.cellsOf 129 = 6 from by kernel_rfl] at hl
  match cs, hl with
  | [c0, c1, c2, c3, c4, c5], _ =>
    have k1 : Try.prog.cellsOf 3 = 1 := by kernel_rfl
    obtain ⟨_, h0⟩ := hf 0 0 3 rfl
    obtain ⟨_, h1⟩ := hf 1 1 3 rfl
    obtain ⟨_, h2⟩ := hf 2 2 3 rfl
    obtain ⟨_, h3⟩ := hf 3 3 3 rfl
    obtain ⟨_, h4⟩ := hf 4 4 3 rfl
    obtain ⟨_, h5⟩ := hf 5 5 3 rfl
    rw [k1] at h0 h1 h2 h3 h4 h5
    obtain ⟨a0, e0, b0⟩ := open_int_in h0
    obtain ⟨a1, e1, b1⟩ := open_int_in h1
    obtain ⟨a2, e2, b2⟩ := open_int_in h2
    obtain ⟨a3, e3, b3⟩ := open_int_in h3
    obtain ⟨a4, e4, b4⟩ := open_int_in h4
    obtain ⟨a5, e5, b5⟩ := open_int_in h5
    simp at e0 e1 e2 e3 e4 e5
    subst e0 e1 e2 e3 e4 e5
    refine ⟨rfl, fun r hr => ?_⟩
    match r, hr with
    | 0, _ => exact ⟨a0, rfl, b0⟩
    | 1, _ => exact ⟨a1, rfl, b1⟩
    | 2, _ => exact ⟨a2, rfl, b2⟩
    | 3, _ => exact ⟨a3, rfl, b3⟩
    | 4, _ => exact ⟨a4, rfl, b4⟩
    | 5, _ => exact ⟨a5, rfl, b5⟩
/-- A slice of volumes in cells that came in. -/
theorem open_vols_in {H : Type} {enc : TypeId × Value → H} {w : World} {fuel : Nat} {cs : List Value} {x : DataW H × List MemPlace} (h : DataW.trod enc Try.prog w 0 (fun _ => true) true fuel 73 cs = some x) :
    ∃ A n c l, cs = [.slice A n c] ∧ Ints w w.heap.size A (6 * n) l ∧ n ≤ c ∧ c ≤ maxLen := by
  rcases DataW.trod_slice Try.underlying73 h with ⟨hcs, _⟩ | ⟨a, len, cap, elems, rest, n, _, hcs, _, _, hl, hm, hlen, hel, _, _⟩
  · exact ⟨_, _, _, [], hcs, ints_none _ _ _, Nat.le_refl _, by simp [maxLen]⟩
  · rw [show Try.prog.cellsOf 129 = 6 from by kernel_rfl] at hel
    have each : ∀ j, j < 6 * len → ∃ m, w.cell? (a.add j) = some (.int .i64 m) ∧ -9223372036854775808 ≤ m ∧ m ≤ 9223372036854775807 := by
      intro j hj
      have h1 := hel (j / 6) (by omega)
      rw [List.getElem?_eq_getElem (by omega), Option.bind_eq_some_iff] at h1
      obtain ⟨ds, hds, hy⟩ := h1
      obtain ⟨m, hm', hb⟩ := (open_vol_in hy).2 (j % 6) (Nat.mod_lt _ (by omega))
      have h2 := (World.cells?_some hds).2.2 (j % 6) (Nat.mod_lt _ (by omega))
      rw [add_add, show j / 6 * 6 + j % 6 = j from by omega, hm'] at h2
      exact ⟨m, h2, hb⟩
    have hnum : ∀ j, j < 6 * len → w.cell? (a.add j) = some (.int .i64 (numAt w (a.add j))) ∧ -9223372036854775808 ≤ numAt w (a.add j) ∧ numAt w (a.add j) ≤ 9223372036854775807 := by
      intro j hj
      obtain ⟨m, h1, h2⟩ := each j hj
      have e : numAt w (a.add j) = m := by rw [numAt, h1]
      rw [e]
      exact ⟨h1, h2⟩
    refine ⟨_, _, _, (List.range (6 * len)).map fun j => numAt w (a.add j), hcs, ⟨by simp, fun y hy => ?_, fun hn => ?_⟩, hl, hm⟩
    · obtain ⟨j, hj, rfl⟩ := List.mem_map.1 hy
      exact (hnum j (List.mem_range.1 hj)).2
    · obtain ⟨g, o, sp⟩ := a
      have h0 := (hnum 0 hn).1
      have hsp : sp = none := by simpa [Addr.add] using World.cell?_spot h0
      subst hsp
      have hlt : g < w.heap.size := by have := World.block_lt_of_cell? w _ h0; simpa [Addr.add] using this
      refine ⟨g, o, rfl, hlt, by omega, fun j hj => ?_⟩
      have h1 := (hnum j hj).1
      have e1 : (⟨g, o, none⟩ : Addr).add j = ⟨g, o + j, none⟩ := by unfold Addr.add; split <;> simp_all
      rw [e1] at h1
      rw [h1]
      congr 2
      rw [List.getD_eq_getElem?_getD, List.getElem?_map, List.getElem?_range hj]
      simp [e1]
set_option maxRecDepth 100000 in
/-- A catalogue that came in. -/
theorem open_catalogue {H : Type} {enc : TypeId × Value → H} {W : World} {base : Nat} {v : Value} {d : DataW H} {p : List MemPlace} (o : Value.okWide Try.prog W .any base 75 v) (h : DataW.Trod enc Try.prog W 0 (fun _ => true) true 75 v d p) :
    ∃ (next : Int) (AV AS : Option Addr) (nv cv ns cs : Nat) (stack vs : List Int), v = .agg #[.int .i64 next, .slice AV nv cv, .slice AS ns cs] ∧ Ints W W.heap.size AS ns stack ∧ Ints W W.heap.size AV (6 * nv) vs ∧ ns ≤ maxLen ∧ nv ≤ maxLen := by
  obtain ⟨cs, n, rfl, hl, hf⟩ := open_agg Try.underlying75 o h
  rw [show Try.prog.cellsOf 75 = 3 from by kernel_rfl] at hl
  match cs, hl with
  | [c0, c1, c2], _ =>
    have k1 : Try.prog.cellsOf 3 = 1 := by kernel_rfl
    have k2 : Try.prog.cellsOf 36 = 1 := by kernel_rfl
    have k3 : Try.prog.cellsOf 73 = 1 := by kernel_rfl
    obtain ⟨_, h0⟩ := hf 0 0 3 rfl
    obtain ⟨_, h1⟩ := hf 1 1 73 rfl
    obtain ⟨_, h2⟩ := hf 2 2 36 rfl
    rw [k1] at h0
    rw [k3] at h1
    rw [k2] at h2
    obtain ⟨a0, e0, _⟩ := open_int_in h0
    obtain ⟨AV, n1, c1', vs, e1, hv, hn1, hm1⟩ := open_vols_in h1
    obtain ⟨AS, n2, c2', stack, e2, hs, hn2, hm2⟩ := open_ints_in h2
    simp at e0 e1 e2
    subst e0 e1 e2
    exact ⟨a0, AV, AS, n1, c1', n2, c2', stack, vs, rfl, hs, hv, by omega, by omega⟩
end Go.Proofs.Ytkiohneggoiipaa.Codec
