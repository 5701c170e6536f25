/- Sectors are written. -/
import Derived.Test.YtkfijgdbaihhpaaDiskRead
import Derived.Test.YtkfijgdbaihhpaaDiskSettle
import Derived.Great.BuildSlice
namespace Go.Proofs.Ytkfijgdbaihhpaa.Dsk
open Go.RowKit Mem Crc DiskSpec

/-- A slice of bytes that lies outside the disk's own blocks and reads as the numbers l. -/
def Data (w : World) (own : Nat → Prop) (A : Option Addr) (n : Nat) (l : List Nat) : Prop :=
  l.length = n ∧ (∀ x ∈ l, x < 256) ∧ (0 < n → ∃ g o, A = some ⟨g, o, none⟩ ∧ g < w.heap.size ∧ ¬ own g ∧ ∀ j, j < n → w.cell? ⟨g, o + j, none⟩ = some (.int .u8 (l.getD j 0 : Nat)))
theorem Data.turn {w w' : World} {own own' : Nat → Prop} {A : Option Addr} {n : Nat} {l : List Nat} (h : Data w own A n l) (ht : Turn w w' own own') : Data w' own' A n l := by
  refine ⟨h.1, h.2.1, fun hn => ?_⟩
  obtain ⟨g, o, e, hlt, hno, hc⟩ := h.2.2 hn
  refine ⟨g, o, e, Nat.lt_of_lt_of_le hlt ht.size, fun ho => by rcases ht.fresh g ho with h1 | h1; exact hno h1; omega, fun j hj => ?_⟩
  rw [World.cell?_of_block (a := ⟨g, o + j, none⟩) (ht.block g hlt hno)]
  exact hc j hj

theorem infoS2 : (Try.prog.info? 72).map (fun i => (i.zero, i.size, i.bytes)) = some (some (.agg (Array.replicate 256 (.int .u8 0))), 256, 256) := infoS3

/-- A sector's next version goes into the map: the value's row has grown, and the map has it. -/
theorem Lay.append {w : World} {B b bd bm : Nat} {S : St} {f : Nat → Option Value} {own : Nat → Prop} (h : Lay w B b bd bm f S own) {i : Nat} (hi : i < S.n) {x : List Nat} (hx : Sec x) (hroom : (S.ver i).length < 549755813888) (hB : B ≤ w.heap.size) (ty : TypeId) :
    ∃ v' w1 w2, (Builtin.append_ #[59, 59] ty #[(f i).getD (.slice none 0 0), .slice (some ⟨w.heap.size, 0, none⟩) 1 1]).run Try.prog (w.alloc (.cells (u8s x).toArray 72)) = .ok v' w1 ∧
      (Instr.mapUpdate 60 (.map (some bm)) (.int .i64 (i : Nat)) v').run Try.prog w1 = .ok () w2 ∧
      (∃ f' own', Lay w2 B b bd bm f' (S.add i x) own' ∧ Turn w w2 own own') ∧ ∀ k, k < w.heap.size → (¬ own k ∨ k = b) → w1.heap[k]? = w.heap[k]? := by
  obtain ⟨i0, hi0, hz0, hz1, hz2⟩ := info_parts infoS2
  have htop := h.ok.top
  have h1 := h.alloc (.cells (u8s x).toArray 72)
  obtain ⟨ho, hob⟩ := h1.at_ i
  have hnew := Blk.new w 72 (u8s x).toArray
  have hrd : Reads (w.alloc (.cells (u8s x).toArray 72)) (w.heap.size + 1) 256 (some ⟨w.heap.size, 0, none⟩) 1 (u8s x) := by
    refine ⟨by rw [u8s_length, hx.1], fun _ => ⟨_, rfl, by simp, fun j u hu => ?_⟩⟩
    have e1 : (⟨w.heap.size, 0, none⟩ : Addr).add j = ⟨w.heap.size, j, none⟩ := by unfold Addr.add; split <;> simp_all
    rw [e1, hnew.cell]
    simpa using hu
  obtain ⟨v', w1, hr1, ho1, hg1⟩ := run_append_own_full (P := Try.prog) (w.alloc (.cells (u8s x).toArray 72)) 0 59 ty 72 i0 _ 256 256 Try.underlying59 hi0 hz0 hz1 hz2 (by simp [Value.cells]) (by omega)
    _ _ _ ho (w.heap.size + 1) (some ⟨w.heap.size, 0, none⟩) 1 1 (u8s x) hrd (u8s_one x) (by unfold maxLen; omega) (by omega) (Nat.zero_le _)
  have hbm1 : w1.heap[bm]? = (w.alloc (.cells (u8s x).toArray 72)).heap[bm]? := hg1.1.block bm (h1.lt bm h1.ownM) (fun e => (hob bm e.symm).2.2.2 rfl)
  obtain ⟨w2, hr2, hm2, hg2⟩ := (h1.map.of_block hbm1).store (t := 60) (E := 59) Try.underlying3 Try.underlying60 i hi (by omega) (by unfold maxLen; omega) v'
  obtain ⟨own', hl2, ht2⟩ := h1.add hi hx hg1 ho1 hg2 hm2 (by simp; omega)
  refine ⟨v', w1, w2, hr1, hr2, ⟨_, own', hl2, (Turn.none_ (World.grownBy_alloc w _ none)).trans ht2⟩, fun k hk hno => ?_⟩
  refine (hg1.1.block k (by simp; omega) (fun e => ?_)).trans (Below.heap_alloc w _ k hk)
  obtain ⟨q1, q2, _⟩ := hob k e.symm
  rcases hno with h5 | h5
  · exact h5 q1
  · exact q2 h5

/-- A slice of one sector is laid. -/
theorem build_one {x : List Nat} (hx : Sec x) (w : World) :
    (Instr.buildSlice 59 1 #[(0, .agg (u8s x).toArray)]).run Try.prog w = .ok (.slice (some ⟨w.heap.size, 0, none⟩) 1 1) (w.alloc (.cells (u8s x).toArray 72)) := by
  obtain ⟨i0, hi0, hz0, hz1, _⟩ := info_parts infoS2
  refine run_buildSlice w 59 72 1 _ _ i0 _ Try.underlying59 hi0 hz0 (by rw [hz1]; decide) (by rw [hz1]; decide) ?_
  rw [hz1]
  have hl : (u8s x).length = 256 := by rw [u8s_length, hx.1]
  have hf := Great.fill_whole (s := 256) (by omega) [.agg (u8s x).toArray] ((Array.range (1 * 256)).map fun q => (Value.agg (Array.replicate 256 (.int .u8 0))).cells[q % (Value.agg (Array.replicate 256 (.int .u8 0))).cells.size]!) (by simp [Value.cells, hl]) (by simp)
  have e : ([Value.agg (u8s x).toArray].flatMap fun v => v.cells.toList).toArray = (u8s x).toArray := by simp [Value.cells]
  rw [e] at hf
  exact hf
theorem step_build {P : Program} {ops : Array Oper} {op : Oper} {a : Act} {w w' : World} {K : Act → World → Prop} {Q : Exit → Act → World → Prop} {E : Prop} (hgd : op.guard = none) (t : TypeId) (x : Operand)
    (ho : op.op = .buildSlice t 1 #[(0, x)]) (u v : Value) (hv : a.eval x = u) (hr : (Instr.buildSlice t 1 #[(0, u)]).run P w = .ok v w') (h : K (a.put op.dst v) w') :
    if Region.wanted op (yielded ops a.tmps) = true then Oper.wp P op a w K Q else E := by
  have hw : Region.wanted op (yielded ops a.tmps) = true := by simp [Region.wanted, hgd]
  rw [if_pos hw]
  unfold Oper.wp
  simp [execOp, ho, hv, hr, Result.andThen]
  exact h
theorem step_append {P : Program} {ops : Array Oper} {o : Oper} {a : Act} {w w' : World} {K : Act → World → Prop} {Q : Exit → Act → World → Prop} {E : Prop} (hgd : o.guard = none) (s x : Operand) (t : TypeId)
    (ho : o.op = .call { callee := .builtin .append, args := #[s, x], argTypes := #[t, t] }) (u u' v : Value) (hs : a.eval s = u) (hx : a.eval x = u') (hrun : (Builtin.append_ #[t, t] o.type #[u, u']).run P w = .ok v w') (h : K (a.put o.dst v) w') :
    if Region.wanted o (yielded ops a.tmps) = true then Oper.wp P o a w K Q else E := by
  have hw : Region.wanted o (yielded ops a.tmps) = true := by simp [Region.wanted, hgd]
  rw [if_pos hw]
  unfold Oper.wp execOp
  simp only [ho, resolve, invoke, builtin, Sem.run_bind, Sem.run_pure, Result.andThen_ok, List.map_toArray, List.map_cons, List.map_nil, hs, hx, hrun]
  exact h
theorem step_look {P : Program} {ops : Array Oper} {o : Oper} {a : Act} {w w' : World} {K : Act → World → Prop} {Q : Exit → Act → World → Prop} {E : Prop} (hgd : o.guard = none) (m x : Operand) (t : TypeId)
    (ho : o.op = .lookup t m x false) (u u' v : Value) (hs : a.eval m = u) (hx : a.eval x = u') (hrun : (Instr.lookup t u u' false).run P w = .ok v w') (h : K (a.put o.dst v) w') :
    if Region.wanted o (yielded ops a.tmps) = true then Oper.wp P o a w K Q else E := by
  have hw : Region.wanted o (yielded ops a.tmps) = true := by simp [Region.wanted, hgd]
  rw [if_pos hw]
  unfold Oper.wp
  simp [execOp, ho, hs, hx, hrun, Result.andThen]
  exact h
theorem step_update {P : Program} {ops : Array Oper} {o : Oper} {a : Act} {w w' : World} {K : Act → World → Prop} {Q : Exit → Act → World → Prop} {E : Prop} (hgd : o.guard = none) (m x y : Operand) (t : TypeId)
    (ho : o.op = .mapUpdate t m x y) (u u' u'' : Value) (hs : a.eval m = u) (hx : a.eval x = u') (hy : a.eval y = u'') (hrun : (Instr.mapUpdate t u u' u'').run P w = .ok () w') (h : K (a.put o.dst undef) w') :
    if Region.wanted o (yielded ops a.tmps) = true then Oper.wp P o a w K Q else E := by
  have hw : Region.wanted o (yielded ops a.tmps) = true := by simp [Region.wanted, hgd]
  rw [if_pos hw]
  unfold Oper.wp
  simp [execOp, ho, hs, hx, hy, hrun, Result.andThen]
  exact h
theorem puts_ver {S : St} (fua : Bool) (a : Nat) (l : List Nat) : ∀ j k, a + j ≤ k → (S.puts fua a l j).ver k = S.ver k
  | 0, _, _ => rfl
  | j + 1, k, h => by
    have ih := puts_ver (S := S) fua a l j k (by omega)
    rw [St.puts, ← ih]
    unfold St.put
    split
    · have hne : k ≠ a + j := by omega
      show upd (upd (S.puts fua a l j).ver (a + j) _) (a + j) [] k = _
      rw [upd_ne _ _ hne, upd_ne _ _ hne]
    · have hne : k ≠ a + j := by omega
      show upd (S.puts fua a l j).ver (a + j) _ k = _
      rw [upd_ne _ _ hne]
end Go.Proofs.Ytkfijgdbaihhpaa.Dsk
