/- Texts of this seat's proofs: DiskWrite, DiskWrite2. -/
import Derived.Test.YteaokeiolgjhaaaGreatPDiskRead
import Derived.Test.YteaokeiolgjhaaaGreatPDiskSettle
import Derived.Great.BuildSlice
/- Sectors are written. -/
namespace Go.Proofs.YteaokeiolgjhaaaGreat.Dsk
open Go.RowKit Mem Crc DiskSpec

/-- A slice of bytes that lies outside the disk's own blocks and reads as the numbers l. -/
def Data (w : World) (own : Nat → Prop) (A : Option Addr) (n : Nat) (l : List Nat) : Prop :=
  l.length = n ∧ (∀ x ∈ l, x < 256) ∧ (0 < n → ∃ g o, A = some ⟨g, o, none⟩ ∧ g < w.heap.size ∧ ¬ own g ∧ ∀ j, j < n → w.cell? ⟨g, o + j, none⟩ = some (.int .u8 (l.getD j 0 : Nat)))
theorem Data.turn {w w' : World} {own own' : Nat → Prop} {A : Option Addr} {n : Nat} {l : List Nat} (h : Data w own A n l) (ht : Turn w w' own own') : Data w' own' A n l := by
  refine ⟨h.1, h.2.1, fun hn => ?_⟩
  obtain ⟨g, o, e, hlt, hno, hc⟩ := h.2.2 hn
  refine ⟨g, o, e, Nat.lt_of_lt_of_le hlt ht.size, fun ho => by rcases ht.fresh g ho with h1 | h1; exact hno h1; omega, fun j hj => ?_⟩
  rw [World.cell?_of_block (a := ⟨g, o + j, none⟩) (ht.block g hlt hno)]
  exact hc j hj

theorem infoS2 : (Tryz.prog.info? 119).map (fun i => (i.zero, i.size, i.bytes)) = some (some (.agg (Array.replicate 256 (.int .u8 0))), 256, 256) := infoS3

/-- A sector's next version goes into the map: the value's row has grown, and the map has it. -/
theorem Lay.append {w : World} {B b bd bm : Nat} {S : St} {f : Nat → Option Value} {own : Nat → Prop} (h : Lay w B b bd bm f S own) {i : Nat} (hi : i < S.n) {x : List Nat} (hx : Sec x) (hroom : (S.ver i).length < 549755813888) (hB : B ≤ w.heap.size) (ty : TypeId) :
    ∃ v' w1 w2, (Builtin.append_ #[88, 88] ty #[(f i).getD (.slice none 0 0), .slice (some ⟨w.heap.size, 0, none⟩) 1 1]).run Tryz.prog (w.alloc (.cells (u8s x).toArray 119)) = .ok v' w1 ∧
      (Instr.mapUpdate 89 (.map (some bm)) (.int .i64 (i : Nat)) v').run Tryz.prog w1 = .ok () w2 ∧
      (∃ f' own', Lay w2 B b bd bm f' (S.add i x) own' ∧ Turn w w2 own own') ∧ ∀ k, k < w.heap.size → (¬ own k ∨ k = b) → w1.heap[k]? = w.heap[k]? := by
  obtain ⟨i0, hi0, hz0, hz1, hz2⟩ := info_parts infoS2
  have htop := h.ok.top
  have h1 := h.alloc (.cells (u8s x).toArray 119)
  obtain ⟨ho, hob⟩ := h1.at_ i
  have hnew := Blk.new w 119 (u8s x).toArray
  have hrd : Reads (w.alloc (.cells (u8s x).toArray 119)) (w.heap.size + 1) 256 (some ⟨w.heap.size, 0, none⟩) 1 (u8s x) := by
    refine ⟨by rw [u8s_length, hx.1], fun _ => ⟨_, rfl, by simp, fun j u hu => ?_⟩⟩
    have e1 : (⟨w.heap.size, 0, none⟩ : Addr).add j = ⟨w.heap.size, j, none⟩ := by unfold Addr.add; split <;> simp_all
    rw [e1, hnew.cell]
    simpa using hu
  obtain ⟨v', w1, hr1, ho1, hg1⟩ := run_append_own_full (P := Tryz.prog) (w.alloc (.cells (u8s x).toArray 119)) 0 88 ty 119 i0 _ 256 256 Tryz.underlying88 hi0 hz0 hz1 hz2 (by simp [Value.cells]) (by omega)
    _ _ _ ho (w.heap.size + 1) (some ⟨w.heap.size, 0, none⟩) 1 1 (u8s x) hrd (u8s_one x) (by unfold maxLen; omega) (by omega) (Nat.zero_le _)
  have hbm1 : w1.heap[bm]? = (w.alloc (.cells (u8s x).toArray 119)).heap[bm]? := hg1.1.block bm (h1.lt bm h1.ownM) (fun e => (hob bm e.symm).2.2.2 rfl)
  obtain ⟨w2, hr2, hm2, hg2⟩ := (h1.map.of_block hbm1).store (t := 89) (E := 88) Tryz.underlying3 Tryz.underlying89 i hi (by omega) (by unfold maxLen; omega) v'
  obtain ⟨own', hl2, ht2⟩ := h1.add hi hx hg1 ho1 hg2 hm2 (by simp; omega)
  refine ⟨v', w1, w2, hr1, hr2, ⟨_, own', hl2, (Turn.none_ (World.grownBy_alloc w _ none)).trans ht2⟩, fun k hk hno => ?_⟩
  refine (hg1.1.block k (by simp; omega) (fun e => ?_)).trans (Below.heap_alloc w _ k hk)
  obtain ⟨q1, q2, _⟩ := hob k e.symm
  rcases hno with h5 | h5
  · exact h5 q1
  · exact q2 h5

/-- A slice of one sector is laid. -/
theorem build_one {x : List Nat} (hx : Sec x) (w : World) :
    (Instr.buildSlice 88 1 #[(0, .agg (u8s x).toArray)]).run Tryz.prog w = .ok (.slice (some ⟨w.heap.size, 0, none⟩) 1 1) (w.alloc (.cells (u8s x).toArray 119)) := by
  obtain ⟨i0, hi0, hz0, hz1, _⟩ := info_parts infoS2
  refine run_buildSlice w 88 119 1 _ _ i0 _ Tryz.underlying88 hi0 hz0 (by rw [hz1]; decide) (by rw [hz1]; decide) ?_
  rw [hz1]
  have hl : (u8s x).length = 256 := by rw [u8s_length, hx.1]
  have hf := Great.fill_whole (s := 256) (by omega) [.agg (u8s x).toArray] ((Array.range (1 * 256)).map fun q => (Value.agg (Array.replicate 256 (.int .u8 0))).cells[q % (Value.agg (Array.replicate 256 (.int .u8 0))).cells.size]!) (by simp [Value.cells, hl]) (by simp)
  have e : ([Value.agg (u8s x).toArray].flatMap fun v => v.cells.toList).toArray = (u8s x).toArray := by simp [Value.cells]
  rw [e] at hf
  exact hf
theorem step_build {P : Program} {ops : Array Oper} {op : Oper} {a : Act} {w w' : World} {K : Act → World → Prop} {Q : Exit → Act → World → Prop} {E : Prop} (hgd : op.guard = none) (t : TypeId) (x : Operand)
    (ho : op.op = .buildSlice t 1 #[(0, x)]) (u v : Value) (hv : a.eval x = u) (hr : (Instr.buildSlice t 1 #[(0, u)]).run P w = .ok v w') (h : K (a.put op.dst v) w') :
    if Region.wanted op (yielded ops a.tmps) = true then Oper.wp P op a w K Q else E := by
  have hw : Region.wanted op (yielded ops a.tmps) = true := by simp [Region.wanted, hgd]
  rw [if_pos hw]
  unfold Oper.wp
  simp [execOp, ho, hv, hr, Result.andThen]
  exact h
theorem step_append {P : Program} {ops : Array Oper} {o : Oper} {a : Act} {w w' : World} {K : Act → World → Prop} {Q : Exit → Act → World → Prop} {E : Prop} (hgd : o.guard = none) (s x : Operand) (t : TypeId)
    (ho : o.op = .call { callee := .builtin .append, args := #[s, x], argTypes := #[t, t] }) (u u' v : Value) (hs : a.eval s = u) (hx : a.eval x = u') (hrun : (Builtin.append_ #[t, t] o.type #[u, u']).run P w = .ok v w') (h : K (a.put o.dst v) w') :
    if Region.wanted o (yielded ops a.tmps) = true then Oper.wp P o a w K Q else E := by
  have hw : Region.wanted o (yielded ops a.tmps) = true := by simp [Region.wanted, hgd]
  rw [if_pos hw]
  unfold Oper.wp execOp
  simp only [ho, resolve, invoke, builtin, Sem.run_bind, Sem.run_pure, Result.andThen_ok, List.map_toArray, List.map_cons, List.map_nil, hs, hx, hrun]
  exact h
theorem step_look {P : Program} {ops : Array Oper} {o : Oper} {a : Act} {w w' : World} {K : Act → World → Prop} {Q : Exit → Act → World → Prop} {E : Prop} (hgd : o.guard = none) (m x : Operand) (t : TypeId)
    (ho : o.op = .lookup t m x false) (u u' v : Value) (hs : a.eval m = u) (hx : a.eval x = u') (hrun : (Instr.lookup t u u' false).run P w = .ok v w') (h : K (a.put o.dst v) w') :
    if Region.wanted o (yielded ops a.tmps) = true then Oper.wp P o a w K Q else E := by
  have hw : Region.wanted o (yielded ops a.tmps) = true := by simp [Region.wanted, hgd]
  rw [if_pos hw]
  unfold Oper.wp
  simp [execOp, ho, hs, hx, hrun, Result.andThen]
  exact h
theorem step_update {P : Program} {ops : Array Oper} {o : Oper} {a : Act} {w w' : World} {K : Act → World → Prop} {Q : Exit → Act → World → Prop} {E : Prop} (hgd : o.guard = none) (m x y : Operand) (t : TypeId)
    (ho : o.op = .mapUpdate t m x y) (u u' u'' : Value) (hs : a.eval m = u) (hx : a.eval x = u') (hy : a.eval y = u'') (hrun : (Instr.mapUpdate t u u' u'').run P w = .ok () w') (h : K (a.put o.dst undef) w') :
    if Region.wanted o (yielded ops a.tmps) = true then Oper.wp P o a w K Q else E := by
  have hw : Region.wanted o (yielded ops a.tmps) = true := by simp [Region.wanted, hgd]
  rw [if_pos hw]
  unfold Oper.wp
  simp [execOp, ho, hs, hx, hy, hrun, Result.andThen]
  exact h
theorem puts_ver {S : St} (fua : Bool) (a : Nat) (l : List Nat) : ∀ j k, a + j ≤ k → (S.puts fua a l j).ver k = S.ver k
  | 0, _, _ => rfl
  | j + 1, k, h => by
    have ih := puts_ver (S := S) fua a l j k (by omega)
    rw [St.puts, ← ih]
    unfold St.put
    split
    · have hne : k ≠ a + j := by omega
      show upd (upd (S.puts fua a l j).ver (a + j) _) (a + j) [] k = _
      rw [upd_ne _ _ hne, upd_ne _ _ hne]
    · have hne : k ≠ a + j := by omega
      show upd (S.puts fua a l j).ver (a + j) _ k = _
      rw [upd_ne _ _ hne]
end Go.Proofs.YteaokeiolgjhaaaGreat.Dsk
/- Sectors are written: the whole call. -/
namespace Go.Proofs.YteaokeiolgjhaaaGreat.Dsk
open Go.RowKit Mem Crc DiskSpec

theorem grown_setRow {w W : World} {h : Nat} (hg : w.grownBy W none) (hh : w.heap.size ≤ h) (cs : Array Value) : w.grownBy (W.setRow h cs) none :=
  ⟨hg.os, hg.tape, hg.output, by simpa [World.setRow] using hg.size, fun k hk _ => (setRow_other W h k cs (by omega)).trans (hg.block k hk (by simp))⟩
theorem sec_cells {l : List Nat} {j q : Nat} (h : 256 * (j + 1) ≤ l.length) (hq : q < 256) : (u8s (sec l j))[q]? = some (.int .u8 (l.getD (j * 256 + q) 0 : Nat)) := by
  have hs : (sec l j).length = 256 := by simp [sec]; omega
  rw [u8s_at _ _ (by omega)]
  congr 3
  rw [List.getD_eq_getElem?_getD, List.getD_eq_getElem?_getD, sec, List.getElem?_take_of_lt hq, List.getElem?_drop, Nat.mul_comm]

set_option maxRecDepth 100000 in
set_option maxHeartbeats 3200000 in
theorem disk_write_ok {w : World} {B b bd bm : Nat} {S : St} {f : Nat → Option Value} {own : Nat → Prop} (h : Lay w B b bd bm f S own) (a count : Nat) (A : Option Addr) (c : Nat) (l : List Nat) (fua : Bool)
    (hd : Data w own A (count * 256) l) (hc : count * 256 ≤ c) (h1 : 1 ≤ count) (h2 : a + count ≤ S.n) (hf2 : S.f2 ≠ 1) (hlf : S.left ≠ 0) (hroom : ∀ i, (S.ver i).length < 549755813888) (hB : B ≤ w.heap.size) :
    Calls Tryz.prog 43 #[.pointer (some ⟨b, 0, none⟩), .int .i64 (a : Nat), .slice A (count * 256) c, .bool fua] w fun e w' => e = .returned (.int .i64 0) ∧
      ∃ f' own', Lay w' B b bd bm f' (({ S with f2 := S.f2 - 1 } : St).puts fua a l count).done own' ∧ Turn w w' own own' := by
  have htop := h.ok.top
  have HH := Lib.hid (disk_has h (a : Int) (count : Int) (by omega) (by omega))
  have hhas : S.has a count = true := by simp [St.has]; omega
  have HD := Lib.hid (disk_stops2 h)
  have HF := Lib.hid (show (decide (S.f2 = 1) || decide (S.left = 0)) = false by simp [hf2, hlf])
  have HOB := Lib.hid h.ownB
  clear h
  rw [hhas] at HH
  rw [HF.out] at HD
  generalize hT : ({ S with f2 := S.f2 - 1 } : St) = T at *
  have HTN := Lib.hid (show T.n = S.n by rw [← hT])
  have HTR := Lib.hid (show ∀ i, (T.ver i).length < 549755813888 by rw [← hT]; exact hroom)
  clear hT hhas hroom
  obtain ⟨g, o, rfl, _⟩ := hd.2.2 (by omega)
  have HDT := Lib.hid hd; clear hd
  have hm1 : ((count * 256 : Nat) : Int) % 256 = 0 := by omega
  have hm2 : ((count * 256 : Nat) : Int) / 256 = (count : Int) := by omega
  have hm3 : (((count * 256 : Nat) : Int) == 0) = false := by simp; omega
  generalize hn : count * 256 = n at *
  have HN := Lib.hid hn; clear hn
  have hm4 : (n : Int).tmod 256 = 0 := by rw [Int.tmod_eq_emod_of_nonneg (by omega)]; exact hm1
  have hm5 : (n : Int).tdiv 256 = (count : Int) := by rw [Int.tdiv_eq_ediv_of_nonneg (by omega)]; exact hm2
  have hw5 : IntKind.i64.wrap (count : Int) = (count : Int) := IntWalk.i64_in _ (by omega)
  go_enter Tryz.func43, Tryz.ntmps43
  go_wp2_with fail
  refine HH.out.mono ?_
  rintro e w' ⟨rfl, rfl⟩
  go_wp2_with fail
  refine HD.out.mono ?_
  rintro e w1 ⟨rfl, hg1, hl1⟩
  have HT1 := Lib.hid (Turn.of_grown (own := own) hg1 (fun q e => by cases e; exact HOB.out)); have H1 := Lib.hid hl1; clear hg1 hl1
  go_wp2_with fail
  go_loopw [10, 11, 32] (fun _ _ i wr => ∃ (j : Nat) (f' : Nat → Option Value) (own' : Nat → Prop), j ≤ count ∧ i = .int .i64 j ∧ Lay wr B b bd bm f' (T.puts fua a l j) own' ∧ Turn w wr own own') (fun _ _ i _ => count - (Go.RowKit.intOf i).toNat)
  case atStart => exact ⟨0, f, own, by omega, rfl, H1.out, HT1.out⟩
  case round =>
    obtain ⟨j, f', own', hj, rfl, hl, ht⟩ := hrel
    have HL := Lib.hid hl; have HTU := Lib.hid ht; clear hl ht
    by_cases hlt : j < count
    · obtain ⟨g', o', e0, hglt, hgno, hcell⟩ := (HDT.out.turn HTU.out).2.2 (by omega)
      simp only [Option.some.injEq, Addr.mk.injEq, and_true] at e0
      obtain ⟨rfl, rfl⟩ := e0
      have hll := HDT.out.1
      have hsec : Sec (sec l j) := sec_sec (by omega) HDT.out.2.1
      have hij : a + j < (T.puts fua a l j).n := by rw [puts_n, HTN.out]; omega
      have hwj : IntKind.i64.wrap ((a : Int) + (j : Int)) = (a : Int) + (j : Int) := IntWalk.i64_in _ (by omega)
      have hwj2 : IntKind.i64.wrap ((j : Int) * 256) = (j : Int) * 256 := IntWalk.i64_in _ (by omega)
      have EA := Lib.hid (show (a : Int) + (j : Int) = ((a + j : Nat) : Int) by omega)
      have hz := zeroS
      have hsz : (Array.replicate 256 (Value.int .u8 0)).size = 256 := by simp
      generalize hzz : Array.replicate 256 (Value.int .u8 0) = zs at *
      clear hzz
      -- the version's own array, and what is copied into it
      have hbV := (Blk.new wr 119 zs).drew
      have hW : wr.grownBy (wr.alloc (.cells zs 119)).drew none := (World.grownBy_alloc wr _ none).trans (grown_drew _ none)
      have hsx : (u8s (sec l j)).length = 256 := by rw [u8s_length, hsec.1]
      have hcp := run_copy_row (P := Tryz.prog) (wr.alloc (.cells zs 119)).drew 38 38 3 5 wr.heap.size 0 256 256 ⟨g, o + j * 256, none⟩ (n - j * 256) (c - j * 256)
        zs 119 (u8s (sec l j)) Tryz.underlying38 (by kernel_rfl) hbV (by rw [hsx]; have := HN.out; exact (Nat.min_eq_right (by omega)).symm)
        (fun q v hv => by
          have e1 : (⟨g, o + j * 256, none⟩ : Addr).add q = ⟨g, o + (j * 256 + q), none⟩ := by unfold Addr.add; split <;> simp_all [Nat.add_assoc]
          have hq : q < 256 := by have := (List.getElem?_eq_some_iff.1 hv).1; omega
          have := HN.out
          rw [e1, hW.cell_far ⟨g, o + (j * 256 + q), none⟩ hglt (by simp), hcell (j * 256 + q) (by omega)]
          rw [sec_cells (by omega) hq] at hv
          exact hv) (by rw [hsx, hsz]; omega) (u8s_one _)
      have hcs : (zs.toList.take 0 ++ u8s (sec l j) ++ zs.toList.drop (0 + (u8s (sec l j)).length)).toArray = (u8s (sec l j)).toArray := by
        rw [hsx, List.drop_eq_nil_of_le (by simp [hsz]), List.append_nil, List.take_zero, List.nil_append]
      rw [hcs, hsx] at hcp
      have HBV := Lib.hid (blk_setRow hbV (u8s (sec l j)).toArray)
      have HGV := Lib.hid (grown_setRow hW (Nat.le_refl _) (u8s (sec l j)).toArray)
      have hne : ¬ (c = j * 256) := by have := HN.out; omega
      have hle : (j : Int) * 256 ≤ (n : Int) := by have := HN.out; omega
      have hnn : (0 : Int) ≤ (j : Int) * 256 := by omega
      have htn : ((j : Int) * 256).toNat = j * 256 := by omega
      clear hbV hW hcs hcell hglt hgno hll
      go_wp2_with fail
      go_region
      generalize (wr.alloc (.cells zs 119)).drew.setRow wr.heap.size (u8s (sec l j)).toArray = W at *
      have hVn : ¬ own' wr.heap.size := fun e => by have := HL.out.lt _ e; omega
      have hVlt := HBV.out.lt
      have hlD := (HL.out.grown HGV.out (fun _ e => by cases e)).drew
      obtain ⟨v', wa, wb, hr1, hr2, ⟨f2, own2, hl2, ht2⟩, hk⟩ := hlD.append hij hsec (by rw [puts_ver fua a l j (a + j) (Nat.le_refl _)]; exact HTR.out _) (by have := HGV.out.size; have := HTU.out.size; rw [heap_drew]; omega) 88
      have hlk1 := hlD.map.look (t := 89) (E := 88) Tryz.underlying3 Tryz.underlying89 (zeroM _) (a + j) (by omega)
      have hlk2 := (hlD.alloc (.cells (u8s (sec l j)).toArray 119)).map.look (t := 89) (E := 88) Tryz.underlying3 Tryz.underlying89 (zeroM _) (a + j) (by omega)
      have hrV : W.drew.rangeAt wr.heap.size 0 (u8s (sec l j)) := fun q v hv => by
        rw [Nat.zero_add, (HBV.out.drew).cell]; simpa using hv
      have hka := hk b (hlD.lt b hlD.ownB) (.inr rfl)
      have hkV := hk wr.heap.size (by rw [heap_drew]; exact hVlt) (.inl hVn)
      have HK0 := Lib.hid (show W.drew.cell? ⟨b, 1, none⟩ = some (.map (some bm)) ∧ W.drew.rangeAt wr.heap.size 0 (u8s (sec l j)) from ⟨hlD.c1, hrV⟩)
      have HK1 := Lib.hid (show (W.drew.alloc (.cells (u8s (sec l j)).toArray 119)).cell? ⟨b, 1, none⟩ = some (.map (some bm)) ∧ (W.drew.alloc (.cells (u8s (sec l j)).toArray 119)).rangeAt wr.heap.size 0 (u8s (sec l j)) from ⟨(hlD.alloc _).c1, World.rangeAt_alloc hrV _⟩)
      have HK2 := Lib.hid (show wa.cell? ⟨b, 1, none⟩ = some (.map (some bm)) ∧ wa.rangeAt wr.heap.size 0 (u8s (sec l j)) from ⟨by rw [World.cell?_of_block (a := ⟨b, 1, none⟩) hka]; exact hlD.c1, rangeAt_of_block hrV hkV⟩)
      have HK3 := Lib.hid (show wb.cell? ⟨b, 1, none⟩ = some (.map (some bm)) ∧ wb.rangeAt wr.heap.size 0 (u8s (sec l j)) from ⟨hl2.c1, rangeAt_of_block hrV (ht2.block _ (by rw [heap_drew]; exact hVlt) hVn)⟩)
      have HL2 := Lib.hid hl2
      have HT2 := Lib.hid (HTU.out.trans ((Turn.none_ (HGV.out.trans (grown_drew _ none))).trans ht2))
      have hbs := build_one hsec
      have hI : (Tryz.prog.info? 119).map (·.size) = some (u8s (sec l j)).length := by rw [hsx]; exact infoS
      have hU : Tryz.prog.underlying 119 = some (.array 256 5) := Tryz.underlying119
      rw [← EA.out] at hlk1 hlk2 hr2
      have HPUT := Lib.hid (show T.puts fua a l (j + 1) = (T.puts fua a l j).put fua (a + j) (sec l j) from rfl)
      have hc1 := hlD.c1
      clear hcp hka hkV hk hl2 ht2 hrV hlD HBV HGV hVn hVlt
      generalize (f' (a + j)).getD (.slice none 0 0) = v0 at *
      generalize hx : u8s (sec l j) = x at *
      clear hx
      go_wp2_with fail
      refine wp_region_noPanic ?_
      refine wp_region_held_drew (S := fun wx => wx.cell? ⟨b, 1, none⟩ = some (.map (some bm)) ∧ wx.rangeAt wr.heap.size 0 x) (by kernel_rfl) HK0.out (fun hHeld => ?_)
      refine wpAnyH_take (i := 0) (v := .pointer (some ⟨b, 0, none⟩)) rfl (by kernel_rfl) (by kernel_rfl) (by kernel_rfl) (fun _ _ _ h => h) (Or.inl ⟨by rfl, ?_⟩) (by assumption) ?_
      · intro w1 hSw; (try dsimp only at hSw); go_simp
      simp only [Act.put, List.getElem_toArray, List.getElem_cons_zero, List.setIfInBounds_toArray, List.set_cons_zero, List.set_cons_succ]
      refine wpAnyH_take (i := 1) (v := .pointer (some ⟨b, 0, none⟩)) rfl (by kernel_rfl) (by kernel_rfl) (by kernel_rfl) (fun _ _ _ h => h) (Or.inl ⟨by rfl, ?_⟩) (by assumption) ?_
      · intro w1 hSw; (try dsimp only at hSw); go_simp
      simp only [Act.put, List.getElem_toArray, List.getElem_cons_succ, List.getElem_cons_zero, List.setIfInBounds_toArray, List.set_cons_zero, List.set_cons_succ]
      refine wpAnyH_take (i := 2) (v := .pointer (some ⟨b, 1, none⟩)) rfl (by kernel_rfl) (by kernel_rfl) (by kernel_rfl) (fun _ _ _ h => h) (Or.inl ⟨by rfl, ?_⟩) (by assumption) ?_
      · intro w1 hSw; (try dsimp only at hSw); go_simp
      simp only [Act.put, List.getElem_toArray, List.getElem_cons_succ, List.getElem_cons_zero, List.setIfInBounds_toArray, List.set_cons_zero, List.set_cons_succ]
      refine wpAnyH_take (i := 3) (v := .map (some bm)) rfl (by kernel_rfl) (by kernel_rfl) (by kernel_rfl) (fun _ _ _ h => h) (Or.inl ⟨by rfl, ?_⟩) (by assumption) ?_
      · intro w1 hSw; (try dsimp only at hSw); go_simp
      simp only [Act.put, List.getElem_toArray, List.getElem_cons_succ, List.getElem_cons_zero, List.setIfInBounds_toArray, List.set_cons_zero, List.set_cons_succ]
      refine wpAnyH_take (i := 4) (v := .int .i64 (a : Nat)) rfl (by kernel_rfl) (by kernel_rfl) (by kernel_rfl) (fun _ _ _ h => h) (Or.inl ⟨by rfl, ?_⟩) (by assumption) ?_
      · intro w1 hSw; (try dsimp only at hSw); go_simp
      simp only [Act.put, List.getElem_toArray, List.getElem_cons_succ, List.getElem_cons_zero, List.setIfInBounds_toArray, List.set_cons_zero, List.set_cons_succ]
      refine wpAnyH_take (i := 5) (v := .int .i64 (j : Nat)) rfl (by kernel_rfl) (by kernel_rfl) (by kernel_rfl) (fun _ _ _ h => h) (Or.inl ⟨by rfl, ?_⟩) (by assumption) ?_
      · intro w1 hSw; (try dsimp only at hSw); go_simp
      simp only [Act.put, List.getElem_toArray, List.getElem_cons_succ, List.getElem_cons_zero, List.setIfInBounds_toArray, List.set_cons_zero, List.set_cons_succ]
      refine wpAnyH_take (i := 6) (v := .int .i64 ((a : Int) + (j : Int))) rfl (by kernel_rfl) (by kernel_rfl) (by kernel_rfl) (fun _ _ _ h => h) (Or.inl ⟨by rfl, ?_⟩) (by assumption) ?_
      · intro w1 hSw; (try dsimp only at hSw); go_simp
      simp only [Act.put, List.getElem_toArray, List.getElem_cons_succ, List.getElem_cons_zero, List.setIfInBounds_toArray, List.set_cons_zero, List.set_cons_succ]
      refine wpAnyH_take (i := 7) (v := .pointer (some ⟨b, 0, none⟩)) rfl (by kernel_rfl) (by kernel_rfl) (by kernel_rfl) (fun _ _ _ h => h) (Or.inl ⟨by rfl, ?_⟩) (by assumption) ?_
      · intro w1 hSw; (try dsimp only at hSw); go_simp
      simp only [Act.put, List.getElem_toArray, List.getElem_cons_succ, List.getElem_cons_zero, List.setIfInBounds_toArray, List.set_cons_zero, List.set_cons_succ]
      refine wpAnyH_take (i := 8) (v := .pointer (some ⟨b, 0, none⟩)) rfl (by kernel_rfl) (by kernel_rfl) (by kernel_rfl) (fun _ _ _ h => h) (Or.inl ⟨by rfl, ?_⟩) (by assumption) ?_
      · intro w1 hSw; (try dsimp only at hSw); go_simp
      simp only [Act.put, List.getElem_toArray, List.getElem_cons_succ, List.getElem_cons_zero, List.setIfInBounds_toArray, List.set_cons_zero, List.set_cons_succ]
      refine wpAnyH_take (i := 9) (v := .pointer (some ⟨b, 1, none⟩)) rfl (by kernel_rfl) (by kernel_rfl) (by kernel_rfl) (fun _ _ _ h => h) (Or.inl ⟨by rfl, ?_⟩) (by assumption) ?_
      · intro w1 hSw; (try dsimp only at hSw); go_simp
      simp only [Act.put, List.getElem_toArray, List.getElem_cons_succ, List.getElem_cons_zero, List.setIfInBounds_toArray, List.set_cons_zero, List.set_cons_succ]
      refine wpAnyH_take (i := 10) (v := .map (some bm)) rfl (by kernel_rfl) (by kernel_rfl) (by kernel_rfl) (fun _ _ _ h => h) (Or.inl ⟨by rfl, ?_⟩) (by assumption) ?_
      · intro w1 hSw; (try dsimp only at hSw); go_simp
      simp only [Act.put, List.getElem_toArray, List.getElem_cons_succ, List.getElem_cons_zero, List.setIfInBounds_toArray, List.set_cons_zero, List.set_cons_succ]
      refine wpAnyH_take (i := 11) (v := .int .i64 (a : Nat)) rfl (by kernel_rfl) (by kernel_rfl) (by kernel_rfl) (fun _ _ _ h => h) (Or.inl ⟨by rfl, ?_⟩) (by assumption) ?_
      · intro w1 hSw; (try dsimp only at hSw); go_simp
      simp only [Act.put, List.getElem_toArray, List.getElem_cons_succ, List.getElem_cons_zero, List.setIfInBounds_toArray, List.set_cons_zero, List.set_cons_succ]
      refine wpAnyH_take (i := 12) (v := .int .i64 (j : Nat)) rfl (by kernel_rfl) (by kernel_rfl) (by kernel_rfl) (fun _ _ _ h => h) (Or.inl ⟨by rfl, ?_⟩) (by assumption) ?_
      · intro w1 hSw; (try dsimp only at hSw); go_simp
      simp only [Act.put, List.getElem_toArray, List.getElem_cons_succ, List.getElem_cons_zero, List.setIfInBounds_toArray, List.set_cons_zero, List.set_cons_succ]
      refine wpAnyH_take (i := 13) (v := .int .i64 ((a : Int) + (j : Int))) rfl (by kernel_rfl) (by kernel_rfl) (by kernel_rfl) (fun _ _ _ h => h) (Or.inl ⟨by rfl, ?_⟩) (by assumption) ?_
      · intro w1 hSw; (try dsimp only at hSw); go_simp
      simp only [Act.put, List.getElem_toArray, List.getElem_cons_succ, List.getElem_cons_zero, List.setIfInBounds_toArray, List.set_cons_zero, List.set_cons_succ]
      refine wpAnyH_take (i := 15) (v := .agg x.toArray) rfl (by kernel_rfl) (by kernel_rfl) (by kernel_rfl) (fun _ _ _ h => h) (yieldsIf_load_mid (by rfl) 119 (Operand.tmp 11) rfl wr.heap.size 0 rfl x _ (fun w h => h.2) hU rfl hI) (by assumption) ?_
      simp only [Act.put, List.getElem_toArray, List.getElem_cons_succ, List.getElem_cons_zero, List.setIfInBounds_toArray, List.set_cons_zero, List.set_cons_succ]
      refine wpAnyH_ready (rs := [14, 16]) (by kernel_rfl) (by simp) ?_
      refine AllReadyH.cons rfl (fun K hK => ?_) (AllReadyH.cons rfl (fun K hK => ?_) AllReadyH.nil)
      · refine step_look rfl (Operand.tmp 51) (Operand.tmp 54) 89 rfl (.map (some bm)) (.int .i64 ((a : Int) + (j : Int))) v0 rfl rfl hlk1 ?_
        refine hK.out _ _ HK0.out (fun hHeld => ?_)
        clear hK K
        refine wpAnyH_ready (rs := [16]) (by kernel_rfl) (by simp) ?_
        refine AllReadyH.cons rfl (fun K hK => ?_) AllReadyH.nil
        refine step_build rfl 88 (Operand.tmp 56) rfl (.agg x.toArray) _ rfl (hbs _) ?_
        refine hK.out _ _ HK1.out (fun hHeld => ?_)
        clear hK K
        refine wpAnyH_ready (rs := [17]) (by kernel_rfl) (by simp) ?_
        refine AllReadyH.cons rfl (fun K hK => ?_) AllReadyH.nil
        refine step_append rfl (Operand.tmp 55) (Operand.tmp 57) 88 rfl v0 _ v' rfl rfl hr1 ?_
        refine hK.out _ _ HK2.out (fun hHeld => ?_)
        clear hK K
        refine wpAnyH_ready (rs := [18]) (by kernel_rfl) (by simp) ?_
        refine AllReadyH.cons rfl (fun K hK => ?_) AllReadyH.nil
        refine step_update rfl (Operand.tmp 44) (Operand.tmp 47) (Operand.tmp 58) 89 rfl (.map (some bm)) (.int .i64 ((a : Int) + (j : Int))) v' rfl rfl rfl hr2 ?_
        refine hK.out _ _ HK3.out (fun hHeld => ?_)
        clear hK K
        refine wpAnyH_done (by kernel_rfl) ?_ _
        refine NoPanic.normal ?_
        simp only [Act.put, List.getElem_toArray, List.getElem_cons_succ, List.getElem_cons_zero, List.setIfInBounds_toArray, List.set_cons_zero, List.set_cons_succ]
        cases fua with
        | false =>
          rw [show (T.puts false a l j).put false (a + j) (sec l j) = (T.puts false a l j).add (a + j) (sec l j) from rfl] at HPUT
          rw [← HPUT.out] at HL2
          go_wp2_with fail
          go_roundw
          case rel => exact ⟨j + 1, _, own2, by omega, by go_num, HL2.out, HT2.out⟩
          case measure => simp [Go.RowKit.intOf]; omega
        | true =>
          have HST := Lib.hid (disk_settle HL2.out (a + j) hij)
          rw [show (T.puts true a l j).put true (a + j) (sec l j) = ((T.puts true a l j).add (a + j) (sec l j)).settle (a + j) from rfl] at HPUT
          rw [← HPUT.out] at HST
          go_wp2_with fail
          rw [EA.out]
          refine HST.out.mono ?_
          rintro e w9 ⟨rfl, ⟨f9, hl9⟩, ht9⟩
          have HL9 := Lib.hid hl9; have HT9 := Lib.hid (HT2.out.trans ht9); clear hl9 ht9
          go_wp2_with fail
          go_roundw
          case rel => exact ⟨j + 1, f9, own2, by omega, by go_num, HL9.out, HT9.out⟩
          case measure => simp [Go.RowKit.intOf]; omega
      · refine step_build rfl 88 (Operand.tmp 56) rfl (.agg x.toArray) _ rfl (hbs _) ?_
        refine hK.out _ _ HK1.out (fun hHeld => ?_)
        clear hK K
        refine wpAnyH_ready (rs := [14]) (by kernel_rfl) (by simp) ?_
        refine AllReadyH.cons rfl (fun K hK => ?_) AllReadyH.nil
        refine step_look rfl (Operand.tmp 51) (Operand.tmp 54) 89 rfl (.map (some bm)) (.int .i64 ((a : Int) + (j : Int))) v0 rfl rfl hlk2 ?_
        refine hK.out _ _ HK1.out (fun hHeld => ?_)
        clear hK K
        refine wpAnyH_ready (rs := [17]) (by kernel_rfl) (by simp) ?_
        refine AllReadyH.cons rfl (fun K hK => ?_) AllReadyH.nil
        refine step_append rfl (Operand.tmp 55) (Operand.tmp 57) 88 rfl v0 _ v' rfl rfl hr1 ?_
        refine hK.out _ _ HK2.out (fun hHeld => ?_)
        clear hK K
        refine wpAnyH_ready (rs := [18]) (by kernel_rfl) (by simp) ?_
        refine AllReadyH.cons rfl (fun K hK => ?_) AllReadyH.nil
        refine step_update rfl (Operand.tmp 44) (Operand.tmp 47) (Operand.tmp 58) 89 rfl (.map (some bm)) (.int .i64 ((a : Int) + (j : Int))) v' rfl rfl rfl hr2 ?_
        refine hK.out _ _ HK3.out (fun hHeld => ?_)
        clear hK K
        refine wpAnyH_done (by kernel_rfl) ?_ _
        refine NoPanic.normal ?_
        simp only [Act.put, List.getElem_toArray, List.getElem_cons_succ, List.getElem_cons_zero, List.setIfInBounds_toArray, List.set_cons_zero, List.set_cons_succ]
        cases fua with
        | false =>
          rw [show (T.puts false a l j).put false (a + j) (sec l j) = (T.puts false a l j).add (a + j) (sec l j) from rfl] at HPUT
          rw [← HPUT.out] at HL2
          go_wp2_with fail
          go_roundw
          case rel => exact ⟨j + 1, _, own2, by omega, by go_num, HL2.out, HT2.out⟩
          case measure => simp [Go.RowKit.intOf]; omega
        | true =>
          have HST := Lib.hid (disk_settle HL2.out (a + j) hij)
          rw [show (T.puts true a l j).put true (a + j) (sec l j) = ((T.puts true a l j).add (a + j) (sec l j)).settle (a + j) from rfl] at HPUT
          rw [← HPUT.out] at HST
          go_wp2_with fail
          rw [EA.out]
          refine HST.out.mono ?_
          rintro e w9 ⟨rfl, ⟨f9, hl9⟩, ht9⟩
          have HL9 := Lib.hid hl9; have HT9 := Lib.hid (HT2.out.trans ht9); clear hl9 ht9
          go_wp2_with fail
          go_roundw
          case rel => exact ⟨j + 1, f9, own2, by omega, by go_num, HL9.out, HT9.out⟩
          case measure => simp [Go.RowKit.intOf]; omega
    · obtain rfl : j = count := by omega
      have HDN := Lib.hid (disk_done HL.out)
      have HOB' := Lib.hid HL.out.ownB
      go_wp2_with fail
      refine HDN.out.mono ?_
      rintro e w9 ⟨rfl, hg9, hl9⟩
      have HL9 := Lib.hid hl9; have HT9 := Lib.hid (HTU.out.trans (Turn.of_grown hg9 (fun q e => by cases e; exact HOB'.out))); clear hl9 hg9
      go_wp2
      go_ret
      exact ⟨rfl, f', own', HL9.out, HT9.out⟩
end Go.Proofs.YteaokeiolgjhaaaGreat.Dsk
