/- What a sector reads as. -/
import Derived.Test.YteaokeiolgjhaaaGreatPDiskLay
import Derived.Laws.ResultCell
import Derived.Deep.WholeRow
namespace Go.Proofs.YteaokeiolgjhaaaGreat.Dsk
open Go.RowKit Mem Crc DiskSpec

theorem zeroS (w : World) : (zeroValue 119).run Tryz.prog w = .ok (.agg (Array.replicate 256 (.int .u8 0))) w := by kernel_rfl
theorem zeroM (w : World) : (zeroValue 88).run Tryz.prog w = .ok (.slice none 0 0) w := by kernel_rfl
theorem infoS : (Tryz.prog.info? 119).map (·.size) = some 256 := by kernel_rfl
theorem ret_row1 {P : Program} {fn : Func} {R : Ending → World → Prop} {a : Act} {w : World} {p : Tmp} {ty : TypeId} (h : fn.results = #[.cell p ty])
    (g : Nat) (t : TypeId) (cs : Array Value) (d : TypeDesc) (hp : a.tmps.getD p undef = .pointer (some ⟨g, 0, none⟩)) (hg : Blk w g t cs)
    (hu : P.underlying ty = some d) (hd : (match d with | .struct _ | .array _ _ => true | _ => false) = true) (hi : (P.info? ty).map (·.size) = some cs.size) (hdf : a.defers = [])
    (hR : R (.returned (.agg cs)) w) : bodyPost P fn R .ret a w := by
  refine bodyPost_ret (v := .agg cs) ?_ hdf hR
  have e : (results fn a.tmps).run P w = ((asAddr (a.tmps.getD p undef)).run P w).andThen fun ad w1 => (loadVar ty ad).run P w1 := by
    simp only [results, h]
    simp [Sem.run_bind, Result.andThen]
  rw [e, hp]
  simp [asAddr, run_loadVar_row w g t ty cs (0, 0) d hg hu hd hi, Result.andThen]
theorem wpList_store_fresh {P : Program} {ops : Array Oper} {rest : List Oper} {op : Oper} {a : Act} {w : World} {Q : Exit → Act → World → Prop} (hgd : op.guard = none) (hdn : op.dst = none) (ty : TypeId) (x y : Operand) (ho : op.op = .store ty x y)
    (c c' : Array Value) (hx : a.eval x = .pointer (some ⟨w.heap.size, 0, none⟩)) (hy : a.eval y = .agg c')
    (hi : (P.info? ty).map (·.size) = some c'.size) (hs : c.size = c'.size) (h1 : c'.all (·.oneCell') = true)
    (h : wpList P ops Q rest a (w.alloc (.cells c' ty))) : wpList P ops Q (op :: rest) a (w.alloc (.cells c ty)) :=
  wpList_plain hgd fun K hK => by
    have hr := run_storeAt_new (P := P) w ty c c' hi hs h1
    unfold Oper.wp execOp
    simp only [ho, hx, hy, Sem.run_bind, Sem.run_pure, hr, Result.andThen_ok]
    have e : a.put op.dst undef = a := by rw [hdn]; rfl
    exact hK _ _ (by rw [e]; exact h)
theorem u8s_oneA (l : List Nat) : (u8s l).toArray.all (·.oneCell') = true := all_oneCell_toArray (u8s_one l)

theorem flat_at : ∀ (vs : List (List Nat)) (q : Nat) (x : List Nat), (∀ v ∈ vs, v.length = 256) → vs[q]? = some x → ∀ j, j < 256 → (flat vs)[q * 256 + j]? = (u8s x)[j]?
  | [], _, _, _, h, _, _ => by simp at h
  | a :: vs, 0, x, hl, h, j, hj => by
    have e : a = x := by simpa using h
    subst e
    have : flat (a :: vs) = u8s a ++ flat vs := by simp [flat, u8s_append]
    rw [this, Nat.zero_mul, Nat.zero_add, List.getElem?_append_left (by rw [u8s_length, hl a (by simp)]; exact hj)]
  | a :: vs, q + 1, x, hl, h, j, hj => by
    have : flat (a :: vs) = u8s a ++ flat vs := by simp [flat, u8s_append]
    rw [this, List.getElem?_append_right (by rw [u8s_length, hl a (by simp)]; omega), u8s_length, hl a (by simp), show (q + 1) * 256 + j - 256 = q * 256 + j from by omega]
    exact flat_at vs q x (fun v hv => hl v (by simp [hv])) (by simpa using h) j hj
/-- A sector's versions, as the map has them: a slice whose elements lie there. -/
theorem Lay.versions {w : World} {B b bd bm : Nat} {S : St} {f : Nat → Option Value} {own : Nat → Prop} (h : Lay w B b bd bm f S own) (i : Nat) (hv : S.ver i ≠ []) :
    ∃ g cap, f i = some (.slice (some ⟨g, 0, none⟩) (S.ver i).length cap) ∧ (S.ver i).length ≤ cap ∧ cap ≤ maxLen ∧ own g ∧ g ≠ bd ∧ ∀ q x, (S.ver i)[q]? = some x → w.rangeAt g (q * 256) (u8s x) := by
  obtain ⟨v, g, h1, h2, h3, h4, _, h6, _⟩ := h.rows.some_ i hv
  have hpos : 0 < (S.ver i).length := List.length_pos_iff.2 hv
  obtain ⟨g', cap, rfl, _, _, hc1, hc2, hc⟩ := h2.reads hpos
  have e : g' = g := by simpa [Value.ownBlock] using h3
  subst e
  refine ⟨g', cap, h1, hc1, hc2, h4, h6, fun q x hx j u hu => ?_⟩
  have hxm : x ∈ S.ver i := List.mem_of_getElem? hx
  have hj : j < 256 := by
    have := (List.getElem?_eq_some_iff.1 hu).1
    rw [u8s_length, (h.ok.ver i x hxm).1] at this
    exact this
  refine hc (q * 256 + j) u ?_
  rw [flat_at (S.ver i) q x (fun v hv => (h.ok.ver i v hv).1) hx j hj]
  exact hu

set_option maxRecDepth 100000 in
set_option maxHeartbeats 800000 in
theorem disk_now {w : World} {B b bd bm : Nat} {S : St} {f : Nat → Option Value} {own : Nat → Prop} (h : Lay w B b bd bm f S own) (i : Nat) (hi : i < S.n) :
    Calls Tryz.prog 135 #[.pointer (some ⟨b, 0, none⟩), .int .i64 (i : Nat)] w fun e w' => e = .returned (.agg (u8s (S.now i)).toArray) ∧ w.grownBy w' none := by
  have hz := zeroS
  have hzm := zeroM
  have hb0 := Blk.new w 119 (Array.replicate 256 (.int .u8 0))
  have hG := World.grownBy_alloc w (.cells (Array.replicate 256 (.int .u8 0)) 119) none
  have h1 := h.alloc (.cells (Array.replicate 256 (.int .u8 0)) 119)
  have hsz : (Array.replicate 256 (Value.int .u8 0)).size = 256 := by simp
  generalize hzz : Array.replicate 256 (Value.int .u8 0) = zs at *
  clear hzz
  have htop := h.ok.top
  have hsec := S.now_sec h.ok i
  have hnow0 := @St.now_nil S i
  have HN := Lib.hid (show S.now i = (S.ver i).getLastD (S.dur i) from rfl)
  by_cases hv : S.ver i = []
  · have hlk := h1.map.look (t := 89) (E := 88) Tryz.underlying3 Tryz.underlying89 (zeroM _) i (by omega)
    rw [h.rows.none_ i hv] at hlk
    simp only [Option.getD_none] at hlk
    have HLD := Lib.hid (show (w.alloc (.cells zs 119)).rangeAt bd (i * 256) (u8s (S.dur i)) from Nat.mul_comm 256 i ▸ h1.dur i hi)
    have HI := Lib.hid (show (Tryz.prog.info? 119).map (·.size) = some (u8s (S.dur i)).length by rw [u8s_length, (h.ok.dur i).1]; exact infoS)
    have HS := Lib.hid (show zs.size = (u8s (S.dur i)).toArray.size by rw [hsz, List.size_toArray, u8s_length, (h.ok.dur i).1])
    have HO := Lib.hid (u8s_oneA (S.dur i))
    have hc0 := h1.c0
    have hc1 := h1.c1
    rw [hnow0 hv] at hsec ⊢
    have HSEC := Lib.hid hsec
    clear hnow0 hv hsec HN h
    have H1 := Lib.hid h1; have HB0 := Lib.hid hb0; have HGG := Lib.hid hG; clear h1 hb0 hG
    generalize hx : (u8s (S.dur i)) = x at *
    have HX := Lib.hid hx; clear hx
    generalize S.n = n at *
    go_enter Tryz.func135, Tryz.ntmps135
    go_wp2_with (first
      | refine wpList_load_mid rfl 119 (Operand.tmp 26) rfl bd (i * 256) rfl x _ HLD.out Tryz.underlying119 rfl HI.out ?_
      | refine wpList_store_fresh rfl rfl 119 (Operand.tmp 4) (Operand.tmp 27) rfl zs x.toArray rfl rfl HI.out HS.out HO.out ?_)
    refine ret_row1 rfl w.heap.size 119 x.toArray _ rfl (Blk.new _ _ _) Tryz.underlying119 rfl HI.out rfl ?_
    exact ⟨rfl, World.grownBy_alloc _ _ _⟩
  · obtain ⟨g, cap, hfi, hcap, hmax, _, _, hat⟩ := h1.versions i hv
    have hlast : S.ver i = (S.ver i).dropLast ++ [S.now i] := by
      have e1 := List.dropLast_concat_getLast hv
      have e2 : S.now i = (S.ver i).getLast hv := by
        rw [HN.out, List.getLastD_eq_getLast?, List.getLast?_eq_some_getLast hv]; rfl
      rw [e2]; exact e1.symm
    have hat1 : (S.ver i)[(S.ver i).dropLast.length]? = some (S.now i) := by
      rw [hlast]; simp
    have hr := hat _ _ hat1
    have hlk := h1.map.look (t := 89) (E := 88) Tryz.underlying3 Tryz.underlying89 (zeroM _) i (by omega)
    rw [hfi] at hlk
    simp only [Option.getD_some] at hlk
    have hk : (S.ver i).length = (S.ver i).dropLast.length + 1 := by
      have := congrArg List.length hlast; simpa using this
    rw [hk] at hlk hcap
    generalize (S.ver i).dropLast.length = k at *
    have hk64 : k + 1 ≤ 9223372036854775807 := by unfold maxLen at hmax; omega
    have HLD := Lib.hid hr
    have HI := Lib.hid (show (Tryz.prog.info? 119).map (·.size) = some (u8s (S.now i)).length by rw [u8s_length, hsec.1]; exact infoS)
    have HS := Lib.hid (show zs.size = (u8s (S.now i)).toArray.size by rw [hsz, List.size_toArray, u8s_length, hsec.1])
    have HO := Lib.hid (u8s_oneA (S.now i))
    have hc1 := h1.c1
    have HCAP := Lib.hid hcap; have HMAX := Lib.hid hmax
    clear hnow0 hv hsec HN h hr hat1 hlast hat hfi hk hcap hmax h1 hb0 hG
    generalize hx : (u8s (S.now i)) = x at *
    have HX := Lib.hid hx; clear hx
    generalize S.n = n at *
    go_enter Tryz.func135, Tryz.ntmps135
    go_wp2_with (first
      | refine wpList_load_mid rfl 119 (Operand.tmp 19) rfl g (k * 256) rfl x _ HLD.out Tryz.underlying119 rfl HI.out ?_
      | refine wpList_store_fresh rfl rfl 119 (Operand.tmp 4) (Operand.tmp 20) rfl zs x.toArray rfl rfl HI.out HS.out HO.out ?_)
    refine ret_row1 rfl w.heap.size 119 x.toArray _ rfl (Blk.new _ _ _) Tryz.underlying119 rfl HI.out rfl ?_
    exact ⟨rfl, World.grownBy_alloc _ _ _⟩
end Go.Proofs.YteaokeiolgjhaaaGreat.Dsk
