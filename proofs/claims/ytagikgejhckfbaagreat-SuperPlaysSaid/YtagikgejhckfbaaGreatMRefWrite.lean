/- The document's disk: Write. -/
import Derived.Test.YtagikgejhckfbaaGreatMRefFail
import Derived.Test.YtagikgejhckfbaaGreatMDiskWrite
namespace Go.Proofs.YtagikgejhckfbaaGreat.Dsk
open Go.RowKit Mem Crc DiskSpec

theorem row_info : (Tryz.prog.info? 70).map (fun i => (i.zero, i.size, i.bytes)) = some (some (.slice none 0 0), 1, 24) := by kernel_rfl
theorem step_load {P : Program} {ops : Array Oper} {o : Oper} {a : Act} {w w' : World} {K : Act → World → Prop} {Q : Exit → Act → World → Prop} {E : Prop} (hgd : o.guard = none) (x : Operand) (t : TypeId)
    (ho : o.op = .load t x) (u v : Value) (hx : a.eval x = u) (hrun : (Instr.loadAt t u).run P w = .ok v w') (h : K (a.put o.dst v) w') :
    if Region.wanted o (yielded ops a.tmps) = true then Oper.wp P o a w K Q else E := by
  have hw : Region.wanted o (yielded ops a.tmps) = true := by simp [Region.wanted, hgd]
  rw [if_pos hw]
  unfold Oper.wp execOp
  simp only [ho, hx, Sem.run_bind, Sem.run_pure, hrun, Result.andThen_ok]
  exact h
theorem step_store {P : Program} {ops : Array Oper} {o : Oper} {a : Act} {w w' : World} {K : Act → World → Prop} {Q : Exit → Act → World → Prop} {E : Prop} (hgd : o.guard = none) (x y : Operand) (t : TypeId)
    (ho : o.op = .store t x y) (u v : Value) (hx : a.eval x = u) (hy : a.eval y = v) (hrun : (Instr.storeAt t u v).run P w = .ok () w') (h : K (a.put o.dst undef) w') :
    if Region.wanted o (yielded ops a.tmps) = true then Oper.wp P o a w K Q else E := by
  have hw : Region.wanted o (yielded ops a.tmps) = true := by simp [Region.wanted, hgd]
  rw [if_pos hw]
  unfold Oper.wp execOp
  simp only [ho, hx, hy, Sem.run_bind, Sem.run_pure, hrun, Result.andThen_ok]
  exact h
/-- A slice value is loaded, a slice value is stored. -/
theorem load_row (w : World) (b o : Nat) (v : Value) (hc : w.cell? ⟨b, o, none⟩ = some v) : (Instr.loadAt 71 (.pointer (some ⟨b, o, none⟩))).run Tryz.prog w = .ok v w := by
  have ha := Tryz.isAgg71 w
  simp [Instr.loadAt, Instr.sureAddr, loadVar, ha, hc]
theorem store_row (w : World) (b o : Nat) (v old : Value) (hc : w.cell? ⟨b, o, none⟩ = some old) (hf : w.frozen? ⟨b, o, none⟩ = false) (A : Option Addr) (n c : Nat) (hv : v = .slice A n c) :
    (Instr.storeAt 71 (.pointer (some ⟨b, o, none⟩)) v).run Tryz.prog w = .ok () (w.setCell ⟨b, o, none⟩ v) := by
  subst hv
  have hz := Tryz.sizeOf71 w
  have e : (⟨b, o, none⟩ : Addr).add 0 = ⟨b, o, none⟩ := by rw [Addr.add_mid, Nat.add_zero]
  have hs := run_store Tryz.prog w ⟨b, o, none⟩ (.slice A n c) .plain rfl
  rw [hc, hf] at hs
  simp [Instr.storeAt, Instr.sureAddr, storeVar, hz, Value.cells, storeCells, e, hs]
theorem build_row (u : Value) (w : World) (A : Option Addr) (n c : Nat) (hu : u = .slice A n c) :
    (Instr.buildSlice 71 1 #[(0, u)]).run Tryz.prog w = .ok (.slice (some ⟨w.heap.size, 0, none⟩) 1 1) (w.alloc (.cells #[u] 70)) := by
  subst hu
  obtain ⟨i0, hi0, hz0, hz1, _⟩ := info_parts row_info
  refine run_buildSlice w 71 70 1 _ _ i0 _ Tryz.underlying71 hi0 hz0 (by rw [hz1]; decide) (by rw [hz1]; decide) ?_
  rw [hz1]
  have hf := Great.fill_whole (s := 1) (by omega) [.slice A n c] ((Array.range (1 * 1)).map fun q => (Value.slice none 0 0).cells[q % (Value.slice none 0 0).cells.size]!) (by simp [Value.cells]) (by simp)
  have e : ([Value.slice A n c].flatMap fun v => v.cells.toList).toArray = #[.slice A n c] := by simp [Value.cells]
  rw [e] at hf
  exact hf
theorem RLay.row_keeps {w w1 : World} {B r bl c : Nat} {dv vv : Nat → Value} {vs : Nat → List Value} {S : St} {own : Nat → Prop} (h : RLay w B r bl c dv vv vs S own) {i : Nat} (hi : i < S.n) {v' : Value} (hgr : Grew w w1 (vv i) v') :
    w1.heap[r]? = w.heap[r]? ∧ w1.heap[bl]? = w.heap[bl]? := by
  obtain ⟨cs, hb, _⟩ := h.cells
  refine ⟨hgr.1.block r (h.lt r h.ownR) (fun e => ?_), hgr.1.block bl (h.lt bl h.ownL) (fun e => ?_)⟩
  · obtain ⟨cur, fz, hh⟩ := h.row_type hi e.symm
    exact types_ne h.blk hh (by decide) rfl
  · obtain ⟨cur, fz, hh⟩ := h.row_type hi e.symm
    exact types_ne hb hh (by decide) rfl
theorem Turn.widen {w w1 : World} {own own1 own2 : Nat → Prop} (h : Turn w w1 own own1) (hf : ∀ i, own2 i → own1 i ∨ w.heap.size ≤ i) : Turn w w1 own own2 :=
  { h with fresh := fun i hi => by rcases hf i hi with h1 | h1; exact h.fresh i h1; exact .inr h1 }
/-- A sector's next version goes onto its row. -/
theorem RLay.append {w : World} {B r bl c : Nat} {dv vv : Nat → Value} {vs : Nat → List Value} {S : St} {own : Nat → Prop} (h : RLay w B r bl c dv vv vs S own) {i : Nat} (hi : i < S.n) (u : Value) (A : Option Addr) (n m : Nat) (hu : u = .slice A n m) (hroom : (S.ver i).length < 549755813888) (ty : TypeId) :
    ∃ v' w1, (Builtin.append_ #[71, 71] ty #[vv i, .slice (some ⟨w.heap.size, 0, none⟩) 1 1]).run Tryz.prog (w.alloc (.cells #[u] 70)) = .ok v' w1 ∧
      Own w1 0 70 1 v' ((S.ver i).length + 1) (vs i ++ [u]) ∧ Grew w w1 (vv i) v' := by
  obtain ⟨i0, hi0, hz0, hz1, hz2⟩ := info_parts row_info
  have hrd : Reads (w.alloc (.cells #[u] 70)) (w.heap.size + 1) 1 (some ⟨w.heap.size, 0, none⟩) 1 [u] := by
    refine ⟨rfl, fun _ => ⟨_, rfl, by simp, fun j x hx => ?_⟩⟩
    match j with
    | 0 => simpa [Addr.add] using hx
    | j + 1 => simp at hx
  obtain ⟨v', w1, h1, h2, h3⟩ := run_append_own_full (P := Tryz.prog) (w.alloc (.cells #[u] 70)) 0 71 ty 70 i0 _ 1 24 Tryz.underlying71 hi0 hz0 hz1 hz2 rfl (by omega)
    _ _ _ ((h.part i hi).row.alloc _) (w.heap.size + 1) (some ⟨w.heap.size, 0, none⟩) 1 1 [u] hrd (fun x hx => by simp at hx; subst hx; rw [hu]; rfl) (by unfold maxLen; omega) (by omega) (Nat.zero_le _)
  exact ⟨v', w1, h1, h2, Grew.behind (World.grownBy_alloc w _ none) h3⟩
theorem RLay.wider {w : World} {B r bl c : Nat} {dv vv : Nat → Value} {vs : Nat → List Value} {S : St} {own : Nat → Prop} (h : RLay w B r bl c dv vv vs S own) {own' : Nat → Prop} (ho : ∀ i, own i → own' i) (hlow : ∀ i, own' i → B ≤ i) (hlt : ∀ i, own' i → i < w.heap.size) : RLay w B r bl c dv vv vs S own' :=
  { h with
    part := fun i hi => (h.part i hi).keep ho (fun _ _ _ _ _ => rfl) (fun _ _ => rfl)
    ownR := ho r h.ownR
    ownL := ho bl h.ownL
    low := hlow
    lt := hlt }
theorem add_settle {S : St} (i : Nat) (x : List Nat) : ({ (S.add i x) with dur := upd (S.add i x).dur i x, ver := upd (S.add i x).ver i [] } : St) = (S.add i x).settle i := by
  have e : (S.add i x).now i = x := by
    show (upd S.ver i (S.ver i ++ [x]) i).getLastD _ = x
    rw [upd_same]; simp
  rw [St.settle, e]

set_option maxRecDepth 100000 in
set_option maxHeartbeats 3200000 in
theorem ref_write_ok {w : World} {B r bl c : Nat} {dv vv : Nat → Value} {vs : Nat → List Value} {S : St} {own : Nat → Prop} (h : RLay w B r bl c dv vv vs S own) (a count : Nat) (A : Option Addr) (cc : Nat) (l : List Nat) (fua : Bool)
    (hd : Data w own A (count * 256) l) (hc : count * 256 ≤ cc) (h1 : 1 ≤ count) (h2 : a + count ≤ S.n) (hf2 : S.f2 ≠ 1) (hlf : S.left ≠ 0) (hroom : ∀ i, (S.ver i).length < 549755813888) (hB : B ≤ w.heap.size) :
    Calls Tryz.prog 24 #[.pointer (some ⟨r, 0, none⟩), .int .i64 (a : Nat), .slice A (count * 256) cc, .bool fua] w fun e w' => e = .returned (.int .i64 0) ∧
      ∃ dv' vv' vs' own', RLay w' B r bl c dv' vv' vs' (({ S with f2 := S.f2 - 1 } : St).puts fua a l count).done own' ∧ Turn w w' own own' := by
  have htop := h.ok.top
  have hcap := h.cap
  have HH := Lib.hid (ref_there h (a : Int) (count : Int) (by omega) (by omega))
  have hhas : S.has a count = true := by simp [St.has]; omega
  rw [hhas] at HH
  have HD := Lib.hid (ref_fails2 h)
  rw [show decide (S.f2 = 1) = false by simp [hf2]] at HD
  have HOB := Lib.hid h.ownR
  clear h hhas
  generalize hT : ({ S with f2 := S.f2 - 1 } : St) = T at *
  have htn : T.n = S.n := by rw [← hT]
  have htl : T.left = S.left := by rw [← hT]
  have HTR := Lib.hid (show ∀ i, (T.ver i).length < 549755813888 by rw [← hT]; exact hroom)
  rw [← htn] at hcap htop h2
  have hl0 : (T.left == 0) = false := by rw [htl]; simp; exact hlf
  clear hT hroom htn htl hlf hf2
  obtain ⟨g, o, rfl, _⟩ := hd.2.2 (by omega)
  have HDT := Lib.hid hd; clear hd
  have hm1 : ((count * 256 : Nat) : Int) % 256 = 0 := by omega
  have hm2 : ((count * 256 : Nat) : Int) / 256 = (count : Int) := by omega
  have hm3 : ((count : Int) == 0) = false := by simp; omega
  generalize hn : count * 256 = n at *
  have HN := Lib.hid hn; clear hn
  have hm4 : (n : Int).tmod 256 = 0 := by rw [Int.tmod_eq_emod_of_nonneg (by omega)]; exact hm1
  have hm5 : (n : Int).tdiv 256 = (count : Int) := by rw [Int.tdiv_eq_ediv_of_nonneg (by omega)]; exact hm2
  have hw5 : IntKind.i64.wrap (count : Int) = (count : Int) := IntWalk.i64_in _ (by omega)
  obtain ⟨i0, hi0, hz0, hz1, hz2⟩ := info_parts byte_info
  have hi := Lib.hid hi0; have z0 := Lib.hid hz0; have z1 := Lib.hid hz1; have z2 := Lib.hid hz2; clear hi0 hz0 hz1 hz2
  go_enter Tryz.func24, Tryz.ntmps24
  go_wp2_with fail
  refine HH.out.mono ?_
  rintro e w' ⟨rfl, rfl⟩
  go_wp2_with fail
  refine HD.out.mono ?_
  rintro e w1 ⟨rfl, hg1, hl1⟩
  have hc5 := hl1.r5
  have HT1 := Lib.hid (Turn.of_grown (own := own) hg1 (fun q e => by cases e; exact HOB.out)); have H1 := Lib.hid hl1; clear hg1 hl1
  generalize hle : T.left = le at *
  have HLE := Lib.hid hle; clear hle
  go_wp2_with fail
  go_loopw [10, 11] (fun i _ wr => ∃ (j : Nat) (dv' vv' : Nat → Value) (vs' : Nat → List Value) (own' : Nat → Prop), j ≤ count ∧ i = .int .i64 j ∧ RLay wr B r bl c dv' vv' vs' (T.puts fua a l j) own' ∧ Turn w wr own own') (fun i _ _ => count - (Go.RowKit.intOf i).toNat)
  case atStart => exact ⟨0, dv, vv, vs, own, by omega, rfl, H1.out, HT1.out⟩
  case round =>
    obtain ⟨j, dv', vv', vs', own', hj, rfl, hl, ht⟩ := hrel
    have HL := Lib.hid hl; have HTU := Lib.hid ht; clear hl ht
    by_cases hlt : j < count
    · obtain ⟨g', o', e0, hglt, hgno, hcell⟩ := (HDT.out.turn HTU.out).2.2 (by omega)
      simp only [Option.some.injEq, Addr.mk.injEq, and_true] at e0
      obtain ⟨rfl, rfl⟩ := e0
      have hll := HDT.out.1
      have hsec : Sec (sec l j) := sec_sec (by omega) HDT.out.2.1
      have hij : a + j < (T.puts fua a l j).n := by rw [puts_n]; omega
      have hrd : Reads wr wr.heap.size 1 (some ⟨g, o + 256 * j, none⟩) 256 (u8s (sec l j)) := by
        refine ⟨by rw [u8s_length, hsec.1], fun _ => ⟨_, rfl, hglt, fun q v hv => ?_⟩⟩
        have hq : q < 256 := by have := (List.getElem?_eq_some_iff.1 hv).1; rw [u8s_length, hsec.1] at this; exact this
        have := HN.out
        rw [Addr.add_mid, Nat.add_assoc, hcell (256 * j + q) (by omega), ← hv, sec_cells (by omega) hq, Nat.mul_comm j 256]
      have HRD := Lib.hid hrd
      have hwj1 : IntKind.i64.wrap (256 * (j : Int)) = 256 * (j : Int) := IntWalk.i64_in _ (by omega)
      have hwj2 : IntKind.i64.wrap (256 * (j : Int) + 256) = 256 * (j : Int) + 256 := IntWalk.i64_in _ (by omega)
      have hwj : IntKind.i64.wrap ((a : Int) + (j : Int)) = (a : Int) + (j : Int) := IntWalk.i64_in _ (by omega)
      have hb1 : 256 * (j : Int) + 256 ≤ (cc : Int) := by have := HN.out; omega
      have hb2 : 256 * (j : Int) ≤ 256 * (j : Int) + 256 := by omega
      have hb0 : (0 : Int) ≤ 256 * (j : Int) := by omega
      have hb3 : (0 : Int) ≤ 256 * (j : Int) + 256 := by omega
      have ht1 : (256 * (j : Int)).toNat = 256 * j := by omega
      have ht2 : (256 * (j : Int) + 256).toNat = 256 * j + 256 := by omega
      have hne : ¬ (cc = 256 * j) := by have := HN.out; omega
      have hx1 : (a : Int) + (j : Int) < (T.n : Int) := by omega
      have hx0 : (0 : Int) ≤ (a : Int) + (j : Int) := by omega
      have hx2 : ((a : Int) + (j : Int)).toNat = a + j := by omega
      clear hrd hcell hgno hll
      go_wp2_with (at_builtin
                   refine wpList_append_own_full _ rfl (.tmp 42) (.tmp 49) _ rfl wr.heap.size 5 i0 _ 1 1 Tryz.underlying70 hi.out z0.out z1.out z2.out rfl (by omega) (.slice none 0 0) 0 [] rfl (Own.nil _ _ _ _)
                     _ _ 256 _ _ rfl HRD.out (u8s_one _) (by simp only [maxLen]; omega) (by omega) (Nat.le_refl _) ?_
                   intro u wa hown' hgr'
                   have HU := Lib.hid hown'; have HGU := Lib.hid hgr'; clear hown' hgr')
      go_wp2_with fail
      -- what was appended: the version's bytes, in a row of their own
      have hU : Own wa wr.heap.size 5 1 u 256 (u8s (sec l j)) := by have := HU.out; rwa [List.nil_append, Nat.zero_add] at this
      have hga := grown_any HGU.out.1 none
      obtain ⟨gu, cu, hue, hgu, hgl, _⟩ := hU.reads (by omega)
      have hmine : ∀ q, u.ownBlock = some q → own' q ∨ q = gu := fun q hq => by rw [hue] at hq; cases hq; exact .inr rfl
      have hl2 := ((HL.out.grown hga (fun _ e => by cases e)).wider (own' := fun q => own' q ∨ q = gu) (fun _ h => .inl h) (fun q hq => by rcases hq with hq | rfl; exact HL.out.low q hq; have := HTU.out.size; omega) (fun q hq => by rcases hq with hq | rfl; exact Nat.lt_of_lt_of_le (HL.out.lt q hq) hga.size; exact hgl)).drew
      have hby : BytesAt wa.drew (fun q => own' q ∨ q = gu) u (sec l j) := (BytesAt.of_own hU hsec hmine)
      obtain ⟨v', wb, hr1, hown, hgr⟩ := hl2.append hij u _ _ _ hue (by rw [puts_ver fua a l j (a + j) (Nat.le_refl _)]; exact HTR.out _) 71
      obtain ⟨A5, c5, hv5, _, _, _⟩ := hown.shape
      have hkb := hl2.row_keeps hij hgr
      have hcold : wb.cell? ⟨bl, (a + j) * 2 + 1, none⟩ = some (vv' (a + j)) := (World.cell?_of_block (a := ⟨bl, (a + j) * 2 + 1, none⟩) hkb.2).trans (hl2.cv hij)
      have hfold : wb.frozen? ⟨bl, (a + j) * 2 + 1, none⟩ = false := (World.frozen?_of_block (a := ⟨bl, (a + j) * 2 + 1, none⟩) hkb.2).trans (hl2.lfz _)
      have hst := store_row wb bl ((a + j) * 2 + 1) v' _ hcold hfold _ _ _ hv5
      obtain ⟨own3, hl3, ht3, hsub⟩ := hl2.add hij hby hgr hown (by have := HTU.out.size; have := hga.size; show _ ≤ wa.heap.size; omega)
      have hld1 := load_row wa.drew bl ((a + j) * 2 + 1) _ (hl2.cv hij)
      have hld2 := load_row (wa.drew.alloc (.cells #[u] 70)) bl ((a + j) * 2 + 1) _ ((hl2.alloc (.cells #[u] 70)).cv hij)
      have hbs := fun wx => build_row u wx _ _ _ hue
      have hpn : (T.puts fua a l j).n = T.n := puts_n T fua a l j
      have hn3 : ((T.puts fua a l j).add (a + j) (sec l j)).n = T.n := hpn
      have hij3 : a + j < ((T.puts fua a l j).add (a + j) (sec l j)).n := hij
      have hrc := hl2.rc
      rw [hpn] at hrc
      have HK0 := Lib.hid hrc
      have HK1 := Lib.hid (show (wa.drew.alloc (.cells #[u] 70)).cell? ⟨r, 0, none⟩ = some (.slice (some ⟨bl, 0, none⟩) T.n c) by rw [← hpn]; exact (hl2.alloc _).rc)
      have HK2 := Lib.hid (show wb.cell? ⟨r, 0, none⟩ = some (.slice (some ⟨bl, 0, none⟩) T.n c) by rw [World.cell?_of_block (a := ⟨r, 0, none⟩) hkb.1]; exact hrc)
      have HK3 := Lib.hid (show (wb.setCell ⟨bl, (a + j) * 2 + 1, none⟩ v').cell? ⟨r, 0, none⟩ = some (.slice (some ⟨bl, 0, none⟩) T.n c) by rw [← hn3]; exact hl3.rc)
      have HL3 := Lib.hid hl3
      have hturn := (HTU.out.trans ((Turn.none_ (own := own') (hga.trans (grown_drew wa none))).widen (own2 := fun q => own' q ∨ q = gu) (fun q hq => by rcases hq with hq | rfl; exact .inl hq; exact .inr hgu))).trans ht3
      have HT3 := Lib.hid hturn
      have hby3 : BytesAt (wb.setCell ⟨bl, (a + j) * 2 + 1, none⟩ v') own3 u (sec l j) := by
        have hlen : (vs' (a + j)).length = ((T.puts fua a l j).ver (a + j)).length := by have := (hl2.part _ hij).row.len; omega
        obtain ⟨u', hu1, hu2⟩ := (hl3.part (a + j) hij3).vers ((T.puts fua a l j).ver (a + j)).length (sec l j) (by
          show (upd (T.puts fua a l j).ver (a + j) _ (a + j))[_]? = _
          rw [upd_same]; simp)
        rw [upd_same, ← hlen] at hu1
        simp at hu1
        rw [hu1]; exact hu2
      have hset := hl3.settle hij3 hby3
      rw [add_settle] at hset
      have HL3F := Lib.hid (show fua = false → RLay (wb.setCell ⟨bl, (a + j) * 2 + 1, none⟩ v') B r bl c dv' (upd vv' (a + j) v') (upd vs' (a + j) (vs' (a + j) ++ [u])) (T.puts fua a l (j + 1)) own3 from fun e => by
        rw [St.puts, St.put, e]; simp only [Bool.false_eq_true, if_false]; rw [← e]; exact hl3)
      have HL3T := Lib.hid (show fua = true → RLay (((wb.setCell ⟨bl, (a + j) * 2 + 1, none⟩ v').setCell ⟨bl, (a + j) * 2, none⟩ u).setCell ⟨bl, (a + j) * 2 + 1, none⟩ (.slice none 0 0)) B r bl c (upd dv' (a + j) u) (upd (upd vv' (a + j) v') (a + j) (.slice none 0 0)) (upd (upd vs' (a + j) (vs' (a + j) ++ [u])) (a + j) []) (T.puts fua a l (j + 1)) own3 from fun e => by
        rw [St.puts, St.put, e]; simp only [if_true]; rw [← e]; exact hset)
      have HT3T := Lib.hid (hturn.trans (Turn.of_grown (Lib.grownBy_setB (Lib.grownBy_setB (World.grownBy.refl (wb.setCell ⟨bl, (a + j) * 2 + 1, none⟩ v') (some bl)) ((a + j) * 2) u) ((a + j) * 2 + 1) (.slice none 0 0)) (fun q e => by cases e; exact hl3.ownL)))
      clear hl2 hl3 ht3 hsub hby hby3 hset hturn hown hgr hkb hcold hfold hU hga hmine hgu hgl hrc
      subst hue
      subst hv5
      generalize vv' (a + j) = v0 at *
      refine wp_region_noPanic ?_
      refine wp_region_held_drew (S := fun wx => wx.cell? ⟨r, 0, none⟩ = some (.slice (some ⟨bl, 0, none⟩) T.n c)) (by kernel_rfl) HK0.out (fun hHeld => ?_)
      refine wpAnyH_take (i := 0) (v := .pointer (some ⟨r, 0, none⟩)) rfl (by kernel_rfl) (by kernel_rfl) (by kernel_rfl) (fun _ _ _ h => h) (Or.inl ⟨by rfl, ?_⟩) (by assumption) ?_
      · intro w1 hSw; (try dsimp only at hSw); go_simp
      simp only [Act.put, List.getElem_toArray, List.getElem_cons_zero, List.setIfInBounds_toArray, List.set_cons_zero, List.set_cons_succ]
      refine wpAnyH_take (i := 1) (v := .pointer (some ⟨r, 0, none⟩)) rfl (by kernel_rfl) (by kernel_rfl) (by kernel_rfl) (fun _ _ _ h => h) (Or.inl ⟨by rfl, ?_⟩) (by assumption) ?_
      · intro w1 hSw; (try dsimp only at hSw); go_simp
      simp only [Act.put, List.getElem_toArray, List.getElem_cons_succ, List.getElem_cons_zero, List.setIfInBounds_toArray, List.set_cons_zero, List.set_cons_succ]
      refine wpAnyH_take (i := 2) (v := .pointer (some ⟨r, 0, none⟩)) rfl (by kernel_rfl) (by kernel_rfl) (by kernel_rfl) (fun _ _ _ h => h) (Or.inl ⟨by rfl, ?_⟩) (by assumption) ?_
      · intro w1 hSw; (try dsimp only at hSw); go_simp
      simp only [Act.put, List.getElem_toArray, List.getElem_cons_succ, List.getElem_cons_zero, List.setIfInBounds_toArray, List.set_cons_zero, List.set_cons_succ]
      refine wpAnyH_take (i := 3) (v := .slice (some ⟨bl, 0, none⟩) T.n c) rfl (by kernel_rfl) (by kernel_rfl) (by kernel_rfl) (fun _ _ _ h => h) (Or.inl ⟨by rfl, ?_⟩) (by assumption) ?_
      · intro w1 hSw; (try dsimp only at hSw); go_simp
      simp only [Act.put, List.getElem_toArray, List.getElem_cons_succ, List.getElem_cons_zero, List.setIfInBounds_toArray, List.set_cons_zero, List.set_cons_succ]
      refine wpAnyH_take (i := 4) (v := .int .i64 (a : Nat)) rfl (by kernel_rfl) (by kernel_rfl) (by kernel_rfl) (fun _ _ _ h => h) (Or.inl ⟨by rfl, ?_⟩) (by assumption) ?_
      · intro w1 hSw; (try dsimp only at hSw); go_simp
      simp only [Act.put, List.getElem_toArray, List.getElem_cons_succ, List.getElem_cons_zero, List.setIfInBounds_toArray, List.set_cons_zero, List.set_cons_succ]
      refine wpAnyH_take (i := 5) (v := .int .i64 (j : Nat)) rfl (by kernel_rfl) (by kernel_rfl) (by kernel_rfl) (fun _ _ _ h => h) (Or.inl ⟨by rfl, ?_⟩) (by assumption) ?_
      · intro w1 hSw; (try dsimp only at hSw); go_simp
      simp only [Act.put, List.getElem_toArray, List.getElem_cons_succ, List.getElem_cons_zero, List.setIfInBounds_toArray, List.set_cons_zero, List.set_cons_succ]
      refine wpAnyH_take (i := 6) (v := .int .i64 ((a : Int) + (j : Int))) rfl (by kernel_rfl) (by kernel_rfl) (by kernel_rfl) (fun _ _ _ h => h) (Or.inl ⟨by rfl, ?_⟩) (by assumption) ?_
      · intro w1 hSw; (try dsimp only at hSw); go_simp
      simp only [Act.put, List.getElem_toArray, List.getElem_cons_succ, List.getElem_cons_zero, List.setIfInBounds_toArray, List.set_cons_zero, List.set_cons_succ]
      refine wpAnyH_take (i := 7) (v := .pointer (some ⟨r, 0, none⟩)) rfl (by kernel_rfl) (by kernel_rfl) (by kernel_rfl) (fun _ _ _ h => h) (Or.inl ⟨by rfl, ?_⟩) (by assumption) ?_
      · intro w1 hSw; (try dsimp only at hSw); go_simp
      simp only [Act.put, List.getElem_toArray, List.getElem_cons_succ, List.getElem_cons_zero, List.setIfInBounds_toArray, List.set_cons_zero, List.set_cons_succ]
      refine wpAnyH_take (i := 8) (v := .pointer (some ⟨r, 0, none⟩)) rfl (by kernel_rfl) (by kernel_rfl) (by kernel_rfl) (fun _ _ _ h => h) (Or.inl ⟨by rfl, ?_⟩) (by assumption) ?_
      · intro w1 hSw; (try dsimp only at hSw); go_simp
      simp only [Act.put, List.getElem_toArray, List.getElem_cons_succ, List.getElem_cons_zero, List.setIfInBounds_toArray, List.set_cons_zero, List.set_cons_succ]
      refine wpAnyH_take (i := 9) (v := .pointer (some ⟨r, 0, none⟩)) rfl (by kernel_rfl) (by kernel_rfl) (by kernel_rfl) (fun _ _ _ h => h) (Or.inl ⟨by rfl, ?_⟩) (by assumption) ?_
      · intro w1 hSw; (try dsimp only at hSw); go_simp
      simp only [Act.put, List.getElem_toArray, List.getElem_cons_succ, List.getElem_cons_zero, List.setIfInBounds_toArray, List.set_cons_zero, List.set_cons_succ]
      refine wpAnyH_take (i := 10) (v := .slice (some ⟨bl, 0, none⟩) T.n c) rfl (by kernel_rfl) (by kernel_rfl) (by kernel_rfl) (fun _ _ _ h => h) (Or.inl ⟨by rfl, ?_⟩) (by assumption) ?_
      · intro w1 hSw; (try dsimp only at hSw); go_simp
      simp only [Act.put, List.getElem_toArray, List.getElem_cons_succ, List.getElem_cons_zero, List.setIfInBounds_toArray, List.set_cons_zero, List.set_cons_succ]
      refine wpAnyH_take (i := 11) (v := .int .i64 (a : Nat)) rfl (by kernel_rfl) (by kernel_rfl) (by kernel_rfl) (fun _ _ _ h => h) (Or.inl ⟨by rfl, ?_⟩) (by assumption) ?_
      · intro w1 hSw; (try dsimp only at hSw); go_simp
      simp only [Act.put, List.getElem_toArray, List.getElem_cons_succ, List.getElem_cons_zero, List.setIfInBounds_toArray, List.set_cons_zero, List.set_cons_succ]
      refine wpAnyH_take (i := 12) (v := .int .i64 (j : Nat)) rfl (by kernel_rfl) (by kernel_rfl) (by kernel_rfl) (fun _ _ _ h => h) (Or.inl ⟨by rfl, ?_⟩) (by assumption) ?_
      · intro w1 hSw; (try dsimp only at hSw); go_simp
      simp only [Act.put, List.getElem_toArray, List.getElem_cons_succ, List.getElem_cons_zero, List.setIfInBounds_toArray, List.set_cons_zero, List.set_cons_succ]
      refine wpAnyH_take (i := 13) (v := .int .i64 ((a : Int) + (j : Int))) rfl (by kernel_rfl) (by kernel_rfl) (by kernel_rfl) (fun _ _ _ h => h) (Or.inl ⟨by rfl, ?_⟩) (by assumption) ?_
      · intro w1 hSw; (try dsimp only at hSw); go_simp
      simp only [Act.put, List.getElem_toArray, List.getElem_cons_succ, List.getElem_cons_zero, List.setIfInBounds_toArray, List.set_cons_zero, List.set_cons_succ]
      refine wpAnyH_take (i := 14) (v := .pointer (some ⟨bl, (a + j) * 2, none⟩)) rfl (by kernel_rfl) (by kernel_rfl) (by kernel_rfl) (fun _ _ _ h => h) (Or.inl ⟨by rfl, ?_⟩) (by assumption) ?_
      · intro w1 hSw; (try dsimp only at hSw); go_simp
      simp only [Act.put, List.getElem_toArray, List.getElem_cons_succ, List.getElem_cons_zero, List.setIfInBounds_toArray, List.set_cons_zero, List.set_cons_succ]
      refine wpAnyH_take (i := 15) (v := .pointer (some ⟨bl, (a + j) * 2 + 1, none⟩)) rfl (by kernel_rfl) (by kernel_rfl) (by kernel_rfl) (fun _ _ _ h => h) (Or.inl ⟨by rfl, ?_⟩) (by assumption) ?_
      · intro w1 hSw; (try dsimp only at hSw); go_simp
      simp only [Act.put, List.getElem_toArray, List.getElem_cons_succ, List.getElem_cons_zero, List.setIfInBounds_toArray, List.set_cons_zero, List.set_cons_succ]
      refine wpAnyH_take (i := 17) (v := .slice (some ⟨gu, 0, none⟩) 256 cu) rfl (by kernel_rfl) (by kernel_rfl) (by kernel_rfl) (fun _ _ _ h => h) (Or.inl ⟨by rfl, ?_⟩) (by assumption) ?_
      · intro w1 hSw; (try dsimp only at hSw); go_simp
      simp only [Act.put, List.getElem_toArray, List.getElem_cons_succ, List.getElem_cons_zero, List.setIfInBounds_toArray, List.set_cons_zero, List.set_cons_succ]
      refine wpAnyH_ready (rs := [16, 18]) (by kernel_rfl) (by simp) ?_
      refine AllReadyH.cons rfl (fun K hK => ?_) (AllReadyH.cons rfl (fun K hK => ?_) AllReadyH.nil)
      · refine step_load rfl (Operand.tmp 66) 71 rfl _ _ rfl hld1 ?_
        refine hK.out _ _ HK0.out (fun hHeld => ?_)
        clear hK K
        refine wpAnyH_ready (rs := [18]) (by kernel_rfl) (by simp) ?_
        refine AllReadyH.cons rfl (fun K hK => ?_) AllReadyH.nil
        refine step_build rfl 71 (Operand.tmp 68) rfl (.slice (some ⟨gu, 0, none⟩) 256 cu) _ rfl (hbs _) ?_
        refine hK.out _ _ HK1.out (fun hHeld => ?_)
        clear hK K
        refine wpAnyH_ready (rs := [19]) (by kernel_rfl) (by simp) ?_
        refine AllReadyH.cons rfl (fun K hK => ?_) AllReadyH.nil
        refine step_append rfl (Operand.tmp 67) (Operand.tmp 69) 71 rfl _ _ _ rfl rfl hr1 ?_
        refine hK.out _ _ HK2.out (fun hHeld => ?_)
        clear hK K
        simp only [Act.put, List.getElem_toArray, List.getElem_cons_succ, List.getElem_cons_zero, List.setIfInBounds_toArray, List.set_cons_zero, List.set_cons_succ]
        refine wpAnyH_take (i := 20) (v := .pointer (some ⟨bl, (a + j) * 2, none⟩)) rfl (by kernel_rfl) (by kernel_rfl) (by kernel_rfl) (fun _ _ _ h => h) (Or.inl ⟨by rfl, ?_⟩) (by assumption) ?_
        · intro w1 hSw; (try dsimp only at hSw); go_simp
        simp only [Act.put, List.getElem_toArray, List.getElem_cons_succ, List.getElem_cons_zero, List.setIfInBounds_toArray, List.set_cons_zero, List.set_cons_succ]
        refine wpAnyH_take (i := 21) (v := .pointer (some ⟨bl, (a + j) * 2 + 1, none⟩)) rfl (by kernel_rfl) (by kernel_rfl) (by kernel_rfl) (fun _ _ _ h => h) (Or.inl ⟨by rfl, ?_⟩) (by assumption) ?_
        · intro w1 hSw; (try dsimp only at hSw); go_simp
        simp only [Act.put, List.getElem_toArray, List.getElem_cons_succ, List.getElem_cons_zero, List.setIfInBounds_toArray, List.set_cons_zero, List.set_cons_succ]
        refine wpAnyH_ready (rs := [22]) (by kernel_rfl) (by simp) ?_
        refine AllReadyH.cons rfl (fun K hK => ?_) AllReadyH.nil
        refine step_store rfl (Operand.tmp 72) (Operand.tmp 70) 71 rfl _ _ rfl rfl hst ?_
        refine hK.out _ _ HK3.out (fun hHeld => ?_)
        clear hK K
        refine wpAnyH_done (by kernel_rfl) ?_ _
        refine NoPanic.normal ?_
        simp only [Act.put, List.getElem_toArray, List.getElem_cons_succ, List.getElem_cons_zero]
        cases fua with
        | false =>
          go_wp2_with fail
          go_roundw
          case rel => exact ⟨j + 1, _, _, _, own3, by omega, by go_num, HL3F.out rfl, HT3.out⟩
          case measure => simp [Go.RowKit.intOf]; omega
        | true =>
          have hc3 := HL3.out.rc
          rw [hn3] at hc3
          have hcd := HL3.out.cd hij3; have hcv := HL3.out.cv hij3; have hf0 := HL3.out.lfz ((a + j) * 2); have hf1 := HL3.out.lfz ((a + j) * 2 + 1)
          go_wp2_with fail
          go_roundw
          case rel => exact ⟨j + 1, _, _, _, own3, by omega, by go_num, HL3T.out rfl, HT3T.out⟩
          case measure => simp [Go.RowKit.intOf]; omega
      · refine step_build rfl 71 (Operand.tmp 68) rfl (.slice (some ⟨gu, 0, none⟩) 256 cu) _ rfl (hbs _) ?_
        refine hK.out _ _ HK1.out (fun hHeld => ?_)
        clear hK K
        refine wpAnyH_ready (rs := [16]) (by kernel_rfl) (by simp) ?_
        refine AllReadyH.cons rfl (fun K hK => ?_) AllReadyH.nil
        refine step_load rfl (Operand.tmp 66) 71 rfl _ _ rfl hld2 ?_
        refine hK.out _ _ HK1.out (fun hHeld => ?_)
        clear hK K
        refine wpAnyH_ready (rs := [19]) (by kernel_rfl) (by simp) ?_
        refine AllReadyH.cons rfl (fun K hK => ?_) AllReadyH.nil
        refine step_append rfl (Operand.tmp 67) (Operand.tmp 69) 71 rfl _ _ _ rfl rfl hr1 ?_
        refine hK.out _ _ HK2.out (fun hHeld => ?_)
        clear hK K
        simp only [Act.put, List.getElem_toArray, List.getElem_cons_succ, List.getElem_cons_zero, List.setIfInBounds_toArray, List.set_cons_zero, List.set_cons_succ]
        refine wpAnyH_take (i := 20) (v := .pointer (some ⟨bl, (a + j) * 2, none⟩)) rfl (by kernel_rfl) (by kernel_rfl) (by kernel_rfl) (fun _ _ _ h => h) (Or.inl ⟨by rfl, ?_⟩) (by assumption) ?_
        · intro w1 hSw; (try dsimp only at hSw); go_simp
        simp only [Act.put, List.getElem_toArray, List.getElem_cons_succ, List.getElem_cons_zero, List.setIfInBounds_toArray, List.set_cons_zero, List.set_cons_succ]
        refine wpAnyH_take (i := 21) (v := .pointer (some ⟨bl, (a + j) * 2 + 1, none⟩)) rfl (by kernel_rfl) (by kernel_rfl) (by kernel_rfl) (fun _ _ _ h => h) (Or.inl ⟨by rfl, ?_⟩) (by assumption) ?_
        · intro w1 hSw; (try dsimp only at hSw); go_simp
        simp only [Act.put, List.getElem_toArray, List.getElem_cons_succ, List.getElem_cons_zero, List.setIfInBounds_toArray, List.set_cons_zero, List.set_cons_succ]
        refine wpAnyH_ready (rs := [22]) (by kernel_rfl) (by simp) ?_
        refine AllReadyH.cons rfl (fun K hK => ?_) AllReadyH.nil
        refine step_store rfl (Operand.tmp 72) (Operand.tmp 70) 71 rfl _ _ rfl rfl hst ?_
        refine hK.out _ _ HK3.out (fun hHeld => ?_)
        clear hK K
        refine wpAnyH_done (by kernel_rfl) ?_ _
        refine NoPanic.normal ?_
        simp only [Act.put, List.getElem_toArray, List.getElem_cons_succ, List.getElem_cons_zero]
        cases fua with
        | false =>
          go_wp2_with fail
          go_roundw
          case rel => exact ⟨j + 1, _, _, _, own3, by omega, by go_num, HL3F.out rfl, HT3.out⟩
          case measure => simp [Go.RowKit.intOf]; omega
        | true =>
          have hc3 := HL3.out.rc
          rw [hn3] at hc3
          have hcd := HL3.out.cd hij3; have hcv := HL3.out.cv hij3; have hf0 := HL3.out.lfz ((a + j) * 2); have hf1 := HL3.out.lfz ((a + j) * 2 + 1)
          go_wp2_with fail
          go_roundw
          case rel => exact ⟨j + 1, _, _, _, own3, by omega, by go_num, HL3T.out rfl, HT3T.out⟩
          case measure => simp [Go.RowKit.intOf]; omega
    · obtain rfl : j = count := by omega
      have HDN := Lib.hid (ref_done HL.out)
      have HOB' := Lib.hid HL.out.ownR
      go_wp2_with fail
      refine HDN.out.mono ?_
      rintro e w9 ⟨rfl, hg9, hl9⟩
      have HL9 := Lib.hid hl9; have HT9 := Lib.hid (HTU.out.trans (Turn.of_grown hg9 (fun q e => by cases e; exact HOB'.out))); clear hl9 hg9
      go_wp2
      go_ret
      exact ⟨rfl, dv', vv', vs', own', HL9.out, HT9.out⟩
end Go.Proofs.YtagikgejhckfbaaGreat.Dsk
