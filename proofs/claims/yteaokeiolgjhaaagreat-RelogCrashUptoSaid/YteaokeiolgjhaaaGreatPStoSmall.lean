/- Texts of this seat's proofs: StoSmall, StoSmall2, StoBegin, StoSave, StoKeys, StoRising, StoBring, StoCkpt, StoLog. -/
import Derived.Test.YteaokeiolgjhaaaGreatPLogMay
import Derived.Test.YteaokeiolgjhaaaGreatPStructs
import Derived.Test.YteaokeiolgjhaaaGreatPDiskNow
import Derived.Test.YteaokeiolgjhaaaGreatPSupSave
import Derived.Test.YteaokeiolgjhaaaGreatPDiskDirty
import Derived.Shelf.Bytes.SlClone
import Derived.Deep.QuietTactic
import Derived.BigQuiet
import Derived.Deep.RegionHeld3
/- The small calls of package store: home, restarted, underWay, has, Super, copied, Begin, Abort. -/
namespace Go.Proofs.YteaokeiolgjhaaaGreat.Sto
open Go.RowKit Go.Shelf CrcMath CodecMath Mem Crc Codec DiskSpec Dsk Sup Log

set_option maxRecDepth 100000 in
set_option maxHeartbeats 400000 in
theorem home_any (p : Int) (w : World) (h : -9223372036854775808 ≤ p ∧ p ≤ 9223372036854775800) : Calls Tryz.prog 44 #[.int .i64 p] w fun e w' => e = .returned (.int .i64 (2 + p)) ∧ w' = w := by
  have hw : IntKind.i64.wrap (2 + p) = 2 + p := IntWalk.i64_in _ (by omega)
  go_enter Tryz.func44, Tryz.ntmps44
  go_wp2
  go_ret
  exact ⟨rfl, rfl⟩
theorem neqNil (w : World) : (binOp .neq 102 (.map none) (.map none)).run Tryz.prog w = .ok (.bool false) w := by kernel_rfl
theorem neqSome (m : Nat) (w : World) : (binOp .neq 102 (.map (some m)) (.map none)).run Tryz.prog w = .ok (.bool true) w := by kernel_rfl
section
variable {w : World} {B b tb g sb dm : Nat} {wm : Option Nat} {own : Nat → Prop} {s : Sto}
set_option maxRecDepth 100000 in
set_option maxHeartbeats 400000 in
theorem sto_under (h : StoAt w B b tb g sb dm wm own s) : Calls Tryz.prog 51 #[.pointer (some ⟨sb, 0, none⟩)] w fun e w' => e = .returned (.bool s.W.isSome) ∧ w' = w := by
  obtain ⟨_, _, _, _, _, _, _, _, _, _, _, c11⟩ := h.cells
  cases hW : s.W with
  | none =>
    have hn := h.n hW
    subst hn
    have hq := neqNil w
    clear hW h
    go_enter Tryz.func51, Tryz.ntmps51
    go_wp2
    go_ret
    exact ⟨rfl, rfl⟩
  | some U =>
    obtain ⟨m, e, _⟩ := h.u U hW
    subst e
    have hq := neqSome m w
    clear hW h
    go_enter Tryz.func51, Tryz.ntmps51
    go_wp2
    go_ret
    exact ⟨rfl, rfl⟩
set_option maxRecDepth 100000 in
set_option maxHeartbeats 400000 in
theorem sto_has (h : StoAt w B b tb g sb dm wm own s) (p : Int) : Calls Tryz.prog 52 #[.pointer (some ⟨sb, 0, none⟩), .int .i64 p] w fun e w' => e = .returned (.bool (s.has p)) ∧ w' = w := by
  obtain ⟨_, _, _, _, c4, _⟩ := h.cells
  have HH := Lib.hid (show s.has p = (decide (0 ≤ p) && decide (p < (s.x.pg : Int))) from rfl)
  clear h
  by_cases h0 : 0 ≤ p
  · by_cases h1 : p < (s.x.pg : Int)
    · have HR := Lib.hid (show s.has p = true by rw [HH.out]; simp [h0, h1])
      go_enter Tryz.func52, Tryz.ntmps52
      go_wp2
      go_ret
      exact ⟨by rw [HR.out]; rfl, rfl⟩
    · have HR := Lib.hid (show s.has p = false by rw [HH.out]; simp [h1])
      go_enter Tryz.func52, Tryz.ntmps52
      go_wp2
      go_ret
      exact ⟨by rw [HR.out]; rfl, rfl⟩
  · have HR := Lib.hid (show s.has p = false by rw [HH.out]; simp [h0])
    go_enter Tryz.func52, Tryz.ntmps52
    go_wp2
    go_ret
    exact ⟨by rw [HR.out]; rfl, rfl⟩
/-- The superblock, whole. -/
def Sb.agg (x : Sb) : Value := .agg x.vs.toArray
end
end Go.Proofs.YteaokeiolgjhaaaGreat.Sto
/- Small calls of package store, and bytes.Clone. -/
namespace Go.Proofs.YteaokeiolgjhaaaGreat.Sto
open Go.RowKit Go.Shelf CrcMath CodecMath Mem Crc Codec DiskSpec Dsk Sup Log

theorem data_of_own6 {w : World} {base n : Nat} {own : Nat → Prop} {v : Value} {l : List Nat} (h : Own w base 5 1 v n (u8s l)) (ho : ∀ i, own i → i < base) (hl : ∀ x ∈ l, x < 256) :
    ∃ A c, v = .slice A n c ∧ n ≤ c ∧ Dsk.Data w own A n l := by
  have hn : l.length = n := by have := h.len; rw [u8s_length] at this; omega
  obtain ⟨A, c, rfl, h1, _, _⟩ := h.shape
  refine ⟨A, c, rfl, h1, hn, hl, fun hp => ?_⟩
  obtain ⟨g, cap, e, hb, hlt, _, _, hc⟩ := h.reads hp
  simp only [Value.slice.injEq] at e
  obtain ⟨rfl, _, _⟩ := e
  refine ⟨g, 0, rfl, hlt, fun e => by have := ho g e; omega, fun j hj => ?_⟩
  rw [Nat.zero_add]
  exact hc j _ (u8s_at l j (by omega))
theorem eqSlice (A : Addr) (n c : Nat) (w : World) : (binOp .eql 38 (.slice (some A) n c) (.slice none 0 0)).run Tryz.prog w = .ok (.bool false) w := by kernel_rfl
set_option maxRecDepth 100000 in
set_option maxHeartbeats 800000 in
theorem clone_any {w : World} {P : Nat → Prop} {v : Value} {l : List Nat} (h : BodyAt w P v l) (hn : 0 < l.length) (hm : l.length ≤ 1099511627776) :
    Calls Tryz.prog 104 #[v] w fun e w' => ∃ v', e = .returned v' ∧ BodyAt w' (fun i => i < w.heap.size) v' l ∧ w.grownBy w' none := by
  obtain ⟨A, n, c, rfl, hc, hd⟩ := h
  have hlen := hd.1
  obtain ⟨g, o, rfl, hg, _, hcells⟩ := hd.2.2 (by omega)
  obtain ⟨i0, hi0, hz0, hz1, hz2⟩ := info_parts byte_info
  have hi := Lib.hid hi0; have z0 := Lib.hid hz0; have z1 := Lib.hid hz1; have z2 := Lib.hid hz2
  have HLT := Lib.hid hd.2.1
  have hq := eqSlice ⟨g, o, none⟩ n c w
  have hr : Reads (w.alloc (.cells #[] 5)) (w.heap.size + 1) 1 (some ⟨g, o, none⟩) n (u8s l) := ⟨by rw [u8s_length]; omega, fun _ => ⟨⟨g, o, none⟩, rfl, by show g < w.heap.size + 1; omega, fun j u hu => by
    have hj : j < l.length := by have := (List.getElem?_eq_some_iff.1 hu).1; rwa [u8s_length] at this
    rw [u8s_at l j hj] at hu
    cases hu
    rw [Addr.add_mid]
    rw [World.cell?_of_block (a := ⟨g, o + j, none⟩) (Below.heap_alloc w _ _ hg)]
    exact hcells j (by omega)⟩⟩
  have hown : Own (w.alloc (.cells #[] 5)) w.heap.size 5 1 (.slice (some ⟨w.heap.size, 0, none⟩) 0 0) 0 [] := by
    refine .inl ⟨rfl, .inr ⟨w.heap.size, 0, #[], rfl, Nat.le_refl _, ?_, ?_⟩⟩
    · exact heap_alloc_new w _
    · simp [maxLen]
  have HR := Lib.hid hr; have HO := Lib.hid hown; have HLEN := Lib.hid hlen
  clear hr hown hi0 hz0 hz1 hz2 hd hcells
  go_enter Tryz.func104, Tryz.ntmps104
  go_wp2_with (at_builtin
               refine wpList_append_own_full _ rfl (.tmp 5) (.tmp 6) _ rfl w.heap.size 5 i0 _ 1 1 Tryz.underlying38 hi.out z0.out z1.out z2.out rfl (by omega) _ 0 _ rfl HO.out
                 _ _ n _ _ rfl HR.out (fun u hu => u8s_one l u hu) (by simp only [maxLen]; omega) (by omega) (by simp) ?_
               intro v' w' hown' hgr'
               have HO' := Lib.hid hown'; have HG' := Lib.hid hgr'; clear hown' hgr')
  go_ret
  have ho := HO'.out
  rw [Nat.zero_add, List.nil_append] at ho
  obtain ⟨A', c', e, hc', hd'⟩ := data_of_own6 (own := fun i => i < w.heap.size) ho (fun _ hi => hi) HLT.out
  refine ⟨_, rfl, ⟨A', n, c', e, hc', by have := HLEN.out; exact hd'⟩, ?_⟩
  exact (World.grownBy_alloc w _ none).andThen HG'.out.1 (fun j hj => by cases hj; exact .inl (Nat.le_refl _))
theorem PgV.small {w w' : World} {P : Nat → Prop} {v : Value} {p : Pg} (h : PgV w P v p) (ht : w.grownBy w' none) : PgV w' P v p := h.turn (Turn.none_ ht)
set_option maxRecDepth 100000 in
set_option maxHeartbeats 800000 in
/-- A copy of a page. -/
theorem copied_any {w : World} {P : Nat → Prop} {v : Value} {p : Pg} (h : PgV w P v p) (hn : 0 < p.2.length) (hm : p.2.length ≤ 1099511627776) :
    Calls Tryz.prog 54 #[v] w fun e w' => ∃ v', e = .returned v' ∧ PgV w' (fun i => i < w.heap.size) v' p ∧ w.grownBy w' none := by
  obtain ⟨bv, rfl, hb⟩ := h
  obtain ⟨k, l⟩ := p
  dsimp only at *
  have HG0 := Lib.hid ((World.grownBy_alloc w (.cells #[.int .i64 k, bv] 40) none).trans (World.grownBy_alloc _ (.cells #[.int .i64 0, .slice none 0 0] 40) none))
  have HB0 := Lib.hid ((Blk.new w 40 #[.int .i64 k, bv]).alloc (.cells #[.int .i64 0, .slice none 0 0] 40))
  have HR0 := Lib.hid (show Blk ((w.alloc (.cells #[.int .i64 k, bv] 40)).alloc (.cells #[.int .i64 0, .slice none 0 0] 40)) (w.heap.size + 1) 40 #[.int .i64 0, .slice none 0 0] from by
    have := Blk.new (w.alloc (.cells #[.int .i64 k, bv] 40)) 40 #[.int .i64 0, .slice none 0 0]
    rwa [show (w.alloc (.cells #[.int .i64 k, bv] 40)).heap.size = w.heap.size + 1 from by simp] at this)
  have hb2 := hb.turn (Turn.none_ HG0.out)
  have HC := Lib.hid (clone_any hb2 hn hm)
  obtain ⟨A, n, c, rfl, _, _⟩ := hb
  clear hb2
  go_enter Tryz.func54, Tryz.ntmps54
  go_wp2_with fail
  refine HC.out.mono ?_
  rintro e w1 ⟨v', rfl, hb', hg1⟩
  have HB1 := Lib.hid (HB0.out.grown hg1 (by simp)); have HR1 := Lib.hid (HR0.out.grown hg1 (by simp))
  have HG1 := Lib.hid (HG0.out.trans hg1)
  have HBV := Lib.hid (show BodyAt w1 (fun i => i < w.heap.size + 2) v' l from by
    rw [show ((w.alloc (.cells #[.int .i64 k, .slice A n c] 40)).alloc (.cells #[.int .i64 0, .slice none 0 0] 40)).heap.size = w.heap.size + 2 from by simp] at hb'
    exact hb')
  have hne : w.heap.size ≠ w.heap.size + 1 := by omega
  clear hb' hg1 HC HB0 HR0
  obtain ⟨A', n', c', rfl, _, _⟩ := HBV.out
  have b0 := HB1.out.cell 0; have b1 := HB1.out.cell 1; have fb1 := HB1.out.frozen 1
  simp only [List.getElem?_toArray, List.getElem?_cons_zero, List.getElem?_cons_succ] at b0 b1
  go_upto_region 2 with fail
  have HB2 := Lib.hid (show Blk (w1.setCell ⟨w.heap.size, 1, none⟩ (.slice A' n' c')) w.heap.size 40 #[.int .i64 k, .slice A' n' c'] from HB1.out.set_ 1 (.slice A' n' c'))
  have HR2 := Lib.hid (HR1.out.far (p := ⟨w.heap.size, 1, none⟩) hne.symm (.slice A' n' c'))
  have hs := Lib.grownBy_setB (World.grownBy.refl w1 (some w.heap.size)) 1 (.slice A' n' c')
  have HG2 := Lib.hid (show w.grownBy (w1.setCell ⟨w.heap.size, 1, none⟩ (.slice A' n' c')) none from HG1.out.andThen hs (fun j e => by cases e; exact .inl (Nat.le_refl _)))
  have HBV2 := Lib.hid (show BodyAt (w1.setCell ⟨w.heap.size, 1, none⟩ (.slice A' n' c')) (fun i => i < w.heap.size + 2) (.slice A' n' c') l from
    HBV.out.turn (.of_grown hs (fun j e => by cases e; show w.heap.size < w.heap.size + 2; omega)))
  clear b0 b1 fb1 hs HB1 HR1 HBV HG1
  generalize w1.setCell ⟨w.heap.size, 1, none⟩ (.slice A' n' c') = w2 at *
  have b0 := HB2.out.cell 0; have b1 := HB2.out.cell 1
  have r0 := HR2.out.cell 0; have r1 := HR2.out.cell 1; have fr0 := HR2.out.frozen 0; have fr1 := HR2.out.frozen 1
  simp only [List.getElem?_toArray, List.getElem?_cons_zero, List.getElem?_cons_succ] at b0 b1 r0 r1
  go_wp2
  have hs1 := Lib.grownBy_setB (World.grownBy.refl w2 (some (w.heap.size + 1))) 0 (.int .i64 k)
  have hs2 := Lib.grownBy_setB hs1 1 (.slice A' n' c')
  refine ret_row1 rfl (w.heap.size + 1) 40 #[.int .i64 k, .slice A' n' c'] _ rfl (Blk.set2 HR2.out) Tryz.underlying40 rfl (by kernel_rfl) rfl ?_
  refine ⟨_, rfl, ⟨_, rfl, ?_⟩, ?_⟩
  · exact (HBV2.out.turn (.of_grown hs2 (fun j e => by cases e; show w.heap.size + 1 < w.heap.size + 2; omega))).weak (fun i _ hi => by show i < w.heap.size + 2; omega)
  · exact HG2.out.andThen hs2 (fun j e => by cases e; exact .inl (by omega))
end Go.Proofs.YteaokeiolgjhaaaGreat.Sto
/- Begin, Abort, Super of a store. -/
namespace Go.Proofs.YteaokeiolgjhaaaGreat.Sto
open Go.RowKit Go.Shelf CrcMath CodecMath Mem Crc Codec DiskSpec Dsk Sup Log

section
variable {w : World} {B b tb g sb dm : Nat} {wm : Option Nat} {own : Nat → Prop} {s : Sto}
set_option maxRecDepth 100000 in
set_option maxHeartbeats 400000 in
theorem sto_begin_g (h : StoAt w B b tb g sb dm wm own s) : Calls Tryz.prog 14 #[.pointer (some ⟨sb, 0, none⟩)] w fun e w' =>
    e = .returned (.int .i64 (beginE s).1) ∧ ∃ wm', StoAt w' B b tb g sb dm wm' own (beginE s).2 ∧ Turn w w' (Foot own tb g sb dm wm) (Foot own tb g sb dm wm') ∧ w.grownBy w' (some sb) := by
  have HU := Lib.hid (sto_under h)
  cases hW : s.W with
  | some U =>
    have HE := Lib.hid (show beginE s = (17, s) by unfold beginE; rw [hW]; rfl)
    rw [hW] at HU
    have H := Lib.hid h
    clear hW h
    go_enter Tryz.func14, Tryz.ntmps14
    go_wp2_with fail
    refine HU.out.mono ?_
    rintro e w1 ⟨rfl, rfl⟩
    go_wp2
    go_ret
    rw [HE.out]
    exact ⟨rfl, wm, H.out, Turn.refl _ _, World.grownBy.refl _ _⟩
  | none =>
    have HE := Lib.hid (show beginE s = (0, { s with W := some noPgs }) by unfold beginE; rw [hW]; rfl)
    rw [hW] at HU
    obtain rfl := h.n hW
    have h1 := h.quiet (World.grownBy_alloc w (.map #[] 0) none)
    obtain ⟨_, _, _, _, _, _, _, _, _, _, _, c11⟩ := h1.cells
    have f11 := h1.fz 11
    have H := Lib.hid h.begun
    have hmk := fun w => run_makeMap (P := Tryz.prog) 102 w
    clear hW h h1
    go_enter Tryz.func14, Tryz.ntmps14
    go_wp2_with fail
    refine HU.out.mono ?_
    rintro e w1 ⟨rfl, rfl⟩
    go_wp2
    go_ret
    rw [HE.out]
    exact ⟨rfl, _, H.out.1, H.out.2, Lib.grownBy_setB (World.grownBy_alloc _ _ (some sb)) 11 _⟩
theorem sto_begin (h : StoAt w B b tb g sb dm wm own s) : Calls Tryz.prog 14 #[.pointer (some ⟨sb, 0, none⟩)] w fun e w' =>
    e = .returned (.int .i64 (beginE s).1) ∧ ∃ wm', StoAt w' B b tb g sb dm wm' own (beginE s).2 ∧ Turn w w' (Foot own tb g sb dm wm) (Foot own tb g sb dm wm') := by
  refine (sto_begin_g h).mono ?_
  rintro e w1 ⟨h1, wm', h2, h3, _⟩
  exact ⟨h1, wm', h2, h3⟩
set_option maxRecDepth 100000 in
set_option maxHeartbeats 400000 in
theorem sto_abort (h : StoAt w B b tb g sb dm wm own s) : Calls Tryz.prog 17 #[.pointer (some ⟨sb, 0, none⟩)] w fun e w' =>
    e = .returned (.tuple #[]) ∧ StoAt w' B b tb g sb dm none own s.idle ∧ Turn w w' (Foot own tb g sb dm wm) (Foot own tb g sb dm none) := by
  obtain ⟨_, _, _, _, _, _, _, _, _, _, _, c11⟩ := h.cells
  have f11 := h.fz 11
  have H := Lib.hid h.over_
  clear h
  go_enter Tryz.func17, Tryz.ntmps17
  go_wp2
  go_end0
  exact ⟨rfl, H.out.1, H.out.2⟩
set_option maxRecDepth 100000 in
set_option maxHeartbeats 400000 in
theorem sto_super (h : StoAt w B b tb g sb dm wm own s) : Calls Tryz.prog 24 #[.pointer (some ⟨sb, 0, none⟩)] w fun e w' =>
    e = .returned (.agg s.x.vs.toArray) ∧ w.grownBy w' none := by
  have h1 := h.quiet (World.grownBy_alloc w (.cells #[.int .i64 0, .int .i64 0, .int .i64 0, .int .i64 0, .int .i64 0, .int .i64 0, .int .i64 0] 49) none)
  obtain ⟨_, _, c2, c3, c4, c5, c6, c7, c8, _, _, _⟩ := h1.cells
  clear h h1
  go_enter Tryz.func24, Tryz.ntmps24
  go_wp2
  refine ret_row1 rfl w.heap.size 49 s.x.vs.toArray _ rfl (Blk.new _ _ _) Tryz.underlying49 rfl (by kernel_rfl) rfl ?_
  exact ⟨rfl, World.grownBy_alloc w _ none⟩
end
end Go.Proofs.YteaokeiolgjhaaaGreat.Sto
/- A store's superblock is saved. -/
namespace Go.Proofs.YteaokeiolgjhaaaGreat.Sto
open Go.RowKit Go.Shelf CrcMath CodecMath Mem Crc Codec DiskSpec Dsk Sup Log

theorem saveE_n (S : St) (l : List Int) : (saveE S l).2.n = S.n := by
  unfold saveE
  split
  · unfold writeE
    split
    · rfl
    · split
      · rfl
      · split
        · rfl
        · exact puts_n _ _ _ _ _
  · rfl
theorem saveE_may {S : St} {l : List Int} (h : (saveE S l).1 = 0) : mayB l (S.n : Nat) = true := by
  unfold saveE at h
  split at h
  · assumption
  · cases h
theorem may_sb {a0 a1 a2 a3 a4 a5 a6 : Int} {n : Int} (h : mayB [a0, a1, a2, a3, a4, a5, a6] n = true) : ∃ x : Sb, x.l = [a0, a1, a2, a3, a4, a5, a6] := by
  have ho := mayB_ok h
  have k0 := (superOk_at ho 0 (by simp)).1; have k1 := (superOk_at ho 1 (by simp)).1; have k2 := (superOk_at ho 2 (by simp)).1; have k3 := (superOk_at ho 3 (by simp)).1
  have k4 := (superOk_at ho 4 (by simp)).1; have k5 := (superOk_at ho 5 (by simp)).1; have k6 := (superOk_at ho 6 (by simp)).1
  simp at k0 k1 k2 k3 k4 k5 k6
  refine ⟨⟨a0.toNat, a1.toNat, a2.toNat, a3.toNat, a4.toNat, a5.toNat, a6.toNat⟩, ?_⟩
  show [((a0.toNat : Nat) : Int), ((a1.toNat : Nat) : Int), ((a2.toNat : Nat) : Int), ((a3.toNat : Nat) : Int), ((a4.toNat : Nat) : Int), ((a5.toNat : Nat) : Int), ((a6.toNat : Nat) : Int)] = _
  rw [Int.toNat_of_nonneg k0, Int.toNat_of_nonneg k1, Int.toNat_of_nonneg k2, Int.toNat_of_nonneg k3, Int.toNat_of_nonneg k4, Int.toNat_of_nonneg k5, Int.toNat_of_nonneg k6]
theorem LAt.sat {w w' : World} {B b tb g : Nat} {S T : St} {own own' : Nat → Prop} {L : Lg} (h : LAt w B b tb g S own L) (hs : SAt w' B b tb T own') (ht : Turn w w' (With own tb) (With own' tb)) (hn : T.n = S.n) : LAt w' B b tb g T own' L :=
  ⟨hs, h.l.block (ht.block g h.l.lt h.o), fun ho => by
    rcases ht.fresh g ho with h1 | h1
    · exact h.o h1
    · have := h.l.lt; omega, hn ▸ h.k⟩
section
variable {lv : Value} {w w' : World} {B b tb g sb dm : Nat} {wm : Option Nat} {own own' : Nat → Prop} {s : Sto}
theorem StoAtG.sat (h : StoAtG lv w B b tb g sb dm wm own s) {T : St} (hs : SAt w' B b tb T own') (ht : Turn w w' (With own tb) (With own' tb)) (hr : Ready w' tb) (hn : T.n = s.S.n) : StoAtG lv w' B b tb g sb dm wm own' (s.disk T) :=
  h.logs (LAt.sat h.l hs ht hn) (turn_log ht g) hr hn
/-- What save leaves. -/
def Saved (lv : Value) (w : World) (B b tb g sb dm : Nat) (wm : Option Nat) (own : Nat → Prop) (s : Sto) (l : List Int) (e : Ending) (w' : World) : Prop :=
  e = .returned (.int .i64 (saveE s.S l).1) ∧ ∃ own', Turn w w' (Foot own tb g sb dm wm) (Foot own' tb g sb dm wm) ∧
    (((saveE s.S l).1 = 0 ∧ ∃ x', x'.l = l ∧ StoAtG lv w' B b tb g sb dm wm own' { s with S := (saveE s.S l).2, x := x' }) ∨ ((saveE s.S l).1 ≠ 0 ∧ StoAtG lv w' B b tb g sb dm wm own' (s.disk (saveE s.S l).2)))
set_option maxHeartbeats 800000 in
theorem sto_set7 {x' : Sb} {a0 a1 a2 a3 a4 a5 a6 : Int} (hx : x'.l = [a0, a1, a2, a3, a4, a5, a6]) {x : Sb} (h : Blk w sb 104 (stoC b tb lv dm wm x)) :
    Blk (((((((w.setCell ⟨sb, 2, none⟩ (.int .i64 a0)).setCell ⟨sb, 3, none⟩ (.int .i64 a1)).setCell ⟨sb, 4, none⟩ (.int .i64 a2)).setCell ⟨sb, 5, none⟩ (.int .i64 a3)).setCell ⟨sb, 6, none⟩ (.int .i64 a4)).setCell ⟨sb, 7, none⟩ (.int .i64 a5)).setCell ⟨sb, 8, none⟩ (.int .i64 a6)) sb 104 (stoC b tb lv dm wm x') ∧ w.grownBy (((((((w.setCell ⟨sb, 2, none⟩ (.int .i64 a0)).setCell ⟨sb, 3, none⟩ (.int .i64 a1)).setCell ⟨sb, 4, none⟩ (.int .i64 a2)).setCell ⟨sb, 5, none⟩ (.int .i64 a3)).setCell ⟨sb, 6, none⟩ (.int .i64 a4)).setCell ⟨sb, 7, none⟩ (.int .i64 a5)).setCell ⟨sb, 8, none⟩ (.int .i64 a6)) (some sb) := by
  unfold Sb.l at hx
  injection hx with e0 hx; injection hx with e1 hx; injection hx with e2 hx; injection hx with e3 hx; injection hx with e4 hx; injection hx with e5 hx; injection hx with e6 _
  subst e0 e1 e2 e3 e4 e5 e6
  refine ⟨?_, ?_⟩
  · obtain ⟨n0, n1, n2, n3, n4, n5, n6⟩ := x'
    have h0 : Blk (w.setCell ⟨sb, 2, none⟩ (.int .i64 (n0 : Nat))) sb 104 (stoC b tb lv dm wm { x with gn := n0 }) := h.set_ 2 (.int .i64 (n0 : Nat))
    have h1 : Blk ((w.setCell ⟨sb, 2, none⟩ (.int .i64 (n0 : Nat))).setCell ⟨sb, 3, none⟩ (.int .i64 (n1 : Nat))) sb 104 (stoC b tb lv dm wm { x with gn := n0, ep := n1 }) := h0.set_ 3 (.int .i64 (n1 : Nat))
    have h2 : Blk (((w.setCell ⟨sb, 2, none⟩ (.int .i64 (n0 : Nat))).setCell ⟨sb, 3, none⟩ (.int .i64 (n1 : Nat))).setCell ⟨sb, 4, none⟩ (.int .i64 (n2 : Nat))) sb 104 (stoC b tb lv dm wm { x with gn := n0, ep := n1, pg := n2 }) := h1.set_ 4 (.int .i64 (n2 : Nat))
    have h3 : Blk ((((w.setCell ⟨sb, 2, none⟩ (.int .i64 (n0 : Nat))).setCell ⟨sb, 3, none⟩ (.int .i64 (n1 : Nat))).setCell ⟨sb, 4, none⟩ (.int .i64 (n2 : Nat))).setCell ⟨sb, 5, none⟩ (.int .i64 (n3 : Nat))) sb 104 (stoC b tb lv dm wm { x with gn := n0, ep := n1, pg := n2, st := n3 }) := h2.set_ 5 (.int .i64 (n3 : Nat))
    have h4 : Blk (((((w.setCell ⟨sb, 2, none⟩ (.int .i64 (n0 : Nat))).setCell ⟨sb, 3, none⟩ (.int .i64 (n1 : Nat))).setCell ⟨sb, 4, none⟩ (.int .i64 (n2 : Nat))).setCell ⟨sb, 5, none⟩ (.int .i64 (n3 : Nat))).setCell ⟨sb, 6, none⟩ (.int .i64 (n4 : Nat))) sb 104 (stoC b tb lv dm wm { x with gn := n0, ep := n1, pg := n2, st := n3, ln := n4 }) := h3.set_ 6 (.int .i64 (n4 : Nat))
    have h5 : Blk ((((((w.setCell ⟨sb, 2, none⟩ (.int .i64 (n0 : Nat))).setCell ⟨sb, 3, none⟩ (.int .i64 (n1 : Nat))).setCell ⟨sb, 4, none⟩ (.int .i64 (n2 : Nat))).setCell ⟨sb, 5, none⟩ (.int .i64 (n3 : Nat))).setCell ⟨sb, 6, none⟩ (.int .i64 (n4 : Nat))).setCell ⟨sb, 7, none⟩ (.int .i64 (n5 : Nat))) sb 104 (stoC b tb lv dm wm { x with gn := n0, ep := n1, pg := n2, st := n3, ln := n4, hd := n5 }) := h4.set_ 7 (.int .i64 (n5 : Nat))
    have h6 : Blk (((((((w.setCell ⟨sb, 2, none⟩ (.int .i64 (n0 : Nat))).setCell ⟨sb, 3, none⟩ (.int .i64 (n1 : Nat))).setCell ⟨sb, 4, none⟩ (.int .i64 (n2 : Nat))).setCell ⟨sb, 5, none⟩ (.int .i64 (n3 : Nat))).setCell ⟨sb, 6, none⟩ (.int .i64 (n4 : Nat))).setCell ⟨sb, 7, none⟩ (.int .i64 (n5 : Nat))).setCell ⟨sb, 8, none⟩ (.int .i64 (n6 : Nat))) sb 104 (stoC b tb lv dm wm ⟨n0, n1, n2, n3, n4, n5, n6⟩) := h5.set_ 8 (.int .i64 (n6 : Nat))
    exact h6
  · have g0 := Lib.grownBy_setB (World.grownBy.refl w (some sb)) 2 (.int .i64 (x'.gn : Nat))
    have g1 := Lib.grownBy_setB g0 3 (.int .i64 (x'.ep : Nat))
    have g2 := Lib.grownBy_setB g1 4 (.int .i64 (x'.pg : Nat))
    have g3 := Lib.grownBy_setB g2 5 (.int .i64 (x'.st : Nat))
    have g4 := Lib.grownBy_setB g3 6 (.int .i64 (x'.ln : Nat))
    have g5 := Lib.grownBy_setB g4 7 (.int .i64 (x'.hd : Nat))
    exact Lib.grownBy_setB g5 8 (.int .i64 (x'.sq : Nat))
set_option maxRecDepth 100000 in
set_option maxHeartbeats 1600000 in
theorem sto_save (h : StoAtG lv w B b tb g sb dm wm own s) (a0 a1 a2 a3 a4 a5 a6 : Int) (hroom : ∀ i, (s.S.ver i).length < 549755813888) :
    Calls Tryz.prog 97 #[.pointer (some ⟨sb, 0, none⟩), .agg #[.int .i64 a0, .int .i64 a1, .int .i64 a2, .int .i64 a3, .int .i64 a4, .int .i64 a5, .int .i64 a6]] w (Saved lv w B b tb g sb dm wm own s [a0, a1, a2, a3, a4, a5, a6]) := by
  have hga := World.grownBy_alloc w (.cells #[.int .i64 a0, .int .i64 a1, .int .i64 a2, .int .i64 a3, .int .i64 a4, .int .i64 a5, .int .i64 a6] 49) none
  have h0 := h.quiet hga
  have hb0 := Blk.new w 49 #[.int .i64 a0, .int .i64 a1, .int .i64 a2, .int .i64 a3, .int .i64 a4, .int .i64 a5, .int .i64 a6]
  have HGA := Lib.hid hga; have HB0 := Lib.hid hb0
  have HKEEP := Lib.hid (show ∀ wx, (w.alloc (.cells #[.int .i64 a0, .int .i64 a1, .int .i64 a2, .int .i64 a3, .int .i64 a4, .int .i64 a5, .int .i64 a6] 49)).grownBy wx none → wx.cell? ⟨sb, 0, none⟩ = some (.pointer (some ⟨b, 0, none⟩)) ∧ wx.cell? ⟨sb, 1, none⟩ = some (.pointer (some ⟨tb, 0, none⟩)) ∧ wx.cell? ⟨w.heap.size, 0, none⟩ = some (.int .i64 a0) ∧ wx.cell? ⟨w.heap.size, 1, none⟩ = some (.int .i64 a1) ∧ wx.cell? ⟨w.heap.size, 2, none⟩ = some (.int .i64 a2) ∧ wx.cell? ⟨w.heap.size, 3, none⟩ = some (.int .i64 a3) ∧ wx.cell? ⟨w.heap.size, 4, none⟩ = some (.int .i64 a4) ∧ wx.cell? ⟨w.heap.size, 5, none⟩ = some (.int .i64 a5) ∧ wx.cell? ⟨w.heap.size, 6, none⟩ = some (.int .i64 a6) from fun wx hg => by
    have hb := hb0.grown hg (by simp)
    have hc := (h0.quiet hg).cells
    exact ⟨hc.1, hc.2.1, by rw [hb.cell]; rfl, by rw [hb.cell]; rfl, by rw [hb.cell]; rfl, by rw [hb.cell]; rfl, by rw [hb.cell]; rfl, by rw [hb.cell]; rfl, by rw [hb.cell]; rfl⟩)
  have HSV := Lib.hid (fun wx (hg : (w.alloc (.cells #[.int .i64 a0, .int .i64 a1, .int .i64 a2, .int .i64 a3, .int .i64 a4, .int .i64 a5, .int .i64 a6] 49)).grownBy wx none) => save_any_r (h0.quiet hg).l.s a0 a1 a2 a3 a4 a5 a6 hroom)
  have HD0 := Lib.hid (grown_drew (w.alloc (.cells #[.int .i64 a0, .int .i64 a1, .int .i64 a2, .int .i64 a3, .int .i64 a4, .int .i64 a5, .int .i64 a6] 49)) none)
  have H0 := Lib.hid h0
  have hne := saveE_n s.S [a0, a1, a2, a3, a4, a5, a6]
  have HMAY := Lib.hid (fun e => saveE_may (S := s.S) (l := [a0, a1, a2, a3, a4, a5, a6]) e)
  have HFRESH := Lib.hid (show ¬ With own tb w.heap.size from fun ho => by have := h.foot_lt (.inl (.inl ho)); omega)
  have HDM := Lib.hid (show w.heap.size ≠ sb from fun e => by have := h.c.lt; omega)
  unfold Saved
  clear hga h0 hb0 h hroom
  generalize saveE s.S [a0, a1, a2, a3, a4, a5, a6] = R at *
  obtain ⟨er, T⟩ := R
  dsimp only at *
  have HNE := Lib.hid hne
  clear hne
  by_cases he : er = 0
  · subst he
    obtain ⟨x', hx'⟩ := may_sb (HMAY.out rfl)
    have HX := Lib.hid hx'
    clear hx'
    go_enter Tryz.func97, Tryz.ntmps97
    go_wp2_with fail
    go_region_held3 (fun wx => wx.cell? ⟨sb, 0, none⟩ = some (.pointer (some ⟨b, 0, none⟩)) ∧ wx.cell? ⟨sb, 1, none⟩ = some (.pointer (some ⟨tb, 0, none⟩)) ∧ wx.cell? ⟨w.heap.size, 0, none⟩ = some (.int .i64 a0) ∧ wx.cell? ⟨w.heap.size, 1, none⟩ = some (.int .i64 a1) ∧ wx.cell? ⟨w.heap.size, 2, none⟩ = some (.int .i64 a2) ∧ wx.cell? ⟨w.heap.size, 3, none⟩ = some (.int .i64 a3) ∧ wx.cell? ⟨w.heap.size, 4, none⟩ = some (.int .i64 a4) ∧ wx.cell? ⟨w.heap.size, 5, none⟩ = some (.int .i64 a5) ∧ wx.cell? ⟨w.heap.size, 6, none⟩ = some (.int .i64 a6))
      (first
        | exact HKEEP.out _ HD0.out
        | exact HK2.out)
      (first
        | (go_at_call 92
           (with_reducible refine (HSV.out _ HD0.out).mono ?_)
           rintro e w2 ⟨rfl, own', hs2, ht2, hr2⟩
           have HT2 := Lib.hid ht2
           have H2 := Lib.hid ((H0.out.quiet HD0.out).sat hs2 ht2 (hr2 (.inl (H0.out.quiet HD0.out).r)) HNE.out)
           have HB2 := Lib.hid (blk_of_block HB0.out (ht2.block w.heap.size HB0.out.lt HFRESH.out))
           have HK2 := Lib.hid (show w2.cell? ⟨sb, 0, none⟩ = some (.pointer (some ⟨b, 0, none⟩)) ∧ w2.cell? ⟨sb, 1, none⟩ = some (.pointer (some ⟨tb, 0, none⟩)) ∧ w2.cell? ⟨w.heap.size, 0, none⟩ = some (.int .i64 a0) ∧ w2.cell? ⟨w.heap.size, 1, none⟩ = some (.int .i64 a1) ∧ w2.cell? ⟨w.heap.size, 2, none⟩ = some (.int .i64 a2) ∧ w2.cell? ⟨w.heap.size, 3, none⟩ = some (.int .i64 a3) ∧ w2.cell? ⟨w.heap.size, 4, none⟩ = some (.int .i64 a4) ∧ w2.cell? ⟨w.heap.size, 5, none⟩ = some (.int .i64 a5) ∧ w2.cell? ⟨w.heap.size, 6, none⟩ = some (.int .i64 a6) from by
             have hb := HB2.out
             have hc := H2.out.cells
             exact ⟨hc.1, hc.2.1, by rw [hb.cell]; rfl, by rw [hb.cell]; rfl, by rw [hb.cell]; rfl, by rw [hb.cell]; rfl, by rw [hb.cell]; rfl, by rw [hb.cell]; rfl, by rw [hb.cell]; rfl⟩)
           clear hs2 ht2 hr2))
    have y0 := HB2.out.cell 0; have y1 := HB2.out.cell 1; have y2 := HB2.out.cell 2; have y3 := HB2.out.cell 3; have y4 := HB2.out.cell 4; have y5 := HB2.out.cell 5; have y6 := HB2.out.cell 6
    simp only [List.getElem?_toArray, List.getElem?_cons_zero, List.getElem?_cons_succ] at y0 y1 y2 y3 y4 y5 y6
    obtain ⟨_, _, c2, c3, c4, c5, c6, c7, c8, _, _, _⟩ := H2.out.cells
    have f2 := H2.out.fz 2; have f3 := H2.out.fz 3; have f4 := H2.out.fz 4; have f5 := H2.out.fz 5; have f6 := H2.out.fz 6; have f7 := H2.out.fz 7; have f8 := H2.out.fz 8
    go_wp2
    go_ret
    have hq := sto_set7 HX.out H2.out.c
    have hm := HMAY.out (by trivial)
    rw [← HX.out, ← HNE.out] at hm
    have h3 := H2.out.super hq.2 hq.1 hm
    refine ⟨rfl, own', ?_, .inl ⟨by trivial, x', HX.out, h3⟩⟩
    exact ((Turn.none_ (HGA.out.trans HD0.out)).trans (foot_grow (turn_log HT2.out g))).trans (StoAtG.turn_sb hq.2)
  · have heb : (er == 0) = false := by simpa using he
    have HE := Lib.hid he
    clear he
    go_enter Tryz.func97, Tryz.ntmps97
    go_wp2_with fail
    go_region_held3 (fun wx => wx.cell? ⟨sb, 0, none⟩ = some (.pointer (some ⟨b, 0, none⟩)) ∧ wx.cell? ⟨sb, 1, none⟩ = some (.pointer (some ⟨tb, 0, none⟩)) ∧ wx.cell? ⟨w.heap.size, 0, none⟩ = some (.int .i64 a0) ∧ wx.cell? ⟨w.heap.size, 1, none⟩ = some (.int .i64 a1) ∧ wx.cell? ⟨w.heap.size, 2, none⟩ = some (.int .i64 a2) ∧ wx.cell? ⟨w.heap.size, 3, none⟩ = some (.int .i64 a3) ∧ wx.cell? ⟨w.heap.size, 4, none⟩ = some (.int .i64 a4) ∧ wx.cell? ⟨w.heap.size, 5, none⟩ = some (.int .i64 a5) ∧ wx.cell? ⟨w.heap.size, 6, none⟩ = some (.int .i64 a6))
      (first
        | exact HKEEP.out _ HD0.out
        | exact HK2.out)
      (first
        | (go_at_call 92
           (with_reducible refine (HSV.out _ HD0.out).mono ?_)
           rintro e w2 ⟨rfl, own', hs2, ht2, hr2⟩
           have HT2 := Lib.hid ht2
           have H2 := Lib.hid ((H0.out.quiet HD0.out).sat hs2 ht2 (hr2 (.inl (H0.out.quiet HD0.out).r)) HNE.out)
           have HB2 := Lib.hid (blk_of_block HB0.out (ht2.block w.heap.size HB0.out.lt HFRESH.out))
           have HK2 := Lib.hid (show w2.cell? ⟨sb, 0, none⟩ = some (.pointer (some ⟨b, 0, none⟩)) ∧ w2.cell? ⟨sb, 1, none⟩ = some (.pointer (some ⟨tb, 0, none⟩)) ∧ w2.cell? ⟨w.heap.size, 0, none⟩ = some (.int .i64 a0) ∧ w2.cell? ⟨w.heap.size, 1, none⟩ = some (.int .i64 a1) ∧ w2.cell? ⟨w.heap.size, 2, none⟩ = some (.int .i64 a2) ∧ w2.cell? ⟨w.heap.size, 3, none⟩ = some (.int .i64 a3) ∧ w2.cell? ⟨w.heap.size, 4, none⟩ = some (.int .i64 a4) ∧ w2.cell? ⟨w.heap.size, 5, none⟩ = some (.int .i64 a5) ∧ w2.cell? ⟨w.heap.size, 6, none⟩ = some (.int .i64 a6) from by
             have hb := HB2.out
             have hc := H2.out.cells
             exact ⟨hc.1, hc.2.1, by rw [hb.cell]; rfl, by rw [hb.cell]; rfl, by rw [hb.cell]; rfl, by rw [hb.cell]; rfl, by rw [hb.cell]; rfl, by rw [hb.cell]; rfl, by rw [hb.cell]; rfl⟩)
           clear hs2 ht2 hr2))
    go_wp2
    go_ret
    exact ⟨rfl, own', (Turn.none_ (HGA.out.trans HD0.out)).trans (foot_grow (turn_log HT2.out g)), .inr ⟨HE.out, H2.out⟩⟩
end
end Go.Proofs.YteaokeiolgjhaaaGreat.Sto
/- The keys of a map of pages, rising. -/
namespace Go.Proofs.YteaokeiolgjhaaaGreat.Sto
open Go.RowKit Go.Maps Go.Sort Go.Shelf CrcMath CodecMath Mem Crc Codec DiskSpec Dsk Sup Log

def PageKeys_ren : Shelf.Ren where
  f := fun | 7 => 60 | 10 => 113 | n => n
  t := fun | 23 => 102 | 26 => 3 | 3 => 40 | 28 => 116 | 0 => 0 | 27 => 115 | 33 => 105 | 4 => 4 | n => n
  g := fun n => n
theorem PageKeys : SlLaysZI.n7 Tryz.prog PageKeys_ren where
  mixed := rfl
  f7 := ⟨_, of_decide_eq_true (by kernel_rfl), Tryz.func60.trans (congrArg some rfl)⟩
  f10 := ⟨_, of_decide_eq_true (by kernel_rfl), Tryz.func113.trans (congrArg some rfl)⟩
  t0 := Tryz.underlying0
  a0 := Tryz.isAgg0
  z0 := Tryz.sizeOf0
  v0 := Tryz.zeroValue0
  t4 := Tryz.underlying4
  a4 := Tryz.isAgg4
  z4 := Tryz.sizeOf4
  v4 := Tryz.zeroValue4
  t23 := Tryz.underlying102
  a23 := Tryz.isAgg102
  z23 := Tryz.sizeOf102
  v23 := Tryz.zeroValue102
  t26 := Tryz.underlying3
  a26 := Tryz.isAgg3
  z26 := Tryz.sizeOf3
  v26 := Tryz.zeroValue3
  t27 := Tryz.underlying115
  a27 := Tryz.isAgg115
  z27 := Tryz.sizeOf115
  v27 := Tryz.zeroValue115
  t28 := Tryz.underlying116
  a28 := Tryz.isAgg116
  z28 := Tryz.sizeOf116
  v28 := Tryz.zeroValue116
  t33 := Tryz.underlying105
  a33 := Tryz.isAgg105
  z33 := Tryz.sizeOf105
  v33 := Tryz.zeroValue105

theorem keys_sorted (D : Pgs) : ((keys D).map fun k => ((k : Nat) : Int)).mergeSort (fun x y => decide (x ≤ y)) = (keys D).map fun k => ((k : Nat) : Int) := by
  refine List.mergeSort_of_pairwise ?_
  rw [List.pairwise_map]
  have : (keys D).Pairwise (· < ·) := List.Pairwise.filter _ List.pairwise_lt_range
  exact this.imp (fun h => by simp; omega)
theorem keys_call (mb : Option Nat) (w : World) : Calls Tryz.prog 60 #[.map mb] w fun e w' => e = .returned (.func (.func 113) #[] #[.pointer (some ⟨w.heap.size, 0, none⟩)]) ∧ w' = w.alloc (.cells #[.map mb] 102) :=
  (callsIn_wide (n := 5)).1 (AnyZI.keys_in PageKeys Fence.wide 5 trivial rfl mb w)
set_option maxRecDepth 100000 in
set_option maxHeartbeats 1000000 in
theorem sorted_call {w : World} {P : Nat → Prop} {bm : Nat} {D : Pgs} (h : PMap w P bm D) :
    Calls Tryz.prog 59 #[.func (.func 113) #[] #[.pointer (some ⟨w.heap.size, 0, none⟩)]] (w.alloc (.cells #[.map (some bm)] 102)) fun e w' =>
      ∃ v, e = .returned v ∧ w'.ownsRow w.heap.size 3 1 v (keys D).length (nats (keys D)) ∧ w.grownBy w' none := by
  obtain ⟨f, ⟨E, hown, ha, he⟩, hv⟩ := h.m
  have htd := hown.tidy (int_keyed Tryz.underlying3)
  have hsz := MapIs.size_le htd ha he
  have hperm := MapIs.keys_perm htd ha he
  have hfe : ((List.range 1024).filter fun k => (f k).isSome) = keys D := by
    unfold keys
    refine List.filter_congr fun k _ => ?_
    rcases hv k with ⟨a, b⟩ | ⟨p, v, a, b, _⟩ <;> simp [a, b]
  rw [hfe] at hperm
  have hbl := hown.lt
  have hseq : SeqGives Fence.wide 2 Tryz.prog 113 #[.pointer (some ⟨w.heap.size, 0, none⟩)] encZ (fun ss => ss.Perm (intKeys E)) (Maps.size E) (w.alloc (.cells #[.map (some bm)] 102)) :=
    AnyZI.keys_gives (ρ := PageKeys_ren) { PageKeys with } Fence.wide _ trivial rfl (by omega) w.heap.size bm (Maps.size E) E _ (by simp) (by simp) (by
      obtain ⟨es, clock, hb, Ft, hs, hD⟩ := hown
      exact ⟨es, clock, (Below.heap_alloc _ _ bm hbl).trans hb, Ft, hs, hD⟩)
  have cS := AnyZI.sorted_in DirtySorted Fence.wide 5 trivial trivial trivial trivial rfl (by omega) (dirty_sorts _) (enters_of Tryz.func112 (by kernel_rfl) rfl) 113 #[.pointer (some ⟨w.heap.size, 0, none⟩)] trivial
    (enters_of Tryz.func113 (by kernel_rfl) rfl) _ _ (by unfold maxLen; omega) (by omega) _ hseq
  change CallsIn _ _ Tryz.prog 59 _ _ _ at cS
  refine ((callsIn_wide (n := 5)).1 cS).mono ?_
  rintro e w' ⟨v, ss, rfl, hS, hrow, hnil, hb⟩
  have e1 : (ss.mergeSort fun x y => decide (x ≤ y)).map encZ = nats (keys D) := by
    rw [sort_perm (hS.trans hperm), keys_sorted, List.map_map]; rfl
  have e2 : ss.length = (keys D).length := by rw [(hS.trans hperm).length_eq, List.length_map]
  rw [e1, e2] at hrow
  exact ⟨v, rfl, ownsRow_base_a hrow (by simp), grown_of_below (((Below.refl _ w).alloc (Nat.le_refl _) _).trans (hb.mono (by simp)))⟩
set_option maxRecDepth 100000 in
set_option maxHeartbeats 400000 in
theorem sto_dirty {w : World} {B b tb g sb dm : Nat} {wm : Option Nat} {own : Nat → Prop} {s : Sto} (h : StoAt w B b tb g sb dm wm own s) : Calls Tryz.prog 22 #[.pointer (some ⟨sb, 0, none⟩)] w fun e w' =>
    ∃ v, e = .returned v ∧ w'.ownsRow w.heap.size 3 1 v (keys s.D).length (nats (keys s.D)) ∧ w.grownBy w' none := by
  obtain ⟨_, _, _, _, _, _, _, _, _, _, c10, _⟩ := h.cells
  have HK := Lib.hid (keys_call (some dm) w)
  have HS := Lib.hid (sorted_call h.d)
  clear h
  go_enter Tryz.func22, Tryz.ntmps22
  go_wp2_with fail
  refine HK.out.mono ?_
  rintro e w1 ⟨rfl, rfl⟩
  go_wp2_with fail
  refine HS.out.mono ?_
  rintro e w2 ⟨v, rfl, hrow, hg⟩
  go_wp2
  go_ret
  exact ⟨v, rfl, hrow, hg⟩
end Go.Proofs.YteaokeiolgjhaaaGreat.Sto
/- Pages by their numbers, as images. -/
namespace Go.Proofs.YteaokeiolgjhaaaGreat.Sto
open Go.RowKit Go.Maps Go.Shelf CrcMath CodecMath Mem Crc Codec DiskSpec Dsk Sup Log

theorem PMap.quiet {w w' : World} {P : Nat → Prop} {bm : Nat} {D : Pgs} (h : PMap w P bm D) (hg : w.grownBy w' none) : PMap w' P bm D := h.turn (Turn.none_ hg) (hg.block bm h.lt (by simp))
/-- A look-up in a later world, of a value as it was. -/
theorem PMap.lookAt {w w' : World} {P : Nat → Prop} {bm : Nat} {D : Pgs} (h : PMap w P bm D) (hb : w'.heap[bm]? = w.heap[bm]?) {k : Nat} {p : Pg} (hp : D k = some p) : ∃ v, (Instr.lookup 102 (.map (some bm)) (.int .i64 (k : Nat)) false).run Tryz.prog w' = .ok v w' ∧ PgV w P v p := by
  obtain ⟨f, h1, h2⟩ := h.m
  have hlt := h.ok.lt hp
  have hr := (h1.of_block hb).look (t := 102) (E := 40) Tryz.underlying3 Tryz.underlying102 (zeroPg w') k (by omega)
  rcases h2 k with ⟨a, _⟩ | ⟨q, v, a, b, hv⟩
  · rw [hp] at a; cases a
  · rw [hp] at a; cases a
    rw [b] at hr
    exact ⟨v, hr, hv⟩
theorem rising_at {D : Pgs} {j : Nat} (hj : j < (keys D).length) : ∃ k p, (keys D)[j]? = some k ∧ D k = some p ∧ (rising D)[j]? = some (imgOf k p) := by
  have h1 : (keys D)[j]? = some ((keys D)[j]) := List.getElem?_eq_getElem hj
  obtain ⟨p, hp⟩ := Option.isSome_iff_exists.1 (mem_keys.1 (List.getElem_mem hj)).2
  refine ⟨_, p, h1, hp, ?_⟩
  unfold rising
  rw [List.getElem?_map, h1]
  show some (imgOf _ ((D (keys D)[j]).getD (0, []))) = _
  rw [hp]; rfl
/-- Within the loop: the first j images. -/
structure RisAt (w wr : World) (P : Nat → Prop) (D : Pgs) (va : Value) (j : Nat) : Prop where
  gr : w.grownBy wr none
  im : ∃ V : List (Img × Value), V.map (·.1) = (rising D).take j ∧ V.length = j ∧ Own wr w.heap.size 109 3 va j (imC V) ∧ ∀ p ∈ V, BodyAt w P p.2 p.1.2.2
set_option maxRecDepth 100000 in
set_option maxHeartbeats 1600000 in
theorem rising_call {w : World} {P : Nat → Prop} {bm : Nat} {D : Pgs} (h : PMap w P bm D) (hP : ∀ i, P i → i < w.heap.size) :
    Calls Tryz.prog 96 #[.map (some bm)] w fun e w' => ∃ A c, e = .returned (.slice A (rising D).length c) ∧ (rising D).length ≤ c ∧ c ≤ maxLen ∧ Imgs w' P A (rising D).length (rising D) ∧ w.grownBy w' none := by
  obtain ⟨i0, hi0, hz0, hz1, hz2⟩ := info_parts image_info
  have hi := Lib.hid hi0; have z0 := Lib.hid hz0; have z1 := Lib.hid hz1; have z2 := Lib.hid hz2
  have HK := Lib.hid (keys_call (some bm) w)
  have HS := Lib.hid (sorted_call h)
  have HP := Lib.hid hP
  have H := Lib.hid h
  have HOK := Lib.hid h.ok
  have hbm := h.lt
  have hN : (keys D).length ≤ 1024 := by have := List.length_filter_le (fun k => (D k).isSome) (List.range 1024); rw [List.length_range] at this; exact this
  rw [rising_len]
  have HRL := Lib.hid (rising_len D)
  clear h hP hi0 hz0 hz1 hz2
  go_enter Tryz.func96, Tryz.ntmps96
  go_wp2_with fail
  refine HK.out.mono ?_
  rintro e w1 ⟨rfl, rfl⟩
  go_wp2_with fail
  refine HS.out.mono ?_
  rintro e w2 ⟨vk, rfl, hrow, hg2⟩
  have H2 := Lib.hid (H.out.quiet hg2)
  have HG2 := Lib.hid hg2
  have HROW := Lib.hid (Own.of hrow)
  obtain ⟨Ak, ck, rfl, hck, hcm, _⟩ := (Own.of hrow).shape
  have hs2 := hg2.size
  clear hrow hg2 HK HS
  have HR0 := Lib.hid (show RisAt w2 w2 P D (.slice none 0 0) 0 from ⟨World.grownBy.refl _ _, [], rfl, rfl, Own.nil _ _ _ _, by simp⟩)
  generalize hNN : (keys D).length = N at *
  have HNN := Lib.hid hNN
  clear hNN
  go_wp2_with fail
  go_loopw [3, 5, 10] (fun va _ i wr => ∃ j : Nat, j ≤ N ∧ i = .int .i64 j ∧ RisAt w2 wr P D va j) (fun _ _ i _ => N - (Go.RowKit.intOf i).toNat)
  case atStart => exact ⟨0, Nat.zero_le _, rfl, HR0.out⟩
  case round =>
    clear HR0
    obtain ⟨j, hj, rfl, hr⟩ := hrel
    have HR := Lib.hid hr
    clear hr
    by_cases hlt : j < N
    · have hjn : (j : Int) < (N : Int) := by omega
      obtain ⟨k, p, hk, hp, hrj⟩ := rising_at (D := D) (show j < (keys D).length by have := HNN.out; omega)
      obtain ⟨gk, ck', ek, hgk, hgk2, _, _, hck2⟩ := HROW.out.reads (by omega)
      have hAk : Ak = some ⟨gk, 0, none⟩ := by injection ek
      subst hAk
      have hck3 := hck2 j (.int .i64 (k : Nat)) (by rw [nats, List.getElem?_map, hk]; rfl)
      have hcell : wr.cell? ⟨gk, j, none⟩ = some (.int .i64 (k : Nat)) := by
        rw [World.cell?_of_block (a := ⟨gk, j, none⟩) (HR.out.gr.block gk hgk2 (by simp))]; exact hck3
      have hk10 : k < 1024 := HOK.out.lt hp
      obtain ⟨v, hrun, bv, hv, hbv⟩ := H2.out.lookAt (w' := wr) (HR.out.gr.block bm H2.out.lt (by simp)) hp
      subst hv
      obtain ⟨k0, body⟩ := p
      dsimp only at *
      obtain ⟨V, hv1, hv2, hv3, hv4⟩ := HR.out.im
      have HB := Lib.hid hbv
      obtain ⟨Ab, nb, cb, rfl, _, _⟩ := hbv
      have HRJ := Lib.hid hrj
      have HV1 := Lib.hid hv1; have HV2 := Lib.hid hv2; have HV3 := Lib.hid hv3; have HV4 := Lib.hid hv4
      have hsr := HR.out.gr.size
      clear hrj hv1 hv2 hv3 hv4 hck2 hck3 ek hp hk
      go_wp2_with (at_builtin
                   refine wpList_append_own_full _ rfl (.tmp 14) (.tmp 20) _ rfl w2.heap.size 109 i0 _ 3 40 Tryz.underlying76 hi.out z0.out z1.out z2.out rfl (by omega) _ j _ rfl (HV3.out.alloc _)
                     _ _ 1 1 _ rfl (reads_one_img _ _ _ _) (fun u hu => by simp at hu; rcases hu with rfl | rfl | rfl <;> rfl) (by simp only [maxLen]; omega) (by omega) (by simp; omega) ?_
                   intro v' w6 hown' hgr'
                   have HO6 := Lib.hid hown'; have HG6 := Lib.hid hgr'; clear hown' hgr')
      have HAL := Lib.hid (HR.out.gr.trans (World.grownBy_alloc wr (.cells #[.int .i64 (k : Nat), .int .i64 k0, .slice Ab nb cb] 109) none))
      have hlo : ∀ q, u3.ownBlock = some q → w2.heap.size ≤ q := fun q hq => (HV3.out.base_ q hq).1
      have HN := Lib.hid (show RisAt w2 w6 P D v' (j + 1) from by
        refine ⟨grownBy_new HAL.out HG6.out.1 (fun q hq => hlo q hq), V ++ [(imgOf k (k0, body), .slice Ab nb cb)], ?_, by simp [HV2.out], ?_, ?_⟩
        · rw [List.map_append, HV1.out, List.take_add_one, HRJ.out]
          rfl
        · rw [imC_snoc]
          exact HO6.out
        · intro p hp
          rcases List.mem_append.1 hp with hp | hp
          · exact HV4.out p hp
          · simp at hp
            subst hp
            exact HB.out)
      clear HAL HO6 HG6
      refine ⟨⟨j + 1, by omega, by go_num, HN.out⟩, ?_⟩
      simp [Go.RowKit.intOf]; omega
    · have hje : j = (keys D).length := by have := HNN.out; omega
      subst hje
      have hnb : ¬ (((keys D).length : Int) < (N : Int)) := by omega
      obtain ⟨V, hv1, hv2, hv3, hv4⟩ := HR.out.im
      obtain ⟨Ao, co, rfl, hjc, hcm2, _⟩ := hv3.shape
      have hI := imgs_of_own (P := P) hv3 hv2 (fun i h1 h2 h3 => by have := HP.out i h3; omega) (fun p hp => (hv4 p hp).turn (Turn.none_ HR.out.gr))
      rw [hv1, List.take_of_length_le (by have := HRL.out; have := HNN.out; omega)] at hI
      have HI := Lib.hid hI
      clear hv1 hv2 hv3 hv4 hI
      go_wp2_with fail
      go_ret
      exact ⟨Ao, co, rfl, hjc, hcm2, HI.out, HG2.out.trans HR.out.gr⟩
end Go.Proofs.YteaokeiolgjhaaaGreat.Sto
/- Dirty pages are brought home. -/
namespace Go.Proofs.YteaokeiolgjhaaaGreat.Sto
open Go.RowKit Go.Shelf CrcMath CodecMath Mem Crc Codec DiskSpec Dsk Sup Log

theorem writeE_n6 (S : St) (fua : Bool) (a : Int) (l : List Nat) : (writeE S fua a l).2.n = S.n := by
  unfold writeE
  split
  · rfl
  · split
    · rfl
    · split
      · rfl
      · exact puts_n _ _ _ _ _
theorem writeE_ver6 (S : St) (fua : Bool) (a : Int) {l : List Nat} (hl : l.length = 256) (i : Nat) : ((writeE S fua a l).2.ver i).length ≤ (S.ver i).length + 1 := by
  unfold writeE
  split
  · exact Nat.le_succ _
  · split
    · exact Nat.le_succ _
    · split
      · exact Nat.le_succ _
      · rw [hl]
        exact Log.puts_ver ({ S with f2 := S.f2 - 1 } : St) fua a.toNat l i 1
theorem homesE_n : ∀ (l : List Img) (S : St), (homesE S l).2.n = S.n
  | [], _ => rfl
  | x :: r, S => by
    show (if (homeE S x).1 = 0 then homesE (homeE S x).2 r else homeE S x).2.n = S.n
    split
    · rw [homesE_n r]; exact writeE_n6 _ _ _ _
    · exact writeE_n6 _ _ _ _
theorem pageF_len {x : Img} (h : imgOk x = true) : (frame (pageB x.1 x.2.1 x.2.2)).length = 256 := frame_length _ (by rw [pageB_len _ _ _ (imgOk_iff h).2.2.1]; omega)
theorem pageF_lt {x : Img} (h : imgOk x = true) : ∀ y ∈ frame (pageB x.1 x.2.1 x.2.2), y < 256 := frame_lt _ (pageB_lt _ _ _ (imgOk_iff h).2.2.2)
theorem page_put {w : World} {tb : Nat} {P : Nat → Prop} {x : Img} (hx : imgOk x = true) {A : Option Addr} {n c : Nat} (hR : Ready w tb) (hd : Dsk.Data w P A n x.2.2) (hP : P tb) :
    Calls Tryz.prog 53 #[.pointer (some ⟨tb, 0, none⟩), .agg #[.int .i64 x.1, .int .i64 x.2.1, .slice A n c]] w fun e w' => ∃ g, e = .returned (.tuple #[.slice (some ⟨g, 0, none⟩) 256 256, .int .i64 0]) ∧ w.heap.size ≤ g ∧
      Blk w' g 118 (u8s (frame (pageB x.1 x.2.1 x.2.2))).toArray ∧ w.grownBy w' none := by
  refine (put_page_core tb tb none x.1 x.2.1 A n c x.2.2 w (tabs_ready hR) (data_bytes hd hP)).mono ?_
  have hw : pageW x.1 x.2.1 x.2.2 = some (frame (pageB x.1 x.2.1 x.2.2)) := by rw [pageW, show pageOk x.1 x.2.1 x.2.2 = true from hx]; rfl
  rw [hw]
  have hlen := pageF_len hx
  rintro e w' ⟨hg, ⟨l, g, ho, rfl, h1, h2, h3, h4⟩ | ⟨ho, _⟩⟩
  · injection ho with ho
    subst ho
    rw [hlen]
    exact ⟨g, rfl, h1, h2, hg⟩
  · cases ho
/-- Within the loop. -/
structure BrAt (lv : Value) (w wr : World) (B b tb g sb dm : Nat) (wm : Option Nat) (own own' : Nat → Prop) (s : Sto) (A : Option Addr) (n j : Nat) : Prop where
  st : StoAtG lv wr B b tb g sb dm wm own' (s.disk (homesE s.S ((rising s.D).take j)).2)
  im : Imgs wr (Foot own' tb g sb dm wm) A n (rising s.D)
  tu : Turn w wr (Foot own tb g sb dm wm) (Foot own' tb g sb dm wm)
  ok : (homesE s.S ((rising s.D).take j)).1 = 0
  ver : ∀ i, ((homesE s.S ((rising s.D).take j)).2.ver i).length ≤ (s.S.ver i).length + j
section
variable {lv : Value} {w w' wr : World} {B b tb g sb dm : Nat} {wm : Option Nat} {own own' own2 : Nat → Prop} {s : Sto} {A : Option Addr} {n j : Nat}
theorem BrAt.quiet (h : BrAt lv w wr B b tb g sb dm wm own own' s A n j) (hg : wr.grownBy w' none) : BrAt lv w w' B b tb g sb dm wm own own' s A n j :=
  ⟨h.st.quiet hg, h.im.turn (Turn.none_ hg), h.tu.trans (Turn.none_ hg), h.ok, h.ver⟩
theorem turnD (ht : Turn w w' own own') : Turn w w' (Foot own tb g sb dm wm) (Foot own' tb g sb dm wm) := foot_grow (turn_log (turn_with ht tb) g)
theorem flushE_n6 (S : St) : (flushE S).2.n = S.n := by unfold flushE; split <;> rfl
theorem rising_take {D : Pgs} {j : Nat} {x : Img} (hx : (rising D)[j]? = some x) : (rising D).take (j + 1) = (rising D).take j ++ [x] := by
  rw [List.take_add_one, hx]; rfl
theorem bring_stop {S : St} {D : Pgs} {j : Nat} {x : Img} (hx : (rising D)[j]? = some x) (h0 : (homesE S ((rising D).take j)).1 = 0) (h1 : (homeE (homesE S ((rising D).take j)).2 x).1 ≠ 0) : bringE S D = homeE (homesE S ((rising D).take j)).2 x := by
  have h2 : homesE S ((rising D).take (j + 1)) = homeE (homesE S ((rising D).take j)).2 x := by rw [rising_take hx, homesE_snoc x _ _ h0]
  have h3 : homesE S (rising D) = homeE (homesE S ((rising D).take j)).2 x := by
    rw [← h2, ← List.take_append_drop (j + 1) (rising D), homesE_stop _ _ _ (by rw [h2]; exact h1)]
    rw [List.take_append_drop]
  unfold bringE
  rw [h3, if_neg h1]
theorem bring_end {S : St} {D : Pgs} {j : Nat} (hj : (rising D).length ≤ j) (h0 : (homesE S ((rising D).take j)).1 = 0) : bringE S D = flushE (homesE S ((rising D).take j)).2 := by
  rw [List.take_of_length_le hj] at h0 ⊢
  unfold bringE
  rw [if_pos h0]
/-- What bringHome leaves. -/
def Brought (lv : Value) (w : World) (B b tb g sb dm : Nat) (wm : Option Nat) (own : Nat → Prop) (s : Sto) (e : Ending) (w' : World) : Prop :=
  e = .returned (.int .i64 (bringE s.S s.D).1) ∧ ∃ own', StoAtG lv w' B b tb g sb dm wm own' (s.disk (bringE s.S s.D).2) ∧ Turn w w' (Foot own tb g sb dm wm) (Foot own' tb g sb dm wm)
set_option maxRecDepth 100000 in
set_option maxHeartbeats 3200000 in
theorem sto_bring (h : StoAtG lv w B b tb g sb dm wm own s) (hroom : ∀ i, (s.S.ver i).length < 549755800000) :
    Calls Tryz.prog 48 #[.pointer (some ⟨sb, 0, none⟩)] w (Brought lv w B b tb g sb dm wm own s) := by
  obtain ⟨_, _, _, _, _, _, _, _, _, _, c10, _⟩ := h.cells
  have HRC := Lib.hid (rising_call h.d (fun i hi => h.foot_lt hi))
  have H := Lib.hid h
  have HROOM := Lib.hid hroom
  have HOK := Lib.hid (rising_ok h.d.ok)
  have hN : (rising s.D).length ≤ 1024 := by rw [rising_len]; have := List.length_filter_le (fun k => (s.D k).isSome) (List.range 1024); rw [List.length_range] at this; exact this
  clear h hroom
  go_enter Tryz.func48, Tryz.ntmps48
  go_wp2_with fail
  refine HRC.out.mono ?_
  rintro e w1 ⟨A, c, rfl, hnc, hcm, him, hg1⟩
  have H0 := Lib.hid (show BrAt lv w w1 B b tb g sb dm wm own own s A (rising s.D).length 0 from ⟨H.out.quiet hg1, him, Turn.none_ hg1, rfl, fun i => Nat.le_refl _⟩)
  clear him hg1 HRC c10
  generalize hNN : (rising s.D).length = N at *
  have HNN := Lib.hid hNN
  clear hNN
  go_wp2_with fail
  go_loopw [4, 5, 6, 7, 14] (fun _ _ _ _ i wr => ∃ j : Nat, j ≤ N ∧ i = .int .i64 j ∧ ∃ own', BrAt lv w wr B b tb g sb dm wm own own' s A N j) (fun _ _ _ _ i _ => N - (Go.RowKit.intOf i).toNat)
  case atStart => exact ⟨0, Nat.zero_le _, rfl, own, H0.out⟩
  case round =>
    clear H0
    obtain ⟨j, hj, rfl, own', hr⟩ := hrel
    have HR := Lib.hid hr
    clear hr
    by_cases hlt : j < N
    · have hjn : (j : Int) < (N : Int) := by omega
      obtain ⟨gi, o, ⟨x1, x2, x3⟩, Bx, mx, cx, rfl, hgi, hno, hx, e0, e1, e2, hmc, hdx⟩ := HR.out.im.at_ hlt
      dsimp only at e0 e1 e2 hdx
      have hxo := HOK.out _ (List.mem_of_getElem? hx)
      have HX := Lib.hid hx
      have hx1 := (imgOk_iff hxo).2.1
      dsimp only at hx1
      have HXO := Lib.hid hxo
      have hga := World.grownBy_alloc wr (.cells #[.int .i64 x1, .int .i64 x2, .slice Bx mx cx] 109) none
      have HRA := Lib.hid (HR.out.quiet hga)
      have HDX := Lib.hid (Dsk.Data.turn hdx (Turn.none_ hga))
      have HBX := Lib.hid (Blk.new wr 109 #[.int .i64 x1, .int .i64 x2, .slice Bx mx cx])
      have HIX := Lib.hid (show ¬ Foot own' tb g sb dm wm wr.heap.size from fun hi => by have := HR.out.st.foot_lt hi; omega)
      clear hno hx hmc hdx hxo hga
      go_wp2_with fail
      generalize wr.alloc (.cells #[.int .i64 x1, .int .i64 x2, .slice Bx mx cx] 109) = wq at HRA HDX HBX ⊢
      have hkeep : ∀ (wx : World) (own2 : Nat → Prop) (T : Sto), StoAtG lv wx B b tb g sb dm wm own2 T → Blk wx wr.heap.size 109 #[.int .i64 x1, .int .i64 x2, .slice Bx mx cx] → wx.cell? ⟨sb, 0, none⟩ = some (.pointer (some ⟨b, 0, none⟩)) ∧ wx.cell? ⟨sb, 1, none⟩ = some (.pointer (some ⟨tb, 0, none⟩)) ∧ wx.cell? ⟨wr.heap.size, 0, none⟩ = some (.int .i64 x1) ∧ wx.cell? ⟨wr.heap.size, 1, none⟩ = some (.int .i64 x2) ∧ wx.cell? ⟨wr.heap.size, 2, none⟩ = some (.slice Bx mx cx) := by
        intro wx own2 T hs hb
        obtain ⟨c0, c1, _⟩ := hs.cells
        exact ⟨c0, c1, by rw [hb.cell]; rfl, by rw [hb.cell]; rfl, by rw [hb.cell]; rfl⟩
      have HKEEP := Lib.hid hkeep
      have HD0 := Lib.hid (grown_drew wq none)
      have HB0 := Lib.hid (HBX.out.grown HD0.out (by simp))
      have HS0 := Lib.hid (HRA.out.quiet HD0.out)
      have HPP := Lib.hid (page_put (w := wq.drew) (tb := tb) (P := Foot own' tb g sb dm wm) (x := (x1, x2, x3)) HXO.out (A := Bx) (n := mx) (c := cx) HS0.out.st.r (Dsk.Data.turn HDX.out (Turn.none_ HD0.out)) (.inl (.inl (.inr rfl))))
      clear hkeep e0 e1 e2
      go_region_held3 (fun wx => wx.cell? ⟨sb, 0, none⟩ = some (.pointer (some ⟨b, 0, none⟩)) ∧ wx.cell? ⟨sb, 1, none⟩ = some (.pointer (some ⟨tb, 0, none⟩)) ∧ wx.cell? ⟨wr.heap.size, 0, none⟩ = some (.int .i64 x1) ∧ wx.cell? ⟨wr.heap.size, 1, none⟩ = some (.int .i64 x2) ∧ wx.cell? ⟨wr.heap.size, 2, none⟩ = some (.slice Bx mx cx))
        (first
          | exact HKEEP.out _ _ _ HS0.out.st HB0.out
          | exact HKEEP.out _ _ _ HS3.out.st HB3.out)
        (first
          | (go_at_call 53
             (with_reducible refine HPP.out.mono ?_)
             rintro e w3 ⟨gp, rfl, hgp, hbp, hg3⟩
             have HBP := Lib.hid hbp
             have HGP := Lib.hid hgp
             have HS3 := Lib.hid (HS0.out.quiet hg3)
             have HB3 := Lib.hid (HB0.out.grown hg3 (by simp))
             clear hg3 hbp hgp))
      have HNG := Lib.hid (show ¬ own' gp from fun hi => by have := HS0.out.st.l.s.own_lt hi; have := HGP.out; omega)
      clear HPP HS0 HB0 HRA HDX HBX HD0
      have HD4 := Lib.hid (grown_drew w3 none)
      have HS4 := Lib.hid (HS3.out.quiet HD4.out)
      have HB4 := Lib.hid (HB3.out.grown HD4.out (by simp))
      have HV4 := Lib.hid (show ∀ i, ((homesE s.S ((rising s.D).take j)).2.ver i).length < 549755813888 from fun i => by have := HR.out.ver i; have := HROOM.out i; omega)
      have hfl := pageF_len HXO.out
      have hda := data_of_blk (own := own') (HBP.out.grown HD4.out (by simp)) (pageF_lt HXO.out) HNG.out
      rw [hfl] at hda
      have hd4 : DAt w3.drew B b (homesE s.S ((rising s.D).take j)).2 own' := HS4.out.st.l.s.d
      have HWR := Lib.hid (disk_write_all hd4 (2 + x1) (some ⟨gp, 0, none⟩) 256 256 _ false (by omega) hda (by omega) (by omega) HV4.out HS4.out.st.l.s.s)
      have HHM := Lib.hid (fun wx => home_any x1 wx (by omega))
      have HNW := Lib.hid (writeE_n6 (homesE s.S ((rising s.D).take j)).2 false (2 + x1) (frame (pageB x1 x2 x3)))
      have HVW := Lib.hid (fun i => writeE_ver6 (homesE s.S ((rising s.D).take j)).2 false (2 + x1) hfl i)
      clear hfl hda hd4
      go_wp2_with fail
      go_region_held3 (fun wx => wx.cell? ⟨sb, 0, none⟩ = some (.pointer (some ⟨b, 0, none⟩)) ∧ wx.cell? ⟨sb, 1, none⟩ = some (.pointer (some ⟨tb, 0, none⟩)) ∧ wx.cell? ⟨wr.heap.size, 0, none⟩ = some (.int .i64 x1) ∧ wx.cell? ⟨wr.heap.size, 1, none⟩ = some (.int .i64 x2) ∧ wx.cell? ⟨wr.heap.size, 2, none⟩ = some (.slice Bx mx cx))
        (first
          | exact HKEEP.out _ _ _ HS4.out.st HB4.out
          | exact HKEEP.out _ _ _ HS5.out HB5.out)
        (first
          | (go_at_call 44
             (with_reducible refine (HHM.out _).mono ?_)
             rintro e w4 ⟨rfl, rfl⟩)
          | (go_at_call 43
             (with_reducible refine HWR.out.mono ?_)
             rintro e w5 ⟨rfl, own5, hd5, ht5⟩
             have HT5 := Lib.hid ht5
             have HS5 := Lib.hid (HS4.out.st.disk hd5 ht5 HNW.out)
             have HB5 := Lib.hid (blk_of_block HB4.out (ht5.block wr.heap.size HB4.out.lt (fun ho => HIX.out (.inl (.inl (.inl ho))))))
             clear hd5 ht5))
      clear HWR HHM HKEEP
      have HI5 := Lib.hid (HS4.out.im.turn (turnD HT5.out))
      have HU5 := Lib.hid (HS4.out.tu.trans (turnD HT5.out))
      by_cases hE : (writeE (homesE s.S ((rising s.D).take j)).2 false (2 + x1) (frame (pageB x1 x2 x3))).1 = 0
      · have HN5 := Lib.hid (show BrAt lv w w5 B b tb g sb dm wm own own5 s (some ⟨gi, o, none⟩) N (j + 1) from by
          have hh : homesE s.S ((rising s.D).take (j + 1)) = homeE (homesE s.S ((rising s.D).take j)).2 (x1, x2, x3) := by rw [rising_take HX.out, homesE_snoc _ _ _ HR.out.ok]
          refine ⟨?_, HI5.out, HU5.out, by rw [hh]; exact hE, fun i => ?_⟩
          · rw [hh]; exact HS5.out
          · rw [hh]
            have h1 := HVW.out i
            have h2 := HR.out.ver i
            show ((writeE (homesE s.S ((rising s.D).take j)).2 false (2 + x1) (frame (pageB x1 x2 x3))).2.ver i).length ≤ _
            omega)
        rw [hE]
        clear HI5 HU5 HS5 HB5 HNW HVW HV4 HS4 HB4 HD4 HT5 hE
        go_wp2_with fail
        refine ⟨⟨j + 1, by omega, by go_num, own5, HN5.out⟩, ?_⟩
        simp [Go.RowKit.intOf]; omega
      · have HBS := Lib.hid (bring_stop (S := s.S) HX.out HR.out.ok hE)
        have HQ := Lib.hid (show Brought lv w B b tb g sb dm wm own s (.returned (.int .i64 (writeE (homesE s.S ((rising s.D).take j)).2 false (2 + x1) (frame (pageB x1 x2 x3))).1)) w5 from by
          refine ⟨by rw [HBS.out]; rfl, own5, ?_, HU5.out⟩
          rw [HBS.out]; exact HS5.out)
        clear HI5 HU5 HS5 HB5 HNW HVW HV4 HS4 HB4 HD4 HT5 HBS
        generalize (writeE (homesE s.S ((rising s.D).take j)).2 false (2 + x1) (frame (pageB x1 x2 x3))).1 = er at *
        have heb : (er == 0) = false := by simpa using hE
        go_wp2_with fail
        go_ret
        exact HQ.out
    · have hje : j = N := by omega
      subst hje
      have hnb : ¬ ((j : Int) < (j : Int)) := by omega
      have HBE := Lib.hid (bring_end (S := s.S) (D := s.D) (by rw [HNN.out]; omega) HR.out.ok)
      obtain ⟨c0, _⟩ := HR.out.st.cells
      have hd4 : DAt wr B b (homesE s.S ((rising s.D).take j)).2 own' := HR.out.st.l.s.d
      have HFL := Lib.hid (disk_flush_all hd4)
      clear hd4
      go_wp2_with fail
      refine HFL.out.mono ?_
      rintro e w5 ⟨rfl, hd5, ht5⟩
      have HQ := Lib.hid (show Brought lv w B b tb g sb dm wm own s (.returned (.int .i64 (flushE (homesE s.S ((rising s.D).take j)).2).1)) w5 from by
        refine ⟨by rw [HBE.out], own', ?_, HR.out.tu.trans (turnD ht5)⟩
        rw [HBE.out]
        exact HR.out.st.disk hd5 ht5 (flushE_n6 _))
      clear HFL HBE hd5 ht5
      go_wp2_with fail
      go_ret
      exact HQ.out
end
end Go.Proofs.YteaokeiolgjhaaaGreat.Sto
/- A checkpoint. -/
namespace Go.Proofs.YteaokeiolgjhaaaGreat.Sto
open Go.RowKit Go.Shelf CrcMath CodecMath Mem Crc Codec DiskSpec Dsk Sup Log

theorem flushE_ver6 (S : St) (i : Nat) : ((flushE S).2.ver i).length ≤ (S.ver i).length := by
  unfold flushE
  split
  · exact Nat.le_refl _
  · exact Nat.zero_le _
theorem homesE_ver6 : ∀ (l : List Img) (S : St) (_ : ∀ x ∈ l, imgOk x = true) (i : Nat), ((homesE S l).2.ver i).length ≤ (S.ver i).length + l.length
  | [], S, _, i => Nat.le_refl _
  | x :: r, S, h, i => by
    have h1 := writeE_ver6 S false (2 + x.1) (pageF_len (h x (List.mem_cons_self ..))) i
    have h2 := homesE_ver6 r (homeE S x).2 (fun y hy => h y (List.mem_cons_of_mem _ hy)) i
    show ((if (homeE S x).1 = 0 then homesE (homeE S x).2 r else homeE S x).2.ver i).length ≤ _
    have h3 : ((homeE S x).2.ver i).length ≤ (S.ver i).length + 1 := h1
    rw [List.length_cons]
    split <;> omega
theorem bringE_ver6 {S : St} {D : Pgs} (h : PgsOk D) (i : Nat) : ((bringE S D).2.ver i).length ≤ (S.ver i).length + 1024 := by
  have h1 := homesE_ver6 (rising D) S (rising_ok h) i
  have hN : (rising D).length ≤ 1024 := by rw [rising_len]; have := List.length_filter_le (fun k => (D k).isSome) (List.range 1024); rw [List.length_range] at this; exact this
  unfold bringE
  split
  · have := flushE_ver6 (homesE S (rising D)).2 i; omega
  · omega
theorem Sb.l_inj {x y : Sb} (h : x.l = y.l) : x = y := by
  obtain ⟨a0, a1, a2, a3, a4, a5, a6⟩ := x
  obtain ⟨b0, b1, b2, b3, b4, b5, b6⟩ := y
  simp only [Sb.l, List.cons.injEq, and_true] at h
  obtain ⟨h0, h1, h2, h3, h4, h5, h6⟩ := h
  have e0 : a0 = b0 := by omega
  have e1 : a1 = b1 := by omega
  have e2 : a2 = b2 := by omega
  have e3 : a3 = b3 := by omega
  have e4 : a4 = b4 := by omega
  have e5 : a5 = b5 := by omega
  have e6 : a6 = b6 := by omega
  subst e0 e1 e2 e3 e4 e5 e6
  rfl
section
variable {w w' wr : World} {B b tb g sb dm : Nat} {wm : Option Nat} {own own' own2 : Nat → Prop} {s : Sto}
/-- What a call answers and leaves. -/
def Stood (w : World) (B b tb g sb dm : Nat) (wm : Option Nat) (own : Nat → Prop) (r : Int × Sto) (e : Ending) (w' : World) : Prop :=
  e = .returned (.int .i64 r.1) ∧ ∃ own', StoAt w' B b tb g sb dm wm own' r.2 ∧ Turn w w' (Foot own tb g sb dm wm) (Foot own' tb g sb dm wm)
/-- The log drops what it has. -/
theorem StoAtG.logged (h : StoAt w B b tb g sb dm wm own s) (hg : w.grownBy w' (some g)) {M : Lg} (hl : LBlk w' g M b tb) (hk : M.ok s.S.n) : StoAt w' B b tb g sb dm wm own { s with L := M } ∧ Turn w w' (With2 own tb g) (With2 own tb g) :=
  have ht : Turn w w' (With2 own tb g) (With2 own tb g) := .of_grown hg (fun j e => by cases e; exact .inr rfl)
  ⟨h.logs (h.l.log hg hl hk) ht (h.r.keep hg (fun e => h.l.ne (by cases e; rfl))) rfl, ht⟩
/-- What is dirty is cleared. -/
theorem StoAtG.cleared (h : StoAt w B b tb g sb dm wm own s) (hg : w.grownBy w' (some dm)) {D : Pgs} (hd : PMap w' (Foot own tb g sb dm wm) dm D) : StoAt w' B b tb g sb dm wm own { s with D := D } ∧ Turn w w' (Foot own tb g sb dm wm) (Foot own tb g sb dm wm) := by
  have ht : Turn w w' (Foot own tb g sb dm wm) (Foot own tb g sb dm wm) := .of_grown hg (fun j e => by cases e; exact .inr (.inr (.inl rfl)))
  refine ⟨⟨h.l.far hg (fun q e => (by cases e; exact h.odm.1)), h.r.keep hg (fun e => (by cases e; exact h.odm.1 (.inl (.inr rfl)))), h.c.grown hg (fun e => h.odm.2 (by cases e; rfl)), hd, fun U hU => ?_, h.n, h.may, h.osb, h.odm, h.owm, h.low⟩, ht⟩
  obtain ⟨m, e, hm⟩ := h.u U hU
  exact ⟨m, e, hm.turn ht (hg.block m hm.lt (fun e2 => (h.owm m e).2.2 (by cases e2; rfl)))⟩
set_option maxRecDepth 100000 in
set_option maxHeartbeats 3200000 in
theorem sto_ckpt (h : StoAt w B b tb g sb dm wm own s) (hroom : ∀ i, (s.S.ver i).length < 549755700000) :
    Calls Tryz.prog 58 #[.pointer (some ⟨sb, 0, none⟩)] w (Stood w B b tb g sb dm wm own (ckptE s)) := by
  have H := Lib.hid h; have HROOM := Lib.hid hroom
  obtain ⟨_, _, _, _, _, _, _, _, _, c9, c10, _⟩ := h.cells
  have hsz := fun ty => h.d.size ty
  have HRM := Lib.hid (log_room h.l.l h.l.k.taken (by have := h.l.k.fit; have := h.l.s.ok.top; omega))
  have HKN := Lib.hid (show (keys s.D).length = 0 ↔ keys s.D = [] from List.length_eq_zero_iff)
  obtain ⟨R0, hR0⟩ : ∃ r, ckptE s = r := ⟨_, rfl⟩
  rw [hR0]
  have HR0 := Lib.hid hR0.symm
  clear h hroom hR0
  go_enter Tryz.func58, Tryz.ntmps58
  go_upto_region 1 with fail
  go_cut [20] (fun s5 wx => s5 = .bool (decide (keys s.D = [] ∧ 0 < s.L.room)) ∧ ∃ m, wx = w.drewN m)
  case first =>
    generalize hK : (keys s.D).length = K at *
    by_cases hk : K = 0
    · have hki : ((K : Int) == 0) = true := by simp; omega
      have hkj : (K : Int) = 0 := by omega
      have HK := Lib.hid (HKN.out.1 hk)
      clear hK
      go_wp2_with fail
      refine HRM.out.mono ?_
      rintro e w1 ⟨rfl, m, rfl⟩
      go_wp2_with fail
      go_meet
      refine ⟨?_, m, rfl⟩
      simp [HK.out]
    · have hki : ((K : Int) == 0) = false := by simp; omega
      have hkj : ¬ ((K : Int) = 0) := by omega
      have HK := Lib.hid (show ¬ (keys s.D = []) from fun e => hk (HKN.out.2 e))
      clear hK
      go_wp2_with fail
      go_meet
      refine ⟨?_, 0, rfl⟩
      simp [HK.out]
  case rest =>
    obtain ⟨rfl, m, rfl⟩ := hcut
    have hg1 := grown_drewN (World.grownBy.refl w none) m
    have H1 := Lib.hid (H.out.quiet hg1)
    have HT1 := Lib.hid (Turn.none_ (own := Foot own tb g sb dm wm) hg1)
    clear hg1 c9 c10 hsz HRM HKN
    generalize w.drewN m = w1 at *
    by_cases hq : keys s.D = [] ∧ 0 < s.L.room
    · have hqd : decide (keys s.D = [] ∧ 0 < s.L.room) = true := by simpa using hq
      have HE := Lib.hid (show ckptE s = (0, s) from by unfold ckptE; rw [if_pos hq])
      rw [hqd]
      clear hqd hq
      go_wp2_with fail
      go_ret
      rw [HR0.out.trans HE.out]
      exact ⟨rfl, own, H1.out, HT1.out⟩
    · have hqd : decide (keys s.D = [] ∧ 0 < s.L.room) = false := by simpa using hq
      have HQ := Lib.hid hq
      rw [hqd]
      clear hqd hq
      obtain ⟨c0, _, c2, _⟩ := H1.out.cells
      by_cases hgn : s.x.gn = 1099511627776
      · have hgb : (((s.x.gn : Nat) : Int) == 1099511627776) = true := by simp; omega
        have hgj : ((s.x.gn : Nat) : Int) = 1099511627776 := by omega
        have HE := Lib.hid (show ckptE s = (15, s) from by unfold ckptE; rw [if_neg HQ.out, if_pos hgn])
        clear hgn
        go_wp2_with fail
        go_ret
        rw [HR0.out.trans HE.out]
        exact ⟨rfl, own, H1.out, HT1.out⟩
      · have hgb : (((s.x.gn : Nat) : Int) == 1099511627776) = false := by simp; omega
        have hgj : ¬ (((s.x.gn : Nat) : Int) = 1099511627776) := by omega
        have HE := Lib.hid (show ckptE s = if (flushE s.S).1 = 0 then ckBring s (flushE s.S).2 else ((flushE s.S).1, s.disk (flushE s.S).2) from by unfold ckptE; rw [if_neg HQ.out, if_neg hgn])
        have hmay := mayB_ok H.out.may
        have hgx := (superOk_at hmay 0 (by simp [Sb.l])).2
        simp [Sb.l] at hgx
        have HFL := Lib.hid (disk_flush_all H1.out.l.s.d)
        have HFN := Lib.hid (flushE_n6 s.S)
        have HFV := Lib.hid (fun i => flushE_ver6 s.S i)
        have HE1 := Lib.hid (HR0.out.trans HE.out)
        clear hgn HE hmay
        generalize flushE s.S = R at *
        obtain ⟨e1, T⟩ := R
        dsimp only at *
        go_wp2_with fail
        refine HFL.out.mono ?_
        rintro e w2 ⟨rfl, hd2, ht2⟩
        have H2 := Lib.hid (H1.out.disk hd2 ht2 HFN.out)
        have HT2 := Lib.hid (HT1.out.trans (turnD (tb := tb) (g := g) (sb := sb) (dm := dm) (wm := wm) ht2))
        clear HFL hd2 ht2
        by_cases he1 : e1 = 0
        · subst he1
          have hbr : Calls Tryz.prog 48 #[.pointer (some ⟨sb, 0, none⟩)] w2 (fun e w' => e = .returned (.int .i64 (bringE T s.D).1) ∧ ∃ own', StoAt w' B b tb g sb dm wm own' (s.disk (bringE T s.D).2) ∧ Turn w2 w' (Foot own tb g sb dm wm) (Foot own' tb g sb dm wm)) :=
            sto_bring H2.out (fun i => by have h1 := HFV.out i; have h2 := HROOM.out i; show (T.ver i).length < _; omega)
          have HBR := Lib.hid hbr
          have HE2 := Lib.hid (show R0 = if (bringE T s.D).1 = 0 then ckSave s (bringE T s.D).2 else ((bringE T s.D).1, s.disk (bringE T s.D).2) from HE1.out.trans (if_pos rfl))
          have HBV := Lib.hid (fun i => bringE_ver6 (S := T) H.out.d.ok i)
          clear hbr HE1
          generalize bringE T s.D = R at *
          obtain ⟨e2, T2⟩ := R
          dsimp only at *
          go_wp2_with fail
          refine HBR.out.mono ?_
          rintro e w3 ⟨rfl, own3, h3, ht3⟩
          have H3 := Lib.hid h3
          have HT3 := Lib.hid (HT2.out.trans ht3)
          clear h3 ht3 HBR
          by_cases he2 : e2 = 0
          · subst he2
            have HE3 := Lib.hid (show R0 = ckSave s T2 from HE2.out.trans (if_pos rfl))
            clear HE2
            obtain ⟨_, _, d2, d3, d4, d5, d6, d7, d8, _, _, _⟩ := H3.out.cells
            have hw1 : IntKind.i64.wrap (((s.disk T2).x.gn : Nat) + 1 : Int) = (((s.disk T2).x.gn : Nat) : Int) + 1 := IntWalk.i64_in _ (by show -9223372036854775808 ≤ ((s.x.gn : Nat) : Int) + 1 ∧ ((s.x.gn : Nat) : Int) + 1 ≤ 9223372036854775807; omega)
            have hbn := Blk.new w3 49 #[.int .i64 ((s.disk T2).x.gn : Nat), .int .i64 ((s.disk T2).x.ep : Nat), .int .i64 ((s.disk T2).x.pg : Nat), .int .i64 ((s.disk T2).x.st : Nat), .int .i64 ((s.disk T2).x.ln : Nat), .int .i64 ((s.disk T2).x.hd : Nat), .int .i64 ((s.disk T2).x.sq : Nat)]
            have x0 := hbn.cell 0
            have f0 := hbn.frozen 0
            simp only [List.getElem?_toArray, List.getElem?_cons_zero] at x0
            have hga := World.grownBy_alloc w3 (.cells #[.int .i64 ((((s.disk T2).x.gn : Nat) : Int) + 1), .int .i64 ((s.disk T2).x.ep : Nat), .int .i64 ((s.disk T2).x.pg : Nat), .int .i64 ((s.disk T2).x.st : Nat), .int .i64 ((s.disk T2).x.ln : Nat), .int .i64 ((s.disk T2).x.hd : Nat), .int .i64 ((s.disk T2).x.sq : Nat)] 49) none
            have HGA := Lib.hid hga
            have hB := H3.out.quiet hga
            obtain ⟨_, _, _, _, _, _, _, _, _, y9, _, _⟩ := hB.cells
            have HBN := Lib.hid (Blk.new w3 49 #[.int .i64 ((((s.disk T2).x.gn : Nat) : Int) + 1), .int .i64 ((s.disk T2).x.ep : Nat), .int .i64 ((s.disk T2).x.pg : Nat), .int .i64 ((s.disk T2).x.st : Nat), .int .i64 ((s.disk T2).x.ln : Nat), .int .i64 ((s.disk T2).x.hd : Nat), .int .i64 ((s.disk T2).x.sq : Nat)])
            have HTL := Lib.hid (log_tail hB.l.l)
            clear hga hbn hB
            go_wp2_with fail
            refine HTL.out.mono ?_
            rintro e w4 ⟨rfl, m, rfl⟩
            have hgC := grown_drewN (World.grownBy.refl (w3.alloc (.cells #[.int .i64 ((((s.disk T2).x.gn : Nat) : Int) + 1), .int .i64 ((s.disk T2).x.ep : Nat), .int .i64 ((s.disk T2).x.pg : Nat), .int .i64 ((s.disk T2).x.st : Nat), .int .i64 ((s.disk T2).x.ln : Nat), .int .i64 ((s.disk T2).x.hd : Nat), .int .i64 ((s.disk T2).x.sq : Nat)] 49)) none) m
            have hbC := HBN.out.grown hgC (by simp)
            have hgD := (Lib.grownBy_setB (Lib.grownBy_setB (grown_any_row hgC (some w3.heap.size)) 5 (.int .i64 ((s.L.tail : Nat) : Int))) 6 (.int .i64 ((s.L.seq : Nat) : Int)))
            have HGD := Lib.hid (grownBy_new HGA.out hgD (fun j e => by cases e; exact Nat.le_refl _))
            have y0 := hbC.cell 0; have y1 := hbC.cell 1; have y2 := hbC.cell 2; have y3 := hbC.cell 3; have y4 := hbC.cell 4
            have f5 := hbC.frozen 5; have f6 := hbC.frozen 6
            simp only [List.getElem?_toArray, List.getElem?_cons_zero, List.getElem?_cons_succ] at y0 y1 y2 y3 y4
            clear hgC hbC hgD HTL x0 f0 y9
            go_wp2_with fail
            have hpl : [(((s.disk T2).x.gn : Nat) : Int) + 1, (((s.disk T2).x.ep : Nat) : Int), (((s.disk T2).x.pg : Nat) : Int), (((s.disk T2).x.st : Nat) : Int), (((s.disk T2).x.ln : Nat) : Int), ((s.L.tail : Nat) : Int), ((s.L.seq : Nat) : Int)] = s.past.l := by simp [Sb.l, Sto.past, Sto.disk]
            have hsv : ∀ wx, w3.grownBy wx none → Calls Tryz.prog 97 #[.pointer (some ⟨sb, 0, none⟩), .agg #[.int .i64 ((((s.disk T2).x.gn : Nat) : Int) + 1), .int .i64 ((s.disk T2).x.ep : Nat), .int .i64 ((s.disk T2).x.pg : Nat), .int .i64 ((s.disk T2).x.st : Nat), .int .i64 ((s.disk T2).x.ln : Nat), .int .i64 ((s.L.tail : Nat) : Int), .int .i64 ((s.L.seq : Nat) : Int)]] wx (fun e w' => e = .returned (.int .i64 (saveE T2 s.past.l).1) ∧ ∃ own', Turn wx w' (Foot own3 tb g sb dm wm) (Foot own' tb g sb dm wm) ∧
                (((saveE T2 s.past.l).1 = 0 ∧ ∃ x', x'.l = s.past.l ∧ StoAt w' B b tb g sb dm wm own' { s.disk T2 with S := (saveE T2 s.past.l).2, x := x' }) ∨ ((saveE T2 s.past.l).1 ≠ 0 ∧ StoAt w' B b tb g sb dm wm own' (s.disk (saveE T2 s.past.l).2)))) := fun wx hg => by
              have := sto_save (H3.out.quiet hg) ((((s.disk T2).x.gn : Nat) : Int) + 1) (((s.disk T2).x.ep : Nat) : Int) (((s.disk T2).x.pg : Nat) : Int) (((s.disk T2).x.st : Nat) : Int) (((s.disk T2).x.ln : Nat) : Int) ((s.L.tail : Nat) : Int) ((s.L.seq : Nat) : Int) (fun i => by have h1 := HBV.out i; have h2 := HFV.out i; have h3 := HROOM.out i; show (T2.ver i).length < _; omega)
              unfold Saved at this
              rw [hpl] at this
              exact this
            have HSV := Lib.hid hsv
            have HE4 := Lib.hid (show R0 = if (saveE T2 s.past.l).1 = 0 then (0, { s with S := (saveE T2 s.past.l).2, L := s.L.drop, x := s.past, D := noPgs }) else ((saveE T2 s.past.l).1, s.disk (saveE T2 s.past.l).2) from HE3.out)
            clear hpl hsv HE3
            generalize saveE T2 s.past.l = R at *
            obtain ⟨e3, T3⟩ := R
            dsimp only at HSV HE4
            go_wp2_with fail
            refine (HSV.out _ HGD.out).mono ?_
            rintro e w5 ⟨rfl, own5, ht5, h5⟩
            have HT5 := Lib.hid (HT3.out.trans ((Turn.none_ HGD.out).trans ht5))
            clear ht5 HSV y0 y1 y2 y3 y4 f5 f6 d2 d3 d4 d5 d6 d7 d8
            rcases h5 with ⟨he3, x', hx', h5⟩ | ⟨he3, h5⟩
            · subst he3
              have hxx := Sb.l_inj hx'
              subst hxx
              have HE5 := Lib.hid (HE4.out.trans (if_pos rfl))
              have H5 := Lib.hid h5
              obtain ⟨_, _, _, _, _, _, _, _, _, z9, _, _⟩ := h5.cells
              have HDR := Lib.hid (log_drop h5.l.l)
              clear h5 hx'
              go_wp2_with fail
              refine HDR.out.mono ?_
              rintro e w6 ⟨rfl, hl6, hg6⟩
              have h6 := H5.out.logged hg6 hl6 H5.out.l.k.drop
              have HT6 := Lib.hid (HT5.out.trans (foot_grow h6.2))
              obtain ⟨_, _, _, _, _, _, _, _, _, _, z10, _⟩ := h6.1.cells
              obtain ⟨w7, hrun, hd7, hg7⟩ := h6.1.d.clear 0
              have h7 := h6.1.cleared hg7 hd7
              have H7 := Lib.hid h7
              clear h6 h7 hd7 hg7 hl6 hg6 HDR
              go_wp2_with fail
              go_ret
              rw [HE5.out]
              exact ⟨rfl, own5, H7.out.1, HT6.out.trans H7.out.2⟩
            · have heb : (e3 == 0) = false := by simpa using he3
              have HE5 := Lib.hid (HE4.out.trans (if_neg he3))
              have H5 := Lib.hid h5
              clear he3 h5
              go_wp2_with fail
              go_ret
              rw [HE5.out]
              exact ⟨rfl, own5, H5.out, HT5.out⟩
          · have heb : (e2 == 0) = false := by simpa using he2
            have HE3 := Lib.hid (HE2.out.trans (if_neg he2))
            clear HE2 he2
            go_wp2_with fail
            go_ret
            rw [HE3.out]
            exact ⟨rfl, own3, H3.out, HT3.out⟩
        · have heb : (e1 == 0) = false := by simpa using he1
          have HE3 := Lib.hid (HE1.out.trans (if_neg he1))
          clear HE1 he1
          go_wp2_with fail
          go_ret
          rw [HE3.out]
          exact ⟨rfl, own, H2.out, HT2.out⟩
end
end Go.Proofs.YteaokeiolgjhaaaGreat.Sto
/- Checkpoint, Sync, and a transaction's pages into the log. -/
namespace Go.Proofs.YteaokeiolgjhaaaGreat.Sto
open Go.RowKit Go.Shelf CrcMath CodecMath Mem Crc Codec DiskSpec Dsk Sup Log

theorem putE_n6 (S : St) (L : Lg) (l : List Nat) : (putE S L l).2.n = S.n := by
  unfold putE
  split
  · exact Log.writeE_n _ _ _ _
  · split
    · exact Log.writeE_n _ _ _ _
    · rw [Log.writeE_n, Log.writeE_n]
theorem appendE_n6 (S : St) (L : Lg) (l : List Img) : (appendE S L l).2.1.n = S.n := by
  unfold appendE
  split
  · rfl
  · split
    · rfl
    · split
      · rfl
      · split <;> exact putE_n6 _ _ _
theorem putE_ver6 (S : St) (L : Lg) (l : List Nat) (i : Nat) : ((putE S L l).2.ver i).length ≤ (S.ver i).length + 2 * (l.length / 256) := by
  have h1 := Log.writeE_ver S false (L.st + L.tail : Nat) (l.take (L.ahead l.length)) i
  have h2 : (l.take (L.ahead l.length)).length / 256 ≤ l.length / 256 := Nat.div_le_div_right (by rw [List.length_take]; omega)
  have h3 := Log.writeE_ver (writeE S false (L.st + L.tail : Nat) (l.take (L.ahead l.length))).2 false (L.st : Nat) (l.drop (L.ahead l.length)) i
  have h4 : (l.drop (L.ahead l.length)).length / 256 ≤ l.length / 256 := Nat.div_le_div_right (by rw [List.length_drop]; omega)
  unfold putE
  split
  · omega
  · split
    · show ((writeE S false (L.st + L.tail : Nat) (l.take (L.ahead l.length))).2.ver i).length ≤ _
      omega
    · omega
theorem appendE_ver6 {S : St} {L : Lg} {l : List Img} (hok : ∀ x ∈ l, imgOk x = true) (i : Nat) : ((appendE S L l).2.1.ver i).length ≤ (S.ver i).length + 82 := by
  unfold appendE
  split
  · exact Nat.le_add_right _ _
  · rename_i h1
    have h2 := putE_ver6 S L (recB L.ep L.seq l) i
    rw [recB_len hok (by omega)] at h2
    have h3 : 256 * (1 + l.length) / 256 = 1 + l.length := by omega
    rw [h3] at h2
    split
    · exact Nat.le_add_right _ _
    · split
      · exact Nat.le_add_right _ _
      · split
        · show ((putE S L (recB L.ep L.seq l)).2.ver i).length ≤ _; omega
        · show ((putE S L (recB L.ep L.seq l)).2.ver i).length ≤ _; omega
theorem saveE_ver6 (S : St) (x : Sb) (i : Nat) : ((saveE S x.l).2.ver i).length ≤ (S.ver i).length + 1 := by
  unfold saveE
  split
  · have h := Log.writeE_ver S true ((x.l.getD 0 0).tmod 2) (frame (superB x.l)) i
    rw [frame_length _ (by rw [superB_len _ rfl]; omega)] at h
    exact h
  · exact Nat.le_succ _
theorem add_three {a b c d : Nat} (h1 : b ≤ a) (h2 : c ≤ b + 1024) (h3 : d ≤ c + 1) : d ≤ a + 1025 ∧ c ≤ a + 1025 ∧ b ≤ a + 1025 := by omega
theorem ckSave_S (s : Sto) (T : St) : (ckSave s T).2.S = (saveE T s.past.l).2 := by
  have h : ∀ R : Int × St, (if R.1 = 0 then ((0, { s with S := R.2, L := s.L.drop, x := s.past, D := noPgs }) : Int × Sto) else (R.1, s.disk R.2)).2.S = R.2 := fun R => by split <;> rfl
  rw [ckSave]; exact h (saveE T s.past.l)
theorem ckBring_S (s : Sto) (T : St) : (ckBring s T).2.S = (saveE (bringE T s.D).2 s.past.l).2 ∨ (ckBring s T).2.S = (bringE T s.D).2 := by
  by_cases h : (bringE T s.D).1 = 0
  · left
    rw [ckBring, if_pos h]
    exact ckSave_S _ _
  · right
    rw [ckBring, if_neg h]
    generalize bringE T s.D = R
    rfl
theorem ckptE_S (s : Sto) : (ckptE s).2.S = s.S ∨ (ckptE s).2.S = (ckBring s (flushE s.S).2).2.S ∨ (ckptE s).2.S = (flushE s.S).2 := by
  unfold ckptE
  split
  · exact .inl rfl
  · split
    · exact .inl rfl
    · split
      · exact .inr (.inl rfl)
      · exact .inr (.inr rfl)
theorem ckptE_ver6 {s : Sto} (hok : PgsOk s.D) (i : Nat) : ((ckptE s).2.S.ver i).length ≤ (s.S.ver i).length + 1025 := by
  obtain ⟨k1, k2, k3⟩ := add_three (flushE_ver6 s.S i) (bringE_ver6 (S := (flushE s.S).2) hok i) (saveE_ver6 (bringE (flushE s.S).2 s.D).2 s.past i)
  rcases ckptE_S s with h | h | h
  · rw [h]; exact Nat.le_add_right _ _
  · rw [h]
    rcases ckBring_S s (flushE s.S).2 with h | h
    · rw [h]; exact k1
    · rw [h]; exact k2
  · rw [h]; exact k3
section
variable {w w' wr : World} {B b tb g sb dm : Nat} {wm : Option Nat} {own own' own2 : Nat → Prop} {s : Sto}
set_option maxRecDepth 100000 in
set_option maxHeartbeats 400000 in
theorem sto_checkpoint (h : StoAt w B b tb g sb dm wm own s) (hroom : ∀ i, (s.S.ver i).length < 549755700000) :
    Calls Tryz.prog 21 #[.pointer (some ⟨sb, 0, none⟩)] w (Stood w B b tb g sb dm wm own (checkpointE s)) := by
  have HU := Lib.hid (sto_under h)
  have HC := Lib.hid (sto_ckpt h hroom)
  have H := Lib.hid h
  unfold checkpointE
  clear h hroom
  generalize hq : s.W.isSome = q at *
  cases q with
  | true =>
    go_enter Tryz.func21, Tryz.ntmps21
    go_wp2_with fail
    refine HU.out.mono ?_
    rintro e w1 ⟨rfl, rfl⟩
    go_wp2_with fail
    go_ret
    exact ⟨rfl, own, H.out, Turn.refl _ _⟩
  | false =>
    go_enter Tryz.func21, Tryz.ntmps21
    go_wp2_with fail
    refine HU.out.mono ?_
    rintro e w1 ⟨rfl, rfl⟩
    go_wp2_with fail
    refine HC.out.mono ?_
    rintro e w2 ⟨rfl, own', h2, ht2⟩
    have H2 := Lib.hid h2; have HT2 := Lib.hid ht2
    clear h2 ht2 HC
    go_wp2_with fail
    go_ret
    exact ⟨rfl, own', H2.out, HT2.out⟩
set_option maxRecDepth 100000 in
set_option maxHeartbeats 400000 in
theorem sto_sync (h : StoAt w B b tb g sb dm wm own s) :
    Calls Tryz.prog 39 #[.pointer (some ⟨sb, 0, none⟩)] w (Stood w B b tb g sb dm wm own (syncE s)) := by
  have HU := Lib.hid (sto_under h)
  have HF := Lib.hid (disk_flush_all h.l.s.d)
  obtain ⟨c0, _⟩ := h.cells
  have H := Lib.hid h
  unfold syncE
  clear h
  generalize hq : s.W.isSome = q at *
  cases q with
  | true =>
    go_enter Tryz.func39, Tryz.ntmps39
    go_wp2_with fail
    refine HU.out.mono ?_
    rintro e w1 ⟨rfl, rfl⟩
    go_wp2_with fail
    go_ret
    exact ⟨rfl, own, H.out, Turn.refl _ _⟩
  | false =>
    go_enter Tryz.func39, Tryz.ntmps39
    go_wp2_with fail
    refine HU.out.mono ?_
    rintro e w1 ⟨rfl, rfl⟩
    go_wp2_with fail
    refine HF.out.mono ?_
    rintro e w2 ⟨rfl, hd2, ht2⟩
    have H2 := Lib.hid (H.out.disk hd2 ht2 (flushE_n6 _)); have HT2 := Lib.hid (turnD (tb := tb) (g := g) (sb := sb) (dm := dm) (wm := wm) ht2)
    clear hd2 ht2 HF
    go_wp2_with fail
    go_ret
    exact ⟨rfl, own, H2.out, HT2.out⟩
/-- The log's Append. -/
theorem sto_log (h : StoAt w B b tb g sb dm wm own s) (A : Option Addr) (n c : Nat) (l : List Img) (him : Imgs w (Foot own tb g sb dm wm) A n l) (hnm : n ≤ 1099511627776) (hroom : ∀ i, (s.S.ver i).length < 549755813000) :
    Calls Tryz.prog 105 #[.pointer (some ⟨g, 0, none⟩), .slice A n c] w fun e w' => e = .returned (.int .i64 (logE s l).1) ∧ ∃ own', StoAt w' B b tb g sb dm wm own' (logE s l).2 ∧ Turn w w' (Foot own tb g sb dm wm) (Foot own' tb g sb dm wm) := by
  refine (log_append h.l A n c l (him.weak (fun i _ e => by subst e; exact .inl (.inl (.inr rfl)))) hnm hroom).mono ?_
  rintro e w' ⟨rfl, ⟨own', h1, h2⟩, h3⟩
  exact ⟨rfl, own', h.logs h1 h2 (h3 (.inl h.r)) (appendE_n6 _ _ _), foot_grow h2⟩
set_option maxRecDepth 100000 in
set_option maxHeartbeats 1600000 in
theorem sto_append {U : Pgs} (h : StoAt w B b tb g sb dm wm own s) (hU : s.W = some U) (hroom : ∀ i, (s.S.ver i).length < 549755600000) :
    Calls Tryz.prog 55 #[.pointer (some ⟨sb, 0, none⟩)] w (Stood w B b tb g sb dm wm own (appendWE s (rising U))) := by
  obtain ⟨m, rfl, hm⟩ := h.u U hU
  obtain ⟨_, _, _, _, _, _, _, _, _, _, _, c11⟩ := h.cells
  have HRC := Lib.hid (rising_call hm (fun i hi => h.foot_lt hi))
  have HOK := Lib.hid (rising_ok hm.ok)
  have hN : (rising U).length ≤ 1024 := by rw [rising_len]; have := List.length_filter_le (fun k => (U k).isSome) (List.range 1024); rw [List.length_range] at this; exact this
  have H := Lib.hid h
  have HROOM := Lib.hid hroom
  obtain ⟨R0, hR0⟩ : ∃ r, appendWE s (rising U) = r := ⟨_, rfl⟩
  rw [hR0]
  have HR0 := Lib.hid hR0.symm
  clear h hroom hR0 hm
  generalize rising U = l at *
  go_enter Tryz.func55, Tryz.ntmps55
  go_wp2_with fail
  refine HRC.out.mono ?_
  rintro e w1 ⟨A, c, rfl, hnc, hcm, him, hg1⟩
  have H1 := Lib.hid (H.out.quiet hg1)
  have HT1 := Lib.hid (Turn.none_ (own := Foot own tb g sb dm (some m)) hg1)
  have HIM := Lib.hid him
  have HLG := Lib.hid (sto_log (H.out.quiet hg1) A l.length c l him (by omega) (fun i => by have := HROOM.out i; omega))
  obtain ⟨_, _, _, _, _, _, _, _, _, c9, _, _⟩ := (H.out.quiet hg1).cells
  have HN1 := Lib.hid (show (logE s l).2.D = s.D from rfl)
  have HV1 := Lib.hid (show ∀ i, ((logE s l).2.S.ver i).length ≤ (s.S.ver i).length + 82 from fun i => appendE_ver6 HOK.out i)
  have HE1 := Lib.hid (show R0 = if (logE s l).1 = 15 then retryE l (ckptE (logE s l).2) else logE s l from HR0.out)
  clear him hg1 HRC HR0 c11
  generalize logE s l = R at *
  obtain ⟨e1, s1⟩ := R
  dsimp only at *
  go_wp2_with fail
  refine HLG.out.mono ?_
  rintro e w2 ⟨rfl, own2, h2, ht2⟩
  have H2 := Lib.hid h2
  have HT2 := Lib.hid (HT1.out.trans ht2)
  have HI2 := Lib.hid (HIM.out.turn ht2)
  clear h2 ht2 HLG c9 HIM
  by_cases he1 : e1 = 15
  · subst he1
    have HCK := Lib.hid (sto_ckpt H2.out (fun i => by have := HV1.out i; have := HROOM.out i; omega))
    have HE2 := Lib.hid (show R0 = retryE l (ckptE s1) from HE1.out.trans (if_pos rfl))
    have HV2 := Lib.hid (fun i => ckptE_ver6 (s := s1) H2.out.d.ok i)
    clear HE1
    generalize ckptE s1 = R at *
    obtain ⟨e2, s2⟩ := R
    unfold retryE at HE2
    dsimp only at *
    go_wp2_with fail
    refine HCK.out.mono ?_
    rintro e w3 ⟨rfl, own3, h3, ht3⟩
    have H3 := Lib.hid h3
    have HT3 := Lib.hid (HT2.out.trans ht3)
    have HI3 := Lib.hid (HI2.out.turn ht3)
    dsimp only at H3
    clear h3 ht3 HCK HI2
    by_cases h12 : e2 = 12
    · subst h12
      have HE3 := Lib.hid (show R0 = (11, s2) from HE2.out.trans (if_pos rfl))
      go_wp2_with fail
      go_ret
      rw [HE3.out]
      exact ⟨rfl, own3, H3.out, HT3.out⟩
    · have h12b : (e2 == 12) = false := by simpa using h12
      have HE3 := Lib.hid (HE2.out.trans (if_neg h12))
      clear HE2 h12
      by_cases h0 : e2 = 0
      · subst h0
        have HE4 := Lib.hid (show R0 = logE s2 l from HE3.out.trans (if_pos rfl))
        have HLG := Lib.hid (sto_log H3.out A l.length c l HI3.out (by omega) (fun i => by have h1 := HV2.out i; have h2 := HV1.out i; have h3 := HROOM.out i; omega))
        obtain ⟨_, _, _, _, _, _, _, _, _, c9, _, _⟩ := H3.out.cells
        go_wp2_with fail
        refine HLG.out.mono ?_
        rintro e w4 ⟨rfl, own4, h4, ht4⟩
        have H4 := Lib.hid h4
        have HT4 := Lib.hid (HT3.out.trans ht4)
        clear h4 ht4 HLG c9
        go_wp2_with fail
        go_ret
        rw [HE4.out]
        exact ⟨rfl, own4, H4.out, HT4.out⟩
      · have h0b : (e2 == 0) = false := by simpa using h0
        have HE4 := Lib.hid (HE3.out.trans (if_neg h0))
        clear HE3 h0
        go_wp2_with fail
        go_ret
        rw [HE4.out]
        exact ⟨rfl, own3, H3.out, HT3.out⟩
  · have h15 : (e1 == 15) = false := by simpa using he1
    have HE2 := Lib.hid (HE1.out.trans (if_neg he1))
    clear HE1 he1
    go_wp2_with fail
    go_ret
    rw [HE2.out]
    exact ⟨rfl, own2, H2.out, HT2.out⟩
end
end Go.Proofs.YteaokeiolgjhaaaGreat.Sto
