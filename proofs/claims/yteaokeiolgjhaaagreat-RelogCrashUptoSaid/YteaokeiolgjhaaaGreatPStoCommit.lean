/- Commit. -/
import Derived.Test.YteaokeiolgjhaaaGreatPStoCopy
import Derived.Test.YteaokeiolgjhaaaGreatPStoLatest
import Derived.Defers
import Derived.Deep.RegionHeld3
namespace Go.Proofs.YteaokeiolgjhaaaGreat.Sto
open Go.RowKit Go.Maps Go.Shelf CrcMath CodecMath Mem Crc Codec DiskSpec Dsk Sup Log

theorem pgv_agg {w : World} {P : Nat → Prop} {v : Value} {p : Pg} (h : PgV w P v p) : ∃ a A n m, v = .agg #[.int .i64 a, .slice A n m] := by
  obtain ⟨bv, rfl, A, n, c, rfl, _⟩ := h
  exact ⟨_, _, _, _, rfl⟩
theorem pmap_copy {w : World} {P : Nat → Prop} {dm m : Nat} {D U : Pgs} (hd : PMap w P dm D) (hu : PMap w P m U) (hne : dm ≠ m) (hP : P dm) :
    Calls Tryz.prog 56 #[.map (some dm), .map (some m)] w fun e w' => e = .returned (.tuple #[]) ∧ PMap w' P dm (over D U) ∧ w.grownBy w' (some dm) := by
  obtain ⟨fd, hdm, hdv⟩ := hd.m
  obtain ⟨fu, hum, huv⟩ := hu.m
  refine (copy_call hdm hum hne (fun k c hk => ?_)).mono ?_
  · rcases huv k with ⟨_, e⟩ | ⟨p, v, _, e, hv⟩
    · rw [hk] at e; cases e
    · rw [hk] at e; cases e; exact pgv_agg hv
  · rintro e w' ⟨rfl, h1, h2⟩
    have ht : Turn w w' P P := .of_grown h2 (fun j e => by cases e; exact hP)
    refine ⟨rfl, ⟨⟨_, h1, fun k => ?_⟩, hd.ok.over hu.ok⟩, h2⟩
    rcases huv k with ⟨e1, e2⟩ | ⟨p, v, e1, e2, hv⟩
    · rw [e2]
      unfold over
      rw [e1]
      rcases hdv k with ⟨e3, e4⟩ | ⟨p, v, e3, e4, hv⟩
      · exact .inl ⟨e3, e4⟩
      · exact .inr ⟨p, v, e3, e4, hv.turn ht⟩
    · rw [e2]
      unfold over
      rw [e1]
      exact .inr ⟨p, v, rfl, rfl, hv.turn ht⟩
theorem ckptE_W (s : Sto) : (ckptE s).2.W = s.W := by
  have h1 : ∀ (s : Sto) (T : St), (ckSave s T).2.W = s.W := fun s T => by
    have h : ∀ R : Int × St, (if R.1 = 0 then ((0, { s with S := R.2, L := s.L.drop, x := s.past, D := noPgs }) : Int × Sto) else (R.1, s.disk R.2)).2.W = s.W := fun R => by split <;> rfl
    rw [ckSave]; exact h (saveE T s.past.l)
  have h2 : ∀ (s : Sto) (T : St), (ckBring s T).2.W = s.W := fun s T => by
    rw [ckBring]
    generalize bringE T s.D = R
    split
    · exact h1 _ _
    · rfl
  unfold ckptE
  generalize keys s.D = ks
  split
  · rfl
  · split
    · rfl
    · split
      · exact h2 _ _
      · rfl
theorem appendWE_W (s : Sto) (l : List Img) : (appendWE s l).2.W = s.W := by
  have h1 : ∀ s : Sto, (logE s l).2.W = s.W := fun _ => rfl
  unfold appendWE
  generalize hR : logE s l = R
  have hRW : R.2.W = s.W := by rw [← hR]; rfl
  split
  · have hq := ckptE_W R.2
    generalize ckptE R.2 = Q at *
    unfold retryE
    split
    · exact hq.trans hRW
    · split
      · exact (h1 _).trans (hq.trans hRW)
      · exact hq.trans hRW
  · exact hRW
section
variable {w w' wr : World} {B b tb g sb dm : Nat} {wm : Option Nat} {own own' own2 : Nat → Prop} {s : Sto}
set_option maxRecDepth 100000 in
set_option maxHeartbeats 400000 in
theorem abort_deferred (u : FrameMode) (h : StoAt w B b tb g sb dm wm own s) : CallsD Tryz.prog 17 #[.pointer (some ⟨sb, 0, none⟩)] u w fun e u' w' => u' = u ∧ (e = .returned (.tuple #[]) ∧ w' = w.setCell ⟨sb, 11, none⟩ (.map none)) := by
  obtain ⟨_, _, _, _, _, _, _, _, _, _, _, c11⟩ := h.cells
  have f11 := h.fz 11
  clear h
  go_enter_d Tryz.func17, Tryz.ntmps17
  go_wp2
  go_end0
  exact ⟨rfl, rfl⟩
/-- What Commit leaves. -/
def Committed (w : World) (B b tb g sb dm : Nat) (wm : Option Nat) (own : Nat → Prop) (r : Int × Sto) (e : Ending) (w' : World) : Prop :=
  e = .returned (.int .i64 r.1) ∧ ∃ own', StoAt w' B b tb g sb dm none own' r.2 ∧ Turn w w' (Foot own tb g sb dm wm) (Foot own' tb g sb dm none)
set_option maxRecDepth 100000 in
set_option maxHeartbeats 1600000 in
theorem sto_commit (h : StoAt w B b tb g sb dm wm own s) (hroom : ∀ i, (s.S.ver i).length < 549755600000) :
    Calls Tryz.prog 18 #[.pointer (some ⟨sb, 0, none⟩)] w (Committed w B b tb g sb dm wm own (commitE s)) := by
  have hu := sto_under h
  have H := Lib.hid h
  have HROOM := Lib.hid hroom
  obtain ⟨R0, hR0⟩ : ∃ r, commitE s = r := ⟨_, rfl⟩
  rw [hR0]
  unfold commitE at hR0
  cases hW : s.W with
  | none =>
    rw [hW] at hu hR0
    simp only [Option.isSome_none] at hu
    have HU := Lib.hid hu
    clear hu
    have HR0 := Lib.hid hR0.symm
    have HWM := Lib.hid (h.n hW)
    clear hR0 h hroom
    go_enter_defers Tryz.func18, Tryz.ntmps18
    go_wp2_with fail
    refine HU.out.mono ?_
    rintro e w1 ⟨rfl, rfl⟩
    go_wp2_with fail
    refine ⟨_, results_tmp rfl _ _ _, ?_⟩
    rw [HR0.out]
    have hwm := HWM.out
    subst hwm
    exact ⟨rfl, own, H.out, Turn.refl _ _⟩
  | some U =>
    rw [hW] at hu hR0
    simp only [Option.isSome_some] at hu
    have HU := Lib.hid hu
    clear hu
    have HR0 := Lib.hid hR0.symm
    obtain ⟨m, hwm, hm⟩ := h.u U hW
    subst hwm
    obtain ⟨_, _, _, _, _, _, _, _, _, _, _, c11⟩ := h.cells
    have hsz := fun ty => hm.size ty
    have HKN := Lib.hid (show (keys U).length = 0 ↔ keys U = [] from List.length_eq_zero_iff)
    have HAP := Lib.hid (sto_append h hW hroom)
    have HAW := Lib.hid ((appendWE_W s (rising U)).trans hW)
    clear hR0 h hroom hm
    generalize hK : (keys U).length = K at *
    go_enter_defers Tryz.func18, Tryz.ntmps18
    go_wp2_with fail
    refine HU.out.mono ?_
    rintro e w1 ⟨rfl, rfl⟩
    by_cases hk : K = 0
    · have hki : ((K : Int) == 0) = true := by simp; omega
      go_wp2_with fail
      refine leaves_cons (f := 17) (args := #[.pointer (some ⟨sb, 0, none⟩)]) (by simp) (by simp [go_sem]) ?_
      refine (abort_deferred .returning H.out).mono ?_
      rintro e u' w'' ⟨rfl, rfl, rfl⟩
      refine ⟨_, results_tmp rfl _ _ _, ?_⟩
      rw [HR0.out, if_pos (HKN.out.1 hk)]
      exact ⟨rfl, own, H.out.over_.1, H.out.over_.2⟩
    · have hki : ((K : Int) == 0) = false := by simp; omega
      have HR1 := Lib.hid (show R0 = doneE U (appendWE s (rising U)) from HR0.out.trans (if_neg (fun e => hk (HKN.out.2 e))))
      clear HR0
      generalize appendWE s (rising U) = R1 at *
      obtain ⟨e1, s1⟩ := R1
      go_wp2_with fail
      refine HAP.out.mono ?_
      rintro e w2 ⟨rfl, own2, h2, ht2⟩
      have hs1 := HAW.out
      have h2' : StoAt w2 B b tb g sb dm (some m) own2 s1 := h2
      have HT1 := Lib.hid ht2
      have hd2 := h2'.quiet (grown_drew w2 none)
      have HT2 := Lib.hid (ht2.trans (Turn.none_ (grown_drew w2 none)))
      obtain ⟨m', em, hm2⟩ := hd2.u U hs1
      obtain rfl : m = m' := by injection em
      have HC := Lib.hid (pmap_copy hd2.d hm2 (fun e => (hd2.owm m rfl).2.2 e.symm) (.inr (.inr (.inl rfl))))
      have HS2 := Lib.hid h2'
      have H2 := Lib.hid hd2
      have hkeep : ∀ (wx : World) (t : Sto), StoAt wx B b tb g sb dm (some m) own2 t → wx.cell? ⟨sb, 10, none⟩ = some (.map (some dm)) ∧ wx.cell? ⟨sb, 11, none⟩ = some (.map (some m)) := fun wx t ht => by
        obtain ⟨_, _, _, _, _, _, _, _, _, _, c10, c11⟩ := ht.cells
        exact ⟨c10, c11⟩
      have HKEEP := Lib.hid hkeep
      clear h2 h2' ht2 hd2 em hm2 HAP hkeep hs1
      by_cases h0 : e1 = 0
      · subst h0
        have HR2 := Lib.hid (show R0 = (0, { s1 with D := over s1.D U, W := none }) from HR1.out.trans (if_pos rfl))
        clear HR1 c11 hsz
        go_wp2_with fail
        go_region_held3 (fun wx => wx.cell? ⟨sb, 10, none⟩ = some (.map (some dm)) ∧ wx.cell? ⟨sb, 11, none⟩ = some (.map (some m)))
          (first
            | exact HKEEP.out _ _ H2.out
            | exact HKEEP.out _ _ H3.out.1)
          (first
            | (go_at_call 56
               (with_reducible refine HC.out.mono ?_)
               rintro e w3 ⟨rfl, hm3, hg3⟩
               have H3 := Lib.hid (H2.out.cleared hg3 hm3)
               clear hm3 hg3))
        go_wp2_with fail
        refine leaves_cons (f := 17) (args := #[.pointer (some ⟨sb, 0, none⟩)]) (by simp) (by simp [go_sem]) ?_
        refine (abort_deferred .returning H3.out.1).mono ?_
        rintro e u' w'' ⟨rfl, rfl, rfl⟩
        refine ⟨_, results_tmp rfl _ _ _, ?_⟩
        rw [HR2.out]
        exact ⟨rfl, own2, H3.out.1.over_.1, (HT2.out.trans H3.out.2).trans H3.out.1.over_.2⟩
      · have h0b : (e1 == 0) = false := by simpa using h0
        have HR2 := Lib.hid (show R0 = (e1, s1.idle) from HR1.out.trans (if_neg h0))
        clear HR1 h0 c11 hsz
        go_wp2_with fail
        refine leaves_cons (f := 17) (args := #[.pointer (some ⟨sb, 0, none⟩)]) (by simp) (by simp [go_sem]) ?_
        refine (abort_deferred .returning HS2.out).mono ?_
        rintro e u' w'' ⟨rfl, rfl, rfl⟩
        refine ⟨_, results_tmp rfl _ _ _, ?_⟩
        rw [HR2.out]
        exact ⟨rfl, own2, HS2.out.over_.1, HT1.out.trans HS2.out.over_.2⟩
end
end Go.Proofs.YteaokeiolgjhaaaGreat.Sto
