/- The document's disk: there, fails, done, last. -/
import Derived.Test.YtkfijgdbaihhpaaRefLay
namespace Go.Proofs.Ytkfijgdbaihhpaa.Dsk
open Go.RowKit Mem Crc DiskSpec

set_option maxHeartbeats 1600000 in
theorem ref_there {w : World} {B r bl c : Nat} {dv vv : Nat → Value} {vs : Nat → List Value} {S : St} {own : Nat → Prop} (h : RLay w B r bl c dv vv vs S own) (at_ count : Int)
    (h1 : -9223372036854775808 ≤ at_ ∧ at_ ≤ 9223372036854775807) (_ : -9223372036854775808 ≤ count ∧ count ≤ 9223372036854775807) :
    Calls Try.prog 38 #[.pointer (some ⟨r, 0, none⟩), .int .i64 at_, .int .i64 count] w fun e w' => e = .returned (.bool (S.has at_ count)) ∧ w = w' := by
  have htop := h.ok.top
  have hpos := h.ok.pos
  have hc := h.rc
  clear h
  have hhas : S.has at_ count = (decide (0 ≤ at_) && (decide (1 ≤ count) && decide (count ≤ S.n - at_))) := rfl
  generalize S.has at_ count = q at *
  generalize S.n = n at *
  by_cases h0 : 0 ≤ at_
  · by_cases h3 : 1 ≤ count
    · by_cases h4 : at_ < n
      · have HH := Lib.hid (show q = decide (count ≤ (n : Int) - at_) by simp [hhas, h0, h3]); clear hhas
        have hw : IntKind.i64.wrap ((n : Int) - at_) = (n : Int) - at_ := IntWalk.i64_in _ (by omega)
        go_enter Try.func38, Try.ntmps38
        go_wp2
        go_ret
        exact ⟨by rw [HH.out]; rfl, rfl⟩
      · have HH := Lib.hid (show q = false by simp [hhas, h0, h3]; omega); clear hhas
        go_enter Try.func38, Try.ntmps38
        go_wp2
        go_ret
        exact ⟨by rw [HH.out]; rfl, rfl⟩
    · have HH := Lib.hid (show q = false by simp [hhas, h0, h3]); clear hhas
      go_enter Try.func38, Try.ntmps38
      go_wp2
      go_ret
      exact ⟨by rw [HH.out]; rfl, rfl⟩
  · have HH := Lib.hid (show q = false by simp [hhas, h0]); clear hhas
    go_enter Try.func38, Try.ntmps38
    go_wp2
    go_ret
    exact ⟨by rw [HH.out]; rfl, rfl⟩

set_option maxHeartbeats 800000 in
theorem ref_fails1 {w : World} {B r bl c : Nat} {dv vv : Nat → Value} {vs : Nat → List Value} {S : St} {own : Nat → Prop} (h : RLay w B r bl c dv vv vs S own) :
    Calls Try.prog 39 #[.pointer (some ⟨r, 0, none⟩), .int .i64 1] w fun e w' => e = .returned (.bool (decide (S.f1 = 1))) ∧ w.grownBy w' (some r) ∧ RLay w' B r bl c dv vv vs { S with f1 := S.f1 - 1 } own := by
  have hc := h.r2
  have hf := h.rfz 2
  have hle := h.ok.f1
  by_cases h0 : S.f1 = 0
  · have HE := Lib.hid (show decide (S.f1 = 1) = false by rw [h0]; rfl)
    have HS := Lib.hid (show ({ S with f1 := S.f1 - 1 } : St) = S from St.ext' rfl rfl rfl (by show S.f1 - 1 = S.f1; omega) rfl rfl rfl)
    have H := Lib.hid h; clear h
    rw [HE.out, HS.out]
    rw [h0] at hc
    clear hle h0 HE HS
    go_enter Try.func39, Try.ntmps39
    go_wp2
    go_ret
    exact ⟨rfl, World.grownBy.refl _ _, H.out⟩
  · have hx : ((S.f1 - 1 : Nat) : Int) = (S.f1 : Int) - 1 := by omega
    have hbk := h.blk.set_ 2 (.int .i64 (S.f1 - 1 : Int))
    have H := Lib.hid (h.struct (T := { S with f1 := S.f1 - 1 }) (Lib.grownBy_setB (World.grownBy.refl w (some r)) 2 (.int .i64 (S.f1 - 1 : Int))) { h.ok with f1 := by show S.f1 - 1 ≤ _; omega } rfl rfl rfl (by rw [hx]; exact hbk))
    clear h hbk
    have HX := Lib.hid (show ((S.f1 : Int) - 1 == 0) = decide (S.f1 = 1) by rw [Bool.eq_iff_iff]; simp; omega)
    clear hx
    generalize ({ S with f1 := S.f1 - 1 } : St) = T at *
    generalize decide (S.f1 = 1) = q at *
    generalize S.f1 = m at *
    have hm : (m : Int) ≠ 0 := by omega
    have hw : IntKind.i64.wrap ((m : Int) - 1) = (m : Int) - 1 := IntWalk.i64_in _ (by omega)
    go_enter Try.func39, Try.ntmps39
    go_wp2_with fail
    go_region
    go_wp2
    go_ret
    exact ⟨by rw [← HX.out]; rfl, only_drew (Lib.grownBy_setB (World.grownBy.refl _ _) _ _), H.out.drew⟩

set_option maxHeartbeats 800000 in
theorem ref_fails2 {w : World} {B r bl c : Nat} {dv vv : Nat → Value} {vs : Nat → List Value} {S : St} {own : Nat → Prop} (h : RLay w B r bl c dv vv vs S own) :
    Calls Try.prog 39 #[.pointer (some ⟨r, 0, none⟩), .int .i64 2] w fun e w' => e = .returned (.bool (decide (S.f2 = 1))) ∧ w.grownBy w' (some r) ∧ RLay w' B r bl c dv vv vs { S with f2 := S.f2 - 1 } own := by
  have hc := h.r3
  have hf := h.rfz 3
  have hle := h.ok.f2
  by_cases h0 : S.f2 = 0
  · have HE := Lib.hid (show decide (S.f2 = 1) = false by rw [h0]; rfl)
    have HS := Lib.hid (show ({ S with f2 := S.f2 - 1 } : St) = S from St.ext' rfl rfl rfl rfl (by show S.f2 - 1 = S.f2; omega) rfl rfl)
    have H := Lib.hid h; clear h
    rw [HE.out, HS.out]
    rw [h0] at hc
    clear hle h0 HE HS
    go_enter Try.func39, Try.ntmps39
    go_wp2
    go_ret
    exact ⟨rfl, World.grownBy.refl _ _, H.out⟩
  · have hx : ((S.f2 - 1 : Nat) : Int) = (S.f2 : Int) - 1 := by omega
    have hbk := h.blk.set_ 3 (.int .i64 (S.f2 - 1 : Int))
    have H := Lib.hid (h.struct (T := { S with f2 := S.f2 - 1 }) (Lib.grownBy_setB (World.grownBy.refl w (some r)) 3 (.int .i64 (S.f2 - 1 : Int))) { h.ok with f2 := by show S.f2 - 1 ≤ _; omega } rfl rfl rfl (by rw [hx]; exact hbk))
    clear h hbk
    have HX := Lib.hid (show ((S.f2 : Int) - 1 == 0) = decide (S.f2 = 1) by rw [Bool.eq_iff_iff]; simp; omega)
    clear hx
    generalize ({ S with f2 := S.f2 - 1 } : St) = T at *
    generalize decide (S.f2 = 1) = q at *
    generalize S.f2 = m at *
    have hm : (m : Int) ≠ 0 := by omega
    have hw : IntKind.i64.wrap ((m : Int) - 1) = (m : Int) - 1 := IntWalk.i64_in _ (by omega)
    go_enter Try.func39, Try.ntmps39
    go_wp2_with fail
    go_region
    go_wp2
    go_ret
    exact ⟨by rw [← HX.out]; rfl, only_drew (Lib.grownBy_setB (World.grownBy.refl _ _) _ _), H.out.drew⟩

set_option maxHeartbeats 800000 in
theorem ref_fails3 {w : World} {B r bl c : Nat} {dv vv : Nat → Value} {vs : Nat → List Value} {S : St} {own : Nat → Prop} (h : RLay w B r bl c dv vv vs S own) :
    Calls Try.prog 39 #[.pointer (some ⟨r, 0, none⟩), .int .i64 3] w fun e w' => e = .returned (.bool (decide (S.f3 = 1))) ∧ w.grownBy w' (some r) ∧ RLay w' B r bl c dv vv vs { S with f3 := S.f3 - 1 } own := by
  have hc := h.r4
  have hf := h.rfz 4
  have hle := h.ok.f3
  by_cases h0 : S.f3 = 0
  · have HE := Lib.hid (show decide (S.f3 = 1) = false by rw [h0]; rfl)
    have HS := Lib.hid (show ({ S with f3 := S.f3 - 1 } : St) = S from St.ext' rfl rfl rfl rfl rfl (by show S.f3 - 1 = S.f3; omega) rfl)
    have H := Lib.hid h; clear h
    rw [HE.out, HS.out]
    rw [h0] at hc
    clear hle h0 HE HS
    go_enter Try.func39, Try.ntmps39
    go_wp2
    go_ret
    exact ⟨rfl, World.grownBy.refl _ _, H.out⟩
  · have hx : ((S.f3 - 1 : Nat) : Int) = (S.f3 : Int) - 1 := by omega
    have hbk := h.blk.set_ 4 (.int .i64 (S.f3 - 1 : Int))
    have H := Lib.hid (h.struct (T := { S with f3 := S.f3 - 1 }) (Lib.grownBy_setB (World.grownBy.refl w (some r)) 4 (.int .i64 (S.f3 - 1 : Int))) { h.ok with f3 := by show S.f3 - 1 ≤ _; omega } rfl rfl rfl (by rw [hx]; exact hbk))
    clear h hbk
    have HX := Lib.hid (show ((S.f3 : Int) - 1 == 0) = decide (S.f3 = 1) by rw [Bool.eq_iff_iff]; simp; omega)
    clear hx
    generalize ({ S with f3 := S.f3 - 1 } : St) = T at *
    generalize decide (S.f3 = 1) = q at *
    generalize S.f3 = m at *
    have hm : (m : Int) ≠ 0 := by omega
    have hw : IntKind.i64.wrap ((m : Int) - 1) = (m : Int) - 1 := IntWalk.i64_in _ (by omega)
    go_enter Try.func39, Try.ntmps39
    go_wp2_with fail
    go_region
    go_wp2
    go_ret
    exact ⟨by rw [← HX.out]; rfl, only_drew (Lib.grownBy_setB (World.grownBy.refl _ _) _ _), H.out.drew⟩

set_option maxHeartbeats 800000 in
theorem ref_done {w : World} {B r bl c : Nat} {dv vv : Nat → Value} {vs : Nat → List Value} {S : St} {own : Nat → Prop} (h : RLay w B r bl c dv vv vs S own) :
    Calls Try.prog 44 #[.pointer (some ⟨r, 0, none⟩)] w fun e w' => e = .returned (.tuple #[]) ∧ w.grownBy w' (some r) ∧ RLay w' B r bl c dv vv vs S.done own := by
  have hc := h.r5
  have hf := h.rfz 5
  have h0 := h.ok.l0
  have h1 := h.ok.l1
  by_cases hp : 0 < S.left
  · have hbk := h.blk.set_ 5 (.int .i64 (S.left - 1 : Int))
    have ht : S.left - 1 = tick S.left := by unfold tick; rw [if_pos hp]
    have H := Lib.hid (h.struct (T := S.done) (Lib.grownBy_setB (World.grownBy.refl w (some r)) 5 (.int .i64 (S.left - 1 : Int))) h.ok.done rfl rfl rfl (by
      rw [ht] at hbk ⊢
      exact hbk))
    clear h hbk ht
    generalize S.done = T at *
    generalize S.left = m at *
    have hw : IntKind.i64.wrap (m - 1) = m - 1 := IntWalk.i64_in _ (by omega)
    go_enter Try.func44, Try.ntmps44
    go_wp2
    go_end0
    exact ⟨rfl, Lib.grownBy_setB (World.grownBy.refl _ _) _ _, H.out⟩
  · have HS := Lib.hid (show S.done = S from St.ext' rfl rfl rfl rfl rfl rfl (by show tick S.left = S.left; simp [tick, hp]))
    have H := Lib.hid h; clear h
    rw [HS.out]
    clear HS
    generalize S.left = m at *
    have hd : decide (0 < m) = false := by simp; omega
    go_enter Try.func44, Try.ntmps44
    go_wp2
    go_end0
    exact ⟨rfl, World.grownBy.refl _ _, H.out⟩
/-- What a sector reads as, in the document's disk: a slice of its own. -/
theorem RLay.now {w : World} {B r bl c : Nat} {dv vv : Nat → Value} {vs : Nat → List Value} {S : St} {own : Nat → Prop} (h : RLay w B r bl c dv vv vs S own) {i : Nat} (hi : i < S.n) : ∃ A m cap, vv i = .slice A m cap ∧ m = (S.ver i).length ∧ m ≤ cap ∧ cap ≤ maxLen ∧ (m = 0 → S.now i = S.dur i) ∧
    (0 < m → ∃ g u, A = some ⟨g, 0, none⟩ ∧ g < w.heap.size ∧ own g ∧ w.cell? ⟨g, m - 1, none⟩ = some u ∧ BytesAt w own u (S.now i)) := by
  have hp := h.part i hi
  obtain ⟨A, cap, e, h1, h2, _⟩ := hp.row.shape
  refine ⟨A, _, cap, e, rfl, h1, h2, fun h0 => St.now_nil (List.length_eq_zero_iff.1 h0), fun h0 => ?_⟩
  obtain ⟨g, cap', e', _, hlt, _, _, hc⟩ := hp.row.reads h0
  rw [e] at e'
  simp only [Value.slice.injEq] at e'
  obtain ⟨rfl, _, _⟩ := e'
  have hne : S.ver i ≠ [] := List.length_pos_iff.1 h0
  have hlast : (S.ver i)[(S.ver i).length - 1]? = some (S.now i) := by
    rw [St.now, List.getLastD_eq_getLast?, ← List.getLast?_eq_getElem?, List.getLast?_eq_some_getLast hne]; rfl
  obtain ⟨u, hu1, hu2⟩ := hp.vers _ _ hlast
  exact ⟨g, u, rfl, hlt, hp.mine g (by rw [e]; rfl), hc _ u hu1, hu2⟩

set_option maxRecDepth 100000 in
set_option maxHeartbeats 1600000 in
theorem ref_last {w : World} {B r bl c : Nat} {dv vv : Nat → Value} {vs : Nat → List Value} {S : St} {own : Nat → Prop} (h : RLay w B r bl c dv vv vs S own) (i : Nat) (hi : i < S.n) :
    Calls Try.prog 40 #[.pointer (some ⟨r, 0, none⟩), .int .i64 (i : Nat)] w fun e w' => ∃ v, e = .returned v ∧ BytesAt w' own v (S.now i) ∧ w.grownBy w' none := by
  have htop := h.ok.top
  have hcap := h.cap
  have HG := Lib.hid (World.grownBy_alloc w (.cells #[dv i, vv i] 65) none)
  obtain ⟨A, m, cap, hvv, hm, hmc, hcm, hz, hp⟩ := h.now hi
  have hc := h.rc
  have hd := h.cd hi
  have hv := h.cv hi
  obtain ⟨gd, cd, hdi⟩ : ∃ gd cd, dv i = .slice (some ⟨gd, 0, none⟩) 256 cd := by obtain ⟨g, c', _, _, e, _⟩ := (h.part i hi).dur; exact ⟨g, c', e⟩
  have HKEEP := Lib.hid (fun w' (hg : w.grownBy w' none) v x (hb : BytesAt w own v x) => (hb.keep (fun _ h => h) (fun g _ _ ho _ => hg.block g (h.lt g ho) (by simp)) : BytesAt w' own v x))
  have hby := (h.part i hi).dur
  rw [hvv] at hv HG
  rw [hdi] at hd HG hby
  by_cases h0 : m = 0
  · have hnow := hz h0
    rw [← hnow] at hby
    have HBW := Lib.hid hby
    subst h0
    clear hp hby hz hm hnow hvv h
    generalize S.n = n at *
    go_enter Try.func40, Try.ntmps40
    go_wp2
    go_ret
    exact ⟨_, rfl, HKEEP.out _ HG.out _ _ HBW.out, HG.out⟩
  · obtain ⟨g, u, rfl, hg1, hg2, hg3, hg4⟩ := hp (by omega)
    have HBW := Lib.hid hg4
    obtain ⟨k, rfl⟩ : ∃ k, m = k + 1 := ⟨m - 1, by omega⟩
    rw [Nat.add_sub_cancel] at hg3
    have hwk : IntKind.i64.wrap (k : Int) = (k : Int) := IntWalk.i64_in _ (by unfold maxLen at hcm; omega)
    have hgn := Below.heap_alloc w (.cells #[.slice (some ⟨gd, 0, none⟩) 256 cd, .slice (some ⟨g, 0, none⟩) (k + 1) cap] 65) g hg1
    clear hp hby hz hm hvv h hg4
    generalize S.n = n at *
    go_enter Try.func40, Try.ntmps40
    go_wp2
    go_ret
    exact ⟨_, rfl, HKEEP.out _ HG.out _ _ HBW.out, HG.out⟩
end Go.Proofs.Ytkfijgdbaihhpaa.Dsk
