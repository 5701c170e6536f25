/- The project's calls for pages: PutPage, with imageMayBe. -/
import Derived.Test.YteaokeiolgjhaaaGreatPCodecBits2
import Derived.Test.YteaokeiolgjhaaaGreatPRefPage
namespace Go.Proofs.YteaokeiolgjhaaaGreat.Codec
open Go.RowKit CrcMath CodecMath Mem Crc

theorem pageOk_eq {number kind : Int} {l : List Nat} {n : Nat} (hn : l.length = n) (hl : ∀ x ∈ l, x < 256) : pageOk number kind l = (decide (1 ≤ kind) && decide (kind ≤ 5) && inB number 1023 && decide (n = 240)) := by
  subst hn
  have : (l.all fun x => decide (x < 256)) = true := by rw [List.all_eq_true]; intro x hx; simpa using hl x hx
  rw [pageOk, this, Bool.and_true]
set_option maxRecDepth 100000 in
set_option maxHeartbeats 800000 in
theorem imagemay_any (number kind : Int) (A : Option Addr) (n c : Nat) (l : List Nat) (w : World) (hn : l.length = n) (hl : ∀ x ∈ l, x < 256) :
    Calls Tryz.prog 99 #[.agg #[.int .i64 number, .int .i64 kind, .slice A n c]] w fun e w' =>
      e = .returned (.bool (pageOk number kind l)) ∧ w' = w.alloc (.cells #[.int .i64 number, .int .i64 kind, .slice A n c] 109) := by
  have HOK := Lib.hid (pageOk_eq (number := number) (kind := kind) hn hl)
  generalize pageOk number kind l = ok at *
  clear hn hl
  by_cases h1 : 1 ≤ kind
  · by_cases h2 : kind ≤ 5
    · cases hib : inB number 1023 with
      | false =>
        have HN := Lib.hid (show ok = false by rw [HOK.out, hib]; simp)
        have HIB := Lib.hid hib; clear hib
        go_enter Tryz.func99, Tryz.ntmps99
        go_wp2_with fail
        refine (within_any number _ _).mono ?_
        rintro e w2 ⟨rfl, rfl⟩
        rw [HIB.out]
        go_wp2
        go_ret
        exact ⟨by rw [HN.out]; rfl, rfl⟩
      | true =>
        have HN := Lib.hid (show ok = decide (n = 240) by rw [HOK.out, hib]; simp [h1, h2])
        have HIB := Lib.hid hib; clear hib
        by_cases h4 : n = 240
        · subst h4
          have HN' := Lib.hid (show ok = true by rw [HN.out]; simp)
          go_enter Tryz.func99, Tryz.ntmps99
          go_wp2_with fail
          refine (within_any number _ _).mono ?_
          rintro e w2 ⟨rfl, rfl⟩
          rw [HIB.out]
          go_wp2
          go_ret
          exact ⟨by rw [HN'.out]; rfl, rfl⟩
        · have HN' := Lib.hid (show ok = false by rw [HN.out]; simp [h4])
          have hne : (((n : Nat) : Int) == 240) = false := by simp; omega
          go_enter Tryz.func99, Tryz.ntmps99
          go_wp2_with fail
          refine (within_any number _ _).mono ?_
          rintro e w2 ⟨rfl, rfl⟩
          rw [HIB.out]
          go_wp2
          go_ret
          exact ⟨by rw [HN'.out]; rfl, rfl⟩
    · have HN := Lib.hid (show ok = false by rw [HOK.out]; simp [h2])
      have hd : decide (kind ≤ 5) = false := by simpa using h2
      go_enter Tryz.func99, Tryz.ntmps99
      go_wp2
      go_ret
      exact ⟨by rw [HN.out]; rfl, rfl⟩
  · have HN := Lib.hid (show ok = false by rw [HOK.out]; simp [h1])
    have hd : decide (1 ≤ kind) = false := by simpa using h1
    go_enter Tryz.func99, Tryz.ntmps99
    go_wp2
    go_ret
    exact ⟨by rw [HN.out]; rfl, rfl⟩

theorem tabs_ready {w : World} {b : Nat} (h : Ready w b) : TabS w b none := .inl ⟨h, rfl⟩
theorem bytes_new {w : World} {b p n : Nat} {A : Option Addr} {l : List Nat} (h : Bytes w b A n l) (hp : w.heap.size ≤ p) : Bytes w p A n l := by
  refine ⟨h.1, h.2.1, fun hn => ?_⟩
  obtain ⟨g, o, e, hlt, _, hc⟩ := h.2.2 hn
  exact ⟨g, o, e, hlt, by omega, hc⟩
/-- Bytes that came in are copied into an array from a place on, as one step of a region that draws. -/
theorem run_copy_part {W : World} {h off g o c m N b : Nat} {t : TypeId} {L l : List Nat} (hb : Blk W h t (u8s L).toArray) (hl : Bytes W b (some ⟨g, o, none⟩) N l) (hfit : off + N ≤ L.length) (ty : TypeId) :
    (Builtin.copy_ #[38, 38] ty #[.slice (some ⟨h, off, none⟩) N m, .slice (some ⟨g, o, none⟩) N c]).run Tryz.prog W = .ok (.int .i64 N) (W.setRow h (u8s (lay L off l)).toArray) := by
  have hlen := hl.1
  have := run_copy_row (P := Tryz.prog) W 38 38 ty 5 h off N m ⟨g, o, none⟩ N c (u8s L).toArray t (u8s l) Tryz.underlying38 u8_one hb
    (by rw [u8s_length, hlen]; simp) (fun j v hv => by
      have hj : j < l.length := by
        rcases Nat.lt_or_ge j l.length with h1 | h1
        · exact h1
        · rw [List.getElem?_eq_none (by rw [u8s_length]; exact h1)] at hv; cases hv
      obtain ⟨g', o', e, _, _, hc⟩ := hl.2.2 (by omega)
      simp only [Option.some.injEq, Addr.mk.injEq, and_true] at e
      obtain ⟨rfl, rfl⟩ := e
      have e1 : (⟨g, o, none⟩ : Addr).add j = ⟨g, o + j, none⟩ := by unfold Addr.add; split <;> simp_all
      rw [e1, hc j (by omega), ← hv, u8s_at _ _ hj]) (by rw [u8s_length, hlen]; simp [u8s_length]; omega) (u8s_one l)
  rw [this, u8s_length, hlen, u8s_lay, splice, u8s_length, hlen, List.append_assoc]
  rfl
theorem step_copy_part {ops : Array Oper} {o : Oper} {a : Act} {W : World} {K : Act → World → Prop} {Q : Exit → Act → World → Prop} {E : Prop} (hgd : o.guard = none) (d s : Operand)
    (ho : o.op = .call { callee := .builtin .copy, args := #[d, s], argTypes := #[38, 38] }) (h off g ao c m N b : Nat) (t : TypeId) (L l : List Nat)
    (hd : a.eval d = .slice (some ⟨h, off, none⟩) N m) (hs : a.eval s = .slice (some ⟨g, ao, none⟩) N c) (hb : Blk W h t (u8s L).toArray) (hl : Bytes W b (some ⟨g, ao, none⟩) N l) (hfit : off + N ≤ L.length)
    (hK : K (a.put o.dst (.int .i64 N)) (W.setRow h (u8s (lay L off l)).toArray)) : if Region.wanted o (yielded ops a.tmps) = true then Oper.wp Tryz.prog o a W K Q else E := by
  have hw : Region.wanted o (yielded ops a.tmps) = true := by simp [Region.wanted, hgd]
  rw [if_pos hw]
  have hrun := run_copy_part (c := c) (m := m) hb hl hfit o.type
  unfold Oper.wp
  simp [execOp, ho, resolve, invoke, builtin, hd, hs, hrun, Result.andThen]
  exact hK
end Go.Proofs.YteaokeiolgjhaaaGreat.Codec
