/- The walk over the law CrcLinear, by the contracts of what it calls. -/
import Derived.Test.YtcdkgobajgockaaCrcBytes
import Derived.WalkLawsBesides
import Derived.Deep.RegionLaw
import Derived.Deep.QuietTactic
import Derived.BigQuiet
import Derived.Deep.DeepCutAuto
import Derived.Deep.LoopGhost
namespace Go.Proofs.Ytcdkgobajgockaa.CrcLinear
open Go.ChangeShapes Go.WideShapes Go.ChangeAt Go.RowKit
open Crc CrcMath Mem

set_option maxRecDepth 100000 in
set_option maxHeartbeats 800000 in
theorem walk {H : Type} {enc : TypeId × Value → H} (W : World) (base : Nat) (v0 v1 v2 : Value) (d0 d1 d2 : DataW H) (p0 p1 p2 : List MemPlace)
    (o0 : Value.okWide Try.prog W .any base 22 v0)
    (o1 : Value.okWide Try.prog W .any base 22 v1)
    (o2 : Value.okWide Try.prog W .any base 22 v2)
    (h0 : DataW.Trod enc Try.prog W 0 (fun _ => true) true 22 v0 d0 p0)
    (h1 : DataW.Trod enc Try.prog W 0 (fun _ => true) true 22 v1 d1 p1)
    (h2 : DataW.Trod enc Try.prog W 0 (fun _ => true) true 22 v2 d2 p2)
    (hsz : (DataW.weightsEach Try.prog [22, 22, 22] [d0, d1, d2]).all (· ≤ reachBytes) = true) :
    Calls Try.prog 6 #[v0, v1, v2] W fun e W' => e = .returned (.bool true) ∧ Below W.heap.size W W' := by
  obtain ⟨A0, len0, cap0, a, rfl, ha, hlc0, hcap0, _⟩ := open_bytes o0 h0 hsz (j := 0) rfl rfl
  obtain ⟨A1, len1, cap1, b, rfl, hb, hlc1, hcap1, _⟩ := open_bytes o1 h1 hsz (j := 1) rfl rfl
  obtain ⟨A2, len2, cap2, c, rfl, hc, hlc2, hcap2, _⟩ := open_bytes o2 h2 hsz (j := 2) rfl rfl
  clear o0 h0 o1 h1 o2 h2 hsz
  have HAa := Lib.hid ha; have HB := Lib.hid hb; have HC := Lib.hid hc; clear ha hb hc
  obtain ⟨i0, hi0, hz0, hz1, hz2⟩ := info_parts byte_info
  have hi := Lib.hid hi0; have z0 := Lib.hid hz0; have z1 := Lib.hid hz1; have z2 := Lib.hid hz2; clear hi0 hz0 hz1 hz2
  go_enter Try.func6, Try.ntmps6
  go_wp2_with fail
  refine (new_any _).mono ?_
  rintro e wa ⟨rfl, rfl⟩
  go_wp2_with fail
  have hT : Tab (W.alloc (.cells zeroCs 46)) W.heap.size := .inl ⟨_, Blk.new _ _ _, fresh_zero⟩
  have hga : W.grownBy (W.alloc (.cells zeroCs 46)) (some W.heap.size) := World.grownBy_alloc W (.cells zeroCs 46) _
  refine (known_any _ _ hT (by simp)).mono ?_
  clear hT
  rintro e wb ⟨rfl, hgb, hrb⟩
  have hG := hga.trans hgb
  have HAb := Lib.hid (HAa.out.keep hG)
  have HBb := Lib.hid (HB.out.keep hG)
  have HCb := Lib.hid (HC.out.keep hG)
  have HRb := Lib.hid hrb; clear hrb
  have hszb : W.heap.size < wb.heap.size := by have := hgb.size; simp at this; omega
  clear hgb hga
  go_upto_region 4 with fail
  go_cut [8] (fun s8 wx => ∃ n : Nat, n ≤ len0 ∧ n ≤ len1 ∧ n ≤ len2 ∧ s8 = .int .i64 n ∧ wx = wb)
  case first =>
    go_wp2_with fail
    all_goals (go_meet; exact ⟨_, by omega, by omega, by omega, rfl, rfl⟩)
  case rest =>
    obtain ⟨n, hn0, hn1, hn2, rfl, rfl⟩ := hcut
    go_wp2_with fail
    go_loopw [9, 10] (fun v i wr => ∃ k : Nat, k ≤ n ∧ i = .int .i64 k ∧ wc.grownBy wr (some W.heap.size) ∧ Ready wr W.heap.size ∧ wr.ownsRow wc.heap.size 5 1 v k (u8s (X3 (a.take k) (b.take k) (c.take k)))) (fun _ i _ => n - (intOf i).toNat)
    case atStart => exact ⟨0, by omega, rfl, World.grownBy.refl _ _, HRb.out, by simpa [X3, u8s] using World.ownsRow_nil _ _ _ _⟩
    case round =>
      obtain ⟨k, hk, rfl, hgr, hrr, hown⟩ := hrel
      by_cases hlt : k < n
      · obtain ⟨g0, q0, rfl, c0, l0, t0⟩ := (HAb.out.keep hgr).at_ k (by omega)
        obtain ⟨g1, q1, rfl, c1, l1, t1⟩ := (HBb.out.keep hgr).at_ k (by omega)
        obtain ⟨g2, q2, rfl, c2, l2, t2⟩ := (HCb.out.keep hgr).at_ k (by omega)
        have hx3 := X3_snoc (a.getD k 0) (b.getD k 0) (c.getD k 0) (a.take k) (b.take k) (c.take k)
          (by have h1 := HAb.out.len; have h2 := HBb.out.len; simp only [List.length_take]; omega) (by have h1 := HBb.out.len; have h2 := HCb.out.len; simp only [List.length_take]; omega)
        rw [← t0, ← t1, ← t2] at hx3
        clear t0 t1 t2
        have HX := Lib.hid hx3; clear hx3
        generalize a.getD k 0 = x at *
        generalize b.getD k 0 = y at *
        generalize c.getD k 0 = z at *
        have e1 := u8_xor_nat x y l0 l1
        have e2 := u8_xor_nat (x ^^^ y) z (Nat.xor_lt_two_pow (n := 8) l0 l1) l2
        have HO := Lib.hid hown; clear hown
        have HGR := Lib.hid hgr; have HRR := Lib.hid hrr; clear hgr hrr
        have b0 : (k : Int) < len0 := by omega
        have b1 : (k : Int) < len1 := by omega
        have b2 : (k : Int) < len2 := by omega
        have bk : (0 : Int) ≤ k := by omega
        go_wp2_with fail
        go_region_law (first
          | (refine step_append_any _ rfl (.tmp 27) (.tmp 42) _ rfl wc.heap.size 5 i0 _ 1 1 Try.underlying22 hi.out z0.out z1.out z2.out rfl (by omega) u9 k _ (by simp [Act.eval]) (HO.out.alloc _) _ _ 1 1 _ (by simp [Act.eval]) (reads_new _ _) (fun u hu => by simp at hu; subst hu; rfl) (by simp only [maxLen]; omega) (by omega) (by have := HGR.out.size; simp; omega) ?_
             intro v' w' hown' hg' hat'))
        all_goals go_wp2_with fail
        all_goals
          have hgx := grownBy_new (row := some W.heap.size) (HGR.out.trans (only_drew (World.grownBy_alloc wr (.cells #[.int .u8 ((x ^^^ y ^^^ z : Nat) : Int)] 5) _))) hg' (own_base HO.out)
          have hrx := (HRR.out.keep (only_drew (World.grownBy_alloc wr (.cells #[.int .u8 ((x ^^^ y ^^^ z : Nat) : Int)] 5) none)) (by simp)).keep (row := u9.ownBlock) hg' (fun e => by have := own_base HO.out _ e.symm; omega)
          go_roundw
          case rel => exact ⟨k + 1, by omega, by go_num, hgx, hrx, by rw [HX.out, u8s_append]; exact hown'⟩
          case measure => simp [intOf]; omega
      · obtain rfl : k = n := by omega
        have hlenA := HAb.out.len
        have hlenB := HBb.out.len
        have hlenC := HCb.out.len
        have hrow := own_base hown
        obtain ⟨A, q, hv, hall⟩ := bytes_of_own (l := X3 (a.take k) (b.take k) (c.take k)) (b := W.heap.size) hown (fun e => by have := hrow _ e; omega)
          (X3_lt _ _ _ (fun x hx => HAb.out.lt x (List.mem_of_mem_take hx)) (fun x hx => HBb.out.lt x (List.mem_of_mem_take hx)) (fun x hx => HCb.out.lt x (List.mem_of_mem_take hx)))
        subst hv
        have HALL := Lib.hid hall; have HRR := Lib.hid hrr; have HGR := Lib.hid hgr; clear hall hrr hgr hown hrow
        have TA := Lib.hid ((HAb.out.keep HGR.out).take_ k hn0)
        have TB := Lib.hid ((HBb.out.keep HGR.out).take_ k hn1)
        have TC := Lib.hid ((HCb.out.keep HGR.out).take_ k hn2)
        have hfin := M_three (a.take k) (b.take k) (c.take k) (by simp only [List.length_take]; omega) (by simp only [List.length_take]; omega) TA.out.lt TB.out.lt TC.out.lt HALL.out.lt
        have HF := Lib.hid hfin; clear hfin hlenA hlenB hlenC
        have s0 : (k : Int) ≤ cap0 := by omega
        have s1 : (k : Int) ≤ cap1 := by omega
        have s2 : (k : Int) ≤ cap2 := by omega
        have hk0 : (0 : Int) ≤ k := by omega
        go_wp2_with fail
        go_quiet ((first
          | (go_at_call_of 9 (Value.slice A0 k cap0); exact Calls.quiet_of_same (sum_ready _ _ _ _ _ _ (HRR.out.drewN _) (TA.out.drewN _) (by omega)))
          | (go_at_call_of 9 (Value.slice A1 k cap1); exact Calls.quiet_of_same (sum_ready _ _ _ _ _ _ (HRR.out.drewN _) (TB.out.drewN _) (by omega)))
          | (go_at_call_of 9 (Value.slice A2 k cap2); exact Calls.quiet_of_same (sum_ready _ _ _ _ _ _ (HRR.out.drewN _) (TC.out.drewN _) (by omega)))
          | (go_at_call_of 9 (Value.slice A k q); exact Calls.quiet_of_same (sum_ready _ _ _ _ _ _ (HRR.out.drewN _) (HALL.out.drewN _) (by omega)))))
        have e1 := u32_xor_nat _ _ (M_lt 0 (a.take k)) (M_lt 0 (b.take k))
        have e2 := u32_xor_nat _ _ (Nat.xor_lt_two_pow (n := 32) (M_lt 0 (a.take k)) (M_lt 0 (b.take k))) (M_lt 0 (c.take k))
        rw [HF.out] at e2
        go_wp2
        go_ret
        refine ⟨?_, (below_of_grown (hG.trans HGR.out) (Nat.le_refl _) (fun j hj => by cases hj; exact Nat.le_refl _)).trans ?_⟩
        · simp
          rw [e1, e2]
        · exact ⟨rfl, rfl, rfl, Nat.le_refl _, fun _ _ => rfl⟩
end Go.Proofs.Ytcdkgobajgockaa.CrcLinear
