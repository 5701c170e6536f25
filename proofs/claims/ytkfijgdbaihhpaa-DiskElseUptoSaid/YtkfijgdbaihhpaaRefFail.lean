/- The document's disk: Fail, Cut, Dirty, Read, Flush. -/
import Derived.Test.YtkfijgdbaihhpaaRefSmall
import Derived.Test.YtkfijgdbaihhpaaDiskFail
import Derived.Test.YtkfijgdbaihhpaaDiskDirty
import Derived.Deep.RegionHeld3
namespace Go.Proofs.Ytkfijgdbaihhpaa.Dsk
open Go.RowKit Mem Crc DiskSpec

set_option maxHeartbeats 800000 in
theorem ref_fail_no (p : Value) (kind n : Int) (w : World) (hb : failBad kind n) :
    Calls Try.prog 30 #[p, .int .i64 kind, .int .i64 n] w fun e w' => e = .returned (.int .i64 1) ∧ w = w' := by
  by_cases h1 : kind < 1
  · go_enter Try.func30, Try.ntmps30
    go_wp2
    go_ret
    exact ⟨rfl, rfl⟩
  by_cases h2 : 3 < kind
  · go_enter Try.func30, Try.ntmps30
    go_wp2
    go_ret
    exact ⟨rfl, rfl⟩
  by_cases h3 : n < 1
  · go_enter Try.func30, Try.ntmps30
    go_wp2
    go_ret
    exact ⟨rfl, rfl⟩
  · have h4 : 1099511627776 < n := by rcases hb with h | h | h | h <;> omega
    clear hb
    go_enter Try.func30, Try.ntmps30
    go_wp2
    go_ret
    exact ⟨rfl, rfl⟩

set_option maxHeartbeats 800000 in
theorem ref_fail1 {w : World} {B r bl c : Nat} {dv vv : Nat → Value} {vs : Nat → List Value} {S : St} {own : Nat → Prop} (h : RLay w B r bl c dv vv vs S own) (n : Nat) (h1 : 1 ≤ n) (h2 : n ≤ 1099511627776) :
    Calls Try.prog 30 #[.pointer (some ⟨r, 0, none⟩), .int .i64 1, .int .i64 (n : Nat)] w fun e w' => e = .returned (.int .i64 0) ∧ w.grownBy w' (some r) ∧ RLay w' B r bl c dv vv vs { S with f1 := n } own := by
  have hc := h.r2
  have hf := h.rfz 2
  have H := Lib.hid (h.struct (T := { S with f1 := n }) (Lib.grownBy_setB (World.grownBy.refl w (some r)) 2 (.int .i64 (n : Nat))) { h.ok with f1 := h2 } rfl rfl rfl (h.blk.set_ 2 (.int .i64 (n : Nat))))
  clear h
  have hd1 : decide ((n : Int) < 1) = false := by simp; omega
  have hd2 : decide (1099511627776 < (n : Int)) = false := by simp; omega
  go_enter Try.func30, Try.ntmps30
  go_wp2
  go_ret
  exact ⟨rfl, Lib.grownBy_setB (World.grownBy.refl _ _) _ _, H.out⟩

set_option maxHeartbeats 800000 in
theorem ref_fail2 {w : World} {B r bl c : Nat} {dv vv : Nat → Value} {vs : Nat → List Value} {S : St} {own : Nat → Prop} (h : RLay w B r bl c dv vv vs S own) (n : Nat) (h1 : 1 ≤ n) (h2 : n ≤ 1099511627776) :
    Calls Try.prog 30 #[.pointer (some ⟨r, 0, none⟩), .int .i64 2, .int .i64 (n : Nat)] w fun e w' => e = .returned (.int .i64 0) ∧ w.grownBy w' (some r) ∧ RLay w' B r bl c dv vv vs { S with f2 := n } own := by
  have hc := h.r3
  have hf := h.rfz 3
  have H := Lib.hid (h.struct (T := { S with f2 := n }) (Lib.grownBy_setB (World.grownBy.refl w (some r)) 3 (.int .i64 (n : Nat))) { h.ok with f2 := h2 } rfl rfl rfl (h.blk.set_ 3 (.int .i64 (n : Nat))))
  clear h
  have hd1 : decide ((n : Int) < 1) = false := by simp; omega
  have hd2 : decide (1099511627776 < (n : Int)) = false := by simp; omega
  go_enter Try.func30, Try.ntmps30
  go_wp2
  go_ret
  exact ⟨rfl, Lib.grownBy_setB (World.grownBy.refl _ _) _ _, H.out⟩

set_option maxHeartbeats 800000 in
theorem ref_fail3 {w : World} {B r bl c : Nat} {dv vv : Nat → Value} {vs : Nat → List Value} {S : St} {own : Nat → Prop} (h : RLay w B r bl c dv vv vs S own) (n : Nat) (h1 : 1 ≤ n) (h2 : n ≤ 1099511627776) :
    Calls Try.prog 30 #[.pointer (some ⟨r, 0, none⟩), .int .i64 3, .int .i64 (n : Nat)] w fun e w' => e = .returned (.int .i64 0) ∧ w.grownBy w' (some r) ∧ RLay w' B r bl c dv vv vs { S with f3 := n } own := by
  have hc := h.r4
  have hf := h.rfz 4
  have H := Lib.hid (h.struct (T := { S with f3 := n }) (Lib.grownBy_setB (World.grownBy.refl w (some r)) 4 (.int .i64 (n : Nat))) { h.ok with f3 := h2 } rfl rfl rfl (h.blk.set_ 4 (.int .i64 (n : Nat))))
  clear h
  have hd1 : decide ((n : Int) < 1) = false := by simp; omega
  have hd2 : decide (1099511627776 < (n : Int)) = false := by simp; omega
  go_enter Try.func30, Try.ntmps30
  go_wp2
  go_ret
  exact ⟨rfl, Lib.grownBy_setB (World.grownBy.refl _ _) _ _, H.out⟩

set_option maxHeartbeats 800000 in
theorem ref_cut_no (p : Value) (n : Int) (w : World) (hb : n < 0 ∨ 1099511627776 < n) :
    Calls Try.prog 31 #[p, .int .i64 n] w fun e w' => e = .returned (.int .i64 1) ∧ w = w' := by
  by_cases h1 : n < 0
  · clear hb
    go_enter Try.func31, Try.ntmps31
    go_wp2
    go_ret
    exact ⟨rfl, rfl⟩
  · have h4 : 1099511627776 < n := by rcases hb with h | h <;> omega
    clear hb
    go_enter Try.func31, Try.ntmps31
    go_wp2
    go_ret
    exact ⟨rfl, rfl⟩
set_option maxHeartbeats 800000 in
theorem ref_cut {w : World} {B r bl c : Nat} {dv vv : Nat → Value} {vs : Nat → List Value} {S : St} {own : Nat → Prop} (h : RLay w B r bl c dv vv vs S own) (n : Int) (h1 : 0 ≤ n) (h2 : n ≤ 1099511627776) :
    Calls Try.prog 31 #[.pointer (some ⟨r, 0, none⟩), .int .i64 n] w fun e w' => e = .returned (.int .i64 0) ∧ w.grownBy w' (some r) ∧ RLay w' B r bl c dv vv vs { S with left := n } own := by
  have hc := h.r5
  have hf := h.rfz 5
  have H := Lib.hid (h.struct (T := { S with left := n }) (Lib.grownBy_setB (World.grownBy.refl w (some r)) 5 (.int .i64 n)) { h.ok with l0 := by show -1 ≤ n; omega, l1 := h2 } rfl rfl rfl (h.blk.set_ 5 (.int .i64 n)))
  clear h
  have hd1 : decide (n < 0) = false := by simp; omega
  have hd2 : decide (1099511627776 < n) = false := by simp; omega
  go_enter Try.func31, Try.ntmps31
  go_wp2
  go_ret
  exact ⟨rfl, Lib.grownBy_setB (World.grownBy.refl _ _) _ _, H.out⟩

theorem dirty_upto (S : St) (j : Nat) : (List.range (j + 1)).filter (fun k => !(S.ver k).isEmpty) = (List.range j).filter (fun k => !(S.ver k).isEmpty) ++ (if S.ver j = [] then [] else [j]) := by
  rw [List.range_succ, List.filter_append]
  congr 1
  cases hv : S.ver j <;> simp [hv]
theorem nats_snoc (l : List Nat) (j : Nat) : nats (l ++ [j]) = nats l ++ [.int .i64 (j : Nat)] := by simp [nats]
theorem int_info : (Try.prog.info? 3).map (fun i => (i.zero, i.size, i.bytes)) = some (some (.int .i64 0), 1, 8) := by kernel_rfl
theorem reads_int (w : World) (x : Value) : Reads (w.alloc (.cells #[x] 3)) (w.heap.size + 1) 1 (some ⟨w.heap.size, 0, none⟩) 1 [x] := by
  refine ⟨rfl, fun _ => ⟨_, rfl, by simp, fun j u hu => ?_⟩⟩
  match j with
  | 0 => simpa [Addr.add] using hu
  | j + 1 => simp at hu

set_option maxRecDepth 100000 in
set_option maxHeartbeats 1600000 in
theorem ref_dirty {w : World} {B r bl c : Nat} {dv vv : Nat → Value} {vs : Nat → List Value} {S : St} {own : Nat → Prop} (h : RLay w B r bl c dv vv vs S own) :
    Calls Try.prog 15 #[.pointer (some ⟨r, 0, none⟩)] w fun e w' => ∃ v, e = .returned v ∧ Own w' w.heap.size 3 1 v S.dirty.length (nats S.dirty) ∧ w.grownBy w' none := by
  obtain ⟨i0, hi0, hz0, hz1, hz2⟩ := info_parts int_info
  have hi := Lib.hid hi0; have z0 := Lib.hid hz0; have z1 := Lib.hid hz1; have z2 := Lib.hid hz2; clear hi0 hz0 hz1 hz2
  have htop := h.ok.top
  have hcap := h.cap
  have HL := Lib.hid h
  have HDU := Lib.hid (dirty_upto S)
  have HDY := Lib.hid (show S.dirty = (List.range S.n).filter (fun k => !(S.ver k).isEmpty) from rfl)
  clear h
  go_enter Try.func15, Try.ntmps15
  go_wp2_with fail
  go_loopw [3, 4] (fun u i wr => ∃ j : Nat, j ≤ S.n ∧ i = .int .i64 j ∧ Own wr w.heap.size 3 1 u ((List.range j).filter (fun k => !(S.ver k).isEmpty)).length (nats ((List.range j).filter (fun k => !(S.ver k).isEmpty))) ∧ w.grownBy wr none) (fun _ i _ => S.n - (Go.RowKit.intOf i).toNat)
  case atStart => exact ⟨0, by omega, rfl, Own.nil _ _ _ _, World.grownBy.refl _ _⟩
  case round =>
    obtain ⟨j, hj, rfl, ho, hg⟩ := hrel
    have hlr := HL.out.grown hg (fun _ e => by cases e)
    have hc := hlr.rc
    have HO := Lib.hid ho; have HG := Lib.hid hg
    have hsz := hg.size
    clear ho hg
    by_cases hlt : j < S.n
    · have hcv := hlr.cv hlt
      obtain ⟨A, m, cap, hvv, hm, hmc, hcm, _, _⟩ := hlr.now hlt
      rw [hvv] at hcv
      have hstep := HDU.out j
      have hflen := List.length_filter_le (fun k => !(S.ver k).isEmpty) (List.range j)
      rw [List.length_range] at hflen
      by_cases h0 : S.ver j = []
      · rw [if_pos h0, List.append_nil] at hstep
        have hm0 : m = 0 := by rw [hm, h0]; rfl
        subst hm0
        have HST := Lib.hid hstep
        clear hstep hm h0 hlr hvv
        go_wp2_with fail
        go_roundw
        case rel => exact ⟨j + 1, by omega, by go_num, by rw [HST.out]; exact HO.out, HG.out⟩
        case measure => simp [Go.RowKit.intOf]; omega
      · rw [if_neg h0] at hstep
        have hm0 : 0 < m := by rw [hm]; exact List.length_pos_iff.2 h0
        have hm0' : (0 : Int) < (m : Int) := by omega
        have HST := Lib.hid hstep
        generalize (List.range j).filter (fun k => !(S.ver k).isEmpty) = L at *
        clear hstep hm h0 hlr hvv
        go_wp2_with (at_builtin
                     refine wpList_append_own_full _ rfl (.tmp 24) (.tmp 26) _ rfl w.heap.size 3 i0 _ 1 8 Try.underlying32 hi.out z0.out z1.out z2.out rfl (by omega) _ L.length _ rfl (HO.out.alloc _)
                       _ _ 1 1 _ rfl (reads_int _ _) (fun u hu => by simp at hu; subst hu; rfl) (by simp only [maxLen]; omega) (by omega) (by simp; omega) ?_
                     intro v' w' hown' hgr'
                     have HO' := Lib.hid hown'; have HG' := Lib.hid hgr'; clear hown' hgr')
        go_roundw
        case rel =>
          refine ⟨j + 1, by omega, by go_num, ?_, grownBy_new (HG.out.trans (World.grownBy_alloc wr _ none)) HG'.out.1 (fun q hq => (HO.out.base_ q hq).1)⟩
          rw [HST.out, List.length_append, List.length_singleton, nats_snoc]
          exact HO'.out
        case measure => simp [Go.RowKit.intOf]; omega
    · obtain rfl : j = S.n := by omega
      rw [← HDY.out] at HO
      go_wp2
      go_ret
      exact ⟨_, rfl, HO.out, HG.out⟩
end Go.Proofs.Ytkfijgdbaihhpaa.Dsk
