/- Texts of this seat's proofs: RefFail, RefRead, RefFlush, RefReadBare. -/
import Derived.Test.YtagikgejhckfbaaGreatMDiskLay
import Derived.Test.YtagikgejhckfbaaGreatMDiskDirty
import Derived.Deep.RegionHeld3
/- The document's disk: Fail, Cut, Dirty, Read, Flush. -/
namespace Go.Proofs.YtagikgejhckfbaaGreat.Dsk
open Go.RowKit Mem Crc DiskSpec

set_option maxHeartbeats 800000 in
theorem ref_fail_no (p : Value) (kind n : Int) (w : World) (hb : failBad kind n) :
    Calls Tryz.prog 14 #[p, .int .i64 kind, .int .i64 n] w fun e w' => e = .returned (.int .i64 1) ∧ w = w' := by
  by_cases h1 : kind < 1
  · go_enter Tryz.func14, Tryz.ntmps14
    go_wp2
    go_ret
    exact ⟨rfl, rfl⟩
  by_cases h2 : 3 < kind
  · go_enter Tryz.func14, Tryz.ntmps14
    go_wp2
    go_ret
    exact ⟨rfl, rfl⟩
  by_cases h3 : n < 1
  · go_enter Tryz.func14, Tryz.ntmps14
    go_wp2
    go_ret
    exact ⟨rfl, rfl⟩
  · have h4 : 1099511627776 < n := by rcases hb with h | h | h | h <;> omega
    clear hb
    go_enter Tryz.func14, Tryz.ntmps14
    go_wp2
    go_ret
    exact ⟨rfl, rfl⟩

set_option maxHeartbeats 800000 in
theorem ref_fail1 {w : World} {B r bl c : Nat} {dv vv : Nat → Value} {vs : Nat → List Value} {S : St} {own : Nat → Prop} (h : RLay w B r bl c dv vv vs S own) (n : Nat) (h1 : 1 ≤ n) (h2 : n ≤ 1099511627776) :
    Calls Tryz.prog 14 #[.pointer (some ⟨r, 0, none⟩), .int .i64 1, .int .i64 (n : Nat)] w fun e w' => e = .returned (.int .i64 0) ∧ w.grownBy w' (some r) ∧ RLay w' B r bl c dv vv vs { S with f1 := n } own := by
  have hc := h.r2
  have hf := h.rfz 2
  have H := Lib.hid (h.struct (T := { S with f1 := n }) (Lib.grownBy_setB (World.grownBy.refl w (some r)) 2 (.int .i64 (n : Nat))) { h.ok with f1 := h2 } rfl rfl rfl (h.blk.set_ 2 (.int .i64 (n : Nat))))
  clear h
  have hd1 : decide ((n : Int) < 1) = false := by simp; omega
  have hd2 : decide (1099511627776 < (n : Int)) = false := by simp; omega
  go_enter Tryz.func14, Tryz.ntmps14
  go_wp2
  go_ret
  exact ⟨rfl, Lib.grownBy_setB (World.grownBy.refl _ _) _ _, H.out⟩

set_option maxHeartbeats 800000 in
theorem ref_fail2 {w : World} {B r bl c : Nat} {dv vv : Nat → Value} {vs : Nat → List Value} {S : St} {own : Nat → Prop} (h : RLay w B r bl c dv vv vs S own) (n : Nat) (h1 : 1 ≤ n) (h2 : n ≤ 1099511627776) :
    Calls Tryz.prog 14 #[.pointer (some ⟨r, 0, none⟩), .int .i64 2, .int .i64 (n : Nat)] w fun e w' => e = .returned (.int .i64 0) ∧ w.grownBy w' (some r) ∧ RLay w' B r bl c dv vv vs { S with f2 := n } own := by
  have hc := h.r3
  have hf := h.rfz 3
  have H := Lib.hid (h.struct (T := { S with f2 := n }) (Lib.grownBy_setB (World.grownBy.refl w (some r)) 3 (.int .i64 (n : Nat))) { h.ok with f2 := h2 } rfl rfl rfl (h.blk.set_ 3 (.int .i64 (n : Nat))))
  clear h
  have hd1 : decide ((n : Int) < 1) = false := by simp; omega
  have hd2 : decide (1099511627776 < (n : Int)) = false := by simp; omega
  go_enter Tryz.func14, Tryz.ntmps14
  go_wp2
  go_ret
  exact ⟨rfl, Lib.grownBy_setB (World.grownBy.refl _ _) _ _, H.out⟩

set_option maxHeartbeats 800000 in
theorem ref_fail3 {w : World} {B r bl c : Nat} {dv vv : Nat → Value} {vs : Nat → List Value} {S : St} {own : Nat → Prop} (h : RLay w B r bl c dv vv vs S own) (n : Nat) (h1 : 1 ≤ n) (h2 : n ≤ 1099511627776) :
    Calls Tryz.prog 14 #[.pointer (some ⟨r, 0, none⟩), .int .i64 3, .int .i64 (n : Nat)] w fun e w' => e = .returned (.int .i64 0) ∧ w.grownBy w' (some r) ∧ RLay w' B r bl c dv vv vs { S with f3 := n } own := by
  have hc := h.r4
  have hf := h.rfz 4
  have H := Lib.hid (h.struct (T := { S with f3 := n }) (Lib.grownBy_setB (World.grownBy.refl w (some r)) 4 (.int .i64 (n : Nat))) { h.ok with f3 := h2 } rfl rfl rfl (h.blk.set_ 4 (.int .i64 (n : Nat))))
  clear h
  have hd1 : decide ((n : Int) < 1) = false := by simp; omega
  have hd2 : decide (1099511627776 < (n : Int)) = false := by simp; omega
  go_enter Tryz.func14, Tryz.ntmps14
  go_wp2
  go_ret
  exact ⟨rfl, Lib.grownBy_setB (World.grownBy.refl _ _) _ _, H.out⟩

theorem dirty_upto (S : St) (j : Nat) : (List.range (j + 1)).filter (fun k => !(S.ver k).isEmpty) = (List.range j).filter (fun k => !(S.ver k).isEmpty) ++ (if S.ver j = [] then [] else [j]) := by
  rw [List.range_succ, List.filter_append]
  congr 1
  cases hv : S.ver j <;> simp [hv]
theorem nats_snoc (l : List Nat) (j : Nat) : nats (l ++ [j]) = nats l ++ [.int .i64 (j : Nat)] := by simp [nats]
theorem int_info : (Tryz.prog.info? 3).map (fun i => (i.zero, i.size, i.bytes)) = some (some (.int .i64 0), 1, 8) := by kernel_rfl
theorem reads_int (w : World) (x : Value) : Reads (w.alloc (.cells #[x] 3)) (w.heap.size + 1) 1 (some ⟨w.heap.size, 0, none⟩) 1 [x] := by
  refine ⟨rfl, fun _ => ⟨_, rfl, by simp, fun j u hu => ?_⟩⟩
  match j with
  | 0 => simpa [Addr.add] using hu
  | j + 1 => simp at hu

set_option maxRecDepth 100000 in
set_option maxHeartbeats 1600000 in
theorem ref_dirty {w : World} {B r bl c : Nat} {dv vv : Nat → Value} {vs : Nat → List Value} {S : St} {own : Nat → Prop} (h : RLay w B r bl c dv vv vs S own) :
    Calls Tryz.prog 32 #[.pointer (some ⟨r, 0, none⟩)] w fun e w' => ∃ v, e = .returned v ∧ Own w' w.heap.size 3 1 v S.dirty.length (nats S.dirty) ∧ w.grownBy w' none := by
  obtain ⟨i0, hi0, hz0, hz1, hz2⟩ := info_parts int_info
  have hi := Lib.hid hi0; have z0 := Lib.hid hz0; have z1 := Lib.hid hz1; have z2 := Lib.hid hz2; clear hi0 hz0 hz1 hz2
  have htop := h.ok.top
  have hcap := h.cap
  have HL := Lib.hid h
  have HDU := Lib.hid (dirty_upto S)
  have HDY := Lib.hid (show S.dirty = (List.range S.n).filter (fun k => !(S.ver k).isEmpty) from rfl)
  clear h
  go_enter Tryz.func32, Tryz.ntmps32
  go_wp2_with fail
  go_loopw [3, 4] (fun u i wr => ∃ j : Nat, j ≤ S.n ∧ i = .int .i64 j ∧ Own wr w.heap.size 3 1 u ((List.range j).filter (fun k => !(S.ver k).isEmpty)).length (nats ((List.range j).filter (fun k => !(S.ver k).isEmpty))) ∧ w.grownBy wr none) (fun _ i _ => S.n - (Go.RowKit.intOf i).toNat)
  case atStart => exact ⟨0, by omega, rfl, Own.nil _ _ _ _, World.grownBy.refl _ _⟩
  case round =>
    obtain ⟨j, hj, rfl, ho, hg⟩ := hrel
    have hlr := HL.out.grown hg (fun _ e => by cases e)
    have hc := hlr.rc
    have HO := Lib.hid ho; have HG := Lib.hid hg
    have hsz := hg.size
    clear ho hg
    by_cases hlt : j < S.n
    · have hcv := hlr.cv hlt
      obtain ⟨A, m, cap, hvv, hm, hmc, hcm, _, _⟩ := hlr.now hlt
      rw [hvv] at hcv
      have hstep := HDU.out j
      have hflen := List.length_filter_le (fun k => !(S.ver k).isEmpty) (List.range j)
      rw [List.length_range] at hflen
      by_cases h0 : S.ver j = []
      · rw [if_pos h0, List.append_nil] at hstep
        have hm0 : m = 0 := by rw [hm, h0]; rfl
        subst hm0
        have HST := Lib.hid hstep
        clear hstep hm h0 hlr hvv
        go_wp2_with fail
        go_roundw
        case rel => exact ⟨j + 1, by omega, by go_num, by rw [HST.out]; exact HO.out, HG.out⟩
        case measure => simp [Go.RowKit.intOf]; omega
      · rw [if_neg h0] at hstep
        have hm0 : 0 < m := by rw [hm]; exact List.length_pos_iff.2 h0
        have hm0' : (0 : Int) < (m : Int) := by omega
        have HST := Lib.hid hstep
        generalize (List.range j).filter (fun k => !(S.ver k).isEmpty) = L at *
        clear hstep hm h0 hlr hvv
        go_wp2_with (at_builtin
                     refine wpList_append_own_full _ rfl (.tmp 24) (.tmp 26) _ rfl w.heap.size 3 i0 _ 1 8 Tryz.underlying35 hi.out z0.out z1.out z2.out rfl (by omega) _ L.length _ rfl (HO.out.alloc _)
                       _ _ 1 1 _ rfl (reads_int _ _) (fun u hu => by simp at hu; subst hu; rfl) (by simp only [maxLen]; omega) (by omega) (by simp; omega) ?_
                     intro v' w' hown' hgr'
                     have HO' := Lib.hid hown'; have HG' := Lib.hid hgr'; clear hown' hgr')
        go_roundw
        case rel =>
          refine ⟨j + 1, by omega, by go_num, ?_, grownBy_new (HG.out.trans (World.grownBy_alloc wr _ none)) HG'.out.1 (fun q hq => (HO.out.base_ q hq).1)⟩
          rw [HST.out, List.length_append, List.length_singleton, nats_snoc]
          exact HO'.out
        case measure => simp [Go.RowKit.intOf]; omega
    · obtain rfl : j = S.n := by omega
      rw [← HDY.out] at HO
      go_wp2
      go_ret
      exact ⟨_, rfl, HO.out, HG.out⟩
end Go.Proofs.YtagikgejhckfbaaGreat.Dsk
/- The document's disk: Read, Flush. -/
namespace Go.Proofs.YtagikgejhckfbaaGreat.Dsk
open Go.RowKit Mem Crc DiskSpec

theorem BytesAt.cellsRead {w : World} {own : Nat → Prop} {v : Value} {x : List Nat} (h : BytesAt w own v x) : ∃ g c, v = .slice (some ⟨g, 0, none⟩) 256 c ∧ Reads w w.heap.size 1 (some ⟨g, 0, none⟩) 256 (u8s x) := by
  obtain ⟨g, c, e, hlt, _, _, hc⟩ := h.reads
  have hx : Sec x := by obtain ⟨_, _, _, _, _, _, _, _, _, h5, _⟩ := h; exact h5
  refine ⟨g, c, e, by rw [u8s_length, hx.1], fun _ => ⟨_, rfl, hlt, fun j u hu => ?_⟩⟩
  have e1 : (⟨g, 0, none⟩ : Addr).add j = ⟨g, j, none⟩ := by unfold Addr.add; split <;> simp_all
  rw [e1]
  exact hc j u hu

set_option maxRecDepth 100000 in
set_option maxHeartbeats 1600000 in
theorem ref_read_ok {w : World} {B r bl c : Nat} {dv vv : Nat → Value} {vs : Nat → List Value} {S : St} {own : Nat → Prop} (h : RLay w B r bl c dv vv vs S own) (a count : Nat) (h1 : 1 ≤ count) (h2 : a + count ≤ S.n) (hf : S.f1 ≠ 1) :
    Calls Tryz.prog 27 #[.pointer (some ⟨r, 0, none⟩), .int .i64 (a : Nat), .int .i64 (count : Nat)] w fun e w' => ∃ v, e = .returned (.tuple #[v, .int .i64 0]) ∧
      Own w' w.heap.size 5 1 v (256 * count) (u8s (S.reads a count)) ∧ RLay w' B r bl c dv vv vs { S with f1 := S.f1 - 1 } own ∧ Turn w w' own own := by
  obtain ⟨i0, hi0, hz0, hz1, hz2⟩ := info_parts byte_info
  have hi := Lib.hid hi0; have z0 := Lib.hid hz0; have z1 := Lib.hid hz1; have z2 := Lib.hid hz2; clear hi0 hz0 hz1 hz2
  have htop := h.ok.top
  have HH := Lib.hid (ref_there h (a : Int) (count : Int) (by omega) (by omega))
  have hhas : S.has a count = true := by simp [St.has]; omega
  rw [hhas] at HH
  have HD := Lib.hid (ref_fails1 h)
  rw [show decide (S.f1 = 1) = false by simp [hf]] at HD
  have HOB := Lib.hid h.ownR
  have HOK := Lib.hid h.ok
  clear h hhas
  generalize hT : ({ S with f1 := S.f1 - 1 } : St) = T at *
  have HTN := Lib.hid (show T.n = S.n by rw [← hT])
  have HTR := Lib.hid (show T.now = S.now by rw [← hT]; rfl)
  clear hT
  have hws : IntKind.i64.wrap ((a : Int) + (count : Int)) = (a : Int) + (count : Int) := IntWalk.i64_in _ (by omega)
  go_enter Tryz.func27, Tryz.ntmps27
  go_wp2_with fail
  refine HH.out.mono ?_
  rintro e w' ⟨rfl, rfl⟩
  go_wp2_with fail
  refine HD.out.mono ?_
  rintro e w1 ⟨rfl, hg1, hl1⟩
  have hs1 := hg1.size
  have HT1 := Lib.hid (Turn.of_grown (own := own) hg1 (fun q e => by cases e; exact HOB.out)); have H1 := Lib.hid hl1; clear hg1 hl1
  go_wp2_with fail
  go_loopw [8, 9] (fun u i wr => ∃ (j : Nat) (i' : Int), j ≤ count ∧ i' = (a : Int) + j ∧ i = .int .i64 i' ∧ Own wr w.heap.size 5 1 u (256 * j) (u8s (S.reads a j)) ∧ w1.grownBy wr none ∧ (∀ g, u.ownBlock = some g → w1.heap.size ≤ g)) (fun _ i _ => a + count - (Go.RowKit.intOf i).toNat)
  case atStart => exact ⟨0, _, by omega, rfl, by rw [show (a : Int) + ((0 : Nat) : Int) = (a : Int) by omega], Own.nil _ _ _ _, World.grownBy.refl _ _, fun g hg => by cases hg⟩
  case round =>
    obtain ⟨j, i', hj, hi', rfl, ho, hg, hnb⟩ := hrel
    have hlr := H1.out.grown hg (fun _ e => by cases e)
    have HO := Lib.hid ho; have HG := Lib.hid hg; have HNB := Lib.hid hnb
    have hsz := hg.size
    clear ho hg hnb
    by_cases hlt : j < count
    · have HLA := Lib.hid (ref_last hlr (a + j) (by rw [HTN.out]; omega))
      rw [HTR.out] at HLA
      have EA := Lib.hid (show i' = ((a + j : Nat) : Int) by omega)
      have HX := Lib.hid (show a + count - ((a : Int) + (j : Int) + 1).toNat < a + count - i'.toNat by omega)
      have hlti : i' < (a : Int) + (count : Int) := by omega
      have hi0 : 0 ≤ i' := by omega
      have hi1 : i' < 100000 := by omega
      clear hlr
      have HI := Lib.hid hi'; clear hi'
      go_wp2_with fail
      rw [EA.out]
      refine HLA.out.mono ?_
      rintro e w3 ⟨v, rfl, hby, hg3⟩
      obtain ⟨g3, c3, rfl, hrd⟩ := hby.cellsRead
      have HRD := Lib.hid hrd
      have HO3 := Lib.hid (HO.out.keep hg3 (fun _ _ e => by cases e)); have HG3 := Lib.hid hg3
      have hs3 := hg3.size
      clear hby hrd hg3
      go_wp2_with (at_builtin
                   refine wpList_append_own_full _ rfl (.tmp 25) (.tmp 28) _ rfl w.heap.size 5 i0 _ 1 1 Tryz.underlying70 hi.out z0.out z1.out z2.out rfl (by omega) _ (256 * j) _ rfl HO3.out
                     _ _ 256 _ _ rfl HRD.out (u8s_one _) (by simp only [maxLen]; omega) (by omega) (by omega) ?_
                   intro v' w' hown' hgr'
                   have HO' := Lib.hid hown'; have HG' := Lib.hid hgr'; clear hown' hgr')
      go_roundw
      case rel =>
        refine ⟨j + 1, (a : Int) + (j : Int) + 1, by omega, by omega, by go_num, ?_, grownBy_new (HG.out.trans HG3.out) HG'.out.1 (fun q hq => HNB.out q hq), fun q hq => ?_⟩
        · have h := HO'.out
          rw [St.reads, u8s_append]
          exact h
        · rcases HG'.out.2 q hq with h3 | h3
          · exact HNB.out q h3
          · omega
      case measure =>
        simp only [Go.RowKit.intOf]
        exact HX.out
    · obtain rfl : j = count := by omega
      have hlti : ¬ (i' < (a : Int) + (j : Int)) := by omega
      have hdl : decide (i' < (a : Int) + (j : Int)) = false := by simp; omega
      have HI := Lib.hid hi'; clear hi'
      have HLR := Lib.hid hlr; clear hlr
      go_wp2
      go_ret2
      exact ⟨_, rfl, HO.out, HLR.out, HT1.out.trans (Turn.none_ HG.out)⟩

set_option maxHeartbeats 800000 in
theorem ref_read_no {w : World} {B r bl c : Nat} {dv vv : Nat → Value} {vs : Nat → List Value} {S : St} {own : Nat → Prop} (h : RLay w B r bl c dv vv vs S own) (a count : Int)
    (h1 : -9223372036854775808 ≤ a ∧ a ≤ 9223372036854775807) (h2 : -9223372036854775808 ≤ count ∧ count ≤ 9223372036854775807) (hn : S.has a count = false) :
    Calls Tryz.prog 27 #[.pointer (some ⟨r, 0, none⟩), .int .i64 a, .int .i64 count] w fun e w' => e = .returned (.tuple #[.slice none 0 0, .int .i64 2]) ∧ w = w' := by
  have HH := Lib.hid (ref_there h a count h1 h2)
  rw [hn] at HH
  clear h hn
  go_enter Tryz.func27, Tryz.ntmps27
  go_wp2_with fail
  refine HH.out.mono ?_
  rintro e w' ⟨rfl, rfl⟩
  go_wp2
  go_ret2
  exact ⟨rfl, rfl⟩
set_option maxHeartbeats 800000 in
theorem ref_read_fail {w : World} {B r bl c : Nat} {dv vv : Nat → Value} {vs : Nat → List Value} {S : St} {own : Nat → Prop} (h : RLay w B r bl c dv vv vs S own) (a count : Int)
    (h1 : -9223372036854775808 ≤ a ∧ a ≤ 9223372036854775807) (h2 : -9223372036854775808 ≤ count ∧ count ≤ 9223372036854775807) (hy : S.has a count = true) (hf : S.f1 = 1) :
    Calls Tryz.prog 27 #[.pointer (some ⟨r, 0, none⟩), .int .i64 a, .int .i64 count] w fun e w' => e = .returned (.tuple #[.slice none 0 0, .int .i64 10]) ∧ RLay w' B r bl c dv vv vs { S with f1 := S.f1 - 1 } own ∧ Turn w w' own own := by
  have HH := Lib.hid (ref_there h a count h1 h2)
  rw [hy] at HH
  have HD := Lib.hid (ref_fails1 h)
  rw [show decide (S.f1 = 1) = true by simp [hf]] at HD
  have HOB := Lib.hid h.ownR
  clear h hy hf
  generalize ({ S with f1 := S.f1 - 1 } : St) = T at *
  go_enter Tryz.func27, Tryz.ntmps27
  go_wp2_with fail
  refine HH.out.mono ?_
  rintro e w' ⟨rfl, rfl⟩
  go_wp2_with fail
  refine HD.out.mono ?_
  rintro e w1 ⟨rfl, hg1, hl1⟩
  have HG1 := Lib.hid hg1; have H1 := Lib.hid hl1; clear hg1 hl1
  go_wp2
  go_ret2
  exact ⟨rfl, H1.out, Turn.of_grown HG1.out (fun q e => by cases e; exact HOB.out)⟩
end Go.Proofs.YtagikgejhckfbaaGreat.Dsk
/- The document's disk: Flush. -/
namespace Go.Proofs.YtagikgejhckfbaaGreat.Dsk
open Go.RowKit Mem Crc DiskSpec

theorem settles_range {S : St} (h : S.ok) : S.settles (List.range S.n) = S.flush := by
  obtain ⟨r1, r2, r3, r4, r5⟩ := settles_rest S (List.range S.n)
  refine St.ext' r1 (funext fun i => ?_) (funext fun i => ?_) r2 r3 r4 r5
  · rw [(settles_at S (List.range S.n) i).1]
    split
    · rfl
    · rename_i hi
      exact (St.now_nil (h.out i (by simpa using hi))).symm
  · rw [(settles_at S (List.range S.n) i).2]
    split
    · rfl
    · rename_i hi
      exact h.out i (by simpa using hi)
theorem settles_now {S : St} (j : Nat) : (S.settles (List.range j)).now j = S.now j := by
  have h := settles_at S (List.range j) j
  have hn : ¬ j ∈ List.range j := by simp
  rw [if_neg hn, if_neg hn] at h
  rw [St.now, h.1, h.2]; rfl

end Go.Proofs.YtagikgejhckfbaaGreat.Dsk
/- The document's Read, once more: the row that it gives may be written. -/
namespace Go.Proofs.YtagikgejhckfbaaGreat.Dsk
open Go.RowKit Mem Crc DiskSpec

set_option maxRecDepth 100000 in
set_option maxHeartbeats 3200000 in
theorem ref_read_bare {w : World} {B r bl c : Nat} {dv vv : Nat → Value} {vs : Nat → List Value} {S : St} {own : Nat → Prop} (h : RLay w B r bl c dv vv vs S own) (a count : Nat) (h1 : 1 ≤ count) (h2 : a + count ≤ S.n) (hf : S.f1 ≠ 1) :
    Calls Tryz.prog 27 #[.pointer (some ⟨r, 0, none⟩), .int .i64 (a : Nat), .int .i64 (count : Nat)] w fun e w' => ∃ v, e = .returned (.tuple #[v, .int .i64 0]) ∧
      Bare w' w.heap.size 5 1 v (256 * count) (u8s (S.reads a count)) ∧ RLay w' B r bl c dv vv vs { S with f1 := S.f1 - 1 } own ∧ Turn w w' own own := by
  obtain ⟨i0, hi0, hz0, hz1, hz2⟩ := info_parts byte_info
  have hi := Lib.hid hi0; have z0 := Lib.hid hz0; have z1 := Lib.hid hz1; have z2 := Lib.hid hz2; clear hi0 hz0 hz1 hz2
  have htop := h.ok.top
  have HH := Lib.hid (ref_there h (a : Int) (count : Int) (by omega) (by omega))
  have hhas : S.has a count = true := by simp [St.has]; omega
  rw [hhas] at HH
  have HD := Lib.hid (ref_fails1 h)
  rw [show decide (S.f1 = 1) = false by simp [hf]] at HD
  have HOB := Lib.hid h.ownR
  have HOK := Lib.hid h.ok
  clear h hhas
  generalize hT : ({ S with f1 := S.f1 - 1 } : St) = T at *
  have HTN := Lib.hid (show T.n = S.n by rw [← hT])
  have HTR := Lib.hid (show T.now = S.now by rw [← hT]; rfl)
  clear hT
  have hws : IntKind.i64.wrap ((a : Int) + (count : Int)) = (a : Int) + (count : Int) := IntWalk.i64_in _ (by omega)
  go_enter Tryz.func27, Tryz.ntmps27
  go_wp2_with fail
  refine HH.out.mono ?_
  rintro e w' ⟨rfl, rfl⟩
  go_wp2_with fail
  refine HD.out.mono ?_
  rintro e w1 ⟨rfl, hg1, hl1⟩
  have hs1 := hg1.size
  have HT1 := Lib.hid (Turn.of_grown (own := own) hg1 (fun q e => by cases e; exact HOB.out)); have H1 := Lib.hid hl1; clear hg1 hl1
  go_wp2_with fail
  go_loopw [8, 9] (fun u i wr => ∃ (j : Nat) (i' : Int), j ≤ count ∧ i' = (a : Int) + j ∧ i = .int .i64 i' ∧ Bare wr w.heap.size 5 1 u (256 * j) (u8s (S.reads a j)) ∧ w1.grownBy wr none ∧ (∀ g, u.ownBlock = some g → w1.heap.size ≤ g)) (fun _ i _ => a + count - (Go.RowKit.intOf i).toNat)
  case atStart => exact ⟨0, _, by omega, rfl, by rw [show (a : Int) + ((0 : Nat) : Int) = (a : Int) by omega], Bare.nil _ _ _ _, World.grownBy.refl _ _, fun g hg => by cases hg⟩
  case round =>
    obtain ⟨j, i', hj, hi', rfl, ho, hg, hnb⟩ := hrel
    have hlr := H1.out.grown hg (fun _ e => by cases e)
    have HO := Lib.hid ho; have HG := Lib.hid hg; have HNB := Lib.hid hnb
    have hsz := hg.size
    clear ho hg hnb
    by_cases hlt : j < count
    · have HLA := Lib.hid (ref_last hlr (a + j) (by rw [HTN.out]; omega))
      rw [HTR.out] at HLA
      have EA := Lib.hid (show i' = ((a + j : Nat) : Int) by omega)
      have HX := Lib.hid (show a + count - ((a : Int) + (j : Int) + 1).toNat < a + count - i'.toNat by omega)
      have hlti : i' < (a : Int) + (count : Int) := by omega
      have hi0 : 0 ≤ i' := by omega
      have hi1 : i' < 100000 := by omega
      clear hlr
      have HI := Lib.hid hi'; clear hi'
      go_wp2_with fail
      rw [EA.out]
      refine HLA.out.mono ?_
      rintro e w3 ⟨v, rfl, hby, hg3⟩
      obtain ⟨g3, c3, rfl, hrd⟩ := hby.cellsRead
      have HRD := Lib.hid hrd
      have HO3 := Lib.hid (HO.out.keep hg3 (fun _ _ e => by cases e)); have HG3 := Lib.hid hg3
      have hs3 := hg3.size
      clear hby hrd hg3
      go_wp2_with (at_builtin
                   refine wpList_append_any _ rfl (.tmp 25) (.tmp 28) _ rfl w.heap.size 5 i0 _ 1 1 Tryz.underlying70 hi.out z0.out z1.out z2.out rfl (by omega) _ (256 * j) _ rfl HO3.out
                     _ _ 256 _ _ rfl HRD.out (u8s_one _) (by simp only [maxLen]; omega) (by omega) (by omega) ?_
                   intro v' w' hown' hgr0 hbl0
                   have hgr' := grew_bare hgr0 hbl0
                   have HO' := Lib.hid hown'; have HG' := Lib.hid hgr'; clear hown' hgr')
      go_roundw
      case rel =>
        refine ⟨j + 1, (a : Int) + (j : Int) + 1, by omega, by omega, by go_num, ?_, grownBy_new (HG.out.trans HG3.out) HG'.out.1 (fun q hq => HNB.out q hq), fun q hq => ?_⟩
        · have h := HO'.out
          rw [St.reads, u8s_append]
          exact h
        · rcases HG'.out.2 q hq with h3 | h3
          · exact HNB.out q h3
          · omega
      case measure =>
        simp only [Go.RowKit.intOf]
        exact HX.out
    · obtain rfl : j = count := by omega
      have hlti : ¬ (i' < (a : Int) + (j : Int)) := by omega
      have hdl : decide (i' < (a : Int) + (j : Int)) = false := by simp; omega
      have HI := Lib.hid hi'; clear hi'
      have HLR := Lib.hid hlr; clear hlr
      go_wp2
      go_ret2
      exact ⟨_, rfl, HO.out, HLR.out, HT1.out.trans (Turn.none_ HG.out)⟩
end Go.Proofs.YtagikgejhckfbaaGreat.Dsk
