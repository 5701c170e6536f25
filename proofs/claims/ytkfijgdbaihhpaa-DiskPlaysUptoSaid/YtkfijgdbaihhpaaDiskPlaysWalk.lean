/- The walk over the law DiskPlays, by the contracts of what it calls. -/
import Derived.Test.YtkfijgdbaihhpaaPlayed
import Derived.Deep.QuietTactic
import Derived.BigQuiet
namespace Go.Proofs.Ytkfijgdbaihhpaa.DiskPlaysUpto
open Go.ChangeShapes Go.WideShapes Go.ChangeAt Go.RowKit
open Mem Crc DiskSpec Dsk

set_option maxRecDepth 100000 in
set_option maxHeartbeats 12800000 in
theorem walk {H : Type} {enc : TypeId × Value → H} (W : World) (base : Nat) (v0 v1 : Value) (d0 d1 : DataW H) (p0 p1 : List MemPlace)
    (o0 : Value.okWide Try.prog W .any base 3 v0)
    (o1 : Value.okWide Try.prog W .any base 22 v1)
    (h0 : DataW.Trod enc Try.prog W 0 (fun _ => true) true 3 v0 d0 p0)
    (h1 : DataW.Trod enc Try.prog W 0 (fun _ => true) true 22 v1 d1 p1)
    (_ : (DataW.weightsEach Try.prog [3, 22] [d0, d1]).all (· ≤ reachBytes) = true) (hk : Rows.uptoSmall H [d0, d1] = true) :
    Calls Try.prog 3 #[v0, v1] W fun e W' => e = .returned (.bool true) ∧ Below W.heap.size W W' := by
  obtain ⟨A, n, c, ops, rfl, hops, _, hcm, hd0⟩ := open_script o1 h1
  have hn := bulk_len hk (List.mem_cons_of_mem _ (List.mem_cons_self ..)) hd0
  obtain ⟨sec, rfl, rfl, rfl, _⟩ := open_int Try.underlying3 o0 h0
  have HOPS := Lib.hid hops
  have HPO := Lib.hid (picks_of (c := c) hops hn)
  clear o0 h0 o1 h1 hk hd0 hops hcm
  by_cases hno : sec < 1 ∨ 4096 < sec
  · have HN := Lib.hid (disk_new_no sec W hno)
    have HR := Lib.hid (ref_new_no sec W hno)
    clear hno
    go_enter Try.func3, Try.ntmps3
    go_wp2_with fail
    refine HN.out.mono ?_
    rintro e w1 ⟨rfl, rfl⟩
    go_wp2_with fail
    refine HR.out.mono ?_
    rintro e w1 ⟨rfl, rfl⟩
    go_wp2_with fail
    refine (known_any W).mono ?_
    rintro e w2 ⟨rfl, hg⟩
    have HG := Lib.hid ((Below.refl _ W).grown hg (Nat.le_refl _) (fun _ e => by cases e))
    clear hg
    go_wp2
    go_ret
    exact ⟨rfl, HG.out⟩
  obtain ⟨m, rfl⟩ : ∃ m : Nat, sec = m := ⟨sec.toNat, by omega⟩
  have hm1 : 1 ≤ m := by omega
  have hm2 : m ≤ 4096 := by omega
  clear hno
  go_enter Try.func3, Try.ntmps3
  go_wp2_with fail
  refine (disk_new m W hm1 hm2).mono ?_
  rintro e w1 ⟨b, bd, bm, f, own, rfl, hl1, hg1⟩
  have H1 := Lib.hid (show DAt w1 W.heap.size b (St.new m) own from ⟨bd, bm, f, hl1⟩); have HG1 := Lib.hid hg1
  clear hl1 hg1
  go_wp2_with fail
  refine (ref_new m w1 hm1 hm2).mono ?_
  rintro e w2 ⟨r, bl, cr, dv, vv, vs, ow2, rfl, hl3, hg3⟩
  have H2 := Lib.hid (show RAt w2 w1.heap.size r (St.new m) ow2 from ⟨bl, cr, dv, vv, vs, hl3⟩); have HG2 := Lib.hid hg3
  clear hl3 hg3
  go_wp2_with fail
  refine (known_any w2).mono ?_
  rintro e w3 ⟨rfl, hg2⟩
  have HP0 := Lib.hid (PlayedN.start H1.out HG1.out H2.out HG2.out hg2)
  clear hg2 H1 H2 HG1 HG2
  go_wp2_with fail
  go_loopw [9] (fun i wr => ∃ (j : Nat) (S : St) (p1 p2 : Nat → Prop), j ≤ n ∧ i = .int .i64 j ∧ PlayedN W wr b r j m S p1 p2) (fun i _ => n - (Go.RowKit.intOf i).toNat)
  case atStart => exact ⟨0, _, _, _, Nat.zero_le _, rfl, HP0.out⟩
  case round =>
    obtain ⟨j, S, p1, p2, hj, rfl, hp⟩ := hrel
    have HP := Lib.hid hp; clear hp
    by_cases hlt : j < n
    · obtain ⟨x, g, off, hx, rfl, e0, e1, e2, e3, e4, e5, e6⟩ := HOPS.out.at_ HP.out.below hlt
      have HDO := Lib.hid (HP.out.does (by omega) x hx)
      clear hx
      have hjn : (j : Int) < (n : Int) := by omega
      go_wp2_with fail
      refine HDO.out.mono ?_
      rintro e w4 ⟨rfl, S', q1, q2, hp'⟩
      have HP4 := Lib.hid hp'; have HD1 := Lib.hid hp'.dirty1; clear hp' e0 e1 e2 e3 e4 e5 e6
      go_wp2_with fail
      refine HD1.out.mono ?_
      rintro e w5 ⟨va, rfl, hoa, hga⟩
      have hp5 := HP4.out.grown hga
      have HP5 := Lib.hid hp5; have HD2 := Lib.hid hp5.dirty2; have HOA := Lib.hid hoa
      clear hp5 hoa hga
      go_wp2_with fail
      refine HD2.out.mono ?_
      rintro e w6 ⟨vb, rfl, hob, hgb⟩
      obtain ⟨AA, ca, rfl, hna⟩ := nats_in HOA.out hgb
      obtain ⟨AB, cb, rfl, hnb⟩ := nats_in hob (World.grownBy.refl w6 none)
      have hdl : S'.dirty.length ≤ 4096 := by have h1 := dirty_le S'; have h2 := HP4.out.n; omega
      have hii := ints_any AA AB S'.dirty.length S'.dirty.length ca cb S'.dirty S'.dirty w6 hna hnb (by omega) (by omega)
      rw [decide_eq_true (rfl : S'.dirty = S'.dirty)] at hii
      have HII := Lib.hid hii
      have HP6 := Lib.hid (HP5.out.grown hgb)
      clear hob hgb hna hnb hii hdl
      go_wp2_with fail
      refine HII.out.mono ?_
      rintro e w7 ⟨rfl, hdr⟩
      have HP7 := Lib.hid (HP6.out.grown (drawn_grown hdr none))
      clear hdr
      go_wp2_with fail
      go_roundw
      case rel => exact ⟨j + 1, S', q1, q2, by omega, by go_num, HP7.out⟩
      case measure => simp [Go.RowKit.intOf]; omega
    · obtain rfl : j = n := by omega
      obtain ⟨bl', cl', hrc⟩ := HP.out.len
      obtain ⟨A2, n2, c2, picks, hpi, hn2, hpo⟩ := HPO.out
      have hn2' : n2 ≤ 9223372036854775807 := by unfold maxLen at hn2; omega
      have HPI := Lib.hid hpi; have HPF := Lib.hid hpo
      have HN2 := Lib.hid hn2'
      have HVR := Lib.hid (show ∀ i, (S.ver i).length < 549755813888 from fun i => by have := HP.out.ver i; omega)
      clear hpi hn2 hpo hn2' HPO
      by_cases hQ : m ≤ 64
      · have hmm : ¬ ((64 : Int) < (m : Int)) := by omega
        have hmm2 : (m : Int) ≤ 64 := by omega
        have hmm3 : min (m : Int) 64 = (m : Int) := by omega
        go_wp2_with fail
        refine (HPF.out wr HP.out.below).mono ?_
        rintro e w4 ⟨rfl, rfl⟩
        go_wp2_with fail
        refine (disk_crash_all HP.out.two.d A2 n2 c2 picks (HPI.out.picks HP.out.below HP.out.two.d.least) HN2.out HVR.out).mono ?_
        rintro e w5 ⟨rfl, hd5, ht5⟩
        obtain ⟨hr5, hap5⟩ := HP.out.two.step hd5 ht5
        have HB5 := Lib.hid (HP.out.below.trans (ht5.below HP.out.two.d.least HP.out.two.low))
        have HD5 := Lib.hid hd5; have HR5 := Lib.hid hr5; have HT5 := Lib.hid ht5
        clear hd5 hr5 ht5 hap5
        go_wp2_with fail
        refine (HPF.out w5 HB5.out).mono ?_
        rintro e w6 ⟨rfl, rfl⟩
        go_wp2_with fail
        refine (ref_crash_all HR5.out A2 n2 c2 picks (HPI.out.picks HB5.out HR5.out.least) HN2.out HVR.out).mono ?_
        rintro e w6 ⟨rfl, hr6, ht6⟩
        have hnx := HP.out.two.next HD5.out HT5.out hr6 ht6
        have HP6 := Lib.hid (HP.out.next (j' := 0) hnx.1 hnx.2 (fun k => Nat.zero_le _) rfl)
        clear hr6 ht6 hnx
        go_wp2_with fail
        refine (disk_read_all HP6.out.two.d 0 (m : Nat) (by omega) (by omega)).mono ?_
        rintro e w7 ⟨va, rfl, hga, hd7, ht7⟩
        obtain ⟨hr7, hap7⟩ := HP6.out.two.step hd7 ht7
        have HD7 := Lib.hid hd7; have HR7 := Lib.hid hr7; have HT7 := Lib.hid ht7; have HGA := Lib.hid hga
        have HHI := Lib.hid (fun g (hg : w6.heap.size ≤ g) => (show ¬ p2 g from fun e => by have := HP6.out.two.r.lt g e; omega))
        clear hd7 hr7 ht7 hap7 hga
        go_wp2_with fail
        refine (ref_read_all HR7.out 0 (m : Nat) (by omega) (by omega)).mono ?_
        rintro e w8 ⟨vb, rfl, hgb, hr8, ht8⟩
        have hnx := HP6.out.two.next HD7.out HT7.out hr8 ht8
        have hn0 : (readE (S.crash picks) 0 (m : Nat)).2.n = (S.crash picks).n := by unfold readE; split; rfl; split <;> rfl
        have hv0 : ∀ k, ((readE (S.crash picks) 0 (m : Nat)).2.ver k).length ≤ 0 := by intro k; unfold readE; split; exact Nat.le_refl _; split <;> exact Nat.le_refl _
        have hp8 := HP6.out.next (j' := 0) hnx.1 hnx.2 hv0 hn0
        have HP8 := Lib.hid hp8
        have hok := HP6.out.two.d.ok
        have hlt8 := readL_lt hok 0 (m : Nat)
        have hlen8 := readL_len hok 0 (m : Nat)
        have hga8 := HGA.out.turn ht8 HHI.out
        obtain ⟨AA, ca, rfl, hba⟩ := bytes_of_gave hga8 hlt8
        obtain ⟨AB, cb, rfl, hbb⟩ := bytes_of_own hgb hlt8
        obtain ⟨bl8, cl8, hrc8⟩ := hp8.len
        generalize readL (S.crash picks) 0 (m : Nat) = L at *
        have hsm : ∀ k, Calls Try.prog 22 #[.slice AA L.length ca, .slice AB L.length cb] (w8.drewN k) fun e w' => e = .returned (.bool true) ∧ ∃ q, w' = (w8.drewN k).drewN q := fun k => by
          have h := same_any w8.heap.size w8.heap.size AA AB L.length L.length ca cb L L (w8.drewN k) hba hbb (by omega) (by omega)
          rw [decide_eq_true (rfl : L = L)] at h
          exact h
        have hsz : ∀ k, Calls Try.prog 21 #[.pointer (some ⟨b, 0, none⟩)] (w8.drewN k) fun e w' => e = .returned (.int .i64 (m : Nat)) ∧ w' = w8.drewN k := fun k => by
          refine ((hp8.grown (drawn_grown ⟨k, rfl⟩ none)).size).mono ?_
          rintro e w' ⟨h, h'⟩
          exact ⟨h, h'.symm⟩
        have HSM := Lib.hid hsm; have HSZ := Lib.hid hsz
        clear hnx hn0 hv0 hp8 hok hlt8 hga8 hba hbb hsm hsz hgb hr8 ht8 hrc
        generalize L.length = N at *
        go_wp2_with fail
        go_quiet ((first
          | (go_at_call 22; exact Calls.quiet_of (HSM.out _))
          | (go_at_call 21; exact Calls.quiet_of_same (HSZ.out _))))
        go_wp2
        go_ret
        exact ⟨rfl, HP8.out.below.grown (drawn_grown ⟨_, rfl⟩ none) HP8.out.below.size (fun _ e => by cases e)⟩
      · have hmm : (64 : Int) < (m : Int) := by omega
        have hmm2 : ¬ ((m : Int) ≤ 64) := by omega
        have hmm3 : min (m : Int) 64 = 64 := by omega
        go_wp2_with fail
        refine (HPF.out wr HP.out.below).mono ?_
        rintro e w4 ⟨rfl, rfl⟩
        go_wp2_with fail
        refine (disk_crash_all HP.out.two.d A2 n2 c2 picks (HPI.out.picks HP.out.below HP.out.two.d.least) HN2.out HVR.out).mono ?_
        rintro e w5 ⟨rfl, hd5, ht5⟩
        obtain ⟨hr5, hap5⟩ := HP.out.two.step hd5 ht5
        have HB5 := Lib.hid (HP.out.below.trans (ht5.below HP.out.two.d.least HP.out.two.low))
        have HD5 := Lib.hid hd5; have HR5 := Lib.hid hr5; have HT5 := Lib.hid ht5
        clear hd5 hr5 ht5 hap5
        go_wp2_with fail
        refine (HPF.out w5 HB5.out).mono ?_
        rintro e w6 ⟨rfl, rfl⟩
        go_wp2_with fail
        refine (ref_crash_all HR5.out A2 n2 c2 picks (HPI.out.picks HB5.out HR5.out.least) HN2.out HVR.out).mono ?_
        rintro e w6 ⟨rfl, hr6, ht6⟩
        have hnx := HP.out.two.next HD5.out HT5.out hr6 ht6
        have HP6 := Lib.hid (HP.out.next (j' := 0) hnx.1 hnx.2 (fun k => Nat.zero_le _) rfl)
        clear hr6 ht6 hnx
        go_wp2_with fail
        refine (disk_read_all HP6.out.two.d 0 64 (by omega) (by omega)).mono ?_
        rintro e w7 ⟨va, rfl, hga, hd7, ht7⟩
        obtain ⟨hr7, hap7⟩ := HP6.out.two.step hd7 ht7
        have HD7 := Lib.hid hd7; have HR7 := Lib.hid hr7; have HT7 := Lib.hid ht7; have HGA := Lib.hid hga
        have HHI := Lib.hid (fun g (hg : w6.heap.size ≤ g) => (show ¬ p2 g from fun e => by have := HP6.out.two.r.lt g e; omega))
        clear hd7 hr7 ht7 hap7 hga
        go_wp2_with fail
        refine (ref_read_all HR7.out 0 64 (by omega) (by omega)).mono ?_
        rintro e w8 ⟨vb, rfl, hgb, hr8, ht8⟩
        have hnx := HP6.out.two.next HD7.out HT7.out hr8 ht8
        have hn0 : (readE (S.crash picks) 0 64).2.n = (S.crash picks).n := by unfold readE; split; rfl; split <;> rfl
        have hv0 : ∀ k, ((readE (S.crash picks) 0 64).2.ver k).length ≤ 0 := by intro k; unfold readE; split; exact Nat.le_refl _; split <;> exact Nat.le_refl _
        have hp8 := HP6.out.next (j' := 0) hnx.1 hnx.2 hv0 hn0
        have HP8 := Lib.hid hp8
        have hok := HP6.out.two.d.ok
        have hlt8 := readL_lt hok 0 64
        have hlen8 := readL_len hok 0 64
        have hga8 := HGA.out.turn ht8 HHI.out
        obtain ⟨AA, ca, rfl, hba⟩ := bytes_of_gave hga8 hlt8
        obtain ⟨AB, cb, rfl, hbb⟩ := bytes_of_own hgb hlt8
        obtain ⟨bl8, cl8, hrc8⟩ := hp8.len
        generalize readL (S.crash picks) 0 64 = L at *
        have hsm : ∀ k, Calls Try.prog 22 #[.slice AA L.length ca, .slice AB L.length cb] (w8.drewN k) fun e w' => e = .returned (.bool true) ∧ ∃ q, w' = (w8.drewN k).drewN q := fun k => by
          have h := same_any w8.heap.size w8.heap.size AA AB L.length L.length ca cb L L (w8.drewN k) hba hbb (by omega) (by omega)
          rw [decide_eq_true (rfl : L = L)] at h
          exact h
        have hsz : ∀ k, Calls Try.prog 21 #[.pointer (some ⟨b, 0, none⟩)] (w8.drewN k) fun e w' => e = .returned (.int .i64 (m : Nat)) ∧ w' = w8.drewN k := fun k => by
          refine ((hp8.grown (drawn_grown ⟨k, rfl⟩ none)).size).mono ?_
          rintro e w' ⟨h, h'⟩
          exact ⟨h, h'.symm⟩
        have HSM := Lib.hid hsm; have HSZ := Lib.hid hsz
        clear hnx hn0 hv0 hp8 hok hlt8 hga8 hba hbb hsm hsz hgb hr8 ht8 hrc
        generalize L.length = N at *
        go_wp2_with fail
        go_quiet ((first
          | (go_at_call 22; exact Calls.quiet_of (HSM.out _))
          | (go_at_call 21; exact Calls.quiet_of_same (HSZ.out _))))
        go_wp2
        go_ret
        exact ⟨rfl, HP8.out.below.grown (drawn_grown ⟨_, rfl⟩ none) HP8.out.below.size (fun _ e => by cases e)⟩
end Go.Proofs.Ytkfijgdbaihhpaa.DiskPlaysUpto
