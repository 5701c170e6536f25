/- The project's PutCatalogue, with catalogueMayBe. -/
import Derived.Test.YtkiohneggoiipaaCodecVolume
namespace Go.Proofs.Ytkiohneggoiipaa.Codec
open Go.RowKit CrcMath CodecMath Mem Crc

theorem catOk_eq {next : Int} {stack vs : List Int} {ns nv : Nat} (hs : stack.length = ns) (hv : vs.length = 6 * nv) : catOk next stack vs = (inB next 1073741824 && (decide (ns ≤ 8) && decide (nv = 8)) && allB stack 1023 && volsOk vs) := by
  have : decide (vs.length = 48) = decide (nv = 8) := by rw [Bool.eq_iff_iff]; simp; omega
  rw [catOk, this, hs]
/-- Six numbers of a row of volumes: the j-th volume's. -/
theorem vol_six {vs : List Int} (j : Nat) :
    volOk (vs.getD (6 * j) 0) (vs.getD (6 * j + 1) 0) (vs.getD (6 * j + 2) 0) (vs.getD (6 * j + 3) 0) (vs.getD (6 * j + 4) 0) (vs.getD (6 * j + 5) 0) = true ↔ ∀ q, 6 * j ≤ q → q < 6 * j + 6 → inB (vs.getD q 0) (most (q % 6)) = true := by
  constructor
  · intro hh q h1 h2
    simp only [volOk, Bool.and_eq_true] at hh
    obtain ⟨a0, a1, a2, a3, a4, a5⟩ := hh
    obtain rfl | rfl | rfl | rfl | rfl | rfl : q = 6 * j ∨ q = 6 * j + 1 ∨ q = 6 * j + 2 ∨ q = 6 * j + 3 ∨ q = 6 * j + 4 ∨ q = 6 * j + 5 := by omega
    · rw [show 6 * j % 6 = 0 from by omega]; exact a0
    · rw [show (6 * j + 1) % 6 = 1 from by omega]; exact a1
    · rw [show (6 * j + 2) % 6 = 2 from by omega]; exact a2
    · rw [show (6 * j + 3) % 6 = 3 from by omega]; exact a3
    · rw [show (6 * j + 4) % 6 = 4 from by omega]; exact a4
    · rw [show (6 * j + 5) % 6 = 5 from by omega]; exact a5
  · intro hh
    have h0 := hh (6 * j) (by omega) (by omega)
    have h1 := hh (6 * j + 1) (by omega) (by omega)
    have h2 := hh (6 * j + 2) (by omega) (by omega)
    have h3 := hh (6 * j + 3) (by omega) (by omega)
    have h4 := hh (6 * j + 4) (by omega) (by omega)
    have h5 := hh (6 * j + 5) (by omega) (by omega)
    rw [show 6 * j % 6 = 0 from by omega] at h0
    rw [show (6 * j + 1) % 6 = 1 from by omega] at h1
    rw [show (6 * j + 2) % 6 = 2 from by omega] at h2
    rw [show (6 * j + 3) % 6 = 3 from by omega] at h3
    rw [show (6 * j + 4) % 6 = 4 from by omega] at h4
    rw [show (6 * j + 5) % 6 = 5 from by omega] at h5
    simp only [volOk, Bool.and_eq_true]
    exact ⟨h0, h1, h2, h3, h4, h5⟩
set_option maxRecDepth 100000 in
set_option maxHeartbeats 1600000 in
theorem catmay_any (b : Nat) (next : Int) (AV AS : Option Addr) (nv cv ns cs : Nat) (stack vs : List Int) (w : World) (hs : Ints w b AS ns stack) (hv : Ints w b AV (6 * nv) vs) (hns : ns ≤ 9223372036854775807) :
    Calls Try.prog 71 #[.agg #[.int .i64 next, .slice AV nv cv, .slice AS ns cs]] w fun e w' => e = .returned (.bool (catOk next stack vs)) ∧ w.grownBy w' none := by
  obtain ⟨ok, hok⟩ : ∃ ok, ok = catOk next stack vs := ⟨_, rfl⟩
  rw [← hok]
  have HOK := Lib.hid (hok.trans (catOk_eq (next := next) hs.1 hv.1)); clear hok
  have hga := World.grownBy_alloc w (.cells #[.int .i64 next, .slice AV nv cv, .slice AS ns cs] 75) none
  have HG0 := Lib.hid hga; have HS := Lib.hid (ints_keep hs hga (.inl rfl)); have HV := Lib.hid hv; have HVL := Lib.hid hv.1
  clear hs hv hga
  cases hn : inB next 1073741824 with
  | false =>
    have H0 := Lib.hid hn; clear hn
    have HN := Lib.hid (show ok = false by rw [HOK.out, H0.out]; simp)
    go_enter Try.func71, Try.ntmps71
    go_wp2_with fail
    refine (within_any next _ _).mono ?_
    rintro e w2 ⟨rfl, rfl⟩
    rw [H0.out]
    go_wp2
    go_ret
    exact ⟨by rw [HN.out]; rfl, HG0.out⟩
  | true =>
    have H0 := Lib.hid hn; clear hn
    by_cases h8 : ns ≤ 8
    · have h8' : ¬ ((8 : Int) < (ns : Int)) := by omega
      cases hst : allB stack 1023 with
      | false =>
        have H1 := Lib.hid hst; clear hst
        have HN := Lib.hid (show ok = false by rw [HOK.out, H1.out]; simp)
        go_enter Try.func71, Try.ntmps71
        go_wp2_with fail
        refine (within_any next _ _).mono ?_
        rintro e w2 ⟨rfl, rfl⟩
        rw [H0.out]
        go_wp2_with fail
        refine (allwithin_any b AS ns cs stack 1023 _ HS.out hns).mono ?_
        rintro e w2 ⟨rfl, rfl⟩
        rw [H1.out]
        go_wp2
        go_ret
        exact ⟨by rw [HN.out]; rfl, HG0.out⟩
      | true =>
        have H1 := Lib.hid hst; clear hst
        by_cases hv8 : nv = 8
        · subst hv8
          have HOV := Lib.hid (show ok = volsOk vs by rw [HOK.out, H0.out, H1.out]; simp [h8])
          go_enter Try.func71, Try.ntmps71
          go_wp2_with fail
          refine (within_any next _ _).mono ?_
          rintro e w2 ⟨rfl, rfl⟩
          rw [H0.out]
          go_wp2_with fail
          refine (allwithin_any b AS ns cs stack 1023 _ HS.out hns).mono ?_
          rintro e w2 ⟨rfl, rfl⟩
          rw [H1.out]
          go_wp2_with fail
          go_loopw [4, 30] (fun _ i wr => ∃ j : Nat, j ≤ 8 ∧ i = .int .i64 j ∧ w.grownBy wr none ∧ (∀ q, q < 6 * j → inB (vs.getD q 0) (most (q % 6)) = true)) (fun _ i _ => 8 - (intOf i).toNat)
          case atStart => exact ⟨0, by omega, rfl, HG0.out, fun q hq => by omega⟩
          case round =>
            obtain ⟨j, hj, rfl, hg, hin⟩ := hrel
            have HG := Lib.hid hg; have HIN := Lib.hid hin; clear hg hin
            by_cases hlt : j < 8
            · obtain ⟨g, o, rfl, hgl, _, hcl⟩ := (ints_keep HV.out HG.out (.inl rfl)).2.2 (by omega)
              have c0 := hcl (6 * j) (by omega)
              rw [show o + 6 * j = o + j * 6 from by omega] at c0
              have c1 := hcl (6 * j + 1) (by omega)
              rw [show o + (6 * j + 1) = o + j * 6 + 1 from by omega] at c1
              have c2 := hcl (6 * j + 2) (by omega)
              rw [show o + (6 * j + 2) = o + j * 6 + 2 from by omega] at c2
              have c3 := hcl (6 * j + 3) (by omega)
              rw [show o + (6 * j + 3) = o + j * 6 + 3 from by omega] at c3
              have c4 := hcl (6 * j + 4) (by omega)
              rw [show o + (6 * j + 4) = o + j * 6 + 4 from by omega] at c4
              have c5 := hcl (6 * j + 5) (by omega)
              rw [show o + (6 * j + 5) = o + j * 6 + 5 from by omega] at c5
              clear hcl
              have HSIX := Lib.hid (vol_six (vs := vs) j)
              generalize vs.getD (6 * j) 0 = a0 at *
              generalize vs.getD (6 * j + 1) 0 = a1 at *
              generalize vs.getD (6 * j + 2) 0 = a2 at *
              generalize vs.getD (6 * j + 3) 0 = a3 at *
              generalize vs.getD (6 * j + 4) 0 = a4 at *
              generalize vs.getD (6 * j + 5) 0 = a5 at *
              have hsz := HG.out.size
              go_wp2_with fail
              refine (volmay_any a0 a1 a2 a3 a4 a5 _).mono ?_
              rintro e w2 ⟨rfl, rfl⟩
              have HG2 := Lib.hid ((HG.out.trans (World.grownBy_alloc wr (.cells #[.int .i64 a0, .int .i64 a1, .int .i64 a2, .int .i64 a3, .int .i64 a4, .int .i64 a5] 129) none)).trans (World.grownBy_alloc _ (.cells #[.int .i64 a0, .int .i64 a1, .int .i64 a2, .int .i64 a3, .int .i64 a4, .int .i64 a5] 129) none))
              cases hvo : volOk a0 a1 a2 a3 a4 a5 with
              | false =>
                have HN := Lib.hid (show ok = false by
                  rw [HOV.out]
                  cases hvv : volsOk vs with
                  | false => rfl
                  | true =>
                    have := HSIX.out.2 (fun q h1 h2 => inB_mk (volsOk_yes hvv q (by rw [HVL.out]; omega)))
                    rw [hvo] at this
                    cases this)
                clear hvo c0 c1 c2 c3 c4 c5
                go_wp2
                go_ret
                exact ⟨by rw [HN.out]; rfl, HG2.out⟩
              | true =>
                have HQ := Lib.hid (HSIX.out.1 hvo)
                clear hvo c0 c1 c2 c3 c4 c5
                go_wp2_with fail
                go_roundw
                case rel => exact ⟨j + 1, by omega, by go_num, HG2.out, fun q hq => by
                  by_cases h : q < 6 * j
                  · exact HIN.out q h
                  · exact HQ.out q (by omega) (by omega)⟩
                case measure => simp [intOf]; omega
            · obtain rfl : j = 8 := by omega
              have HN := Lib.hid (show ok = true by rw [HOV.out]; exact volsOk_mk (fun q hq => HIN.out q (by rw [HVL.out] at hq; omega)))
              go_wp2
              go_ret
              exact ⟨by rw [HN.out]; rfl, HG.out⟩
        · have HN := Lib.hid (show ok = false by rw [HOK.out]; simp [hv8])
          have hne : (((nv : Nat) : Int) != 8) = true := by simp; omega
          go_enter Try.func71, Try.ntmps71
          go_wp2_with fail
          refine (within_any next _ _).mono ?_
          rintro e w2 ⟨rfl, rfl⟩
          rw [H0.out]
          go_wp2_with fail
          refine (allwithin_any b AS ns cs stack 1023 _ HS.out hns).mono ?_
          rintro e w2 ⟨rfl, rfl⟩
          rw [H1.out]
          go_wp2
          go_ret
          exact ⟨by rw [HN.out]; rfl, HG0.out⟩
    · have HN := Lib.hid (show ok = false by rw [HOK.out]; simp [h8])
      have h8' : (8 : Int) < (ns : Int) := by omega
      go_enter Try.func71, Try.ntmps71
      go_wp2_with fail
      refine (within_any next _ _).mono ?_
      rintro e w2 ⟨rfl, rfl⟩
      rw [H0.out]
      go_wp2
      go_ret
      exact ⟨by rw [HN.out]; rfl, HG0.out⟩
end Go.Proofs.Ytkiohneggoiipaa.Codec
