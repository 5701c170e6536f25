/- The project's calls for catalogues: volumeMayBe, catalogueMayBe, putVolume, PutCatalogue. -/
import Derived.Test.YtkiohneggoiipaaCodecPagePut
import Derived.Test.YtkiohneggoiipaaCodecSpec4
namespace Go.Proofs.Ytkiohneggoiipaa.Codec
open Go.RowKit CrcMath CodecMath Mem Crc

def volOk (a0 a1 a2 a3 a4 a5 : Int) : Bool := inB a0 1073741824 && (inB a1 2 && (inB a2 1048576 && (inB a3 1048576 && (inB a4 1023 && inB a5 1048576))))
set_option maxRecDepth 100000 in
set_option maxHeartbeats 800000 in
theorem volmay_any (a0 a1 a2 a3 a4 a5 : Int) (w : World) :
    Calls Try.prog 79 #[.agg #[.int .i64 a0, .int .i64 a1, .int .i64 a2, .int .i64 a3, .int .i64 a4, .int .i64 a5]] w fun e w' => e = .returned (.bool (volOk a0 a1 a2 a3 a4 a5)) ∧ w' = w.alloc (.cells #[.int .i64 a0, .int .i64 a1, .int .i64 a2, .int .i64 a3, .int .i64 a4, .int .i64 a5] 129) := by
  obtain ⟨ok, hok⟩ : ∃ ok, ok = volOk a0 a1 a2 a3 a4 a5 := ⟨_, rfl⟩
  rw [← hok]
  have HOK := Lib.hid (show ok = (inB a0 1073741824 && (inB a1 2 && (inB a2 1048576 && (inB a3 1048576 && (inB a4 1023 && inB a5 1048576))))) from hok); clear hok
  cases h0 : inB a0 1073741824 with
  | false =>
    have H0 := Lib.hid h0; clear h0
    have HN := Lib.hid (show ok = false by rw [HOK.out, H0.out]; simp)
    go_enter Try.func79, Try.ntmps79
    go_wp2_with fail
    refine (within_any a0 _ _).mono ?_
    rintro e w2 ⟨rfl, rfl⟩
    rw [H0.out]
    go_wp2
    go_ret
    exact ⟨by rw [HN.out]; rfl, rfl⟩
  | true =>
    have H0 := Lib.hid h0; clear h0
    cases h1 : inB a1 2 with
    | false =>
      have H1 := Lib.hid h1; clear h1
      have HN := Lib.hid (show ok = false by rw [HOK.out, H0.out, H1.out]; simp)
      go_enter Try.func79, Try.ntmps79
      go_wp2_with fail
      refine (within_any a0 _ _).mono ?_
      rintro e w2 ⟨rfl, rfl⟩
      rw [H0.out]
      go_wp2_with fail
      refine (within_any a1 _ _).mono ?_
      rintro e w2 ⟨rfl, rfl⟩
      rw [H1.out]
      go_wp2
      go_ret
      exact ⟨by rw [HN.out]; rfl, rfl⟩
    | true =>
      have H1 := Lib.hid h1; clear h1
      cases h2 : inB a2 1048576 with
      | false =>
        have H2 := Lib.hid h2; clear h2
        have HN := Lib.hid (show ok = false by rw [HOK.out, H0.out, H1.out, H2.out]; simp)
        go_enter Try.func79, Try.ntmps79
        go_wp2_with fail
        refine (within_any a0 _ _).mono ?_
        rintro e w2 ⟨rfl, rfl⟩
        rw [H0.out]
        go_wp2_with fail
        refine (within_any a1 _ _).mono ?_
        rintro e w2 ⟨rfl, rfl⟩
        rw [H1.out]
        go_wp2_with fail
        refine (within_any a2 _ _).mono ?_
        rintro e w2 ⟨rfl, rfl⟩
        rw [H2.out]
        go_wp2
        go_ret
        exact ⟨by rw [HN.out]; rfl, rfl⟩
      | true =>
        have H2 := Lib.hid h2; clear h2
        cases h3 : inB a3 1048576 with
        | false =>
          have H3 := Lib.hid h3; clear h3
          have HN := Lib.hid (show ok = false by rw [HOK.out, H0.out, H1.out, H2.out, H3.out]; simp)
          go_enter Try.func79, Try.ntmps79
          go_wp2_with fail
          refine (within_any a0 _ _).mono ?_
          rintro e w2 ⟨rfl, rfl⟩
          rw [H0.out]
          go_wp2_with fail
          refine (within_any a1 _ _).mono ?_
          rintro e w2 ⟨rfl, rfl⟩
          rw [H1.out]
          go_wp2_with fail
          refine (within_any a2 _ _).mono ?_
          rintro e w2 ⟨rfl, rfl⟩
          rw [H2.out]
          go_wp2_with fail
          refine (within_any a3 _ _).mono ?_
          rintro e w2 ⟨rfl, rfl⟩
          rw [H3.out]
          go_wp2
          go_ret
          exact ⟨by rw [HN.out]; rfl, rfl⟩
        | true =>
          have H3 := Lib.hid h3; clear h3
          cases h4 : inB a4 1023 with
          | false =>
            have H4 := Lib.hid h4; clear h4
            have HN := Lib.hid (show ok = false by rw [HOK.out, H0.out, H1.out, H2.out, H3.out, H4.out]; simp)
            go_enter Try.func79, Try.ntmps79
            go_wp2_with fail
            refine (within_any a0 _ _).mono ?_
            rintro e w2 ⟨rfl, rfl⟩
            rw [H0.out]
            go_wp2_with fail
            refine (within_any a1 _ _).mono ?_
            rintro e w2 ⟨rfl, rfl⟩
            rw [H1.out]
            go_wp2_with fail
            refine (within_any a2 _ _).mono ?_
            rintro e w2 ⟨rfl, rfl⟩
            rw [H2.out]
            go_wp2_with fail
            refine (within_any a3 _ _).mono ?_
            rintro e w2 ⟨rfl, rfl⟩
            rw [H3.out]
            go_wp2_with fail
            refine (within_any a4 _ _).mono ?_
            rintro e w2 ⟨rfl, rfl⟩
            rw [H4.out]
            go_wp2
            go_ret
            exact ⟨by rw [HN.out]; rfl, rfl⟩
          | true =>
            have H4 := Lib.hid h4; clear h4
            cases h5 : inB a5 1048576 with
            | false =>
              have H5 := Lib.hid h5; clear h5
              have HN := Lib.hid (show ok = false by rw [HOK.out, H0.out, H1.out, H2.out, H3.out, H4.out, H5.out]; simp)
              go_enter Try.func79, Try.ntmps79
              go_wp2_with fail
              refine (within_any a0 _ _).mono ?_
              rintro e w2 ⟨rfl, rfl⟩
              rw [H0.out]
              go_wp2_with fail
              refine (within_any a1 _ _).mono ?_
              rintro e w2 ⟨rfl, rfl⟩
              rw [H1.out]
              go_wp2_with fail
              refine (within_any a2 _ _).mono ?_
              rintro e w2 ⟨rfl, rfl⟩
              rw [H2.out]
              go_wp2_with fail
              refine (within_any a3 _ _).mono ?_
              rintro e w2 ⟨rfl, rfl⟩
              rw [H3.out]
              go_wp2_with fail
              refine (within_any a4 _ _).mono ?_
              rintro e w2 ⟨rfl, rfl⟩
              rw [H4.out]
              go_wp2_with fail
              refine (within_any a5 _ _).mono ?_
              rintro e w2 ⟨rfl, rfl⟩
              rw [H5.out]
              go_wp2
              go_ret
              exact ⟨by rw [HN.out]; rfl, rfl⟩
            | true =>
              have H5 := Lib.hid h5; clear h5
              have HN := Lib.hid (show ok = true by rw [HOK.out, H0.out, H1.out, H2.out, H3.out, H4.out, H5.out]; rfl)
              go_enter Try.func79, Try.ntmps79
              go_wp2_with fail
              refine (within_any a0 _ _).mono ?_
              rintro e w2 ⟨rfl, rfl⟩
              rw [H0.out]
              go_wp2_with fail
              refine (within_any a1 _ _).mono ?_
              rintro e w2 ⟨rfl, rfl⟩
              rw [H1.out]
              go_wp2_with fail
              refine (within_any a2 _ _).mono ?_
              rintro e w2 ⟨rfl, rfl⟩
              rw [H2.out]
              go_wp2_with fail
              refine (within_any a3 _ _).mono ?_
              rintro e w2 ⟨rfl, rfl⟩
              rw [H3.out]
              go_wp2_with fail
              refine (within_any a4 _ _).mono ?_
              rintro e w2 ⟨rfl, rfl⟩
              rw [H4.out]
              go_wp2_with fail
              refine (within_any a5 _ _).mono ?_
              rintro e w2 ⟨rfl, rfl⟩
              rw [H5.out]
              go_wp2
              go_ret
              exact ⟨by rw [HN.out]; rfl, rfl⟩

/-- A volume's bytes. -/
def volB (m0 m1 m2 m3 m4 m5 : Nat) : List Nat := be 4 m0 ++ be 1 m1 ++ be 4 m2 ++ be 4 m3 ++ be 2 m4 ++ be 4 m5
theorem volB_len (m0 m1 m2 m3 m4 m5 : Nat) : (volB m0 m1 m2 m3 m4 m5).length = 19 := by simp [volB, be_length]
set_option maxRecDepth 100000 in
set_option maxHeartbeats 1600000 in
theorem putvolume_any (p g : Nat) (t : TypeId) (pre : List Nat) (m0 m1 m2 m3 m4 m5 : Nat) (w : World) (hc : Cur w p g pre.length (240 - pre.length)) (hg : Blk w g t (u8s (fill pre 240)).toArray) (ht : t ≠ 108) (hn : pre.length + 19 ≤ 240) :
    Calls Try.prog 72 #[.pointer (some ⟨p, 0, none⟩), .agg #[.int .i64 (m0 : Nat), .int .i64 (m1 : Nat), .int .i64 (m2 : Nat), .int .i64 (m3 : Nat), .int .i64 (m4 : Nat), .int .i64 (m5 : Nat)]] w fun e w' =>
      e = .returned (.tuple #[]) ∧ Left w w' p g ∧ Cur w' p g (pre.length + 19) (240 - pre.length - 19) ∧ Blk w' g t (u8s (fill (pre ++ volB m0 m1 m2 m3 m4 m5) 240)).toArray := by
  have hpl : p < w.heap.size := by obtain ⟨_, h, _⟩ := hc; exact h.lt
  have hgl := hg.lt
  have hga := World.grownBy_alloc w (.cells #[.int .i64 (m0 : Nat), .int .i64 (m1 : Nat), .int .i64 (m2 : Nat), .int .i64 (m3 : Nat), .int .i64 (m4 : Nat), .int .i64 (m5 : Nat)] 129) none
  have HL0 := Lib.hid (Left.of0 hga p g); have HC0 := Lib.hid (hc.grown hga (by simp)); have HB0 := Lib.hid (hg.alloc (.cells #[.int .i64 (m0 : Nat), .int .i64 (m1 : Nat), .int .i64 (m2 : Nat), .int .i64 (m3 : Nat), .int .i64 (m4 : Nat), .int .i64 (m5 : Nat)] 129)); have HX0 := Lib.hid (Blk.new w 129 #[.int .i64 (m0 : Nat), .int .i64 (m1 : Nat), .int .i64 (m2 : Nat), .int .i64 (m3 : Nat), .int .i64 (m4 : Nat), .int .i64 (m5 : Nat)])
  obtain ⟨n, hn'⟩ : ∃ n, n = pre.length := ⟨_, rfl⟩
  rw [← hn'] at HC0 ⊢
  rw [← hn'] at hn
  have HNN := Lib.hid hn'
  clear hc hg hga hn'
  go_enter Try.func72, Try.ntmps72
  go_wp2_with fail
  have hl0 : (pre).length = n + 0 := by rw [HNN.out]; simp
  have hf0 := fill_length (pre) 240 (by omega)
  refine (write_any p g (n + 0) (240 - n - 0) 4 m0 t (fill (pre) 240) _ HC0.out HB0.out ht (by omega) (by omega) (by omega) (by omega)).mono ?_
  rintro e w1 ⟨rfl, hlf, hc, hb⟩
  have hly := lay_fill (pre) (be 4 m0) 240
  rw [hl0] at hly
  rw [hly] at hb
  have hx := hlf.blk HX0.out (by omega) (by omega)
  have HL1 := Lib.hid (HL0.out.trans hlf); have HC1 := Lib.hid (show Cur w1 p g (n + 4) (240 - n - 4) by
    rw [show n + 4 = n + 0 + 4 from by omega, show 240 - n - 4 = 240 - n - 0 - 4 from by omega]; exact hc); have HB1 := Lib.hid hb; have HX1 := Lib.hid hx
  have x1 := hx.cell 1
  simp only [List.getElem?_toArray, List.getElem?_cons_zero, List.getElem?_cons_succ] at x1
  clear hlf hc hb hx hly hl0 hf0
  go_wp2_with fail
  clear x1
  have hl1 : (pre ++ be 4 m0).length = n + 4 := by rw [HNN.out]; simp [be_length]
  have hf1 := fill_length (pre ++ be 4 m0) 240 (by omega)
  refine (write_any p g (n + 4) (240 - n - 4) 1 m1 t (fill (pre ++ be 4 m0) 240) _ HC1.out HB1.out ht (by omega) (by omega) (by omega) (by omega)).mono ?_
  rintro e w2 ⟨rfl, hlf, hc, hb⟩
  have hly := lay_fill (pre ++ be 4 m0) (be 1 m1) 240
  rw [hl1] at hly
  rw [hly] at hb
  have hx := hlf.blk HX1.out (by omega) (by omega)
  have HL2 := Lib.hid (HL1.out.trans hlf); have HC2 := Lib.hid (show Cur w2 p g (n + 5) (240 - n - 5) by
    rw [show n + 5 = n + 4 + 1 from by omega, show 240 - n - 5 = 240 - n - 4 - 1 from by omega]; exact hc); have HB2 := Lib.hid hb; have HX2 := Lib.hid hx
  have x2 := hx.cell 2
  simp only [List.getElem?_toArray, List.getElem?_cons_zero, List.getElem?_cons_succ] at x2
  clear hlf hc hb hx hly hl1 hf1
  go_wp2_with fail
  clear x2
  have hl2 : (pre ++ be 4 m0 ++ be 1 m1).length = n + 5 := by rw [HNN.out]; simp [be_length]
  have hf2 := fill_length (pre ++ be 4 m0 ++ be 1 m1) 240 (by omega)
  refine (write_any p g (n + 5) (240 - n - 5) 4 m2 t (fill (pre ++ be 4 m0 ++ be 1 m1) 240) _ HC2.out HB2.out ht (by omega) (by omega) (by omega) (by omega)).mono ?_
  rintro e w3 ⟨rfl, hlf, hc, hb⟩
  have hly := lay_fill (pre ++ be 4 m0 ++ be 1 m1) (be 4 m2) 240
  rw [hl2] at hly
  rw [hly] at hb
  have hx := hlf.blk HX2.out (by omega) (by omega)
  have HL3 := Lib.hid (HL2.out.trans hlf); have HC3 := Lib.hid (show Cur w3 p g (n + 9) (240 - n - 9) by
    rw [show n + 9 = n + 5 + 4 from by omega, show 240 - n - 9 = 240 - n - 5 - 4 from by omega]; exact hc); have HB3 := Lib.hid hb; have HX3 := Lib.hid hx
  have x3 := hx.cell 3
  simp only [List.getElem?_toArray, List.getElem?_cons_zero, List.getElem?_cons_succ] at x3
  clear hlf hc hb hx hly hl2 hf2
  go_wp2_with fail
  clear x3
  have hl3 : (pre ++ be 4 m0 ++ be 1 m1 ++ be 4 m2).length = n + 9 := by rw [HNN.out]; simp [be_length]
  have hf3 := fill_length (pre ++ be 4 m0 ++ be 1 m1 ++ be 4 m2) 240 (by omega)
  refine (write_any p g (n + 9) (240 - n - 9) 4 m3 t (fill (pre ++ be 4 m0 ++ be 1 m1 ++ be 4 m2) 240) _ HC3.out HB3.out ht (by omega) (by omega) (by omega) (by omega)).mono ?_
  rintro e w4 ⟨rfl, hlf, hc, hb⟩
  have hly := lay_fill (pre ++ be 4 m0 ++ be 1 m1 ++ be 4 m2) (be 4 m3) 240
  rw [hl3] at hly
  rw [hly] at hb
  have hx := hlf.blk HX3.out (by omega) (by omega)
  have HL4 := Lib.hid (HL3.out.trans hlf); have HC4 := Lib.hid (show Cur w4 p g (n + 13) (240 - n - 13) by
    rw [show n + 13 = n + 9 + 4 from by omega, show 240 - n - 13 = 240 - n - 9 - 4 from by omega]; exact hc); have HB4 := Lib.hid hb; have HX4 := Lib.hid hx
  have x4 := hx.cell 4
  simp only [List.getElem?_toArray, List.getElem?_cons_zero, List.getElem?_cons_succ] at x4
  clear hlf hc hb hx hly hl3 hf3
  go_wp2_with fail
  clear x4
  have hl4 : (pre ++ be 4 m0 ++ be 1 m1 ++ be 4 m2 ++ be 4 m3).length = n + 13 := by rw [HNN.out]; simp [be_length]
  have hf4 := fill_length (pre ++ be 4 m0 ++ be 1 m1 ++ be 4 m2 ++ be 4 m3) 240 (by omega)
  refine (write_any p g (n + 13) (240 - n - 13) 2 m4 t (fill (pre ++ be 4 m0 ++ be 1 m1 ++ be 4 m2 ++ be 4 m3) 240) _ HC4.out HB4.out ht (by omega) (by omega) (by omega) (by omega)).mono ?_
  rintro e w5 ⟨rfl, hlf, hc, hb⟩
  have hly := lay_fill (pre ++ be 4 m0 ++ be 1 m1 ++ be 4 m2 ++ be 4 m3) (be 2 m4) 240
  rw [hl4] at hly
  rw [hly] at hb
  have hx := hlf.blk HX4.out (by omega) (by omega)
  have HL5 := Lib.hid (HL4.out.trans hlf); have HC5 := Lib.hid (show Cur w5 p g (n + 15) (240 - n - 15) by
    rw [show n + 15 = n + 13 + 2 from by omega, show 240 - n - 15 = 240 - n - 13 - 2 from by omega]; exact hc); have HB5 := Lib.hid hb; have HX5 := Lib.hid hx
  have x5 := hx.cell 5
  simp only [List.getElem?_toArray, List.getElem?_cons_zero, List.getElem?_cons_succ] at x5
  clear hlf hc hb hx hly hl4 hf4
  go_wp2_with fail
  clear x5
  have hl5 : (pre ++ be 4 m0 ++ be 1 m1 ++ be 4 m2 ++ be 4 m3 ++ be 2 m4).length = n + 15 := by rw [HNN.out]; simp [be_length]
  have hf5 := fill_length (pre ++ be 4 m0 ++ be 1 m1 ++ be 4 m2 ++ be 4 m3 ++ be 2 m4) 240 (by omega)
  refine (write_any p g (n + 15) (240 - n - 15) 4 m5 t (fill (pre ++ be 4 m0 ++ be 1 m1 ++ be 4 m2 ++ be 4 m3 ++ be 2 m4) 240) _ HC5.out HB5.out ht (by omega) (by omega) (by omega) (by omega)).mono ?_
  rintro e w6 ⟨rfl, hlf, hc, hb⟩
  have hly := lay_fill (pre ++ be 4 m0 ++ be 1 m1 ++ be 4 m2 ++ be 4 m3 ++ be 2 m4) (be 4 m5) 240
  rw [hl5] at hly
  rw [hly] at hb
  have hx := hlf.blk HX5.out (by omega) (by omega)
  have HL6 := Lib.hid (HL5.out.trans hlf); have HC6 := Lib.hid (show Cur w6 p g (n + 19) (240 - n - 19) by
    rw [show n + 19 = n + 15 + 4 from by omega, show 240 - n - 19 = 240 - n - 15 - 4 from by omega]; exact hc); have HB6 := Lib.hid hb; have HX6 := Lib.hid hx
  clear hlf hc hb hx hly hl5 hf5
  go_wp2_with fail
  go_end0
  refine ⟨rfl, HL6.out, HC6.out, ?_⟩
  have h := HB6.out
  rwa [show pre ++ be 4 m0 ++ be 1 m1 ++ be 4 m2 ++ be 4 m3 ++ be 2 m4 ++ be 4 m5 = pre ++ volB m0 m1 m2 m3 m4 m5 from by simp [volB]] at h
end Go.Proofs.Ytkiohneggoiipaa.Codec
