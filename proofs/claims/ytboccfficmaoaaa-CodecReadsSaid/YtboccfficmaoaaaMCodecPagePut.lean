/- Texts of this seat's proofs: CodecPagePut, CodecVolume, CodecCatPut, CodecCatPut2, CodecNodePut, CodecImagePut. -/
import Derived.Test.YtboccfficmaoaaaMCodecPage
import Derived.Test.YtboccfficmaoaaaMRefNode
import Derived.Test.YtboccfficmaoaaaMCodecSpec
import Derived.Deep.RegionLaw
import Derived.Deep.DeepCutAuto
/- The project's PutPage. -/
namespace Go.Proofs.Ytboccfficmaoaaa.Codec
open Go.RowKit CrcMath CodecMath Mem Crc

def pageP (k m : Nat) : List Nat := [80, 80, 65, 71] ++ be 1 k ++ be 4 m
theorem pageP_len (k m : Nat) : (pageP k m).length = 9 := by simp [pageP, be_length]
theorem pageP_all (k m : Nat) (l : List Nat) : pageP k m ++ [0, 0, 0] ++ l = pageB (m : Int) (k : Int) l := by simp [pageP, pageB]
set_option maxRecDepth 100000 in
set_option maxHeartbeats 1600000 in
theorem put_page_core (b b2 : Nat) (S : Option Nat) (number kind : Int) (A : Option Addr) (n c : Nat) (l : List Nat) (w : World) (hT : TabS w b S) (hl : Bytes w b2 A n l) :
    Calls Try.prog 48 #[.pointer (some ⟨b, 0, none⟩), .agg #[.int .i64 number, .int .i64 kind, .slice A n c]] w (GivesT w S b (pageW number kind l)) := by
  have hlen := hl.1
  have hlt := hl.2.1
  have HT := Lib.hid hT; have HLEN := Lib.hid hlen; have HLT := Lib.hid hlt; have HL := Lib.hid hl; clear hT hl hlen hlt
  have hz := zero256
  have hg0 := (World.grownBy_alloc w (.cells #[.int .i64 number, .int .i64 kind, .slice A n c] 46) none).trans (World.grownBy_alloc _ (.cells #[.int .i64 number, .int .i64 kind, .slice A n c] 46) none)
  have hbx := (Blk.new w 46 #[.int .i64 number, .int .i64 kind, .slice A n c]).alloc (.cells #[.int .i64 number, .int .i64 kind, .slice A n c] 46)
  have HG0 := Lib.hid hg0; have HBX := Lib.hid hbx; clear hg0 hbx
  cases hok : pageOk number kind l with
  | false =>
    have HNO := Lib.hid (show pageW number kind l = none by rw [pageW, hok]; rfl)
    have HOK := Lib.hid hok; clear hok
    go_enter Try.func48, Try.ntmps48
    go_wp2_with fail
    refine (imagemay_any number kind A n c l _ HLEN.out HLT.out).mono ?_
    rintro e w1 ⟨rfl, rfl⟩
    rw [HOK.out]
    go_wp2
    go_ret2
    exact ⟨grown_any_row HG0.out S, .inr ⟨HNO.out, rfl, HG0.out⟩⟩
  | true =>
    have HYES := Lib.hid (show pageW number kind l = some (frame (pageB number kind l)) by rw [pageW, hok]; rfl)
    obtain ⟨⟨hk0, hk1⟩, ⟨hm0, hm1⟩, hb240, _⟩ := pageOk_iff hok
    have HOK := Lib.hid hok; clear hok
    obtain rfl : n = 240 := by rw [← HLEN.out, hb240]
    obtain ⟨k, rfl⟩ := Int.eq_ofNat_of_zero_le (show 0 ≤ kind by omega)
    obtain ⟨m, rfl⟩ := Int.eq_ofNat_of_zero_le hm0
    clear hb240
    have HFZ := Lib.hid (fill_zero 256)
    generalize hzz : Array.replicate 256 (Value.int .u8 0) = zs at *
    clear hzz
    have hst := start_row HG0.out 133 256 zs HFZ.out
    simp only [World.size_alloc] at hst
    obtain ⟨hg1, hc1, hb1⟩ := hst
    have HG1 := Lib.hid hg1; have HC1 := Lib.hid hc1; have HB1 := Lib.hid hb1; have HBA := Lib.hid ((HBX.out.alloc (.cells zs 133)).alloc (.cells #[.slice (some ⟨w.heap.size + 1 + 1, 0, none⟩) 256 256] 99))
    clear hg1 hc1 hb1
    go_enter Try.func48, Try.ntmps48
    go_wp2_with fail
    refine (imagemay_any m k A 240 c l _ HLEN.out HLT.out).mono ?_
    rintro e w1 ⟨rfl, rfl⟩
    rw [HOK.out]
    go_wp2_with fail
    refine (mark_any _ _ 0 256 _ _ _ [80, 80, 65, 71] _ HC1.out HB1.out (by decide) rfl rfl (by omega) (by rw [fill_length _ _ (by simp)]; omega) (by rw [fill_length _ _ (by simp)]; omega)).mono ?_
    rintro e w2 ⟨rfl, hlf, hc2, hb2⟩
    rw [show lay (fill [] 256) 0 [80, 80, 65, 71] = fill [80, 80, 65, 71] 256 from lay_fill [] [80, 80, 65, 71] 256] at hb2
    have hbx2 := hlf.blk HBA.out (by omega) (by omega)
    have HG2 := Lib.hid (hlf.new HG1.out (by omega) (by omega)); have HC2 := Lib.hid hc2; have HB2 := Lib.hid hb2; have HX2 := Lib.hid hbx2
    have x1 := hbx2.cell 1
    simp only [List.getElem?_toArray, List.getElem?_cons_zero, List.getElem?_cons_succ] at x1
    clear hlf hc2 hb2 hbx2 HG1 HC1 HB1 HBA
    go_wp2_with fail
    refine (write_any _ _ 4 252 1 k _ _ _ HC2.out HB2.out (by decide) (by omega) (by rw [fill_length _ _ (by simp)]; omega) (by rw [fill_length _ _ (by simp)]; omega) (by omega)).mono ?_
    rintro e w3 ⟨rfl, hlf, hc3, hb3⟩
    rw [show lay (fill [80, 80, 65, 71] 256) 4 (be 1 k) = fill ([80, 80, 65, 71] ++ be 1 k) 256 from lay_fill [80, 80, 65, 71] (be 1 k) 256] at hb3
    have hbx3 := hlf.blk HX2.out (by omega) (by omega)
    have HG3 := Lib.hid (hlf.new HG2.out (by omega) (by omega)); have HC3 := Lib.hid hc3; have HB3 := Lib.hid hb3; have HX3 := Lib.hid hbx3
    have x0 := hbx3.cell 0
    simp only [List.getElem?_toArray, List.getElem?_cons_zero] at x0
    clear hlf hc3 hb3 hbx3 x1
    go_wp2_with fail
    refine (write_any _ _ 5 251 4 m _ _ _ HC3.out HB3.out (by decide) (by omega) (by rw [fill_length _ _ (by simp [be_length])]; omega) (by rw [fill_length _ _ (by simp [be_length])]; omega) (by omega)).mono ?_
    rintro e w4 ⟨rfl, hlf, hc4, hb4⟩
    rw [show lay (fill ([80, 80, 65, 71] ++ be 1 k) 256) 5 (be 4 m) = fill (pageP k m) 256 from lay_fill ([80, 80, 65, 71] ++ be 1 k) (be 4 m) 256] at hb4
    have hbx4 := hlf.blk HX3.out (by omega) (by omega)
    have HG4 := Lib.hid (hlf.new HG3.out (by omega) (by omega)); have HC4 := Lib.hid hc4; have HB4 := Lib.hid hb4; have HX4 := Lib.hid hbx4
    clear hlf hc4 hb4 hbx4 x0
    go_wp2_with fail
    refine (take_any _ _ 9 247 3 _ HC4.out (by omega) (by omega)).mono ?_
    rintro e w5 ⟨⟨k5, rfl, _⟩, hr5, hc5⟩
    have hb5 := HB4.out.grown hr5 (by simp)
    rw [show fill (pageP k m) 256 = fill (pageP k m ++ [0, 0, 0]) 256 from (fill_more (pageP k m) 3 256 (by rw [pageP_len]; omega)).symm] at hb5
    have hx5 := HX4.out.grown hr5 (by simp; omega)
    have HG5 := Lib.hid (grownBy_new HG4.out hr5 (fun j hj => by cases hj; omega)); have HC5 := Lib.hid hc5; have HB5 := Lib.hid hb5; have HX5 := Lib.hid hx5
    have x2 := hx5.cell 2
    simp only [List.getElem?_toArray, List.getElem?_cons_zero, List.getElem?_cons_succ] at x2
    have HLY := Lib.hid (show lay (fill (pageP k m ++ [0, 0, 0]) 256) 12 l = fill (pageB m k l) 256 by
      rw [← pageP_all]
      have h := lay_fill (pageP k m ++ [0, 0, 0]) l 256
      have h12 : (pageP k m ++ [0, 0, 0]).length = 12 := by rw [List.length_append, pageP_len]; rfl
      rwa [h12] at h)
    have hl5 := bytes_keepN (bytes_new (p := w.heap.size + 1 + 1 + 1) HL.out (by omega)) HG5.out
    obtain ⟨ga, oa, rfl, _, _, _⟩ := hl5.2.2 (by omega)
    have HL5 := Lib.hid hl5
    have HFL := Lib.hid (fill_length (pageP k m ++ [0, 0, 0]) 256 (by rw [List.length_append, pageP_len]; simp))
    clear hr5 hc5 hb5 hx5 hl5
    go_upto_region 9 with fail
    have hn1 : some w.heap.size ≠ some (w.heap.size + 1 + 1 + 1) := by simp; omega
    have hn2 : some (w.heap.size + 1 + 1) ≠ some (w.heap.size + 1 + 1 + 1) := by simp
    have hn3 : ∀ j, some (w.heap.size + 1 + 1 + 1) = some j → w.heap.size ≤ j := fun j hj => by cases hj; omega
    have hn4 : 0 < 240 := by omega
    have HN1 := Lib.hid hn1; have HN2 := Lib.hid hn2; have HN3 := Lib.hid hn3; clear hn1 hn2 hn3
    go_region_law (first
      | (go_simp
         go_at_call 38
         refine (take_any (w.heap.size + 1 + 1 + 1) (w.heap.size + 1 + 1) 12 244 240 _ ?_ ?_ ?_).mono ?_
         exact HC5.out
         omega
         omega
         rintro e w6 ⟨⟨k6, rfl, hk6⟩, hr6, hc6⟩
         obtain rfl := hk6 hn4
         have hx6 := HX5.out.drew.grown hr6 HN1.out
         have HG6 := Lib.hid (grownBy_new (HG5.out.trans (grown_drew _ none)) hr6 HN3.out)
         have HB6 := Lib.hid (HB5.out.drew.grown hr6 HN2.out)
         have HL6 := Lib.hid ((bytes_drew HL5.out).keep hr6)
         have x26 := hx6.cell 2
         simp only [List.getElem?_toArray, List.getElem?_cons_zero, List.getElem?_cons_succ] at x26
         clear hr6 hc6 hx6)
      | (refine step_copy_part rfl (.tmp 25) (.tmp 28) rfl (w.heap.size + 1 + 1) 12 ga oa c 240 240 (w.heap.size + 1 + 1 + 1) 133 (fill (pageP k m ++ [0, 0, 0]) 256) l ?_ ?_ ?_ ?_ ?_ ?_
         rfl
         rfl
         exact HB6.out
         exact HL6.out
         (rw [HFL.out]; omega)))
    all_goals
      rw [HLY.out]
      have hb7 := blk_setRow HB6.out (u8s (fill (pageB m k l) 256)).toArray
      have hg7 := grown_setRow HG6.out (show w.heap.size ≤ w.heap.size + 1 + 1 by omega) (u8s (fill (pageB m k l) 256)).toArray
      generalize w6.setRow (w.heap.size + 1 + 1) (u8s (fill (pageB m k l) 256)).toArray = w7 at *
      obtain ⟨sb, hasks, hleft⟩ := HT.out.asks hg7 (w.heap.size + 1 + 1)
      have hblt := HT.out.lt
      have HAS := Lib.hid hasks; have HLE := Lib.hid hleft; have HBL := Lib.hid hb7
      clear hasks hleft hb7 hg7
      go_wp2_with fail
      refine (seal_any b (w.heap.size + 1 + 1) sb (pageB m k l) _ HAS.out HBL.out (by rw [pageB_len _ _ _ HLEN.out]; omega) (pageB_lt _ _ _ HLT.out) (by omega)).mono ?_
      rintro e w8 ⟨rfl, hlf, hr8, hb8⟩
      have HG8 := Lib.hid (HLE.out _ hlf (by omega)); have HB8 := Lib.hid hb8; have HR8 := Lib.hid hr8
      clear hlf hb8 hr8
      go_wp2
      go_ret2
      refine ⟨HG8.out, .inl ⟨_, w.heap.size + 1 + 1, HYES.out, ?_, by omega, HB8.out, frame_lt _ (pageB_lt _ _ _ HLT.out), HR8.out⟩⟩
      rw [frame_length _ (by rw [pageB_len _ _ _ HLEN.out]; omega)]
      rfl
theorem codec_put_page (b b2 : Nat) (number kind : Int) (A : Option Addr) (n c : Nat) (l : List Nat) (w : World) (hR : Ready w b) (hl : Bytes w b2 A n l) :
    Calls Try.prog 48 #[.pointer (some ⟨b, 0, none⟩), .agg #[.int .i64 number, .int .i64 kind, .slice A n c]] w (Gave w 133 (pageW number kind l)) :=
  (put_page_core b b2 none number kind A n c l w (tabs_ready hR) hl).mono fun _ _ h => h.gives.gave
set_option maxRecDepth 100000 in
theorem codec_put_page_nil (number kind : Int) (A : Option Addr) (n c : Nat) (w : World) :
    Calls Try.prog 48 #[.pointer none, .agg #[.int .i64 number, .int .i64 kind, .slice A n c]] w (Gave w 133 none) := by
  go_enter Try.func48, Try.ntmps48
  go_wp2
  go_ret2
  exact ⟨World.grownBy_alloc w _ none, .inr ⟨rfl, rfl⟩⟩
end Go.Proofs.Ytboccfficmaoaaa.Codec
/- The project's calls for catalogues: volumeMayBe, catalogueMayBe, putVolume, PutCatalogue. -/
namespace Go.Proofs.Ytboccfficmaoaaa.Codec
open Go.RowKit CrcMath CodecMath Mem Crc

def volOk (a0 a1 a2 a3 a4 a5 : Int) : Bool := inB a0 1073741824 && (inB a1 2 && (inB a2 1048576 && (inB a3 1048576 && (inB a4 1023 && inB a5 1048576))))
set_option maxRecDepth 100000 in
set_option maxHeartbeats 800000 in
theorem volmay_any (a0 a1 a2 a3 a4 a5 : Int) (w : World) :
    Calls Try.prog 92 #[.agg #[.int .i64 a0, .int .i64 a1, .int .i64 a2, .int .i64 a3, .int .i64 a4, .int .i64 a5]] w fun e w' => e = .returned (.bool (volOk a0 a1 a2 a3 a4 a5)) ∧ w' = w.alloc (.cells #[.int .i64 a0, .int .i64 a1, .int .i64 a2, .int .i64 a3, .int .i64 a4, .int .i64 a5] 121) := by
  obtain ⟨ok, hok⟩ : ∃ ok, ok = volOk a0 a1 a2 a3 a4 a5 := ⟨_, rfl⟩
  rw [← hok]
  have HOK := Lib.hid (show ok = (inB a0 1073741824 && (inB a1 2 && (inB a2 1048576 && (inB a3 1048576 && (inB a4 1023 && inB a5 1048576))))) from hok); clear hok
  cases h0 : inB a0 1073741824 with
  | false =>
    have H0 := Lib.hid h0; clear h0
    have HN := Lib.hid (show ok = false by rw [HOK.out, H0.out]; simp)
    go_enter Try.func92, Try.ntmps92
    go_wp2_with fail
    refine (within_any a0 _ _).mono ?_
    rintro e w2 ⟨rfl, rfl⟩
    rw [H0.out]
    go_wp2
    go_ret
    exact ⟨by rw [HN.out]; rfl, rfl⟩
  | true =>
    have H0 := Lib.hid h0; clear h0
    cases h1 : inB a1 2 with
    | false =>
      have H1 := Lib.hid h1; clear h1
      have HN := Lib.hid (show ok = false by rw [HOK.out, H0.out, H1.out]; simp)
      go_enter Try.func92, Try.ntmps92
      go_wp2_with fail
      refine (within_any a0 _ _).mono ?_
      rintro e w2 ⟨rfl, rfl⟩
      rw [H0.out]
      go_wp2_with fail
      refine (within_any a1 _ _).mono ?_
      rintro e w2 ⟨rfl, rfl⟩
      rw [H1.out]
      go_wp2
      go_ret
      exact ⟨by rw [HN.out]; rfl, rfl⟩
    | true =>
      have H1 := Lib.hid h1; clear h1
      cases h2 : inB a2 1048576 with
      | false =>
        have H2 := Lib.hid h2; clear h2
        have HN := Lib.hid (show ok = false by rw [HOK.out, H0.out, H1.out, H2.out]; simp)
        go_enter Try.func92, Try.ntmps92
        go_wp2_with fail
        refine (within_any a0 _ _).mono ?_
        rintro e w2 ⟨rfl, rfl⟩
        rw [H0.out]
        go_wp2_with fail
        refine (within_any a1 _ _).mono ?_
        rintro e w2 ⟨rfl, rfl⟩
        rw [H1.out]
        go_wp2_with fail
        refine (within_any a2 _ _).mono ?_
        rintro e w2 ⟨rfl, rfl⟩
        rw [H2.out]
        go_wp2
        go_ret
        exact ⟨by rw [HN.out]; rfl, rfl⟩
      | true =>
        have H2 := Lib.hid h2; clear h2
        cases h3 : inB a3 1048576 with
        | false =>
          have H3 := Lib.hid h3; clear h3
          have HN := Lib.hid (show ok = false by rw [HOK.out, H0.out, H1.out, H2.out, H3.out]; simp)
          go_enter Try.func92, Try.ntmps92
          go_wp2_with fail
          refine (within_any a0 _ _).mono ?_
          rintro e w2 ⟨rfl, rfl⟩
          rw [H0.out]
          go_wp2_with fail
          refine (within_any a1 _ _).mono ?_
          rintro e w2 ⟨rfl, rfl⟩
          rw [H1.out]
          go_wp2_with fail
          refine (within_any a2 _ _).mono ?_
          rintro e w2 ⟨rfl, rfl⟩
          rw [H2.out]
          go_wp2_with fail
          refine (within_any a3 _ _).mono ?_
          rintro e w2 ⟨rfl, rfl⟩
          rw [H3.out]
          go_wp2
          go_ret
          exact ⟨by rw [HN.out]; rfl, rfl⟩
        | true =>
          have H3 := Lib.hid h3; clear h3
          cases h4 : inB a4 1023 with
          | false =>
            have H4 := Lib.hid h4; clear h4
            have HN := Lib.hid (show ok = false by rw [HOK.out, H0.out, H1.out, H2.out, H3.out, H4.out]; simp)
            go_enter Try.func92, Try.ntmps92
            go_wp2_with fail
            refine (within_any a0 _ _).mono ?_
            rintro e w2 ⟨rfl, rfl⟩
            rw [H0.out]
            go_wp2_with fail
            refine (within_any a1 _ _).mono ?_
            rintro e w2 ⟨rfl, rfl⟩
            rw [H1.out]
            go_wp2_with fail
            refine (within_any a2 _ _).mono ?_
            rintro e w2 ⟨rfl, rfl⟩
            rw [H2.out]
            go_wp2_with fail
            refine (within_any a3 _ _).mono ?_
            rintro e w2 ⟨rfl, rfl⟩
            rw [H3.out]
            go_wp2_with fail
            refine (within_any a4 _ _).mono ?_
            rintro e w2 ⟨rfl, rfl⟩
            rw [H4.out]
            go_wp2
            go_ret
            exact ⟨by rw [HN.out]; rfl, rfl⟩
          | true =>
            have H4 := Lib.hid h4; clear h4
            cases h5 : inB a5 1048576 with
            | false =>
              have H5 := Lib.hid h5; clear h5
              have HN := Lib.hid (show ok = false by rw [HOK.out, H0.out, H1.out, H2.out, H3.out, H4.out, H5.out]; simp)
              go_enter Try.func92, Try.ntmps92
              go_wp2_with fail
              refine (within_any a0 _ _).mono ?_
              rintro e w2 ⟨rfl, rfl⟩
              rw [H0.out]
              go_wp2_with fail
              refine (within_any a1 _ _).mono ?_
              rintro e w2 ⟨rfl, rfl⟩
              rw [H1.out]
              go_wp2_with fail
              refine (within_any a2 _ _).mono ?_
              rintro e w2 ⟨rfl, rfl⟩
              rw [H2.out]
              go_wp2_with fail
              refine (within_any a3 _ _).mono ?_
              rintro e w2 ⟨rfl, rfl⟩
              rw [H3.out]
              go_wp2_with fail
              refine (within_any a4 _ _).mono ?_
              rintro e w2 ⟨rfl, rfl⟩
              rw [H4.out]
              go_wp2_with fail
              refine (within_any a5 _ _).mono ?_
              rintro e w2 ⟨rfl, rfl⟩
              rw [H5.out]
              go_wp2
              go_ret
              exact ⟨by rw [HN.out]; rfl, rfl⟩
            | true =>
              have H5 := Lib.hid h5; clear h5
              have HN := Lib.hid (show ok = true by rw [HOK.out, H0.out, H1.out, H2.out, H3.out, H4.out, H5.out]; rfl)
              go_enter Try.func92, Try.ntmps92
              go_wp2_with fail
              refine (within_any a0 _ _).mono ?_
              rintro e w2 ⟨rfl, rfl⟩
              rw [H0.out]
              go_wp2_with fail
              refine (within_any a1 _ _).mono ?_
              rintro e w2 ⟨rfl, rfl⟩
              rw [H1.out]
              go_wp2_with fail
              refine (within_any a2 _ _).mono ?_
              rintro e w2 ⟨rfl, rfl⟩
              rw [H2.out]
              go_wp2_with fail
              refine (within_any a3 _ _).mono ?_
              rintro e w2 ⟨rfl, rfl⟩
              rw [H3.out]
              go_wp2_with fail
              refine (within_any a4 _ _).mono ?_
              rintro e w2 ⟨rfl, rfl⟩
              rw [H4.out]
              go_wp2_with fail
              refine (within_any a5 _ _).mono ?_
              rintro e w2 ⟨rfl, rfl⟩
              rw [H5.out]
              go_wp2
              go_ret
              exact ⟨by rw [HN.out]; rfl, rfl⟩

/-- A volume's bytes. -/
def volB (m0 m1 m2 m3 m4 m5 : Nat) : List Nat := be 4 m0 ++ be 1 m1 ++ be 4 m2 ++ be 4 m3 ++ be 2 m4 ++ be 4 m5
theorem volB_len (m0 m1 m2 m3 m4 m5 : Nat) : (volB m0 m1 m2 m3 m4 m5).length = 19 := by simp [volB, be_length]
set_option maxRecDepth 100000 in
set_option maxHeartbeats 1600000 in
theorem putvolume_any (p g : Nat) (t : TypeId) (pre : List Nat) (m0 m1 m2 m3 m4 m5 : Nat) (w : World) (hc : Cur w p g pre.length (240 - pre.length)) (hg : Blk w g t (u8s (fill pre 240)).toArray) (ht : t ≠ 99) (hn : pre.length + 19 ≤ 240) :
    Calls Try.prog 85 #[.pointer (some ⟨p, 0, none⟩), .agg #[.int .i64 (m0 : Nat), .int .i64 (m1 : Nat), .int .i64 (m2 : Nat), .int .i64 (m3 : Nat), .int .i64 (m4 : Nat), .int .i64 (m5 : Nat)]] w fun e w' =>
      e = .returned (.tuple #[]) ∧ Left w w' p g ∧ Cur w' p g (pre.length + 19) (240 - pre.length - 19) ∧ Blk w' g t (u8s (fill (pre ++ volB m0 m1 m2 m3 m4 m5) 240)).toArray := by
  have hpl : p < w.heap.size := by obtain ⟨_, h, _⟩ := hc; exact h.lt
  have hgl := hg.lt
  have hga := World.grownBy_alloc w (.cells #[.int .i64 (m0 : Nat), .int .i64 (m1 : Nat), .int .i64 (m2 : Nat), .int .i64 (m3 : Nat), .int .i64 (m4 : Nat), .int .i64 (m5 : Nat)] 121) none
  have HL0 := Lib.hid (Left.of0 hga p g); have HC0 := Lib.hid (hc.grown hga (by simp)); have HB0 := Lib.hid (hg.alloc (.cells #[.int .i64 (m0 : Nat), .int .i64 (m1 : Nat), .int .i64 (m2 : Nat), .int .i64 (m3 : Nat), .int .i64 (m4 : Nat), .int .i64 (m5 : Nat)] 121)); have HX0 := Lib.hid (Blk.new w 121 #[.int .i64 (m0 : Nat), .int .i64 (m1 : Nat), .int .i64 (m2 : Nat), .int .i64 (m3 : Nat), .int .i64 (m4 : Nat), .int .i64 (m5 : Nat)])
  obtain ⟨n, hn'⟩ : ∃ n, n = pre.length := ⟨_, rfl⟩
  rw [← hn'] at HC0 ⊢
  rw [← hn'] at hn
  have HNN := Lib.hid hn'
  clear hc hg hga hn'
  go_enter Try.func85, Try.ntmps85
  go_wp2_with fail
  have hl0 : (pre).length = n + 0 := by rw [HNN.out]; simp
  have hf0 := fill_length (pre) 240 (by omega)
  refine (write_any p g (n + 0) (240 - n - 0) 4 m0 t (fill (pre) 240) _ HC0.out HB0.out ht (by omega) (by omega) (by omega) (by omega)).mono ?_
  rintro e w1 ⟨rfl, hlf, hc, hb⟩
  have hly := lay_fill (pre) (be 4 m0) 240
  rw [hl0] at hly
  rw [hly] at hb
  have hx := hlf.blk HX0.out (by omega) (by omega)
  have HL1 := Lib.hid (HL0.out.trans hlf); have HC1 := Lib.hid (show Cur w1 p g (n + 4) (240 - n - 4) by
    rw [show n + 4 = n + 0 + 4 from by omega, show 240 - n - 4 = 240 - n - 0 - 4 from by omega]; exact hc); have HB1 := Lib.hid hb; have HX1 := Lib.hid hx
  have x1 := hx.cell 1
  simp only [List.getElem?_toArray, List.getElem?_cons_zero, List.getElem?_cons_succ] at x1
  clear hlf hc hb hx hly hl0 hf0
  go_wp2_with fail
  clear x1
  have hl1 : (pre ++ be 4 m0).length = n + 4 := by rw [HNN.out]; simp [be_length]
  have hf1 := fill_length (pre ++ be 4 m0) 240 (by omega)
  refine (write_any p g (n + 4) (240 - n - 4) 1 m1 t (fill (pre ++ be 4 m0) 240) _ HC1.out HB1.out ht (by omega) (by omega) (by omega) (by omega)).mono ?_
  rintro e w2 ⟨rfl, hlf, hc, hb⟩
  have hly := lay_fill (pre ++ be 4 m0) (be 1 m1) 240
  rw [hl1] at hly
  rw [hly] at hb
  have hx := hlf.blk HX1.out (by omega) (by omega)
  have HL2 := Lib.hid (HL1.out.trans hlf); have HC2 := Lib.hid (show Cur w2 p g (n + 5) (240 - n - 5) by
    rw [show n + 5 = n + 4 + 1 from by omega, show 240 - n - 5 = 240 - n - 4 - 1 from by omega]; exact hc); have HB2 := Lib.hid hb; have HX2 := Lib.hid hx
  have x2 := hx.cell 2
  simp only [List.getElem?_toArray, List.getElem?_cons_zero, List.getElem?_cons_succ] at x2
  clear hlf hc hb hx hly hl1 hf1
  go_wp2_with fail
  clear x2
  have hl2 : (pre ++ be 4 m0 ++ be 1 m1).length = n + 5 := by rw [HNN.out]; simp [be_length]
  have hf2 := fill_length (pre ++ be 4 m0 ++ be 1 m1) 240 (by omega)
  refine (write_any p g (n + 5) (240 - n - 5) 4 m2 t (fill (pre ++ be 4 m0 ++ be 1 m1) 240) _ HC2.out HB2.out ht (by omega) (by omega) (by omega) (by omega)).mono ?_
  rintro e w3 ⟨rfl, hlf, hc, hb⟩
  have hly := lay_fill (pre ++ be 4 m0 ++ be 1 m1) (be 4 m2) 240
  rw [hl2] at hly
  rw [hly] at hb
  have hx := hlf.blk HX2.out (by omega) (by omega)
  have HL3 := Lib.hid (HL2.out.trans hlf); have HC3 := Lib.hid (show Cur w3 p g (n + 9) (240 - n - 9) by
    rw [show n + 9 = n + 5 + 4 from by omega, show 240 - n - 9 = 240 - n - 5 - 4 from by omega]; exact hc); have HB3 := Lib.hid hb; have HX3 := Lib.hid hx
  have x3 := hx.cell 3
  simp only [List.getElem?_toArray, List.getElem?_cons_zero, List.getElem?_cons_succ] at x3
  clear hlf hc hb hx hly hl2 hf2
  go_wp2_with fail
  clear x3
  have hl3 : (pre ++ be 4 m0 ++ be 1 m1 ++ be 4 m2).length = n + 9 := by rw [HNN.out]; simp [be_length]
  have hf3 := fill_length (pre ++ be 4 m0 ++ be 1 m1 ++ be 4 m2) 240 (by omega)
  refine (write_any p g (n + 9) (240 - n - 9) 4 m3 t (fill (pre ++ be 4 m0 ++ be 1 m1 ++ be 4 m2) 240) _ HC3.out HB3.out ht (by omega) (by omega) (by omega) (by omega)).mono ?_
  rintro e w4 ⟨rfl, hlf, hc, hb⟩
  have hly := lay_fill (pre ++ be 4 m0 ++ be 1 m1 ++ be 4 m2) (be 4 m3) 240
  rw [hl3] at hly
  rw [hly] at hb
  have hx := hlf.blk HX3.out (by omega) (by omega)
  have HL4 := Lib.hid (HL3.out.trans hlf); have HC4 := Lib.hid (show Cur w4 p g (n + 13) (240 - n - 13) by
    rw [show n + 13 = n + 9 + 4 from by omega, show 240 - n - 13 = 240 - n - 9 - 4 from by omega]; exact hc); have HB4 := Lib.hid hb; have HX4 := Lib.hid hx
  have x4 := hx.cell 4
  simp only [List.getElem?_toArray, List.getElem?_cons_zero, List.getElem?_cons_succ] at x4
  clear hlf hc hb hx hly hl3 hf3
  go_wp2_with fail
  clear x4
  have hl4 : (pre ++ be 4 m0 ++ be 1 m1 ++ be 4 m2 ++ be 4 m3).length = n + 13 := by rw [HNN.out]; simp [be_length]
  have hf4 := fill_length (pre ++ be 4 m0 ++ be 1 m1 ++ be 4 m2 ++ be 4 m3) 240 (by omega)
  refine (write_any p g (n + 13) (240 - n - 13) 2 m4 t (fill (pre ++ be 4 m0 ++ be 1 m1 ++ be 4 m2 ++ be 4 m3) 240) _ HC4.out HB4.out ht (by omega) (by omega) (by omega) (by omega)).mono ?_
  rintro e w5 ⟨rfl, hlf, hc, hb⟩
  have hly := lay_fill (pre ++ be 4 m0 ++ be 1 m1 ++ be 4 m2 ++ be 4 m3) (be 2 m4) 240
  rw [hl4] at hly
  rw [hly] at hb
  have hx := hlf.blk HX4.out (by omega) (by omega)
  have HL5 := Lib.hid (HL4.out.trans hlf); have HC5 := Lib.hid (show Cur w5 p g (n + 15) (240 - n - 15) by
    rw [show n + 15 = n + 13 + 2 from by omega, show 240 - n - 15 = 240 - n - 13 - 2 from by omega]; exact hc); have HB5 := Lib.hid hb; have HX5 := Lib.hid hx
  have x5 := hx.cell 5
  simp only [List.getElem?_toArray, List.getElem?_cons_zero, List.getElem?_cons_succ] at x5
  clear hlf hc hb hx hly hl4 hf4
  go_wp2_with fail
  clear x5
  have hl5 : (pre ++ be 4 m0 ++ be 1 m1 ++ be 4 m2 ++ be 4 m3 ++ be 2 m4).length = n + 15 := by rw [HNN.out]; simp [be_length]
  have hf5 := fill_length (pre ++ be 4 m0 ++ be 1 m1 ++ be 4 m2 ++ be 4 m3 ++ be 2 m4) 240 (by omega)
  refine (write_any p g (n + 15) (240 - n - 15) 4 m5 t (fill (pre ++ be 4 m0 ++ be 1 m1 ++ be 4 m2 ++ be 4 m3 ++ be 2 m4) 240) _ HC5.out HB5.out ht (by omega) (by omega) (by omega) (by omega)).mono ?_
  rintro e w6 ⟨rfl, hlf, hc, hb⟩
  have hly := lay_fill (pre ++ be 4 m0 ++ be 1 m1 ++ be 4 m2 ++ be 4 m3 ++ be 2 m4) (be 4 m5) 240
  rw [hl5] at hly
  rw [hly] at hb
  have hx := hlf.blk HX5.out (by omega) (by omega)
  have HL6 := Lib.hid (HL5.out.trans hlf); have HC6 := Lib.hid (show Cur w6 p g (n + 19) (240 - n - 19) by
    rw [show n + 19 = n + 15 + 4 from by omega, show 240 - n - 19 = 240 - n - 15 - 4 from by omega]; exact hc); have HB6 := Lib.hid hb; have HX6 := Lib.hid hx
  clear hlf hc hb hx hly hl5 hf5
  go_wp2_with fail
  go_end0
  refine ⟨rfl, HL6.out, HC6.out, ?_⟩
  have h := HB6.out
  rwa [show pre ++ be 4 m0 ++ be 1 m1 ++ be 4 m2 ++ be 4 m3 ++ be 2 m4 ++ be 4 m5 = pre ++ volB m0 m1 m2 m3 m4 m5 from by simp [volB]] at h
end Go.Proofs.Ytboccfficmaoaaa.Codec
/- The project's PutCatalogue, with catalogueMayBe. -/
namespace Go.Proofs.Ytboccfficmaoaaa.Codec
open Go.RowKit CrcMath CodecMath Mem Crc

theorem catOk_eq {next : Int} {stack vs : List Int} {ns nv : Nat} (hs : stack.length = ns) (hv : vs.length = 6 * nv) : catOk next stack vs = (inB next 1073741824 && (decide (ns ≤ 8) && decide (nv = 8)) && allB stack 1023 && volsOk vs) := by
  have : decide (vs.length = 48) = decide (nv = 8) := by rw [Bool.eq_iff_iff]; simp; omega
  rw [catOk, this, hs]
/-- Six numbers of a row of volumes: the j-th volume's. -/
theorem vol_six {vs : List Int} (j : Nat) :
    volOk (vs.getD (6 * j) 0) (vs.getD (6 * j + 1) 0) (vs.getD (6 * j + 2) 0) (vs.getD (6 * j + 3) 0) (vs.getD (6 * j + 4) 0) (vs.getD (6 * j + 5) 0) = true ↔ ∀ q, 6 * j ≤ q → q < 6 * j + 6 → inB (vs.getD q 0) (most (q % 6)) = true := by
  constructor
  · intro hh q h1 h2
    simp only [volOk, Bool.and_eq_true] at hh
    obtain ⟨a0, a1, a2, a3, a4, a5⟩ := hh
    obtain rfl | rfl | rfl | rfl | rfl | rfl : q = 6 * j ∨ q = 6 * j + 1 ∨ q = 6 * j + 2 ∨ q = 6 * j + 3 ∨ q = 6 * j + 4 ∨ q = 6 * j + 5 := by omega
    · rw [show 6 * j % 6 = 0 from by omega]; exact a0
    · rw [show (6 * j + 1) % 6 = 1 from by omega]; exact a1
    · rw [show (6 * j + 2) % 6 = 2 from by omega]; exact a2
    · rw [show (6 * j + 3) % 6 = 3 from by omega]; exact a3
    · rw [show (6 * j + 4) % 6 = 4 from by omega]; exact a4
    · rw [show (6 * j + 5) % 6 = 5 from by omega]; exact a5
  · intro hh
    have h0 := hh (6 * j) (by omega) (by omega)
    have h1 := hh (6 * j + 1) (by omega) (by omega)
    have h2 := hh (6 * j + 2) (by omega) (by omega)
    have h3 := hh (6 * j + 3) (by omega) (by omega)
    have h4 := hh (6 * j + 4) (by omega) (by omega)
    have h5 := hh (6 * j + 5) (by omega) (by omega)
    rw [show 6 * j % 6 = 0 from by omega] at h0
    rw [show (6 * j + 1) % 6 = 1 from by omega] at h1
    rw [show (6 * j + 2) % 6 = 2 from by omega] at h2
    rw [show (6 * j + 3) % 6 = 3 from by omega] at h3
    rw [show (6 * j + 4) % 6 = 4 from by omega] at h4
    rw [show (6 * j + 5) % 6 = 5 from by omega] at h5
    simp only [volOk, Bool.and_eq_true]
    exact ⟨h0, h1, h2, h3, h4, h5⟩
set_option maxRecDepth 100000 in
set_option maxHeartbeats 1600000 in
theorem catmay_any (b : Nat) (next : Int) (AV AS : Option Addr) (nv cv ns cs : Nat) (stack vs : List Int) (w : World) (hs : Ints w b AS ns stack) (hv : Ints w b AV (6 * nv) vs) (hns : ns ≤ 9223372036854775807) :
    Calls Try.prog 84 #[.agg #[.int .i64 next, .slice AV nv cv, .slice AS ns cs]] w fun e w' => e = .returned (.bool (catOk next stack vs)) ∧ w.grownBy w' none := by
  obtain ⟨ok, hok⟩ : ∃ ok, ok = catOk next stack vs := ⟨_, rfl⟩
  rw [← hok]
  have HOK := Lib.hid (hok.trans (catOk_eq (next := next) hs.1 hv.1)); clear hok
  have hga := World.grownBy_alloc w (.cells #[.int .i64 next, .slice AV nv cv, .slice AS ns cs] 58) none
  have HG0 := Lib.hid hga; have HS := Lib.hid (ints_keep hs hga (.inl rfl)); have HV := Lib.hid hv; have HVL := Lib.hid hv.1
  clear hs hv hga
  cases hn : inB next 1073741824 with
  | false =>
    have H0 := Lib.hid hn; clear hn
    have HN := Lib.hid (show ok = false by rw [HOK.out, H0.out]; simp)
    go_enter Try.func84, Try.ntmps84
    go_wp2_with fail
    refine (within_any next _ _).mono ?_
    rintro e w2 ⟨rfl, rfl⟩
    rw [H0.out]
    go_wp2
    go_ret
    exact ⟨by rw [HN.out]; rfl, HG0.out⟩
  | true =>
    have H0 := Lib.hid hn; clear hn
    by_cases h8 : ns ≤ 8
    · have h8' : ¬ ((8 : Int) < (ns : Int)) := by omega
      cases hst : allB stack 1023 with
      | false =>
        have H1 := Lib.hid hst; clear hst
        have HN := Lib.hid (show ok = false by rw [HOK.out, H1.out]; simp)
        go_enter Try.func84, Try.ntmps84
        go_wp2_with fail
        refine (within_any next _ _).mono ?_
        rintro e w2 ⟨rfl, rfl⟩
        rw [H0.out]
        go_wp2_with fail
        refine (allwithin_any b AS ns cs stack 1023 _ HS.out hns).mono ?_
        rintro e w2 ⟨rfl, rfl⟩
        rw [H1.out]
        go_wp2
        go_ret
        exact ⟨by rw [HN.out]; rfl, HG0.out⟩
      | true =>
        have H1 := Lib.hid hst; clear hst
        by_cases hv8 : nv = 8
        · subst hv8
          have HOV := Lib.hid (show ok = volsOk vs by rw [HOK.out, H0.out, H1.out]; simp [h8])
          go_enter Try.func84, Try.ntmps84
          go_wp2_with fail
          refine (within_any next _ _).mono ?_
          rintro e w2 ⟨rfl, rfl⟩
          rw [H0.out]
          go_wp2_with fail
          refine (allwithin_any b AS ns cs stack 1023 _ HS.out hns).mono ?_
          rintro e w2 ⟨rfl, rfl⟩
          rw [H1.out]
          go_wp2_with fail
          go_loopw [4, 30] (fun _ i wr => ∃ j : Nat, j ≤ 8 ∧ i = .int .i64 j ∧ w.grownBy wr none ∧ (∀ q, q < 6 * j → inB (vs.getD q 0) (most (q % 6)) = true)) (fun _ i _ => 8 - (intOf i).toNat)
          case atStart => exact ⟨0, by omega, rfl, HG0.out, fun q hq => by omega⟩
          case round =>
            obtain ⟨j, hj, rfl, hg, hin⟩ := hrel
            have HG := Lib.hid hg; have HIN := Lib.hid hin; clear hg hin
            by_cases hlt : j < 8
            · obtain ⟨g, o, rfl, hgl, _, hcl⟩ := (ints_keep HV.out HG.out (.inl rfl)).2.2 (by omega)
              have c0 := hcl (6 * j) (by omega)
              rw [show o + 6 * j = o + j * 6 from by omega] at c0
              have c1 := hcl (6 * j + 1) (by omega)
              rw [show o + (6 * j + 1) = o + j * 6 + 1 from by omega] at c1
              have c2 := hcl (6 * j + 2) (by omega)
              rw [show o + (6 * j + 2) = o + j * 6 + 2 from by omega] at c2
              have c3 := hcl (6 * j + 3) (by omega)
              rw [show o + (6 * j + 3) = o + j * 6 + 3 from by omega] at c3
              have c4 := hcl (6 * j + 4) (by omega)
              rw [show o + (6 * j + 4) = o + j * 6 + 4 from by omega] at c4
              have c5 := hcl (6 * j + 5) (by omega)
              rw [show o + (6 * j + 5) = o + j * 6 + 5 from by omega] at c5
              clear hcl
              have HSIX := Lib.hid (vol_six (vs := vs) j)
              generalize vs.getD (6 * j) 0 = a0 at *
              generalize vs.getD (6 * j + 1) 0 = a1 at *
              generalize vs.getD (6 * j + 2) 0 = a2 at *
              generalize vs.getD (6 * j + 3) 0 = a3 at *
              generalize vs.getD (6 * j + 4) 0 = a4 at *
              generalize vs.getD (6 * j + 5) 0 = a5 at *
              have hsz := HG.out.size
              go_wp2_with fail
              refine (volmay_any a0 a1 a2 a3 a4 a5 _).mono ?_
              rintro e w2 ⟨rfl, rfl⟩
              have HG2 := Lib.hid ((HG.out.trans (World.grownBy_alloc wr (.cells #[.int .i64 a0, .int .i64 a1, .int .i64 a2, .int .i64 a3, .int .i64 a4, .int .i64 a5] 121) none)).trans (World.grownBy_alloc _ (.cells #[.int .i64 a0, .int .i64 a1, .int .i64 a2, .int .i64 a3, .int .i64 a4, .int .i64 a5] 121) none))
              cases hvo : volOk a0 a1 a2 a3 a4 a5 with
              | false =>
                have HN := Lib.hid (show ok = false by
                  rw [HOV.out]
                  cases hvv : volsOk vs with
                  | false => rfl
                  | true =>
                    have := HSIX.out.2 (fun q h1 h2 => inB_mk (volsOk_yes hvv q (by rw [HVL.out]; omega)))
                    rw [hvo] at this
                    cases this)
                clear hvo c0 c1 c2 c3 c4 c5
                go_wp2
                go_ret
                exact ⟨by rw [HN.out]; rfl, HG2.out⟩
              | true =>
                have HQ := Lib.hid (HSIX.out.1 hvo)
                clear hvo c0 c1 c2 c3 c4 c5
                go_wp2_with fail
                go_roundw
                case rel => exact ⟨j + 1, by omega, by go_num, HG2.out, fun q hq => by
                  by_cases h : q < 6 * j
                  · exact HIN.out q h
                  · exact HQ.out q (by omega) (by omega)⟩
                case measure => simp [intOf]; omega
            · obtain rfl : j = 8 := by omega
              have HN := Lib.hid (show ok = true by rw [HOV.out]; exact volsOk_mk (fun q hq => HIN.out q (by rw [HVL.out] at hq; omega)))
              go_wp2
              go_ret
              exact ⟨by rw [HN.out]; rfl, HG.out⟩
        · have HN := Lib.hid (show ok = false by rw [HOK.out]; simp [hv8])
          have hne : (((nv : Nat) : Int) != 8) = true := by simp; omega
          go_enter Try.func84, Try.ntmps84
          go_wp2_with fail
          refine (within_any next _ _).mono ?_
          rintro e w2 ⟨rfl, rfl⟩
          rw [H0.out]
          go_wp2_with fail
          refine (allwithin_any b AS ns cs stack 1023 _ HS.out hns).mono ?_
          rintro e w2 ⟨rfl, rfl⟩
          rw [H1.out]
          go_wp2
          go_ret
          exact ⟨by rw [HN.out]; rfl, HG0.out⟩
    · have HN := Lib.hid (show ok = false by rw [HOK.out]; simp [h8])
      have h8' : (8 : Int) < (ns : Int) := by omega
      go_enter Try.func84, Try.ntmps84
      go_wp2_with fail
      refine (within_any next _ _).mono ?_
      rintro e w2 ⟨rfl, rfl⟩
      rw [H0.out]
      go_wp2
      go_ret
      exact ⟨by rw [HN.out]; rfl, HG0.out⟩
end Go.Proofs.Ytboccfficmaoaaa.Codec
/- The project's PutCatalogue. -/
namespace Go.Proofs.Ytboccfficmaoaaa.Codec
open Go.RowKit CrcMath CodecMath Mem Crc

/-- What of a catalogue stands when j numbers of its stack are written. -/
def catQ (m : Nat) (stack : List Int) (j : Nat) : List Nat := be 4 m ++ be 1 stack.length ++ ((stack.take j).flatMap fun n => be 2 n.toNat)
theorem catQ_len (m : Nat) (stack : List Int) (j : Nat) (h : j ≤ stack.length) : (catQ m stack j).length = 5 + 2 * j := by
  simp only [catQ, List.length_append, be_length]
  rw [flat_len, List.length_take, Nat.min_eq_left h]
theorem catQ_succ (m : Nat) (stack : List Int) (j : Nat) (h : j < stack.length) : catQ m stack (j + 1) = catQ m stack j ++ be 2 (stack.getD j 0).toNat := by
  rw [catQ, take_flat stack 2 j h, ← List.append_assoc]; rfl
theorem catQ_all (m : Nat) (stack : List Int) : catQ m stack stack.length = catP (m : Int) stack := by simp [catQ, catP]
/-- What stands when j volumes are written. -/
def catV (next : Int) (stack vs : List Int) (j : Nat) : List Nat := fill (catP next stack) 21 ++ volsB vs (6 * j)
theorem pos_six (j : Nat) : pos (6 * j) = 19 * j := by
  unfold pos
  rw [show 6 * j / 6 = j from by omega, show 6 * j % 6 = 0 from by omega]; rfl
theorem catV_len (next : Int) (stack vs : List Int) (j : Nat) (h : stack.length ≤ 8) : (catV next stack vs j).length = 21 + 19 * j := by
  rw [catV, List.length_append, fill_length _ _ (by rw [catP_len]; omega), volsB_len, pos_six]
theorem catV_zero (next : Int) (stack vs : List Int) (h : stack.length ≤ 8) : fill (catV next stack vs 0) 240 = fill (catP next stack) 240 := by
  have e : catV next stack vs 0 = fill (catP next stack) 21 := by simp [catV, volsB]
  rw [e, fill]
  have := fill_more (catP next stack) (21 - (catP next stack).length) 240 (by rw [catP_len]; omega)
  rw [← this]
  rfl
theorem catV_succ (next : Int) (stack vs : List Int) (j : Nat) :
    catV next stack vs (j + 1) = catV next stack vs j ++ volB (vs.getD (6 * j) 0).toNat (vs.getD (6 * j + 1) 0).toNat (vs.getD (6 * j + 2) 0).toNat (vs.getD (6 * j + 3) 0).toNat (vs.getD (6 * j + 4) 0).toNat (vs.getD (6 * j + 5) 0).toNat := by
  have e0 : 6 * j % 6 = 0 := by omega
  have e1 : (6 * j + 1) % 6 = 1 := by omega
  have e2 : (6 * j + 2) % 6 = 2 := by omega
  have e3 : (6 * j + 3) % 6 = 3 := by omega
  have e4 : (6 * j + 4) % 6 = 4 := by omega
  have e5 : (6 * j + 5) % 6 = 5 := by omega
  simp only [catV]
  rw [show 6 * (j + 1) = 6 * j + 1 + 1 + 1 + 1 + 1 + 1 from by omega, volsB_succ, volsB_succ, volsB_succ, volsB_succ, volsB_succ, volsB_succ]
  simp only [e0, e1, e2, e3, e4, e5, wid, volB, List.append_assoc]
theorem catV_all (next : Int) (stack vs : List Int) : catV next stack vs 8 = catB next stack vs := rfl
set_option maxRecDepth 100000 in
set_option maxHeartbeats 3200000 in
theorem codec_put_catalogue (b : Nat) (next : Int) (AV AS : Option Addr) (nv cv ns cs : Nat) (stack vs : List Int) (w : World) (hs : Ints w b AS ns stack) (hv : Ints w b AV (6 * nv) vs) (hns : ns ≤ 9223372036854775807) :
    Calls Try.prog 59 #[.agg #[.int .i64 next, .slice AV nv cv, .slice AS ns cs]] w (Gave w 154 (catW next stack vs)) := by
  have hga := World.grownBy_alloc w (.cells #[.int .i64 next, .slice AV nv cv, .slice AS ns cs] 58) none
  have HSL := Lib.hid hs.1; have HVL := Lib.hid hv.1
  have HS := Lib.hid hs; have HV := Lib.hid hv; have HS0 := Lib.hid (ints_keep hs hga (.inl rfl)); have HV0 := Lib.hid (ints_keep hv hga (.inl rfl)); have HG0 := Lib.hid hga; have HX0 := Lib.hid (Blk.new w 58 #[.int .i64 next, .slice AV nv cv, .slice AS ns cs])
  have hz := zero240
  clear hs hv hga
  cases hok : catOk next stack vs with
  | false =>
    have HNO := Lib.hid (show catW next stack vs = none by rw [catW, hok]; rfl)
    have HOK := Lib.hid hok; clear hok
    go_enter Try.func59, Try.ntmps59
    go_wp2_with fail
    refine (catmay_any b next AV AS nv cv ns cs stack vs _ HS0.out HV0.out hns).mono ?_
    rintro e w1 ⟨rfl, hg1⟩
    rw [HOK.out]
    have HG1 := Lib.hid (HG0.out.trans hg1); clear hg1
    go_wp2
    go_ret2
    exact ⟨HG1.out, .inr ⟨HNO.out, rfl⟩⟩
  | true =>
    have HYES := Lib.hid (show catW next stack vs = some (fill (catB next stack vs) 240) by rw [catW, hok]; rfl)
    obtain ⟨⟨hn0, hn1⟩, hs8, hv48, hsb, hvb⟩ := catOk_iff hok
    have HSB := Lib.hid (fun j hj => allB_yes hsb j hj : ∀ j, j < stack.length → 0 ≤ stack.getD j 0 ∧ stack.getD j 0 ≤ 1023)
    have HVB := Lib.hid (fun j hj => volsOk_yes hvb j hj : ∀ j, j < vs.length → 0 ≤ vs.getD j 0 ∧ vs.getD j 0 ≤ most (j % 6))
    have HOK := Lib.hid hok; clear hok hsb hvb
    obtain rfl : nv = 8 := by have := HVL.out; omega
    obtain ⟨m, rfl⟩ := Int.eq_ofNat_of_zero_le hn0
    have HS8 := Lib.hid hs8; have HV48 := Lib.hid hv48
    rw [HSL.out] at hs8
    clear hv48
    have HFZ := Lib.hid (fill_zero 240)
    generalize hzz : Array.replicate 240 (Value.int .u8 0) = zs at *
    clear hzz
    go_enter Try.func59, Try.ntmps59
    go_wp2_with fail
    refine (catmay_any b (m : Int) AV AS 8 cv ns cs stack vs _ HS0.out HV0.out hns).mono ?_
    rintro e w1 ⟨rfl, hg1⟩
    rw [HOK.out]
    have hsz1 := hg1.size
    rw [World.size_alloc] at hsz1
    have hst := start_row (HG0.out.trans hg1) 154 240 zs HFZ.out
    obtain ⟨hgs, hcs, hbs⟩ := hst
    have hx1 := ((HX0.out.grown hg1 (by simp)).alloc (.cells zs 154)).alloc (.cells #[.slice (some ⟨w1.heap.size, 0, none⟩) 240 240] 99)
    have HG1 := Lib.hid hgs; have HC1 := Lib.hid hcs; have HB1 := Lib.hid hbs; have HX1 := Lib.hid hx1
    have x0 := hx1.cell 0
    simp only [List.getElem?_toArray, List.getElem?_cons_zero] at x0
    clear hg1 hgs hcs hbs hx1
    go_wp2_with fail
    refine (write_any _ _ 0 240 4 m _ _ _ HC1.out HB1.out (by decide) (by omega) (by rw [fill_length _ _ (by simp)]; omega) (by rw [fill_length _ _ (by simp)]; omega) (by omega)).mono ?_
    clear x0
    rintro e w2 ⟨rfl, hlf, hc, hb⟩
    rw [show lay (fill [] 240) 0 (be 4 m) = fill ([] ++ be 4 m) 240 from lay_fill [] (be 4 m) 240] at hb
    have hx := hlf.blk HX1.out (by omega) (by omega)
    have HG2 := Lib.hid (hlf.new HG1.out (by omega) (by omega)); have HC2 := Lib.hid hc; have HB2 := Lib.hid hb; have HX2 := Lib.hid hx
    have x2 := hx.cell 2
    simp only [List.getElem?_toArray, List.getElem?_cons_zero, List.getElem?_cons_succ] at x2
    clear hlf hc hb hx HG1 HC1 HB1 HX1
    go_wp2_with fail
    refine (write_any _ _ 4 236 1 ns _ _ _ HC2.out HB2.out (by decide) (by omega) (by rw [fill_length _ _ (by simp [be_length])]; omega) (by rw [fill_length _ _ (by simp [be_length])]; omega) (by omega)).mono ?_
    clear x2
    rintro e w3 ⟨rfl, hlf, hc, hb⟩
    rw [show lay (fill ([] ++ be 4 m) 240) 4 (be 1 ns) = fill (catQ m stack 0) 240 by
      have h := lay_fill ([] ++ be 4 m) (be 1 ns) 240
      rw [← HSL.out] at h ⊢
      exact h.trans (by simp [catQ])] at hb
    have hx := hlf.blk HX2.out (by omega) (by omega)
    have HG3 := Lib.hid (hlf.new HG2.out (by omega) (by omega)); have HC3 := Lib.hid hc; have HB3 := Lib.hid hb; have HX3 := Lib.hid hx
    clear hlf hc hb hx HG2 HC2 HB2 HX2
    go_wp2_with fail
    refine (take_any _ _ 5 235 16 _ HC3.out (by omega) (by omega)).mono ?_
    rintro e w4 ⟨⟨k4, rfl, hk4⟩, hr, hc⟩
    obtain rfl := hk4 (by omega)
    have hga4 := World.grownBy_alloc w4 (.cells #[.slice (some ⟨w1.heap.size, 5, none⟩) 16 16] 99) none
    have hb4 := (HB3.out.grown hr (by simp)).alloc (.cells #[.slice (some ⟨w1.heap.size, 5, none⟩) 16 16] 99)
    have hx4 := (HX3.out.grown hr (by simp; omega)).alloc (.cells #[.slice (some ⟨w1.heap.size, 5, none⟩) 16 16] 99)
    have hg4 := (grownBy_new HG3.out hr (fun j hj => by cases hj; omega)).trans hga4
    have hp2 : w1.heap.size + 1 < w4.heap.size := by obtain ⟨_, h, _⟩ := hc; exact h.lt
    have hq4 : Cur (w4.alloc (.cells #[.slice (some ⟨w1.heap.size, 5, none⟩) 16 16] 99)) w4.heap.size w1.heap.size 5 16 := ⟨5, Blk.new w4 _ _, fun _ => rfl⟩
    have HG4 := Lib.hid hg4; have HC4 := Lib.hid (hc.grown hga4 (by simp)); have HB4 := Lib.hid hb4; have HX4 := Lib.hid hx4; have HQ4 := Lib.hid hq4
    have x2 := hx4.cell 2
    simp only [List.getElem?_toArray, List.getElem?_cons_zero, List.getElem?_cons_succ] at x2
    clear hr hc hga4 hb4 hx4 hg4 hq4 HG3 HC3 HB3 HX3
    go_wp2_with fail
    clear x2
    go_loopw [8, 26] (fun _ i wr => ∃ j : Nat, j ≤ ns ∧ i = .int .i64 j ∧ w.grownBy wr none ∧ Cur wr w4.heap.size w1.heap.size (5 + 2 * j) (16 - 2 * j) ∧ Cur wr (w1.heap.size + 1) w1.heap.size 21 219 ∧
      Blk wr w1.heap.size 154 (u8s (fill (catQ m stack j) 240)).toArray ∧ Blk wr w.heap.size 58 #[.int .i64 (m : Nat), .slice AV 8 cv, .slice AS ns cs]) (fun _ i _ => ns - (intOf i).toNat)
    case atStart => exact ⟨0, by omega, rfl, HG4.out, HQ4.out, HC4.out, HB4.out, HX4.out⟩
    case round =>
      obtain ⟨j, hj, rfl, hg, hq, hc, hb, hx⟩ := hrel
      have HG := Lib.hid hg; have HQ := Lib.hid hq; have HC := Lib.hid hc; have HB := Lib.hid hb; have HX := Lib.hid hx
      clear hg hq hc hb hx
      by_cases hlt : j < ns
      · obtain ⟨g, o, rfl, _, _, hcl⟩ := (ints_keep HS.out HG.out (.inl rfl)).2.2 (by omega)
        have hcj := hcl j hlt
        clear hcl
        obtain ⟨hy0, hy1⟩ := HSB.out j (by rw [HSL.out]; exact hlt)
        have hpl := catQ_len m stack j (by rw [HSL.out]; exact hj)
        have hly := lay_fill (catQ m stack j) (be 2 (stack.getD j 0).toNat) 240
        rw [hpl, ← catQ_succ _ _ _ (by rw [HSL.out]; exact hlt)] at hly
        have hfl := fill_length (catQ m stack j) 240 (by omega)
        have HLY := Lib.hid hly; have HFL := Lib.hid hfl; clear hly hpl hfl
        generalize stack.getD j 0 = x at *
        obtain ⟨y, rfl⟩ := Int.eq_ofNat_of_zero_le hy0
        rw [Int.toNat_natCast] at HLY
        go_wp2_with fail
        refine (write_any _ _ (5 + 2 * j) (16 - 2 * j) 2 y _ _ _ HQ.out HB.out (by decide) (by omega) (by rw [HFL.out]; omega) (by rw [HFL.out]; omega) (by omega)).mono ?_
        rintro e w5 ⟨rfl, hlf, hq5, hb5⟩
        rw [HLY.out] at hb5
        have hc5 : Cur w5 (w1.heap.size + 1) w1.heap.size 21 219 := by obtain ⟨k0, h, hk⟩ := HC.out; exact ⟨k0, hlf.blk h (by omega) (by omega), hk⟩
        have HG5 := Lib.hid (hlf.new HG.out (by omega) (by omega)); have HQ5 := Lib.hid hq5; have HB5 := Lib.hid hb5; have HC5 := Lib.hid hc5; have HX5 := Lib.hid (hlf.blk HX.out (by omega) (by omega))
        clear hlf hq5 hb5 hcj hc5
        go_wp2_with fail
        go_roundw
        case rel =>
          refine ⟨j + 1, by omega, by go_num, HG5.out, ?_, HC5.out, HB5.out, HX5.out⟩
          have h := HQ5.out
          rwa [show 5 + 2 * j + 2 = 5 + 2 * (j + 1) from by omega, show 16 - 2 * j - 2 = 16 - 2 * (j + 1) from by omega] at h
        case measure => simp [intOf]; omega
      · obtain rfl : j = ns := by omega
        have hb := HB.out
        rw [← HSL.out, catQ_all, ← catV_zero (m : Int) stack vs HS8.out] at hb
        have HB6 := Lib.hid hb
        have x1 := HX.out.cell 1
        simp only [List.getElem?_toArray, List.getElem?_cons_zero, List.getElem?_cons_succ] at x1
        clear hb
        go_wp2_with fail
        clear x1
        go_loopw [10, 36] (fun _ i wq => ∃ q : Nat, q ≤ 8 ∧ i = .int .i64 q ∧ w.grownBy wq none ∧ Cur wq (w1.heap.size + 1) w1.heap.size (21 + 19 * q) (219 - 19 * q) ∧
          Blk wq w1.heap.size 154 (u8s (fill (catV (m : Int) stack vs q) 240)).toArray) (fun _ i _ => 8 - (intOf i).toNat)
        case atStart => exact ⟨0, by omega, rfl, HG.out, HC.out, HB6.out⟩
        case round =>
          obtain ⟨q, hq, rfl, hg, hc, hb⟩ := hrel
          have HGq := Lib.hid hg; have HCq := Lib.hid hc; have HBq := Lib.hid hb
          clear hg hc hb
          by_cases hlt : q < 8
          · obtain ⟨g, o, rfl, hgl, _, hcl⟩ := (ints_keep HV.out HGq.out (.inl rfl)).2.2 (by omega)
            have c0 := hcl (6 * q) (by omega)
            rw [show o + 6 * q = o + q * 6 from by omega] at c0
            have c1 := hcl (6 * q + 1) (by omega)
            rw [show o + (6 * q + 1) = o + q * 6 + 1 from by omega] at c1
            have c2 := hcl (6 * q + 2) (by omega)
            rw [show o + (6 * q + 2) = o + q * 6 + 2 from by omega] at c2
            have c3 := hcl (6 * q + 3) (by omega)
            rw [show o + (6 * q + 3) = o + q * 6 + 3 from by omega] at c3
            have c4 := hcl (6 * q + 4) (by omega)
            rw [show o + (6 * q + 4) = o + q * 6 + 4 from by omega] at c4
            have c5 := hcl (6 * q + 5) (by omega)
            rw [show o + (6 * q + 5) = o + q * 6 + 5 from by omega] at c5
            clear hcl
            have g0 := (HVB.out (6 * q) (by rw [HV48.out]; omega)).1
            have g1 := (HVB.out (6 * q + 1) (by rw [HV48.out]; omega)).1
            have g2 := (HVB.out (6 * q + 2) (by rw [HV48.out]; omega)).1
            have g3 := (HVB.out (6 * q + 3) (by rw [HV48.out]; omega)).1
            have g4 := (HVB.out (6 * q + 4) (by rw [HV48.out]; omega)).1
            have g5 := (HVB.out (6 * q + 5) (by rw [HV48.out]; omega)).1
            have HVS := Lib.hid (catV_succ (m : Int) stack vs q)
            have HVN := Lib.hid (catV_len (m : Int) stack vs q HS8.out)
            generalize vs.getD (6 * q) 0 = a0 at *
            obtain ⟨m0, rfl⟩ := Int.eq_ofNat_of_zero_le g0
            generalize vs.getD (6 * q + 1) 0 = a1 at *
            obtain ⟨m1, rfl⟩ := Int.eq_ofNat_of_zero_le g1
            generalize vs.getD (6 * q + 2) 0 = a2 at *
            obtain ⟨m2, rfl⟩ := Int.eq_ofNat_of_zero_le g2
            generalize vs.getD (6 * q + 3) 0 = a3 at *
            obtain ⟨m3, rfl⟩ := Int.eq_ofNat_of_zero_le g3
            generalize vs.getD (6 * q + 4) 0 = a4 at *
            obtain ⟨m4, rfl⟩ := Int.eq_ofNat_of_zero_le g4
            generalize vs.getD (6 * q + 5) 0 = a5 at *
            obtain ⟨m5, rfl⟩ := Int.eq_ofNat_of_zero_le g5
            simp only [Int.toNat_natCast] at HVS
            have hlC : w1.heap.size + 1 < wr.heap.size := by obtain ⟨_, h, _⟩ := HCq.out; exact h.lt
            have hga := World.grownBy_alloc wr (.cells #[.int .i64 (m0 : Nat), .int .i64 (m1 : Nat), .int .i64 (m2 : Nat), .int .i64 (m3 : Nat), .int .i64 (m4 : Nat), .int .i64 (m5 : Nat)] 121) none
            have HGa := Lib.hid (HGq.out.trans hga); have HCa := Lib.hid (HCq.out.grown hga (by simp)); have HBa := Lib.hid (HBq.out.alloc (.cells #[.int .i64 (m0 : Nat), .int .i64 (m1 : Nat), .int .i64 (m2 : Nat), .int .i64 (m3 : Nat), .int .i64 (m4 : Nat), .int .i64 (m5 : Nat)] 121))
            clear hga
            go_wp2_with fail
            refine (putvolume_any (w1.heap.size + 1) w1.heap.size 154 (catV (m : Int) stack vs q) m0 m1 m2 m3 m4 m5 _ (by rw [HVN.out, show 240 - (21 + 19 * q) = 219 - 19 * q from by omega]; exact HCa.out) HBa.out (by decide) (by rw [HVN.out]; omega)).mono ?_
            rintro e w7 ⟨rfl, hlf, hc7, hb7⟩
            rw [← HVS.out] at hb7
            rw [HVN.out] at hc7
            have HG7 := Lib.hid (hlf.new HGa.out (by omega) (by omega)); have HC7 := Lib.hid hc7; have HB7 := Lib.hid hb7
            clear hlf hc7 hb7 c0 c1 c2 c3 c4 c5
            go_wp2_with fail
            go_roundw
            case rel =>
              refine ⟨q + 1, by omega, by go_num, HG7.out, ?_, HB7.out⟩
              have h := HC7.out
              rwa [show 21 + 19 * q + 19 = 21 + 19 * (q + 1) from by omega, show 240 - (21 + 19 * q) - 19 = 219 - 19 * (q + 1) from by omega] at h
            case measure => simp [intOf]; omega
          · obtain rfl : q = 8 := by omega
            have hb := HBq.out
            rw [catV_all] at hb
            have HB8 := Lib.hid hb; clear hb
            go_wp2
            go_ret2
            refine ⟨HGq.out, .inl ⟨_, w1.heap.size, HYES.out, ?_, by omega, HB8.out, fill_lt _ _ (catB_lt _ _ _)⟩⟩
            rw [fill_length _ _ (by rw [catB_len _ _ _ HS8.out]; omega)]
            rfl
end Go.Proofs.Ytboccfficmaoaaa.Codec
/- The project's PutNode, with nodeMayBe. -/
namespace Go.Proofs.Ytboccfficmaoaaa.Codec
open Go.RowKit CrcMath CodecMath Mem Crc

theorem nodeOk_eq {ks vs : List Int} {n n' : Nat} (hn : ks.length = n) (hn' : vs.length = n') : nodeOk ks vs = (decide (n = n') && decide (n ≤ 8) && allB ks 1048575 && allB vs 1023) := by subst hn hn'; rfl
set_option maxRecDepth 100000 in
set_option maxHeartbeats 800000 in
theorem nodemay_any (b : Nat) (leaf : Bool) (A A' : Option Addr) (n n' c c' : Nat) (ks vs : List Int) (w : World) (hk : Ints w b A n ks) (hv : Ints w b A' n' vs) :
    Calls Try.prog 83 #[.agg #[.bool leaf, .slice A n c, .slice A' n' c']] w fun e w' =>
      e = .returned (.bool (nodeOk ks vs)) ∧ w' = w.alloc (.cells #[.bool leaf, .slice A n c, .slice A' n' c'] 51) := by
  have HOK := Lib.hid (nodeOk_eq hk.1 hv.1)
  have HK := Lib.hid (ints_keep hk (World.grownBy_alloc w (.cells #[.bool leaf, .slice A n c, .slice A' n' c'] 51) none) (.inl rfl)); have HV := Lib.hid (ints_keep hv (World.grownBy_alloc w (.cells #[.bool leaf, .slice A n c, .slice A' n' c'] 51) none) (.inl rfl))
  clear hk hv
  generalize nodeOk ks vs = ok at *
  by_cases h1 : n = n'
  · subst h1
    by_cases h2 : n ≤ 8
    · have h2' : ((n : Nat) : Int) ≤ 8 := by omega
      cases hka : allB ks 1048575 with
      | false =>
        have HN := Lib.hid (show ok = false by rw [HOK.out, hka]; simp)
        have HKA := Lib.hid hka; clear hka
        go_enter Try.func83, Try.ntmps83
        go_wp2_with fail
        refine (allwithin_any b A n c ks 1048575 _ HK.out (by omega)).mono ?_
        rintro e w2 ⟨rfl, rfl⟩
        rw [HKA.out]
        go_wp2
        go_ret
        exact ⟨by rw [HN.out]; rfl, rfl⟩
      | true =>
        have HN := Lib.hid (show ok = allB vs 1023 by rw [HOK.out, hka]; simp [h2])
        have HKA := Lib.hid hka; clear hka
        go_enter Try.func83, Try.ntmps83
        go_wp2_with fail
        refine (allwithin_any b A n c ks 1048575 _ HK.out (by omega)).mono ?_
        rintro e w2 ⟨rfl, rfl⟩
        rw [HKA.out]
        go_wp2_with fail
        refine (allwithin_any b A' n c' vs 1023 _ HV.out (by omega)).mono ?_
        rintro e w2 ⟨rfl, rfl⟩
        go_wp2
        go_ret
        exact ⟨by rw [HN.out]; rfl, rfl⟩
    · have HN := Lib.hid (show ok = false by rw [HOK.out]; simp [h2])
      have hd : decide (((n : Nat) : Int) ≤ 8) = false := by simp; omega
      go_enter Try.func83, Try.ntmps83
      go_wp2
      go_ret
      exact ⟨by rw [HN.out]; rfl, rfl⟩
  · have HN := Lib.hid (show ok = false by rw [HOK.out]; simp [h1])
    have hne : (((n : Nat) : Int) == ((n' : Nat) : Int)) = false := by simp; omega
    go_enter Try.func83, Try.ntmps83
    go_wp2
    go_ret
    exact ⟨by rw [HN.out]; rfl, rfl⟩

/-- What of a node stands when j of its keys are written. -/
def nodeP (leaf : Bool) (ks vs : List Int) (j : Nat) : List Nat := be 1 (if leaf then 1 else 0) ++ be 1 ks.length ++ pairsB ks vs j
theorem nodeP_len (leaf : Bool) (ks vs : List Int) (j : Nat) : (nodeP leaf ks vs j).length = 2 + 6 * j := by simp only [nodeP, List.length_append, be_length, pairsB_len]
theorem nodeP_succ (leaf : Bool) (ks vs : List Int) (j : Nat) : nodeP leaf ks vs (j + 1) = nodeP leaf ks vs j ++ be 4 (ks.getD j 0).toNat ++ be 2 (vs.getD j 0).toNat := by simp [nodeP, pairsB_succ]
theorem nodeP_all (leaf : Bool) (ks vs : List Int) : nodeP leaf ks vs ks.length = nodeB leaf ks vs := by simp [nodeP, nodeB]
set_option maxRecDepth 100000 in
set_option maxHeartbeats 1600000 in
theorem codec_put_node_false (b : Nat) (A A' : Option Addr) (n n' c c' : Nat) (ks vs : List Int) (w : World) (hk : Ints w b A n ks) (hv : Ints w b A' n' vs) :
    Calls Try.prog 54 #[.agg #[.bool false, .slice A n c, .slice A' n' c']] w (Gave w 154 (nodeW false ks vs)) := by
  have HKL := Lib.hid hk.1; have HVL := Lib.hid hv.1
  have hg00 := World.grownBy_alloc w (.cells #[.bool false, .slice A n c, .slice A' n' c'] 51) none
  have HK := Lib.hid hk; have HV := Lib.hid hv
  have HK1 := Lib.hid (ints_keep hk hg00 (.inl rfl)); have HV1 := Lib.hid (ints_keep hv hg00 (.inl rfl))
  have HG0 := Lib.hid (hg00.trans (World.grownBy_alloc _ (.cells #[.bool false, .slice A n c, .slice A' n' c'] 51) none))
  have HBX := Lib.hid ((Blk.new w 51 #[.bool false, .slice A n c, .slice A' n' c']).alloc (.cells #[.bool false, .slice A n c, .slice A' n' c'] 51))
  have hz := zero240
  clear hk hv hg00
  cases hok : nodeOk ks vs with
  | false =>
    have HNO := Lib.hid (show nodeW false ks vs = none by rw [nodeW, hok]; rfl)
    have HOK := Lib.hid hok; clear hok
    go_enter Try.func54, Try.ntmps54
    go_wp2_with fail
    refine (nodemay_any b false A A' n n' c c' ks vs _ HK1.out HV1.out).mono ?_
    rintro e w1 ⟨rfl, rfl⟩
    rw [HOK.out]
    go_wp2
    go_ret2
    exact ⟨HG0.out, .inr ⟨HNO.out, rfl⟩⟩
  | true =>
    have HYES := Lib.hid (show nodeW false ks vs = some (fill (nodeB false ks vs) 240) by rw [nodeW, hok]; rfl)
    obtain ⟨hnn, hn8, hka, hva⟩ := nodeOk_iff hok
    have HKB := Lib.hid (fun j hj => allB_yes hka j hj : ∀ j, j < ks.length → 0 ≤ ks.getD j 0 ∧ ks.getD j 0 ≤ 1048575)
    have HVB := Lib.hid (fun j hj => allB_yes hva j hj : ∀ j, j < vs.length → 0 ≤ vs.getD j 0 ∧ vs.getD j 0 ≤ 1023)
    have HOK := Lib.hid hok; clear hok hka hva
    obtain rfl : n = n' := by rw [← HKL.out, ← HVL.out, hnn]
    have hn8' : n ≤ 8 := by rw [← HKL.out]; exact hn8
    clear hnn hn8
    have HFZ := Lib.hid (fill_zero 240)
    generalize hzz : Array.replicate 240 (Value.int .u8 0) = zs at *
    clear hzz
    have hst := start_row HG0.out 154 240 zs HFZ.out
    simp only [World.size_alloc] at hst
    obtain ⟨hg1, hc1, hb1⟩ := hst
    have hbx1 := (HBX.out.alloc (.cells zs 154)).alloc (.cells #[.slice (some ⟨w.heap.size + 1 + 1, 0, none⟩) 240 240] 99)
    have HG1 := Lib.hid hg1; have HC1 := Lib.hid hc1; have HB1 := Lib.hid hb1; have HX1 := Lib.hid hbx1
    have b0 := hbx1.cell 0
    simp only [List.getElem?_toArray, List.getElem?_cons_zero] at b0
    clear hg1 hc1 hb1 hbx1
    go_enter Try.func54, Try.ntmps54
    go_wp2_with fail
    refine (nodemay_any b false A A' n n c c' ks vs _ HK1.out HV1.out).mono ?_
    rintro e w1 ⟨rfl, rfl⟩
    rw [HOK.out]
    go_wp2_with fail
    clear b0
    refine (write_any _ _ 0 240 1 0 _ _ _ HC1.out HB1.out (by decide) (by omega) (by rw [fill_length _ _ (by simp)]; omega) (by rw [fill_length _ _ (by simp)]; omega) (by omega)).mono ?_
    rintro e w2 ⟨rfl, hlf, hc, hb⟩
    rw [show lay (fill [] 240) 0 (be 1 0) = fill ([] ++ be 1 0) 240 from lay_fill [] (be 1 0) 240] at hb
    have hbx := hlf.blk HX1.out (by omega) (by omega)
    have HG2 := Lib.hid (hlf.new HG1.out (by omega) (by omega)); have HC2 := Lib.hid hc; have HB2 := Lib.hid hb; have HX2 := Lib.hid hbx
    have b1 := hbx.cell 1
    simp only [List.getElem?_toArray, List.getElem?_cons_zero, List.getElem?_cons_succ] at b1
    clear hlf hc hb hbx HG1 HC1 HB1 HX1
    go_wp2_with fail
    refine (write_any _ _ 1 239 1 n _ _ _ HC2.out HB2.out (by decide) (by omega) (by rw [fill_length _ _ (by simp [be_length])]; omega) (by rw [fill_length _ _ (by simp [be_length])]; omega) (by omega)).mono ?_
    clear b1
    rintro e w3 ⟨rfl, hlf, hc, hb⟩
    rw [show lay (fill ([] ++ be 1 0) 240) 1 (be 1 n) = fill (nodeP false ks vs 0) 240 by
      have h := lay_fill ([] ++ be 1 0) (be 1 n) 240
      rw [← HKL.out] at h ⊢
      exact h.trans (by simp [nodeP, pairsB])] at hb
    have hbx := hlf.blk HX2.out (by omega) (by omega)
    have HG3 := Lib.hid (hlf.new HG2.out (by omega) (by omega)); have HC3 := Lib.hid hc; have HB3 := Lib.hid hb; have HX3 := Lib.hid hbx
    have b1 := hbx.cell 1
    simp only [List.getElem?_toArray, List.getElem?_cons_zero, List.getElem?_cons_succ] at b1
    clear hlf hc hb hbx
    go_wp2_with fail
    clear b1
    go_loopw [7, 8, 24] (fun _ _ i wr => ∃ j : Nat, j ≤ n ∧ i = .int .i64 j ∧ w.grownBy wr none ∧ Cur wr (w.heap.size + 1 + 1 + 1) (w.heap.size + 1 + 1) (2 + 6 * j) (238 - 6 * j) ∧
      Blk wr (w.heap.size + 1 + 1) 154 (u8s (fill (nodeP false ks vs j) 240)).toArray ∧ Blk wr w.heap.size 51 #[.bool false, .slice A n c, .slice A' n c']) (fun _ _ i _ => n - (intOf i).toNat)
    case atStart => exact ⟨0, by omega, rfl, HG3.out, HC3.out, HB3.out, HX3.out⟩
    case round =>
      obtain ⟨j, hj, rfl, hg, hc, hb, hx⟩ := hrel
      have HG := Lib.hid hg; have HC := Lib.hid hc; have HBK := Lib.hid hb; have HX := Lib.hid hx
      clear hg hc hb hx
      by_cases hlt : j < n
      · obtain ⟨g, o, rfl, _, _, hcl⟩ := (ints_keep HK.out HG.out (.inl rfl)).2.2 (by omega)
        have hcj := hcl j hlt
        clear hcl
        obtain ⟨hx0, hx1⟩ := HKB.out j (by rw [HKL.out]; exact hlt)
        obtain ⟨hy0, hy1⟩ := HVB.out j (by rw [HVL.out]; exact hlt)
        have hpl := nodeP_len false ks vs j
        have hly := lay_fill (nodeP false ks vs j) (be 4 (ks.getD j 0).toNat) 240
        have hpl2 : (nodeP false ks vs j ++ be 4 (ks.getD j 0).toNat).length = 6 + 6 * j := by rw [List.length_append, hpl, be_length]; omega
        have hly2 := lay_fill (nodeP false ks vs j ++ be 4 (ks.getD j 0).toNat) (be 2 (vs.getD j 0).toNat) 240
        rw [hpl] at hly
        rw [hpl2, ← nodeP_succ] at hly2
        have HFL := Lib.hid (fill_length (nodeP false ks vs j) 240 (by omega))
        have HFL2 := Lib.hid (fill_length (nodeP false ks vs j ++ be 4 (ks.getD j 0).toNat) 240 (by omega))
        have HLY := Lib.hid hly; have HLY2 := Lib.hid hly2; clear hly hly2 hpl hpl2
        have hcv : ∀ wz : World, w.grownBy wz none → ∃ g' o', A' = some ⟨g', o', none⟩ ∧ wz.cell? ⟨g', o' + j, none⟩ = some (.int .i64 (vs.getD j 0)) := fun wz hz => by
          obtain ⟨g', o', e', _, _, hcl⟩ := (ints_keep HV.out hz (.inl rfl)).2.2 (by omega)
          exact ⟨g', o', e', hcl j hlt⟩
        have HCV := Lib.hid hcv; clear hcv
        generalize vs.getD j 0 = y at *
        generalize ks.getD j 0 = x at *
        obtain ⟨m, rfl⟩ := Int.eq_ofNat_of_zero_le hx0
        obtain ⟨q, rfl⟩ := Int.eq_ofNat_of_zero_le hy0
        rw [Int.toNat_natCast] at HLY HLY2 HFL2
        rw [Int.toNat_natCast] at HLY2
        go_wp2_with fail
        refine (write_any _ _ (2 + 6 * j) (238 - 6 * j) 4 m _ _ _ HC.out HBK.out (by decide) (by omega) (by rw [HFL.out]; omega) (by rw [HFL.out]; omega) (by omega)).mono ?_
        rintro e w4 ⟨rfl, hlf, hc4, hb4⟩
        rw [HLY.out] at hb4
        have hbx := hlf.blk HX.out (by omega) (by omega)
        have HG4 := Lib.hid (hlf.new HG.out (by omega) (by omega)); have HC4 := Lib.hid hc4; have HB4 := Lib.hid hb4; have HX4 := Lib.hid hbx
        have b2 := hbx.cell 2
        simp only [List.getElem?_toArray, List.getElem?_cons_zero, List.getElem?_cons_succ] at b2
        clear hlf hc4 hb4 hbx hcj
        obtain ⟨g', o', rfl, hcv⟩ := HCV.out w4 HG4.out
        go_wp2_with fail
        refine (write_any _ _ (6 + 6 * j) (234 - 6 * j) 2 q _ _ _ (by have h := HC4.out; rwa [show 2 + 6 * j + 4 = 6 + 6 * j from by omega, show 238 - 6 * j - 4 = 234 - 6 * j from by omega] at h) HB4.out (by decide) (by omega) (by rw [HFL2.out]; omega) (by rw [HFL2.out]; omega) (by omega)).mono ?_
        rintro e w5 ⟨rfl, hlf, hc5, hb5⟩
        rw [HLY2.out] at hb5
        have hbx := hlf.blk HX4.out (by omega) (by omega)
        have HG5 := Lib.hid (hlf.new HG4.out (by omega) (by omega)); have HC5 := Lib.hid hc5; have HB5 := Lib.hid hb5; have HX5 := Lib.hid hbx
        clear hlf hc5 hb5 hbx hcv b2
        go_wp2_with fail
        go_roundw
        case rel =>
          refine ⟨j + 1, by omega, by go_num, HG5.out, ?_, HB5.out, HX5.out⟩
          have h := HC5.out
          rwa [show 6 + 6 * j + 2 = 2 + 6 * (j + 1) from by omega, show 234 - 6 * j - 2 = 238 - 6 * (j + 1) from by omega] at h
        case measure => simp [intOf]; omega
      · obtain rfl : j = n := by omega
        have hb := HBK.out
        rw [← HKL.out, nodeP_all] at hb
        have HB7 := Lib.hid hb; clear hb
        go_wp2
        go_ret2
        refine ⟨HG.out, .inl ⟨_, w.heap.size + 1 + 1, HYES.out, ?_, by omega, HB7.out, fill_lt _ _ (nodeB_lt false ks vs)⟩⟩
        rw [fill_length _ _ (by rw [nodeB_len, HKL.out]; omega)]
        rfl
set_option maxRecDepth 100000 in
set_option maxHeartbeats 1600000 in
theorem codec_put_node_true (b : Nat) (A A' : Option Addr) (n n' c c' : Nat) (ks vs : List Int) (w : World) (hk : Ints w b A n ks) (hv : Ints w b A' n' vs) :
    Calls Try.prog 54 #[.agg #[.bool true, .slice A n c, .slice A' n' c']] w (Gave w 154 (nodeW true ks vs)) := by
  have HKL := Lib.hid hk.1; have HVL := Lib.hid hv.1
  have hg00 := World.grownBy_alloc w (.cells #[.bool true, .slice A n c, .slice A' n' c'] 51) none
  have HK := Lib.hid hk; have HV := Lib.hid hv
  have HK1 := Lib.hid (ints_keep hk hg00 (.inl rfl)); have HV1 := Lib.hid (ints_keep hv hg00 (.inl rfl))
  have HG0 := Lib.hid (hg00.trans (World.grownBy_alloc _ (.cells #[.bool true, .slice A n c, .slice A' n' c'] 51) none))
  have HBX := Lib.hid ((Blk.new w 51 #[.bool true, .slice A n c, .slice A' n' c']).alloc (.cells #[.bool true, .slice A n c, .slice A' n' c'] 51))
  have hz := zero240
  clear hk hv hg00
  cases hok : nodeOk ks vs with
  | false =>
    have HNO := Lib.hid (show nodeW true ks vs = none by rw [nodeW, hok]; rfl)
    have HOK := Lib.hid hok; clear hok
    go_enter Try.func54, Try.ntmps54
    go_wp2_with fail
    refine (nodemay_any b true A A' n n' c c' ks vs _ HK1.out HV1.out).mono ?_
    rintro e w1 ⟨rfl, rfl⟩
    rw [HOK.out]
    go_wp2
    go_ret2
    exact ⟨HG0.out, .inr ⟨HNO.out, rfl⟩⟩
  | true =>
    have HYES := Lib.hid (show nodeW true ks vs = some (fill (nodeB true ks vs) 240) by rw [nodeW, hok]; rfl)
    obtain ⟨hnn, hn8, hka, hva⟩ := nodeOk_iff hok
    have HKB := Lib.hid (fun j hj => allB_yes hka j hj : ∀ j, j < ks.length → 0 ≤ ks.getD j 0 ∧ ks.getD j 0 ≤ 1048575)
    have HVB := Lib.hid (fun j hj => allB_yes hva j hj : ∀ j, j < vs.length → 0 ≤ vs.getD j 0 ∧ vs.getD j 0 ≤ 1023)
    have HOK := Lib.hid hok; clear hok hka hva
    obtain rfl : n = n' := by rw [← HKL.out, ← HVL.out, hnn]
    have hn8' : n ≤ 8 := by rw [← HKL.out]; exact hn8
    clear hnn hn8
    have HFZ := Lib.hid (fill_zero 240)
    generalize hzz : Array.replicate 240 (Value.int .u8 0) = zs at *
    clear hzz
    have hst := start_row HG0.out 154 240 zs HFZ.out
    simp only [World.size_alloc] at hst
    obtain ⟨hg1, hc1, hb1⟩ := hst
    have hbx1 := (HBX.out.alloc (.cells zs 154)).alloc (.cells #[.slice (some ⟨w.heap.size + 1 + 1, 0, none⟩) 240 240] 99)
    have HG1 := Lib.hid hg1; have HC1 := Lib.hid hc1; have HB1 := Lib.hid hb1; have HX1 := Lib.hid hbx1
    have b0 := hbx1.cell 0
    simp only [List.getElem?_toArray, List.getElem?_cons_zero] at b0
    clear hg1 hc1 hb1 hbx1
    go_enter Try.func54, Try.ntmps54
    go_wp2_with fail
    refine (nodemay_any b true A A' n n c c' ks vs _ HK1.out HV1.out).mono ?_
    rintro e w1 ⟨rfl, rfl⟩
    rw [HOK.out]
    go_wp2_with fail
    clear b0
    refine (write_any _ _ 0 240 1 1 _ _ _ HC1.out HB1.out (by decide) (by omega) (by rw [fill_length _ _ (by simp)]; omega) (by rw [fill_length _ _ (by simp)]; omega) (by omega)).mono ?_
    rintro e w2 ⟨rfl, hlf, hc, hb⟩
    rw [show lay (fill [] 240) 0 (be 1 1) = fill ([] ++ be 1 1) 240 from lay_fill [] (be 1 1) 240] at hb
    have hbx := hlf.blk HX1.out (by omega) (by omega)
    have HG2 := Lib.hid (hlf.new HG1.out (by omega) (by omega)); have HC2 := Lib.hid hc; have HB2 := Lib.hid hb; have HX2 := Lib.hid hbx
    have b1 := hbx.cell 1
    simp only [List.getElem?_toArray, List.getElem?_cons_zero, List.getElem?_cons_succ] at b1
    clear hlf hc hb hbx HG1 HC1 HB1 HX1
    go_wp2_with fail
    refine (write_any _ _ 1 239 1 n _ _ _ HC2.out HB2.out (by decide) (by omega) (by rw [fill_length _ _ (by simp [be_length])]; omega) (by rw [fill_length _ _ (by simp [be_length])]; omega) (by omega)).mono ?_
    clear b1
    rintro e w3 ⟨rfl, hlf, hc, hb⟩
    rw [show lay (fill ([] ++ be 1 1) 240) 1 (be 1 n) = fill (nodeP true ks vs 0) 240 by
      have h := lay_fill ([] ++ be 1 1) (be 1 n) 240
      rw [← HKL.out] at h ⊢
      exact h.trans (by simp [nodeP, pairsB])] at hb
    have hbx := hlf.blk HX2.out (by omega) (by omega)
    have HG3 := Lib.hid (hlf.new HG2.out (by omega) (by omega)); have HC3 := Lib.hid hc; have HB3 := Lib.hid hb; have HX3 := Lib.hid hbx
    have b1 := hbx.cell 1
    simp only [List.getElem?_toArray, List.getElem?_cons_zero, List.getElem?_cons_succ] at b1
    clear hlf hc hb hbx
    go_wp2_with fail
    clear b1
    go_loopw [7, 8, 24] (fun _ _ i wr => ∃ j : Nat, j ≤ n ∧ i = .int .i64 j ∧ w.grownBy wr none ∧ Cur wr (w.heap.size + 1 + 1 + 1) (w.heap.size + 1 + 1) (2 + 6 * j) (238 - 6 * j) ∧
      Blk wr (w.heap.size + 1 + 1) 154 (u8s (fill (nodeP true ks vs j) 240)).toArray ∧ Blk wr w.heap.size 51 #[.bool true, .slice A n c, .slice A' n c']) (fun _ _ i _ => n - (intOf i).toNat)
    case atStart => exact ⟨0, by omega, rfl, HG3.out, HC3.out, HB3.out, HX3.out⟩
    case round =>
      obtain ⟨j, hj, rfl, hg, hc, hb, hx⟩ := hrel
      have HG := Lib.hid hg; have HC := Lib.hid hc; have HBK := Lib.hid hb; have HX := Lib.hid hx
      clear hg hc hb hx
      by_cases hlt : j < n
      · obtain ⟨g, o, rfl, _, _, hcl⟩ := (ints_keep HK.out HG.out (.inl rfl)).2.2 (by omega)
        have hcj := hcl j hlt
        clear hcl
        obtain ⟨hx0, hx1⟩ := HKB.out j (by rw [HKL.out]; exact hlt)
        obtain ⟨hy0, hy1⟩ := HVB.out j (by rw [HVL.out]; exact hlt)
        have hpl := nodeP_len true ks vs j
        have hly := lay_fill (nodeP true ks vs j) (be 4 (ks.getD j 0).toNat) 240
        have hpl2 : (nodeP true ks vs j ++ be 4 (ks.getD j 0).toNat).length = 6 + 6 * j := by rw [List.length_append, hpl, be_length]; omega
        have hly2 := lay_fill (nodeP true ks vs j ++ be 4 (ks.getD j 0).toNat) (be 2 (vs.getD j 0).toNat) 240
        rw [hpl] at hly
        rw [hpl2, ← nodeP_succ] at hly2
        have HFL := Lib.hid (fill_length (nodeP true ks vs j) 240 (by omega))
        have HFL2 := Lib.hid (fill_length (nodeP true ks vs j ++ be 4 (ks.getD j 0).toNat) 240 (by omega))
        have HLY := Lib.hid hly; have HLY2 := Lib.hid hly2; clear hly hly2 hpl hpl2
        have hcv : ∀ wz : World, w.grownBy wz none → ∃ g' o', A' = some ⟨g', o', none⟩ ∧ wz.cell? ⟨g', o' + j, none⟩ = some (.int .i64 (vs.getD j 0)) := fun wz hz => by
          obtain ⟨g', o', e', _, _, hcl⟩ := (ints_keep HV.out hz (.inl rfl)).2.2 (by omega)
          exact ⟨g', o', e', hcl j hlt⟩
        have HCV := Lib.hid hcv; clear hcv
        generalize vs.getD j 0 = y at *
        generalize ks.getD j 0 = x at *
        obtain ⟨m, rfl⟩ := Int.eq_ofNat_of_zero_le hx0
        obtain ⟨q, rfl⟩ := Int.eq_ofNat_of_zero_le hy0
        rw [Int.toNat_natCast] at HLY HLY2 HFL2
        rw [Int.toNat_natCast] at HLY2
        go_wp2_with fail
        refine (write_any _ _ (2 + 6 * j) (238 - 6 * j) 4 m _ _ _ HC.out HBK.out (by decide) (by omega) (by rw [HFL.out]; omega) (by rw [HFL.out]; omega) (by omega)).mono ?_
        rintro e w4 ⟨rfl, hlf, hc4, hb4⟩
        rw [HLY.out] at hb4
        have hbx := hlf.blk HX.out (by omega) (by omega)
        have HG4 := Lib.hid (hlf.new HG.out (by omega) (by omega)); have HC4 := Lib.hid hc4; have HB4 := Lib.hid hb4; have HX4 := Lib.hid hbx
        have b2 := hbx.cell 2
        simp only [List.getElem?_toArray, List.getElem?_cons_zero, List.getElem?_cons_succ] at b2
        clear hlf hc4 hb4 hbx hcj
        obtain ⟨g', o', rfl, hcv⟩ := HCV.out w4 HG4.out
        go_wp2_with fail
        refine (write_any _ _ (6 + 6 * j) (234 - 6 * j) 2 q _ _ _ (by have h := HC4.out; rwa [show 2 + 6 * j + 4 = 6 + 6 * j from by omega, show 238 - 6 * j - 4 = 234 - 6 * j from by omega] at h) HB4.out (by decide) (by omega) (by rw [HFL2.out]; omega) (by rw [HFL2.out]; omega) (by omega)).mono ?_
        rintro e w5 ⟨rfl, hlf, hc5, hb5⟩
        rw [HLY2.out] at hb5
        have hbx := hlf.blk HX4.out (by omega) (by omega)
        have HG5 := Lib.hid (hlf.new HG4.out (by omega) (by omega)); have HC5 := Lib.hid hc5; have HB5 := Lib.hid hb5; have HX5 := Lib.hid hbx
        clear hlf hc5 hb5 hbx hcv b2
        go_wp2_with fail
        go_roundw
        case rel =>
          refine ⟨j + 1, by omega, by go_num, HG5.out, ?_, HB5.out, HX5.out⟩
          have h := HC5.out
          rwa [show 6 + 6 * j + 2 = 2 + 6 * (j + 1) from by omega, show 234 - 6 * j - 2 = 238 - 6 * (j + 1) from by omega] at h
        case measure => simp [intOf]; omega
      · obtain rfl : j = n := by omega
        have hb := HBK.out
        rw [← HKL.out, nodeP_all] at hb
        have HB7 := Lib.hid hb; clear hb
        go_wp2
        go_ret2
        refine ⟨HG.out, .inl ⟨_, w.heap.size + 1 + 1, HYES.out, ?_, by omega, HB7.out, fill_lt _ _ (nodeB_lt true ks vs)⟩⟩
        rw [fill_length _ _ (by rw [nodeB_len, HKL.out]; omega)]
        rfl
theorem codec_put_node (b : Nat) (leaf : Bool) (A A' : Option Addr) (n n' c c' : Nat) (ks vs : List Int) (w : World) (hk : Ints w b A n ks) (hv : Ints w b A' n' vs) :
    Calls Try.prog 54 #[.agg #[.bool leaf, .slice A n c, .slice A' n' c']] w (Gave w 154 (nodeW leaf ks vs)) := by
  cases leaf with
  | false => exact codec_put_node_false b A A' n n' c c' ks vs w hk hv
  | true => exact codec_put_node_true b A A' n n' c c' ks vs w hk hv
end Go.Proofs.Ytboccfficmaoaaa.Codec
/- The project's PutImage. -/
namespace Go.Proofs.Ytboccfficmaoaaa.Codec
open Go.RowKit CrcMath CodecMath Mem Crc

def imageP (k m e s : Nat) : List Nat := be 1 k ++ be 2 m ++ be 4 e ++ be 5 s
theorem imageP_len (k m e s : Nat) : (imageP k m e s).length = 12 := by simp [imageP, be_length]
theorem imageP_all (k m e s : Nat) (l : List Nat) : imageP k m e s ++ l = imageB (e : Int) (s : Int) (m : Int) (k : Int) l := by simp [imageP, imageB]
set_option maxRecDepth 100000 in
set_option maxHeartbeats 1600000 in
theorem codec_put_image (b b2 : Nat) (epoch seq number kind : Int) (A : Option Addr) (n c : Nat) (l : List Nat) (w : World) (hR : Ready w b) (hl : Bytes w b2 A n l) :
    Calls Try.prog 51 #[.pointer (some ⟨b, 0, none⟩), .int .i64 epoch, .int .i64 seq, .agg #[.int .i64 number, .int .i64 kind, .slice A n c]] w (Gave w 133 (imageW epoch seq number kind l)) := by
  have hlen := hl.1
  have hlt := hl.2.1
  have HR := Lib.hid hR; have HLEN := Lib.hid hlen; have HLT := Lib.hid hlt; have HL := Lib.hid hl; clear hR hl hlen hlt
  have hz := zero256
  have hg0 := (World.grownBy_alloc w (.cells #[.int .i64 number, .int .i64 kind, .slice A n c] 46) none).trans (World.grownBy_alloc _ (.cells #[.int .i64 number, .int .i64 kind, .slice A n c] 46) none)
  have hbx := (Blk.new w 46 #[.int .i64 number, .int .i64 kind, .slice A n c]).alloc (.cells #[.int .i64 number, .int .i64 kind, .slice A n c] 46)
  have HG0 := Lib.hid hg0; have HBX := Lib.hid hbx; clear hg0 hbx
  cases hok : pageOk number kind l with
  | false =>
    have HNO := Lib.hid (show imageW epoch seq number kind l = none by rw [imageW, imageOk, hok]; rfl)
    have HOK := Lib.hid hok; clear hok
    go_enter Try.func51, Try.ntmps51
    go_wp2_with fail
    refine (imagemay_any number kind A n c l _ HLEN.out HLT.out).mono ?_
    rintro e w1 ⟨rfl, rfl⟩
    rw [HOK.out]
    go_wp2
    go_ret2
    exact ⟨HG0.out, .inr ⟨HNO.out, rfl⟩⟩
  | true =>
    cases hie : inB epoch 4294967295 with
    | false =>
      have HNO := Lib.hid (show imageW epoch seq number kind l = none by rw [imageW, imageOk, hie]; simp)
      have HOK := Lib.hid hok; have HIE := Lib.hid hie; clear hok hie
      go_enter Try.func51, Try.ntmps51
      go_wp2_with fail
      refine (imagemay_any number kind A n c l _ HLEN.out HLT.out).mono ?_
      rintro e w1 ⟨rfl, rfl⟩
      rw [HOK.out]
      go_wp2_with fail
      refine (within_any epoch _ _).mono ?_
      rintro e w2 ⟨rfl, rfl⟩
      rw [HIE.out]
      go_wp2
      go_ret2
      exact ⟨HG0.out, .inr ⟨HNO.out, rfl⟩⟩
    | true =>
      cases his : inB seq 1099511627775 with
      | false =>
        have HNO := Lib.hid (show imageW epoch seq number kind l = none by rw [imageW, imageOk, his]; simp)
        have HOK := Lib.hid hok; have HIE := Lib.hid hie; have HIS := Lib.hid his; clear hok hie his
        go_enter Try.func51, Try.ntmps51
        go_wp2_with fail
        refine (imagemay_any number kind A n c l _ HLEN.out HLT.out).mono ?_
        rintro e w1 ⟨rfl, rfl⟩
        rw [HOK.out]
        go_wp2_with fail
        refine (within_any epoch _ _).mono ?_
        rintro e w2 ⟨rfl, rfl⟩
        rw [HIE.out]
        go_wp2_with fail
        refine (within_any seq _ _).mono ?_
        rintro e w2 ⟨rfl, rfl⟩
        rw [HIS.out]
        go_wp2
        go_ret2
        exact ⟨HG0.out, .inr ⟨HNO.out, rfl⟩⟩
      | true =>
        have HYES := Lib.hid (show imageW epoch seq number kind l = some (frame (imageB epoch seq number kind l)) by rw [imageW, imageOk, hok, hie, his]; rfl)
        obtain ⟨⟨hk0, hk1⟩, ⟨hm0, hm1⟩, hb240, _⟩ := pageOk_iff hok
        obtain ⟨he0, he1⟩ := inB_yes hie
        obtain ⟨hs0, hs1⟩ := inB_yes his
        have HOK := Lib.hid hok; have HIE := Lib.hid hie; have HIS := Lib.hid his; clear hok hie his
        obtain rfl : n = 240 := by rw [← HLEN.out, hb240]
        obtain ⟨k, rfl⟩ := Int.eq_ofNat_of_zero_le (show 0 ≤ kind by omega)
        obtain ⟨m, rfl⟩ := Int.eq_ofNat_of_zero_le hm0
        obtain ⟨ep, rfl⟩ := Int.eq_ofNat_of_zero_le he0
        obtain ⟨sq, rfl⟩ := Int.eq_ofNat_of_zero_le hs0
        clear hb240
        have HFZ := Lib.hid (fill_zero 256)
        generalize hzz : Array.replicate 256 (Value.int .u8 0) = zs at *
        clear hzz
        have hst := start_row HG0.out 133 256 zs HFZ.out
        simp only [World.size_alloc] at hst
        obtain ⟨hg1, hc1, hb1⟩ := hst
        have HG1 := Lib.hid hg1; have HC1 := Lib.hid hc1; have HB1 := Lib.hid hb1; have HBA := Lib.hid ((HBX.out.alloc (.cells zs 133)).alloc (.cells #[.slice (some ⟨w.heap.size + 1 + 1, 0, none⟩) 256 256] 99))
        clear hg1 hc1 hb1
        go_enter Try.func51, Try.ntmps51
        go_wp2_with fail
        refine (imagemay_any m k A 240 c l _ HLEN.out HLT.out).mono ?_
        rintro e w1 ⟨rfl, rfl⟩
        rw [HOK.out]
        go_wp2_with fail
        refine (within_any (ep : Int) _ _).mono ?_
        rintro e w2 ⟨rfl, rfl⟩
        rw [HIE.out]
        go_wp2_with fail
        refine (within_any (sq : Int) _ _).mono ?_
        rintro e w2 ⟨rfl, rfl⟩
        rw [HIS.out]
        have hb1' := HBA.out
        have x1 := hb1'.cell 1
        simp only [List.getElem?_toArray, List.getElem?_cons_zero, List.getElem?_cons_succ] at x1
        clear hb1'
        go_wp2_with fail
        clear x1
        refine (write_any _ _ 0 256 1 k _ _ _ HC1.out HB1.out (by decide) (by omega) (by rw [fill_length _ _ (by simp)]; omega) (by rw [fill_length _ _ (by simp)]; omega) (by omega)).mono ?_
        rintro e w2 ⟨rfl, hlf, hc, hb⟩
        rw [show lay (fill ([]) 256) 0 (be 1 k) = fill ([] ++ be 1 k) 256 from lay_fill ([]) (be 1 k) 256] at hb
        have hbx := hlf.blk HBA.out (by omega) (by omega)
        have HG2 := Lib.hid (hlf.new HG1.out (by omega) (by omega)); have HC2 := Lib.hid hc; have HB2 := Lib.hid hb; have HX2 := Lib.hid hbx
        have x0 := hbx.cell 0
        simp only [List.getElem?_toArray, List.getElem?_cons_zero] at x0
        clear hlf hc hb hbx
        go_wp2_with fail
        clear x0
        refine (write_any _ _ 1 255 2 m _ _ _ HC2.out HB2.out (by decide) (by omega) (by rw [fill_length _ _ (by simp [be_length])]; omega) (by rw [fill_length _ _ (by simp [be_length])]; omega) (by omega)).mono ?_
        rintro e w3 ⟨rfl, hlf, hc, hb⟩
        rw [show lay (fill ([] ++ be 1 k) 256) 1 (be 2 m) = fill ([] ++ be 1 k ++ be 2 m) 256 from lay_fill ([] ++ be 1 k) (be 2 m) 256] at hb
        have hbx := hlf.blk HX2.out (by omega) (by omega)
        have HG3 := Lib.hid (hlf.new HG2.out (by omega) (by omega)); have HC3 := Lib.hid hc; have HB3 := Lib.hid hb; have HX3 := Lib.hid hbx
        clear hlf hc hb hbx
        go_wp2_with fail
        refine (write_any _ _ 3 253 4 ep _ _ _ HC3.out HB3.out (by decide) (by omega) (by rw [fill_length _ _ (by simp [be_length])]; omega) (by rw [fill_length _ _ (by simp [be_length])]; omega) (by omega)).mono ?_
        rintro e w4 ⟨rfl, hlf, hc, hb⟩
        rw [show lay (fill ([] ++ be 1 k ++ be 2 m) 256) 3 (be 4 ep) = fill ([] ++ be 1 k ++ be 2 m ++ be 4 ep) 256 from lay_fill ([] ++ be 1 k ++ be 2 m) (be 4 ep) 256] at hb
        have hbx := hlf.blk HX3.out (by omega) (by omega)
        have HG4 := Lib.hid (hlf.new HG3.out (by omega) (by omega)); have HC4 := Lib.hid hc; have HB4 := Lib.hid hb; have HX4 := Lib.hid hbx
        clear hlf hc hb hbx
        go_wp2_with fail
        refine (write_any _ _ 7 249 5 sq _ _ _ HC4.out HB4.out (by decide) (by omega) (by rw [fill_length _ _ (by simp [be_length])]; omega) (by rw [fill_length _ _ (by simp [be_length])]; omega) (by omega)).mono ?_
        rintro e w5 ⟨rfl, hlf, hc, hb⟩
        rw [show lay (fill ([] ++ be 1 k ++ be 2 m ++ be 4 ep) 256) 7 (be 5 sq) = fill (imageP k m ep sq) 256 from lay_fill ([] ++ be 1 k ++ be 2 m ++ be 4 ep) (be 5 sq) 256] at hb
        have hbx := hlf.blk HX4.out (by omega) (by omega)
        have HG5 := Lib.hid (hlf.new HG4.out (by omega) (by omega)); have HC5 := Lib.hid hc; have HB5 := Lib.hid hb; have HX5 := Lib.hid hbx
        have x2 := hbx.cell 2
        simp only [List.getElem?_toArray, List.getElem?_cons_zero, List.getElem?_cons_succ] at x2
        have HLY := Lib.hid (show lay (fill (imageP k m ep sq) 256) 12 l = fill (imageB ep sq m k l) 256 by
          rw [← imageP_all]
          have h := lay_fill (imageP k m ep sq) l 256
          have h12 : (imageP k m ep sq).length = 12 := imageP_len k m ep sq
          rwa [h12] at h)
        have hl5 := bytes_keepN (bytes_new (p := w.heap.size + 1 + 1 + 1) HL.out (by omega)) HG5.out
        obtain ⟨ga, oa, rfl, _, _, _⟩ := hl5.2.2 (by omega)
        have HL5 := Lib.hid hl5
        have HFL := Lib.hid (fill_length (imageP k m ep sq) 256 (by rw [imageP_len]; omega))
        clear hlf hc hb hbx hl5
        go_upto_region 9 with fail
        have hn1 : some w.heap.size ≠ some (w.heap.size + 1 + 1 + 1) := by simp; omega
        have hn2 : some (w.heap.size + 1 + 1) ≠ some (w.heap.size + 1 + 1 + 1) := by simp
        have hn3 : ∀ j, some (w.heap.size + 1 + 1 + 1) = some j → w.heap.size ≤ j := fun j hj => by cases hj; omega
        have hn4 : 0 < 240 := by omega
        have HN1 := Lib.hid hn1; have HN2 := Lib.hid hn2; have HN3 := Lib.hid hn3; clear hn1 hn2 hn3
        go_region_law (first
          | (go_simp
             go_at_call 38
             refine (take_any (w.heap.size + 1 + 1 + 1) (w.heap.size + 1 + 1) 12 244 240 _ ?_ ?_ ?_).mono ?_
             exact HC5.out
             omega
             omega
             rintro e w6 ⟨⟨k6, rfl, hk6⟩, hr6, hc6⟩
             obtain rfl := hk6 hn4
             have hx6 := HX5.out.drew.grown hr6 HN1.out
             have HG6 := Lib.hid (grownBy_new (HG5.out.trans (grown_drew _ none)) hr6 HN3.out)
             have HB6 := Lib.hid (HB5.out.drew.grown hr6 HN2.out)
             have HL6 := Lib.hid ((bytes_drew HL5.out).keep hr6)
             have x26 := hx6.cell 2
             simp only [List.getElem?_toArray, List.getElem?_cons_zero, List.getElem?_cons_succ] at x26
             clear hr6 hc6 hx6)
          | (refine step_copy_part rfl (.tmp 41) (.tmp 44) rfl (w.heap.size + 1 + 1) 12 ga oa c 240 240 (w.heap.size + 1 + 1 + 1) 133 (fill (imageP k m ep sq) 256) l ?_ ?_ ?_ ?_ ?_ ?_
             rfl
             rfl
             exact HB6.out
             exact HL6.out
             (rw [HFL.out]; omega)))
        all_goals
          rw [HLY.out]
          have hb7 := blk_setRow HB6.out (u8s (fill (imageB ep sq m k l) 256)).toArray
          have hg7 := grown_setRow HG6.out (show w.heap.size ≤ w.heap.size + 1 + 1 by omega) (u8s (fill (imageB ep sq m k l) 256)).toArray
          generalize w6.setRow (w.heap.size + 1 + 1) (u8s (fill (imageB ep sq m k l) 256)).toArray = w7 at *
          obtain ⟨sb, hasks, hleft⟩ := (tabs_ready HR.out).asks hg7 (w.heap.size + 1 + 1)
          have hblt := (tabs_ready HR.out).lt
          have HAS := Lib.hid hasks; have HLE := Lib.hid hleft; have HBL := Lib.hid hb7
          clear hasks hleft hb7 hg7
          go_wp2_with fail
          refine (seal_any b (w.heap.size + 1 + 1) sb (imageB ep sq m k l) _ HAS.out HBL.out (by rw [imageB_len _ _ _ _ _ HLEN.out]; omega) (imageB_lt _ _ _ _ _ HLT.out) (by omega)).mono ?_
          rintro e w8 ⟨rfl, hlf, _, hb8⟩
          have HG8 := Lib.hid (HLE.out _ hlf (by omega)); have HB8 := Lib.hid hb8
          clear hlf hb8
          go_wp2
          go_ret2
          refine ⟨HG8.out, .inl ⟨_, w.heap.size + 1 + 1, HYES.out, ?_, by omega, HB8.out, frame_lt _ (imageB_lt _ _ _ _ _ HLT.out)⟩⟩
          rw [frame_length _ (by rw [imageB_len _ _ _ _ _ HLEN.out]; omega)]
          rfl
set_option maxRecDepth 100000 in
theorem codec_put_image_nil (epoch seq number kind : Int) (A : Option Addr) (n c : Nat) (w : World) :
    Calls Try.prog 51 #[.pointer none, .int .i64 epoch, .int .i64 seq, .agg #[.int .i64 number, .int .i64 kind, .slice A n c]] w (Gave w 133 none) := by
  go_enter Try.func51, Try.ntmps51
  go_wp2
  go_ret2
  exact ⟨World.grownBy_alloc w _ none, .inr ⟨rfl, rfl⟩⟩
end Go.Proofs.Ytboccfficmaoaaa.Codec
