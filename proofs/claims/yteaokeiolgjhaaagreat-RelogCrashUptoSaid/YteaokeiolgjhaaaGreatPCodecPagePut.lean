/- Texts of this seat's proofs: CodecPagePut, CodecImagePut, CodecHeadPut. -/
import Derived.Test.YteaokeiolgjhaaaGreatPCodecPage
import Derived.Test.YteaokeiolgjhaaaGreatPRefNode
import Derived.Test.YteaokeiolgjhaaaGreatPCodecSpec
import Derived.Deep.RegionLaw
import Derived.Deep.DeepCutAuto
/- The project's PutPage. -/
namespace Go.Proofs.YteaokeiolgjhaaaGreat.Codec
open Go.RowKit CrcMath CodecMath Mem Crc

def pageP (k m : Nat) : List Nat := [80, 80, 65, 71] ++ be 1 k ++ be 4 m
theorem pageP_len (k m : Nat) : (pageP k m).length = 9 := by simp [pageP, be_length]
theorem pageP_all (k m : Nat) (l : List Nat) : pageP k m ++ [0, 0, 0] ++ l = pageB (m : Int) (k : Int) l := by simp [pageP, pageB]
set_option maxRecDepth 100000 in
set_option maxHeartbeats 1600000 in
theorem put_page_core (b b2 : Nat) (S : Option Nat) (number kind : Int) (A : Option Addr) (n c : Nat) (l : List Nat) (w : World) (hT : TabS w b S) (hl : Bytes w b2 A n l) :
    Calls Tryz.prog 53 #[.pointer (some ⟨b, 0, none⟩), .agg #[.int .i64 number, .int .i64 kind, .slice A n c]] w (GivesT w S b (pageW number kind l)) := by
  have hlen := hl.1
  have hlt := hl.2.1
  have HT := Lib.hid hT; have HLEN := Lib.hid hlen; have HLT := Lib.hid hlt; have HL := Lib.hid hl; clear hT hl hlen hlt
  have hz := zero256
  have hg0 := (World.grownBy_alloc w (.cells #[.int .i64 number, .int .i64 kind, .slice A n c] 109) none).trans (World.grownBy_alloc _ (.cells #[.int .i64 number, .int .i64 kind, .slice A n c] 109) none)
  have hbx := (Blk.new w 109 #[.int .i64 number, .int .i64 kind, .slice A n c]).alloc (.cells #[.int .i64 number, .int .i64 kind, .slice A n c] 109)
  have HG0 := Lib.hid hg0; have HBX := Lib.hid hbx; clear hg0 hbx
  cases hok : pageOk number kind l with
  | false =>
    have HNO := Lib.hid (show pageW number kind l = none by rw [pageW, hok]; rfl)
    have HOK := Lib.hid hok; clear hok
    go_enter Tryz.func53, Tryz.ntmps53
    go_wp2_with fail
    refine (imagemay_any number kind A n c l _ HLEN.out HLT.out).mono ?_
    rintro e w1 ⟨rfl, rfl⟩
    rw [HOK.out]
    go_wp2
    go_ret2
    exact ⟨grown_any_row HG0.out S, .inr ⟨HNO.out, rfl, HG0.out⟩⟩
  | true =>
    have HYES := Lib.hid (show pageW number kind l = some (frame (pageB number kind l)) by rw [pageW, hok]; rfl)
    obtain ⟨⟨hk0, hk1⟩, ⟨hm0, hm1⟩, hb240, _⟩ := pageOk_iff hok
    have HOK := Lib.hid hok; clear hok
    obtain rfl : n = 240 := by rw [← HLEN.out, hb240]
    obtain ⟨k, rfl⟩ := Int.eq_ofNat_of_zero_le (show 0 ≤ kind by omega)
    obtain ⟨m, rfl⟩ := Int.eq_ofNat_of_zero_le hm0
    clear hb240
    have HFZ := Lib.hid (fill_zero 256)
    generalize hzz : Array.replicate 256 (Value.int .u8 0) = zs at *
    clear hzz
    have hst := start_row HG0.out 118 256 zs HFZ.out
    simp only [World.size_alloc] at hst
    obtain ⟨hg1, hc1, hb1⟩ := hst
    have HG1 := Lib.hid hg1; have HC1 := Lib.hid hc1; have HB1 := Lib.hid hb1; have HBA := Lib.hid ((HBX.out.alloc (.cells zs 118)).alloc (.cells #[.slice (some ⟨w.heap.size + 1 + 1, 0, none⟩) 256 256] 155))
    clear hg1 hc1 hb1
    go_enter Tryz.func53, Tryz.ntmps53
    go_wp2_with fail
    refine (imagemay_any m k A 240 c l _ HLEN.out HLT.out).mono ?_
    rintro e w1 ⟨rfl, rfl⟩
    rw [HOK.out]
    go_wp2_with fail
    refine (mark_any _ _ 0 256 _ _ _ [80, 80, 65, 71] _ HC1.out HB1.out (by decide) rfl rfl (by omega) (by rw [fill_length _ _ (by simp)]; omega) (by rw [fill_length _ _ (by simp)]; omega)).mono ?_
    rintro e w2 ⟨rfl, hlf, hc2, hb2⟩
    rw [show lay (fill [] 256) 0 [80, 80, 65, 71] = fill [80, 80, 65, 71] 256 from lay_fill [] [80, 80, 65, 71] 256] at hb2
    have hbx2 := hlf.blk HBA.out (by omega) (by omega)
    have HG2 := Lib.hid (hlf.new HG1.out (by omega) (by omega)); have HC2 := Lib.hid hc2; have HB2 := Lib.hid hb2; have HX2 := Lib.hid hbx2
    have x1 := hbx2.cell 1
    simp only [List.getElem?_toArray, List.getElem?_cons_zero, List.getElem?_cons_succ] at x1
    clear hlf hc2 hb2 hbx2 HG1 HC1 HB1 HBA
    go_wp2_with fail
    refine (write_any _ _ 4 252 1 k _ _ _ HC2.out HB2.out (by decide) (by omega) (by rw [fill_length _ _ (by simp)]; omega) (by rw [fill_length _ _ (by simp)]; omega) (by omega)).mono ?_
    rintro e w3 ⟨rfl, hlf, hc3, hb3⟩
    rw [show lay (fill [80, 80, 65, 71] 256) 4 (be 1 k) = fill ([80, 80, 65, 71] ++ be 1 k) 256 from lay_fill [80, 80, 65, 71] (be 1 k) 256] at hb3
    have hbx3 := hlf.blk HX2.out (by omega) (by omega)
    have HG3 := Lib.hid (hlf.new HG2.out (by omega) (by omega)); have HC3 := Lib.hid hc3; have HB3 := Lib.hid hb3; have HX3 := Lib.hid hbx3
    have x0 := hbx3.cell 0
    simp only [List.getElem?_toArray, List.getElem?_cons_zero] at x0
    clear hlf hc3 hb3 hbx3 x1
    go_wp2_with fail
    refine (write_any _ _ 5 251 4 m _ _ _ HC3.out HB3.out (by decide) (by omega) (by rw [fill_length _ _ (by simp [be_length])]; omega) (by rw [fill_length _ _ (by simp [be_length])]; omega) (by omega)).mono ?_
    rintro e w4 ⟨rfl, hlf, hc4, hb4⟩
    rw [show lay (fill ([80, 80, 65, 71] ++ be 1 k) 256) 5 (be 4 m) = fill (pageP k m) 256 from lay_fill ([80, 80, 65, 71] ++ be 1 k) (be 4 m) 256] at hb4
    have hbx4 := hlf.blk HX3.out (by omega) (by omega)
    have HG4 := Lib.hid (hlf.new HG3.out (by omega) (by omega)); have HC4 := Lib.hid hc4; have HB4 := Lib.hid hb4; have HX4 := Lib.hid hbx4
    clear hlf hc4 hb4 hbx4 x0
    go_wp2_with fail
    refine (take_any _ _ 9 247 3 _ HC4.out (by omega) (by omega)).mono ?_
    rintro e w5 ⟨⟨k5, rfl, _⟩, hr5, hc5⟩
    have hb5 := HB4.out.grown hr5 (by simp)
    rw [show fill (pageP k m) 256 = fill (pageP k m ++ [0, 0, 0]) 256 from (fill_more (pageP k m) 3 256 (by rw [pageP_len]; omega)).symm] at hb5
    have hx5 := HX4.out.grown hr5 (by simp; omega)
    have HG5 := Lib.hid (grownBy_new HG4.out hr5 (fun j hj => by cases hj; omega)); have HC5 := Lib.hid hc5; have HB5 := Lib.hid hb5; have HX5 := Lib.hid hx5
    have x2 := hx5.cell 2
    simp only [List.getElem?_toArray, List.getElem?_cons_zero, List.getElem?_cons_succ] at x2
    have HLY := Lib.hid (show lay (fill (pageP k m ++ [0, 0, 0]) 256) 12 l = fill (pageB m k l) 256 by
      rw [← pageP_all]
      have h := lay_fill (pageP k m ++ [0, 0, 0]) l 256
      have h12 : (pageP k m ++ [0, 0, 0]).length = 12 := by rw [List.length_append, pageP_len]; rfl
      rwa [h12] at h)
    have hl5 := bytes_keepN (bytes_new (p := w.heap.size + 1 + 1 + 1) HL.out (by omega)) HG5.out
    obtain ⟨ga, oa, rfl, _, _, _⟩ := hl5.2.2 (by omega)
    have HL5 := Lib.hid hl5
    have HFL := Lib.hid (fill_length (pageP k m ++ [0, 0, 0]) 256 (by rw [List.length_append, pageP_len]; simp))
    clear hr5 hc5 hb5 hx5 hl5
    go_upto_region 9 with fail
    have hn1 : some w.heap.size ≠ some (w.heap.size + 1 + 1 + 1) := by simp; omega
    have hn2 : some (w.heap.size + 1 + 1) ≠ some (w.heap.size + 1 + 1 + 1) := by simp
    have hn3 : ∀ j, some (w.heap.size + 1 + 1 + 1) = some j → w.heap.size ≤ j := fun j hj => by cases hj; omega
    have hn4 : 0 < 240 := by omega
    have HN1 := Lib.hid hn1; have HN2 := Lib.hid hn2; have HN3 := Lib.hid hn3; clear hn1 hn2 hn3
    go_region_law (first
      | (go_simp
         go_at_call 102
         refine (take_any (w.heap.size + 1 + 1 + 1) (w.heap.size + 1 + 1) 12 244 240 _ ?_ ?_ ?_).mono ?_
         exact HC5.out
         omega
         omega
         rintro e w6 ⟨⟨k6, rfl, hk6⟩, hr6, hc6⟩
         obtain rfl := hk6 hn4
         have hx6 := HX5.out.drew.grown hr6 HN1.out
         have HG6 := Lib.hid (grownBy_new (HG5.out.trans (grown_drew _ none)) hr6 HN3.out)
         have HB6 := Lib.hid (HB5.out.drew.grown hr6 HN2.out)
         have HL6 := Lib.hid ((bytes_drew HL5.out).keep hr6)
         have x26 := hx6.cell 2
         simp only [List.getElem?_toArray, List.getElem?_cons_zero, List.getElem?_cons_succ] at x26
         clear hr6 hc6 hx6)
      | (refine step_copy_part rfl (.tmp 25) (.tmp 28) rfl (w.heap.size + 1 + 1) 12 ga oa c 240 240 (w.heap.size + 1 + 1 + 1) 118 (fill (pageP k m ++ [0, 0, 0]) 256) l ?_ ?_ ?_ ?_ ?_ ?_
         rfl
         rfl
         exact HB6.out
         exact HL6.out
         (rw [HFL.out]; omega)))
    all_goals
      rw [HLY.out]
      have hb7 := blk_setRow HB6.out (u8s (fill (pageB m k l) 256)).toArray
      have hg7 := grown_setRow HG6.out (show w.heap.size ≤ w.heap.size + 1 + 1 by omega) (u8s (fill (pageB m k l) 256)).toArray
      generalize w6.setRow (w.heap.size + 1 + 1) (u8s (fill (pageB m k l) 256)).toArray = w7 at *
      obtain ⟨sb, hasks, hleft⟩ := HT.out.asks hg7 (w.heap.size + 1 + 1)
      have hblt := HT.out.lt
      have HAS := Lib.hid hasks; have HLE := Lib.hid hleft; have HBL := Lib.hid hb7
      clear hasks hleft hb7 hg7
      go_wp2_with fail
      refine (seal_any b (w.heap.size + 1 + 1) sb (pageB m k l) _ HAS.out HBL.out (by rw [pageB_len _ _ _ HLEN.out]; omega) (pageB_lt _ _ _ HLT.out) (by omega)).mono ?_
      rintro e w8 ⟨rfl, hlf, hr8, hb8⟩
      have HG8 := Lib.hid (HLE.out _ hlf (by omega)); have HB8 := Lib.hid hb8; have HR8 := Lib.hid hr8
      clear hlf hb8 hr8
      go_wp2
      go_ret2
      refine ⟨HG8.out, .inl ⟨_, w.heap.size + 1 + 1, HYES.out, ?_, by omega, HB8.out, frame_lt _ (pageB_lt _ _ _ HLT.out), HR8.out⟩⟩
      rw [frame_length _ (by rw [pageB_len _ _ _ HLEN.out]; omega)]
      rfl
theorem codec_put_page (b b2 : Nat) (number kind : Int) (A : Option Addr) (n c : Nat) (l : List Nat) (w : World) (hR : Ready w b) (hl : Bytes w b2 A n l) :
    Calls Tryz.prog 53 #[.pointer (some ⟨b, 0, none⟩), .agg #[.int .i64 number, .int .i64 kind, .slice A n c]] w (Gave w 118 (pageW number kind l)) :=
  (put_page_core b b2 none number kind A n c l w (tabs_ready hR) hl).mono fun _ _ h => h.gives.gave
set_option maxRecDepth 100000 in
theorem codec_put_page_nil (number kind : Int) (A : Option Addr) (n c : Nat) (w : World) :
    Calls Tryz.prog 53 #[.pointer none, .agg #[.int .i64 number, .int .i64 kind, .slice A n c]] w (Gave w 118 none) := by
  go_enter Tryz.func53, Tryz.ntmps53
  go_wp2
  go_ret2
  exact ⟨World.grownBy_alloc w _ none, .inr ⟨rfl, rfl⟩⟩
end Go.Proofs.YteaokeiolgjhaaaGreat.Codec
/- The project's PutImage. -/
namespace Go.Proofs.YteaokeiolgjhaaaGreat.Codec
open Go.RowKit CrcMath CodecMath Mem Crc

def imageP (k m e s : Nat) : List Nat := be 1 k ++ be 2 m ++ be 4 e ++ be 5 s
theorem imageP_len (k m e s : Nat) : (imageP k m e s).length = 12 := by simp [imageP, be_length]
theorem imageP_all (k m e s : Nat) (l : List Nat) : imageP k m e s ++ l = imageB (e : Int) (s : Int) (m : Int) (k : Int) l := by simp [imageP, imageB]
set_option maxRecDepth 100000 in
set_option maxHeartbeats 1600000 in
theorem codec_put_image (b b2 : Nat) (epoch seq number kind : Int) (A : Option Addr) (n c : Nat) (l : List Nat) (w : World) (hR : Ready w b) (hl : Bytes w b2 A n l) :
    Calls Tryz.prog 178 #[.pointer (some ⟨b, 0, none⟩), .int .i64 epoch, .int .i64 seq, .agg #[.int .i64 number, .int .i64 kind, .slice A n c]] w (Gave w 118 (imageW epoch seq number kind l)) := by
  have hlen := hl.1
  have hlt := hl.2.1
  have HR := Lib.hid hR; have HLEN := Lib.hid hlen; have HLT := Lib.hid hlt; have HL := Lib.hid hl; clear hR hl hlen hlt
  have hz := zero256
  have hg0 := (World.grownBy_alloc w (.cells #[.int .i64 number, .int .i64 kind, .slice A n c] 109) none).trans (World.grownBy_alloc _ (.cells #[.int .i64 number, .int .i64 kind, .slice A n c] 109) none)
  have hbx := (Blk.new w 109 #[.int .i64 number, .int .i64 kind, .slice A n c]).alloc (.cells #[.int .i64 number, .int .i64 kind, .slice A n c] 109)
  have HG0 := Lib.hid hg0; have HBX := Lib.hid hbx; clear hg0 hbx
  cases hok : pageOk number kind l with
  | false =>
    have HNO := Lib.hid (show imageW epoch seq number kind l = none by rw [imageW, imageOk, hok]; rfl)
    have HOK := Lib.hid hok; clear hok
    go_enter Tryz.func178, Tryz.ntmps178
    go_wp2_with fail
    refine (imagemay_any number kind A n c l _ HLEN.out HLT.out).mono ?_
    rintro e w1 ⟨rfl, rfl⟩
    rw [HOK.out]
    go_wp2
    go_ret2
    exact ⟨HG0.out, .inr ⟨HNO.out, rfl⟩⟩
  | true =>
    cases hie : inB epoch 4294967295 with
    | false =>
      have HNO := Lib.hid (show imageW epoch seq number kind l = none by rw [imageW, imageOk, hie]; simp)
      have HOK := Lib.hid hok; have HIE := Lib.hid hie; clear hok hie
      go_enter Tryz.func178, Tryz.ntmps178
      go_wp2_with fail
      refine (imagemay_any number kind A n c l _ HLEN.out HLT.out).mono ?_
      rintro e w1 ⟨rfl, rfl⟩
      rw [HOK.out]
      go_wp2_with fail
      refine (within_any epoch _ _).mono ?_
      rintro e w2 ⟨rfl, rfl⟩
      rw [HIE.out]
      go_wp2
      go_ret2
      exact ⟨HG0.out, .inr ⟨HNO.out, rfl⟩⟩
    | true =>
      cases his : inB seq 1099511627775 with
      | false =>
        have HNO := Lib.hid (show imageW epoch seq number kind l = none by rw [imageW, imageOk, his]; simp)
        have HOK := Lib.hid hok; have HIE := Lib.hid hie; have HIS := Lib.hid his; clear hok hie his
        go_enter Tryz.func178, Tryz.ntmps178
        go_wp2_with fail
        refine (imagemay_any number kind A n c l _ HLEN.out HLT.out).mono ?_
        rintro e w1 ⟨rfl, rfl⟩
        rw [HOK.out]
        go_wp2_with fail
        refine (within_any epoch _ _).mono ?_
        rintro e w2 ⟨rfl, rfl⟩
        rw [HIE.out]
        go_wp2_with fail
        refine (within_any seq _ _).mono ?_
        rintro e w2 ⟨rfl, rfl⟩
        rw [HIS.out]
        go_wp2
        go_ret2
        exact ⟨HG0.out, .inr ⟨HNO.out, rfl⟩⟩
      | true =>
        have HYES := Lib.hid (show imageW epoch seq number kind l = some (frame (imageB epoch seq number kind l)) by rw [imageW, imageOk, hok, hie, his]; rfl)
        obtain ⟨⟨hk0, hk1⟩, ⟨hm0, hm1⟩, hb240, _⟩ := pageOk_iff hok
        obtain ⟨he0, he1⟩ := inB_yes hie
        obtain ⟨hs0, hs1⟩ := inB_yes his
        have HOK := Lib.hid hok; have HIE := Lib.hid hie; have HIS := Lib.hid his; clear hok hie his
        obtain rfl : n = 240 := by rw [← HLEN.out, hb240]
        obtain ⟨k, rfl⟩ := Int.eq_ofNat_of_zero_le (show 0 ≤ kind by omega)
        obtain ⟨m, rfl⟩ := Int.eq_ofNat_of_zero_le hm0
        obtain ⟨ep, rfl⟩ := Int.eq_ofNat_of_zero_le he0
        obtain ⟨sq, rfl⟩ := Int.eq_ofNat_of_zero_le hs0
        clear hb240
        have HFZ := Lib.hid (fill_zero 256)
        generalize hzz : Array.replicate 256 (Value.int .u8 0) = zs at *
        clear hzz
        have hst := start_row HG0.out 118 256 zs HFZ.out
        simp only [World.size_alloc] at hst
        obtain ⟨hg1, hc1, hb1⟩ := hst
        have HG1 := Lib.hid hg1; have HC1 := Lib.hid hc1; have HB1 := Lib.hid hb1; have HBA := Lib.hid ((HBX.out.alloc (.cells zs 118)).alloc (.cells #[.slice (some ⟨w.heap.size + 1 + 1, 0, none⟩) 256 256] 155))
        clear hg1 hc1 hb1
        go_enter Tryz.func178, Tryz.ntmps178
        go_wp2_with fail
        refine (imagemay_any m k A 240 c l _ HLEN.out HLT.out).mono ?_
        rintro e w1 ⟨rfl, rfl⟩
        rw [HOK.out]
        go_wp2_with fail
        refine (within_any (ep : Int) _ _).mono ?_
        rintro e w2 ⟨rfl, rfl⟩
        rw [HIE.out]
        go_wp2_with fail
        refine (within_any (sq : Int) _ _).mono ?_
        rintro e w2 ⟨rfl, rfl⟩
        rw [HIS.out]
        have hb1' := HBA.out
        have x1 := hb1'.cell 1
        simp only [List.getElem?_toArray, List.getElem?_cons_zero, List.getElem?_cons_succ] at x1
        clear hb1'
        go_wp2_with fail
        clear x1
        refine (write_any _ _ 0 256 1 k _ _ _ HC1.out HB1.out (by decide) (by omega) (by rw [fill_length _ _ (by simp)]; omega) (by rw [fill_length _ _ (by simp)]; omega) (by omega)).mono ?_
        rintro e w2 ⟨rfl, hlf, hc, hb⟩
        rw [show lay (fill ([]) 256) 0 (be 1 k) = fill ([] ++ be 1 k) 256 from lay_fill ([]) (be 1 k) 256] at hb
        have hbx := hlf.blk HBA.out (by omega) (by omega)
        have HG2 := Lib.hid (hlf.new HG1.out (by omega) (by omega)); have HC2 := Lib.hid hc; have HB2 := Lib.hid hb; have HX2 := Lib.hid hbx
        have x0 := hbx.cell 0
        simp only [List.getElem?_toArray, List.getElem?_cons_zero] at x0
        clear hlf hc hb hbx
        go_wp2_with fail
        clear x0
        refine (write_any _ _ 1 255 2 m _ _ _ HC2.out HB2.out (by decide) (by omega) (by rw [fill_length _ _ (by simp [be_length])]; omega) (by rw [fill_length _ _ (by simp [be_length])]; omega) (by omega)).mono ?_
        rintro e w3 ⟨rfl, hlf, hc, hb⟩
        rw [show lay (fill ([] ++ be 1 k) 256) 1 (be 2 m) = fill ([] ++ be 1 k ++ be 2 m) 256 from lay_fill ([] ++ be 1 k) (be 2 m) 256] at hb
        have hbx := hlf.blk HX2.out (by omega) (by omega)
        have HG3 := Lib.hid (hlf.new HG2.out (by omega) (by omega)); have HC3 := Lib.hid hc; have HB3 := Lib.hid hb; have HX3 := Lib.hid hbx
        clear hlf hc hb hbx
        go_wp2_with fail
        refine (write_any _ _ 3 253 4 ep _ _ _ HC3.out HB3.out (by decide) (by omega) (by rw [fill_length _ _ (by simp [be_length])]; omega) (by rw [fill_length _ _ (by simp [be_length])]; omega) (by omega)).mono ?_
        rintro e w4 ⟨rfl, hlf, hc, hb⟩
        rw [show lay (fill ([] ++ be 1 k ++ be 2 m) 256) 3 (be 4 ep) = fill ([] ++ be 1 k ++ be 2 m ++ be 4 ep) 256 from lay_fill ([] ++ be 1 k ++ be 2 m) (be 4 ep) 256] at hb
        have hbx := hlf.blk HX3.out (by omega) (by omega)
        have HG4 := Lib.hid (hlf.new HG3.out (by omega) (by omega)); have HC4 := Lib.hid hc; have HB4 := Lib.hid hb; have HX4 := Lib.hid hbx
        clear hlf hc hb hbx
        go_wp2_with fail
        refine (write_any _ _ 7 249 5 sq _ _ _ HC4.out HB4.out (by decide) (by omega) (by rw [fill_length _ _ (by simp [be_length])]; omega) (by rw [fill_length _ _ (by simp [be_length])]; omega) (by omega)).mono ?_
        rintro e w5 ⟨rfl, hlf, hc, hb⟩
        rw [show lay (fill ([] ++ be 1 k ++ be 2 m ++ be 4 ep) 256) 7 (be 5 sq) = fill (imageP k m ep sq) 256 from lay_fill ([] ++ be 1 k ++ be 2 m ++ be 4 ep) (be 5 sq) 256] at hb
        have hbx := hlf.blk HX4.out (by omega) (by omega)
        have HG5 := Lib.hid (hlf.new HG4.out (by omega) (by omega)); have HC5 := Lib.hid hc; have HB5 := Lib.hid hb; have HX5 := Lib.hid hbx
        have x2 := hbx.cell 2
        simp only [List.getElem?_toArray, List.getElem?_cons_zero, List.getElem?_cons_succ] at x2
        have HLY := Lib.hid (show lay (fill (imageP k m ep sq) 256) 12 l = fill (imageB ep sq m k l) 256 by
          rw [← imageP_all]
          have h := lay_fill (imageP k m ep sq) l 256
          have h12 : (imageP k m ep sq).length = 12 := imageP_len k m ep sq
          rwa [h12] at h)
        have hl5 := bytes_keepN (bytes_new (p := w.heap.size + 1 + 1 + 1) HL.out (by omega)) HG5.out
        obtain ⟨ga, oa, rfl, _, _, _⟩ := hl5.2.2 (by omega)
        have HL5 := Lib.hid hl5
        have HFL := Lib.hid (fill_length (imageP k m ep sq) 256 (by rw [imageP_len]; omega))
        clear hlf hc hb hbx hl5
        go_upto_region 9 with fail
        have hn1 : some w.heap.size ≠ some (w.heap.size + 1 + 1 + 1) := by simp; omega
        have hn2 : some (w.heap.size + 1 + 1) ≠ some (w.heap.size + 1 + 1 + 1) := by simp
        have hn3 : ∀ j, some (w.heap.size + 1 + 1 + 1) = some j → w.heap.size ≤ j := fun j hj => by cases hj; omega
        have hn4 : 0 < 240 := by omega
        have HN1 := Lib.hid hn1; have HN2 := Lib.hid hn2; have HN3 := Lib.hid hn3; clear hn1 hn2 hn3
        go_region_law (first
          | (go_simp
             go_at_call 102
             refine (take_any (w.heap.size + 1 + 1 + 1) (w.heap.size + 1 + 1) 12 244 240 _ ?_ ?_ ?_).mono ?_
             exact HC5.out
             omega
             omega
             rintro e w6 ⟨⟨k6, rfl, hk6⟩, hr6, hc6⟩
             obtain rfl := hk6 hn4
             have hx6 := HX5.out.drew.grown hr6 HN1.out
             have HG6 := Lib.hid (grownBy_new (HG5.out.trans (grown_drew _ none)) hr6 HN3.out)
             have HB6 := Lib.hid (HB5.out.drew.grown hr6 HN2.out)
             have HL6 := Lib.hid ((bytes_drew HL5.out).keep hr6)
             have x26 := hx6.cell 2
             simp only [List.getElem?_toArray, List.getElem?_cons_zero, List.getElem?_cons_succ] at x26
             clear hr6 hc6 hx6)
          | (refine step_copy_part rfl (.tmp 41) (.tmp 44) rfl (w.heap.size + 1 + 1) 12 ga oa c 240 240 (w.heap.size + 1 + 1 + 1) 118 (fill (imageP k m ep sq) 256) l ?_ ?_ ?_ ?_ ?_ ?_
             rfl
             rfl
             exact HB6.out
             exact HL6.out
             (rw [HFL.out]; omega)))
        all_goals
          rw [HLY.out]
          have hb7 := blk_setRow HB6.out (u8s (fill (imageB ep sq m k l) 256)).toArray
          have hg7 := grown_setRow HG6.out (show w.heap.size ≤ w.heap.size + 1 + 1 by omega) (u8s (fill (imageB ep sq m k l) 256)).toArray
          generalize w6.setRow (w.heap.size + 1 + 1) (u8s (fill (imageB ep sq m k l) 256)).toArray = w7 at *
          obtain ⟨sb, hasks, hleft⟩ := (tabs_ready HR.out).asks hg7 (w.heap.size + 1 + 1)
          have hblt := (tabs_ready HR.out).lt
          have HAS := Lib.hid hasks; have HLE := Lib.hid hleft; have HBL := Lib.hid hb7
          clear hasks hleft hb7 hg7
          go_wp2_with fail
          refine (seal_any b (w.heap.size + 1 + 1) sb (imageB ep sq m k l) _ HAS.out HBL.out (by rw [imageB_len _ _ _ _ _ HLEN.out]; omega) (imageB_lt _ _ _ _ _ HLT.out) (by omega)).mono ?_
          rintro e w8 ⟨rfl, hlf, _, hb8⟩
          have HG8 := Lib.hid (HLE.out _ hlf (by omega)); have HB8 := Lib.hid hb8
          clear hlf hb8
          go_wp2
          go_ret2
          refine ⟨HG8.out, .inl ⟨_, w.heap.size + 1 + 1, HYES.out, ?_, by omega, HB8.out, frame_lt _ (imageB_lt _ _ _ _ _ HLT.out)⟩⟩
          rw [frame_length _ (by rw [imageB_len _ _ _ _ _ HLEN.out]; omega)]
          rfl
set_option maxRecDepth 100000 in
theorem codec_put_image_nil (epoch seq number kind : Int) (A : Option Addr) (n c : Nat) (w : World) :
    Calls Tryz.prog 178 #[.pointer none, .int .i64 epoch, .int .i64 seq, .agg #[.int .i64 number, .int .i64 kind, .slice A n c]] w (Gave w 118 none) := by
  go_enter Tryz.func178, Tryz.ntmps178
  go_wp2
  go_ret2
  exact ⟨World.grownBy_alloc w _ none, .inr ⟨rfl, rfl⟩⟩
end Go.Proofs.YteaokeiolgjhaaaGreat.Codec
/- The project's PutHead, with headMayBe. -/
namespace Go.Proofs.YteaokeiolgjhaaaGreat.Codec
open Go.RowKit CrcMath CodecMath Mem Crc

theorem headOk_eq {epoch seq : Int} {pages : List Int} {n : Nat} (hn : pages.length = n) : headOk epoch seq pages = (inB epoch 1099511627776 && inB seq 1099511627776 && (decide (1 ≤ n) && decide (n ≤ 40)) && allB pages 1023) := by subst hn; rfl
set_option maxRecDepth 100000 in
set_option maxHeartbeats 800000 in
theorem headmay_any (b : Nat) (epoch seq : Int) (A : Option Addr) (n c : Nat) (pages : List Int) (sum : Nat) (w : World) (hp : Ints w b A n pages) (hn : n ≤ 9223372036854775807) :
    Calls Tryz.prog 199 #[.agg #[.int .i64 epoch, .int .i64 seq, .slice A n c, .int .u32 (sum : Nat)]] w fun e w' => e = .returned (.bool (headOk epoch seq pages)) ∧ w' = w.alloc (.cells #[.int .i64 epoch, .int .i64 seq, .slice A n c, .int .u32 (sum : Nat)] 175) := by
  have HOK := Lib.hid (headOk_eq (epoch := epoch) (seq := seq) hp.1)
  have HP := Lib.hid (ints_keep hp (World.grownBy_alloc w (.cells #[.int .i64 epoch, .int .i64 seq, .slice A n c, .int .u32 (sum : Nat)] 175) none) (.inl rfl))
  clear hp
  generalize headOk epoch seq pages = ok at *
  cases hie : inB epoch 1099511627776 with
  | false =>
    have HN := Lib.hid (show ok = false by rw [HOK.out, hie]; simp)
    have HIE := Lib.hid hie; clear hie
    go_enter Tryz.func199, Tryz.ntmps199
    go_wp2_with fail
    refine (within_any epoch _ _).mono ?_
    rintro e w2 ⟨rfl, rfl⟩
    rw [HIE.out]
    go_wp2
    go_ret
    exact ⟨by rw [HN.out]; rfl, rfl⟩
  | true =>
    cases his : inB seq 1099511627776 with
    | false =>
      have HN := Lib.hid (show ok = false by rw [HOK.out, hie, his]; simp)
      have HIE := Lib.hid hie; have HIS := Lib.hid his; clear hie his
      go_enter Tryz.func199, Tryz.ntmps199
      go_wp2_with fail
      refine (within_any epoch _ _).mono ?_
      rintro e w2 ⟨rfl, rfl⟩
      rw [HIE.out]
      go_wp2_with fail
      refine (within_any seq _ _).mono ?_
      rintro e w2 ⟨rfl, rfl⟩
      rw [HIS.out]
      go_wp2
      go_ret
      exact ⟨by rw [HN.out]; rfl, rfl⟩
    | true =>
      by_cases h1 : 1 ≤ n
      · by_cases h2 : n ≤ 40
        · have HN := Lib.hid (show ok = allB pages 1023 by rw [HOK.out, hie, his]; simp [h1, h2])
          have HIE := Lib.hid hie; have HIS := Lib.hid his; clear hie his
          have h1' : (1 : Int) ≤ n := by omega
          have h2' : (n : Int) ≤ 40 := by omega
          go_enter Tryz.func199, Tryz.ntmps199
          go_wp2_with fail
          refine (within_any epoch _ _).mono ?_
          rintro e w2 ⟨rfl, rfl⟩
          rw [HIE.out]
          go_wp2_with fail
          refine (within_any seq _ _).mono ?_
          rintro e w2 ⟨rfl, rfl⟩
          rw [HIS.out]
          go_wp2_with fail
          refine (allwithin_any b A n c pages 1023 _ HP.out hn).mono ?_
          rintro e w2 ⟨rfl, rfl⟩
          go_wp2
          go_ret
          exact ⟨by rw [HN.out]; rfl, rfl⟩
        · have HN := Lib.hid (show ok = false by rw [HOK.out, hie, his]; simp [h2])
          have HIE := Lib.hid hie; have HIS := Lib.hid his; clear hie his
          have hd : decide ((n : Int) ≤ 40) = false := by simp; omega
          have h1' : (1 : Int) ≤ n := by omega
          go_enter Tryz.func199, Tryz.ntmps199
          go_wp2_with fail
          refine (within_any epoch _ _).mono ?_
          rintro e w2 ⟨rfl, rfl⟩
          rw [HIE.out]
          go_wp2_with fail
          refine (within_any seq _ _).mono ?_
          rintro e w2 ⟨rfl, rfl⟩
          rw [HIS.out]
          go_wp2
          go_ret
          exact ⟨by rw [HN.out]; rfl, rfl⟩
      · have HN := Lib.hid (show ok = false by rw [HOK.out, hie, his]; simp [h1])
        have HIE := Lib.hid hie; have HIS := Lib.hid his; clear hie his
        obtain rfl : n = 0 := by omega
        go_enter Tryz.func199, Tryz.ntmps199
        go_wp2_with fail
        refine (within_any epoch _ _).mono ?_
        rintro e w2 ⟨rfl, rfl⟩
        rw [HIE.out]
        go_wp2_with fail
        refine (within_any seq _ _).mono ?_
        rintro e w2 ⟨rfl, rfl⟩
        rw [HIS.out]
        go_wp2
        go_ret
        exact ⟨by rw [HN.out]; rfl, rfl⟩

/-- What of a head stands when j of its pages are written. -/
def headQ (epoch seq : Int) (pages : List Int) (sum j : Nat) : List Nat := headP epoch seq pages sum ++ ((pages.take j).flatMap fun n => be 4 n.toNat)
theorem headQ_len (epoch seq : Int) (pages : List Int) (sum j : Nat) (h : j ≤ pages.length) : (headQ epoch seq pages sum j).length = 26 + 4 * j := by
  rw [headQ, List.length_append, headP_len, flat_len, List.length_take, Nat.min_eq_left h]
theorem headQ_succ (epoch seq : Int) (pages : List Int) (sum j : Nat) (h : j < pages.length) : headQ epoch seq pages sum (j + 1) = headQ epoch seq pages sum j ++ be 4 (pages.getD j 0).toNat := by
  rw [headQ, take_flat pages 4 j h, ← List.append_assoc]; rfl
theorem headQ_all (epoch seq : Int) (pages : List Int) (sum : Nat) : headQ epoch seq pages sum pages.length = headB epoch seq pages sum := by rw [headQ, List.take_length]; rfl
set_option maxRecDepth 100000 in
set_option maxHeartbeats 1600000 in
theorem codec_put_head (b b2 : Nat) (epoch seq : Int) (A : Option Addr) (n c : Nat) (pages : List Int) (sum : Nat) (w : World) (hR : Ready w b) (hp : Ints w b2 A n pages) (hn : n ≤ 9223372036854775807) (hsum : sum < 4294967296) :
    Calls Tryz.prog 179 #[.pointer (some ⟨b, 0, none⟩), .agg #[.int .i64 epoch, .int .i64 seq, .slice A n c, .int .u32 (sum : Nat)]] w (Gave w 118 (headW epoch seq pages sum)) := by
  have HLEN := Lib.hid hp.1
  have hg00 := World.grownBy_alloc w (.cells #[.int .i64 epoch, .int .i64 seq, .slice A n c, .int .u32 (sum : Nat)] 175) none
  have HR := Lib.hid hR; have HP := Lib.hid hp; have HP1 := Lib.hid (ints_keep hp hg00 (.inl rfl))
  have HG0 := Lib.hid (hg00.trans (World.grownBy_alloc _ (.cells #[.int .i64 epoch, .int .i64 seq, .slice A n c, .int .u32 (sum : Nat)] 175) none))
  have HBX := Lib.hid ((Blk.new w 175 #[.int .i64 epoch, .int .i64 seq, .slice A n c, .int .u32 (sum : Nat)]).alloc (.cells #[.int .i64 epoch, .int .i64 seq, .slice A n c, .int .u32 (sum : Nat)] 175))
  have hz := zero256
  clear hR hp hg00
  cases hok : headOk epoch seq pages with
  | false =>
    have HNO := Lib.hid (show headW epoch seq pages sum = none by rw [headW, hok]; rfl)
    have HOK := Lib.hid hok; clear hok
    go_enter Tryz.func179, Tryz.ntmps179
    go_wp2_with fail
    refine (headmay_any b2 epoch seq A n c pages sum _ HP1.out hn).mono ?_
    rintro e w1 ⟨rfl, rfl⟩
    rw [HOK.out]
    go_wp2
    go_ret2
    exact ⟨HG0.out, .inr ⟨HNO.out, rfl⟩⟩
  | true =>
    have HYES := Lib.hid (show headW epoch seq pages sum = some (frame (headB epoch seq pages sum)) by rw [headW, hok]; rfl)
    obtain ⟨⟨he0, he1⟩, ⟨hs0, hs1⟩, hn1, hn40, hpa⟩ := headOk_iff hok
    rw [HLEN.out] at hn1 hn40
    have HPB := Lib.hid (fun j hj => allB_yes hpa j hj : ∀ j, j < pages.length → 0 ≤ pages.getD j 0 ∧ pages.getD j 0 ≤ 1023)
    have HOK := Lib.hid hok; clear hok hpa
    obtain ⟨ep, rfl⟩ := Int.eq_ofNat_of_zero_le he0
    obtain ⟨sq, rfl⟩ := Int.eq_ofNat_of_zero_le hs0
    have HFZ := Lib.hid (fill_zero 256)
    generalize hzz : Array.replicate 256 (Value.int .u8 0) = zs at *
    clear hzz
    have hst := start_row HG0.out 118 256 zs HFZ.out
    simp only [World.size_alloc] at hst
    obtain ⟨hg1, hc1, hb1⟩ := hst
    have HG1 := Lib.hid hg1; have HC1 := Lib.hid hc1; have HB1 := Lib.hid hb1; have HBA := Lib.hid ((HBX.out.alloc (.cells zs 118)).alloc (.cells #[.slice (some ⟨w.heap.size + 1 + 1, 0, none⟩) 256 256] 155))
    clear hg1 hc1 hb1
    go_enter Tryz.func179, Tryz.ntmps179
    go_wp2_with fail
    refine (headmay_any b2 (ep : Int) (sq : Int) A n c pages sum _ HP1.out hn).mono ?_
    rintro e w1 ⟨rfl, rfl⟩
    rw [HOK.out]
    go_wp2_with fail
    refine (mark_any _ _ 0 256 _ _ _ [80, 76, 79, 71] _ HC1.out HB1.out (by decide) rfl rfl (by omega) (by rw [fill_length _ _ (by simp)]; omega) (by rw [fill_length _ _ (by simp)]; omega)).mono ?_
    rintro e w2 ⟨rfl, hlf, hc2, hb2⟩
    rw [show lay (fill [] 256) 0 [80, 76, 79, 71] = fill [80, 76, 79, 71] 256 from lay_fill [] [80, 76, 79, 71] 256] at hb2
    have hbx := hlf.blk HBA.out (by omega) (by omega)
    have HG2 := Lib.hid (hlf.new HG1.out (by omega) (by omega)); have HC2 := Lib.hid hc2; have HB2 := Lib.hid hb2; have HX2 := Lib.hid hbx
    have x0 := hbx.cell 0
    simp only [List.getElem?_toArray, List.getElem?_cons_zero] at x0
    clear hlf hc2 hb2 hbx HG1 HC1 HB1 HBA
    go_wp2_with fail
    clear x0
    refine (write_any _ _ 4 252 8 ep _ _ _ HC2.out HB2.out (by decide) (by omega) (by rw [fill_length _ _ (by simp)]; omega) (by rw [fill_length _ _ (by simp)]; omega) (by omega)).mono ?_
    rintro e w3 ⟨rfl, hlf, hc, hb⟩
    rw [show lay (fill ([80, 76, 79, 71]) 256) 4 (be 8 ep) = fill ([80, 76, 79, 71] ++ be 8 ep) 256 from lay_fill ([80, 76, 79, 71]) (be 8 ep) 256] at hb
    have hbx := hlf.blk HX2.out (by omega) (by omega)
    have HG3 := Lib.hid (hlf.new HG2.out (by omega) (by omega)); have HC3 := Lib.hid hc; have HB3 := Lib.hid hb; have HX3 := Lib.hid hbx
    have x1 := hbx.cell 1
    simp only [List.getElem?_toArray, List.getElem?_cons_zero, List.getElem?_cons_succ] at x1
    clear hlf hc hb hbx
    go_wp2_with fail
    clear x1
    refine (write_any _ _ 12 244 8 sq _ _ _ HC3.out HB3.out (by decide) (by omega) (by rw [fill_length _ _ (by simp [be_length])]; omega) (by rw [fill_length _ _ (by simp [be_length])]; omega) (by omega)).mono ?_
    rintro e w4 ⟨rfl, hlf, hc, hb⟩
    rw [show lay (fill ([80, 76, 79, 71] ++ be 8 ep) 256) 12 (be 8 sq) = fill ([80, 76, 79, 71] ++ be 8 ep ++ be 8 sq) 256 from lay_fill ([80, 76, 79, 71] ++ be 8 ep) (be 8 sq) 256] at hb
    have hbx := hlf.blk HX3.out (by omega) (by omega)
    have HG4 := Lib.hid (hlf.new HG3.out (by omega) (by omega)); have HC4 := Lib.hid hc; have HB4 := Lib.hid hb; have HX4 := Lib.hid hbx
    have x3 := hbx.cell 3
    simp only [List.getElem?_toArray, List.getElem?_cons_zero, List.getElem?_cons_succ] at x3
    clear hlf hc hb hbx
    go_wp2_with fail
    clear x3
    refine (write_any _ _ 20 236 4 sum _ _ _ HC4.out HB4.out (by decide) (by omega) (by rw [fill_length _ _ (by simp [be_length])]; omega) (by rw [fill_length _ _ (by simp [be_length])]; omega) (by omega)).mono ?_
    rintro e w5 ⟨rfl, hlf, hc, hb⟩
    rw [show lay (fill ([80, 76, 79, 71] ++ be 8 ep ++ be 8 sq) 256) 20 (be 4 sum) = fill ([80, 76, 79, 71] ++ be 8 ep ++ be 8 sq ++ be 4 sum) 256 from lay_fill ([80, 76, 79, 71] ++ be 8 ep ++ be 8 sq) (be 4 sum) 256] at hb
    have hbx := hlf.blk HX4.out (by omega) (by omega)
    have HG5 := Lib.hid (hlf.new HG4.out (by omega) (by omega)); have HC5 := Lib.hid hc; have HB5 := Lib.hid hb; have HX5 := Lib.hid hbx
    have x2 := hbx.cell 2
    simp only [List.getElem?_toArray, List.getElem?_cons_zero, List.getElem?_cons_succ] at x2
    clear hlf hc hb hbx
    go_wp2_with fail
    clear x2
    refine (write_any _ _ 24 232 2 n _ _ _ HC5.out HB5.out (by decide) (by omega) (by rw [fill_length _ _ (by simp [be_length])]; omega) (by rw [fill_length _ _ (by simp [be_length])]; omega) (by omega)).mono ?_
    rintro e w6 ⟨rfl, hlf, hc, hb⟩
    rw [show lay (fill ([80, 76, 79, 71] ++ be 8 ep ++ be 8 sq ++ be 4 sum) 256) 24 (be 2 n) = fill ([80, 76, 79, 71] ++ be 8 ep ++ be 8 sq ++ be 4 sum ++ be 2 n) 256 from lay_fill ([80, 76, 79, 71] ++ be 8 ep ++ be 8 sq ++ be 4 sum) (be 2 n) 256] at hb
    have hbx := hlf.blk HX5.out (by omega) (by omega)
    have HG6 := Lib.hid (hlf.new HG5.out (by omega) (by omega)); have HC6 := Lib.hid hc; have HB6 := Lib.hid hb; have HX6 := Lib.hid hbx
    have x2 := hbx.cell 2
    simp only [List.getElem?_toArray, List.getElem?_cons_zero, List.getElem?_cons_succ] at x2
    clear hlf hc hb hbx
    go_wp2_with fail
    clear x2
    have HB6' := Lib.hid (show Blk w6 _ _ (u8s (fill (headQ (ep : Int) (sq : Int) pages sum 0) 256)).toArray by
      have h := HB6.out
      rwa [show [80, 76, 79, 71] ++ be 8 ep ++ be 8 sq ++ be 4 sum ++ be 2 n = headQ (ep : Int) (sq : Int) pages sum 0 by rw [← HLEN.out]; simp [headQ, headP]] at h)
    clear HB6
    go_loopw [9, 36] (fun _ i wr => ∃ j : Nat, j ≤ n ∧ i = .int .i64 j ∧ w.grownBy wr none ∧ Cur wr (w.heap.size + 1 + 1 + 1) (w.heap.size + 1 + 1) (26 + 4 * j) (230 - 4 * j) ∧
      Blk wr (w.heap.size + 1 + 1) 118 (u8s (fill (headQ (ep : Int) (sq : Int) pages sum j) 256)).toArray) (fun _ i _ => n - (intOf i).toNat)
    case atStart => exact ⟨0, by omega, rfl, HG6.out, HC6.out, HB6'.out⟩
    case round =>
      obtain ⟨j, hj, rfl, hg, hc, hb⟩ := hrel
      have HG := Lib.hid hg; have HC := Lib.hid hc; have HBK := Lib.hid hb
      clear hg hc hb
      have hpl := headQ_len (ep : Int) (sq : Int) pages sum j (by rw [HLEN.out]; exact hj)
      by_cases hlt : j < n
      · obtain ⟨g, o, rfl, _, _, hcl⟩ := (ints_keep HP.out HG.out (.inl rfl)).2.2 (by omega)
        have hcj := hcl j hlt
        clear hcl
        obtain ⟨hx0, hx1⟩ := HPB.out j (by rw [HLEN.out]; exact hlt)
        have hly := lay_fill (headQ (ep : Int) (sq : Int) pages sum j) (be 4 (pages.getD j 0).toNat) 256
        rw [hpl, ← headQ_succ _ _ _ _ _ (by rw [HLEN.out]; exact hlt)] at hly
        have hfl := fill_length (headQ (ep : Int) (sq : Int) pages sum j) 256 (by omega)
        have HLY := Lib.hid hly; have HFL := Lib.hid hfl; clear hly hpl hfl
        generalize pages.getD j 0 = x at *
        obtain ⟨m, rfl⟩ := Int.eq_ofNat_of_zero_le hx0
        rw [Int.toNat_natCast] at HLY
        go_wp2_with fail
        refine (write_any _ _ (26 + 4 * j) (230 - 4 * j) 4 m _ _ _ HC.out HBK.out (by decide) (by omega) (by rw [HFL.out]; omega) (by rw [HFL.out]; omega) (by omega)).mono ?_
        rintro e w7 ⟨rfl, hlf, hc7, hb7⟩
        rw [HLY.out] at hb7
        have HG7 := Lib.hid (hlf.new HG.out (by omega) (by omega)); have HC7 := Lib.hid hc7; have HB7 := Lib.hid hb7
        clear hlf hc7 hb7 hcj
        go_wp2_with fail
        go_roundw
        case rel =>
          refine ⟨j + 1, by omega, by go_num, HG7.out, ?_, HB7.out⟩
          have h := HC7.out
          rwa [show 26 + 4 * j + 4 = 26 + 4 * (j + 1) from by omega, show 230 - 4 * j - 4 = 230 - 4 * (j + 1) from by omega] at h
        case measure => simp [intOf]; omega
      · obtain rfl : j = n := by omega
        have hbk := HBK.out
        rw [← HLEN.out, headQ_all] at hbk
        have HBL := Lib.hid hbk
        obtain ⟨sb, hasks, hleft⟩ := (tabs_ready HR.out).asks HG.out (w.heap.size + 1 + 1)
        have HAS := Lib.hid hasks; have HLE := Lib.hid hleft
        have hblt := (tabs_ready HR.out).lt
        clear hbk hasks hleft hpl
        go_wp2_with fail
        refine (seal_any b (w.heap.size + 1 + 1) sb (headB (ep : Int) (sq : Int) pages sum) _ HAS.out HBL.out (by rw [headB_len, HLEN.out]; omega) (headB_lt _ _ _ _) (by omega)).mono ?_
        rintro e w8 ⟨rfl, hlf, _, hb8⟩
        have HG8 := Lib.hid (HLE.out _ hlf (by omega)); have HB8 := Lib.hid hb8
        clear hlf hb8
        go_wp2
        go_ret2
        refine ⟨HG8.out, .inl ⟨_, w.heap.size + 1 + 1, HYES.out, ?_, by omega, HB8.out, frame_lt _ (headB_lt _ _ _ _)⟩⟩
        rw [frame_length _ (by rw [headB_len, HLEN.out]; omega)]
        rfl
set_option maxRecDepth 100000 in
theorem codec_put_head_nil (epoch seq : Int) (A : Option Addr) (n c : Nat) (sum : Nat) (w : World) :
    Calls Tryz.prog 179 #[.pointer none, .agg #[.int .i64 epoch, .int .i64 seq, .slice A n c, .int .u32 (sum : Nat)]] w (Gave w 118 none) := by
  go_enter Tryz.func179, Tryz.ntmps179
  go_wp2
  go_ret2
  exact ⟨World.grownBy_alloc w _ none, .inr ⟨rfl, rfl⟩⟩
end Go.Proofs.YteaokeiolgjhaaaGreat.Codec
