/- The project's PutPage. -/
import Derived.Test.YtkiohneggoiipaaCodecPage
import Derived.Test.YtkiohneggoiipaaRefNodeGet
import Derived.Deep.RegionLaw
import Derived.Deep.DeepCutAuto
namespace Go.Proofs.Ytkiohneggoiipaa.Codec
open Go.RowKit CrcMath CodecMath Mem Crc

def pageP (k m : Nat) : List Nat := [80, 80, 65, 71] ++ be 1 k ++ be 4 m
theorem pageP_len (k m : Nat) : (pageP k m).length = 9 := by simp [pageP, be_length]
theorem pageP_all (k m : Nat) (l : List Nat) : pageP k m ++ [0, 0, 0] ++ l = pageB (m : Int) (k : Int) l := by simp [pageP, pageB]
set_option maxRecDepth 100000 in
set_option maxHeartbeats 1600000 in
theorem codec_put_page (b b2 : Nat) (number kind : Int) (A : Option Addr) (n c : Nat) (l : List Nat) (w : World) (hR : Ready w b) (hl : Bytes w b2 A n l) :
    Calls Try.prog 24 #[.pointer (some ⟨b, 0, none⟩), .agg #[.int .i64 number, .int .i64 kind, .slice A n c]] w (Gave w 107 (pageW number kind l)) := by
  have hlen := hl.1
  have hlt := hl.2.1
  have HR := Lib.hid hR; have HLEN := Lib.hid hlen; have HLT := Lib.hid hlt; have HL := Lib.hid hl; clear hR hl hlen hlt
  have hz := zero256
  have hg0 := (World.grownBy_alloc w (.cells #[.int .i64 number, .int .i64 kind, .slice A n c] 49) none).trans (World.grownBy_alloc _ (.cells #[.int .i64 number, .int .i64 kind, .slice A n c] 49) none)
  have hbx := (Blk.new w 49 #[.int .i64 number, .int .i64 kind, .slice A n c]).alloc (.cells #[.int .i64 number, .int .i64 kind, .slice A n c] 49)
  have HG0 := Lib.hid hg0; have HBX := Lib.hid hbx; clear hg0 hbx
  cases hok : pageOk number kind l with
  | false =>
    have HNO := Lib.hid (show pageW number kind l = none by rw [pageW, hok]; rfl)
    have HOK := Lib.hid hok; clear hok
    go_enter Try.func24, Try.ntmps24
    go_wp2_with fail
    refine (imagemay_any number kind A n c l _ HLEN.out HLT.out).mono ?_
    rintro e w1 ⟨rfl, rfl⟩
    rw [HOK.out]
    go_wp2
    go_ret2
    exact ⟨HG0.out, .inr ⟨HNO.out, rfl⟩⟩
  | true =>
    have HYES := Lib.hid (show pageW number kind l = some (frame (pageB number kind l)) by rw [pageW, hok]; rfl)
    obtain ⟨⟨hk0, hk1⟩, ⟨hm0, hm1⟩, hb240, _⟩ := pageOk_iff hok
    have HOK := Lib.hid hok; clear hok
    obtain rfl : n = 240 := by rw [← HLEN.out, hb240]
    obtain ⟨k, rfl⟩ := Int.eq_ofNat_of_zero_le (show 0 ≤ kind by omega)
    obtain ⟨m, rfl⟩ := Int.eq_ofNat_of_zero_le hm0
    clear hb240
    have HFZ := Lib.hid (fill_zero 256)
    generalize hzz : Array.replicate 256 (Value.int .u8 0) = zs at *
    clear hzz
    have hst := start_row HG0.out 107 256 zs HFZ.out
    simp only [World.size_alloc] at hst
    obtain ⟨hg1, hc1, hb1⟩ := hst
    have HG1 := Lib.hid hg1; have HC1 := Lib.hid hc1; have HB1 := Lib.hid hb1; have HBA := Lib.hid ((HBX.out.alloc (.cells zs 107)).alloc (.cells #[.slice (some ⟨w.heap.size + 1 + 1, 0, none⟩) 256 256] 108))
    clear hg1 hc1 hb1
    go_enter Try.func24, Try.ntmps24
    go_wp2_with fail
    refine (imagemay_any m k A 240 c l _ HLEN.out HLT.out).mono ?_
    rintro e w1 ⟨rfl, rfl⟩
    rw [HOK.out]
    go_wp2_with fail
    refine (mark_any _ _ 0 256 _ _ _ [80, 80, 65, 71] _ HC1.out HB1.out (by decide) rfl rfl (by omega) (by rw [fill_length _ _ (by simp)]; omega) (by rw [fill_length _ _ (by simp)]; omega)).mono ?_
    rintro e w2 ⟨rfl, hlf, hc2, hb2⟩
    rw [show lay (fill [] 256) 0 [80, 80, 65, 71] = fill [80, 80, 65, 71] 256 from lay_fill [] [80, 80, 65, 71] 256] at hb2
    have hbx2 := hlf.blk HBA.out (by omega) (by omega)
    have HG2 := Lib.hid (hlf.new HG1.out (by omega) (by omega)); have HC2 := Lib.hid hc2; have HB2 := Lib.hid hb2; have HX2 := Lib.hid hbx2
    have x1 := hbx2.cell 1
    simp only [List.getElem?_toArray, List.getElem?_cons_zero, List.getElem?_cons_succ] at x1
    clear hlf hc2 hb2 hbx2 HG1 HC1 HB1 HBA
    go_wp2_with fail
    refine (write_any _ _ 4 252 1 k _ _ _ HC2.out HB2.out (by decide) (by omega) (by rw [fill_length _ _ (by simp)]; omega) (by rw [fill_length _ _ (by simp)]; omega) (by omega)).mono ?_
    rintro e w3 ⟨rfl, hlf, hc3, hb3⟩
    rw [show lay (fill [80, 80, 65, 71] 256) 4 (be 1 k) = fill ([80, 80, 65, 71] ++ be 1 k) 256 from lay_fill [80, 80, 65, 71] (be 1 k) 256] at hb3
    have hbx3 := hlf.blk HX2.out (by omega) (by omega)
    have HG3 := Lib.hid (hlf.new HG2.out (by omega) (by omega)); have HC3 := Lib.hid hc3; have HB3 := Lib.hid hb3; have HX3 := Lib.hid hbx3
    have x0 := hbx3.cell 0
    simp only [List.getElem?_toArray, List.getElem?_cons_zero] at x0
    clear hlf hc3 hb3 hbx3 x1
    go_wp2_with fail
    refine (write_any _ _ 5 251 4 m _ _ _ HC3.out HB3.out (by decide) (by omega) (by rw [fill_length _ _ (by simp [be_length])]; omega) (by rw [fill_length _ _ (by simp [be_length])]; omega) (by omega)).mono ?_
    rintro e w4 ⟨rfl, hlf, hc4, hb4⟩
    rw [show lay (fill ([80, 80, 65, 71] ++ be 1 k) 256) 5 (be 4 m) = fill (pageP k m) 256 from lay_fill ([80, 80, 65, 71] ++ be 1 k) (be 4 m) 256] at hb4
    have hbx4 := hlf.blk HX3.out (by omega) (by omega)
    have HG4 := Lib.hid (hlf.new HG3.out (by omega) (by omega)); have HC4 := Lib.hid hc4; have HB4 := Lib.hid hb4; have HX4 := Lib.hid hbx4
    clear hlf hc4 hb4 hbx4 x0
    go_wp2_with fail
    refine (take_any _ _ 9 247 3 _ HC4.out (by omega) (by omega)).mono ?_
    rintro e w5 ⟨⟨k5, rfl, _⟩, hr5, hc5⟩
    have hb5 := HB4.out.grown hr5 (by simp)
    rw [show fill (pageP k m) 256 = fill (pageP k m ++ [0, 0, 0]) 256 from (fill_more (pageP k m) 3 256 (by rw [pageP_len]; omega)).symm] at hb5
    have hx5 := HX4.out.grown hr5 (by simp; omega)
    have HG5 := Lib.hid (grownBy_new HG4.out hr5 (fun j hj => by cases hj; omega)); have HC5 := Lib.hid hc5; have HB5 := Lib.hid hb5; have HX5 := Lib.hid hx5
    have x2 := hx5.cell 2
    simp only [List.getElem?_toArray, List.getElem?_cons_zero, List.getElem?_cons_succ] at x2
    have HLY := Lib.hid (show lay (fill (pageP k m ++ [0, 0, 0]) 256) 12 l = fill (pageB m k l) 256 by
      rw [← pageP_all]
      have h := lay_fill (pageP k m ++ [0, 0, 0]) l 256
      have h12 : (pageP k m ++ [0, 0, 0]).length = 12 := by rw [List.length_append, pageP_len]; rfl
      rwa [h12] at h)
    have hl5 := bytes_keepN (bytes_new (p := w.heap.size + 1 + 1 + 1) HL.out (by omega)) HG5.out
    obtain ⟨ga, oa, rfl, _, _, _⟩ := hl5.2.2 (by omega)
    have HL5 := Lib.hid hl5
    have HFL := Lib.hid (fill_length (pageP k m ++ [0, 0, 0]) 256 (by rw [List.length_append, pageP_len]; simp))
    clear hr5 hc5 hb5 hx5 hl5
    go_upto_region 9 with fail
    have hn1 : some w.heap.size ≠ some (w.heap.size + 1 + 1 + 1) := by simp; omega
    have hn2 : some (w.heap.size + 1 + 1) ≠ some (w.heap.size + 1 + 1 + 1) := by simp
    have hn3 : ∀ j, some (w.heap.size + 1 + 1 + 1) = some j → w.heap.size ≤ j := fun j hj => by cases hj; omega
    have hn4 : 0 < 240 := by omega
    have HN1 := Lib.hid hn1; have HN2 := Lib.hid hn2; have HN3 := Lib.hid hn3; clear hn1 hn2 hn3
    go_region_law (first
      | (go_simp
         go_at_call 60
         refine (take_any (w.heap.size + 1 + 1 + 1) (w.heap.size + 1 + 1) 12 244 240 _ ?_ ?_ ?_).mono ?_
         exact HC5.out
         omega
         omega
         rintro e w6 ⟨⟨k6, rfl, hk6⟩, hr6, hc6⟩
         obtain rfl := hk6 hn4
         have hx6 := HX5.out.drew.grown hr6 HN1.out
         have HG6 := Lib.hid (grownBy_new (HG5.out.trans (grown_drew _ none)) hr6 HN3.out)
         have HB6 := Lib.hid (HB5.out.drew.grown hr6 HN2.out)
         have HL6 := Lib.hid ((bytes_drew HL5.out).keep hr6)
         have x26 := hx6.cell 2
         simp only [List.getElem?_toArray, List.getElem?_cons_zero, List.getElem?_cons_succ] at x26
         clear hr6 hc6 hx6)
      | (refine step_copy_part rfl (.tmp 25) (.tmp 28) rfl (w.heap.size + 1 + 1) 12 ga oa c 240 240 (w.heap.size + 1 + 1 + 1) 107 (fill (pageP k m ++ [0, 0, 0]) 256) l ?_ ?_ ?_ ?_ ?_ ?_
         rfl
         rfl
         exact HB6.out
         exact HL6.out
         (rw [HFL.out]; omega)))
    all_goals
      rw [HLY.out]
      have hb7 := blk_setRow HB6.out (u8s (fill (pageB m k l) 256)).toArray
      have hg7 := grown_setRow HG6.out (show w.heap.size ≤ w.heap.size + 1 + 1 by omega) (u8s (fill (pageB m k l) 256)).toArray
      generalize w6.setRow (w.heap.size + 1 + 1) (u8s (fill (pageB m k l) 256)).toArray = w7 at *
      obtain ⟨sb, hasks, hleft⟩ := (tabs_ready HR.out).asks hg7 (w.heap.size + 1 + 1)
      have hblt := (tabs_ready HR.out).lt
      have HAS := Lib.hid hasks; have HLE := Lib.hid hleft; have HBL := Lib.hid hb7
      clear hasks hleft hb7 hg7
      go_wp2_with fail
      refine (seal_any b (w.heap.size + 1 + 1) sb (pageB m k l) _ HAS.out HBL.out (by rw [pageB_len _ _ _ HLEN.out]; omega) (pageB_lt _ _ _ HLT.out) (by omega)).mono ?_
      rintro e w8 ⟨rfl, hlf, _, hb8⟩
      have HG8 := Lib.hid (HLE.out _ hlf (by omega)); have HB8 := Lib.hid hb8
      clear hlf hb8
      go_wp2
      go_ret2
      refine ⟨HG8.out, .inl ⟨_, w.heap.size + 1 + 1, HYES.out, ?_, by omega, HB8.out, frame_lt _ (pageB_lt _ _ _ HLT.out)⟩⟩
      rw [frame_length _ (by rw [pageB_len _ _ _ HLEN.out]; omega)]
      rfl
set_option maxRecDepth 100000 in
theorem codec_put_page_nil (number kind : Int) (A : Option Addr) (n c : Nat) (w : World) :
    Calls Try.prog 24 #[.pointer none, .agg #[.int .i64 number, .int .i64 kind, .slice A n c]] w (Gave w 107 none) := by
  go_enter Try.func24, Try.ntmps24
  go_wp2
  go_ret2
  exact ⟨World.grownBy_alloc w _ none, .inr ⟨rfl, rfl⟩⟩
end Go.Proofs.Ytkiohneggoiipaa.Codec
