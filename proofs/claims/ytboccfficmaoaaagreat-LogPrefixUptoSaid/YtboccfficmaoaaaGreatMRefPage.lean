/- Texts of this seat's proofs: RefPage, RefImage. -/
import Derived.Test.YtboccfficmaoaaaGreatMRefSuper
import Derived.Test.YtboccfficmaoaaaGreatMCodecSpec
import Derived.Test.YtboccfficmaoaaaGreatMOpen
import Derived.Deep.RegionHeld3
import Derived.Deep.RegionLaw
import Derived.Deep.DeepCutAuto
/- The walks over the document's own answer for pages and for images of a log: PutPage, GetPage, PutImage, GetImage. -/
namespace Go.Proofs.YtboccfficmaoaaaGreat.Codec
open Go.RowKit CrcMath CodecMath Mem Crc

theorem pageW_no1 {number kind : Int} {body : List Nat} (h : kind < 1) : pageW number kind body = none := by
  rw [pageW, if_neg (fun hh => by have := pageOk_iff hh; omega)]
theorem pageW_no2 {number kind : Int} {body : List Nat} (h : 5 < kind) : pageW number kind body = none := by
  rw [pageW, if_neg (fun hh => by have := pageOk_iff hh; omega)]
theorem pageW_no3 {number kind : Int} {body : List Nat} (h : inB number 1023 = false) : pageW number kind body = none := by
  rw [pageW, if_neg (fun hh => by have := pageOk_iff hh; exact inB_no h this.2.1)]
theorem pageW_no4 {number kind : Int} {body : List Nat} (h : body.length ≠ 240) : pageW number kind body = none := by
  rw [pageW, if_neg (fun hh => by have := pageOk_iff hh; exact h this.2.2.1)]
theorem fill_page (kind number : Nat) : fill ([80, 80, 65, 71] ++ be 1 kind ++ be 4 number) 12 = [80, 80, 65, 71] ++ (be 1 kind ++ (be 4 number ++ [0, 0, 0])) := by
  simp [fill, be_length]

end Go.Proofs.YtboccfficmaoaaaGreat.Codec
/- The walk over the document's own answer for images of a log that are written: PutImage. -/
namespace Go.Proofs.YtboccfficmaoaaaGreat.Codec
open Go.RowKit CrcMath CodecMath Mem Crc

theorem imageW_no1 {epoch seq number kind : Int} {body : List Nat} (h : pageW number kind body = none) : imageW epoch seq number kind body = none := by
  rw [imageW, if_neg (fun hh => ?_)]
  simp only [imageOk, Bool.and_eq_true] at hh
  rw [pageW, if_pos hh.1.1] at h
  cases h
theorem imageW_no2 {epoch seq number kind : Int} {body : List Nat} (h : inB epoch 4294967295 = false) : imageW epoch seq number kind body = none := by
  rw [imageW, if_neg (fun hh => by simp only [imageOk, Bool.and_eq_true] at hh; rw [h] at hh; cases hh.1.2)]
theorem imageW_no3 {epoch seq number kind : Int} {body : List Nat} (h : inB seq 1099511627775 = false) : imageW epoch seq number kind body = none := by
  rw [imageW, if_neg (fun hh => by simp only [imageOk, Bool.and_eq_true] at hh; rw [h] at hh; cases hh.2)]

end Go.Proofs.YtboccfficmaoaaaGreat.Codec
