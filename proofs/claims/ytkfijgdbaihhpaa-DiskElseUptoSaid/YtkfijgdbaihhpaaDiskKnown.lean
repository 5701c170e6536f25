/- The laws' first look: a sector is written, and taken by a crash. -/
import Derived.Test.YtkfijgdbaihhpaaDiskWrite2
import Derived.Test.YtkfijgdbaihhpaaDiskCrash
import Derived.Test.YtkfijgdbaihhpaaDiskData
namespace Go.Proofs.Ytkfijgdbaihhpaa.Dsk
open Go.RowKit Mem Crc DiskSpec

theorem data_of_own {w : World} {base n : Nat} {own : Nat → Prop} {v : Value} {l : List Nat} (h : Own w base 5 1 v n (u8s l)) (ho : ∀ i, own i → i < base) (hl : ∀ x ∈ l, x < 256) :
    ∃ A c, v = .slice A n c ∧ n ≤ c ∧ c ≤ maxLen ∧ Data w own A n l := by
  have hn : l.length = n := by have := h.len; rw [u8s_length] at this; omega
  obtain ⟨A, c, rfl, h1, h2, h3⟩ := h.shape
  refine ⟨A, c, rfl, h1, h2, hn, hl, fun hp => ?_⟩
  obtain ⟨g, cap, e, hb, hlt, _, _, hc⟩ := h.reads hp
  simp only [Value.slice.injEq] at e
  obtain ⟨rfl, _, _⟩ := e
  refine ⟨g, 0, rfl, hlt, fun e => by have := ho g e; omega, fun j hj => ?_⟩
  rw [Nat.zero_add]
  exact hc j _ (u8s_at l j (by omega))
theorem dataN_one : dataN 1 0 = 256 := by decide
theorem data_one_len (fill : Int) : (dataL 1 0 fill).length = 256 := by rw [dataL_length, dataN_one]; rfl
theorem data_one_at (fill : Int) (i : Nat) (h : i < 256) : (dataL 1 0 fill).getD i 0 = (fill % 256).toNat := by
  unfold dataL
  rw [dataN_one, List.getD_eq_getElem?_getD, List.getElem?_map, show (256 : Int).toNat = 256 from rfl, List.getElem?_range h]
  simp only [Option.map_some, Option.getD_some, dataB]
  rw [Nat.div_eq_of_lt h]
  simp
theorem reads_one_now (S : St) (a : Nat) : S.reads a 1 = S.now a := by simp [St.reads]
theorem sec_one (fill : Int) : sec (dataL 1 0 fill) 0 = dataL 1 0 fill := by
  unfold sec
  rw [Nat.mul_zero, List.drop_zero, List.take_of_length_le (by rw [data_one_len]; exact Nat.le_refl _)]
theorem reads_cell {w : World} {g : Nat} {S : St} {a : Nat} {x : List Nat} (h : Blk w g 5 (u8s (S.reads a 1)).toArray) (hx : S.now a = x) (hl : 0 < x.length) : w.cell? ⟨g, 0, none⟩ = some (.int .u8 (x.getD 0 0 : Nat)) := by
  rw [h.cell, reads_one_now, hx, List.getElem?_toArray, u8s_at _ _ hl]

theorem data_one (kind at_ fill : Int) (fua : Bool) (pv : Value) (w : World) :
    Calls Try.prog 23 #[.agg #[.int .i64 kind, .int .i64 at_, .int .i64 1, .int .i64 0, .int .i64 fill, .bool fua, pv]] w fun e w' =>
      ∃ v, e = .returned v ∧ Own w' w.heap.size 5 1 v 256 (u8s (dataL 1 0 fill)) ∧ w.grownBy w' none := by
  have h := data_any kind at_ 1 0 fill fua pv w
  rw [dataN_one] at h
  exact h
theorem dataL_one_sec (fill : Int) : Sec (dataL 1 0 fill) := ⟨data_one_len fill, dataL_lt _ _ _⟩
/-- One sector is written. -/
theorem write_one {w : World} {B b bd bm : Nat} {S : St} {f : Nat → Option Value} {own : Nat → Prop} (h : Lay w B b bd bm f S own) (a : Nat) (A : Option Addr) (c : Nat) (fill : Int) (fua : Bool)
    (hd : Data w own A 256 (dataL 1 0 fill)) (hc : 256 ≤ c) (h2 : a + 1 ≤ S.n) (hf2 : S.f2 ≠ 1) (hlf : S.left ≠ 0) (hroom : ∀ i, (S.ver i).length < 549755813888) (hB : B ≤ w.heap.size) :
    Calls Try.prog 24 #[.pointer (some ⟨b, 0, none⟩), .int .i64 (a : Nat), .slice A 256 c, .bool fua] w fun e w' => e = .returned (.int .i64 0) ∧
      ∃ f' own', Lay w' B b bd bm f' (({ S with f2 := S.f2 - 1 } : St).put fua a (dataL 1 0 fill)).done own' ∧ Turn w w' own own' := by
  have e : ({ S with f2 := S.f2 - 1 } : St).puts fua a (dataL 1 0 fill) 1 = ({ S with f2 := S.f2 - 1 } : St).put fua a (dataL 1 0 fill) := by
    show (({ S with f2 := S.f2 - 1 } : St).puts fua a (dataL 1 0 fill) 0).put fua (a + 0) (sec (dataL 1 0 fill) 0) = _
    rw [sec_one]; rfl
  rw [← e]
  exact disk_write_ok h a 1 A c (dataL 1 0 fill) fua hd hc (Nat.le_refl _) h2 hf2 hlf hroom hB
/-- One sector is read. -/
theorem read_one {w : World} {B b bd bm : Nat} {S : St} {f : Nat → Option Value} {own : Nat → Prop} (h : Lay w B b bd bm f S own) (a : Nat) (h2 : a + 1 ≤ S.n) (hf : S.f1 ≠ 1) :
    Calls Try.prog 19 #[.pointer (some ⟨b, 0, none⟩), .int .i64 (a : Nat), .int .i64 1] w fun e w' => ∃ g cap, e = .returned (.tuple #[.slice (some ⟨g, 0, none⟩) 256 cap, .int .i64 0]) ∧
      w.heap.size ≤ g ∧ Blk w' g 5 (u8s (S.now a)).toArray ∧ Lay w' B b bd bm f { S with f1 := S.f1 - 1 } own ∧ Turn w w' own own := by
  rw [← reads_one_now]
  exact disk_read_ok h a 1 (Nat.le_refl _) h2 hf
theorem crash_nil_now {S : St} (i : Nat) : (S.crash []).now i = S.dur i := by
  show pickOf (S.dur i) (S.ver i) ([].getD (S.dirty.idxOf i) 0) = S.dur i
  rw [show ([] : List Int).getD (S.dirty.idxOf i) 0 = 0 from rfl, pickOf_zero]
theorem blk_turn {w w' : World} {own own' : Nat → Prop} {g : Nat} {t : TypeId} {cs : Array Value} (h : Blk w g t cs) (ht : Turn w w' own own') (hn : ¬ own g) : Blk w' g t cs := (ht.block g h.lt hn).trans h
/-- A disk that is crashed without picks. -/
theorem crash_nil {w : World} {B b bd bm : Nat} {S : St} {f : Nat → Option Value} {own : Nat → Prop} (h : Lay w B b bd bm f S own) (hroom : ∀ i, (S.ver i).length < 549755813888) :
    Calls Try.prog 16 #[.pointer (some ⟨b, 0, none⟩), .slice none 0 0] w fun e w' => e = .returned (.tuple #[]) ∧ (∃ f', Lay w' B b bd bm f' (S.crash []) own) ∧ Turn w w' own own :=
  disk_crash h none 0 0 [] (Picks.nil _ _) (by omega) hroom
theorem below_grown {w w1 w2 : World} (h : w.grownBy w1 none) (k : Below w.heap.size w1 w2) : w.grownBy w2 none :=
  ⟨k.os.trans h.os, k.tape.trans h.tape, k.output.trans h.output, Nat.le_trans h.size k.size, fun i hi hn => (k.block i hi).trans (h.block i hi hn)⟩
theorem room_put (S : St) (fua : Bool) (i : Nat) (v : List Nat) (k : Nat) : ((S.put fua i v).ver k).length ≤ (S.ver k).length + 1 := by
  unfold St.put
  split
  · show (upd (upd S.ver i (S.ver i ++ [v])) i [] k).length ≤ _
    unfold upd
    split
    · simp
    · omega
  · show (upd S.ver i (S.ver i ++ [v]) k).length ≤ _
    unfold upd
    split
    · rename_i h; subst h; simp
    · omega
theorem sec_cell {w : World} {g : Nat} {x : List Nat} (h : Blk w g 5 (u8s x).toArray) (hx : Sec x) : w.cell? ⟨g, 0, none⟩ = some (.int .u8 (x.getD 0 0 : Nat)) := by
  rw [h.cell, List.getElem?_toArray, u8s_at _ _ (by rw [hx.1]; omega)]
theorem zeros_at (i : Nat) : zeros.getD i 0 = 0 := by
  unfold zeros
  rw [List.getD_eq_getElem?_getD, List.getElem?_replicate]
  split <;> rfl

set_option maxRecDepth 100000 in
set_option maxHeartbeats 3200000 in
theorem known_any (w : World) : Calls Try.prog 11 #[] w fun e w' => e = .returned (.bool true) ∧ w.grownBy w' none := by
  have HN := Lib.hid (show Calls Try.prog 9 #[.int .i64 4] w fun e w' => ∃ b bd bm f own, e = .returned (.tuple #[.pointer (some ⟨b, 0, none⟩), .int .i64 0]) ∧ Lay w' w.heap.size b bd bm f (St.new 4) own ∧ w.grownBy w' none from disk_new 4 w (by omega) (by omega))
  go_enter Try.func11, Try.ntmps11
  go_wp2_with fail
  refine HN.out.mono ?_
  rintro e w1 ⟨b, bd, bm, f, own, rfl, hl1, hg1⟩
  have H1 := Lib.hid hl1; have HG1 := Lib.hid hg1
  have hsz1 := hg1.size
  have HSZ := Lib.hid (show Calls Try.prog 21 #[.pointer (some ⟨b, 0, none⟩)] w1 fun e w' => e = .returned (.int .i64 4) ∧ w1 = w' from disk_size hl1)
  clear hl1 hg1 HN
  go_wp2_with fail
  refine HSZ.out.mono ?_
  rintro e w' ⟨rfl, rfl⟩
  clear HSZ
  -- the step's own block
  have hbx := Blk.new w1 34 #[.int .i64 0, .int .i64 0, .int .i64 1, .int .i64 0, .int .i64 1, .bool false, .slice none 0 0]
  go_wp2_with fail
  refine (data_one 0 0 1 false (.slice none 0 0) _).mono ?_
  rintro e w2 ⟨v, rfl, ho2, hg2⟩
  have hl2 := (H1.out.alloc (.cells #[.int .i64 0, .int .i64 0, .int .i64 1, .int .i64 0, .int .i64 1, .bool false, .slice none 0 0] 34)).grown hg2 (fun _ e => by cases e)
  obtain ⟨A, c, rfl, hc, _, hdat⟩ := data_of_own ho2 (own := own) (fun i hi => by have := H1.out.lt i hi; simp; omega) (dataL_lt _ _ _)
  have HGW := Lib.hid ((HG1.out.trans (World.grownBy_alloc w1 (.cells #[.int .i64 0, .int .i64 0, .int .i64 1, .int .i64 0, .int .i64 1, .bool false, .slice none 0 0] 34) none)).trans hg2)
  have HW := Lib.hid (show Calls Try.prog 24 #[.pointer (some ⟨b, 0, none⟩), .int .i64 2, .slice A 256 c, .bool false] w2 _ from
    write_one hl2 2 A c 1 false hdat hc (show 3 ≤ 4 by omega) (by simp [St.new]) (by simp [St.new]) (fun i => by simp [St.new]) HGW.out.size)
  have HOW := Lib.hid hl2.low
  clear ho2 hg2 hl2 hdat hbx H1 HG1
  go_wp2_with fail
  refine HW.out.mono ?_
  rintro e w3 ⟨rfl, f3, own3, hl3, ht3⟩
  have hnow3 : (({ St.new 4 with f2 := (St.new 4).f2 - 1 } : St).put false 2 (dataL 1 0 1)).done.now 2 = dataL 1 0 1 := by simp [St.now, St.done, St.put, St.add, upd, St.new]
  have hdur3 : (({ St.new 4 with f2 := (St.new 4).f2 - 1 } : St).put false 2 (dataL 1 0 1)).done.dur 2 = zeros := by simp [St.done, St.put, St.add, St.new]
  have hn3 : (({ St.new 4 with f2 := (St.new 4).f2 - 1 } : St).put false 2 (dataL 1 0 1)).done.n = 4 := rfl
  have hf3 : (({ St.new 4 with f2 := (St.new 4).f2 - 1 } : St).put false 2 (dataL 1 0 1)).done.f1 = 0 := rfl
  have hr3 : ∀ i, ((({ St.new 4 with f2 := (St.new 4).f2 - 1 } : St).put false 2 (dataL 1 0 1)).done.ver i).length < 549755813888 := fun i => by
    have := room_put ({ St.new 4 with f2 := (St.new 4).f2 - 1 } : St) false 2 (dataL 1 0 1) i
    have e : ((St.new 4).ver i).length = 0 := rfl
    show ((({ St.new 4 with f2 := (St.new 4).f2 - 1 } : St).put false 2 (dataL 1 0 1)).ver i).length < _
    have e' : (({ St.new 4 with f2 := (St.new 4).f2 - 1 } : St).ver i).length = 0 := e
    omega
  generalize (({ St.new 4 with f2 := (St.new 4).f2 - 1 } : St).put false 2 (dataL 1 0 1)).done = S3 at *
  have HR := Lib.hid (show Calls Try.prog 19 #[.pointer (some ⟨b, 0, none⟩), .int .i64 2, .int .i64 1] w3 _ from read_one hl3 2 (by omega) (by omega))
  rw [hnow3] at HR
  have HT3 := Lib.hid (Turn.below ht3 HOW.out HGW.out.size)
  have HLT3 := Lib.hid hl3.lt
  have HLW3 := Lib.hid hl3.low
  have HR3 := Lib.hid hr3; have HD3 := Lib.hid hdur3; have HN3 := Lib.hid hn3; have HF3 := Lib.hid hf3
  have hs3 := ht3.size
  clear hl3 ht3 HW hnow3 hr3 hdur3 hn3 hf3
  go_wp2_with fail
  refine HR.out.mono ?_
  rintro e w4 ⟨g, cap, rfl, hgs, hbk, hl4, ht4⟩
  have HB4 := Lib.hid hbk; have HT4 := Lib.hid ht4
  have HNO := Lib.hid (fun ho => by have := HLT3.out g ho; omega : ¬ own3 g)
  have HC := Lib.hid (crash_nil hl4 (fun i => HR3.out i))
  clear hbk hl4 ht4 HR
  go_wp2_with fail
  refine HC.out.mono ?_
  rintro e w5 ⟨rfl, ⟨f5, hl5⟩, ht5⟩
  have hn5 : (({ S3 with f1 := S3.f1 - 1 } : St).crash []).n = 4 := HN3.out
  have hnow5 : (({ S3 with f1 := S3.f1 - 1 } : St).crash []).now 2 = zeros := by rw [crash_nil_now]; exact HD3.out
  have HR5 := Lib.hid (show Calls Try.prog 19 #[.pointer (some ⟨b, 0, none⟩), .int .i64 2, .int .i64 1] w5 _ from read_one hl5 2 (by omega) (by simp [St.crash]))
  rw [hnow5] at HR5
  have HT5 := Lib.hid ht5
  clear hl5 ht5 HC hn5 hnow5
  go_wp2_with fail
  refine HR5.out.mono ?_
  rintro e w6 ⟨g6, cap6, rfl, hgs6, hbk6, hl6, ht6⟩
  have hcg : w6.cell? ⟨g, 0, none⟩ = some (.int .u8 ((dataL 1 0 1).getD 0 0 : Nat)) :=
    sec_cell (blk_turn (blk_turn HB4.out HT5.out HNO.out) ht6 HNO.out) (dataL_one_sec 1)
  rw [data_one_at 1 0 (by omega)] at hcg
  have hcz : w6.cell? ⟨g6, 0, none⟩ = some (.int .u8 (zeros.getD 0 0 : Nat)) := sec_cell hbk6 Sec.zero
  rw [zeros_at] at hcz
  have hcg' : w6.cell? ⟨g, 0, none⟩ = some (.int .u8 1) := hcg
  have hcz' : w6.cell? ⟨g6, 0, none⟩ = some (.int .u8 0) := hcz
  have HEND := Lib.hid (below_grown HGW.out (HT3.out.trans ((Turn.below HT4.out (B := w.heap.size) HLW3.out (by have := HGW.out.size; omega)).trans ((Turn.below HT5.out HLW3.out (by have := HGW.out.size; have := HT4.out.size; omega)).trans (Turn.below ht6 HLW3.out (by have := HGW.out.size; have := HT4.out.size; have := HT5.out.size; omega))))))
  clear hbk6 hl6 ht6 hcg hcz
  go_wp2
  go_ret
  exact ⟨rfl, HEND.out⟩
end Go.Proofs.Ytkfijgdbaihhpaa.Dsk
