/- Texts of this seat's proofs: DiskKnown, DiskAny, Does, Does2, Does3. -/
import Derived.Test.YtboccfficmaoaaaMDiskWrite
import Derived.Test.YtboccfficmaoaaaMDiskFlush
import Derived.Test.YtboccfficmaoaaaMDiskLay
import Derived.Test.YtboccfficmaoaaaMDiskRead
import Derived.Test.YtboccfficmaoaaaMCrcMath
/- The laws' first look: a sector is written, and taken by a crash. -/
namespace Go.Proofs.Ytboccfficmaoaaa.Dsk
open Go.RowKit Mem Crc DiskSpec

theorem data_of_own {w : World} {base n : Nat} {own : Nat → Prop} {v : Value} {l : List Nat} (h : Own w base 5 1 v n (u8s l)) (ho : ∀ i, own i → i < base) (hl : ∀ x ∈ l, x < 256) :
    ∃ A c, v = .slice A n c ∧ n ≤ c ∧ c ≤ maxLen ∧ Data w own A n l := by
  have hn : l.length = n := by have := h.len; rw [u8s_length] at this; omega
  obtain ⟨A, c, rfl, h1, h2, h3⟩ := h.shape
  refine ⟨A, c, rfl, h1, h2, hn, hl, fun hp => ?_⟩
  obtain ⟨g, cap, e, hb, hlt, _, _, hc⟩ := h.reads hp
  simp only [Value.slice.injEq] at e
  obtain ⟨rfl, _, _⟩ := e
  refine ⟨g, 0, rfl, hlt, fun e => by have := ho g e; omega, fun j hj => ?_⟩
  rw [Nat.zero_add]
  exact hc j _ (u8s_at l j (by omega))
theorem dataN_one : dataN 1 0 = 256 := by decide
theorem data_one_len (fill : Int) : (dataL 1 0 fill).length = 256 := by rw [dataL_length, dataN_one]; rfl
theorem data_one_at (fill : Int) (i : Nat) (h : i < 256) : (dataL 1 0 fill).getD i 0 = (fill % 256).toNat := by
  unfold dataL
  rw [dataN_one, List.getD_eq_getElem?_getD, List.getElem?_map, show (256 : Int).toNat = 256 from rfl, List.getElem?_range h]
  simp only [Option.map_some, Option.getD_some, dataB]
  rw [Nat.div_eq_of_lt h]
  simp
theorem reads_one_now (S : St) (a : Nat) : S.reads a 1 = S.now a := by simp [St.reads]
theorem sec_one (fill : Int) : sec (dataL 1 0 fill) 0 = dataL 1 0 fill := by
  unfold sec
  rw [Nat.mul_zero, List.drop_zero, List.take_of_length_le (by rw [data_one_len]; exact Nat.le_refl _)]
theorem reads_cell {w : World} {g : Nat} {S : St} {a : Nat} {x : List Nat} (h : Blk w g 5 (u8s (S.reads a 1)).toArray) (hx : S.now a = x) (hl : 0 < x.length) : w.cell? ⟨g, 0, none⟩ = some (.int .u8 (x.getD 0 0 : Nat)) := by
  rw [h.cell, reads_one_now, hx, List.getElem?_toArray, u8s_at _ _ hl]

theorem data_one (kind at_ fill : Int) (fua : Bool) (pv : Value) (w : World) :
    Calls Try.prog 28 #[.agg #[.int .i64 kind, .int .i64 at_, .int .i64 1, .int .i64 0, .int .i64 fill, .bool fua, pv]] w fun e w' =>
      ∃ v, e = .returned v ∧ Own w' w.heap.size 5 1 v 256 (u8s (dataL 1 0 fill)) ∧ w.grownBy w' none := by
  have h := data_any kind at_ 1 0 fill fua pv w
  rw [dataN_one] at h
  exact h
theorem dataL_one_sec (fill : Int) : Sec (dataL 1 0 fill) := ⟨data_one_len fill, dataL_lt _ _ _⟩
/-- One sector is written. -/
theorem write_one {w : World} {B b bd bm : Nat} {S : St} {f : Nat → Option Value} {own : Nat → Prop} (h : Lay w B b bd bm f S own) (a : Nat) (A : Option Addr) (c : Nat) (fill : Int) (fua : Bool)
    (hd : Data w own A 256 (dataL 1 0 fill)) (hc : 256 ≤ c) (h2 : a + 1 ≤ S.n) (hf2 : S.f2 ≠ 1) (hlf : S.left ≠ 0) (hroom : ∀ i, (S.ver i).length < 549755813888) (hB : B ≤ w.heap.size) :
    Calls Try.prog 29 #[.pointer (some ⟨b, 0, none⟩), .int .i64 (a : Nat), .slice A 256 c, .bool fua] w fun e w' => e = .returned (.int .i64 0) ∧
      ∃ f' own', Lay w' B b bd bm f' (({ S with f2 := S.f2 - 1 } : St).put fua a (dataL 1 0 fill)).done own' ∧ Turn w w' own own' := by
  have e : ({ S with f2 := S.f2 - 1 } : St).puts fua a (dataL 1 0 fill) 1 = ({ S with f2 := S.f2 - 1 } : St).put fua a (dataL 1 0 fill) := by
    show (({ S with f2 := S.f2 - 1 } : St).puts fua a (dataL 1 0 fill) 0).put fua (a + 0) (sec (dataL 1 0 fill) 0) = _
    rw [sec_one]; rfl
  rw [← e]
  exact disk_write_ok h a 1 A c (dataL 1 0 fill) fua hd hc (Nat.le_refl _) h2 hf2 hlf hroom hB
/-- One sector is read. -/
theorem read_one {w : World} {B b bd bm : Nat} {S : St} {f : Nat → Option Value} {own : Nat → Prop} (h : Lay w B b bd bm f S own) (a : Nat) (h2 : a + 1 ≤ S.n) (hf : S.f1 ≠ 1) :
    Calls Try.prog 34 #[.pointer (some ⟨b, 0, none⟩), .int .i64 (a : Nat), .int .i64 1] w fun e w' => ∃ g cap, e = .returned (.tuple #[.slice (some ⟨g, 0, none⟩) 256 cap, .int .i64 0]) ∧
      w.heap.size ≤ g ∧ Blk w' g 5 (u8s (S.now a)).toArray ∧ Lay w' B b bd bm f { S with f1 := S.f1 - 1 } own ∧ Turn w w' own own := by
  rw [← reads_one_now]
  exact disk_read_ok h a 1 (Nat.le_refl _) h2 hf
theorem crash_nil_now {S : St} (i : Nat) : (S.crash []).now i = S.dur i := by
  show pickOf (S.dur i) (S.ver i) ([].getD (S.dirty.idxOf i) 0) = S.dur i
  rw [show ([] : List Int).getD (S.dirty.idxOf i) 0 = 0 from rfl, pickOf_zero]
theorem blk_turn {w w' : World} {own own' : Nat → Prop} {g : Nat} {t : TypeId} {cs : Array Value} (h : Blk w g t cs) (ht : Turn w w' own own') (hn : ¬ own g) : Blk w' g t cs := (ht.block g h.lt hn).trans h
/-- A disk that is crashed without picks. -/
theorem crash_nil {w : World} {B b bd bm : Nat} {S : St} {f : Nat → Option Value} {own : Nat → Prop} (h : Lay w B b bd bm f S own) (hroom : ∀ i, (S.ver i).length < 549755813888) :
    Calls Try.prog 33 #[.pointer (some ⟨b, 0, none⟩), .slice none 0 0] w fun e w' => e = .returned (.tuple #[]) ∧ (∃ f', Lay w' B b bd bm f' (S.crash []) own) ∧ Turn w w' own own :=
  disk_crash h none 0 0 [] (Picks.nil _ _) (by omega) hroom
theorem below_grown {w w1 w2 : World} (h : w.grownBy w1 none) (k : Below w.heap.size w1 w2) : w.grownBy w2 none :=
  ⟨k.os.trans h.os, k.tape.trans h.tape, k.output.trans h.output, Nat.le_trans h.size k.size, fun i hi hn => (k.block i hi).trans (h.block i hi hn)⟩
theorem room_put (S : St) (fua : Bool) (i : Nat) (v : List Nat) (k : Nat) : ((S.put fua i v).ver k).length ≤ (S.ver k).length + 1 := by
  unfold St.put
  split
  · show (upd (upd S.ver i (S.ver i ++ [v])) i [] k).length ≤ _
    unfold upd
    split
    · simp
    · omega
  · show (upd S.ver i (S.ver i ++ [v]) k).length ≤ _
    unfold upd
    split
    · rename_i h; subst h; simp
    · omega
theorem sec_cell {w : World} {g : Nat} {x : List Nat} (h : Blk w g 5 (u8s x).toArray) (hx : Sec x) : w.cell? ⟨g, 0, none⟩ = some (.int .u8 (x.getD 0 0 : Nat)) := by
  rw [h.cell, List.getElem?_toArray, u8s_at _ _ (by rw [hx.1]; omega)]
theorem zeros_at (i : Nat) : zeros.getD i 0 = 0 := by
  unfold zeros
  rw [List.getD_eq_getElem?_getD, List.getElem?_replicate]
  split <;> rfl

set_option maxRecDepth 100000 in
set_option maxHeartbeats 3200000 in
theorem known_any (w : World) : Calls Try.prog 27 #[] w fun e w' => e = .returned (.bool true) ∧ w.grownBy w' none := by
  have HN := Lib.hid (show Calls Try.prog 26 #[.int .i64 4] w fun e w' => ∃ b bd bm f own, e = .returned (.tuple #[.pointer (some ⟨b, 0, none⟩), .int .i64 0]) ∧ Lay w' w.heap.size b bd bm f (St.new 4) own ∧ w.grownBy w' none from disk_new 4 w (by omega) (by omega))
  go_enter Try.func27, Try.ntmps27
  go_wp2_with fail
  refine HN.out.mono ?_
  rintro e w1 ⟨b, bd, bm, f, own, rfl, hl1, hg1⟩
  have H1 := Lib.hid hl1; have HG1 := Lib.hid hg1
  have hsz1 := hg1.size
  have HSZ := Lib.hid (show Calls Try.prog 61 #[.pointer (some ⟨b, 0, none⟩)] w1 fun e w' => e = .returned (.int .i64 4) ∧ w1 = w' from disk_size hl1)
  clear hl1 hg1 HN
  go_wp2_with fail
  refine HSZ.out.mono ?_
  rintro e w' ⟨rfl, rfl⟩
  clear HSZ
  -- the step's own block
  have hbx := Blk.new w1 73 #[.int .i64 0, .int .i64 0, .int .i64 1, .int .i64 0, .int .i64 1, .bool false, .slice none 0 0]
  go_wp2_with fail
  refine (data_one 0 0 1 false (.slice none 0 0) _).mono ?_
  rintro e w2 ⟨v, rfl, ho2, hg2⟩
  have hl2 := (H1.out.alloc (.cells #[.int .i64 0, .int .i64 0, .int .i64 1, .int .i64 0, .int .i64 1, .bool false, .slice none 0 0] 73)).grown hg2 (fun _ e => by cases e)
  obtain ⟨A, c, rfl, hc, _, hdat⟩ := data_of_own ho2 (own := own) (fun i hi => by have := H1.out.lt i hi; simp; omega) (dataL_lt _ _ _)
  have HGW := Lib.hid ((HG1.out.trans (World.grownBy_alloc w1 (.cells #[.int .i64 0, .int .i64 0, .int .i64 1, .int .i64 0, .int .i64 1, .bool false, .slice none 0 0] 73) none)).trans hg2)
  have HW := Lib.hid (show Calls Try.prog 29 #[.pointer (some ⟨b, 0, none⟩), .int .i64 2, .slice A 256 c, .bool false] w2 _ from
    write_one hl2 2 A c 1 false hdat hc (show 3 ≤ 4 by omega) (by simp [St.new]) (by simp [St.new]) (fun i => by simp [St.new]) HGW.out.size)
  have HOW := Lib.hid hl2.low
  clear ho2 hg2 hl2 hdat hbx H1 HG1
  go_wp2_with fail
  refine HW.out.mono ?_
  rintro e w3 ⟨rfl, f3, own3, hl3, ht3⟩
  have hnow3 : (({ St.new 4 with f2 := (St.new 4).f2 - 1 } : St).put false 2 (dataL 1 0 1)).done.now 2 = dataL 1 0 1 := by simp [St.now, St.done, St.put, St.add, upd, St.new]
  have hdur3 : (({ St.new 4 with f2 := (St.new 4).f2 - 1 } : St).put false 2 (dataL 1 0 1)).done.dur 2 = zeros := by simp [St.done, St.put, St.add, St.new]
  have hn3 : (({ St.new 4 with f2 := (St.new 4).f2 - 1 } : St).put false 2 (dataL 1 0 1)).done.n = 4 := rfl
  have hf3 : (({ St.new 4 with f2 := (St.new 4).f2 - 1 } : St).put false 2 (dataL 1 0 1)).done.f1 = 0 := rfl
  have hr3 : ∀ i, ((({ St.new 4 with f2 := (St.new 4).f2 - 1 } : St).put false 2 (dataL 1 0 1)).done.ver i).length < 549755813888 := fun i => by
    have := room_put ({ St.new 4 with f2 := (St.new 4).f2 - 1 } : St) false 2 (dataL 1 0 1) i
    have e : ((St.new 4).ver i).length = 0 := rfl
    show ((({ St.new 4 with f2 := (St.new 4).f2 - 1 } : St).put false 2 (dataL 1 0 1)).ver i).length < _
    have e' : (({ St.new 4 with f2 := (St.new 4).f2 - 1 } : St).ver i).length = 0 := e
    omega
  generalize (({ St.new 4 with f2 := (St.new 4).f2 - 1 } : St).put false 2 (dataL 1 0 1)).done = S3 at *
  have HR := Lib.hid (show Calls Try.prog 34 #[.pointer (some ⟨b, 0, none⟩), .int .i64 2, .int .i64 1] w3 _ from read_one hl3 2 (by omega) (by omega))
  rw [hnow3] at HR
  have HT3 := Lib.hid (Turn.below ht3 HOW.out HGW.out.size)
  have HLT3 := Lib.hid hl3.lt
  have HLW3 := Lib.hid hl3.low
  have HR3 := Lib.hid hr3; have HD3 := Lib.hid hdur3; have HN3 := Lib.hid hn3; have HF3 := Lib.hid hf3
  have hs3 := ht3.size
  clear hl3 ht3 HW hnow3 hr3 hdur3 hn3 hf3
  go_wp2_with fail
  refine HR.out.mono ?_
  rintro e w4 ⟨g, cap, rfl, hgs, hbk, hl4, ht4⟩
  have HB4 := Lib.hid hbk; have HT4 := Lib.hid ht4
  have HNO := Lib.hid (fun ho => by have := HLT3.out g ho; omega : ¬ own3 g)
  have HC := Lib.hid (crash_nil hl4 (fun i => HR3.out i))
  clear hbk hl4 ht4 HR
  go_wp2_with fail
  refine HC.out.mono ?_
  rintro e w5 ⟨rfl, ⟨f5, hl5⟩, ht5⟩
  have hn5 : (({ S3 with f1 := S3.f1 - 1 } : St).crash []).n = 4 := HN3.out
  have hnow5 : (({ S3 with f1 := S3.f1 - 1 } : St).crash []).now 2 = zeros := by rw [crash_nil_now]; exact HD3.out
  have HR5 := Lib.hid (show Calls Try.prog 34 #[.pointer (some ⟨b, 0, none⟩), .int .i64 2, .int .i64 1] w5 _ from read_one hl5 2 (by omega) (by simp [St.crash]))
  rw [hnow5] at HR5
  have HT5 := Lib.hid ht5
  clear hl5 ht5 HC hn5 hnow5
  go_wp2_with fail
  refine HR5.out.mono ?_
  rintro e w6 ⟨g6, cap6, rfl, hgs6, hbk6, hl6, ht6⟩
  have hcg : w6.cell? ⟨g, 0, none⟩ = some (.int .u8 ((dataL 1 0 1).getD 0 0 : Nat)) :=
    sec_cell (blk_turn (blk_turn HB4.out HT5.out HNO.out) ht6 HNO.out) (dataL_one_sec 1)
  rw [data_one_at 1 0 (by omega)] at hcg
  have hcz : w6.cell? ⟨g6, 0, none⟩ = some (.int .u8 (zeros.getD 0 0 : Nat)) := sec_cell hbk6 Sec.zero
  rw [zeros_at] at hcz
  have hcg' : w6.cell? ⟨g, 0, none⟩ = some (.int .u8 1) := hcg
  have hcz' : w6.cell? ⟨g6, 0, none⟩ = some (.int .u8 0) := hcz
  have HEND := Lib.hid (below_grown HGW.out (HT3.out.trans ((Turn.below HT4.out (B := w.heap.size) HLW3.out (by have := HGW.out.size; omega)).trans ((Turn.below HT5.out HLW3.out (by have := HGW.out.size; have := HT4.out.size; omega)).trans (Turn.below ht6 HLW3.out (by have := HGW.out.size; have := HT4.out.size; have := HT5.out.size; omega))))))
  clear hbk6 hl6 ht6 hcg hcz
  go_wp2
  go_ret
  exact ⟨rfl, HEND.out⟩
end Go.Proofs.Ytboccfficmaoaaa.Dsk
/- Each call on either disk, whatever it is asked: one contract a call. -/
namespace Go.Proofs.Ytboccfficmaoaaa.Dsk
open Go.RowKit Mem Crc DiskSpec

/-- A disk at block b; the document's disk at block r. -/
def DAt (w : World) (B b : Nat) (S : St) (own : Nat → Prop) : Prop := ∃ bd bm f, Lay w B b bd bm f S own
theorem Data.none_ (w : World) (own : Nat → Prop) : Data w own none 0 [] := ⟨rfl, by simp, by omega⟩

theorem disk_write_all {w : World} {B b : Nat} {S : St} {own : Nat → Prop} (h : DAt w B b S own) (a : Int) (A : Option Addr) (n cc : Nat) (l : List Nat) (fua : Bool) (ha : -9223372036854775808 ≤ a ∧ a ≤ 9223372036854775807)
    (hd : Data w own A n l) (hc : n ≤ cc) (hnm : n ≤ 65536) (hroom : ∀ i, (S.ver i).length < 549755813888) (hB : B ≤ w.heap.size) :
    Calls Try.prog 29 #[.pointer (some ⟨b, 0, none⟩), .int .i64 a, .slice A n cc, .bool fua] w fun e w' => e = .returned (.int .i64 (writeE S fua a l).1) ∧ ∃ own', DAt w' B b (writeE S fua a l).2 own' ∧ Turn w w' own own' := by
  obtain ⟨bd, bm, f, h⟩ := h
  have hl := hd.1
  unfold writeE
  rw [hl]
  by_cases h1 : n = 0 ∨ n % 256 ≠ 0
  · rw [if_pos h1]
    refine (disk_write_arg _ a A n cc fua w (by omega) h1).mono ?_
    rintro e w' ⟨rfl, rfl⟩
    exact ⟨rfl, own, ⟨bd, bm, f, h⟩, Turn.refl _ _⟩
  · rw [if_neg h1]
    obtain ⟨k, rfl⟩ : ∃ k, n = k * 256 := ⟨n / 256, by omega⟩
    rw [Nat.mul_div_cancel _ (by omega : 0 < 256)]
    have hk : 1 ≤ k := by omega
    by_cases h2 : S.has a k = false
    · rw [if_pos h2]
      refine (disk_write_range h a A k cc fua ha hk (by omega) h2).mono ?_
      rintro e w' ⟨rfl, rfl⟩
      exact ⟨rfl, own, ⟨bd, bm, f, h⟩, Turn.refl _ _⟩
    · rw [if_neg h2]
      have h2' : S.has a k = true := by simpa using h2
      by_cases h3 : S.f2 = 1 ∨ S.left = 0
      · rw [if_pos h3]
        refine (disk_write_stop h a A k cc fua ha hk (by omega) h2' h3).mono ?_
        rintro e w' ⟨rfl, h4, h5⟩
        exact ⟨rfl, own, ⟨_, _, _, h4⟩, h5⟩
      · rw [if_neg h3]
        obtain ⟨a', c', rfl, hc', _, h5⟩ := has_split h2' h.ok.top
        obtain rfl : k = c' := by omega
        refine (disk_write_ok h a' k A cc l fua hd hc hk h5 (fun e => h3 (.inl e)) (fun e => h3 (.inr e)) hroom hB).mono ?_
        rintro e w' ⟨rfl, f', own', h6, h7⟩
        exact ⟨rfl, own', ⟨_, _, _, h6⟩, h7⟩
theorem disk_flush_all {w : World} {B b : Nat} {S : St} {own : Nat → Prop} (h : DAt w B b S own) :
    Calls Try.prog 30 #[.pointer (some ⟨b, 0, none⟩)] w fun e w' => e = .returned (.int .i64 (flushE S).1) ∧ DAt w' B b (flushE S).2 own ∧ Turn w w' own own := by
  obtain ⟨bd, bm, f, h⟩ := h
  unfold flushE
  by_cases h3 : S.f3 = 1 ∨ S.left = 0
  · rw [if_pos h3]
    refine (disk_flush_stop h h3).mono ?_
    rintro e w' ⟨rfl, h4, h5⟩
    exact ⟨rfl, ⟨_, _, _, h4⟩, h5⟩
  · rw [if_neg h3]
    refine (disk_flush_ok h (fun e => h3 (.inl e)) (fun e => h3 (.inr e))).mono ?_
    rintro e w' ⟨rfl, ⟨f', h6⟩, h7⟩
    exact ⟨rfl, ⟨_, _, _, h6⟩, h7⟩
theorem disk_fail_all {w : World} {B b : Nat} {S : St} {own : Nat → Prop} (h : DAt w B b S own) (kind n : Int) :
    Calls Try.prog 31 #[.pointer (some ⟨b, 0, none⟩), .int .i64 kind, .int .i64 n] w fun e w' => e = .returned (.int .i64 (failE S kind n).1) ∧ DAt w' B b (failE S kind n).2 own ∧ Turn w w' own own := by
  obtain ⟨bd, bm, f, h⟩ := h
  have ho := h.ownB
  unfold failE
  by_cases h1 : n < 1 ∨ 1099511627776 < n
  · rw [if_pos h1]
    refine (disk_fail_no _ kind n w (by unfold failBad; omega)).mono ?_
    rintro e w' ⟨rfl, rfl⟩
    exact ⟨rfl, ⟨bd, bm, f, h⟩, Turn.refl _ _⟩
  · rw [if_neg h1]
    obtain ⟨m, rfl⟩ : ∃ m : Nat, n = m := ⟨n.toNat, by omega⟩
    rw [Int.toNat_natCast]
    split
    · rename_i hk; subst hk
      refine (disk_fail1 h m (by omega) (by omega)).mono ?_
      rintro e w' ⟨rfl, h4, h5⟩
      exact ⟨rfl, ⟨_, _, _, h5⟩, Turn.of_grown h4 (fun q e => by cases e; exact ho)⟩
    · split
      · rename_i hk; subst hk
        refine (disk_fail2 h m (by omega) (by omega)).mono ?_
        rintro e w' ⟨rfl, h4, h5⟩
        exact ⟨rfl, ⟨_, _, _, h5⟩, Turn.of_grown h4 (fun q e => by cases e; exact ho)⟩
      · split
        · rename_i hk; subst hk
          refine (disk_fail3 h m (by omega) (by omega)).mono ?_
          rintro e w' ⟨rfl, h4, h5⟩
          exact ⟨rfl, ⟨_, _, _, h5⟩, Turn.of_grown h4 (fun q e => by cases e; exact ho)⟩
        · refine (disk_fail_no _ kind m w (by unfold failBad; omega)).mono ?_
          rintro e w' ⟨rfl, rfl⟩
          exact ⟨rfl, ⟨bd, bm, f, h⟩, Turn.refl _ _⟩
theorem disk_cut_all {w : World} {B b : Nat} {S : St} {own : Nat → Prop} (h : DAt w B b S own) (n : Int) :
    Calls Try.prog 32 #[.pointer (some ⟨b, 0, none⟩), .int .i64 n] w fun e w' => e = .returned (.int .i64 (cutE S n).1) ∧ DAt w' B b (cutE S n).2 own ∧ Turn w w' own own := by
  obtain ⟨bd, bm, f, h⟩ := h
  have ho := h.ownB
  unfold cutE
  by_cases h1 : n < 0 ∨ 1099511627776 < n
  · rw [if_pos h1]
    refine (disk_cut_no _ n w h1).mono ?_
    rintro e w' ⟨rfl, rfl⟩
    exact ⟨rfl, ⟨bd, bm, f, h⟩, Turn.refl _ _⟩
  · rw [if_neg h1]
    refine (disk_cut h n (by omega) (by omega)).mono ?_
    rintro e w' ⟨rfl, h4, h5⟩
    exact ⟨rfl, ⟨_, _, _, h5⟩, Turn.of_grown h4 (fun q e => by cases e; exact ho)⟩
theorem disk_crash_all {w : World} {B b : Nat} {S : St} {own : Nat → Prop} (h : DAt w B b S own) (A : Option Addr) (n cc : Nat) (picks : List Int) (hp : Picks w own A n picks) (hnm : n ≤ 9223372036854775807) (hroom : ∀ i, (S.ver i).length < 549755813888) :
    Calls Try.prog 33 #[.pointer (some ⟨b, 0, none⟩), .slice A n cc] w fun e w' => e = .returned (.tuple #[]) ∧ DAt w' B b (S.crash picks) own ∧ Turn w w' own own := by
  obtain ⟨bd, bm, f, h⟩ := h
  refine (disk_crash h A n cc picks hp hnm hroom).mono ?_
  rintro e w' ⟨rfl, ⟨f', h6⟩, h7⟩
  exact ⟨rfl, ⟨_, _, _, h6⟩, h7⟩

/-- Bytes that the disk has given: a row of the reader's own. -/
def Gave8 (w : World) (base : Nat) (v : Value) (l : List Nat) : Prop := (v = .slice none 0 0 ∧ l = []) ∨ ∃ g cap, v = .slice (some ⟨g, 0, none⟩) l.length cap ∧ base ≤ g ∧ Blk w g 5 (u8s l).toArray
theorem reads_len {S : St} (hok : S.ok) (a c : Nat) : (S.reads a c).length = 256 * c := reads_length hok a c
theorem disk_read_all {w : World} {B b : Nat} {S : St} {own : Nat → Prop} (h : DAt w B b S own) (a count : Int) (ha : -9223372036854775808 ≤ a ∧ a ≤ 9223372036854775807) (hc : -9223372036854775808 ≤ count ∧ count ≤ 9223372036854775807) :
    Calls Try.prog 34 #[.pointer (some ⟨b, 0, none⟩), .int .i64 a, .int .i64 count] w fun e w' => ∃ v, e = .returned (.tuple #[v, .int .i64 (readE S a count).1]) ∧ Gave8 w' w.heap.size v (readL S a count) ∧ DAt w' B b (readE S a count).2 own ∧ Turn w w' own own := by
  obtain ⟨bd, bm, f, h⟩ := h
  unfold readE readL
  by_cases h2 : S.has a count = false
  · rw [if_pos h2, if_pos h2]
    refine (disk_read_no h a count ha hc h2).mono ?_
    rintro e w' ⟨rfl, rfl⟩
    exact ⟨_, rfl, .inl ⟨rfl, rfl⟩, ⟨bd, bm, f, h⟩, Turn.refl _ _⟩
  · have h2' : S.has a count = true := by simpa using h2
    rw [if_neg h2, if_neg h2]
    by_cases h3 : S.f1 = 1
    · rw [if_pos h3, if_pos h3]
      refine (disk_read_fail h a count ha hc h2' h3).mono ?_
      rintro e w' ⟨rfl, h4, h5⟩
      exact ⟨_, rfl, .inl ⟨rfl, rfl⟩, ⟨_, _, _, h4⟩, h5⟩
    · rw [if_neg h3, if_neg h3]
      obtain ⟨a', c', rfl, rfl, h4, h5⟩ := has_split h2' h.ok.top
      have hlen := reads_len h.ok a' c'
      refine (disk_read_ok h a' c' h4 h5 h3).mono ?_
      rintro e w' ⟨g, cap, rfl, h6, h7, h8, h9⟩
      exact ⟨_, rfl, .inr ⟨g, cap, by rw [Int.toNat_natCast, Int.toNat_natCast, hlen], h6, h7⟩, ⟨_, _, _, h8⟩, h9⟩
end Go.Proofs.Ytboccfficmaoaaa.Dsk
/- One step on both disks: they answer the same, and stay the same. -/
namespace Go.Proofs.Ytboccfficmaoaaa.Dsk
open Go.RowKit Mem Crc DiskSpec

def both (o1 o2 : Nat → Prop) : Nat → Prop := fun i => o1 i ∨ o2 i
section
variable {w w' w2 : World} {B b r : Nat} {S S' : St} {o1 o2 o1' o2' : Nat → Prop}
theorem DAt.lt (h : DAt w B b S o1) : ∀ i, o1 i → i < w.heap.size := by obtain ⟨_, _, _, h⟩ := h; exact h.lt
theorem DAt.least (h : DAt w B b S o1) : ∀ i, o1 i → B ≤ i := by obtain ⟨_, _, _, h⟩ := h; exact h.low
theorem DAt.ok (h : DAt w B b S o1) : S.ok := by obtain ⟨_, _, _, h⟩ := h; exact h.ok
theorem DAt.far {o o' : Nat → Prop} (h : DAt w B b S o1) (ht : Turn w w' o o') (hd : ∀ i, o1 i → ¬ o i) : DAt w' B b S o1 := by
  obtain ⟨bd, bm, f, h⟩ := h; exact ⟨bd, bm, f, h.turn ht hd⟩
theorem Turn.left (h : Turn w w' o1 o1') : Turn w w' (both o1 o2) (both o1' o2) :=
  ⟨h.os, h.tape, h.output, h.size, fun i hi hn => h.block i hi (fun e => hn (.inl e)), fun i hi => by
    rcases hi with hi | hi
    · rcases h.fresh i hi with h1 | h1
      · exact .inl (.inl h1)
      · exact .inr h1
    · exact .inl (.inr hi)⟩
theorem Turn.right (h : Turn w w' o2 o2') : Turn w w' (both o1 o2) (both o1 o2') :=
  ⟨h.os, h.tape, h.output, h.size, fun i hi hn => h.block i hi (fun e => hn (.inr e)), fun i hi => by
    rcases hi with hi | hi
    · exact .inl (.inl hi)
    · rcases h.fresh i hi with h1 | h1
      · exact .inl (.inr h1)
      · exact .inr h1⟩
theorem cell_turn {g o : Nat} {v : Value} (hc : w.cell? ⟨g, o, none⟩ = some v) (hl : g < w.heap.size) (ht : Turn w w' o1 o1') (hn : ¬ o1 g) : w'.cell? ⟨g, o, none⟩ = some v := by
  rw [World.cell?_of_block (a := ⟨g, o, none⟩) (ht.block g hl hn)]; exact hc
theorem Turn.not_ {g : Nat} (ht : Turn w w' o1 o1') (hl : g < w.heap.size) (hn : ¬ o1 g) : ¬ o1' g := fun h => by
  rcases ht.fresh g h with h1 | h1
  · exact hn h1
  · omega
end

/-- What is left of one step. -/
def stepE (S : St) (kind at_ count bytes fill : Int) (fua : Bool) (picks : List Int) : St :=
  if kind = 0 then (readE S at_ count).2 else if kind = 1 then (writeE S fua at_ (dataL count bytes fill)).2 else if kind = 2 then (flushE S).2
  else if kind = 3 then (failE S at_ count).2 else if kind = 4 then (cutE S count).2 else if kind = 5 then S.crash picks else S

theorem Picks.far {w w' : World} {o1 o1' o2 : Nat → Prop} {A : Option Addr} {n : Nat} {l : List Int} (h1 : Picks w o1 A n l) (h2 : Picks w o2 A n l) (ht : Turn w w' o1 o1') : Picks w' o2 A n l := by
  refine ⟨h2.1, h2.2.1, fun hn => ?_⟩
  obtain ⟨g, o, rfl, hlt, hno, hc⟩ := h2.2.2 hn
  obtain ⟨g1, p1, e1, _, hno1, _⟩ := h1.2.2 hn
  cases e1
  exact ⟨g, o, rfl, Nat.lt_of_lt_of_le hlt ht.size, hno, fun j hj => cell_turn (hc j hj) hlt ht hno1⟩

end Go.Proofs.Ytboccfficmaoaaa.Dsk
/- A write and a read on both disks. -/
namespace Go.Proofs.Ytboccfficmaoaaa.Dsk
open Go.RowKit Mem Crc DiskSpec

/-- Bytes that may be written over. -/
def Spare (w : World) (base : Nat) (v : Value) (n : Nat) : Prop :=
  ∃ A cap, v = .slice A n cap ∧ (0 < n → ∃ g cs, A = some ⟨g, 0, none⟩ ∧ base ≤ g ∧ Blk w g 5 cs ∧ ∀ j, j < n → ∃ x, cs[j]? = some (.int .u8 x))
section
variable {w w' w1 : World} {base n : Nat} {v : Value} {l : List Nat} {o o' : Nat → Prop}
theorem Spare.of_bare (h : Bare w base 5 1 v n (u8s l)) : Spare w base v n := by
  have hl := h.1
  rw [u8s_length] at hl
  rcases h.2 with ⟨rfl, rfl⟩ | ⟨g, cap, cur, rfl, hb, hh, hnc, _, hcs, ht⟩
  · exact ⟨_, _, rfl, fun h => absurd h (by omega)⟩
  · refine ⟨_, _, rfl, fun _ => ⟨g, cur, rfl, hb, hh, fun j hj => ⟨(l.getD j 0 : Nat), ?_⟩⟩⟩
    have h1 := u8s_at l j (by omega)
    rw [← ht, List.getElem?_take_of_lt (by omega), Array.getElem?_toList] at h1
    exact h1
theorem Spare.of_gave (h : Gave8 w base v l) : Spare w base v l.length := by
  rcases h with ⟨rfl, rfl⟩ | ⟨g, cap, rfl, hb, hh⟩
  · exact ⟨_, _, rfl, fun h => absurd h (by simp)⟩
  · exact ⟨_, _, rfl, fun _ => ⟨g, _, rfl, hb, hh, fun j hj => ⟨_, by rw [List.getElem?_toArray]; exact u8s_at l j hj⟩⟩⟩
theorem Spare.block (h : Spare w base v n) (hn : 0 < n) : ∀ g, v.ownBlock = some g → base ≤ g ∧ g < w.heap.size := by
  obtain ⟨A, cap, rfl, hc⟩ := h
  intro g hg
  obtain ⟨g', cs, rfl, hb, hh, _⟩ := hc hn
  cases hg
  exact ⟨hb, hh.lt⟩
theorem Spare.keep {row : Option Nat} (h : Spare w base v n) (hg : w.grownBy w' row) (hn : ∀ g, base ≤ g → g < w.heap.size → row ≠ some g) : Spare w' base v n := by
  obtain ⟨A, cap, rfl, hc⟩ := h
  refine ⟨A, cap, rfl, fun h0 => ?_⟩
  obtain ⟨g, cs, rfl, hb, hh, hx⟩ := hc h0
  exact ⟨g, cs, rfl, hb, hh.grown hg (fun e => hn g hb hh.lt e.symm), hx⟩
theorem Spare.turn (h : Spare w base v n) (ht : Turn w w' o o') (hn : ∀ g, base ≤ g → g < w.heap.size → ¬ o g) : Spare w' base v n := by
  obtain ⟨A, cap, rfl, hc⟩ := h
  refine ⟨A, cap, rfl, fun h0 => ?_⟩
  obtain ⟨g, cs, rfl, hb, hh, hx⟩ := hc h0
  exact ⟨g, cs, rfl, hb, (ht.block g hh.lt (hn g hb hh.lt)).trans hh, hx⟩
theorem Spare.set (h : Spare w base v n) {j : Nat} (hj : j < n) : ∃ g cap x, v = .slice (some ⟨g, 0, none⟩) n cap ∧ base ≤ g ∧ g < w.heap.size ∧ w.cell? ⟨g, j, none⟩ = some (.int .u8 x) ∧ w.frozen? ⟨g, j, none⟩ = false ∧
    ∀ y : Int, Spare (w.setCell ⟨g, j, none⟩ (.int .u8 y)) base v n := by
  obtain ⟨A, cap, rfl, hc⟩ := h
  obtain ⟨g, cs, rfl, hb, hh, hx⟩ := hc (by omega)
  obtain ⟨x, hxj⟩ := hx j hj
  refine ⟨g, cap, x, rfl, hb, hh.lt, by rw [hh.cell]; exact hxj, hh.frozen j, fun y => ⟨_, cap, rfl, fun _ => ⟨g, _, rfl, hb, hh.set_ j _, fun q hq => ?_⟩⟩⟩
  obtain ⟨x', hx'⟩ := hx q hq
  rw [Array.getElem?_setIfInBounds]
  split
  · rename_i e
    have : j < cs.size := (Array.getElem?_eq_some_iff.1 hxj).1
    rw [if_pos this]
    exact ⟨y, rfl⟩
  · exact ⟨x', hx'⟩
theorem Turn.over {own own' : Nat → Prop} {row : Option Nat} (h : Turn w w1 own own') (hg : w1.grownBy w' row) (hn : ∀ g, row = some g → w.heap.size ≤ g) : Turn w w' own own' :=
  ⟨hg.os.trans h.os, hg.tape.trans h.tape, hg.output.trans h.output, Nat.le_trans h.size hg.size,
    fun i hi ho => (hg.block i (Nat.lt_of_lt_of_le hi h.size) (fun e => by have := hn i e.symm; omega)).trans (h.block i hi ho), h.fresh⟩
theorem Data.far {A : Option Addr} (h1 : Data w o A n l) {o2 : Nat → Prop} (h2 : Data w o2 A n l) (ht : Turn w w' o o') : Data w' o2 A n l := by
  refine ⟨h2.1, h2.2.1, fun hn => ?_⟩
  obtain ⟨g, p, rfl, hlt, hno, hc⟩ := h2.2.2 hn
  obtain ⟨g1, p1, e1, _, hno1, _⟩ := h1.2.2 hn
  cases e1
  exact ⟨g, p, rfl, Nat.lt_of_lt_of_le hlt ht.size, hno, fun j hj => cell_turn (hc j hj) hlt ht hno1⟩
theorem dataN_top (count bytes : Int) : (dataN count bytes).toNat ≤ 65536 := by
  have h1 := Int.tmod_lt_of_pos bytes (show (0 : Int) < 256 by omega)
  unfold dataN
  split <;> omega
/-- Bytes that are read in. -/
theorem bytes_of_gave (h : Gave8 w base v l) (hx : ∀ x ∈ l, x < 256) : ∃ A c, v = .slice A l.length c ∧ Bytes w w.heap.size A l.length l := by
  rcases h with ⟨rfl, rfl⟩ | ⟨g, cap, rfl, hb, hh⟩
  · exact ⟨_, _, rfl, rfl, hx, fun h => absurd h (by simp)⟩
  · refine ⟨_, _, rfl, rfl, hx, fun _ => ⟨g, 0, rfl, hh.lt, Nat.ne_of_lt hh.lt, fun j hj => ?_⟩⟩
    rw [Nat.zero_add, hh.cell, List.getElem?_toArray]; exact u8s_at l j hj
theorem bytes_of_own (h : Own w base 5 1 v l.length (u8s l)) (hx : ∀ x ∈ l, x < 256) : ∃ A c, v = .slice A l.length c ∧ Bytes w w.heap.size A l.length l := by
  obtain ⟨A, c, rfl, _, _, _⟩ := h.shape
  refine ⟨_, _, rfl, rfl, hx, fun hn => ?_⟩
  obtain ⟨g, cap, e, hb, hlt, _, _, hc⟩ := h.reads hn
  simp only [Value.slice.injEq] at e
  obtain ⟨rfl, _, _⟩ := e
  exact ⟨g, 0, rfl, hlt, Nat.ne_of_lt hlt, fun j hj => by rw [Nat.zero_add]; exact hc j _ (u8s_at l j hj)⟩
end
theorem readL_lt {S : St} (hok : S.ok) (a c : Int) : ∀ x ∈ readL S a c, x < 256 := by
  unfold readL
  split
  · intro x hx; cases hx
  · split
    · intro x hx; cases hx
    · exact reads_lt hok _ _
theorem readL_len {S : St} (hok : S.ok) (a c : Int) : (readL S a c).length ≤ 1048576 := by
  unfold readL
  split
  · simp
  · rename_i h
    split
    · simp
    · rw [reads_len hok]
      have h' : S.has a c = true := by simpa using h
      obtain ⟨a', c', rfl, rfl, h1, h2⟩ := has_split h' hok.top
      have := hok.top
      simp; omega

end Go.Proofs.Ytboccfficmaoaaa.Dsk
/- A read on both disks; any step. -/
namespace Go.Proofs.Ytboccfficmaoaaa.Dsk
open Go.RowKit Mem Crc DiskSpec

theorem Gave8.turn {w w' : World} {base : Nat} {v : Value} {l : List Nat} {o o' : Nat → Prop} (h : Gave8 w base v l) (ht : Turn w w' o o') (hn : ∀ g, base ≤ g → ¬ o g) : Gave8 w' base v l := by
  rcases h with h | ⟨g, cap, e, hb, hh⟩
  · exact .inl h
  · exact .inr ⟨g, cap, e, hb, (ht.block g hh.lt (hn g hb)).trans hh⟩
/-- A step makes no sector's row of versions longer than by one. -/
theorem put_len (S : St) (fua : Bool) (i : Nat) (v : List Nat) (k : Nat) : ((S.put fua i v).ver k).length ≤ (S.ver k).length + (if k = i then 1 else 0) := by
  unfold St.put
  cases fua with
  | true =>
    show (upd (S.add i v).ver i [] k).length ≤ _
    by_cases h : k = i
    · simp [upd, h]
    · simp [upd, St.add, h]
  | false =>
    show (upd S.ver i (S.ver i ++ [v]) k).length ≤ _
    by_cases h : k = i
    · subst h; simp [upd]
    · simp [upd, h]
theorem puts_len (S : St) (fua : Bool) (a : Nat) (l : List Nat) (k : Nat) : ∀ j, ((S.puts fua a l j).ver k).length ≤ (S.ver k).length + (if a ≤ k ∧ k < a + j then 1 else 0)
  | 0 => by show (S.ver k).length ≤ _; omega
  | j + 1 => by
    have h1 := puts_len S fua a l k j
    have h2 := put_len (S.puts fua a l j) fua (a + j) (sec l j) k
    show (((S.puts fua a l j).put fua (a + j) (sec l j)).ver k).length ≤ _
    by_cases hk : k = a + j
    · rw [if_pos hk] at h2
      rw [if_neg (by omega)] at h1
      rw [if_pos (by omega)]
      omega
    · rw [if_neg hk] at h2
      split at h1
      · rw [if_pos (by omega)]; omega
      · omega
theorem step_len (S : St) (kind at_ count bytes fill : Int) (fua : Bool) (picks : List Int) (k m : Nat) (h : (S.ver k).length ≤ m) : ((stepE S kind at_ count bytes fill fua picks).ver k).length ≤ m + 1 := by
  unfold stepE
  split
  · unfold readE; split
    · show (S.ver k).length ≤ _; omega
    · split <;> (show (S.ver k).length ≤ _; omega)
  split
  · unfold writeE; split
    · show (S.ver k).length ≤ _; omega
    · split
      · show (S.ver k).length ≤ _; omega
      · split
        · show (S.ver k).length ≤ _; omega
        · have h1 := puts_len ({ S with f2 := S.f2 - 1 } : St) fua at_.toNat (dataL count bytes fill) k ((dataL count bytes fill).length / 256)
          show ((St.puts ({ S with f2 := S.f2 - 1 } : St) fua at_.toNat (dataL count bytes fill) ((dataL count bytes fill).length / 256)).ver k).length ≤ _
          have h2 : ((({ S with f2 := S.f2 - 1 } : St)).ver k).length = (S.ver k).length := rfl
          rw [h2] at h1
          split at h1 <;> omega
  split
  · unfold flushE; split
    · show (S.ver k).length ≤ _; omega
    · show ([] : List (List Nat)).length ≤ _; simp
  split
  · unfold failE; split
    · show (S.ver k).length ≤ _; omega
    · split
      · show (S.ver k).length ≤ _; omega
      · split
        · show (S.ver k).length ≤ _; omega
        · split <;> (show (S.ver k).length ≤ _; omega)
  split
  · unfold cutE; split <;> (show (S.ver k).length ≤ _; omega)
  split
  · show ([] : List (List Nat)).length ≤ _; simp
  · omega
end Go.Proofs.Ytboccfficmaoaaa.Dsk
