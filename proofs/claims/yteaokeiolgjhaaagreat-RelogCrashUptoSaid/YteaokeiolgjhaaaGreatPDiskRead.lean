/- Texts of this seat's proofs: DiskRead, DiskWrite3. -/
import Derived.Test.YteaokeiolgjhaaaGreatPDiskNow
import Derived.Test.YteaokeiolgjhaaaGreatPDiskNew
import Derived.Test.YteaokeiolgjhaaaGreatPDiskLay
import Derived.Deep.RegionHeld3
import Derived.Laws.CopyOwn
/- Sectors are read. -/
namespace Go.Proofs.YteaokeiolgjhaaaGreat.Dsk
open Go.RowKit Mem Crc DiskSpec

/-- The bytes of a read that has come to sector j of count. -/
def partly (S : St) (a count j : Nat) : List Nat := S.reads a j ++ List.replicate (256 * (count - j)) 0
theorem partly_all (S : St) (a count : Nat) : partly S a count count = S.reads a count := by simp [partly]
theorem partly_length {S : St} (h : S.ok) (a count j : Nat) (hj : j ≤ count) : (partly S a count j).length = 256 * count := by
  rw [partly, List.length_append, reads_length h, List.length_replicate]; omega
theorem partly_step {S : St} (h : S.ok) (a count j : Nat) (hj : j < count) : (u8s (partly S a count j)).take (j * 256) ++ (u8s (S.now (a + j)) ++ (u8s (partly S a count j)).drop (j * 256 + 256)) = u8s (partly S a count (j + 1)) := by
  have hl := reads_length h a j
  have e1 : (u8s (partly S a count j)).take (j * 256) = u8s (S.reads a j) := by
    rw [partly, u8s_append, List.take_left' (by rw [u8s_length, hl]; omega)]
  have e2 : (u8s (partly S a count j)).drop (j * 256 + 256) = u8s (List.replicate (256 * (count - (j + 1))) 0) := by
    rw [partly, u8s_append, List.drop_append, List.drop_eq_nil_of_le (by rw [u8s_length, hl]; omega), List.nil_append, u8s_length, hl]
    simp only [u8s, List.map_replicate, List.drop_replicate]
    congr 1
    omega
  rw [e1, e2, partly, St.reads, u8s_append, u8s_append, List.append_assoc]

theorem Turn.new_ {w w1 w2 : World} {own own' : Nat → Prop} {g : Nat} (h : Turn w w1 own own') (hg : w1.grownBy w2 (some g)) (hn : w.heap.size ≤ g) : Turn w w2 own own' :=
  ⟨hg.os.trans h.os, hg.tape.trans h.tape, hg.output.trans h.output, Nat.le_trans h.size hg.size,
    fun i hi ho => (hg.block i (Nat.lt_of_lt_of_le hi h.size) (fun e => by cases e; omega)).trans (h.block i hi ho), h.fresh⟩
theorem grown_setRow' {w W : World} {h : Nat} (hg : w.grownBy W (some h)) (cs : Array Value) : w.grownBy (W.setRow h cs) (some h) :=
  ⟨hg.os, hg.tape, hg.output, by simpa [World.setRow] using hg.size, fun k hk hn => (setRow_other W h k cs (fun e => hn (by rw [e]))).trans (hg.block k hk hn)⟩
theorem blk_setRow {W : World} {h : Nat} {t : TypeId} {cs : Array Value} (hb : Blk W h t cs) (ds : Array Value) : Blk (W.setRow h ds) h t ds := setRow_heap W h cs ds t (0, 0) hb

set_option maxRecDepth 100000 in
set_option maxHeartbeats 1600000 in
theorem disk_read_okc {w : World} {B b bd bm : Nat} {S : St} {f : Nat → Option Value} {own : Nat → Prop} (h : Lay w B b bd bm f S own) (a count : Nat) (h1 : 1 ≤ count) (h2 : a + count ≤ S.n) (hf : S.f1 ≠ 1) :
    Calls Tryz.prog 106 #[.pointer (some ⟨b, 0, none⟩), .int .i64 (a : Nat), .int .i64 (count : Nat)] w fun e w' => ∃ g cap, e = .returned (.tuple #[.slice (some ⟨g, 0, none⟩) (256 * count) cap, .int .i64 0]) ∧
      w.heap.size ≤ g ∧ Blk w' g 5 (u8s (S.reads a count)).toArray ∧ Lay w' B b bd bm f { S with f1 := S.f1 - 1 } own ∧ Turn w w' own own ∧ cap = 256 * count := by
  have htop := h.ok.top
  have HH := Lib.hid (disk_has h (a : Int) (count : Int) (by omega) (by omega))
  have hhas : S.has a count = true := by simp [St.has]; omega
  have HD := Lib.hid (disk_due1 h)
  have HF := Lib.hid (show decide (S.f1 = 1) = false by simp [hf])
  have HOK := Lib.hid h.ok
  have HLOW := Lib.hid h.low
  have HOB := Lib.hid h.ownB
  have HLT := Lib.hid h.lt
  obtain ⟨i0, hi0, hz0, hz1, hz2⟩ := info_parts byte_info
  have hi := Lib.hid hi0; have z0 := Lib.hid hz0; have z1 := Lib.hid hz1; have z2 := Lib.hid hz2; clear hi0 hz0 hz1 hz2
  have hw1 : IntKind.i64.wrap ((count : Int) * 256) = (count : Int) * 256 := IntWalk.i64_in _ (by omega)
  clear h
  rw [hhas] at HH
  rw [HF.out] at HD
  generalize hT : ({ S with f1 := S.f1 - 1 } : St) = T at *
  have HTN := Lib.hid (show T.n = S.n by rw [← hT])
  have HTR := Lib.hid (show ∀ k, T.reads a k = S.reads a k by
    intro k; rw [← hT]; induction k with
    | zero => rfl
    | succ k ih => rw [St.reads, St.reads, ih]; rfl)
  clear hT hhas
  go_enter Tryz.func106, Tryz.ntmps106
  go_wp2_with fail
  refine HH.out.mono ?_
  rintro e w' ⟨rfl, rfl⟩
  go_wp2_with fail
  refine HD.out.mono ?_
  rintro e w1 ⟨rfl, hg1, hl1⟩
  have HG1 := Lib.hid hg1; have H1 := Lib.hid hl1; clear hg1 hl1
  go_wp2_with (first
    | (at_make; refine wpList_make_full _ rfl _ _ 38 rfl w1.heap.size 5 i0 _ 1 Tryz.underlying38 hi.out z0.out z1.out .i64 .i64 _ _ (256 * count) rfl rfl (by omega) (by omega) (by rw [z2.out]; omega) (by unfold maxLen; omega) (Nat.le_refl _) ?_; intro w2 hrow hg; have HROW := Lib.hid hrow; have HG := Lib.hid hg; clear hrow hg))
  have hs1 := HG1.out.size
  have hs2 := HG.out.size
  have hrow0 : Blk w2 w1.heap.size 5 (u8s (partly T a count 0)).toArray := by
    have hr := HROW.out
    have e : (madeCells (Value.int .u8 0).cells (256 * count * 1)).toList = u8s (partly T a count 0) := by
      rw [Nat.mul_one]
      have : (Value.int .u8 0).cells = #[.int .u8 0] := rfl
      rw [this, toList_madeCells_one, partly]
      simp [St.reads, u8s]
    rw [e] at hr
    rcases hr.2 with ⟨hv, _⟩ | ⟨g, cap, cur, hv, _, hh, _, _, hcs, hct⟩
    · cases hv
    · simp only [Value.slice.injEq, Option.some.injEq, Addr.mk.injEq] at hv
      obtain ⟨⟨rfl, _⟩, _, rfl⟩ := hv
      rw [List.take_of_length_le (by simp; omega)] at hct
      have : cur = (u8s (partly T a count 0)).toArray := by rw [← hct]
      rw [← this]; exact hh
  have hl2 := H1.out.grown HG.out (fun _ e => by cases e)
  have HL2 := Lib.hid hl2
  have HROW0 := Lib.hid hrow0
  have HNOT := Lib.hid (show ¬ own w1.heap.size from fun e => by have := H1.out.lt _ e; omega)
  clear hrow0 hl2 HROW
  have hcnt : (256 : Nat) * count < 9223372036854775807 := by omega
  go_wp2_with fail
  go_loopw [9, 10, 22] (fun _ _ i wr => ∃ j : Nat, j ≤ count ∧ i = .int .i64 j ∧ w2.grownBy wr (some w1.heap.size) ∧ Blk wr w1.heap.size 5 (u8s (partly T a count j)).toArray) (fun _ _ i _ => count - (Go.RowKit.intOf i).toNat)
  case atStart => exact ⟨0, by omega, rfl, World.grownBy.refl _ _, HROW0.out⟩
  case round =>
    obtain ⟨j, hj, rfl, hgw, hbw⟩ := hrel
    have HGW := Lib.hid hgw; have HBW := Lib.hid hbw; clear hgw hbw
    by_cases hlt : j < count
    · have hlr := HL2.out.grown HGW.out (fun q e => by cases e; exact HNOT.out)
      have hsec := T.now_sec hlr.ok (a + j)
      have hwj : IntKind.i64.wrap ((a : Int) + (j : Int)) = (a : Int) + (j : Int) := IntWalk.i64_in _ (by omega)
      have hwj2 : IntKind.i64.wrap ((j : Int) * 256) = (j : Int) * 256 := IntWalk.i64_in _ (by omega)
      have HNOW := Lib.hid (disk_now hlr (a + j) (by rw [HTN.out]; omega))
      have HI := Lib.hid (show (Tryz.prog.info? 119).map (·.size) = some (u8s (T.now (a + j))).length by rw [u8s_length, hsec.1]; exact infoS)
      have hz := zeroS
      have hsz : (Array.replicate 256 (Value.int .u8 0)).size = 256 := by simp
      generalize hzz : Array.replicate 256 (Value.int .u8 0) = zs at *
      clear hzz
      have HS := Lib.hid (show zs.size = (u8s (T.now (a + j))).toArray.size by rw [hsz, List.size_toArray, u8s_length, hsec.1])
      have HO := Lib.hid (u8s_oneA (T.now (a + j)))
      have HLN := Lib.hid (show (u8s (T.now (a + j))).length = 256 by rw [u8s_length, hsec.1])
      clear hlr hsec hsz
      generalize hx : u8s (T.now (a + j)) = x at *
      have HX := Lib.hid hx; clear hx
      have EA := Lib.hid (show (a : Int) + (j : Int) = ((a + j : Nat) : Int) by omega)
      go_wp2_with fail
      rw [EA.out]
      refine HNOW.out.mono ?_
      rintro e w3 ⟨rfl, hg3⟩
      have HG3 := Lib.hid hg3; clear hg3
      go_wp2_with (first
        | refine wpList_store_fresh rfl rfl 119 (Operand.tmp 10) (Operand.tmp 29) rfl zs x.toArray rfl rfl HI.out HS.out HO.out ?_)
      have hbW := ((HBW.out.grown HG3.out (by simp)).alloc (.cells x.toArray 119)).drew
      have hbN := (Blk.new w3 119 x.toArray).drew
      have hpl := partly_length HL2.out.ok a count j hj
      have hcp := run_copy_row (P := Tryz.prog) (w3.alloc (.cells x.toArray 119)).drew 38 38 3 5 w1.heap.size (j * 256) (256 * count - j * 256) (256 * count - j * 256) ⟨w3.heap.size, 0, none⟩ 256 256
        (u8s (partly T a count j)).toArray 5 x Tryz.underlying38 (by kernel_rfl) hbW (by rw [HLN.out]; exact (Nat.min_eq_left (by omega)).symm)
        (fun q v hv => by
          have e1 : (⟨w3.heap.size, 0, none⟩ : Addr).add q = ⟨w3.heap.size, q, none⟩ := by unfold Addr.add; split <;> simp_all
          rw [e1, hbN.cell]
          simpa using hv) (by rw [HLN.out, List.size_toArray, u8s_length, hpl]; omega) (by rw [← HX.out]; exact u8s_one _)
      have hst := partly_step HL2.out.ok a count j hlt
      rw [HX.out] at hst
      rw [HLN.out, List.append_assoc, hst] at hcp
      have HBK := Lib.hid (blk_setRow hbW (u8s (partly T a count (j + 1))).toArray)
      have HGK := Lib.hid (grown_setRow' ((((HGW.out.trans (grown_any HG3.out (some w1.heap.size))).trans (World.grownBy_alloc w3 (.cells x.toArray 119) _))).trans (grown_drew _ _)) (u8s (partly T a count (j + 1))).toArray)
      have hne : ¬ (256 * count = j * 256) := by omega
      have hle : (j : Int) * 256 ≤ 256 * (count : Int) := by omega
      have hnn : (0 : Int) ≤ (j : Int) * 256 := by omega
      have htn : ((j : Int) * 256).toNat = j * 256 := by omega
      clear hbW hbN hpl hst
      generalize hcs : (u8s (partly T a count (j + 1))).toArray = cs at *
      have HCS := Lib.hid hcs; clear hcs
      generalize hW : (w3.alloc (.cells x.toArray 119)) = W at *
      go_region
      go_wp2_with fail
      go_roundw
      case rel => exact ⟨j + 1, by omega, by go_num, HGK.out, by rw [HCS.out]; exact HBK.out⟩
      case measure => simp [Go.RowKit.intOf]; omega
    · obtain rfl : j = count := by omega
      go_wp2
      go_ret2
      have hbe := HBW.out
      rw [partly_all, HTR.out] at hbe
      exact ⟨_, _, rfl, hs1, hbe, HL2.out.grown HGW.out (fun q e => by cases e; exact HNOT.out), ((Turn.of_grown HG1.out (fun q e => by cases e; exact HOB.out)).trans (Turn.none_ HG.out)).new_ HGW.out hs1, rfl⟩
theorem disk_read_ok {w : World} {B b bd bm : Nat} {S : St} {f : Nat → Option Value} {own : Nat → Prop} (h : Lay w B b bd bm f S own) (a count : Nat) (h1 : 1 ≤ count) (h2 : a + count ≤ S.n) (hf : S.f1 ≠ 1) :
    Calls Tryz.prog 106 #[.pointer (some ⟨b, 0, none⟩), .int .i64 (a : Nat), .int .i64 (count : Nat)] w fun e w' => ∃ g cap, e = .returned (.tuple #[.slice (some ⟨g, 0, none⟩) (256 * count) cap, .int .i64 0]) ∧
      w.heap.size ≤ g ∧ Blk w' g 5 (u8s (S.reads a count)).toArray ∧ Lay w' B b bd bm f { S with f1 := S.f1 - 1 } own ∧ Turn w w' own own :=
  (disk_read_okc h a count h1 h2 hf).mono fun _ _ ⟨g, cap, k1, k2, k3, k4, k5, _⟩ => ⟨g, cap, k1, k2, k3, k4, k5⟩

set_option maxHeartbeats 800000 in
theorem disk_read_no {w : World} {B b bd bm : Nat} {S : St} {f : Nat → Option Value} {own : Nat → Prop} (h : Lay w B b bd bm f S own) (a count : Int)
    (h1 : -9223372036854775808 ≤ a ∧ a ≤ 9223372036854775807) (h2 : -9223372036854775808 ≤ count ∧ count ≤ 9223372036854775807) (hn : S.has a count = false) :
    Calls Tryz.prog 106 #[.pointer (some ⟨b, 0, none⟩), .int .i64 a, .int .i64 count] w fun e w' => e = .returned (.tuple #[.slice none 0 0, .int .i64 2]) ∧ w = w' := by
  have HH := Lib.hid (disk_has h a count h1 h2)
  rw [hn] at HH
  clear h hn
  go_enter Tryz.func106, Tryz.ntmps106
  go_wp2_with fail
  refine HH.out.mono ?_
  rintro e w' ⟨rfl, rfl⟩
  go_wp2
  go_ret2
  exact ⟨rfl, rfl⟩

set_option maxHeartbeats 800000 in
theorem disk_read_fail {w : World} {B b bd bm : Nat} {S : St} {f : Nat → Option Value} {own : Nat → Prop} (h : Lay w B b bd bm f S own) (a count : Int)
    (h1 : -9223372036854775808 ≤ a ∧ a ≤ 9223372036854775807) (h2 : -9223372036854775808 ≤ count ∧ count ≤ 9223372036854775807) (hy : S.has a count = true) (hf : S.f1 = 1) :
    Calls Tryz.prog 106 #[.pointer (some ⟨b, 0, none⟩), .int .i64 a, .int .i64 count] w fun e w' => e = .returned (.tuple #[.slice none 0 0, .int .i64 10]) ∧ Lay w' B b bd bm f { S with f1 := S.f1 - 1 } own ∧ Turn w w' own own := by
  have HH := Lib.hid (disk_has h a count h1 h2)
  rw [hy] at HH
  have HD := Lib.hid (disk_due1 h)
  have HF := Lib.hid (show decide (S.f1 = 1) = true by simp [hf])
  rw [HF.out] at HD
  have HOB := Lib.hid h.ownB
  clear h hy hf HF
  generalize ({ S with f1 := S.f1 - 1 } : St) = T at *
  go_enter Tryz.func106, Tryz.ntmps106
  go_wp2_with fail
  refine HH.out.mono ?_
  rintro e w' ⟨rfl, rfl⟩
  go_wp2_with fail
  refine HD.out.mono ?_
  rintro e w1 ⟨rfl, hg1, hl1⟩
  have HG1 := Lib.hid hg1; have H1 := Lib.hid hl1; clear hg1 hl1
  go_wp2
  go_ret2
  exact ⟨rfl, H1.out, Turn.of_grown HG1.out (fun q e => by cases e; exact HOB.out)⟩
end Go.Proofs.YteaokeiolgjhaaaGreat.Dsk
/- Sectors are not written. -/
namespace Go.Proofs.YteaokeiolgjhaaaGreat.Dsk
open Go.RowKit Mem Crc DiskSpec

set_option maxHeartbeats 800000 in
theorem disk_write_arg (p : Value) (a : Int) (A : Option Addr) (n c : Nat) (fua : Bool) (w : World) (hn : n ≤ 9223372036854775807) (hb : n = 0 ∨ n % 256 ≠ 0) :
    Calls Tryz.prog 43 #[p, .int .i64 a, .slice A n c, .bool fua] w fun e w' => e = .returned (.int .i64 1) ∧ w = w' := by
  by_cases h0 : n = 0
  · subst h0
    clear hb
    go_enter Tryz.func43, Tryz.ntmps43
    go_wp2
    go_ret
    exact ⟨rfl, rfl⟩
  · have h1 : n % 256 ≠ 0 := by rcases hb with h | h; exact absurd h h0; exact h
    have hm3 : ((n : Int) == 0) = false := by simp; omega
    have hm4 : ((n : Int).tmod 256 != 0) = true := by rw [Int.tmod_eq_emod_of_nonneg (by omega)]; simp; omega
    have hw4 : IntKind.i64.wrap ((n : Int).tmod 256) = (n : Int).tmod 256 := IntWalk.i64_in _ (by rw [Int.tmod_eq_emod_of_nonneg (by omega)]; omega)
    generalize (n : Int).tmod 256 = m at *
    clear hb
    go_enter Tryz.func43, Tryz.ntmps43
    go_wp2
    go_ret
    exact ⟨rfl, rfl⟩

set_option maxHeartbeats 800000 in
theorem disk_write_range {w : World} {B b bd bm : Nat} {S : St} {f : Nat → Option Value} {own : Nat → Prop} (h : Lay w B b bd bm f S own) (a : Int) (A : Option Addr) (count c : Nat) (fua : Bool)
    (ha : -9223372036854775808 ≤ a ∧ a ≤ 9223372036854775807) (h1 : 1 ≤ count) (h2 : count ≤ 36028797018963967) (hn : S.has a count = false) :
    Calls Tryz.prog 43 #[.pointer (some ⟨b, 0, none⟩), .int .i64 a, .slice A (count * 256) c, .bool fua] w fun e w' => e = .returned (.int .i64 2) ∧ w = w' := by
  have HH := Lib.hid (disk_has h a (count : Int) ha (by omega))
  rw [hn] at HH
  clear h hn
  have hm1 : ((count * 256 : Nat) : Int) % 256 = 0 := by omega
  have hm2 : ((count * 256 : Nat) : Int) / 256 = (count : Int) := by omega
  have hm3 : (((count * 256 : Nat) : Int) == 0) = false := by simp; omega
  have hbig : count * 256 ≤ 9223372036854775807 := by omega
  generalize count * 256 = n at *
  have hm4 : (n : Int).tmod 256 = 0 := by rw [Int.tmod_eq_emod_of_nonneg (by omega)]; exact hm1
  have hm5 : (n : Int).tdiv 256 = (count : Int) := by rw [Int.tdiv_eq_ediv_of_nonneg (by omega)]; exact hm2
  have hw5 : IntKind.i64.wrap (count : Int) = (count : Int) := IntWalk.i64_in _ (by omega)
  go_enter Tryz.func43, Tryz.ntmps43
  go_wp2_with fail
  refine HH.out.mono ?_
  rintro e w' ⟨rfl, rfl⟩
  go_wp2
  go_ret
  exact ⟨rfl, rfl⟩

set_option maxHeartbeats 800000 in
theorem disk_write_stop {w : World} {B b bd bm : Nat} {S : St} {f : Nat → Option Value} {own : Nat → Prop} (h : Lay w B b bd bm f S own) (a : Int) (A : Option Addr) (count c : Nat) (fua : Bool)
    (ha : -9223372036854775808 ≤ a ∧ a ≤ 9223372036854775807) (h1 : 1 ≤ count) (h2 : count ≤ 36028797018963967) (hn : S.has a count = true) (hs : S.f2 = 1 ∨ S.left = 0) :
    Calls Tryz.prog 43 #[.pointer (some ⟨b, 0, none⟩), .int .i64 a, .slice A (count * 256) c, .bool fua] w fun e w' => e = .returned (.int .i64 11) ∧ Lay w' B b bd bm f { S with f2 := S.f2 - 1 } own ∧ Turn w w' own own := by
  have HH := Lib.hid (disk_has h a (count : Int) ha (by omega))
  rw [hn] at HH
  have HD := Lib.hid (disk_stops2 h)
  rw [show (decide (S.f2 = 1) || decide (S.left = 0)) = true by simp; exact hs] at HD
  have HOB := Lib.hid h.ownB
  clear h hn hs
  generalize ({ S with f2 := S.f2 - 1 } : St) = T at *
  have hm1 : ((count * 256 : Nat) : Int) % 256 = 0 := by omega
  have hm2 : ((count * 256 : Nat) : Int) / 256 = (count : Int) := by omega
  have hm3 : (((count * 256 : Nat) : Int) == 0) = false := by simp; omega
  have hbig : count * 256 ≤ 9223372036854775807 := by omega
  generalize count * 256 = n at *
  have hm4 : (n : Int).tmod 256 = 0 := by rw [Int.tmod_eq_emod_of_nonneg (by omega)]; exact hm1
  have hm5 : (n : Int).tdiv 256 = (count : Int) := by rw [Int.tdiv_eq_ediv_of_nonneg (by omega)]; exact hm2
  have hw5 : IntKind.i64.wrap (count : Int) = (count : Int) := IntWalk.i64_in _ (by omega)
  go_enter Tryz.func43, Tryz.ntmps43
  go_wp2_with fail
  refine HH.out.mono ?_
  rintro e w' ⟨rfl, rfl⟩
  go_wp2_with fail
  refine HD.out.mono ?_
  rintro e w1 ⟨rfl, hg1, hl1⟩
  have HG1 := Lib.hid hg1; have H1 := Lib.hid hl1; clear hg1 hl1
  go_wp2
  go_ret
  exact ⟨rfl, H1.out, Turn.of_grown HG1.out (fun q e => by cases e; exact HOB.out)⟩
end Go.Proofs.YteaokeiolgjhaaaGreat.Dsk
