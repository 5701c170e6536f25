/- Texts of this seat's proofs: SupHoldBits, SuperHoldsWalk. -/
import Derived.Test.YtagikgejhckfbaaMSupKnown
import Derived.Test.YtagikgejhckfbaaMOpenOps
import Derived.Test.YtagikgejhckfbaaMFrameSum
import Derived.Test.YtagikgejhckfbaaMOpen
import Derived.SizedLaws
import Derived.WalkLawsBesides
import Derived.Deep.RegionLaw
import Derived.Deep.DeepCutAuto
/- Superblocks in a row of the law's own; small steps of the law SuperHolds. -/
namespace Go.Proofs.Ytagikgejhckfbaa.Sup
open Go.RowKit CrcMath CodecMath Mem Crc Codec DiskSpec Dsk
theorem Kn.far {w wx w' : World} {B b tb g : Nat} {S : St} {own : Nat → Prop} (h : Kn w wx B b tb S own) (hg : wx.grownBy w' (some g)) (hge : w.heap.size ≤ g) (ho : ¬ With own tb g) : Kn w w' B b tb S own :=
  ⟨h.s.far hg (fun h1 => ho (.inl h1)) (fun e => ho (.inr e.symm)), grownBy_new h.g hg (fun j hj => by cases hj; exact hge), h.t, h.b⟩
theorem Kn.low' {w wx : World} {B b tb : Nat} {S : St} {own : Nat → Prop} (h : Kn w wx B b tb S own) : ∀ i, own i → w.heap.size ≤ i := fun _ hi => Nat.le_trans h.b (h.s.low hi)
theorem Kn.below' {w wx : World} {B b tb : Nat} {S : St} {own : Nat → Prop} (h : Kn w wx B b tb S own) : Below w.heap.size w wx := below_of_grown h.g (Nat.le_refl _) (fun _ e => by cases e)
def cellsL (L : List (List Int)) : List Value := L.flatMap fun s => s.map fun n => Value.int .i64 n
theorem cellsL_snoc (L : List (List Int)) (s : List Int) : cellsL (L ++ [s]) = cellsL L ++ s.map fun n => Value.int .i64 n := by simp [cellsL]
theorem cellsL_at : ∀ (L : List (List Int)) (_ : ∀ s ∈ L, s.length = 7) (m : Nat) (s : List Int), L[m]? = some s → ∀ q, q < 7 → (cellsL L)[m * 7 + q]? = some (.int .i64 (s.getD q 0)) := by
  intro L
  induction L with
  | nil => intro _ m s h; simp at h
  | cons a L ih =>
    intro h7 m s hs q hq
    have ha : (a.map fun n => Value.int .i64 n).length = 7 := by rw [List.length_map]; exact h7 a (List.mem_cons_self ..)
    have e : cellsL (a :: L) = (a.map fun n => Value.int .i64 n) ++ cellsL L := rfl
    rw [e]
    cases m with
    | zero =>
      simp at hs
      subst hs
      rw [Nat.zero_mul, Nat.zero_add, List.getElem?_append_left (by omega), List.getElem?_map]
      have := h7 a (List.mem_cons_self ..)
      rw [List.getD_eq_getElem?_getD, List.getElem?_eq_getElem (by omega)]
      rfl
    | succ m =>
      simp at hs
      rw [List.getElem?_append_right (by omega), ha, show (m + 1) * 7 + q - 7 = m * 7 + q from by omega]
      exact ih (fun s hs => h7 s (List.mem_cons_of_mem _ hs)) m s hs q hq
theorem super_info : (Try.prog.info? 23).map (fun i => (i.zero, i.size, i.bytes)) = some (some (.agg #[.int .i64 0, .int .i64 0, .int .i64 0, .int .i64 0, .int .i64 0, .int .i64 0, .int .i64 0]), 7, 56) := by kernel_rfl
theorem reads_one_sup (w : World) (a0 a1 a2 a3 a4 a5 a6 : Value) : Reads (w.alloc (.cells #[a0, a1, a2, a3, a4, a5, a6] 23)) (w.heap.size + 1) 7 (some ⟨w.heap.size, 0, none⟩) 1 [a0, a1, a2, a3, a4, a5, a6] := by
  refine ⟨rfl, fun _ => ⟨_, rfl, by simp, fun j u hu => ?_⟩⟩
  have hb := (Blk.new w 23 #[a0, a1, a2, a3, a4, a5, a6]).cell j
  have e1 : (⟨w.heap.size, 0, none⟩ : Addr).add j = ⟨w.heap.size, j, none⟩ := by unfold Addr.add; split <;> simp_all
  rw [e1, hb]
  simpa using hu
/-- What was saved, as the law keeps it: the cells of block g. -/
def SC (w : World) (g : Nat) (L : List (List Int)) : Prop := g < w.heap.size ∧ ∀ j u, (cellsL L)[j]? = some u → w.cell? ⟨g, j, none⟩ = some u
theorem SC.keep {w w' : World} {g : Nat} {L : List (List Int)} (h : SC w g L) (hs : w.heap.size ≤ w'.heap.size) (e : w'.heap[g]? = w.heap[g]?) : SC w' g L :=
  ⟨Nat.lt_of_lt_of_le h.1 hs, fun j u hu => by rw [World.cell?_of_block (a := ⟨g, j, none⟩) e]; exact h.2 j u hu⟩
theorem SC.quiet {w w' : World} {g : Nat} {L : List (List Int)} (h : SC w g L) (hg : w.grownBy w' none) : SC w' g L := h.keep hg.size (hg.block g h.1 (by simp))
theorem SC.with_ {w w' : World} {g tb : Nat} {L : List (List Int)} {own own' : Nat → Prop} (h : SC w g L) (ho : ¬ With own tb g) (ht : Turn w w' (With own tb) (With own' tb)) : SC w' g L ∧ ¬ With own' tb g :=
  ⟨h.keep ht.size (ht.block g h.1 ho), fun h1 => by
    rcases ht.fresh g h1 with h2 | h2
    · exact ho h2
    · have := h.1; omega⟩
theorem SC.at_ {w : World} {g m : Nat} {L : List (List Int)} (h : SC w g L) (h7 : ∀ s ∈ L, s.length = 7) {p0 p1 p2 p3 p4 p5 p6 : Int} (hs : L[m]? = some [p0, p1, p2, p3, p4, p5, p6]) :
    w.cell? ⟨g, m * 7, none⟩ = some (.int .i64 p0) ∧ w.cell? ⟨g, m * 7 + 1, none⟩ = some (.int .i64 p1) ∧ w.cell? ⟨g, m * 7 + 2, none⟩ = some (.int .i64 p2) ∧ w.cell? ⟨g, m * 7 + 3, none⟩ = some (.int .i64 p3) ∧
    w.cell? ⟨g, m * 7 + 4, none⟩ = some (.int .i64 p4) ∧ w.cell? ⟨g, m * 7 + 5, none⟩ = some (.int .i64 p5) ∧ w.cell? ⟨g, m * 7 + 6, none⟩ = some (.int .i64 p6) :=
  ⟨h.2 _ _ (cellsL_at L h7 m _ hs 0 (by omega)), h.2 _ _ (cellsL_at L h7 m _ hs 1 (by omega)), h.2 _ _ (cellsL_at L h7 m _ hs 2 (by omega)), h.2 _ _ (cellsL_at L h7 m _ hs 3 (by omega)), h.2 _ _ (cellsL_at L h7 m _ hs 4 (by omega)), h.2 _ _ (cellsL_at L h7 m _ hs 5 (by omega)), h.2 _ _ (cellsL_at L h7 m _ hs 6 (by omega))⟩
theorem Hist.seven {n : Nat} {dur : Nat → List Nat} {g : Int} {L : List (List Int)} (h : Hist n dur g L) : ∀ s ∈ L, s.length = 7 := by
  intro s hs
  obtain ⟨i, hi, rfl⟩ := List.getElem_of_mem hs
  exact (h.each i _ (List.getElem?_eq_getElem hi)).1
/-- Where the law stands in its rounds. -/
structure Hold (W wr : World) (B b tb : Nat) (g : Int) (sv : Value) (dur : Nat → List Nat) (own : Nat → Prop) (L : List (List Int)) : Prop where
  k : Kn W wr B b tb (plain 4096 dur) own
  h : Hist 4096 dur g L
  r : Own wr W.heap.size 23 7 sv L.length (cellsL L)
  o : ∀ q, sv.ownBlock = some q → ¬ With own tb q
theorem Hold.quiet {W wr w' : World} {B b tb : Nat} {g : Int} {sv : Value} {dur : Nat → List Nat} {own : Nat → Prop} {L : List (List Int)} (h : Hold W wr B b tb g sv dur own L) (hg : wr.grownBy w' none) : Hold W w' B b tb g sv dur own L :=
  ⟨h.k.quiet hg, h.h, h.r.keep hg (fun _ _ => by simp), h.o⟩
theorem Hold.turn {W wr w' : World} {B b tb : Nat} {g : Int} {sv : Value} {dur : Nat → List Nat} {own own' : Nat → Prop} {L : List (List Int)} (h : Hold W wr B b tb g sv dur own L) {dur' : Nat → List Nat}
    (hs : SAt w' B b tb (plain 4096 dur') own') (ht : Turn wr w' (With own tb) (With own' tb)) : Kn W w' B b tb (plain 4096 dur') own' ∧ Own w' W.heap.size 23 7 sv L.length (cellsL L) ∧ (∀ q, sv.ownBlock = some q → ¬ With own' tb q) :=
  ⟨h.k.turn hs ht, own_of_block h.r (fun q hq => ht.block q (h.r.base_ q hq).2 (h.o q hq)), fun q hq h1 => by
    rcases ht.fresh q h1 with h2 | h2
    · exact h.o q hq h2
    · have := (h.r.base_ q hq).2; omega⟩
/-- A read of one sector of a plain disk. -/
theorem read_plain {w : World} {B b tb n : Nat} {dur : Nat → List Nat} {own : Nat → Prop} (h : SAt w B b tb (plain n dur) own) (h2 : 2 ≤ n) (a : Nat) (ha : a < 2) (hl : (dur a).length = 256) :
    Calls Try.prog 14 #[.pointer (some ⟨b, 0, none⟩), .int .i64 (a : Nat), .int .i64 1] w fun e w' => ∃ g, e = .returned (.tuple #[.slice (some ⟨g, 0, none⟩) 256 256, .int .i64 0]) ∧ w.heap.size ≤ g ∧ Row w' g 256 (dur a) ∧ SAt w' B b tb (plain n dur) own ∧ Turn w w' (With own tb) (With own tb) := by
  obtain ⟨bd, bm, f, hd⟩ := h.d
  refine (disk_read_okc hd a 1 (by omega) (by show a + 1 ≤ n; omega) (by simp [plain])).mono ?_
  rintro e w' ⟨g, cap, rfl, h3, h4, h5, h6, rfl⟩
  refine ⟨g, rfl, h3, ⟨_, h4, by show ([] ++ dur a).length = 256; simpa using hl, fun j hj => ?_⟩, h.disk ⟨bd, bm, f, h5⟩ h6, turn_with h6 tb⟩
  have e : St.reads (plain n dur) a 1 = dur a := by show [] ++ dur (a + 0) = dur a; simp
  rw [e, List.getElem?_toArray]
  exact u8s_at _ j (by omega)
/-- A sector is written with FUA on a plain disk. -/
theorem write_plain {w : World} {B b tb n : Nat} {dur : Nat → List Nat} {own : Nat → Prop} (h : SAt w B b tb (plain n dur) own) (a : Nat) (ha : a < n) (hn : n ≤ 4096) {g : Nat} {y : List Nat} (hr : Row w g 256 y) (hy : ∀ x ∈ y, x < 256) (ho : ¬ With own tb g) (cap : Nat) (hc : 256 ≤ cap) :
    Calls Try.prog 15 #[.pointer (some ⟨b, 0, none⟩), .int .i64 (a : Nat), .slice (some ⟨g, 0, none⟩) 256 cap, .bool true] w fun e w' => e = .returned (.int .i64 0) ∧ ∃ own', SAt w' B b tb (plain n (upd dur a y)) own' ∧ Turn w w' (With own tb) (With own' tb) := by
  have hly : y.length = 256 := by obtain ⟨_, _, h, _⟩ := hr; exact h
  have hlt : g < w.heap.size := by obtain ⟨_, h, _⟩ := hr; exact h.lt
  have hd : Dsk.Data w own (some ⟨g, 0, none⟩) 256 y := ⟨hly, hy, fun _ => ⟨g, 0, rfl, hlt, fun h1 => ho (.inl h1), fun j hj => by rw [Nat.zero_add]; exact hr.cell j hj⟩⟩
  refine (disk_write_all h.d (a : Nat) _ 256 cap y true (by omega) hd hc (by omega) (fun i => by show ([] : List (List Nat)).length < _; simp) h.s).mono ?_
  rintro e w' ⟨rfl, own', h1, h2⟩
  rw [plain_write a ha hly] at h1 ⊢
  exact ⟨rfl, own', h.disk h1 h2, turn_with h2 tb⟩
theorem crash_plain {w : World} {B b tb n : Nat} {dur : Nat → List Nat} {own : Nat → Prop} (h : SAt w B b tb (plain n dur) own) (A : Option Addr) (m cc : Nat) (picks : List Int) (hp : Picks w own A m picks) (hnm : m ≤ 9223372036854775807) :
    Calls Try.prog 12 #[.pointer (some ⟨b, 0, none⟩), .slice A m cc] w fun e w' => e = .returned (.tuple #[]) ∧ SAt w' B b tb (plain n dur) own ∧ Turn w w' (With own tb) (With own tb) := by
  refine (disk_crash_all h.d A m cc picks hp hnm (fun i => by show ([] : List (List Nat)).length < _; simp)).mono ?_
  rintro e w' ⟨rfl, h1, h2⟩
  rw [show (plain n dur).crash picks = plain n dur from plain_crash n dur 0 0 0 (-1) picks] at h1
  exact ⟨rfl, h.disk h1 h2, turn_with h2 tb⟩
theorem flip_byte {y m : Nat} (hy : y < 256) (hm : m < 256) : bits BinOp.xor IntKind.u8 (y : Int) (m : Int) = ((y ^^^ m : Nat) : Int) := u8_xor_nat _ _ hy hm
end Go.Proofs.Ytagikgejhckfbaa.Sup
/- The walk over the law SuperHolds. -/
namespace Go.Proofs.Ytagikgejhckfbaa.SuperHolds
open Go.ChangeShapes Go.WideShapes Go.ChangeAt Go.RowKit
open Crc CrcMath Mem CodecMath Codec DiskSpec Dsk Sup
set_option maxRecDepth 100000 in
set_option maxHeartbeats 6400000 in
theorem walk {H : Type} {enc : TypeId × Value → H} (W : World) (base : Nat) (v0 v1 v2 v3 v4 : Value) (d0 d1 d2 d3 d4 : DataW H) (p0 p1 p2 p3 p4 : List MemPlace)
    (o0 : Value.okWide Try.prog W .any base 28 v0)
    (o1 : Value.okWide Try.prog W .any base 3 v1)
    (o2 : Value.okWide Try.prog W .any base 29 v2)
    (o3 : Value.okWide Try.prog W .any base 3 v3)
    (o4 : Value.okWide Try.prog W .any base 3 v4)
    (h0 : DataW.Trod enc Try.prog W 0 (fun _ => true) true 28 v0 d0 p0)
    (h1 : DataW.Trod enc Try.prog W 0 (fun _ => true) true 3 v1 d1 p1)
    (h2 : DataW.Trod enc Try.prog W 0 (fun _ => true) true 29 v2 d2 p2)
    (h3 : DataW.Trod enc Try.prog W 0 (fun _ => true) true 3 v3 d3 p3)
    (h4 : DataW.Trod enc Try.prog W 0 (fun _ => true) true 3 v4 d4 p4)
    (hsz : (DataW.weightsEach Try.prog [28, 3, 29, 3, 3] [d0, d1, d2, d3, d4]).all (· ≤ reachBytes) = true) :
    Calls Try.prog 4 #[v0, v1, v2, v3, v4] W fun e W' => e = .returned (.bool true) ∧ Below W.heap.size W W' := by
  obtain ⟨A, n, c, rfl, hsu, hnc, hcm, hd0⟩ := open_supers o0 h0
  have hnr : n * 56 ≤ 140737488351232 := by
    rcases hd0 with rfl | ⟨el, sp, rfl, rfl⟩
    · omega
    · have := sized_slice (j := 0) hsz rfl rfl Try.underlying28
      rw [show Try.prog.bytesOf 23 = 56 from by kernel_rfl] at this
      simp only [reachBytes] at this
      have h2 : el.length * 56 ≤ (el.length + sp.length) * 56 := Nat.mul_le_mul_right 56 (by omega)
      omega
  obtain ⟨fm, rfl, _, _, _⟩ := open_int Try.underlying3 o1 h1
  obtain ⟨A2, n2, c2, picks, rfl, hpi, hnc2, hcm2⟩ := open_picks o2 h2
  obtain ⟨aa, rfl, _, _, _⟩ := open_int Try.underlying3 o3 h3
  obtain ⟨ch, rfl, _, _, _⟩ := open_int Try.underlying3 o4 h4
  have HSU := Lib.hid hsu; have HPI := Lib.hid hpi
  have hn2 : n2 ≤ 9223372036854775807 := by unfold maxLen at hcm2; omega
  obtain ⟨i0, hi0, hz0, hz1, hz2⟩ := info_parts super_info
  have hi := Lib.hid hi0; have z0 := Lib.hid hz0; have z1 := Lib.hid hz1; have z2 := Lib.hid hz2
  clear o0 h0 o1 h1 o2 h2 o3 h3 o4 h4 hsz hsu hpi hnc2 hcm2 hnc hcm hd0 hi0 hz0 hz1 hz2
  have hT : Tab (W.alloc (.cells zeroCs 62)) W.heap.size := .inl ⟨_, Blk.new W 62 zeroCs, fresh_zero⟩
  have HT := Lib.hid hT; have HG0 := Lib.hid (World.grownBy_alloc W (.cells zeroCs 62) none)
  clear hT
  go_enter Try.func4, Try.ntmps4
  go_wp2_with fail
  refine (new_any _).mono ?_
  rintro e w1 ⟨rfl, rfl⟩
  have HN := Lib.hid (show Calls Try.prog 10 #[.int .i64 4096] (W.alloc (.cells zeroCs 62)) fun e w' => ∃ b bd bm f own, e = .returned (.tuple #[.pointer (some ⟨b, 0, none⟩), .int .i64 0]) ∧ Lay w' (W.alloc (.cells zeroCs 62)).heap.size b bd bm f (St.new 4096) own ∧ (W.alloc (.cells zeroCs 62)).grownBy w' none from disk_new 4096 _ (by omega) (by omega))
  go_wp2_with fail
  refine HN.out.mono ?_
  rintro e w2 ⟨b, bd, bm, f, own, rfl, hl, hg2⟩
  have HK2 := Lib.hid (show Kn W w2 (W.alloc (.cells zeroCs 62)).heap.size b W.heap.size (plain 4096 fun _ => DiskSpec.zeros) own from ⟨sat_new HT.out hl hg2, HG0.out.trans hg2, Nat.le_refl _, by simp⟩)
  clear hl hg2 HN HT HG0
  generalize (W.alloc (.cells zeroCs 62)).heap.size = B at *
  generalize htb : W.heap.size = tb at HK2 ⊢
  have HTB := Lib.hid htb
  clear htb
  go_wp2_with fail
  refine (known_any _).mono ?_
  rintro e w3 ⟨rfl, hg⟩
  have HK3 := Lib.hid (HK2.out.quiet hg)
  clear hg HK2
  go_upto_if 48 with fail
  go_cut [15] (fun s15 wx => ∃ g0 : Nat, g0 < 549755813888 ∧ s15 = .int .i64 g0 ∧ wx = w3)
  case first =>
    have ht1 := Int.tmod_lt_of_pos fm (show (0 : Int) < 549755813888 by omega)
    have ht2 := Int.lt_tmod_of_pos fm (show (0 : Int) < 549755813888 by omega)
    generalize fm.tmod 549755813888 = t at *
    by_cases ht : t < 0
    · have hw : IntKind.i64.wrap (-t) = -t := IntWalk.i64_in _ (by omega)
      go_wp2_with fail
      go_meet
      exact ⟨(-t).toNat, by omega, by rw [Int.toNat_of_nonneg (by omega)], rfl⟩
    · go_wp2_with fail
      go_meet
      exact ⟨t.toNat, by omega, by rw [Int.toNat_of_nonneg (by omega)], rfl⟩
  case rest =>
    obtain ⟨g0, hg0, rfl, rfl⟩ := hcut
    have HH3 := Lib.hid (show Hold W wc B b tb (g0 : Nat) (.slice none 0 0) (fun _ => DiskSpec.zeros) own [] from ⟨HK3.out, Hist.start 4096 (by omega), Own.nil _ _ _ _, fun q hq => by simp [Value.ownBlock] at hq⟩)
    clear HK3
    go_wp2_with fail
    go_loopw [14, 15, 16, 17] (fun sv gv i _ wr => ∃ (j : Nat) (dur : Nat → List Nat) (own' : Nat → Prop) (L : List (List Int)), j ≤ n ∧ L.length ≤ j ∧ g0 + L.length ≤ 1099511627777 ∧ i = .int .i64 j ∧ gv = .int .i64 (g0 + L.length : Nat) ∧ Hold W wr B b tb (g0 : Nat) sv dur own' L) (fun _ _ i _ _ => n - (Go.RowKit.intOf i).toNat)
    case atStart => exact ⟨0, _, _, [], Nat.zero_le _, Nat.zero_le _, by simp; omega, rfl, rfl, HH3.out⟩
    case round =>
      clear HH3
      obtain ⟨j, dur, own1, L, hj, hLj, hLg, rfl, rfl, hh⟩ := hrel
      obtain ⟨AS, cS, rfl, hkc, hcm, _⟩ := hh.r.shape
      have HH := Lib.hid hh
      clear hh
      by_cases hlt : j < n
      · obtain ⟨g, off, rfl, _, u0, u1, u2, u3, u4, u5, u6, e0, e1, e2, e3, e4, e5, e6⟩ := HSU.out.at_ HH.out.k.below' hlt
        have hjn : (j : Int) < (n : Int) := by omega
        have HGE := Lib.hid (show (g0 + L.length : Nat) = g0 + L.length from rfl)
        generalize hgg : g0 + L.length = gg at *
        have HGG := Lib.hid hgg
        clear hgg HGE
        have HB := Lib.hid (Blk.new wr 23 #[.int .i64 ((gg : Nat) : Int), .int .i64 u1, .int .i64 u2, .int .i64 u3, .int .i64 u4, .int .i64 u5, .int .i64 u6])
        have HOB := Lib.hid (HH.out.k.out (Nat.le_refl _))
        have HH1 := Lib.hid (HH.out.quiet (World.grownBy_alloc wr (.cells #[.int .i64 ((gg : Nat) : Int), .int .i64 u1, .int .i64 u2, .int .i64 u3, .int .i64 u4, .int .i64 u5, .int .i64 u6] 23) none))
        go_wp2_with fail
        refine (check_any (((gg : Nat) : Int)) (u1) (u2) (u3) (u4) (u5) (u6) 4096 _).mono ?_
        rintro e w4 ⟨rfl, hg⟩
        have hck : checkE [((gg : Nat) : Int), u1, u2, u3, u4, u5, u6] 4096 = if mayB [((gg : Nat) : Int), u1, u2, u3, u4, u5, u6] 4096 then 0 else 1 := rfl
        have hb4 := HB.out.grown hg (by simp)
        have HB4 := Lib.hid hb4; have HH4 := Lib.hid (HH1.out.quiet hg)
        have HOB4 := Lib.hid (show ¬ With own1 tb wr.heap.size from HOB.out)
        clear hg hb4 HB HH1 HOB e0 e1 e2 e3 e4 e5 e6
        cases hm : mayB [((gg : Nat) : Int), u1, u2, u3, u4, u5, u6] 4096 with
        | false =>
          rw [hm, if_neg (by simp)] at hck
          rw [hck]
          clear hck hm
          go_wp2_with fail
          go_roundw
          case rel => exact ⟨j + 1, dur, own1, L, by omega, by omega, by have := HGG.out; omega, by go_num, by rw [← HGG.out], HH4.out⟩
          case measure => simp [Go.RowKit.intOf]; omega
        | true =>
          rw [hm, if_pos rfl] at hck
          rw [hck]
          have hgb := may_gen (s := [((gg : Nat) : Int), u1, u2, u3, u4, u5, u6]) rfl hm
          have hgb' : gg ≤ 1099511627776 := by have h := hgb.2; simp [gen] at h; omega
          have HM := Lib.hid hm
          clear hck hm hgb
          have x0 := HB4.out.cell 0; have x1 := HB4.out.cell 1; have x2 := HB4.out.cell 2; have x3 := HB4.out.cell 3; have x4 := HB4.out.cell 4; have x5 := HB4.out.cell 5; have x6 := HB4.out.cell 6
          simp only [List.getElem?_toArray, List.getElem?_cons_zero, List.getElem?_cons_succ] at x0 x1 x2 x3 x4 x5 x6
          go_wp2_with fail
          refine (save_plain HH4.out.k.s (((gg : Nat) : Int)) (u1) (u2) (u3) (u4) (u5) (u6) HM.out).mono ?_
          rintro e w5 ⟨rfl, own5, hs, ht⟩
          obtain ⟨hb5, ho5⟩ := blk_with HB4.out HOB4.out ht
          obtain ⟨hk5, hr5, hq5⟩ := HH4.out.turn hs ht
          have hhist := HH4.out.h.save (s := [((gg : Nat) : Int), u1, u2, u3, u4, u5, u6]) rfl HM.out (by have := HGG.out; simp [gen]; omega)
          have HK5 := Lib.hid hk5; have HR5 := Lib.hid hr5; have HQ5 := Lib.hid hq5; have HHI := Lib.hid hhist; have HB5 := Lib.hid hb5
          clear hs ht hb5 ho5 hk5 hr5 hq5 hhist HB4 HOB4 HH4 x0 x1 x2 x3 x4 x5 x6
          have x0 := HB5.out.cell 0; have x1 := HB5.out.cell 1; have x2 := HB5.out.cell 2; have x3 := HB5.out.cell 3; have x4 := HB5.out.cell 4; have x5 := HB5.out.cell 5; have x6 := HB5.out.cell 6
          simp only [List.getElem?_toArray, List.getElem?_cons_zero, List.getElem?_cons_succ] at x0 x1 x2 x3 x4 x5 x6
          have hw1 : IntKind.i64.wrap ((gg : Int) + 1) = (gg : Int) + 1 := IntWalk.i64_in _ (by omega)
          go_wp2_with (at_builtin
                       refine wpList_append_own_full _ rfl (.tmp 71) (.tmp 73) _ rfl W.heap.size 23 i0 _ 7 56 Try.underlying28 hi.out z0.out z1.out z2.out rfl (by omega) _ L.length _ rfl (HR5.out.alloc _)
                         _ _ 1 1 _ rfl (reads_one_sup _ _ _ _ _ _ _ _) (fun u hu => by simp at hu; rcases hu with rfl | rfl | rfl | rfl | rfl | rfl | rfl <;> rfl) (by simp only [maxLen]; omega) (by omega) (by have := HK5.out.g.size; simp; omega) ?_
                       intro v' w' hown' hgr'
                       have HO' := Lib.hid hown'; have HG' := Lib.hid hgr'; clear hown' hgr')
          obtain ⟨A', cap', hv', hjc', hcm', _⟩ := HO'.out.shape
          have hkA := HK5.out.quiet (World.grownBy_alloc w5 (.cells #[.int .i64 ((gg : Nat) : Int), .int .i64 u1, .int .i64 u2, .int .i64 u3, .int .i64 u4, .int .i64 u5, .int .i64 u6] 23) none)
          have hold : Hold W w' B b tb (g0 : Nat) v' (upd dur (placeOf [((gg : Nat) : Int), u1, u2, u3, u4, u5, u6]) (frame (superB [((gg : Nat) : Int), u1, u2, u3, u4, u5, u6]))) own5 (L ++ [[((gg : Nat) : Int), u1, u2, u3, u4, u5, u6]]) := by
            refine ⟨?_, HHI.out, ?_, fun q hq => ?_⟩
            · have hg := HG'.out.1
              cases AS with
              | none => exact hkA.quiet hg
              | some ad =>
                have hq := HR5.out.base_ ad.block rfl
                exact hkA.far hg hq.1 (HQ5.out _ rfl)
            · rw [cellsL_snoc, List.length_append]
              exact HO'.out
            · rcases HG'.out.2 q hq with h1 | h1
              · exact HQ5.out q h1
              · exact fun h2 => hkA.out h1 h2
          have HHD := Lib.hid hold
          clear hold hkA HO' HG'
          subst hv'
          go_wp2_with fail
          go_roundw
          case rel => exact ⟨j + 1, _, own5, L ++ [[((gg : Nat) : Int), u1, u2, u3, u4, u5, u6]], by omega, by simp; omega, by have := HGG.out; simp; omega, by go_num, by rw [List.length_append, ← Nat.add_assoc, HGG.out]; first | go_num | rfl | (simp; done), HHD.out⟩
          case measure => simp [Go.RowKit.intOf]; omega
      · obtain rfl : j = n := by omega
        have HCR := Lib.hid (crash_plain HH.out.k.s A2 n2 c2 picks (HPI.out.picks HH.out.k.below' HH.out.k.low') hn2)
        go_wp2_with fail
        refine HCR.out.mono ?_
        rintro e w4 ⟨rfl, hs, ht⟩
        obtain ⟨hk4, hr4, hq4⟩ := HH.out.turn hs ht
        have HH4 := Lib.hid (show Hold W w4 B b tb (g0 : Nat) (.slice AS L.length cS) dur own1 L from ⟨hk4, HH.out.h, hr4, hq4⟩)
        have HLD := Lib.hid (fun wx (ow : Nat → Prop) (dd : Nat → List Nat) (h : SAt wx B b tb (plain 4096 dd) ow) => load_plain h (by omega))
        clear hs ht hk4 hr4 hq4 HCR HH hLg hLj hkc hcm hj hlt hnr
        have HLEN := Lib.hid (show L.length = L.length from rfl)
        have hbig : L.length ≤ 1125899906842624 := by
          rcases Nat.eq_zero_or_pos L.length with h0 | h0
          · omega
          · obtain ⟨q1, q2, q3⟩ := HH4.out.h.each (L.length - 1) _ (List.getElem?_eq_getElem (by omega))
            have := (may_gen q1 q2).2
            omega
        generalize hk : L.length = k at HH4 hbig ⊢
        have HKL := Lib.hid hk
        clear hk HLEN
        rcases Nat.eq_zero_or_pos k with hk0 | hk0
        · subst hk0
          have hld := HLD.out _ _ _ HH4.out.k.s
          rw [HH4.out.h.none_ HKL.out] at hld
          have HL := Lib.hid hld
          clear hld HLD hbig
          go_wp2_with fail
          refine HL.out.mono ?_
          rintro e w5 ⟨rfl, hs, ht⟩
          rw [show supV ((none : Option (List Int)).getD zero7') = .agg #[.int .i64 0, .int .i64 0, .int .i64 0, .int .i64 0, .int .i64 0, .int .i64 0, .int .i64 0] from rfl, show (if (none : Option (List Int)).isSome then (0 : Int) else 14) = 14 from rfl]
          have HK5 := Lib.hid ((HH4.out.k.turn hs ht).quiet (World.grownBy_alloc w5 (.cells #[.int .i64 0, .int .i64 0, .int .i64 0, .int .i64 0, .int .i64 0, .int .i64 0, .int .i64 0] 23) none))
          clear hs ht HL HH4
          go_wp2
          go_ret
          exact ⟨rfl, HK5.out.below'⟩
        · obtain ⟨m, hkm⟩ : ∃ m, k = m + 1 := ⟨k - 1, by omega⟩
          have hmlt : m < L.length := by have := HKL.out; omega
          obtain ⟨q1, q2, q3⟩ := HH4.out.h.each m _ (List.getElem?_eq_getElem hmlt)
          obtain ⟨p0, p1, p2, p3, p4, p5, p6, hp7⟩ := list7 q1
          rw [hp7] at q2 q3
          have hlm : L[m]? = some [p0, p1, p2, p3, p4, p5, p6] := by rw [List.getElem?_eq_getElem hmlt, hp7]
          have hlast : L[L.length - 1]? = some [p0, p1, p2, p3, p4, p5, p6] := by rw [show L.length - 1 = m from by have := HKL.out; omega]; exact hlm
          have hgen := may_gen (s := [p0, p1, p2, p3, p4, p5, p6]) rfl q2
          obtain ⟨hpl, hpl2⟩ := place_is hgen.1
          have hpl' : p0.tmod 2 = (placeOf [p0, p1, p2, p3, p4, p5, p6] : Nat) := hpl
          have hF := HH4.out.h.h1 _ hlast
          have hW := superW_may q2
          have hld := HLD.out _ _ _ HH4.out.k.s
          rw [HH4.out.h.last hlast] at hld
          have HL := Lib.hid hld
          have hFl := superW_len (s := [p0, p1, p2, p3, p4, p5, p6]) rfl hW
          have hFb : ∀ x ∈ frame (superB [p0, p1, p2, p3, p4, p5, p6]), x < 256 := frame_lt _ (superB_lt [p0, p1, p2, p3, p4, p5, p6])
          have HSP := Lib.hid (fun (q mm : Nat) (hq : q < 256) (hm : mm < 256) (h0 : mm ≠ 0) => HH4.out.h.spoilt hlast (byte_spoils hW rfl q mm hq hm h0))
          have HLM := Lib.hid hlm; have HF := Lib.hid hF; have HFL := Lib.hid hFl; have HFB := Lib.hid hFb
          have H7 := Lib.hid HH4.out.h.seven
          clear hld q1 q2 q3 hp7 hmlt hlm hlast hgen hpl hF hFl hFb hW
          generalize placeOf [p0, p1, p2, p3, p4, p5, p6] = pl at *
          generalize frame (superB [p0, p1, p2, p3, p4, p5, p6]) = F at *
          obtain ⟨gs, capS, hvS, hgsb, hgsl, _, _, hcS⟩ := HH4.out.r.reads (by have := HKL.out; omega)
          have hvS' : Value.slice AS k cS = .slice (some ⟨gs, 0, none⟩) L.length capS := hvS
          injection hvS' with hA hB hC
          subst hA
          have hog : ¬ With own1 tb gs := HH4.out.o gs rfl
          have HSC4 := Lib.hid (show SC w4 gs L from ⟨hgsl, hcS⟩)
          have HGS := Lib.hid hgsb; have HOG := Lib.hid hog
          have HK4 := Lib.hid HH4.out.k; have HHIST := Lib.hid HH4.out.h
          clear hvS hgsb hgsl hcS hog hB hC HH4
          have hkne : ¬ ((k : Int) = 0) := by omega
          have hkz : ((k : Int) == 0) = false := by simp; omega
          have hw : IntKind.i64.wrap ((k : Int) - 1) = (m : Int) := by rw [IntWalk.i64_in _ (by omega)]; omega
          have hm0 : (0 : Int) ≤ (m : Int) := by omega
          have hmk : (m : Int) < (k : Int) := by omega
          go_wp2_with fail
          refine HL.out.mono ?_
          rintro e w5 ⟨rfl, hs, ht⟩
          rw [show supV ((some [p0, p1, p2, p3, p4, p5, p6]).getD zero7') = .agg #[.int .i64 p0, .int .i64 p1, .int .i64 p2, .int .i64 p3, .int .i64 p4, .int .i64 p5, .int .i64 p6] from rfl, show (if (some ([p0, p1, p2, p3, p4, p5, p6] : List Int)).isSome then (0 : Int) else 14) = 0 from rfl]
          have hga := World.grownBy_alloc w5 (.cells #[.int .i64 p0, .int .i64 p1, .int .i64 p2, .int .i64 p3, .int .i64 p4, .int .i64 p5, .int .i64 p6] 23) none
          have hk5 := HK4.out.turn hs ht
          obtain ⟨hsc5, hog5⟩ := HSC4.out.with_ HOG.out ht
          have HOB := Lib.hid (hk5.out (Nat.le_refl _))
          have HSCLT := Lib.hid hsc5.1
          have HK5 := Lib.hid (hk5.quiet hga); have HSC5 := Lib.hid (hsc5.quiet hga); have HB5 := Lib.hid (Blk.new w5 23 #[.int .i64 p0, .int .i64 p1, .int .i64 p2, .int .i64 p3, .int .i64 p4, .int .i64 p5, .int .i64 p6])
          have HOG5 := Lib.hid hog5
          clear hs ht hga hk5 hsc5 hog5 HL HK4 HSC4 HOG
          obtain ⟨z0', z1', z2', z3', z4', z5', z6'⟩ := HSC5.out.at_ H7.out HLM.out
          have x0 := HB5.out.cell 0; have x1 := HB5.out.cell 1; have x2 := HB5.out.cell 2; have x3 := HB5.out.cell 3; have x4 := HB5.out.cell 4; have x5 := HB5.out.cell 5; have x6 := HB5.out.cell 6
          simp only [List.getElem?_toArray, List.getElem?_cons_zero, List.getElem?_cons_succ] at x0 x1 x2 x3 x4 x5 x6
          have HKD := Lib.hid (fun q => HK5.out.quiet (grown_drewN (World.grownBy.refl _ _) q))
          have HSD := Lib.hid (fun q => HSC5.out.quiet (grown_drewN (World.grownBy.refl _ _) q))
          go_wp2_with fail
          go_quiet (fail)
          go_wp2_with fail
          try rw [hpl']
          refine (read_plain (HKD.out _).s (by omega) pl hpl2 (by rw [HF.out]; exact HFL.out)).mono ?_
          rintro e w6 ⟨gb, rfl, hgb, hrow, hs, ht⟩
          rw [HF.out] at hrow
          have HOGB := Lib.hid ((HKD.out _).out hgb)
          have hgbW := Nat.le_trans (HKD.out _).g.size hgb
          have hgb2 : w5.heap.size < gb := by simp at hgb; omega
          obtain ⟨hsc6, _⟩ := (HSD.out _).with_ HOG5.out ht
          obtain ⟨hb6, _⟩ := blk_with (HB5.out.drewN _) HOB.out ht
          have HK6 := Lib.hid ((HKD.out _).turn hs ht); have HSC6 := Lib.hid hsc6; have HB6 := Lib.hid hb6; have HROW := Lib.hid hrow
          have HGBW := Lib.hid hgbW; have HGB2 := Lib.hid hgb2
          clear hgb hrow hs ht hgbW hgb2 hsc6 hb6 HKD HSD HB5 HSC5 HK5 x0 x1 x2 x3 x4 x5 x6 z0' z1' z2' z3' z4' z5' z6'
          go_upto_if 114 with fail
          go_cut [23] (fun s23 wx => ∃ q : Nat, q < 256 ∧ s23 = .int .i64 q ∧ wx = w6)
          case first =>
            have ht1 := Int.tmod_lt_of_pos aa (show (0 : Int) < 256 by omega)
            have ht2 := Int.lt_tmod_of_pos aa (show (0 : Int) < 256 by omega)
            generalize aa.tmod 256 = t at *
            by_cases ht : t < 0
            · have hw : IntKind.i64.wrap (t + 256) = t + 256 := IntWalk.i64_in _ (by omega)
              go_wp2_with fail
              go_meet
              exact ⟨(t + 256).toNat, by omega, by rw [Int.toNat_of_nonneg (by omega)], rfl⟩
            · go_wp2_with fail
              go_meet
              exact ⟨t.toNat, by omega, by rw [Int.toNat_of_nonneg (by omega)], rfl⟩
          case rest =>
            obtain ⟨q, hq, rfl, rfl⟩ := hcut
            have hch : ch % 256 = (((ch % 256).toNat : Nat) : Int) := by omega
            have hmm : (ch % 256).toNat < 256 := by omega
            generalize (ch % 256).toNat = mm at hch hmm
            have hcw : IntKind.u8.wrap ch = (mm : Int) := hch
            by_cases hz : mm = 0
            · subst hz
              have hch0 : ch % 256 = 0 := hch
              have hcw0 : IntKind.u8.wrap ch = 0 := hch
              clear hch hcw
              go_wp2_with fail
              go_ret
              exact ⟨rfl, HK6.out.below'⟩
            · have hne : ¬ ((mm : Int) = 0) := by omega
              have hnz : ((mm : Int) == 0) = false := by simp; omega
              have hcq := HROW.out.cell q hq
              have hfq := HROW.out.frozen q
              have hq0 : (0 : Int) ≤ (q : Int) := by omega
              have hq1 : (q : Int) < 256 := by omega
              have hfl : F.getD q 0 < 256 := getD_lt HFB.out q
              have hfx := flip_byte hfl hmm
              have hsp := HSP.out q mm hq hmm hz
              have hyl : ∀ x ∈ F.set q (F.getD q 0 ^^^ mm), x < 256 := by
                intro x hx
                rcases List.mem_or_eq_of_mem_set hx with hx | hx
                · exact HFB.out x hx
                · subst hx
                  exact Nat.xor_lt_two_pow (n := 8) hfl hmm
              have HYL := Lib.hid hyl
              have HSPB := Lib.hid hsp
              clear hyl hsp
              generalize hfe : F.getD q 0 = fq at *
              clear hfe
              have hgs7 : wc.grownBy (wc.setCell ⟨gb, q, none⟩ (.int .u8 ((fq ^^^ mm : Nat) : Int))) (some gb) := Lib.grownBy_setB (World.grownBy.refl wc _) q _
              have HROW7 := Lib.hid (HROW.out.set_ hq (fq ^^^ mm))
              have hb7 := HB6.out.grown hgs7 (by have := HGB2.out; simp; omega)
              have HK7 := Lib.hid (HK6.out.far hgs7 HGBW.out HOGB.out)
              have HSC7 := Lib.hid (HSC6.out.keep hgs7.size (hgs7.block gs HSC6.out.1 (by have := HGB2.out; have := HSCLT.out; simp; omega)))
              have HB7 := Lib.hid hb7
              have xb := HB6.out.cell 0
              have xc := hb7.cell 0
              simp only [List.getElem?_toArray, List.getElem?_cons_zero] at xb xc
              generalize F.set q (fq ^^^ mm) = Y at *
              clear hgs7 hb7 HROW HK6 HSC6 HB6 HSP
              go_wp2_with fail
              try rw [hpl']
              refine (write_plain HK7.out.s pl (by omega) (by omega) HROW7.out HYL.out HOGB.out 256 (by omega)).mono ?_
              rintro e w8 ⟨rfl, own8, hs, ht⟩
              obtain ⟨hsc8, hog8⟩ := HSC7.out.with_ HOG5.out ht
              have HK8 := Lib.hid (HK7.out.turn hs ht); have HSC8 := Lib.hid hsc8; have HOG8 := Lib.hid hog8
              clear hs ht hsc8 hog8 HK7 HSC7 HB7 HROW7 HOGB xb xc hcq hfq hfx
              by_cases hk1 : k = 1
              · have hld := HLD.out _ _ _ HK8.out.s
                rw [HSPB.out.1 (by have := HKL.out; omega)] at hld
                have HL := Lib.hid hld
                have hk1' : (k : Int) = 1 := by omega
                clear hld HLD
                go_wp2_with fail
                refine HL.out.mono ?_
                rintro e w9 ⟨rfl, hs, ht⟩
                rw [show supV ((none : Option (List Int)).getD zero7') = .agg #[.int .i64 0, .int .i64 0, .int .i64 0, .int .i64 0, .int .i64 0, .int .i64 0, .int .i64 0] from rfl, show (if (none : Option (List Int)).isSome then (0 : Int) else 14) = 14 from rfl]
                have HK9 := Lib.hid ((HK8.out.turn hs ht).quiet (World.grownBy_alloc w9 (.cells #[.int .i64 0, .int .i64 0, .int .i64 0, .int .i64 0, .int .i64 0, .int .i64 0, .int .i64 0] 23) none))
                clear hs ht HL HK8
                go_wp2_with fail
                go_ret
                exact ⟨rfl, HK9.out.below'⟩
              · have hk2 : 2 ≤ L.length := by have := HKL.out; omega
                have hmlt : L.length - 2 < L.length := by omega
                obtain ⟨y1, y2, y3⟩ := HHIST.out.each (L.length - 2) _ (List.getElem?_eq_getElem hmlt)
                obtain ⟨q0, q1, q2, q3, q4, q5, q6, hq7⟩ := list7 y1
                have hlm2 : L[L.length - 2]? = some [q0, q1, q2, q3, q4, q5, q6] := by rw [List.getElem?_eq_getElem hmlt, hq7]
                have hld := HLD.out _ _ _ HK8.out.s
                rw [HSPB.out.2 _ hk2 hlm2] at hld
                have HL := Lib.hid hld
                have hk1' : ¬ ((k : Int) = 1) := by omega
                have hkz1 : ((k : Int) == 1) = false := by simp; omega
                obtain ⟨m2, hm2⟩ : ∃ m2, L.length - 2 = m2 := ⟨_, rfl⟩
                rw [hm2] at hlm2
                have HLM2 := Lib.hid hlm2
                have hw2 : IntKind.i64.wrap ((k : Int) - 2) = (m2 : Int) := by rw [IntWalk.i64_in _ (by omega)]; have := HKL.out; omega
                have hw3 : IntKind.i64.wrap ((m : Int) + 1 - 2) = (m2 : Int) := by rw [IntWalk.i64_in _ (by omega)]; have := HKL.out; omega
                have hm3 : (m2 : Int) < (m : Int) + 1 := by have := HKL.out; omega
                have hm20 : (0 : Int) ≤ (m2 : Int) := by omega
                have hm2k : (m2 : Int) < (k : Int) := by have := HKL.out; omega
                clear hld HLD hk2 hmlt y1 y2 y3 hq7 hlm2 hm2
                go_wp2_with fail
                refine HL.out.mono ?_
                rintro e w9 ⟨rfl, hs, ht⟩
                rw [show supV ((some [q0, q1, q2, q3, q4, q5, q6]).getD zero7') = .agg #[.int .i64 q0, .int .i64 q1, .int .i64 q2, .int .i64 q3, .int .i64 q4, .int .i64 q5, .int .i64 q6] from rfl, show (if (some ([q0, q1, q2, q3, q4, q5, q6] : List Int)).isSome then (0 : Int) else 14) = 0 from rfl]
                have hga := World.grownBy_alloc w9 (.cells #[.int .i64 q0, .int .i64 q1, .int .i64 q2, .int .i64 q3, .int .i64 q4, .int .i64 q5, .int .i64 q6] 23) none
                obtain ⟨hsc9, _⟩ := HSC8.out.with_ HOG8.out ht
                have HK9 := Lib.hid ((HK8.out.turn hs ht).quiet hga)
                have hsc10 := hsc9.quiet hga
                have hb10 := Blk.new w9 23 #[.int .i64 q0, .int .i64 q1, .int .i64 q2, .int .i64 q3, .int .i64 q4, .int .i64 q5, .int .i64 q6]
                obtain ⟨z0', z1', z2', z3', z4', z5', z6'⟩ := hsc10.at_ H7.out HLM2.out
                have x0 := hb10.cell 0; have x1 := hb10.cell 1; have x2 := hb10.cell 2; have x3 := hb10.cell 3; have x4 := hb10.cell 4; have x5 := hb10.cell 5; have x6 := hb10.cell 6
                simp only [List.getElem?_toArray, List.getElem?_cons_zero, List.getElem?_cons_succ] at x0 x1 x2 x3 x4 x5 x6
                clear hs ht hga hsc9 hsc10 hb10 HL HK8 HSC8
                go_wp2_with fail
                go_quiet (fail)
                go_wp2_with fail
                go_ret
                exact ⟨rfl, (HK9.out.quiet (grown_drewN (World.grownBy.refl _ _) _)).below'⟩
end Go.Proofs.Ytagikgejhckfbaa.SuperHolds
