/- Texts of this seat's proofs: SupTwo, SupSpoil, SuperPlaysWalk. -/
import Derived.Test.YtagikgejhckfbaaGreatMOpenOps
import Derived.Test.YtagikgejhckfbaaGreatMSupRefLoad
import Derived.Test.YtagikgejhckfbaaGreatMSupKnown
import Derived.Test.YtagikgejhckfbaaGreatMRefFail
import Derived.Laws.StructEq
/- Scripts of superblocks that came in, opened; both disks with a table beside them. -/
namespace Go.Proofs.YtagikgejhckfbaaGreat.Sup
open Go.ChangeShapes Go.WideShapes Go.RowKit CrcMath CodecMath Mem Crc Codec DiskSpec Dsk

set_option maxRecDepth 100000 in
theorem sop_came {H : Type} {enc : TypeId × Value → H} {w : World} {fuel : Nat} {cs : List Value} {x : DataW H × List MemPlace} (h : DataW.trod enc Tryz.prog w 0 (fun _ => true) true fuel 37 cs = some x) :
    ∃ (kd a0 a1 a2 a3 a4 a5 a6 at_ fl : Int) (AP : Option Addr) (np cp : Nat) (l : List Int), cs = [.int .i64 kd, .int .i64 a0, .int .i64 a1, .int .i64 a2, .int .i64 a3, .int .i64 a4, .int .i64 a5, .int .i64 a6, .int .i64 at_, .int .i64 fl, .slice AP np cp] ∧ PIn w AP np l ∧ np ≤ maxLen := by
  obtain ⟨n, hl, hf⟩ := open_struct_in Tryz.underlying37 h
  rw [show Tryz.prog.cellsOf 37 = 11 from by kernel_rfl] at hl
  match cs, hl with
  | [c0, c1, c2, c3, c4, c5, c6, c7, c8, c9, c10], _ =>
    have k1 : Tryz.prog.cellsOf 3 = 1 := by kernel_rfl
    have k2 : Tryz.prog.cellsOf 35 = 1 := by kernel_rfl
    have k3 : Tryz.prog.cellsOf 34 = 7 := by kernel_rfl
    obtain ⟨_, h0⟩ := hf 0 0 3 rfl
    obtain ⟨_, h1⟩ := hf 1 1 34 rfl
    obtain ⟨_, h2⟩ := hf 2 8 3 rfl
    obtain ⟨_, h3⟩ := hf 3 9 3 rfl
    obtain ⟨_, h4⟩ := hf 4 10 35 rfl
    rw [k1] at h0 h2 h3
    rw [k3] at h1
    rw [k2] at h4
    obtain ⟨kd, e0, _⟩ := int_came h0
    obtain ⟨a0, a1, a2, a3, a4, a5, a6, e1⟩ := super_came h1
    obtain ⟨at_, e2, _⟩ := int_came h2
    obtain ⟨fl, e3, _⟩ := int_came h3
    obtain ⟨AP, np, cp, l, e4, hp, hm, hc⟩ := ints_came h4
    simp at e0 e1 e2 e3 e4
    obtain ⟨f1, f2, f3, f4, f5, f6, f7⟩ := e1
    subst e0 f1 f2 f3 f4 f5 f6 f7 e2 e3 e4
    exact ⟨kd, a0, a1, a2, a3, a4, a5, a6, at_, fl, AP, np, cp, l, rfl, hp, Nat.le_trans hm hc⟩
def SScript (w : World) (A : Option Addr) (n : Nat) : Prop :=
  0 < n → ∃ g off, A = some ⟨g, off, none⟩ ∧ g < w.heap.size ∧ ∀ j, j < n → ∃ (kd a0 a1 a2 a3 a4 a5 a6 at_ fl : Int) (AP : Option Addr) (np cp : Nat) (l : List Int), PIn w AP np l ∧ np ≤ maxLen ∧ ∀ q u, ([.int .i64 kd, .int .i64 a0, .int .i64 a1, .int .i64 a2, .int .i64 a3, .int .i64 a4, .int .i64 a5, .int .i64 a6, .int .i64 at_, .int .i64 fl, .slice AP np cp] : List Value)[q]? = some u → w.cell? ⟨g, off + j * 11 + q, none⟩ = some u
theorem SScript.at_ {w wr : World} {A : Option Addr} {n j : Nat} (h : SScript w A n) (hb : Below w.heap.size w wr) (hj : j < n) :
    ∃ g off, A = some ⟨g, off, none⟩ ∧ ∃ (kd a0 a1 a2 a3 a4 a5 a6 at_ fl : Int) (AP : Option Addr) (np cp : Nat) (l : List Int), PIn w AP np l ∧ np ≤ maxLen ∧ wr.cell? ⟨g, off + j * 11, none⟩ = some (.int .i64 kd) ∧ wr.cell? ⟨g, off + j * 11 + 1, none⟩ = some (.int .i64 a0) ∧ wr.cell? ⟨g, off + j * 11 + 2, none⟩ = some (.int .i64 a1) ∧ wr.cell? ⟨g, off + j * 11 + 3, none⟩ = some (.int .i64 a2) ∧ wr.cell? ⟨g, off + j * 11 + 4, none⟩ = some (.int .i64 a3) ∧ wr.cell? ⟨g, off + j * 11 + 5, none⟩ = some (.int .i64 a4) ∧ wr.cell? ⟨g, off + j * 11 + 6, none⟩ = some (.int .i64 a5) ∧ wr.cell? ⟨g, off + j * 11 + 7, none⟩ = some (.int .i64 a6) ∧ wr.cell? ⟨g, off + j * 11 + 8, none⟩ = some (.int .i64 at_) ∧ wr.cell? ⟨g, off + j * 11 + 9, none⟩ = some (.int .i64 fl) ∧ wr.cell? ⟨g, off + j * 11 + 10, none⟩ = some (.slice AP np cp) := by
  obtain ⟨g, off, rfl, hlt, hall⟩ := h (by omega)
  obtain ⟨kd, a0, a1, a2, a3, a4, a5, a6, at_, fl, AP, np, cp, l, hp, hm, hc⟩ := hall j hj
  have hk : ∀ q u, ([.int .i64 kd, .int .i64 a0, .int .i64 a1, .int .i64 a2, .int .i64 a3, .int .i64 a4, .int .i64 a5, .int .i64 a6, .int .i64 at_, .int .i64 fl, .slice AP np cp] : List Value)[q]? = some u → wr.cell? ⟨g, off + j * 11 + q, none⟩ = some u := fun q u hq => by
    rw [World.cell?_of_block (a := ⟨g, off + j * 11 + q, none⟩) (hb.block g hlt)]; exact hc q u hq
  exact ⟨g, off, rfl, kd, a0, a1, a2, a3, a4, a5, a6, at_, fl, AP, np, cp, l, hp, hm, hk 0 _ rfl, hk 1 _ rfl, hk 2 _ rfl, hk 3 _ rfl, hk 4 _ rfl, hk 5 _ rfl, hk 6 _ rfl, hk 7 _ rfl, hk 8 _ rfl, hk 9 _ rfl, hk 10 _ rfl⟩
set_option maxRecDepth 100000 in
theorem open_sscript {H : Type} {enc : TypeId × Value → H} {W : World} {base : Nat} {v : Value} {d : DataW H} {p : List MemPlace} (o : Value.okWide Tryz.prog W .any base 22 v) (h : DataW.Trod enc Tryz.prog W 0 (fun _ => true) true 22 v d p) :
    ∃ A n c, v = .slice A n c ∧ SScript W A n ∧ n ≤ c ∧ c ≤ maxLen := by
  obtain ⟨A, n, c, rfl⟩ := okWide_slice Tryz.underlying22 o
  obtain ⟨fuel, hf⟩ := h
  rcases DataW.trod_slice Tryz.underlying22 hf with ⟨hcs, _⟩ | ⟨a, len, cap, elems, rest, m, _, hcs, hx, _, hl, hm, hlen, hel, _, _⟩
  · simp [Value.cells] at hcs
    obtain ⟨rfl, rfl, rfl⟩ := hcs
    exact ⟨_, _, _, rfl, fun h => by omega, Nat.le_refl _, by simp [maxLen]⟩
  · simp [Value.cells] at hcs
    obtain ⟨rfl, rfl, rfl⟩ := hcs
    rw [show Tryz.prog.cellsOf 37 = 11 from by kernel_rfl] at hel
    have each : ∀ j, j < n → ∃ (kd a0 a1 a2 a3 a4 a5 a6 at_ fl : Int) (AP : Option Addr) (np cp : Nat) (l : List Int), PIn W AP np l ∧ np ≤ maxLen ∧ ∀ q u, ([.int .i64 kd, .int .i64 a0, .int .i64 a1, .int .i64 a2, .int .i64 a3, .int .i64 a4, .int .i64 a5, .int .i64 a6, .int .i64 at_, .int .i64 fl, .slice AP np cp] : List Value)[q]? = some u → W.cell? (a.add (j * 11 + q)) = some u := by
      intro j hj
      have h1 := hel j hj
      rw [List.getElem?_eq_getElem (by omega), Option.bind_eq_some_iff] at h1
      obtain ⟨ds, hds, hy⟩ := h1
      obtain ⟨kd, a0, a1, a2, a3, a4, a5, a6, at_, fl, AP, np, cp, l, rfl, hp, hmx⟩ := sop_came hy
      refine ⟨kd, a0, a1, a2, a3, a4, a5, a6, at_, fl, AP, np, cp, l, hp, hmx, fun q u hq => ?_⟩
      have hq11 : q < 11 := (List.getElem?_eq_some_iff.1 hq).1
      have h2 := (World.cells?_some hds).2.2 q hq11
      rw [hq] at h2
      have e : (a.add (j * 11)).add q = a.add (j * 11 + q) := by
        unfold Addr.add
        split <;> split <;> (try split) <;> simp_all <;> omega
      rw [← e]; exact h2
    refine ⟨_, _, _, rfl, fun hn => ?_, hl, hm⟩
    obtain ⟨g, off, sp⟩ := a
    obtain ⟨kd, a0, a1, a2, a3, a4, a5, a6, at_, fl, AP, np, cp, l, _, _, hz⟩ := each 0 hn
    have h0 := hz 0 _ rfl
    have hsp : sp = none := by simpa [Addr.add] using World.cell?_spot h0
    subst hsp
    have hlt : g < W.heap.size := by have := World.block_lt_of_cell? W _ h0; simpa [Addr.add] using this
    refine ⟨g, off, rfl, hlt, fun j hj => ?_⟩
    obtain ⟨kd, a0, a1, a2, a3, a4, a5, a6, at_, fl, AP, np, cp, l, hp, hmx, hz⟩ := each j hj
    refine ⟨kd, a0, a1, a2, a3, a4, a5, a6, at_, fl, AP, np, cp, l, hp, hmx, fun q u hq => ?_⟩
    have h1 := hz q u hq
    rw [Addr.add_mid, ← Nat.add_assoc] at h1
    exact h1

/-! ### Nothing stands in the cache -/
def NoVer (S : St) : Prop := ∀ i, S.ver i = []
theorem NoVer.room {S : St} (h : NoVer S) : ∀ i, (S.ver i).length < 549755813888 := fun i => by rw [h i]; simp
theorem NoVer.put {S : St} (h : NoVer S) (i : Nat) (v : List Nat) : NoVer (S.put true i v) := by
  intro k
  show upd (upd S.ver i (S.ver i ++ [v])) i [] k = []
  unfold upd
  split
  · rfl
  · exact h k
theorem NoVer.puts {S : St} (h : NoVer S) (a : Nat) (l : List Nat) : ∀ k, NoVer (S.puts true a l k)
  | 0 => h
  | k + 1 => (h.puts a l k).put _ _
theorem NoVer.write {S : St} (h : NoVer S) (a : Int) (l : List Nat) : NoVer (writeE S true a l).2 := by
  unfold writeE
  split
  · exact h
  · split
    · exact h
    · split
      · exact h
      · exact NoVer.puts (S := { S with f2 := S.f2 - 1 }) h _ _ _
theorem NoVer.save {S : St} (h : NoVer S) (s : List Int) : NoVer (saveE S s).2 := by
  unfold saveE
  split
  · exact h.write _ _
  · exact h
theorem NoVer.read {S : St} (h : NoVer S) (a c : Int) : NoVer (readE S a c).2 := by
  unfold readE
  split
  · exact h
  · split <;> exact h
theorem NoVer.load {S : St} (h : NoVer S) : NoVer (loadT S) := by
  unfold loadT loadS
  split
  · exact h
  · exact (h.read 0 1).read 1 1
theorem NoVer.fail {S : St} (h : NoVer S) (k n : Int) : NoVer (failE S k n).2 := by
  unfold failE
  split
  · exact h
  · split
    · exact h
    · split
      · exact h
      · split <;> exact h

/-! ### Both disks -/
structure Pl (W wx : World) (B b tb B2 r : Nat) (S1 S2 : St) (o1 o2 : Nat → Prop) : Prop where
  s : SAt wx B b tb S1 o1
  r : RAt wx B2 r S2 o2
  x : ∀ i, o2 i → ¬ With o1 tb i
  g : W.grownBy wx none
  t : W.heap.size ≤ tb
  b1 : W.heap.size ≤ B
  b2 : W.heap.size ≤ B2
  l2 : B2 ≤ wx.heap.size
section
variable {W wx w' : World} {B b tb B2 r g : Nat} {S1 S2 S' : St} {o1 o2 o1' o2' : Nat → Prop} {t : TypeId} {cs : Array Value}
theorem rat_turn {o o' : Nat → Prop} (h : RAt wx B2 r S2 o2) (ht : Turn wx w' o o') (hd : ∀ i, o2 i → ¬ o i) : RAt w' B2 r S2 o2 := by
  obtain ⟨bl, c, dv, vv, vs, h⟩ := h
  exact ⟨bl, c, dv, vv, vs, h.turn ht hd⟩
theorem dat_turn {o o' : Nat → Prop} (h : DAt wx B b S1 o1) (ht : Turn wx w' o o') (hd : ∀ i, o1 i → ¬ o i) : DAt w' B b S1 o1 := by
  obtain ⟨bd, bm, f, h⟩ := h
  exact ⟨bd, bm, f, h.turn ht hd⟩
theorem Pl.quiet (h : Pl W wx B b tb B2 r S1 S2 o1 o2) (hg : wx.grownBy w' none) : Pl W w' B b tb B2 r S1 S2 o1 o2 :=
  ⟨h.s.quiet hg, rat_grown h.r hg (fun _ e => by cases e), h.x, h.g.trans hg, h.t, h.b1, h.b2, Nat.le_trans h.l2 hg.size⟩
theorem Pl.first (h : Pl W wx B b tb B2 r S1 S2 o1 o2) (hs : SAt w' B b tb S' o1') (ht : Turn wx w' (With o1 tb) (With o1' tb)) : Pl W w' B b tb B2 r S' S2 o1' o2 :=
  ⟨hs, rat_turn h.r ht h.x, fun i hi h1 => by
    rcases ht.fresh i h1 with h2 | h2
    · exact h.x i hi h2
    · have := (rat_ok h.r).2.1 i hi; omega, sup_below h.g (ht.below (fun i hi => by
    rcases hi with hi | rfl
    · exact Nat.le_trans h.b1 (h.s.low hi)
    · exact h.t) h.g.size), h.t, h.b1, h.b2, Nat.le_trans h.l2 ht.size⟩
theorem Pl.second (h : Pl W wx B b tb B2 r S1 S2 o1 o2) (hr : RAt w' B2 r S' o2') (ht : Turn wx w' o2 o2') : Pl W w' B b tb B2 r S1 S' o1 o2' :=
  ⟨⟨dat_turn h.s.d ht (fun i hi h2 => h.x i h2 (.inl hi)), tab_of_block h.s.t (ht.block tb (tab_lt h.s.t) (fun h2 => h.x tb h2 (.inr rfl))), h.s.n, Nat.le_trans h.s.s ht.size⟩, hr, fun i hi h1 => by
    rcases ht.fresh i hi with h2 | h2
    · exact h.x i h2 h1
    · rcases h1 with h1 | rfl
      · have := h.s.own_lt h1; omega
      · have := tab_lt h.s.t; omega, sup_below h.g (ht.below (fun i hi => Nat.le_trans h.b2 ((rat_ok h.r).2.2 i hi)) h.g.size), h.t, h.b1, h.b2, Nat.le_trans h.l2 ht.size⟩
theorem Pl.far (h : Pl W wx B b tb B2 r S1 S2 o1 o2) (hg : wx.grownBy w' (some g)) (hge : W.heap.size ≤ g) (h1 : ¬ With o1 tb g) (h2 : ¬ o2 g) : Pl W w' B b tb B2 r S1 S2 o1 o2 :=
  ⟨h.s.far hg (fun h3 => h1 (.inl h3)) (fun e => h1 (.inr e.symm)), rat_grown h.r hg (fun j e => by cases e; exact h2), h.x, grownBy_new h.g hg (fun j hj => by cases hj; exact hge), h.t, h.b1, h.b2, Nat.le_trans h.l2 hg.size⟩
theorem Pl.out (h : Pl W wx B b tb B2 r S1 S2 o1 o2) (hg : wx.heap.size ≤ g) : ¬ With o1 tb g ∧ ¬ o2 g :=
  ⟨fun h1 => by
    rcases h1 with h1 | rfl
    · have := h.s.own_lt h1; omega
    · have := tab_lt h.s.t; omega, fun h1 => by have := (rat_ok h.r).2.1 g h1; omega⟩
theorem Pl.below (h : Pl W wx B b tb B2 r S1 S2 o1 o2) : Below W.heap.size W wx := below_of_grown h.g (Nat.le_refl _) (fun _ e => by cases e)
theorem Pl.low1 (h : Pl W wx B b tb B2 r S1 S2 o1 o2) : ∀ i, o1 i → W.heap.size ≤ i := fun _ hi => Nat.le_trans h.b1 (h.s.low hi)
theorem Pl.low2 (h : Pl W wx B b tb B2 r S1 S2 o1 o2) : ∀ i, o2 i → W.heap.size ≤ i := fun i hi => Nat.le_trans h.b2 ((rat_ok h.r).2.2 i hi)
theorem blk_turn' {o o' : Nat → Prop} (hb : Blk wx g t cs) (ho : ¬ o g) (ht : Turn wx w' o o') : Blk w' g t cs ∧ ¬ o' g :=
  ⟨blk_of_block hb (ht.block g hb.lt ho), fun h => by
    rcases ht.fresh g h with h1 | h1
    · exact ho h1
    · have := hb.lt; omega⟩
theorem fail_s1 (h : SAt wx B b tb S1 o1) (kind n : Int) :
    Calls Tryz.prog 13 #[.pointer (some ⟨b, 0, none⟩), .int .i64 kind, .int .i64 n] wx fun e w' => e = .returned (.int .i64 (failE S1 kind n).1) ∧ SAt w' B b tb (failE S1 kind n).2 o1 ∧ Turn wx w' (With o1 tb) (With o1 tb) :=
  (disk_fail_all h.d kind n).mono fun _ _ ⟨h1, h2, h3⟩ => ⟨h1, h.disk h2 h3, turn_with h3 tb⟩
theorem crash_s1 (h : SAt wx B b tb S1 o1) (A : Option Addr) (n cc : Nat) (picks : List Int) (hp : Picks wx o1 A n picks) (hnm : n ≤ 9223372036854775807) (hroom : ∀ i, (S1.ver i).length < 549755813888) :
    Calls Tryz.prog 15 #[.pointer (some ⟨b, 0, none⟩), .slice A n cc] wx fun e w' => e = .returned (.tuple #[]) ∧ SAt w' B b tb (S1.crash picks) o1 ∧ Turn wx w' (With o1 tb) (With o1 tb) :=
  (disk_crash_all h.d A n cc picks hp hnm hroom).mono fun _ _ ⟨h1, h2, h3⟩ => ⟨h1, h.disk h2 h3, turn_with h3 tb⟩
end
end Go.Proofs.YtagikgejhckfbaaGreat.Sup
/- The law's step that spoils a byte of a sector, on both disks. -/
namespace Go.Proofs.YtagikgejhckfbaaGreat.Sup
open Go.RowKit CrcMath CodecMath Mem Crc Codec DiskSpec Dsk
theorem row_turn {w w' : World} {g n : Nat} {y : List Nat} {o o' : Nat → Prop} (h : Row w g n y) (ho : ¬ o g) (ht : Turn w w' o o') : Row w' g n y ∧ ¬ o' g := by
  obtain ⟨cs, hb, h1, h2⟩ := h
  obtain ⟨h3, h4⟩ := blk_turn' hb ho ht
  exact ⟨⟨cs, h3, h1, h2⟩, h4⟩
theorem row_far {w : World} {g g' n : Nat} {y : List Nat} (h : Row w g n y) (hne : g ≠ g') (i : Nat) (v : Value) : Row (w.setCell ⟨g', i, none⟩ v) g n y := by
  obtain ⟨cs, hb, h1, h2⟩ := h
  exact ⟨cs, hb.far hne v, h1, h2⟩
theorem data_of_row {w : World} {own : Nat → Prop} {g n : Nat} {y : List Nat} (h : Row w g n y) (hy : ∀ x ∈ y, x < 256) (ho : ¬ own g) : Dsk.Data w own (some ⟨g, 0, none⟩) n y := by
  have h' := h
  obtain ⟨cs, hb, h1, h2⟩ := h'
  exact ⟨h1, hy, fun _ => ⟨g, 0, rfl, hb.lt, ho, fun j hj => by rw [Nat.zero_add]; exact h.cell j hj⟩⟩
theorem readL_nil {S : St} {a : Int} (h : ¬ (S.has a 1 = true ∧ S.f1 ≠ 1)) : readL S a 1 = [] := by
  unfold readL
  by_cases h1 : S.has a 1 = false
  · rw [if_pos h1]
  · rw [if_neg h1]
    by_cases h2 : S.f1 = 1
    · rw [if_pos h2]
    · exact absurd ⟨by simpa using h1, h2⟩ h
theorem gave_slice {w : World} {base : Nat} {v : Value} {l : List Nat} (h : Gave8 w base v l) : ∃ A c, v = .slice A l.length c := by
  rcases h with ⟨rfl, rfl⟩ | ⟨g, cap, rfl, _⟩
  · exact ⟨_, _, rfl⟩
  · exact ⟨_, _, rfl⟩

set_option maxRecDepth 100000 in
set_option maxHeartbeats 3200000 in
theorem spoil_any {W w : World} {B b tb B2 r : Nat} {S : St} {o1 o2 : Nat → Prop} (h : Pl W w B b tb B2 r S S o1 o2) (hv : NoVer S) (kd a0 a1 a2 a3 a4 a5 a6 at_ fl : Int) (AP : Option Addr) (np cp : Nat) :
    Calls Tryz.prog 12 #[.pointer (some ⟨b, 0, none⟩), .pointer (some ⟨r, 0, none⟩), .agg #[.int .i64 kd, .int .i64 a0, .int .i64 a1, .int .i64 a2, .int .i64 a3, .int .i64 a4, .int .i64 a5, .int .i64 a6, .int .i64 at_, .int .i64 fl, .slice AP np cp]] w fun e w' => e = .returned (.bool true) ∧ ∃ S' o1' o2', Pl W w' B b tb B2 r S' S' o1' o2' ∧ NoVer S' := by
  have hbk := Blk.new w 37 #[.int .i64 kd, .int .i64 a0, .int .i64 a1, .int .i64 a2, .int .i64 a3, .int .i64 a4, .int .i64 a5, .int .i64 a6, .int .i64 at_, .int .i64 fl, .slice AP np cp]
  have HB0 := Lib.hid hbk
  have H0 := Lib.hid (h.quiet (World.grownBy_alloc w (.cells #[.int .i64 kd, .int .i64 a0, .int .i64 a1, .int .i64 a2, .int .i64 a3, .int .i64 a4, .int .i64 a5, .int .i64 a6, .int .i64 at_, .int .i64 fl, .slice AP np cp] 37) none))
  have HNB := Lib.hid (h.out (Nat.le_refl _))
  have HV := Lib.hid hv
  have x8 := hbk.cell 8
  simp only [List.getElem?_toArray, List.getElem?_cons_zero, List.getElem?_cons_succ] at x8
  clear hbk h hv
  go_enter Tryz.func12, Tryz.ntmps12
  go_upto_if 16 with fail
  go_cut [7] (fun s7 wx => ∃ k : Nat, k < 512 ∧ s7 = .int .i64 k ∧ wx = w.alloc (.cells #[.int .i64 kd, .int .i64 a0, .int .i64 a1, .int .i64 a2, .int .i64 a3, .int .i64 a4, .int .i64 a5, .int .i64 a6, .int .i64 at_, .int .i64 fl, .slice AP np cp] 37))
  case first =>
    have ht1 := Int.tmod_lt_of_pos at_ (show (0 : Int) < 512 by omega)
    have ht2 := Int.lt_tmod_of_pos at_ (show (0 : Int) < 512 by omega)
    generalize at_.tmod 512 = t at *
    by_cases ht : t < 0
    · have hw : IntKind.i64.wrap (t + 512) = t + 512 := IntWalk.i64_in _ (by omega)
      go_wp2_with fail
      go_meet
      exact ⟨(t + 512).toNat, by omega, by rw [Int.toNat_of_nonneg (by omega)], rfl⟩
    · go_wp2_with fail
      go_meet
      exact ⟨t.toNat, by omega, by rw [Int.toNat_of_nonneg (by omega)], rfl⟩
  case rest =>
    obtain ⟨k, hk, rfl, hwc⟩ := hcut
    subst hwc
    have hq1 : (k : Int).tdiv 256 = ((k / 256 : Nat) : Int) := by rw [Int.tdiv_eq_ediv_of_nonneg (by omega)]; omega
    have hr1 : (k : Int).tmod 256 = ((k % 256 : Nat) : Int) := by rw [Int.tmod_eq_emod_of_nonneg (by omega)]; omega
    have hq2 : (k : Int) / 256 = ((k / 256 : Nat) : Int) := by omega
    have hr2 : (k : Int) % 256 = ((k % 256 : Nat) : Int) := by omega
    have ha2 : k / 256 < 2 := by omega
    have hq256 : k % 256 < 256 := by omega
    generalize k / 256 = a at *
    generalize k % 256 = q at *
    have hqw : IntKind.i64.wrap (a : Int) = (a : Int) := IntWalk.i64_in _ (by omega)
    clear x8
    by_cases hL : S.has a 1 = true ∧ S.f1 ≠ 1
    · obtain ⟨hhas, hf1⟩ := hL
      have hle : a + 1 ≤ S.n := by simp [St.has] at hhas; omega
      have hok := H0.out.s.ok
      have hFl := reads_length hok a 1
      have hFb := reads_lt hok a 1
      have hT : NoVer ({ S with f1 := S.f1 - 1 } : St) := HV.out
      have HR1 := Lib.hid (show Calls Tryz.prog 29 #[.pointer (some ⟨b, 0, none⟩), .int .i64 (a : Nat), .int .i64 1] (w.alloc (.cells #[.int .i64 kd, .int .i64 a0, .int .i64 a1, .int .i64 a2, .int .i64 a3, .int .i64 a4, .int .i64 a5, .int .i64 a6, .int .i64 at_, .int .i64 fl, .slice AP np cp] 37)) fun e w' => ∃ g, e = .returned (.tuple #[.slice (some ⟨g, 0, none⟩) 256 256, .int .i64 0]) ∧ (w.alloc (.cells #[.int .i64 kd, .int .i64 a0, .int .i64 a1, .int .i64 a2, .int .i64 a3, .int .i64 a4, .int .i64 a5, .int .i64 a6, .int .i64 at_, .int .i64 fl, .slice AP np cp] 37)).heap.size ≤ g ∧ Row w' g 256 (S.reads a 1) ∧ SAt w' B b tb { S with f1 := S.f1 - 1 } o1 ∧ Turn (w.alloc (.cells #[.int .i64 kd, .int .i64 a0, .int .i64 a1, .int .i64 a2, .int .i64 a3, .int .i64 a4, .int .i64 a5, .int .i64 a6, .int .i64 at_, .int .i64 fl, .slice AP np cp] 37)) w' (With o1 tb) (With o1 tb) from by
        obtain ⟨bd, bm, f, hd⟩ := H0.out.s.d
        refine (disk_read_okc hd a 1 (by omega) hle hf1).mono ?_
        rintro e w' ⟨g, cap, rfl, h3, h4, h5, h6, rfl⟩
        exact ⟨g, rfl, h3, ⟨_, h4, hFl, fun j hj => by rw [List.getElem?_toArray]; exact u8s_at _ j (by omega)⟩, H0.out.s.disk ⟨bd, bm, f, h5⟩ h6, turn_with h6 tb⟩)
      have HR2 := Lib.hid (fun wx (hx : RAt wx B2 r S o2) => (show Calls Tryz.prog 27 #[.pointer (some ⟨r, 0, none⟩), .int .i64 (a : Nat), .int .i64 1] wx fun e w' => ∃ g cap, e = .returned (.tuple #[.slice (some ⟨g, 0, none⟩) 256 cap, .int .i64 0]) ∧ wx.heap.size ≤ g ∧ 256 ≤ cap ∧ Row w' g 256 (S.reads a 1) ∧ RAt w' B2 r { S with f1 := S.f1 - 1 } o2 ∧ Turn wx w' o2 o2 from by
        obtain ⟨bl, c, dv, vv, vs, hx⟩ := hx
        refine (ref_read_bare hx a 1 (by omega) hle hf1).mono ?_
        rintro e w' ⟨v, rfl, hbare, hr, ht⟩
        obtain ⟨g, cap, rfl, hge, hrow, hcap⟩ := row_of_own hbare (by omega)
        exact ⟨g, cap, rfl, hge, hcap, hrow, ⟨bl, c, dv, vv, vs, hr⟩, ht⟩))
      have HFB := Lib.hid hFb; have HTV := Lib.hid hT; have HLE := Lib.hid hle
      clear hhas hf1 hok hFl hFb hT hle
      generalize S.reads a 1 = F at *
      generalize ({ S with f1 := S.f1 - 1 } : St) = T at *
      go_wp2_with fail
      refine HR1.out.mono ?_
      rintro e w2 ⟨g1, rfl, hg1, hrow1, hs, ht⟩
      obtain ⟨hn11, hn12⟩ := H0.out.out hg1
      have HP2 := Lib.hid (H0.out.first hs ht)
      obtain ⟨hb2, hb2o⟩ := blk_turn' HB0.out HNB.out.1 ht
      have HB2 := Lib.hid hb2; have HR1' := Lib.hid hrow1; have HN1 := Lib.hid (And.intro hn11 hn12)
      have hg1lt : g1 < w2.heap.size := by obtain ⟨_, hb, _⟩ := hrow1; exact hb.lt
      have HG1 := Lib.hid (show w.heap.size < g1 ∧ W.heap.size ≤ g1 from by
        have h1 := H0.out.g.size
        rw [World.size_alloc] at h1 hg1
        have h0 : W.heap.size ≤ w.heap.size + 1 := h1
        exact ⟨by omega, by omega⟩)
      clear hg1 hrow1 hs ht hn11 hn12 hb2 hb2o HR1
      go_wp2_with fail
      refine (HR2.out _ HP2.out.r).mono ?_
      rintro e w3 ⟨g2, cap2, rfl, hg2, hcap2, hrow2, hr, ht⟩
      obtain ⟨hn21, hn22⟩ := HP2.out.out hg2
      have HP3 := Lib.hid (HP2.out.second hr ht)
      obtain ⟨hb3, _⟩ := blk_turn' HB2.out HNB.out.2 ht
      obtain ⟨hrow13, _⟩ := row_turn HR1'.out HN1.out.2 ht
      have HB3 := Lib.hid hb3; have HR13 := Lib.hid hrow13; have HR23 := Lib.hid hrow2; have HN2 := Lib.hid (And.intro hn21 hn22)
      have HG2 := Lib.hid (show g1 < g2 from by omega)
      have HC2 := Lib.hid hcap2
      clear hg2 hcap2 hrow2 hr ht hn21 hn22 hb3 hrow13 hg1lt HP2 HB2 HR1' HR2
      have hch : fl % 256 = (((fl % 256).toNat : Nat) : Int) := by omega
      have hmm : (fl % 256).toNat < 256 := by omega
      generalize (fl % 256).toNat = mm at hch hmm
      have hcw : IntKind.u8.wrap fl = (mm : Int) := hch
      have hgA : w3.grownBy (w3.setCell ⟨g1, q, none⟩ (.int .u8 (mm : Nat))) (some g1) := Lib.grownBy_setB (World.grownBy.refl w3 _) q _
      have HP4 := Lib.hid (HP3.out.far hgA HG1.out.2 HN1.out.1 HN1.out.2)
      have HR14 := Lib.hid (HR13.out.set_ hq256 mm)
      have HR24 := Lib.hid (row_far HR23.out (show g2 ≠ g1 from by have := HG2.out; omega) q (.int .u8 (mm : Nat)))
      have hb4 := HB3.out.grown hgA (by have := HG1.out.1; simp; omega)
      have hgB : (w3.setCell ⟨g1, q, none⟩ (.int .u8 (mm : Nat))).grownBy ((w3.setCell ⟨g1, q, none⟩ (.int .u8 (mm : Nat))).setCell ⟨g2, q, none⟩ (.int .u8 (mm : Nat))) (some g2) := Lib.grownBy_setB (World.grownBy.refl _ _) q _
      have HP5 := Lib.hid (HP4.out.far hgB (by have := HG1.out.2; have := HG2.out; omega) HN2.out.1 HN2.out.2)
      have HR25 := Lib.hid (HR24.out.set_ hq256 mm)
      have HR15 := Lib.hid (row_far HR14.out (show g1 ≠ g2 from by have := HG2.out; omega) q (.int .u8 (mm : Nat)))
      have hcq1 := HR13.out.cell q hq256
      have hfq1 := HR13.out.frozen q
      have hcq2 := HR24.out.cell q hq256
      have hfq2 := HR24.out.frozen q
      have hq0 : (0 : Int) ≤ (q : Int) := by omega
      have hqb : (q : Int) < 256 := by omega
      have x9 := HB3.out.cell 9
      have y9 := hb4.cell 9
      simp only [List.getElem?_toArray, List.getElem?_cons_zero, List.getElem?_cons_succ] at x9 y9
      have hYb : ∀ x ∈ F.set q mm, x < 256 := by
        intro x hx
        rcases List.mem_or_eq_of_mem_set hx with hx | hx
        · exact HFB.out x hx
        · omega
      have HYB := Lib.hid hYb
      clear hgA hgB hb4 hYb HP3 HP4 HR13 HR14 HR23 HR24 HB3
      generalize F.set q mm = Y at *
      go_wp2_with fail
      refine (disk_write_all HP5.out.s.d (a : Nat) _ 256 256 Y true (by omega) (data_of_row HR15.out HYB.out (fun h1 => HN1.out.1 (.inl h1))) (by omega) (by omega) HTV.out.room HP5.out.s.s).mono ?_
      rintro e w6 ⟨rfl, o1', hd, ht⟩
      have HP6 := Lib.hid (HP5.out.first (HP5.out.s.disk hd ht) (turn_with ht tb))
      obtain ⟨hr26, _⟩ := row_turn HR25.out HN2.out.1 (turn_with ht tb)
      have HR26 := Lib.hid hr26
      clear hd ht hr26 HP5 HR15 HR25 x9 y9 hcq1 hfq1 hcq2 hfq2
      generalize hwe : writeE T true (a : Nat) Y = we at *
      have HWE := Lib.hid hwe
      clear hwe
      go_wp2_with fail
      refine (ref_write_all HP6.out.r (a : Nat) _ 256 cap2 Y true (by omega) (data_of_row HR26.out HYB.out HN2.out.2) HC2.out (by omega) HTV.out.room HP6.out.l2).mono ?_
      rw [HWE.out]
      rintro e w7 ⟨rfl, o2', hr, ht⟩
      have HP7 := Lib.hid (HP6.out.second hr ht)
      have HVE := Lib.hid (show NoVer we.2 from by rw [← HWE.out]; exact HTV.out.write _ _)
      clear hr ht HP6 HR26
      have hee : decide (we.1 = we.1) = true := by simp
      generalize we.1 = ee at *
      go_wp2_with fail
      go_ret
      exact ⟨rfl, we.2, o1', o2', HP7.out, HVE.out⟩
    · have hnil := readL_nil hL
      have HR1 := Lib.hid (disk_read_all H0.out.s.d (a : Nat) 1 (by omega) (by omega))
      have HR2 := Lib.hid (fun wx (hx : RAt wx B2 r S o2) => ref_read_all hx (a : Nat) 1 (by omega) (by omega))
      have HVR := Lib.hid (HV.out.read (a : Nat) 1)
      rw [hnil] at HR1 HR2
      clear hL hnil
      generalize readE S (a : Nat) 1 = E at *
      have hee : decide (E.1 = E.1) = true := by simp
      generalize hE1 : E.1 = ee at *
      clear hE1
      go_wp2_with fail
      refine HR1.out.mono ?_
      rintro e w2 ⟨v, rfl, hg, hd, ht⟩
      obtain ⟨A1, c1, rfl⟩ := gave_slice hg
      have HP2 := Lib.hid (H0.out.first (H0.out.s.disk hd ht) (turn_with ht tb))
      clear hg hd ht HR1
      go_wp2_with fail
      refine (HR2.out _ HP2.out.r).mono ?_
      rintro e w3 ⟨v, rfl, hown, hr, ht⟩
      obtain ⟨A2, c2, rfl, _, _, _⟩ := hown.shape
      have HP3 := Lib.hid (HP2.out.second hr ht)
      clear hown hr ht HR2 HP2
      go_wp2_with fail
      go_ret
      exact ⟨rfl, E.2, o1, o2, HP3.out, HVR.out⟩
end Go.Proofs.YtagikgejhckfbaaGreat.Sup
/- The walk over the law SuperPlays. -/
namespace Go.Proofs.YtagikgejhckfbaaGreat.Sup
open Go.RowKit CrcMath CodecMath Mem Crc Codec DiskSpec Dsk
theorem loadV_list (S : St) : ∃ p0 p1 p2 p3 p4 p5 p6, loadV S = [p0, p1, p2, p3, p4, p5, p6] := by
  unfold loadV
  split
  · exact ⟨0, 0, 0, 0, 0, 0, 0, rfl⟩
  · split
    · exact ⟨0, 0, 0, 0, 0, 0, 0, rfl⟩
    · rw [← seen_two]
      cases hs : seen (S.n : Int) (readL S 0 1) (readL (readE S 0 1).2 1 1) 2 with
      | none => exact ⟨0, 0, 0, 0, 0, 0, 0, rfl⟩
      | some s =>
        obtain ⟨p0, p1, p2, p3, p4, p5, p6, rfl⟩ := list7 (seen_len _ _ _ 2 s hs)
        exact ⟨p0, p1, p2, p3, p4, p5, p6, rfl⟩
end Go.Proofs.YtagikgejhckfbaaGreat.Sup
namespace Go.Proofs.YtagikgejhckfbaaGreat.SuperPlays
open Go.ChangeShapes Go.WideShapes Go.ChangeAt Go.RowKit
open Crc CrcMath Mem CodecMath Codec DiskSpec Dsk Sup
set_option maxRecDepth 100000 in
set_option maxHeartbeats 6400000 in
theorem walk {H : Type} {enc : TypeId × Value → H} (W : World) (base : Nat) (v0 v1 : Value) (d0 d1 : DataW H) (p0 p1 : List MemPlace)
    (o0 : Value.okWide Tryz.prog W .any base 3 v0)
    (o1 : Value.okWide Tryz.prog W .any base 22 v1)
    (h0 : DataW.Trod enc Tryz.prog W 0 (fun _ => true) true 3 v0 d0 p0)
    (h1 : DataW.Trod enc Tryz.prog W 0 (fun _ => true) true 22 v1 d1 p1)
    (_hsz : (DataW.weightsEach Tryz.prog [3, 22] [d0, d1]).all (· ≤ reachBytes) = true) :
    Calls Tryz.prog 3 #[v0, v1] W fun e W' => e = .returned (.bool true) ∧ Below W.heap.size W W' := by
  obtain ⟨sn, rfl, _, _, _⟩ := open_int Tryz.underlying3 o0 h0
  obtain ⟨A, n, c, rfl, hsu, hnc, hcm⟩ := open_sscript o1 h1
  have HSU := Lib.hid hsu
  have hnm : n ≤ 9223372036854775807 := by unfold maxLen at hcm; omega
  clear o0 h0 o1 h1 hsu hnc hcm
  have hT : Tab (W.alloc (.cells zeroCs 61)) W.heap.size := .inl ⟨_, Blk.new W 61 zeroCs, fresh_zero⟩
  have HT := Lib.hid hT; have HG0 := Lib.hid (World.grownBy_alloc W (.cells zeroCs 61) none)
  clear hT
  by_cases hbad : sn < 1 ∨ 4096 < sn
  · have HN1 := Lib.hid (fun wx => disk_new_no sn wx hbad)
    have HN2 := Lib.hid (fun wx => ref_new_no sn wx hbad)
    clear hbad
    go_enter Tryz.func3, Tryz.ntmps3
    go_wp2_with fail
    refine (new_any _).mono ?_
    rintro e w1 ⟨rfl, rfl⟩
    go_wp2_with fail
    refine (HN1.out _).mono ?_
    rintro e w2 ⟨rfl, rfl⟩
    go_wp2_with fail
    refine (HN2.out _).mono ?_
    rintro e w3 ⟨rfl, rfl⟩
    go_wp2_with fail
    refine (known_any _).mono ?_
    rintro e w4 ⟨rfl, hg⟩
    have HG4 := Lib.hid (HG0.out.trans hg)
    clear hg
    go_wp2
    go_ret
    exact ⟨rfl, below_of_grown HG4.out (Nat.le_refl _) (fun _ e => by cases e)⟩
  · obtain ⟨m, rfl⟩ : ∃ m : Nat, sn = m := ⟨sn.toNat, by omega⟩
    have HN1 := Lib.hid (fun wx => disk_new m wx (by omega) (by omega))
    have HN2 := Lib.hid (fun wx => ref_new m wx (by omega) (by omega))
    clear hbad
    go_enter Tryz.func3, Tryz.ntmps3
    go_wp2_with fail
    refine (new_any _).mono ?_
    rintro e w1 ⟨rfl, rfl⟩
    go_wp2_with fail
    refine (HN1.out _).mono ?_
    rintro e w2 ⟨b, bd, bm, f, own1, rfl, hl, hg2⟩
    have HS2 := Lib.hid (sat_new HT.out hl hg2)
    have HL2 := Lib.hid hl; have HG2 := Lib.hid hg2
    clear hl hg2
    go_wp2_with fail
    refine (HN2.out _).mono ?_
    rintro e w3 ⟨r, bl, cr, dv, vv, vs, own2, rfl, hl3, hg3⟩
    have HP3 := Lib.hid (show Pl W w3 (W.alloc (.cells zeroCs 61)).heap.size b W.heap.size w2.heap.size r (plain m fun _ => DiskSpec.zeros) (plain m fun _ => DiskSpec.zeros) own1 own2 from
      ⟨HS2.out.quiet hg3, ⟨bl, cr, dv, vv, vs, hl3⟩, fun i hi h1 => by
        have h2 := hl3.low i hi
        rcases h1 with h1 | rfl
        · have := HL2.out.lt i h1; omega
        · have := tab_lt HT.out; have := HG2.out.size; omega,
       (HG0.out.trans HG2.out).trans hg3, Nat.le_refl _, by simp, by have := (HG0.out.trans HG2.out).size; exact this, hg3.size⟩)
    clear hl3 hg3 HN1 HN2 HS2 HL2 HG2 HT HG0
    generalize (W.alloc (.cells zeroCs 61)).heap.size = B at *
    generalize w2.heap.size = B2 at *
    generalize htb : W.heap.size = tb at HP3 ⊢
    have HTB := Lib.hid htb
    clear htb
    go_wp2_with fail
    refine (known_any _).mono ?_
    rintro e w4 ⟨rfl, hg⟩
    have HP4 := Lib.hid (HP3.out.quiet hg)
    clear hg HP3
    have HV0 := Lib.hid (show NoVer (plain m fun _ => DiskSpec.zeros) from fun _ => rfl)
    generalize (plain m fun _ => DiskSpec.zeros) = S0 at *
    go_wp2_with fail
    go_loopw [10] (fun i wr => ∃ (j : Nat) (S : St) (p1 p2 : Nat → Prop), j ≤ n ∧ i = .int .i64 j ∧ Pl W wr B b tb B2 r S S p1 p2 ∧ NoVer S) (fun i _ => n - (Go.RowKit.intOf i).toNat)
    case atStart => exact ⟨0, S0, _, _, Nat.zero_le _, rfl, HP4.out, HV0.out⟩
    case round =>
      clear HP4 HV0
      obtain ⟨j, S, p1, p2, hj, rfl, hp, hv⟩ := hrel
      have HP := Lib.hid hp; have HV := Lib.hid hv
      clear hp hv
      obtain ⟨q0, q1, q2, q3, q4, q5, q6, hlv⟩ := loadV_list S
      have LDA := Lib.hid (fun wx (hx : SAt wx B b tb S p1) => load_any hx)
      have LDB := Lib.hid (fun wx (hx : RAt wx B2 r S p2) => ref_load_any hx)
      rw [hlv] at LDA LDB
      have HVL := Lib.hid HV.out.load
      clear hlv
      generalize loadE S = le at *
      generalize loadT S = LT at *
      by_cases hlt : j < n
      · obtain ⟨g, off, rfl, kd, a0, a1, a2, a3, a4, a5, a6, at_, fl, AP, np, cp, l, hpi, hnp, e0, e1, e2, e3, e4, e5, e6, e7, e8, e9, e10⟩ := HSU.out.at_ HP.out.below hlt
        have hjn : (j : Int) < (n : Int) := by omega
        have HPI := Lib.hid hpi
        have hnp2 : np ≤ 9223372036854775807 := by unfold maxLen at hnp; omega
        have hb := Blk.new wr 37 #[.int .i64 kd, .int .i64 a0, .int .i64 a1, .int .i64 a2, .int .i64 a3, .int .i64 a4, .int .i64 a5, .int .i64 a6, .int .i64 at_, .int .i64 fl, .slice AP np cp]
        have HB := Lib.hid hb
        have HOB := Lib.hid (HP.out.out (Nat.le_refl _))
        have HP1 := Lib.hid (HP.out.quiet (World.grownBy_alloc wr (.cells #[.int .i64 kd, .int .i64 a0, .int .i64 a1, .int .i64 a2, .int .i64 a3, .int .i64 a4, .int .i64 a5, .int .i64 a6, .int .i64 at_, .int .i64 fl, .slice AP np cp] 37) none))
        have k0 := hb.cell 0
        simp only [List.getElem?_toArray, List.getElem?_cons_zero] at k0
        clear hpi hb hnp HP
        by_cases hk0 : kd = 0
        · subst hk0
          have HKEEP := Lib.hid (show ∀ wx, Blk wx wr.heap.size 37 #[.int .i64 0, .int .i64 a0, .int .i64 a1, .int .i64 a2, .int .i64 a3, .int .i64 a4, .int .i64 a5, .int .i64 a6, .int .i64 at_, .int .i64 fl, .slice AP np cp] → wx.cell? ⟨wr.heap.size, 1, none⟩ = some (.int .i64 a0) ∧ wx.cell? ⟨wr.heap.size, 2, none⟩ = some (.int .i64 a1) ∧ wx.cell? ⟨wr.heap.size, 3, none⟩ = some (.int .i64 a2) ∧ wx.cell? ⟨wr.heap.size, 4, none⟩ = some (.int .i64 a3) ∧ wx.cell? ⟨wr.heap.size, 5, none⟩ = some (.int .i64 a4) ∧ wx.cell? ⟨wr.heap.size, 6, none⟩ = some (.int .i64 a5) ∧ wx.cell? ⟨wr.heap.size, 7, none⟩ = some (.int .i64 a6) from fun wx hb => ⟨by rw [hb.cell]; rfl, by rw [hb.cell]; rfl, by rw [hb.cell]; rfl, by rw [hb.cell]; rfl, by rw [hb.cell]; rfl, by rw [hb.cell]; rfl, by rw [hb.cell]; rfl⟩)
          have HPd := Lib.hid (HP1.out.quiet (grown_drew _ none))
          have HBd := Lib.hid (HB.out.drew)
          have HSA := Lib.hid (save_any HPd.out.s a0 a1 a2 a3 a4 a5 a6 HV.out.room)
          have HRA := Lib.hid (fun wx (hx : RAt wx B2 r S p2) (hB : B2 ≤ wx.heap.size) => ref_save_any hx a0 a1 a2 a3 a4 a5 a6 HV.out.room hB)
          have HVS := Lib.hid (HV.out.save [a0, a1, a2, a3, a4, a5, a6])
          generalize saveE S [a0, a1, a2, a3, a4, a5, a6] = sv at *
          have hee : decide (sv.1 = sv.1) = true := by simp
          generalize hs1 : sv.1 = ee at *
          clear hs1
          go_wp2_with fail
          go_region_held3 (fun wx => wx.cell? ⟨wr.heap.size, 1, none⟩ = some (.int .i64 a0) ∧ wx.cell? ⟨wr.heap.size, 2, none⟩ = some (.int .i64 a1) ∧ wx.cell? ⟨wr.heap.size, 3, none⟩ = some (.int .i64 a2) ∧ wx.cell? ⟨wr.heap.size, 4, none⟩ = some (.int .i64 a3) ∧ wx.cell? ⟨wr.heap.size, 5, none⟩ = some (.int .i64 a4) ∧ wx.cell? ⟨wr.heap.size, 6, none⟩ = some (.int .i64 a5) ∧ wx.cell? ⟨wr.heap.size, 7, none⟩ = some (.int .i64 a6))
            (first
              | exact HKEEP.out _ HBd.out
              | exact HKEEP.out _ HB2.out
              | exact HKEEP.out _ HB3.out)
            (first
              | (go_at_call 8
                 refine HSA.out.mono ?_
                 rintro e w5 ⟨rfl, own5, hs, ht⟩
                 have HP5 := Lib.hid (HPd.out.first hs ht)
                 have hbt := blk_turn' HBd.out HOB.out.1 ht
                 have HB2 := Lib.hid hbt.1
                 clear hs ht hbt)
              | (go_at_call 9
                 refine (HRA.out _ HP5.out.r HP5.out.l2).mono ?_
                 rintro e w6 ⟨rfl, own6, hr, ht⟩
                 have HP6 := Lib.hid (HP5.out.second hr ht)
                 have hbt := blk_turn' HB2.out HOB.out.2 ht
                 have HB3 := Lib.hid hbt.1
                 clear hr ht hbt))
          go_wp2_with fail
          go_roundw
          case rel => exact ⟨j + 1, sv.2, _, _, by omega, by go_num, HP6.out, HVS.out⟩
          case measure => simp [Go.RowKit.intOf]; omega
        · by_cases hk1 : kd = 1
          · subst hk1
            go_wp2_with fail
            refine (LDA.out _ HP1.out.s).mono ?_
            rintro e w5 ⟨rfl, hs, ht⟩
            rw [show supV [q0, q1, q2, q3, q4, q5, q6] = .agg #[.int .i64 q0, .int .i64 q1, .int .i64 q2, .int .i64 q3, .int .i64 q4, .int .i64 q5, .int .i64 q6] from rfl]
            have hga := World.grownBy_alloc w5 (.cells #[.int .i64 q0, .int .i64 q1, .int .i64 q2, .int .i64 q3, .int .i64 q4, .int .i64 q5, .int .i64 q6] 34) none
            have hpa := HP1.out.first hs ht
            have HOX := Lib.hid (hpa.out (Nat.le_refl _))
            have HPA := Lib.hid (hpa.quiet hga); have HBA := Lib.hid (Blk.new w5 34 #[.int .i64 q0, .int .i64 q1, .int .i64 q2, .int .i64 q3, .int .i64 q4, .int .i64 q5, .int .i64 q6])
            clear hs ht hga hpa
            go_wp2_with fail
            refine (LDB.out _ HPA.out.r).mono ?_
            rintro e w6 ⟨rfl, hr, ht⟩
            rw [show supV [q0, q1, q2, q3, q4, q5, q6] = .agg #[.int .i64 q0, .int .i64 q1, .int .i64 q2, .int .i64 q3, .int .i64 q4, .int .i64 q5, .int .i64 q6] from rfl]
            have hgb := World.grownBy_alloc w6 (.cells #[.int .i64 q0, .int .i64 q1, .int .i64 q2, .int .i64 q3, .int .i64 q4, .int .i64 q5, .int .i64 q6] 34) none
            obtain ⟨hbb, _⟩ := blk_turn' HBA.out HOX.out.2 ht
            have HPB := Lib.hid ((HPA.out.second hr ht).quiet hgb)
            have hb1 := hbb.grown hgb (by simp)
            have hb2 := Blk.new w6 34 #[.int .i64 q0, .int .i64 q1, .int .i64 q2, .int .i64 q3, .int .i64 q4, .int .i64 q5, .int .i64 q6]
            have x0 := hb1.cell 0; have x1 := hb1.cell 1; have x2 := hb1.cell 2; have x3 := hb1.cell 3; have x4 := hb1.cell 4; have x5 := hb1.cell 5; have x6 := hb1.cell 6
            simp only [List.getElem?_toArray, List.getElem?_cons_zero, List.getElem?_cons_succ] at x0 x1 x2 x3 x4 x5 x6
            have y0 := hb2.cell 0; have y1 := hb2.cell 1; have y2 := hb2.cell 2; have y3 := hb2.cell 3; have y4 := hb2.cell 4; have y5 := hb2.cell 5; have y6 := hb2.cell 6
            simp only [List.getElem?_toArray, List.getElem?_cons_zero, List.getElem?_cons_succ] at y0 y1 y2 y3 y4 y5 y6
            clear hr ht hgb hbb hb1 hb2 HPA HBA HOX
            have hle : decide (le = le) = true := by simp
            go_wp2_with fail
            go_roundw
            case rel => exact ⟨j + 1, LT, _, _, by omega, by go_num, HPB.out, HVL.out⟩
            case measure => simp [Go.RowKit.intOf]; omega
          · by_cases hk2 : kd = 2
            · subst hk2
              have z0 := HB.out.cell 0; have z1 := HB.out.cell 1; have z2 := HB.out.cell 2; have z3 := HB.out.cell 3; have z4 := HB.out.cell 4; have z5 := HB.out.cell 5; have z6 := HB.out.cell 6; have z7 := HB.out.cell 7; have z8 := HB.out.cell 8; have z9 := HB.out.cell 9; have z10 := HB.out.cell 10
              simp only [List.getElem?_toArray, List.getElem?_cons_zero, List.getElem?_cons_succ] at z0 z1 z2 z3 z4 z5 z6 z7 z8 z9 z10
              go_wp2_with fail
              refine (spoil_any HP1.out HV.out 2 a0 a1 a2 a3 a4 a5 a6 at_ fl AP np cp).mono ?_
              rintro e w5 ⟨rfl, S', o1', o2', hp', hv'⟩
              have HP5 := Lib.hid hp'; have HV5 := Lib.hid hv'
              clear hp' hv'
              go_wp2_with fail
              go_roundw
              case rel => exact ⟨j + 1, S', _, _, by omega, by go_num, HP5.out, HV5.out⟩
              case measure => simp [Go.RowKit.intOf]; omega
            · by_cases hk3 : kd = 3
              · subst hk3
                have htm := tmod2 at_
                have hw : IntKind.i64.wrap (1 + at_.tmod 2) = 1 + at_.tmod 2 := IntWalk.i64_in _ (by omega)
                have HKEEP := Lib.hid (show ∀ wx, Blk wx wr.heap.size 37 #[.int .i64 3, .int .i64 a0, .int .i64 a1, .int .i64 a2, .int .i64 a3, .int .i64 a4, .int .i64 a5, .int .i64 a6, .int .i64 at_, .int .i64 fl, .slice AP np cp] → wx.cell? ⟨wr.heap.size, 8, none⟩ = some (.int .i64 at_) ∧ wx.cell? ⟨wr.heap.size, 9, none⟩ = some (.int .i64 fl) from fun wx hb => ⟨by rw [hb.cell]; rfl, by rw [hb.cell]; rfl⟩)
                have HPd := Lib.hid (HP1.out.quiet (grown_drew _ none))
                have HBd := Lib.hid (HB.out.drew)
                have HSA := Lib.hid (fail_s1 HPd.out.s (1 + at_.tmod 2) fl)
                have HRA := Lib.hid (fun wx (hx : RAt wx B2 r S p2) => ref_fail_all hx (1 + at_.tmod 2) fl)
                have HVS := Lib.hid (HV.out.fail (1 + at_.tmod 2) fl)
                generalize failE S (1 + at_.tmod 2) fl = sv at *
                have hee : decide (sv.1 = sv.1) = true := by simp
                generalize hs1 : sv.1 = ee at *
                clear hs1
                go_wp2_with fail
                go_region_held3 (fun wx => wx.cell? ⟨wr.heap.size, 8, none⟩ = some (.int .i64 at_) ∧ wx.cell? ⟨wr.heap.size, 9, none⟩ = some (.int .i64 fl))
                  (first
                    | exact HKEEP.out _ HBd.out
                    | exact HKEEP.out _ HB2.out
                    | exact HKEEP.out _ HB3.out)
                  (first
                    | (go_at_call 13
                       refine HSA.out.mono ?_
                       rintro e w5 ⟨rfl, hs, ht⟩
                       have HP5 := Lib.hid (HPd.out.first hs ht)
                       have hbt := blk_turn' HBd.out HOB.out.1 ht
                       have HB2 := Lib.hid hbt.1
                       clear hs ht hbt)
                    | (go_at_call 14
                       refine (HRA.out _ HP5.out.r).mono ?_
                       rintro e w6 ⟨rfl, hr, ht⟩
                       have HP6 := Lib.hid (HP5.out.second hr ht)
                       have hbt := blk_turn' HB2.out HOB.out.2 ht
                       have HB3 := Lib.hid hbt.1
                       clear hr ht hbt))
                go_wp2_with fail
                go_roundw
                case rel => exact ⟨j + 1, sv.2, _, _, by omega, by go_num, HP6.out, HVS.out⟩
                case measure => simp [Go.RowKit.intOf]; omega
              · by_cases hk4 : kd = 4
                · subst hk4
                  have k10 := HB.out.cell 10
                  simp only [List.getElem?_toArray, List.getElem?_cons_zero, List.getElem?_cons_succ] at k10
                  have HC1 := Lib.hid (crash_s1 HP1.out.s AP np cp l (HPI.out.picks HP1.out.below HP1.out.low1) hnp2 HV.out.room)
                  go_wp2_with fail
                  refine HC1.out.mono ?_
                  rintro e w5 ⟨rfl, hs, ht⟩
                  have HP5 := Lib.hid (HP1.out.first hs ht)
                  obtain ⟨hb5, _⟩ := blk_turn' HB.out HOB.out.1 ht
                  have y10 := hb5.cell 10
                  simp only [List.getElem?_toArray, List.getElem?_cons_zero, List.getElem?_cons_succ] at y10
                  have HC2 := Lib.hid (ref_crash_all HP5.out.r AP np cp l (HPI.out.picks HP5.out.below HP5.out.low2) hnp2 HV.out.room)
                  clear hs ht hb5 HC1 k0 k10
                  go_wp2_with fail
                  refine HC2.out.mono ?_
                  rintro e w6 ⟨rfl, hr, ht⟩
                  have HP6 := Lib.hid (HP5.out.second hr ht)
                  clear hr ht HC2 y10
                  go_wp2_with fail
                  go_roundw
                  case rel => exact ⟨j + 1, S.crash l, _, _, by omega, by go_num, HP6.out, fun _ => rfl⟩
                  case measure => simp [Go.RowKit.intOf]; omega
                · go_wp2_with fail
                  go_roundw
                  case rel => exact ⟨j + 1, S, _, _, by omega, by go_num, HP1.out, HV.out⟩
                  case measure => simp [Go.RowKit.intOf]; omega
      · obtain rfl : j = n := by omega
        go_wp2_with fail
        refine (LDA.out _ HP.out.s).mono ?_
        rintro e w5 ⟨rfl, hs, ht⟩
        rw [show supV [q0, q1, q2, q3, q4, q5, q6] = .agg #[.int .i64 q0, .int .i64 q1, .int .i64 q2, .int .i64 q3, .int .i64 q4, .int .i64 q5, .int .i64 q6] from rfl]
        have hga := World.grownBy_alloc w5 (.cells #[.int .i64 q0, .int .i64 q1, .int .i64 q2, .int .i64 q3, .int .i64 q4, .int .i64 q5, .int .i64 q6] 34) none
        have hpa := HP.out.first hs ht
        have HOX := Lib.hid (hpa.out (Nat.le_refl _))
        have HPA := Lib.hid (hpa.quiet hga); have HBA := Lib.hid (Blk.new w5 34 #[.int .i64 q0, .int .i64 q1, .int .i64 q2, .int .i64 q3, .int .i64 q4, .int .i64 q5, .int .i64 q6])
        clear hs ht hga hpa
        go_wp2_with fail
        refine (LDB.out _ HPA.out.r).mono ?_
        rintro e w6 ⟨rfl, hr, ht⟩
        rw [show supV [q0, q1, q2, q3, q4, q5, q6] = .agg #[.int .i64 q0, .int .i64 q1, .int .i64 q2, .int .i64 q3, .int .i64 q4, .int .i64 q5, .int .i64 q6] from rfl]
        have hgb := World.grownBy_alloc w6 (.cells #[.int .i64 q0, .int .i64 q1, .int .i64 q2, .int .i64 q3, .int .i64 q4, .int .i64 q5, .int .i64 q6] 34) none
        obtain ⟨hbb, _⟩ := blk_turn' HBA.out HOX.out.2 ht
        have HPB := Lib.hid ((HPA.out.second hr ht).quiet hgb)
        have hb1 := hbb.grown hgb (by simp)
        have hb2 := Blk.new w6 34 #[.int .i64 q0, .int .i64 q1, .int .i64 q2, .int .i64 q3, .int .i64 q4, .int .i64 q5, .int .i64 q6]
        have x0 := hb1.cell 0; have x1 := hb1.cell 1; have x2 := hb1.cell 2; have x3 := hb1.cell 3; have x4 := hb1.cell 4; have x5 := hb1.cell 5; have x6 := hb1.cell 6
        simp only [List.getElem?_toArray, List.getElem?_cons_zero, List.getElem?_cons_succ] at x0 x1 x2 x3 x4 x5 x6
        have y0 := hb2.cell 0; have y1 := hb2.cell 1; have y2 := hb2.cell 2; have y3 := hb2.cell 3; have y4 := hb2.cell 4; have y5 := hb2.cell 5; have y6 := hb2.cell 6
        simp only [List.getElem?_toArray, List.getElem?_cons_zero, List.getElem?_cons_succ] at y0 y1 y2 y3 y4 y5 y6
        clear hr ht hgb hbb hb1 hb2 HPA HBA HOX
        have hle : decide (le = le) = true := by simp
        go_wp2_with fail
        go_ret
        exact ⟨rfl, HPB.out.below⟩
end Go.Proofs.YtagikgejhckfbaaGreat.SuperPlays
