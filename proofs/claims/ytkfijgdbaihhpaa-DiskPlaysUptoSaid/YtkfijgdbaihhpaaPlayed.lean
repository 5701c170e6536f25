/- Scripts on disks of any size: what the law DiskPlays asks between its steps. -/
import Derived.Test.YtkfijgdbaihhpaaDiskFlushedWalk
namespace Go.Proofs.Ytkfijgdbaihhpaa.Dsk
open Go.RowKit Mem Crc DiskSpec

theorem Script.at2 {W wr : World} {A : Option Addr} {n : Nat} {ops : List OpR} (h : Script W A n ops) (hb : Below W.heap.size W wr) {j : Nat} {x : OpR} (hx : ops[j]? = some x) : ∃ (g off : Nat), A = some ⟨g, off, none⟩ ∧
    wr.cell? ⟨g, off + j * 7 + 6, none⟩ = some (.slice x.A x.n x.c) := by
  have hjl := (List.getElem?_eq_some_iff.1 hx).1
  obtain ⟨g, off, rfl, hlt, hc⟩ := h.2.2 (by rw [← h.1]; omega)
  refine ⟨g, off, rfl, ?_⟩
  rw [World.cell?_of_block (a := ⟨g, off + j * 7 + 6, none⟩) (hb.block g hlt)]; exact hc j _ hx 6 _ rfl
theorem first_picks : ∀ ops : List OpR, ∃ k, k ≤ ops.length ∧ (∀ j x, j < k → ops[j]? = some x → x.n = 0) ∧ (k < ops.length → ∃ x, ops[k]? = some x ∧ 0 < x.n)
  | [] => ⟨0, Nat.le_refl _, fun _ _ h => by omega, fun h => by simp at h⟩
  | y :: ops => by
    by_cases hy : y.n = 0
    · obtain ⟨k, h1, h2, h3⟩ := first_picks ops
      refine ⟨k + 1, by simp; omega, fun j x hj hx => ?_, fun h => ?_⟩
      · cases j with
        | zero => simp at hx; subst hx; exact hy
        | succ j => exact h2 j x (by omega) (by simpa using hx)
      · obtain ⟨x, hx, hp⟩ := h3 (by simpa using h)
        exact ⟨x, by simpa using hx, hp⟩
    · exact ⟨0, Nat.zero_le _, fun _ _ h => by omega, fun _ => ⟨y, rfl, by omega⟩⟩
set_option maxRecDepth 100000 in
set_option maxHeartbeats 1600000 in
theorem picks_of {W : World} {A : Option Addr} {n c : Nat} {ops : List OpR} (h : Script W A n ops) (hn : n ≤ 1048576) : ∃ A2 n2 c2 picks, PIn W A2 n2 picks ∧ n2 ≤ maxLen ∧
    ∀ wr, Below W.heap.size W wr → Calls Try.prog 17 #[.slice A n c] wr fun e w' => e = .returned (.slice A2 n2 c2) ∧ wr = w' := by
  obtain ⟨k, hk, hz, hp⟩ := first_picks ops
  rw [h.1] at hk hp
  have HZ := Lib.hid hz
  have HS := Lib.hid h
  by_cases hkn : k < n
  · obtain ⟨x, hx, hpos⟩ := hp hkn
    have hok := h.2.1 x (List.mem_of_getElem? hx)
    refine ⟨x.A, x.n, x.c, x.picks, hok.picks, hok.n, fun wr hb => ?_⟩
    have HX := Lib.hid hx; have HB := Lib.hid hb
    have hd : decide ((0 : Int) < (x.n : Int)) = true := decide_eq_true (by omega)
    clear hz hp hx hok h hb
    go_enter Try.func17, Try.ntmps17
    go_wp2_with fail
    go_loopw [3] (fun i w' => ∃ j : Nat, j ≤ k ∧ i = .int .i64 j ∧ w' = wr) (fun i _ => n - (Go.RowKit.intOf i).toNat)
    case atStart => exact ⟨0, Nat.zero_le _, rfl, rfl⟩
    case round =>
      obtain ⟨j, hj, rfl, rfl⟩ := hrel
      by_cases hjk : j < k
      · have hjl : j < ops.length := by have := HS.out.1; omega
        have hx0 := HZ.out j _ hjk (List.getElem?_eq_getElem hjl)
        obtain ⟨g, off, rfl, hc⟩ := HS.out.at2 HB.out (List.getElem?_eq_getElem hjl)
        rw [hx0] at hc
        have hjn : (j : Int) < (n : Int) := by omega
        clear hx0 hd
        go_wp2_with fail
        go_roundw
        case rel => exact ⟨j + 1, by omega, by go_num, trivial⟩
        case measure => simp [Go.RowKit.intOf]; omega
      · obtain rfl : j = k := by omega
        obtain ⟨g, off, rfl, hc⟩ := HS.out.at2 HB.out HX.out
        have hjn : (j : Int) < (n : Int) := by omega
        go_wp2
        go_ret
        exact ⟨rfl, rfl⟩
  · obtain rfl : k = n := by omega
    refine ⟨none, 0, 0, [], ⟨rfl, by simp, by omega⟩, by simp [maxLen], fun wr hb => ?_⟩
    have HB := Lib.hid hb
    clear hz hp h hb
    go_enter Try.func17, Try.ntmps17
    go_wp2_with fail
    go_loopw [3] (fun i w' => ∃ j : Nat, j ≤ k ∧ i = .int .i64 j ∧ w' = wr) (fun i _ => k - (Go.RowKit.intOf i).toNat)
    case atStart => exact ⟨0, Nat.zero_le _, rfl, rfl⟩
    case round =>
      obtain ⟨j, hj, rfl, rfl⟩ := hrel
      by_cases hjk : j < k
      · have hjl : j < ops.length := by have := HS.out.1; omega
        have hx0 := HZ.out j _ hjk (List.getElem?_eq_getElem hjl)
        obtain ⟨g, off, rfl, hc⟩ := HS.out.at2 HB.out (List.getElem?_eq_getElem hjl)
        rw [hx0] at hc
        have hjn : (j : Int) < (k : Int) := by omega
        clear hx0
        go_wp2_with fail
        go_roundw
        case rel => exact ⟨j + 1, by omega, by go_num, trivial⟩
        case measure => simp [Go.RowKit.intOf]; omega
      · obtain rfl : j = k := by omega
        go_wp2
        go_ret
        exact ⟨rfl, rfl⟩
theorem nats_in {w w' : World} {base n : Nat} {v : Value} {l : List Nat} (h : Own w base 3 1 v n (nats l)) (hg : w.grownBy w' none) : ∃ A c, v = .slice A l.length c ∧ NatsIn w' A l.length l := by
  obtain ⟨rfl, A, c, rfl, hc⟩ := own_nats h
  refine ⟨A, c, rfl, rfl, fun hn => ?_⟩
  obtain ⟨g, rfl, _, hlt, _⟩ := hc 0 hn
  refine ⟨g, 0, rfl, Nat.lt_of_lt_of_le hlt hg.size, fun j hj => ?_⟩
  obtain ⟨g', e, _, _, hcj⟩ := hc j hj
  cases e
  rw [Nat.zero_add, World.cell?_of_block (a := ⟨g, j, none⟩) (hg.block g hlt (by simp))]
  exact hcj
/-- Where the law stands: any size. -/
structure PlayedN (W wr : World) (b r j m : Nat) (S : St) (o1 o2 : Nat → Prop) : Prop where
  two : Two wr W.heap.size b r S o1 o2
  ver : ∀ k, (S.ver k).length ≤ j
  n : S.n = m
  below : Below W.heap.size W wr
theorem PlayedN.start {W w1 w2 w3 : World} {b r m : Nat} {o1 o2 : Nat → Prop} (hd : DAt w1 W.heap.size b (St.new m) o1) (h1 : W.grownBy w1 none) (hr : RAt w2 w1.heap.size r (St.new m) o2) (h2 : w1.grownBy w2 none) (h3 : w2.grownBy w3 none) : PlayedN W w3 b r 0 m (St.new m) o1 o2 where
  two := ⟨hd.far (Turn.none_ (own := fun _ => False) (h2.trans h3)) (fun _ _ e => e), (hr.weak h1.size).far (Turn.none_ (own := fun _ => False) h3) (fun _ _ e => e), fun i hi ho => by have := hd.lt i hi; have := hr.least i ho; omega, Nat.le_trans h1.size (Nat.le_trans h2.size h3.size)⟩
  ver := fun _ => Nat.le_refl _
  n := rfl
  below := (Below.refl _ W).grown ((h1.trans h2).trans h3) (Nat.le_refl _) (fun _ e => by cases e)
theorem PlayedN.grown {W wr w' : World} {b r j m : Nat} {S : St} {o1 o2 : Nat → Prop} (h : PlayedN W wr b r j m S o1 o2) (hg : wr.grownBy w' none) : PlayedN W w' b r j m S o1 o2 :=
  ⟨h.two.grown hg, h.ver, h.n, h.below.grown hg h.below.size (fun _ e => by cases e)⟩
theorem PlayedN.next {W wr w' : World} {b r j j' m : Nat} {S S' : St} {o1 o2 o1' o2' : Nat → Prop} (h : PlayedN W wr b r j m S o1 o2) (h2 : Two w' W.heap.size b r S' o1' o2') (ht : Turn wr w' (both o1 o2) (both o1' o2')) (hv : ∀ k, (S'.ver k).length ≤ j') (hn : S'.n = S.n) : PlayedN W w' b r j' m S' o1' o2' :=
  ⟨h2, hv, hn.trans h.n, h.below.trans (ht.below (fun i hi => by rcases hi with hi | hi; exact h.two.d.least i hi; exact h.two.r.least i hi) h.two.low)⟩
theorem PlayedN.does {W wr : World} {b r j m : Nat} {S : St} {o1 o2 : Nat → Prop} (h : PlayedN W wr b r j m S o1 o2) (hj : j ≤ 1048576) (x : OpR) (hx : x.ok W) :
    Calls Try.prog 12 #[.pointer (some ⟨b, 0, none⟩), .pointer (some ⟨r, 0, none⟩), .agg #[.int .i64 x.kind, .int .i64 x.at_, .int .i64 x.count, .int .i64 x.bytes, .int .i64 x.fill, .bool x.fua, .slice x.A x.n x.c]] wr fun e w' => e = .returned (.bool true) ∧ ∃ S' o1' o2', PlayedN W w' b r (j + 1) m S' o1' o2' := by
  refine (does_any h.two x.kind x.at_ x.count x.bytes x.fill x.fua x.A x.n x.c x.picks hx.at_ hx.count (hx.picks.picks h.below h.two.d.least) (hx.picks.picks h.below h.two.r.least) (by have := hx.n; unfold maxLen at this; omega) (fun i => by have := h.ver i; omega)).mono ?_
  rintro e w' ⟨rfl, o1', o2', h1, h2⟩
  exact ⟨rfl, _, o1', o2', h.next h1 h2 (fun k => step_len S _ _ _ _ _ _ _ k j (h.ver k)) (step_n _ _ _ _ _ _ _ _)⟩
/-- The two lists of dirty sectors, and that they are the same. -/
theorem PlayedN.dirty1 {W wr : World} {b r j m : Nat} {S : St} {o1 o2 : Nat → Prop} (h : PlayedN W wr b r j m S o1 o2) :
    Calls Try.prog 14 #[.pointer (some ⟨b, 0, none⟩)] wr fun e w' => ∃ v, e = .returned v ∧ Own w' wr.heap.size 3 1 v S.dirty.length (nats S.dirty) ∧ wr.grownBy w' none := by
  obtain ⟨bd, bm, f, hl⟩ := h.two.d
  refine (disk_dirty hl).mono ?_
  rintro e w' ⟨v, rfl, hrow, hg⟩
  exact ⟨v, rfl, .inl hrow, hg⟩
theorem PlayedN.dirty2 {W wr : World} {b r j m : Nat} {S : St} {o1 o2 : Nat → Prop} (h : PlayedN W wr b r j m S o1 o2) :
    Calls Try.prog 15 #[.pointer (some ⟨r, 0, none⟩)] wr fun e w' => ∃ v, e = .returned v ∧ Own w' wr.heap.size 3 1 v S.dirty.length (nats S.dirty) ∧ wr.grownBy w' none := by
  obtain ⟨bl, c, dv, vv, vs, hl⟩ := h.two.r
  exact ref_dirty hl
theorem PlayedN.len {W wr : World} {b r j m : Nat} {S : St} {o1 o2 : Nat → Prop} (h : PlayedN W wr b r j m S o1 o2) : ∃ bl c, wr.cell? ⟨r, 0, none⟩ = some (.slice (some ⟨bl, 0, none⟩) m c) := by
  obtain ⟨bl, c, dv, vv, vs, hl⟩ := h.two.r
  exact ⟨bl, c, by rw [← h.n]; exact hl.rc⟩
theorem PlayedN.size {W wr : World} {b r j m : Nat} {S : St} {o1 o2 : Nat → Prop} (h : PlayedN W wr b r j m S o1 o2) :
    Calls Try.prog 21 #[.pointer (some ⟨b, 0, none⟩)] wr fun e w' => e = .returned (.int .i64 (m : Nat)) ∧ wr = w' := by
  obtain ⟨bd, bm, f, hl⟩ := h.two.d
  rw [← h.n]
  exact disk_size hl
end Go.Proofs.Ytkfijgdbaihhpaa.Dsk
