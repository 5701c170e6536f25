/- Texts of this seat's proofs: LogMay, LogRecord, LogWrite, LogAppend, LogRead, StoMem. -/
import Derived.Test.YteaokeiolgjhaaaGreatPLogSmall
import Derived.Test.YteaokeiolgjhaaaGreatPCodecPagePut
import Derived.Test.YteaokeiolgjhaaaGreatPCodecSpec
import Derived.Deep.RegionHeld3
import Derived.ArgAppend
import Derived.Deep.DeepCutAuto
/- mayBeWritten of package log. -/
namespace Go.Proofs.YteaokeiolgjhaaaGreat.Log
open Go.RowKit CrcMath CodecMath Mem Crc Codec DiskSpec Dsk Sup

theorem zero1024 (w : World) : (zeroValue 236).run Tryz.prog w = .ok (.agg (Array.replicate 1024 (.bool false))) w := by kernel_rfl
/-- Where mayBeWritten stands at image j. -/
structure MayAt (w wr : World) (g b tb : Nat) (L : Lg) (A : Option Addr) (n : Nat) (l : List Img) (j : Nat) : Prop where
  gr : w.grownBy wr (some tb)
  t : Tab wr tb
  r : (Ready w tb ∨ 0 < j) → Ready wr tb
  lb : LBlk wr g L b tb
  im : Imgs wr (From (· = tb) w.heap.size) A n l
  sn : ∃ cs, Blk wr w.heap.size 236 cs ∧ ∀ k : Nat, k < 1024 → cs[k]? = some (.bool ((seenOf l j).contains (k : Int)))
  ne : g ≠ tb
  lt : tb < w.heap.size
theorem MayAt.quiet {w wr w' : World} {g b tb : Nat} {L : Lg} {A : Option Addr} {n : Nat} {l : List Img} {j : Nat} (h : MayAt w wr g b tb L A n l j) (hg : wr.grownBy w' none) : MayAt w w' g b tb L A n l j :=
  ⟨h.gr.trans (grown_any_row hg (some tb)), tab_keep h.t hg (by simp), fun hr => (h.r hr).keep hg (by simp), h.lb.grown hg (by simp), h.im.turn (Turn.none_ hg), by
    obtain ⟨cs, h1, h2⟩ := h.sn
    exact ⟨cs, h1.grown hg (by simp), h2⟩, h.ne, h.lt⟩
theorem MayAt.table {w wr w' : World} {g b tb : Nat} {L : Lg} {A : Option Addr} {n : Nat} {l : List Img} {j : Nat} (h : MayAt w wr g b tb L A n l j) (hg : wr.grownBy w' (some tb)) (hr : Ready w' tb) : MayAt w w' g b tb L A n l j :=
  ⟨h.gr.trans hg, .inr hr, fun _ => hr, h.lb.grown hg (by simpa using h.ne), h.im.turn (Turn.of_grown hg (fun _ e => by cases e; exact .inl rfl)), by
    obtain ⟨cs, h1, h2⟩ := h.sn
    exact ⟨cs, h1.grown hg (by have := h.lt; simp; omega), h2⟩, h.ne, h.lt⟩
theorem MayAt.cell {w wr : World} {g b tb : Nat} {L : Lg} {A : Option Addr} {n : Nat} {l : List Img} {j : Nat} (h : MayAt w wr g b tb L A n l j) (k : Nat) (hk : k < 1024) :
    wr.cell? ⟨w.heap.size, k, none⟩ = some (.bool ((seenOf l j).contains (k : Int))) ∧ wr.frozen? ⟨w.heap.size, k, none⟩ = false := by
  obtain ⟨cs, h1, h2⟩ := h.sn
  exact ⟨by rw [h1.cell]; exact h2 k hk, h1.frozen k⟩
theorem MayAt.see {w wr : World} {g b tb : Nat} {L : Lg} {A : Option Addr} {n : Nat} {l : List Img} {j : Nat} (h : MayAt w wr g b tb L A n l j) (k : Nat) {x : Img} (hx : l[j]? = some x) (hxk : x.1 = (k : Int)) (hk : k < 1024) (hr : Ready wr tb) (hg0 : g < w.heap.size) :
    MayAt w (wr.setCell ⟨w.heap.size, k, none⟩ (.bool true)) g b tb L A n l (j + 1) := by
  obtain ⟨cs, h1, h2⟩ := h.sn
  have hg : wr.grownBy (wr.setCell ⟨w.heap.size, k, none⟩ (.bool true)) (some w.heap.size) := Lib.grownBy_setB (World.grownBy.refl wr _) k _
  have hlt := h.lt
  have hr' : Ready (wr.setCell ⟨w.heap.size, k, none⟩ (.bool true)) tb := hr.keep hg (by simp; omega)
  refine ⟨grownBy_new h.gr hg (fun _ e => by cases e; exact Nat.le_refl _), .inr hr', fun _ => hr', h.lb.grown hg (by simp; omega), h.im.turn (Turn.of_grown hg (fun _ e => by cases e; exact .inr (Nat.le_refl _))), ⟨_, h1.set_ k _, fun q hq => ?_⟩, h.ne, hlt⟩
  · rw [seenOf_succ l hx, hxk]
    have hks : k < cs.size := by
      rcases Nat.lt_or_ge k cs.size with h3 | h3
      · exact h3
      · have := h2 k hk; rw [Array.getElem?_eq_none h3] at this; cases this
    by_cases e : k = q
    · subst e
      rw [Array.getElem?_setIfInBounds_self_of_lt hks]
      simp
    · rw [Array.getElem?_setIfInBounds_ne e, h2 q hq]
      simp
      intro hh
      omega
set_option maxRecDepth 100000 in
set_option maxHeartbeats 3200000 in
theorem log_may {w : World} {g b tb : Nat} {L : Lg} (A : Option Addr) (n c : Nat) (l : List Img) (hlb : LBlk w g L b tb) (ht : Tab w tb) (him : Imgs w (· = tb) A n l) (hne : g ≠ tb) (hn : n ≤ 1099511627776) :
    Calls Tryz.prog 145 #[.pointer (some ⟨g, 0, none⟩), .slice A n c] w fun e w' => e = .returned (.bool (mayW [] l)) ∧ w.grownBy w' (some tb) ∧ Tab w' tb ∧ (Ready w tb → Ready w' tb) ∧ (mayW [] l = true → 0 < n → Ready w' tb) := by
  have hz := zero1024
  have hlen := him.len
  have hlbt := hlb.lt
  have H0 := Lib.hid (show MayAt w (w.alloc (.cells (Array.replicate 1024 (.bool false)) 236)) g b tb L A n l 0 from by
    have hg := World.grownBy_alloc w (.cells (Array.replicate 1024 (.bool false)) 236) none
    refine ⟨grown_any_row hg _, tab_keep ht hg (by simp), fun hr => ?_, hlb.grown hg (by simp), (him.from_ _ (Nat.le_refl _)).turn (Turn.none_ hg), ⟨_, Blk.new w _ _, fun k hk => ?_⟩, hne, tab_lt ht⟩
    · rcases hr with hr | hr
      · exact hr.keep hg (by simp)
      · omega
    · rw [Array.getElem?_replicate, if_pos hk]; rfl)
  have HLEN := Lib.hid hlen
  clear hlb ht him hlen
  generalize Array.replicate 1024 (Value.bool false) = zs at *
  go_enter Tryz.func145, Tryz.ntmps145
  go_wp2_with fail
  go_loopw [12] (fun i wr => ∃ j : Nat, j ≤ n ∧ i = .int .i64 j ∧ MayAt w wr g b tb L A n l j ∧ mayW [] l = mayW (seenOf l j) (l.drop j)) (fun i _ => n - (Go.RowKit.intOf i).toNat)
  case atStart => exact ⟨0, Nat.zero_le _, rfl, H0.out, rfl⟩
  case round =>
    clear H0 hz
    obtain ⟨j, hj, rfl, hm, hmw⟩ := hrel
    have HM := Lib.hid hm
    have HMW := Lib.hid hmw
    clear hm hmw
    by_cases hlt : j < n
    · have hjn : (j : Int) < (n : Int) := by omega
      obtain ⟨gi, o, ⟨x1, x2, x3⟩, Bx, mx, cx, rfl, hgi, hno, hx, e0, e1, e2, hmc, hdx⟩ := HM.out.im.at_ hlt
      dsimp only at e0 e1 e2 hdx
      have hstep := mayW_step l hx
      have HX := Lib.hid hx
      have HMA := Lib.hid (HM.out.quiet (World.grownBy_alloc wr (.cells #[.int .i64 x1, .int .i64 x2, .slice Bx mx cx] 109) none))
      have HDX := Lib.hid (data_bytes (b := tb) (Dsk.Data.turn hdx (Turn.none_ (World.grownBy_alloc wr (.cells #[.int .i64 x1, .int .i64 x2, .slice Bx mx cx] 109) none))) (.inl rfl))
      have HBX := Lib.hid (Blk.new wr 109 #[.int .i64 x1, .int .i64 x2, .slice Bx mx cx])
      clear hno hx hmc hdx
      have HGL := Lib.hid (show g < w.heap.size from hlbt)
      go_wp2_with fail
      generalize wr.alloc (.cells #[.int .i64 x1, .int .i64 x2, .slice Bx mx cx] 109) = wq at HMA HDX HBX ⊢
      have hkeep : ∀ wx, wq.grownBy wx (some tb) → wx.cell? ⟨g, 1, none⟩ = some (.pointer (some ⟨tb, 0, none⟩)) ∧ wx.cell? ⟨wr.heap.size, 0, none⟩ = some (.int .i64 x1) ∧ wx.cell? ⟨wr.heap.size, 1, none⟩ = some (.int .i64 x2) ∧ wx.cell? ⟨wr.heap.size, 2, none⟩ = some (.slice Bx mx cx) := by
        intro wx hg
        have hb := HBX.out.grown hg (by have := HM.out.lt; have := HM.out.gr.size; simp; omega)
        have hl := (HMA.out.lb.grown hg (by simpa using HM.out.ne)).cells
        exact ⟨hl.2.1, by rw [hb.cell]; rfl, by rw [hb.cell]; rfl, by rw [hb.cell]; rfl⟩
      have HKEEP := Lib.hid hkeep
      have HD0 := Lib.hid (grown_drew wq (some tb))
      have HST := Lib.hid hstep
      have HPP := Lib.hid (fun wx (hg : wq.grownBy wx none) => put_page_core tb tb (some tb) x1 x2 Bx mx cx x3 wx (.inr ⟨tab_keep HMA.out.t hg (by simp), rfl⟩) (HDX.out.keep (grown_any_row hg _)))
      clear hkeep hstep e0 e1 e2 hjn
      cases hio : imgOk (x1, x2, x3) with
      | false =>
        have HNO := Lib.hid (show mayW [] l = false by rw [HMW.out, HST.out, hio]; rfl)
        have HPW := Lib.hid (show pageW x1 x2 x3 = none by rw [pageW, show pageOk x1 x2 x3 = false from hio]; rfl)
        clear hio
        go_region_held3 (fun wx => wx.cell? ⟨g, 1, none⟩ = some (.pointer (some ⟨tb, 0, none⟩)) ∧ wx.cell? ⟨wr.heap.size, 0, none⟩ = some (.int .i64 x1) ∧ wx.cell? ⟨wr.heap.size, 1, none⟩ = some (.int .i64 x2) ∧ wx.cell? ⟨wr.heap.size, 2, none⟩ = some (.slice Bx mx cx))
          (first
            | exact HKEEP.out _ HD0.out
            | exact HKEEP.out _ HG1.out)
          (first
            | (go_at_call 53
               refine (HPP.out _ (grown_drew wq none)).mono ?_
               rintro e w3 ⟨hg3, ⟨_, _, ho, _⟩ | ⟨_, rfl, hgn⟩⟩
               case inl => rw [HPW.out] at ho; cases ho
               have HGN := Lib.hid ((grown_drew wq none).trans hgn)
               have HG1 := Lib.hid (grown_any_row HGN.out (some tb))
               clear hg3 hgn))
        go_wp2_with fail
        go_ret
        have hq := HMA.out.quiet HGN.out
        exact ⟨by rw [HNO.out]; rfl, hq.gr, hq.t, fun hr => hq.r (.inl hr), fun h => by rw [HNO.out] at h; cases h⟩
      | true =>
        obtain ⟨_, ⟨hx0, hx1⟩, _, _⟩ := imgOk_iff hio
        dsimp only at hx0 hx1
        have HPW := Lib.hid (show pageW x1 x2 x3 = some (frame (pageB x1 x2 x3)) by rw [pageW, show pageOk x1 x2 x3 = true from hio]; rfl)
        obtain ⟨k, rfl⟩ := Int.eq_ofNat_of_zero_le hx0
        have hk : k < 1024 := by omega
        have HIO := Lib.hid hio
        clear hio hx0 hx1
        go_region_held3 (fun wx => wx.cell? ⟨g, 1, none⟩ = some (.pointer (some ⟨tb, 0, none⟩)) ∧ wx.cell? ⟨wr.heap.size, 0, none⟩ = some (.int .i64 (k : Nat)) ∧ wx.cell? ⟨wr.heap.size, 1, none⟩ = some (.int .i64 x2) ∧ wx.cell? ⟨wr.heap.size, 2, none⟩ = some (.slice Bx mx cx))
          (first
            | exact HKEEP.out _ HD0.out
            | exact HKEEP.out _ HG1.out)
          (first
            | (go_at_call 53
               refine (HPP.out _ (grown_drew wq none)).mono ?_
               rintro e w3 ⟨hg3, ⟨lp, gp, ho, rfl, _, _, _, hr3⟩ | ⟨ho, _⟩⟩
               case inr => rw [HPW.out] at ho; cases ho
               have HG1 := Lib.hid (HD0.out.trans hg3)
               have HR3 := Lib.hid hr3
               clear hg3 ho hr3))
        have HM3 := Lib.hid (HMA.out.table HG1.out HR3.out)
        obtain ⟨hsc, hsf⟩ := HM3.out.cell k hk
        obtain ⟨_, y0, _, _⟩ := HKEEP.out _ HG1.out
        cases hse : (seenOf l j).contains (k : Int) with
        | true =>
          rw [hse] at hsc
          have HNO := Lib.hid (show mayW [] l = false by rw [HMW.out, HST.out, HIO.out]; simp only [hse]; rfl)
          clear hse
          go_wp2_with fail
          go_ret
          exact ⟨by rw [HNO.out]; rfl, HM3.out.gr, HM3.out.t, fun hr => HR3.out, fun _ _ => HR3.out⟩
        | false =>
          rw [hse] at hsc
          have HYS := Lib.hid (show mayW [] l = mayW (seenOf l (j + 1)) (l.drop (j + 1)) by rw [HMW.out, HST.out, HIO.out]; simp only [hse]; rfl)
          clear hse
          have HM4 := Lib.hid (HM3.out.see k HX.out rfl hk HR3.out HGL.out)
          go_wp2_with fail
          go_roundw
          case rel => exact ⟨j + 1, by omega, by go_num, HM4.out, HYS.out⟩
          case measure => simp [Go.RowKit.intOf]; omega
    · obtain rfl : j = n := by omega
      go_wp2
      go_ret
      have he := mayW_end l
      rw [HLEN.out, ← HMW.out] at he
      exact ⟨by rw [he]; rfl, HM.out.gr, HM.out.t, fun hr => HM.out.r (.inl hr), fun _ h0 => HM.out.r (.inr h0)⟩
end Go.Proofs.YteaokeiolgjhaaaGreat.Log
/- record of package log. -/
namespace Go.Proofs.YteaokeiolgjhaaaGreat.Log
open Go.RowKit CrcMath CodecMath Mem Crc Codec DiskSpec Dsk Sup

section
variable {P : Program} (w : World)
/-- Append onto a slice that is full: a new row. -/
theorem wpList_append_new {ops : Array Oper} {rest : List Oper} {o : Oper} {a : Act} {Q : Exit → Act → World → Prop} (hgd : o.guard = none) (s x : Operand) (t : TypeId)
    (ho : o.op = .call { callee := .builtin .append, args := #[s, x], argTypes := #[t, t] })
    (e : TypeId) (i : TypeInfo) (z : Value) (size bytes : Nat) (ht : P.underlying t = some (.slice e)) (hi : P.info? e = some i) (hz : i.zero = some z)
    (hsize : i.size = size) (hby : i.bytes = bytes) (hzs : z.cells.size = size) (hsz : 0 < size)
    (b : Addr) (n cap : Nat) (olds : List Value) (hs : a.eval s = .slice (some b) n cap) (hol : olds.length = n * size) (hoc : ∀ j u, olds[j]? = some u → w.cell? (b.add j) = some u)
    (ad : Addr) (m c : Nat) (news : List Value) (hx : a.eval x = .slice (some ad) m c) (hnl : news.length = m * size) (hnc : ∀ j u, news[j]? = some u → w.cell? (ad.add j) = some u)
    (hcap : cap < n + m) (h63 : n + m ≤ maxLen) (hbytes : (n + m) * bytes ≤ 140737488355328)
    (h : ∀ v' w', w'.ownsRow w.heap.size e size v' (n + m) (olds ++ news) → w.grownBy w' none → wpList P ops Q rest (a.put o.dst v') w') : wpList P ops Q (o :: rest) a w := by
  refine wpList_plain hgd fun K hK => ?_
  obtain ⟨v', w', hrun, h2, h3⟩ := run_append_arg_grows (P := P) w t o.type e i z size bytes ht hi hz hsize hby hzs hsz b n cap olds hol hoc ad m c news hnl hnc hcap h63 hbytes
  unfold Oper.wp execOp
  simp only [ho, resolve, invoke, builtin, Sem.run_bind, Sem.run_pure, Result.andThen_ok, List.map_toArray, List.map_cons, List.map_nil, hs, hx, hrun]
  exact hK _ _ (h v' w' h2 h3)
end
theorem addr_add (g j : Nat) : (⟨g, 0, none⟩ : Addr).add j = ⟨g, j, none⟩ := by unfold Addr.add; split <;> simp_all
/-- What record leaves: a row of its own with just these bytes. -/
def RowOf (w : World) (l : List Nat) (e : Ending) (w' : World) : Prop :=
  w.grownBy w' none ∧ ∃ g cap, e = .returned (.tuple #[.slice (some ⟨g, 0, none⟩) l.length cap, .int .i64 0]) ∧ w.heap.size ≤ g ∧ g < w'.heap.size ∧ l.length ≤ cap ∧ cap ≤ maxLen ∧ ∀ j u, (u8s l)[j]? = some u → w'.cell? ⟨g, j, none⟩ = some u
theorem seqOk_img {l : List Img} (h : ∀ x ∈ l, imgOk x = true) {j : Nat} {x : Img} (hx : l[j]? = some x) : imgOk x = true := h x (List.mem_of_getElem? hx)
/-- Where record stands at image j: its two rows. -/
structure RecAt (w wr : World) (g b tb : Nat) (L : Lg) (A : Option Addr) (n : Nat) (l : List Img) (vn vs : Value) (j : Nat) : Prop where
  gr : w.grownBy wr none
  r : Ready wr tb
  lb : LBlk wr g L b tb
  im : Imgs wr (From (· = tb) w.heap.size) A n l
  nn : Own wr w.heap.size 3 1 vn j (i64s (nos (l.take j)))
  ss : Own wr w.heap.size 5 1 vs (256 * j) (u8s (imgsB L.ep L.seq (l.take j)))
  ne : ∀ q, vn.ownBlock = some q → vs.ownBlock ≠ some q
  lo : g < w.heap.size ∧ tb < w.heap.size
section
variable {w wr w' : World} {g b tb : Nat} {L : Lg} {A : Option Addr} {n : Nat} {l : List Img} {vn vs : Value} {j : Nat}
theorem RecAt.quiet (h : RecAt w wr g b tb L A n l vn vs j) (hg : wr.grownBy w' none) : RecAt w w' g b tb L A n l vn vs j :=
  ⟨h.gr.trans hg, h.r.keep hg (by simp), h.lb.grown hg (by simp), h.im.turn (Turn.none_ hg), h.nn.keep hg (fun _ _ => by simp), h.ss.keep hg (fun _ _ => by simp), h.ne, h.lo⟩
/-- A row of its own, or none, is written. -/
theorem RecAt.rows (h : RecAt w wr g b tb L A n l vn vs j) {row : Option Nat} (hg : wr.grownBy w' row) (hr : ∀ q, row = some q → w.heap.size ≤ q) : w.grownBy w' none ∧ Ready w' tb ∧ LBlk w' g L b tb ∧ Imgs w' (From (· = tb) w.heap.size) A n l := by
  have hlo := h.lo
  refine ⟨grownBy_new h.gr hg hr, h.r.keep hg ?_, h.lb.grown hg ?_, h.im.turn (Turn.of_grown hg (fun q e => .inr (hr q e)))⟩
  · intro e
    have := hr tb e.symm
    omega
  · intro e
    have := hr g e.symm
    omega
end
theorem reads_blk {w : World} {gp n : Nat} {t : TypeId} {l : List Nat} (h : Blk w gp t (u8s l).toArray) (hl : l.length = n) : Reads w w.heap.size 1 (some ⟨gp, 0, none⟩) n (u8s l) := by
  refine ⟨by rw [u8s_length, hl, Nat.mul_one], fun _ => ⟨_, rfl, h.lt, fun j u hu => ?_⟩⟩
  rw [addr_add, h.cell, List.getElem?_toArray]
  exact hu
theorem RecAt.next {w w3 w4 w5 : World} {g b tb : Nat} {L : Lg} {A : Option Addr} {n : Nat} {l : List Img} {vn vs v1 v2 : Value} {j : Nat} (h : RecAt w w3 g b tb L A n l vn vs j) {x : Img} (hx : l[j]? = some x) {o : Obj}
    (h1 : Own w4 w.heap.size 3 1 v1 (j + 1) (i64s (nos (l.take j)) ++ [.int .i64 x.1])) (g1 : Grew (w3.alloc o) w4 vn v1)
    (h2 : Own w5 w.heap.size 5 1 v2 (256 * j + 256) (u8s (imgsB L.ep L.seq (l.take j)) ++ u8s (imgF L.ep L.seq x))) (g2 : Grew w4 w5 vs v2) : RecAt w w5 g b tb L A n l v1 v2 (j + 1) := by
  have hq := h.quiet (World.grownBy_alloc w3 o none)
  obtain ⟨a1, a2, a3, a4⟩ := hq.rows g1.1 (fun q e => (h.nn.base_ q e).1)
  have hss := hq.ss.keep g1.1 (fun q e1 e2 => hq.ne q e2 e1)
  have hlo := h.lo
  have hb : ∀ q, vs.ownBlock = some q → w.heap.size ≤ q := fun q e => (h.ss.base_ q e).1
  refine ⟨grownBy_new a1 g2.1 hb, a2.keep g2.1 (fun e => by have := hb tb e.symm; omega), a3.grown g2.1 (fun e => by have := hb g e.symm; omega), a4.turn (Turn.of_grown g2.1 (fun q e => .inr (hb q e))), ?_, ?_, ?_, hlo⟩
  · rw [nos_take l hx, i64s_append]
    refine h1.keep g2.1 (fun q e1 e2 => ?_)
    rcases g1.2 q e1 with h3 | h3
    · exact h.ne q h3 e2
    · have := (hq.ss.base_ q e2).2
      omega
  · rw [imgsB_take _ _ l hx, u8s_append, Nat.mul_succ]
    exact h2
  · intro q e1 e2
    have h4 := (h1.base_ q e1).2
    rcases g2.2 q e2 with h3 | h3
    · rcases g1.2 q e1 with h5 | h5
      · exact h.ne q h5 h3
      · have := (hq.ss.base_ q h3).2
        omega
    · omega
theorem own_bytes_at {w : World} {base n b : Nat} {v : Value} {l : List Nat} (h : Own w base 5 1 v n (u8s l)) (hl : ∀ x ∈ l, x < 256) (hb : b < base) (h0 : 0 < n) :
    ∃ g cap, v = .slice (some ⟨g, 0, none⟩) n cap ∧ base ≤ g ∧ g < w.heap.size ∧ n ≤ cap ∧ cap ≤ maxLen ∧ (∀ j u, (u8s l)[j]? = some u → w.cell? ⟨g, j, none⟩ = some u) ∧ Bytes w b (some ⟨g, 0, none⟩) n l := by
  obtain ⟨g, cap, hv, h1, h2, h3, h4, h5⟩ := h.reads h0
  have hlen := h.len
  rw [u8s_length, Nat.mul_one] at hlen
  refine ⟨g, cap, hv, h1, h2, h3, h4, h5, hlen, hl, fun _ => ⟨g, 0, rfl, h2, by omega, fun j hj => ?_⟩⟩
  rw [Nat.zero_add]
  exact h5 _ _ (u8s_at l j (by omega))
set_option maxRecDepth 100000 in
set_option maxHeartbeats 3200000 in
theorem log_record {w : World} {g b tb : Nat} {L : Lg} (A : Option Addr) (n c : Nat) (l : List Img) (hlb : LBlk w g L b tb) (hR : Ready w tb) (him : Imgs w (· = tb) A n l)
    (hok : ∀ x ∈ l, imgOk x = true) (h1 : 1 ≤ n) (h40 : n ≤ 40) (hep : L.ep ≤ 4294967295) (hsq : L.seq ≤ 1099511627775) :
    Calls Tryz.prog 146 #[.pointer (some ⟨g, 0, none⟩), .slice A n c] w (RowOf w (recB L.ep L.seq l)) := by
  have HLEN := Lib.hid him.len
  obtain ⟨i0, hi0, hz0, hz1, hz2⟩ := info_parts int_info
  obtain ⟨k0, hk0, hy0, hy1, hy2⟩ := info_parts byte_info
  have hi := Lib.hid hi0; have z0 := Lib.hid hz0; have z1 := Lib.hid hz1; have z2 := Lib.hid hz2
  have hk := Lib.hid hk0; have y0 := Lib.hid hy0; have y1 := Lib.hid hy1; have y2 := Lib.hid hy2
  have H0 := Lib.hid (show RecAt w w g b tb L A n l (.slice none 0 0) (.slice none 0 0) 0 from
    ⟨World.grownBy.refl w none, hR, hlb, him.from_ _ (Nat.le_refl _), Own.nil _ _ _ _, Own.nil _ _ _ _, fun q h => by simp [Value.ownBlock] at h, hlb.lt, by obtain ⟨_, h, _⟩ := hR; exact h.lt⟩)
  have HOK := Lib.hid hok; have HEP := Lib.hid hep; have HSQ := Lib.hid hsq
  clear hlb hR him hok hi0 hz0 hz1 hz2 hk0 hy0 hy1 hy2 hep hsq
  go_enter Tryz.func146, Tryz.ntmps146
  go_wp2_with fail
  go_loopw [6, 7, 16] (fun vn vs i wr => ∃ j : Nat, j ≤ n ∧ i = .int .i64 j ∧ RecAt w wr g b tb L A n l vn vs j) (fun _ _ i _ => n - (Go.RowKit.intOf i).toNat)
  case atStart => exact ⟨0, Nat.zero_le _, rfl, H0.out⟩
  case round =>
    clear H0
    obtain ⟨j, hj, rfl, hr⟩ := hrel
    have HR := Lib.hid hr
    clear hr
    by_cases hlt : j < n
    · have hjn : (j : Int) < (n : Int) := by omega
      obtain ⟨gi, o, ⟨x1, x2, x3⟩, Bx, mx, cx, rfl, hgi, hno, hx, e0, e1, e2, hmc, hdx⟩ := HR.out.im.at_ hlt
      dsimp only at e0 e1 e2 hdx
      have hxo := seqOk_img HOK.out hx
      have HX := Lib.hid hx
      have HIW := Lib.hid (imgW_ok hxo HEP.out HSQ.out)
      have HIL := Lib.hid (imgF_len (ep := L.ep) (sq := L.seq) hxo)
      have hx1 := (imgOk_iff hxo).2.1
      dsimp only at hx1
      have hga := World.grownBy_alloc wr (.cells #[.int .i64 x1, .int .i64 x2, .slice Bx mx cx] 109) none
      have HRA := Lib.hid (HR.out.quiet hga)
      have HDX := Lib.hid (data_bytes (b := tb) (Dsk.Data.turn hdx (Turn.none_ hga)) (.inl rfl))
      have HBX := Lib.hid (Blk.new wr 109 #[.int .i64 x1, .int .i64 x2, .slice Bx mx cx])
      clear hno hx hmc hdx hxo hga
      go_wp2_with fail
      generalize wr.alloc (.cells #[.int .i64 x1, .int .i64 x2, .slice Bx mx cx] 109) = wq at HRA HDX HBX ⊢
      have hkeep : ∀ wx, wq.grownBy wx none → wx.cell? ⟨g, 1, none⟩ = some (.pointer (some ⟨tb, 0, none⟩)) ∧ wx.cell? ⟨g, 3, none⟩ = some (.int .i64 (L.ep : Nat)) ∧ wx.cell? ⟨g, 10, none⟩ = some (.int .i64 (L.seq : Nat)) ∧ wx.cell? ⟨wr.heap.size, 0, none⟩ = some (.int .i64 x1) ∧ wx.cell? ⟨wr.heap.size, 1, none⟩ = some (.int .i64 x2) ∧ wx.cell? ⟨wr.heap.size, 2, none⟩ = some (.slice Bx mx cx) := by
        intro wx hg
        have hb := HBX.out.grown hg (by simp)
        obtain ⟨_, c1, c3, _, _, _, c10, _, _⟩ := (HRA.out.lb.grown hg (by simp)).cells
        exact ⟨c1, c3, c10, by rw [hb.cell]; rfl, by rw [hb.cell]; rfl, by rw [hb.cell]; rfl⟩
      have HKEEP := Lib.hid hkeep
      have HD0 := Lib.hid (grown_drew wq none)
      have HPP := Lib.hid (fun wx (hg : wq.grownBy wx none) => codec_put_image tb tb (L.ep : Nat) (L.seq : Nat) x1 x2 Bx mx cx x3 wx (HRA.out.r.keep hg (by simp)) (HDX.out.keep (grown_any_row hg _)))
      clear hkeep e0 e1 e2
      go_region_held3 (fun wx => wx.cell? ⟨g, 1, none⟩ = some (.pointer (some ⟨tb, 0, none⟩)) ∧ wx.cell? ⟨g, 3, none⟩ = some (.int .i64 (L.ep : Nat)) ∧ wx.cell? ⟨g, 10, none⟩ = some (.int .i64 (L.seq : Nat)) ∧ wx.cell? ⟨wr.heap.size, 0, none⟩ = some (.int .i64 x1) ∧ wx.cell? ⟨wr.heap.size, 1, none⟩ = some (.int .i64 x2) ∧ wx.cell? ⟨wr.heap.size, 2, none⟩ = some (.slice Bx mx cx))
        (first
          | exact HKEEP.out _ HD0.out
          | exact HKEEP.out _ HG1.out)
        (first
          | (go_at_call 178
             refine (HPP.out _ HD0.out).mono ?_
             rintro e w3 ⟨hg3, ⟨lp, gp, ho, rfl, hgp, hbp, hlp⟩ | ⟨ho, _⟩⟩
             case inr => rw [HIW.out] at ho; cases ho
             have HG1 := Lib.hid (HD0.out.trans hg3)
             have hle := HIW.out.symm.trans ho
             injection hle with hle
             have HLE := Lib.hid hle
             have HBP := Lib.hid hbp
             have HGP := Lib.hid hgp
             have HLP := Lib.hid hlp
             clear hg3 ho hbp hgp hle hlp))
      have hl256 : lp.length = 256 := by rw [← HLE.out]; exact HIL.out
      have HL256 := Lib.hid hl256
      rw [hl256]
      have HR3 := Lib.hid (HRA.out.quiet HG1.out)
      obtain ⟨_, _, _, q0, _, _⟩ := HKEEP.out _ HG1.out
      clear hl256 HKEEP HPP HDX
      have HBS := Lib.hid (show ∀ (o : Obj) (w4 : World) (v1 : Value), Grew (w3.alloc o) w4 u6 v1 → Blk w4 gp 118 (u8s lp).toArray from fun o w4 v1 hg => (HBP.out.alloc o).grown hg.1 (fun e => by have := (HRA.out.nn.base_ gp e.symm).2; have := HGP.out; simp at this; omega))
      go_wp2_with (first
        | (at_builtin
           refine wpList_append_own_full _ rfl (.tmp 41) (.tmp 44) _ rfl w.heap.size 3 i0 _ 1 8 Tryz.underlying32 hi.out z0.out z1.out z2.out rfl (by omega) _ j _ rfl (HR3.out.nn.alloc _)
             _ _ 1 1 _ rfl (reads_one_int _ _) (fun u hu => by simp at hu; subst hu; rfl) (by simp only [maxLen]; omega) (by omega) (by have := HR3.out.gr.size; simp; omega) ?_
           intro v1 w4 hown1 hgr1
           have HO1 := Lib.hid hown1; have HG4 := Lib.hid hgr1; clear hown1 hgr1)
        | (at_builtin
           refine wpList_append_own_full _ rfl (.tmp 46) (.tmp 47) _ rfl w.heap.size 5 k0 _ 1 1 Tryz.underlying38 hk.out y0.out y1.out y2.out rfl (by omega) _ (256 * j) _ rfl ((HR3.out.ss.alloc _).keep HG4.out.1 (fun q hq e => HR3.out.ne q e hq))
             _ _ 256 256 _ rfl (reads_blk (HBS.out _ _ _ HG4.out) HL256.out) (u8s_one _) (by simp only [maxLen]; omega) (by omega) (by have := HR3.out.gr.size; have := HG4.out.1.size; simp at this; omega) ?_
           intro v2 w5 hown2 hgr2
           have HO2 := Lib.hid hown2; have HG5 := Lib.hid hgr2; clear hown2 hgr2))
      have ho2 := HO2.out
      rw [← HLE.out] at ho2
      have HN := Lib.hid (HR3.out.next HX.out HO1.out HG4.out ho2 HG5.out)
      clear ho2 HO1 HO2 HG4 HG5 HR3 HRA
      go_roundw
      case rel => exact ⟨j + 1, by omega, by go_num, HN.out⟩
      case measure => simp [Go.RowKit.intOf]; omega
    · obtain rfl : j = n := by omega
      have hln := HLEN.out
      have htk : l.take j = l := List.take_of_length_le (by omega)
      have hnn := HR.out.nn
      have hss := HR.out.ss
      rw [htk] at hnn hss
      obtain ⟨An, cn, rfl, hin, _, _⟩ := own_ints hnn (fun y hy => by
        obtain ⟨x, hx, rfl⟩ := List.mem_map.1 hy
        have := (imgOk_iff (HOK.out x hx)).2.1
        omega)
      obtain ⟨gs, cs, rfl, hgs, hgl, hsc, hcm, hcl, hby⟩ := own_bytes_at hss (imgsB_lt _ _ HOK.out) HR.out.lo.2 (by omega)
      have HIN := Lib.hid hin; have HBY := Lib.hid hby
      have HLS := Lib.hid (imgsB_len L.ep L.seq HOK.out)
      have HHL := Lib.hid (headF_len (ep := L.ep) (sq := L.seq) (l := l) (by omega))
      have HHW := Lib.hid (headW_ok (ep := L.ep) (sq := L.seq) HOK.out (by omega) (by omega) HEP.out (by have := HSQ.out; omega) _ rfl)
      have hm := M_lt 0 (imgsB L.ep L.seq l)
      have HMM := Lib.hid hm
      have hkeep : ∀ wx, wr.grownBy wx none → wx.cell? ⟨g, 1, none⟩ = some (.pointer (some ⟨tb, 0, none⟩)) ∧ wx.cell? ⟨g, 3, none⟩ = some (.int .i64 (L.ep : Nat)) ∧ wx.cell? ⟨g, 10, none⟩ = some (.int .i64 (L.seq : Nat)) := by
        intro wx hg
        obtain ⟨_, c1, c3, _, _, _, c10, _, _⟩ := (HR.out.lb.grown hg (by simp)).cells
        exact ⟨c1, c3, c10⟩
      have HKEEP := Lib.hid hkeep
      have HD0 := Lib.hid (grown_drew wr none)
      have HSUM := Lib.hid (fun wx (hg : wr.grownBy wx none) => sum_ready tb (some ⟨gs, 0, none⟩) (256 * j) cs (imgsB L.ep L.seq l) wx (HR.out.r.keep hg (by simp)) (HBY.out.keep (grown_any_row hg _)) (by omega))
      have HPH := Lib.hid (fun wx (hg : wr.grownBy wx none) => codec_put_head tb wr.heap.size (L.ep : Nat) (L.seq : Nat) An j cn (nos l) (M 0 (imgsB L.ep L.seq l)) wx (HR.out.r.keep hg (by simp)) (ints_keep HIN.out hg (.inl rfl)) (by omega) HMM.out)
      have HCL := Lib.hid hcl
      have HGS := Lib.hid hgl
      clear hm hkeep hin hby hnn hss htk hln hcl
      go_wp2_with fail
      go_region_held3 (fun wx => wx.cell? ⟨g, 1, none⟩ = some (.pointer (some ⟨tb, 0, none⟩)) ∧ wx.cell? ⟨g, 3, none⟩ = some (.int .i64 (L.ep : Nat)) ∧ wx.cell? ⟨g, 10, none⟩ = some (.int .i64 (L.seq : Nat)))
        (first
          | exact HKEEP.out _ HD0.out
          | exact HKEEP.out _ HG1.out)
        (first
          | (go_at_call 144
             refine (HSUM.out _ HD0.out).mono ?_
             rintro e w2 ⟨rfl, rfl⟩)
          | (go_at_call 179
             refine (HPH.out _ HD0.out).mono ?_
             rintro e w3 ⟨hg3, ⟨lp, gp, ho, rfl, hgp, hbp, hlp⟩ | ⟨ho, _⟩⟩
             case inr => rw [HHW.out] at ho; cases ho
             have HG1 := Lib.hid (HD0.out.trans hg3)
             have hle := HHW.out.symm.trans ho
             injection hle with hle
             have HLE := Lib.hid hle
             have HBP := Lib.hid hbp
             clear hg3 ho hbp hgp hle hlp))
      have hl256 : lp.length = 256 := by rw [← HLE.out]; exact HHL.out
      have HL256 := Lib.hid hl256
      rw [hl256]
      have HC3 := Lib.hid (fun q u (hu : (u8s (imgsB L.ep L.seq l))[q]? = some u) => (World.cell?_of_block (a := ⟨gs, q, none⟩) (HG1.out.block gs HGS.out (by simp))).trans (HCL.out q u hu))
      clear hl256 HKEEP HSUM HPH
      go_wp2_with (at_builtin
                   refine wpList_append_new _ rfl (.tmp 78) (.tmp 79) _ rfl 5 k0 _ 1 1 Tryz.underlying38 hk.out y0.out y1.out y2.out rfl (by omega) ⟨gp, 0, none⟩ 256 256 (u8s lp) rfl (by rw [u8s_length, HL256.out])
                     (fun q u hu => by rw [addr_add, HBP.out.cell, List.getElem?_toArray]; exact hu)
                     ⟨gs, 0, none⟩ (256 * j) cs (u8s (imgsB L.ep L.seq l)) rfl (by rw [u8s_length, HLS.out, HLEN.out, Nat.mul_one]) (fun q u hu => by rw [addr_add]; exact HC3.out q u hu) (by omega) (by simp only [maxLen]; omega) (by omega) ?_
                   intro v5 w5 hown5 hg5
                   have HO5 := Lib.hid hown5; have HG5 := Lib.hid hg5; clear hown5 hg5)
      obtain ⟨g5, cap5, rfl, hge5, hlt5⟩ := HO5.out.form (by omega)
      have hsz := (HR.out.gr.trans HG1.out).size
      obtain ⟨A6, cap6, he6, hc6, hm6, _⟩ := (Own.of HO5.out).shape
      obtain ⟨rfl, rfl⟩ : some ⟨g5, 0, none⟩ = A6 ∧ cap5 = cap6 := by simpa using he6
      have hlr : (recB L.ep L.seq l).length = 256 + 256 * j := by rw [recB_len HOK.out (by rw [HLEN.out]; omega), HLEN.out]; omega
      have hu8 : u8s (recB L.ep L.seq l) = u8s lp ++ u8s (imgsB L.ep L.seq l) := by rw [← HLE.out, ← u8s_append]; rfl
      have hcells := HO5.out.cells (g := g5) rfl
      go_ret2
      refine ⟨(HR.out.gr.trans HG1.out).trans HG5.out, g5, cap5, by rw [hlr]; rfl, by omega, hlt5, by rw [hlr]; exact hc6, hm6, fun q u hu => ?_⟩
      rw [hu8] at hu
      have := hcells q u hu
      rwa [addr_add] at this
end Go.Proofs.YteaokeiolgjhaaaGreat.Log
/- write of package log. -/
namespace Go.Proofs.YteaokeiolgjhaaaGreat.Log
open Go.RowKit CrcMath CodecMath Mem Crc Codec DiskSpec Dsk Sup

theorem writeE_n (S : St) (fua : Bool) (a : Int) (l : List Nat) : (writeE S fua a l).2.n = S.n := by
  unfold writeE
  split
  · rfl
  · split
    · rfl
    · split
      · rfl
      · exact puts_n _ _ _ _ _
theorem put_ver (S : St) (fua : Bool) (i : Nat) (v : List Nat) (k : Nat) : ((S.put fua i v).ver k).length ≤ (S.ver k).length + 1 := by
  have h1 : ∀ T : St, ((T.add i v).ver k).length ≤ (T.ver k).length + 1 := fun T => by
    show (upd T.ver i (T.ver i ++ [v]) k).length ≤ _
    unfold upd
    split
    · rename_i e; subst e; simp
    · omega
  have h2 : ∀ T : St, ((T.settle i).ver k).length ≤ (T.ver k).length := fun T => by
    show (upd T.ver i [] k).length ≤ _
    unfold upd
    split
    · simp
    · omega
  unfold St.put
  split
  · exact Nat.le_trans (h2 _) (h1 S)
  · exact h1 S
theorem puts_ver (S : St) (fua : Bool) (a : Nat) (l : List Nat) (k : Nat) : ∀ j, ((S.puts fua a l j).ver k).length ≤ (S.ver k).length + j
  | 0 => Nat.le_refl _
  | j + 1 => by
    have h1 := puts_ver S fua a l k j
    have h2 := put_ver (S.puts fua a l j) fua (a + j) (sec l j) k
    rw [St.puts]
    omega
theorem writeE_ver (S : St) (fua : Bool) (a : Int) (l : List Nat) (k : Nat) : ((writeE S fua a l).2.ver k).length ≤ (S.ver k).length + l.length / 256 := by
  unfold writeE
  split
  · exact Nat.le_add_right _ _
  · split
    · exact Nat.le_add_right _ _
    · split
      · exact Nat.le_add_right _ _
      · exact puts_ver { S with f2 := S.f2 - 1 } fua a.toNat l k _
/-- A row of bytes whose first block holds nothing of the disk's. -/
theorem data_take {w : World} {own : Nat → Prop} {g n : Nat} {l : List Nat} (h : Dsk.Data w own (some ⟨g, 0, none⟩) n l) (a : Nat) (ha : a ≤ n) : Dsk.Data w own (some ⟨g, 0, none⟩) a (l.take a) := by
  refine ⟨by rw [List.length_take, h.1]; omega, fun x hx => h.2.1 x (List.mem_of_mem_take hx), fun h0 => ?_⟩
  obtain ⟨g', o, e, hlt, hno, hc⟩ := h.2.2 (by omega)
  refine ⟨g', o, e, hlt, hno, fun j hj => ?_⟩
  rw [hc j (by omega)]
  simp [List.getD_eq_getElem?_getD, List.getElem?_take_of_lt hj]
theorem data_drop {w : World} {own : Nat → Prop} {g n : Nat} {l : List Nat} (h : Dsk.Data w own (some ⟨g, 0, none⟩) n l) (a : Nat) (ha : a ≤ n) : Dsk.Data w own (some ⟨g, a, none⟩) (n - a) (l.drop a) := by
  refine ⟨by rw [List.length_drop, h.1], fun x hx => h.2.1 x (List.mem_of_mem_drop hx), fun h0 => ?_⟩
  obtain ⟨g', o, e, hlt, hno, hc⟩ := h.2.2 (by omega)
  simp only [Option.some.injEq, Addr.mk.injEq, and_true] at e
  obtain ⟨rfl, rfl⟩ := e
  refine ⟨g, a, rfl, hlt, hno, fun j hj => ?_⟩
  have := hc (a + j) (by omega)
  rw [Nat.zero_add] at this
  rw [this]
  simp [List.getD_eq_getElem?_getD, List.getElem?_drop]
set_option maxRecDepth 100000 in
set_option maxHeartbeats 3200000 in
theorem log_write {w : World} {B b tb g : Nat} {S : St} {own : Nat → Prop} {L : Lg} (h : LAt w B b tb g S own L) (gr n cap : Nat) (l : List Nat) (hd : Dsk.Data w own (some ⟨gr, 0, none⟩) n l)
    (hn : 256 ≤ n) (hn2 : n ≤ 65536) (hcap : n ≤ cap) (hcm : cap ≤ maxLen) (hroom : ∀ i, (S.ver i).length < 549755813000) :
    Calls Tryz.prog 147 #[.pointer (some ⟨g, 0, none⟩), .slice (some ⟨gr, 0, none⟩) n cap] w fun e w' => e = .returned (.int .i64 (putE S L l).1) ∧ ∃ own', LAt w' B b tb g (putE S L l).2 own' L ∧ Turn w w' own own' := by
  have hlen := hd.1
  have htop := h.s.ok.top
  have hk := h.k
  have hfit := hk.fit; have hlow := hk.low; have htl := hk.tail
  unfold maxLen at hcm
  obtain ⟨c0, _, _, c5, c6, c9, _, _, _⟩ := h.l.cells
  have HPE := Lib.hid (show putE S L l = putE S L l from rfl)
  have haa : L.ahead n ≤ n ∧ 1 ≤ L.ahead n := by unfold Lg.ahead; omega
  have HAA := Lib.hid (show L.ahead n = min n ((L.ln - L.tail) * 256) from rfl)
  go_enter Tryz.func147, Tryz.ntmps147
  go_upto_region 2 with fail
  go_cut [5] (fun s5 wx => s5 = .int .i64 (L.ahead n : Nat) ∧ ∃ m, wx = w.drewN m)
  case first =>
    clear haa
    have hw1 : IntKind.i64.wrap ((L.ln : Int) - (L.tail : Int)) = (L.ln : Int) - (L.tail : Int) := IntWalk.i64_in _ (by omega)
    have hw2 : IntKind.i64.wrap (((L.ln : Int) - (L.tail : Int)) * 256) = ((L.ln : Int) - (L.tail : Int)) * 256 := IntWalk.i64_in _ (by omega)
    go_wp2_with fail
    go_quiet (fail)
    go_wp2_with fail
    go_meet
    exact ⟨by rw [HAA.out]; congr 1; omega, _, rfl⟩
  case rest =>
    obtain ⟨rfl, m, rfl⟩ := hcut
    have hcst : ((L.st + L.tail : Nat) : Int) = (L.st : Int) + (L.tail : Int) := by omega
    have hp1 : (writeE S false ((L.st : Int) + (L.tail : Int)) (l.take (L.ahead n))).1 ≠ 0 → putE S L l = writeE S false ((L.st : Int) + (L.tail : Int)) (l.take (L.ahead n)) := fun h0 => by
      unfold putE
      rw [hlen, hcst, if_pos h0]
    have hp2 : (writeE S false ((L.st : Int) + (L.tail : Int)) (l.take (L.ahead n))).1 = 0 → L.ahead n = n → putE S L l = (0, (writeE S false ((L.st : Int) + (L.tail : Int)) (l.take (L.ahead n))).2) := fun h0 h1 => by
      unfold putE
      rw [hlen, hcst, if_neg (by rw [h0]; simp), if_pos h1]
    have hp3 : (writeE S false ((L.st : Int) + (L.tail : Int)) (l.take (L.ahead n))).1 = 0 → L.ahead n ≠ n → putE S L l = writeE (writeE S false ((L.st : Int) + (L.tail : Int)) (l.take (L.ahead n))).2 false (L.st : Int) (l.drop (L.ahead n)) := fun h0 h1 => by
      unfold putE
      rw [hlen, hcst, if_neg (by rw [h0]; simp), if_neg h1]
    have hn1 := writeE_n S false ((L.st : Int) + (L.tail : Int)) (l.take (L.ahead n))
    have hv1 : ∀ i, ((writeE S false ((L.st : Int) + (L.tail : Int)) (l.take (L.ahead n))).2.ver i).length < 549755813888  := fun i => by
      have h1 := writeE_ver S false ((L.st : Int) + (L.tail : Int)) (l.take (L.ahead n)) i
      have h2 := hroom i
      rw [List.length_take, hlen] at h1
      omega
    have HP1 := Lib.hid hp1; have HP2 := Lib.hid hp2; have HP3 := Lib.hid hp3; have HN1 := Lib.hid hn1; have HV1 := Lib.hid hv1
    have hg1 := grown_drewN (World.grownBy.refl w none) m
    have H1 := Lib.hid (h.quiet hg1)
    have HT1 := Lib.hid (Turn.none_ (own := own) hg1)
    have HDA := Lib.hid (Dsk.Data.turn hd HT1.out)
    have HHA := Lib.hid haa
    clear hcst hp1 hp2 hp3 hn1 hv1 HPE HAA hg1 h hd c0 c5 c6 c9 haa
    generalize hah : L.ahead n = a at *
    clear hah
    have hapos : 1 ≤ a := HHA.out.2
    have hale : a ≤ n := HHA.out.1
    generalize w.drewN m = w1 at *
    have hkeep : ∀ wx (S' : St) (own' : Nat → Prop), LAt wx B b tb g S' own' L → wx.cell? ⟨g, 0, none⟩ = some (.pointer (some ⟨b, 0, none⟩)) ∧ wx.cell? ⟨g, 5, none⟩ = some (.int .i64 (L.st : Nat)) ∧ wx.cell? ⟨g, 9, none⟩ = some (.int .i64 (L.tail : Nat)) := by
      intro wx S' own' hx
      obtain ⟨c0, _, _, c5, _, c9, _, _, _⟩ := hx.l.cells
      exact ⟨c0, c5, c9⟩
    have HKEEP := Lib.hid hkeep
    have HA0 := Lib.hid (H1.out.quiet (grown_drew w1 none))
    have HW1 := Lib.hid (disk_write_all HA0.out.s.d ((L.st : Int) + (L.tail : Int)) (some ⟨gr, 0, none⟩) a cap (l.take a) false (by omega) (data_take (Dsk.Data.turn HDA.out (Turn.none_ (grown_drew w1 none))) a hale) (by omega) (by omega) (fun i => Nat.lt_trans (hroom i) (by omega)) HA0.out.s.s)
    have hanI : (a : Int) ≤ (n : Int) := by omega
    have hacI : (a : Int) ≤ (cap : Int) := by omega
    have ha0I : (0 : Int) ≤ (a : Int) := by omega
    have hwst : IntKind.i64.wrap ((L.st : Int) + (L.tail : Int)) = (L.st : Int) + (L.tail : Int) := IntWalk.i64_in _ (by omega)
    clear hkeep hroom
    go_wp2_with fail
    go_region_held3 (fun wx => wx.cell? ⟨g, 0, none⟩ = some (.pointer (some ⟨b, 0, none⟩)) ∧ wx.cell? ⟨g, 5, none⟩ = some (.int .i64 (L.st : Nat)) ∧ wx.cell? ⟨g, 9, none⟩ = some (.int .i64 (L.tail : Nat)))
      (first
        | exact HKEEP.out _ _ _ HA0.out
        | exact HKEEP.out _ _ _ HA2.out)
      (first
        | (go_at_call 43
           (with_reducible refine HW1.out.mono ?_)
           rintro e w2 ⟨rfl, own2, hd2, ht2⟩
           have HA2 := Lib.hid (HA0.out.disk hd2 ht2 HN1.out)
           have HT2 := Lib.hid ((HT1.out.drew).trans ht2)
           have HDB := Lib.hid (Dsk.Data.turn (Dsk.Data.turn HDA.out (Turn.none_ (grown_drew w1 none))) ht2)
           clear hd2 ht2))
    clear HW1
    generalize (writeE S false ((L.st : Int) + (L.tail : Int)) (l.take a)) = R1 at *
    obtain ⟨E1, S1⟩ := R1
    dsimp only at *
    by_cases hE : E1 = 0
    · subst hE
      by_cases han : a = n
      · subst han
        have HP := Lib.hid (HP2.out rfl rfl)
        go_wp2_with fail
        go_ret
        rw [HP.out]
        exact ⟨rfl, own2, HA2.out, HT2.out⟩
      · have HP := Lib.hid (HP3.out rfl han)
        have hanN : ¬ ((a : Int) = (n : Int)) := by omega
        have hanB : ((a : Int) == (n : Int)) = false := by simp; omega
        have hcC : ¬ (cap = a) := by omega
        have HA3 := Lib.hid (HA2.out.quiet (grown_drew w2 none))
        have HW2 := Lib.hid (disk_write_all HA3.out.s.d (L.st : Int) (some ⟨gr, a, none⟩) (n - a) (cap - a) (l.drop a) false (by omega) (data_drop (Dsk.Data.turn HDB.out (Turn.none_ (grown_drew w2 none))) a hale) (by omega) (by omega) HV1.out HA3.out.s.s)
        go_wp2_with fail
        go_region_held3 (fun wx => wx.cell? ⟨g, 0, none⟩ = some (.pointer (some ⟨b, 0, none⟩)) ∧ wx.cell? ⟨g, 5, none⟩ = some (.int .i64 (L.st : Nat)) ∧ wx.cell? ⟨g, 9, none⟩ = some (.int .i64 (L.tail : Nat)))
          (first
            | exact HKEEP.out _ _ _ HA3.out
            | exact HKEEP.out _ _ _ HA4.out)
          (first
            | (go_at_call 43
               (with_reducible refine HW2.out.mono ?_)
               rintro e w4 ⟨rfl, own4, hd4, ht4⟩
               have HA4 := Lib.hid (HA3.out.disk hd4 ht4 (writeE_n _ _ _ _))
               have HT4 := Lib.hid ((HT2.out.drew).trans ht4)
               clear hd4 ht4))
        go_wp2_with fail
        go_ret
        rw [HP.out]
        exact ⟨rfl, own4, HA4.out, HT4.out⟩
    · have HP := Lib.hid (HP1.out hE)
      go_wp2_with fail
      go_ret
      rw [HP.out]
      exact ⟨rfl, own2, HA2.out, HT2.out⟩
end Go.Proofs.YteaokeiolgjhaaaGreat.Log
/- Append of package log; pass, Drop. -/
namespace Go.Proofs.YteaokeiolgjhaaaGreat.Log
open Go.RowKit CrcMath CodecMath Mem Crc Codec DiskSpec Dsk Sup

theorem size_i (n : Nat) (w : World) (h1 : n ≤ 1099511627776) : Calls Tryz.prog 142 #[.int .i64 (n : Nat)] w fun e w' => e = .returned (.int .i64 (1 + (n : Int))) ∧ w' = w :=
  (size_any n w h1).mono fun e w' ⟨he, hw⟩ => ⟨by rw [he]; congr 2, hw⟩
set_option maxHeartbeats 800000 in
theorem log_drop {w : World} {g b tb : Nat} {L : Lg} (h : LBlk w g L b tb) :
    Calls Tryz.prog 110 #[.pointer (some ⟨g, 0, none⟩)] w fun e w' => e = .returned (.tuple #[]) ∧ LBlk w' g L.drop b tb ∧ w.grownBy w' (some g) := by
  have f11 := h.fz 11; have f12 := h.fz 12
  obtain ⟨_, _, _, _, _, _, _, c11, c12⟩ := h.cells
  have H := Lib.hid h; clear h
  go_enter Tryz.func110, Tryz.ntmps110
  go_wp2
  go_end0
  exact ⟨rfl, H.out.drop, Lib.grownBy_setB (Lib.grownBy_setB (World.grownBy.refl w _) 11 _) 12 _⟩
set_option maxHeartbeats 800000 in
theorem log_pass {w : World} {g b tb : Nat} {L : Lg} (h : LBlk w g L b tb) (k : Nat) (hk : k ≤ 1099511627776) (h1 : 1 ≤ L.ln) (htl : L.tail ≤ 1099511627776) (htk : L.taken ≤ 1099511627776) (hsq : L.seq ≤ 2199023255552) :
    Calls Tryz.prog 141 #[.pointer (some ⟨g, 0, none⟩), .int .i64 (k : Nat)] w fun e w' => e = .returned (.tuple #[]) ∧ LBlk w' g (L.pass k) b tb ∧ w.grownBy w' (some g) := by
  have HP := Lib.hid (log_place h k hk htl h1)
  have H := Lib.hid h; clear h
  go_enter Tryz.func141, Tryz.ntmps141
  go_wp2_with fail
  refine HP.out.mono ?_
  rintro e w1 ⟨rfl, m, rfl⟩
  have H1 := Lib.hid (show LBlk (w.drewN m) g L b tb from H.out.drewN m)
  have HG := Lib.hid (grown_any_row (grown_drewN (World.grownBy.refl w none) m) (some g))
  clear HP H
  generalize w.drewN m = w1 at *
  have f9 := H1.out.fz 9; have f10 := H1.out.fz 10; have f11 := H1.out.fz 11
  obtain ⟨_, _, _, _, _, c9, c10, c11, _⟩ := H1.out.cells
  have hw1 : IntKind.i64.wrap ((L.taken : Int) + (k : Int)) = (L.taken : Int) + (k : Int) := IntWalk.i64_in _ (by omega)
  have hw2 : IntKind.i64.wrap ((L.seq : Int) + 1) = (L.seq : Int) + 1 := IntWalk.i64_in _ (by omega)
  have HPASS := Lib.hid (H1.out.pass k (p := ((L.tail + k) % L.ln : Nat)) (t := (L.taken : Int) + (k : Int)) (q := (L.seq : Int) + 1) rfl (by omega) (by omega))
  go_wp2
  go_end0
  exact ⟨rfl, HPASS.out, Lib.grownBy_setB (Lib.grownBy_setB (Lib.grownBy_setB HG.out 9 _) 11 _) 10 _⟩
theorem putE_n (S : St) (L : Lg) (l : List Nat) : (putE S L l).2.n = S.n := by
  unfold putE
  split
  · exact writeE_n _ _ _ _
  · split
    · exact writeE_n _ _ _ _
    · rw [writeE_n, writeE_n]
theorem Lg.ok.pass {L : Lg} {n : Nat} (h : L.ok n) {k : Nat} (hk : k ≤ L.room) (hb : L.seq ≤ 1099511627775) : (L.pass k).ok n := by
  have h1 := h.taken; have h2 := h.low
  refine ⟨h.fit, h.low, Nat.mod_lt _ (by omega), ?_, h.ep, ?_⟩
  · show L.taken + k ≤ L.ln
    unfold Lg.room at hk
    split at hk <;> omega
  · show L.seq + 1 ≤ _
    omega
theorem Lg.ok.fail {L : Lg} {n : Nat} (h : L.ok n) (hb : L.seq ≤ 1099511627775) : L.fail.ok n := ⟨h.fit, h.low, h.tail, h.taken, h.ep, by show L.seq + 1 ≤ _; omega⟩
theorem Lg.ok.drop {L : Lg} {n : Nat} (h : L.ok n) : L.drop.ok n := ⟨h.fit, h.low, h.tail, Nat.zero_le _, h.ep, h.seq⟩
theorem turn_own2 {w w' : World} {own own' : Nat → Prop} {tb g : Nat} (h : Turn w w' own own') : Turn w w' (With2 own tb g) (With2 own' tb g) := turn_log (turn_with h tb) g
/-- What Append answers, and what it leaves. -/
def AppendS (w : World) (B b tb g : Nat) (S : St) (own : Nat → Prop) (L : Lg) (l : List Img) (e : Ending) (w' : World) : Prop :=
  e = .returned (.int .i64 (appendE S L l).1) ∧ (∃ own', LAt w' B b tb g (appendE S L l).2.1 own' (appendE S L l).2.2 ∧ Turn w w' (With2 own tb g) (With2 own' tb g)) ∧ ((Ready w tb ∨ (appendE S L l).1 = 0) → Ready w' tb)
set_option maxRecDepth 100000 in
set_option maxHeartbeats 3200000 in
theorem log_append {w : World} {B b tb g : Nat} {S : St} {own : Nat → Prop} {L : Lg} (h : LAt w B b tb g S own L) (A : Option Addr) (n c : Nat) (l : List Img) (him : Imgs w (· = tb) A n l) (hnm : n ≤ 1099511627776) (hroom : ∀ i, (S.ver i).length < 549755813000) :
    Calls Tryz.prog 105 #[.pointer (some ⟨g, 0, none⟩), .slice A n c] w (AppendS w B b tb g S own L l) := by
  have hlen := him.len
  have hk := h.k
  have hfit := hk.fit; have htl := hk.tail; have htk := hk.taken; have htop := h.s.ok.top; have hsq2 := hk.seq; have hln1 := hk.low
  have H := Lib.hid h; have HK := Lib.hid hk; have HROOM := Lib.hid hroom; have HIM := Lib.hid him; have HLEN := Lib.hid hlen
  clear h hk hroom him hlen
  by_cases h40 : 40 < n
  · have HA := Lib.hid (show appendE S L l = (16, S, L) by unfold appendE; rw [if_pos (by rw [HLEN.out]; exact h40)])
    have h40I : (40 : Int) < (n : Int) := by omega
    go_enter Tryz.func105, Tryz.ntmps105
    go_wp2_with fail
    go_ret
    unfold AppendS
    rw [HA.out]
    exact ⟨rfl, ⟨own, H.out, Turn.refl _ _⟩, fun hr => hr.resolve_right (by simp)⟩
  have h40I : ¬ ((40 : Int) < (n : Int)) := by omega
  by_cases h0 : n = 0
  · subst h0
    have HA := Lib.hid (show appendE S L l = (1, S, L) by unfold appendE; rw [if_neg (by rw [HLEN.out]; exact h40), if_pos (.inl HLEN.out)])
    go_enter Tryz.func105, Tryz.ntmps105
    go_wp2_with fail
    go_ret
    unfold AppendS
    rw [HA.out]
    exact ⟨rfl, ⟨own, H.out, Turn.refl _ _⟩, fun hr => hr.resolve_right (by simp)⟩
  have h0I : ¬ ((n : Int) = 0) := by omega
  have h0B : ((n : Int) == 0) = false := by simp; omega
  have HMAY := Lib.hid (log_may A n c l H.out.l H.out.s.t HIM.out H.out.ne hnm)
  cases hmw : mayW [] l with
  | false =>
    have HA := Lib.hid (show appendE S L l = (1, S, L) by unfold appendE; rw [if_neg (by rw [HLEN.out]; exact h40), if_pos (.inr hmw)])
    have HMW := Lib.hid hmw; clear hmw
    go_enter Tryz.func105, Tryz.ntmps105
    go_wp2_with fail
    refine HMAY.out.mono ?_
    rintro e w1 ⟨rfl, hg, ht, hr, _⟩
    rw [HMW.out]
    have HH := Lib.hid (H.out.table hg ht); have HT := Lib.hid (turn_tab2 (own := own) (g := g) hg); have HR := Lib.hid hr
    clear hg ht hr
    go_wp2_with fail
    go_ret
    unfold AppendS
    rw [HA.out]
    exact ⟨rfl, ⟨own, HH.out, HT.out⟩, fun hr => HR.out (hr.resolve_right (by simp))⟩
  | true =>
    have HOK := Lib.hid (mayW_ok hmw)
    have HMW := Lib.hid hmw; clear hmw
    go_enter Tryz.func105, Tryz.ntmps105
    go_wp2_with fail
    refine HMAY.out.mono ?_
    rintro e w1 ⟨rfl, hg, ht, _, hr⟩
    rw [HMW.out]
    have HH := Lib.hid (H.out.table hg ht); have HT := Lib.hid (turn_tab2 (own := own) (g := g) hg); have HR := Lib.hid (hr HMW.out (by omega))
    have HI1 := Lib.hid (HIM.out.turn (Turn.of_grown (own := (· = tb)) hg (fun _ e => by cases e; rfl)))
    clear hg ht hr HMAY HIM
    go_wp2_with fail
    refine (size_i n _ hnm).mono ?_
    rintro e w2 ⟨rfl, rfl⟩
    go_wp2_with fail
    refine (log_room HH.out.l htk (by omega)).mono ?_
    rintro e w2 ⟨rfl, m, rfl⟩
    have hg2 := grown_drewN (World.grownBy.refl w2 none) m
    have HH2 := Lib.hid (HH.out.quiet hg2); have HT2 := Lib.hid (HT.out.trans (Turn.none_ hg2)); have HR2 := Lib.hid (HR.out.keep hg2 (by simp)); have HI2 := Lib.hid (HI1.out.turn (Turn.none_ hg2))
    clear hg2 HH HT HR HI1 H
    generalize w2.drewN m = w3 at *
    obtain ⟨_, _, c3, _, _, _, c10, _, _⟩ := HH2.out.l.cells
    by_cases hc : L.room < 1 + n ∨ 4294967295 < L.ep ∨ 1099511627775 < L.seq
    · have HA := Lib.hid (show appendE S L l = (15, S, L) by
        unfold appendE
        rw [if_neg (by rw [HLEN.out]; exact h40), if_neg (by rw [HLEN.out, HMW.out]; simpa using h0), if_pos (by rw [HLEN.out]; exact hc)])
      have HC := Lib.hid hc; clear hc
      have hend : AppendS w B b tb g S own L l (.returned (.int .i64 15)) w3 := by
        unfold AppendS
        rw [HA.out]
        exact ⟨rfl, ⟨own, HH2.out, HT2.out⟩, fun _ => HR2.out⟩
      have HEND := Lib.hid hend; clear hend
      by_cases hc1 : L.room < 1 + n
      · have hc1I : (L.room : Int) < 1 + (n : Int) := by omega
        go_wp2_with fail
        go_ret
        exact HEND.out
      · have hc1I : ¬ ((L.room : Int) < 1 + (n : Int)) := by omega
        by_cases hc2 : 4294967295 < L.ep
        · have hc2I : (4294967295 : Int) < (L.ep : Int) := by omega
          go_wp2_with fail
          go_ret
          exact HEND.out
        · have hc2I : ¬ ((4294967295 : Int) < (L.ep : Int)) := by omega
          have hc3 : 1099511627775 < L.seq := by
            rcases HC.out with h | h | h
            · omega
            · omega
            · exact h
          have hc3I : (1099511627775 : Int) < (L.seq : Int) := by omega
          go_wp2_with fail
          go_ret
          exact HEND.out
    · have hc1I : ¬ ((L.room : Int) < 1 + (n : Int)) := by omega
      have hc2I : ¬ ((4294967295 : Int) < (L.ep : Int)) := by omega
      have hc3I : ¬ ((1099511627775 : Int) < (L.seq : Int)) := by omega
      have hap : appendE S L l = if (putE S L (recB L.ep L.seq l)).1 = 0 then (0, (putE S L (recB L.ep L.seq l)).2, L.pass (1 + n)) else ((putE S L (recB L.ep L.seq l)).1, (putE S L (recB L.ep L.seq l)).2, L.fail) := by
        unfold appendE
        rw [if_neg (by rw [HLEN.out]; exact h40), if_neg (by rw [HLEN.out, HMW.out]; simpa using h0), if_neg (by rw [HLEN.out]; exact hc), HLEN.out]
      have hpn := putE_n S L (recB L.ep L.seq l)
      have hlr : (recB L.ep L.seq l).length = 256 * (1 + n) := by rw [recB_len HOK.out (by rw [HLEN.out]; omega), HLEN.out]
      have HAP := Lib.hid hap; have HPN := Lib.hid hpn; have HLR := Lib.hid hlr
      have HKP := Lib.hid (HK.out.pass (k := 1 + n) (by omega) (by omega))
      have HKF := Lib.hid (HK.out.fail (by omega))
      have HREC := Lib.hid (log_record A n c l HH2.out.l HR2.out HI2.out HOK.out (by omega) (by omega) (by omega) (by omega))
      have HLT := Lib.hid (recB_lt (ep := L.ep) (sq := L.seq) HOK.out)
      clear hap hpn hlr
      go_wp2_with fail
      refine HREC.out.mono ?_
      rintro e w4 ⟨hg4, gr, cap, rfl, hge, hgl, hlc, hcm, hcl⟩
      have HH4 := Lib.hid (HH2.out.quiet hg4); have HT4 := Lib.hid (HT2.out.trans (Turn.none_ hg4)); have HR4 := Lib.hid (HR2.out.keep hg4 (by simp))
      have HGO := Lib.hid (show ¬ own gr from fun ho => by have := HH2.out.s.own_lt ho; omega)
      have HD4 := Lib.hid (show Dsk.Data w4 own (some ⟨gr, 0, none⟩) (recB L.ep L.seq l).length (recB L.ep L.seq l) from
        ⟨rfl, HLT.out, fun _ => ⟨gr, 0, rfl, hgl, HGO.out, fun j hj => by rw [Nat.zero_add]; exact hcl _ _ (u8s_at _ j hj)⟩⟩)
      rw [HLR.out] at HD4 hlc
      have HW := Lib.hid (log_write HH4.out gr (256 * (1 + n)) cap (recB L.ep L.seq l) HD4.out (by omega) (by omega) hlc hcm HROOM.out)
      rw [HLR.out]
      clear hg4 hge hgl hlc hcm hcl HREC HH2 HT2 HR2 HI2 HD4 HGO c3 c10
      go_wp2_with fail
      refine HW.out.mono ?_
      rintro e w5 ⟨rfl, own5, ha5, ht5⟩
      have HH5 := Lib.hid ha5; have HT5 := Lib.hid (HT4.out.trans (turn_own2 ht5))
      have HR5 := Lib.hid (show Ready w5 tb from by
        obtain ⟨cs, hb, hr⟩ := HR4.out
        exact ⟨cs, blk_of_block hb (ht5.block tb hb.lt HH4.out.s.n), hr⟩)
      clear ha5 ht5 HW HR4 HT4
      generalize putE S L (recB L.ep L.seq l) = R at *
      obtain ⟨E, S5⟩ := R
      dsimp only at *
      by_cases hE : E = 0
      · subst hE
        have HA := Lib.hid (show appendE S L l = (0, S5, L.pass (1 + n)) by rw [HAP.out, if_pos rfl])
        go_wp2_with fail
        refine (size_i n _ hnm).mono ?_
        rintro e w6 ⟨rfl, rfl⟩
        have HPS := Lib.hid (log_pass HH5.out.l (1 + n) (by omega) (by omega) (by omega) (by omega) hsq2)
        rw [show (1 : Int) + (n : Int) = ((1 + n : Nat) : Int) from by omega]
        go_wp2_with fail
        refine HPS.out.mono ?_
        rintro e w7 ⟨rfl, hl7, hg7⟩
        have HH7 := Lib.hid (HH5.out.log hg7 hl7 (by rw [HPN.out]; exact HKP.out)); have HT7 := Lib.hid (HT5.out.trans (turn_logblk (tb := tb) (own := own5) hg7)); have HR7 := Lib.hid (HR5.out.keep hg7 (by have := HH5.out.ne; simp; omega))
        clear hl7 hg7 HPS HH5 HT5 HR5
        go_wp2_with fail
        go_ret
        unfold AppendS
        rw [HA.out]
        exact ⟨rfl, ⟨own5, HH7.out, HT7.out⟩, fun _ => HR7.out⟩
      · have HA := Lib.hid (show appendE S L l = (E, S5, L.fail) by rw [HAP.out, if_neg hE])
        obtain ⟨_, _, _, _, _, _, c10, _, c12⟩ := HH5.out.l.cells
        have f10 := HH5.out.l.fz 10; have f12 := HH5.out.l.fz 12
        have hw2 : IntKind.i64.wrap ((L.seq : Int) + 1) = (L.seq : Int) + 1 := IntWalk.i64_in _ (by omega)
        have HFL := Lib.hid (HH5.out.l.fail (q := (L.seq : Int) + 1) (by omega))
        have hg7 : w5.grownBy ((w5.setCell ⟨g, 10, none⟩ (.int .i64 ((L.seq : Int) + 1))).setCell ⟨g, 12, none⟩ (.bool true)) (some g) := Lib.grownBy_setB (Lib.grownBy_setB (World.grownBy.refl w5 _) 10 _) 12 _
        have HH7 := Lib.hid (HH5.out.log hg7 HFL.out (by rw [HPN.out]; exact HKF.out)); have HT7 := Lib.hid (HT5.out.trans (turn_logblk (tb := tb) (own := own5) hg7)); have HR7 := Lib.hid (HR5.out.keep hg7 (by have := HH5.out.ne; simp; omega))
        clear hg7 HFL HH5 HT5 HR5
        go_wp2_with fail
        go_ret
        unfold AppendS
        rw [HA.out]
        exact ⟨rfl, ⟨own5, HH7.out, HT7.out⟩, fun _ => HR7.out⟩
end Go.Proofs.YteaokeiolgjhaaaGreat.Log
/- read and readImages of package log, where no read fails. -/
namespace Go.Proofs.YteaokeiolgjhaaaGreat.Log
open Go.RowKit CrcMath CodecMath Mem Crc Codec DiskSpec Dsk Sup

theorem readE_free {S : St} (h : S.f1 = 0) {a : Nat} (ha : a < S.n) : readE S (a : Nat) 1 = (0, S) ∧ readL S (a : Nat) 1 = S.now a := by
  have h1 : S.has (a : Nat) 1 = true := by simp [St.has]; omega
  constructor
  · unfold readE
    rw [if_neg (by rw [h1]; simp), if_neg (by omega)]
    congr 1
    cases S
    simp at h
    simp [h]
  · unfold readL
    rw [if_neg (by rw [h1]; simp), if_neg (by omega)]
    show St.reads _ a 1 = _
    simp [St.reads]
/-- A reader leaves the log as it is. -/
def Quiet (w w' : World) (B b tb g : Nat) (S : St) (own : Nat → Prop) (L : Lg) : Prop := LAt w' B b tb g S own L ∧ Turn w w' own own
theorem Quiet.ready {w w' : World} {B b tb g : Nat} {S : St} {own : Nat → Prop} {L : Lg} (h : LAt w B b tb g S own L) (hq : Quiet w w' B b tb g S own L) (hr : Ready w tb) : Ready w' tb := by
  obtain ⟨cs, hb, hr⟩ := hr
  exact ⟨cs, blk_of_block hb (hq.2.block tb hb.lt h.s.n), hr⟩
theorem LAt.far {w w' : World} {B b tb g : Nat} {S : St} {own : Nat → Prop} {L : Lg} (h : LAt w B b tb g S own L) {row : Option Nat} (hg : w.grownBy w' row) (hr : ∀ q, row = some q → ¬ With2 own tb g q) : LAt w' B b tb g S own L :=
  ⟨⟨dat_grown h.s.d hg (fun j e ho => hr j e (.inl (.inl ho))), tab_keep h.s.t hg (fun e => hr tb e.symm (.inl (.inr rfl))), h.s.n, Nat.le_trans h.s.s hg.size⟩, h.l.grown hg (fun e => hr g e.symm (.inr rfl)), h.o, h.k⟩
/-- Rows of the reader's own are written. -/
theorem Quiet.far {w w2 w3 : World} {B b tb g : Nat} {S : St} {own : Nat → Prop} {L : Lg} (h : LAt w B b tb g S own L) (hq : Quiet w w2 B b tb g S own L) {row : Option Nat} (hg : w2.grownBy w3 row) (hr : ∀ q, row = some q → w.heap.size ≤ q) : Quiet w w3 B b tb g S own L :=
  ⟨hq.1.far hg (fun q e ho => by have := hr q e; have := h.own_lt ho; omega),
    ⟨hg.os.trans hq.2.os, hg.tape.trans hq.2.tape, hg.output.trans hq.2.output, Nat.le_trans hq.2.size hg.size,
      fun i hi hno => (hg.block i (Nat.lt_of_lt_of_le hi hq.2.size) (fun e => by have := hr i e.symm; omega)).trans (hq.2.block i hi hno), fun i hi => .inl hi⟩⟩
theorem place_grown {w : World} {g b tb : Nat} {L : Lg} (h : LBlk w g L b tb) (k : Nat) (hk : k ≤ 1099511627776) (ht : L.tail ≤ 1099511627776) (h1 : 1 ≤ L.ln) :
    Calls Tryz.prog 176 #[.pointer (some ⟨g, 0, none⟩), .int .i64 (k : Nat)] w fun e w' => e = .returned (.int .i64 ((L.tail + k) % L.ln : Nat)) ∧ w.grownBy w' none :=
  (log_place h k hk ht h1).mono fun e w' ⟨he, m, hw⟩ => ⟨he, by subst hw; exact grown_drewN (World.grownBy.refl w none) m⟩
theorem room_grown {w : World} {g b tb : Nat} {L : Lg} (h : LBlk w g L b tb) (hk : L.taken ≤ L.ln) (hl : L.ln ≤ 1099511627776) :
    Calls Tryz.prog 108 #[.pointer (some ⟨g, 0, none⟩)] w fun e w' => e = .returned (.int .i64 (L.room : Nat)) ∧ w.grownBy w' none :=
  (log_room h hk hl).mono fun e w' ⟨he, m, hw⟩ => ⟨he, by subst hw; exact grown_drewN (World.grownBy.refl w none) m⟩
set_option maxRecDepth 100000 in
set_option maxHeartbeats 3200000 in
theorem log_read {w : World} {B b tb g : Nat} {S : St} {own : Nat → Prop} {L : Lg} (h : LAt w B b tb g S own L) (hf : S.f1 = 0) (k : Nat) (hk : k ≤ 1099511627776) :
    Calls Tryz.prog 172 #[.pointer (some ⟨g, 0, none⟩), .int .i64 (k : Nat)] w fun e w' => ∃ gs cap, e = .returned (.tuple #[.slice (some ⟨gs, 0, none⟩) 256 cap, .int .i64 0]) ∧ w.heap.size ≤ gs ∧ Blk w' gs 5 (u8s (S.now (L.sec k))).toArray ∧ Quiet w w' B b tb g S own L := by
  have htop := h.s.ok.top
  have hfit := h.k.fit; have htl := h.k.tail; have hln := h.k.low
  have hkeep : ∀ wx (hx : LAt wx B b tb g S own L), wx.cell? ⟨g, 0, none⟩ = some (.pointer (some ⟨b, 0, none⟩)) ∧ wx.cell? ⟨g, 5, none⟩ = some (.int .i64 (L.st : Nat)) := by
    intro wx hx
    obtain ⟨c0, _, _, c5, _⟩ := hx.l.cells
    exact ⟨c0, c5⟩
  have HKEEP := Lib.hid hkeep
  have H := Lib.hid h
  have HA0 := Lib.hid (h.quiet (grown_drew w none))
  have HPL := Lib.hid (fun wx (hx : LAt wx B b tb g S own L) => place_grown hx.l k hk (by omega) hln)
  have hsl := Lg.sec_lt h.k k
  have hmod := Nat.mod_lt (L.tail + k) (show 0 < L.ln by omega)
  have HSE := Lib.hid (show (L.st : Int) + (((L.tail + k) % L.ln : Nat) : Int) = (L.sec k : Nat) from by unfold Lg.sec; omega)
  obtain ⟨hre, hrl⟩ := readE_free hf hsl
  have HLEN := Lib.hid (S.now_sec h.s.ok (L.sec k)).1
  have hrd : ∀ wx (hx : LAt wx B b tb g S own L), Calls Tryz.prog 106 #[.pointer (some ⟨b, 0, none⟩), .int .i64 ((L.st : Int) + (((L.tail + k) % L.ln : Nat) : Int)), .int .i64 1] wx fun e w' => ∃ gs cap, e = .returned (.tuple #[.slice (some ⟨gs, 0, none⟩) 256 cap, .int .i64 0]) ∧ wx.heap.size ≤ gs ∧ Blk w' gs 5 (u8s (S.now (L.sec k))).toArray ∧ DAt w' B b S own ∧ Turn wx w' own own := fun wx hx => by
    rw [HSE.out]
    refine (disk_read_all hx.s.d (L.sec k : Nat) 1 (by omega) (by omega)).mono ?_
    rintro e w' ⟨v, rfl, hg, hd, ht⟩
    rw [hre] at hd
    rw [hre]
    rw [hrl] at hg
    rcases hg with ⟨_, hg⟩ | ⟨gs, cap, rfl, h1, h2⟩
    · have := HLEN.out
      rw [hg] at this
      cases this
    · rw [HLEN.out]
      exact ⟨gs, cap, rfl, h1, h2, hd, ht⟩
  have HRD := Lib.hid hrd
  have hw1 : IntKind.i64.wrap ((L.st : Int) + (((L.tail + k) % L.ln : Nat) : Int)) = (L.st : Int) + (((L.tail + k) % L.ln : Nat) : Int) := IntWalk.i64_in _ (by omega)
  clear hkeep h hsl hre hrl hrd
  generalize (((L.tail + k) % L.ln : Nat)) = q at *
  go_enter Tryz.func172, Tryz.ntmps172
  go_wp2_with fail
  go_region_held3 (fun wx => wx.cell? ⟨g, 0, none⟩ = some (.pointer (some ⟨b, 0, none⟩)) ∧ wx.cell? ⟨g, 5, none⟩ = some (.int .i64 (L.st : Nat)))
    (first
      | exact HKEEP.out _ HA0.out
      | exact HKEEP.out _ HA1.out
      | exact HKEEP.out _ HA2.out)
    (first
      | (go_at_call 176
         (with_reducible refine (HPL.out _ HA0.out).mono ?_)
         rintro e w1 ⟨rfl, hg1⟩
         have HG1 := Lib.hid ((grown_drew w none).trans hg1)
         have HA1 := Lib.hid (HA0.out.quiet hg1)
         clear hg1)
      | (go_at_call 106
         (with_reducible refine (HRD.out _ HA1.out).mono ?_)
         rintro e w2 ⟨gs, cap, rfl, hgs, hbs, hd2, ht2⟩
         have HA2 := Lib.hid (HA1.out.disk hd2 ht2 rfl)
         have HT2 := Lib.hid ((Turn.none_ HG1.out).trans ht2)
         have HBS := Lib.hid hbs
         have HGS := Lib.hid hgs
         clear hd2 ht2 hbs hgs))
  go_wp2_with fail
  go_ret2
  exact ⟨gs, cap, rfl, Nat.le_trans HG1.out.size HGS.out, HBS.out, HA2.out, HT2.out⟩
set_option maxRecDepth 100000 in
set_option maxHeartbeats 3200000 in
theorem log_readimages {w : World} {B b tb g : Nat} {S : St} {own : Nat → Prop} {L : Lg} (h : LAt w B b tb g S own L) (hf : S.f1 = 0) (n : Nat) (hn : n ≤ 4096) :
    Calls Tryz.prog 174 #[.pointer (some ⟨g, 0, none⟩), .int .i64 (n : Nat)] w fun e w' => ∃ v, e = .returned (.tuple #[v, .int .i64 0]) ∧ Own w' w.heap.size 5 1 v (256 * n) (u8s (readsL S L n)) ∧ Quiet w w' B b tb g S own L := by
  obtain ⟨k0, hk0, hy0, hy1, hy2⟩ := info_parts byte_info
  have hk := Lib.hid hk0; have y0 := Lib.hid hy0; have y1 := Lib.hid hy1; have y2 := Lib.hid hy2
  have H := Lib.hid h
  have HRD := Lib.hid (fun wx (hx : LAt wx B b tb g S own L) (k : Nat) (hk : k ≤ 1099511627776) => log_read hx hf k hk)
  have HLS := Lib.hid (fun k => (S.now_sec h.s.ok (L.sec k)).1)
  clear h hk0 hy0 hy1 hy2
  go_enter Tryz.func174, Tryz.ntmps174
  go_wp2_with fail
  go_loopw [6, 11] (fun v i wr => ∃ j : Nat, j ≤ n ∧ i = .int .i64 j ∧ Own wr w.heap.size 5 1 v (256 * j) (u8s (readsL S L j)) ∧ Quiet w wr B b tb g S own L) (fun _ i _ => n - (Go.RowKit.intOf i).toNat)
  case atStart => exact ⟨0, Nat.zero_le _, rfl, Own.nil _ _ _ _, H.out, Turn.refl _ _⟩
  case round =>
    obtain ⟨j, hj, rfl, ho, hq⟩ := hrel
    have HO := Lib.hid ho; have HQ := Lib.hid hq
    clear ho hq
    by_cases hlt : j < n
    · have hjn : (j : Int) < (n : Int) := by omega
      go_wp2_with fail
      refine (size_any j _ (by omega)).mono ?_
      rintro e w1 ⟨rfl, rfl⟩
      go_wp2_with fail
      refine (HRD.out _ HQ.out.1 (1 + j) (by omega)).mono ?_
      rintro e w2 ⟨gs, cap, rfl, hgs, hbs, hq2⟩
      have HQ2 := Lib.hid (show Quiet w w2 B b tb g S own L from ⟨hq2.1, HQ.out.2.trans hq2.2⟩)
      have HO2 := Lib.hid (own_of_block HO.out (fun q hq => hq2.2.block q (HO.out.base_ q hq).2 (fun ho => by have := H.out.s.own_lt ho; have := (HO.out.base_ q hq).1; omega)))
      have HBS := Lib.hid hbs
      have HNB := Lib.hid (show ∀ q, u6.ownBlock = some q → w.heap.size ≤ q from fun q hq => (HO.out.base_ q hq).1)
      have hsz := HQ2.out.2.size
      clear hgs hbs hq2
      go_wp2_with (at_builtin
                   refine wpList_append_own_full _ rfl (.tmp 24) (.tmp 25) _ rfl w.heap.size 5 k0 _ 1 1 Tryz.underlying38 hk.out y0.out y1.out y2.out rfl (by omega) _ (256 * j) _ rfl HO2.out
                     _ _ 256 cap _ rfl (reads_blk HBS.out (HLS.out _)) (u8s_one _) (by simp only [maxLen]; omega) (by omega) (by omega) ?_
                   intro v' w3 hown' hgr'
                   have HO3 := Lib.hid hown'; have HG3 := Lib.hid hgr'; clear hown' hgr')
      have HQ3 := Lib.hid (Quiet.far H.out HQ2.out HG3.out.1 HNB.out)
      go_roundw
      case rel => exact ⟨j + 1, by omega, by go_num, by rw [readsL, u8s_append]; exact HO3.out, HQ3.out⟩
      case measure => simp [Go.RowKit.intOf]; omega
    · obtain rfl : j = n := by omega
      go_wp2_with fail
      go_ret2
      exact ⟨_, rfl, HO.out, HQ.out⟩
end Go.Proofs.YteaokeiolgjhaaaGreat.Log
/- A store in memory: its block, its maps of pages, its log, its disk. -/
namespace Go.Proofs.YteaokeiolgjhaaaGreat.Sto
open Go.RowKit Go.Maps Go.ChangeMaps Go.MapKept CrcMath CodecMath Mem Crc Codec DiskSpec Dsk Sup Log

/-- A page's value. -/
def PgV (w : World) (P : Nat → Prop) (v : Value) (p : Pg) : Prop := ∃ bv, v = .agg #[.int .i64 p.1, bv] ∧ BodyAt w P bv p.2
section
variable {w w' : World} {P P' Q : Nat → Prop} {v : Value} {p : Pg} {bm : Nat} {D : Pgs}
theorem PgV.turn (h : PgV w P v p) (ht : Turn w w' P P') : PgV w' P' v p := by
  obtain ⟨bv, e, hb⟩ := h
  exact ⟨bv, e, hb.turn ht⟩
theorem PgV.weak (h : PgV w P v p) (hq : ∀ i, i < w.heap.size → Q i → P i) : PgV w Q v p := by
  obtain ⟨bv, e, hb⟩ := h
  exact ⟨bv, e, hb.weak hq⟩
/-- Values of pages. -/
def PgVs (w : World) (P : Nat → Prop) (f : Nat → Option Value) (D : Pgs) : Prop :=
  ∀ k, (D k = none ∧ f k = none) ∨ ∃ p v, D k = some p ∧ f k = some v ∧ PgV w P v p
theorem PgVs.turn {f : Nat → Option Value} (h : PgVs w P f D) (ht : Turn w w' P P') : PgVs w' P' f D := fun k => by
  rcases h k with h1 | ⟨p, v, h1, h2, h3⟩
  · exact .inl h1
  · exact .inr ⟨p, v, h1, h2, h3.turn ht⟩
theorem PgVs.weak {f : Nat → Option Value} (h : PgVs w P f D) (hq : ∀ i, i < w.heap.size → Q i → P i) : PgVs w Q f D := fun k => by
  rcases h k with h1 | ⟨p, v, h1, h2, h3⟩
  · exact .inl h1
  · exact .inr ⟨p, v, h1, h2, h3.weak hq⟩
/-- Block bm is a map of pages. -/
structure PMap (w : World) (P : Nat → Prop) (bm : Nat) (D : Pgs) : Prop where
  m : ∃ f, MapIs Tryz.prog 3 w bm 1024 f ∧ PgVs w P f D
  ok : PgsOk D
theorem PMap.lt (h : PMap w P bm D) : bm < w.heap.size := by obtain ⟨f, h1, _⟩ := h.m; exact h1.lt
/-- What may turn has turned, but not the map's own block. -/
theorem PMap.turn (h : PMap w P bm D) (ht : Turn w w' P P') (hb : w'.heap[bm]? = w.heap[bm]?) : PMap w' P' bm D := by
  obtain ⟨f, h1, h2⟩ := h.m
  exact ⟨⟨f, h1.of_block hb, h2.turn ht⟩, h.ok⟩
theorem PMap.weak (h : PMap w P bm D) (hq : ∀ i, i < w.heap.size → Q i → P i) : PMap w Q bm D := by
  obtain ⟨f, h1, h2⟩ := h.m
  exact ⟨⟨f, h1, h2.weak hq⟩, h.ok⟩
theorem PMap.made (w : World) (P : Nat → Prop) : PMap (w.alloc (.map #[] 0)) P w.heap.size noPgs :=
  ⟨⟨_, MapIs.made w _ _ 1024, fun _ => .inl ⟨rfl, rfl⟩⟩, PgsOk.none_⟩
/-- How many there are. -/
theorem PMap.size (h : PMap w P bm D) (ty : TypeId) : (Builtin.len_ #[102] ty #[.map (some bm)]).run Tryz.prog w = .ok (.int .i64 ((keys D).length : Nat)) w := by
  obtain ⟨f, ⟨E, h1, h2, h3⟩, hv⟩ := h.m
  have ht := h1.tidy (int_keyed Tryz.underlying3)
  have hp := MapIs.keys_perm ht h2 h3
  have hl := hp.length_eq
  rw [size_keys, List.length_map] at hl
  have e : ((List.range 1024).filter fun k => (f k).isSome) = keys D := by
    unfold keys
    refine List.filter_congr fun k _ => ?_
    rcases hv k with ⟨a, b⟩ | ⟨p, v, a, b, _⟩ <;> simp [a, b]
  rw [e] at hl
  rw [← hl]
  exact h1.len Tryz.underlying102 ty
theorem zeroPg (w : World) : (zeroValue 40).run Tryz.prog w = .ok (.agg #[.int .i64 0, .slice none 0 0]) w := by kernel_rfl
theorem int_key (k : Nat) (hk : k < 9223372036854775808) : keyOf Tryz.prog 3 (.int .i64 (k : Nat)) = some (keyL k) :=
  keyOf_int_mk Tryz.underlying3 (by simp [Lit.wf, IntKind.min, IntKind.max, IntKind.signed, IntKind.bits]; omega)
/-- 'v := m[k]' of a page that there is. -/
theorem PMap.look (h : PMap w P bm D) {k : Nat} {p : Pg} (hp : D k = some p) : ∃ v, (Instr.lookup 102 (.map (some bm)) (.int .i64 (k : Nat)) false).run Tryz.prog w = .ok v w ∧ PgV w P v p := by
  obtain ⟨f, h1, h2⟩ := h.m
  have hlt := h.ok.lt hp
  have hr := h1.look (t := 102) (E := 40) Tryz.underlying3 Tryz.underlying102 (zeroPg w) k (by omega)
  rcases h2 k with ⟨a, _⟩ | ⟨q, v, a, b, hv⟩
  · rw [hp] at a; cases a
  · rw [hp] at a; cases a
    rw [b] at hr
    exact ⟨v, hr, hv⟩
/-- 'v, ok := m[k]'. -/
theorem PMap.lookOk (h : PMap w P bm D) (k : Nat) (hk : k < 9223372036854775808) : ∃ v, (Instr.lookup 102 (.map (some bm)) (.int .i64 (k : Nat)) true).run Tryz.prog w = .ok (.tuple #[v, .bool (D k).isSome]) w ∧
    ((D k = none ∧ v = .agg #[.int .i64 0, .slice none 0 0]) ∨ ∃ p, D k = some p ∧ PgV w P v p) := by
  obtain ⟨f, ⟨E, g1, g2, g3⟩, h2⟩ := h.m
  obtain ⟨v, ps, hr, hv⟩ := g1.look_ok (int_keyed Tryz.underlying3) Tryz.underlying102 (zeroPg w) (zd := .held (.agg #[.int .i64 0, .slice none 0 0])) (zp := []) rfl (int_key k hk)
  rw [g2] at hv
  rcases h2 k with ⟨a, b⟩ | ⟨q, u, a, b, hu⟩
  · rw [b] at hv
    simp [heldR] at hv
    have hh : Maps.has E (keyL k) = false := has_false_of_atKey (fun z => by rw [g2, b])
    rw [hh] at hr
    exact ⟨v, by rw [a]; exact hr, .inl ⟨a, hv.1⟩⟩
  · rw [b] at hv
    simp [heldR] at hv
    have hh : Maps.has E (keyL k) = true := has_true_of_atKey (y := .held u) (fun z => by rw [g2, b])
    rw [hh] at hr
    exact ⟨v, by rw [a]; exact hr, .inr ⟨q, a, by rw [hv.1]; exact hu⟩⟩
/-- .. of a map that is nil. -/
theorem nilLook (w : World) (k : Nat) (hk : k < 9223372036854775808) : (Instr.lookup 102 (.map none) (.int .i64 (k : Nat)) true).run Tryz.prog w = .ok (.tuple #[.agg #[.int .i64 0, .slice none 0 0], .bool false]) w := by
  have := Maps.look_nil (w := w) true (int_keyed (k := 3) Tryz.underlying3) Tryz.underlying102 (zeroPg w) (int_key k hk)
  simpa using this
/-- 'm[k] = v'. -/
theorem PMap.store (h : PMap w P bm D) {k : Nat} {p : Pg} {v : Value} (hv : PgV w P v p) (hok : pageOk (k : Int) p.1 p.2 = true) (hbm : P bm) :
    ∃ w', (Instr.mapUpdate 102 (.map (some bm)) (.int .i64 (k : Nat)) v).run Tryz.prog w = .ok () w' ∧ PMap w' P bm (upd D k (some p)) ∧ w.grownBy w' (some bm) := by
  obtain ⟨f, h1, h2⟩ := h.m
  have hlt : k < 1024 := by have := (pageOk_iff hok).2.1; omega
  obtain ⟨w', hr, h3, hg⟩ := h1.store (t := 102) (E := 40) Tryz.underlying3 Tryz.underlying102 k hlt (by omega) (by simp [maxLen]) v
  have ht : Turn w w' P P := .of_grown hg (fun j e => by cases e; exact hbm)
  refine ⟨w', hr, ⟨⟨_, h3, fun j => ?_⟩, h.ok.upd hok⟩, hg⟩
  by_cases e : j = k
  · subst e
    exact .inr ⟨p, v, upd_same _ _ _, if_pos rfl, hv.turn ht⟩
  · rcases h2 j with ⟨a, b⟩ | ⟨q, u, a, b, hu⟩
    · exact .inl ⟨by rw [upd_ne _ _ e]; exact a, by simp only [if_neg e]; exact b⟩
    · exact .inr ⟨q, u, by rw [upd_ne _ _ e]; exact a, by simp only [if_neg e]; exact b, hu.turn ht⟩
/-- 'clear(m)'. -/
theorem PMap.clear (h : PMap w P bm D) (ty : TypeId) : ∃ w', (Builtin.clear_ #[102] ty #[.map (some bm)]).run Tryz.prog w = .ok (.tuple #[]) w' ∧ PMap w' P bm noPgs ∧ w.grownBy w' (some bm) := by
  obtain ⟨f, h1, h2⟩ := h.m
  obtain ⟨w', hr, h3, hg⟩ := h1.clear Tryz.underlying102 ty
  exact ⟨w', hr, ⟨⟨_, h3, fun k => .inl ⟨rfl, rfl⟩⟩, PgsOk.none_⟩, hg⟩
end

/-! ### The store's block -/
def stoC (b tb : Nat) (lv : Value) (dm : Nat) (wm : Option Nat) (x : Sb) : Array Value :=
  #[.pointer (some ⟨b, 0, none⟩), .pointer (some ⟨tb, 0, none⟩), .int .i64 (x.gn : Nat), .int .i64 (x.ep : Nat), .int .i64 (x.pg : Nat), .int .i64 (x.st : Nat), .int .i64 (x.ln : Nat), .int .i64 (x.hd : Nat), .int .i64 (x.sq : Nat),
    lv, .map (some dm), .map wm]
/-- All that may turn in a call. -/
def Foot (own : Nat → Prop) (tb g sb dm : Nat) (wm : Option Nat) : Nat → Prop := fun i => With2 own tb g i ∨ i = sb ∨ i = dm ∨ wm = some i
/-- A store in memory: what it has for a log, and the log beside it. -/
structure StoAtG (lv : Value) (w : World) (B b tb g sb dm : Nat) (wm : Option Nat) (own : Nat → Prop) (s : Sto) : Prop where
  l : LAt w B b tb g s.S own s.L
  r : Ready w tb
  c : Blk w sb 104 (stoC b tb lv dm wm s.x)
  d : PMap w (Foot own tb g sb dm wm) dm s.D
  u : ∀ U, s.W = some U → ∃ m, wm = some m ∧ PMap w (Foot own tb g sb dm wm) m U
  n : s.W = none → wm = none
  may : mayB s.x.l (s.S.n : Nat) = true
  osb : ¬ With2 own tb g sb
  odm : ¬ With2 own tb g dm ∧ dm ≠ sb
  owm : ∀ m, wm = some m → ¬ With2 own tb g m ∧ m ≠ sb ∧ m ≠ dm
  low : B ≤ tb ∧ B ≤ g ∧ B ≤ sb ∧ B ≤ dm ∧ ∀ m, wm = some m → B ≤ m
/-- A store with a log of its own. -/
abbrev StoAt (w : World) (B b tb g sb dm : Nat) (wm : Option Nat) (own : Nat → Prop) (s : Sto) : Prop := StoAtG (.pointer (some ⟨g, 0, none⟩)) w B b tb g sb dm wm own s
section
variable {lv : Value} {w w' : World} {B b tb g sb dm : Nat} {wm : Option Nat} {own : Nat → Prop} {s : Sto}
theorem StoAtG.cells (h : StoAtG lv w B b tb g sb dm wm own s) : w.cell? ⟨sb, 0, none⟩ = some (.pointer (some ⟨b, 0, none⟩)) ∧ w.cell? ⟨sb, 1, none⟩ = some (.pointer (some ⟨tb, 0, none⟩)) ∧
    w.cell? ⟨sb, 2, none⟩ = some (.int .i64 (s.x.gn : Nat)) ∧ w.cell? ⟨sb, 3, none⟩ = some (.int .i64 (s.x.ep : Nat)) ∧ w.cell? ⟨sb, 4, none⟩ = some (.int .i64 (s.x.pg : Nat)) ∧ w.cell? ⟨sb, 5, none⟩ = some (.int .i64 (s.x.st : Nat)) ∧
    w.cell? ⟨sb, 6, none⟩ = some (.int .i64 (s.x.ln : Nat)) ∧ w.cell? ⟨sb, 7, none⟩ = some (.int .i64 (s.x.hd : Nat)) ∧ w.cell? ⟨sb, 8, none⟩ = some (.int .i64 (s.x.sq : Nat)) ∧
    w.cell? ⟨sb, 9, none⟩ = some lv ∧ w.cell? ⟨sb, 10, none⟩ = some (.map (some dm)) ∧ w.cell? ⟨sb, 11, none⟩ = some (.map wm) := by
  have hb := h.c
  refine ⟨?_, ?_, ?_, ?_, ?_, ?_, ?_, ?_, ?_, ?_, ?_, ?_⟩ <;> (rw [hb.cell]; rfl)
theorem StoAtG.fz (h : StoAtG lv w B b tb g sb dm wm own s) (i : Nat) : w.frozen? ⟨sb, i, none⟩ = false := h.c.frozen i
theorem StoAtG.foot_lt (h : StoAtG lv w B b tb g sb dm wm own s) {i : Nat} (hi : Foot own tb g sb dm wm i) : i < w.heap.size := by
  rcases hi with hi | hi | hi | hi
  · exact h.l.own_lt hi
  · rw [hi]; exact h.c.lt
  · rw [hi]; exact h.d.lt
  · cases hw : s.W with
    | none => rw [h.n hw] at hi; cases hi
    | some U =>
      obtain ⟨m, e, hm⟩ := h.u U hw
      rw [e] at hi; cases hi
      exact hm.lt
theorem StoAtG.foot_low (h : StoAtG lv w B b tb g sb dm wm own s) {i : Nat} (hi : Foot own tb g sb dm wm i) : B ≤ i := by
  obtain ⟨l1, l2, l3, l4, l5⟩ := h.low
  rcases hi with ((hi | hi) | hi) | hi | hi | hi
  · exact h.l.s.low hi
  · rw [hi]; exact l1
  · rw [hi]; exact l2
  · rw [hi]; exact l3
  · rw [hi]; exact l4
  · exact l5 i hi
theorem foot_grow {own own' : Nat → Prop} {w w' : World} {tb g sb dm : Nat} {wm : Option Nat} (ht : Turn w w' (With2 own tb g) (With2 own' tb g)) : Turn w w' (Foot own tb g sb dm wm) (Foot own' tb g sb dm wm) :=
  ⟨ht.os, ht.tape, ht.output, ht.size, fun i hi hn => ht.block i hi (fun e => hn (.inl e)), fun i hi => by
    rcases hi with hi | hi
    · rcases ht.fresh i hi with h1 | h1
      · exact .inl (.inl h1)
      · exact .inr h1
    · exact .inl (.inr hi)⟩
/-- The log and the disk have turned. -/
theorem StoAtG.logs (h : StoAtG lv w B b tb g sb dm wm own s) {T : St} {M : Lg} {own' : Nat → Prop} (hl : LAt w' B b tb g T own' M) (ht : Turn w w' (With2 own tb g) (With2 own' tb g)) (hr : Ready w' tb) (hn : T.n = s.S.n) :
    StoAtG lv w' B b tb g sb dm wm own' { s with S := T, L := M } := by
  have hb : ∀ i, i < w.heap.size → ¬ With2 own tb g i → w'.heap[i]? = w.heap[i]? := fun i hi hn => ht.block i hi hn
  have hno : ∀ i, i < w.heap.size → ¬ With2 own tb g i → ¬ With2 own' tb g i := fun i hi hn hp => by
    rcases ht.fresh i hp with h4 | h4
    · exact hn h4
    · omega
  refine ⟨hl, hr, blk_of_block h.c (hb sb h.c.lt h.osb), h.d.turn (foot_grow ht) (hb dm h.d.lt h.odm.1), fun U hU => ?_, h.n, by show mayB s.x.l (T.n : Nat) = true; rw [hn]; exact h.may, hno sb h.c.lt h.osb, ⟨hno dm h.d.lt h.odm.1, h.odm.2⟩, fun m hm => ?_, h.low⟩
  · obtain ⟨m, e, hm⟩ := h.u U hU
    exact ⟨m, e, hm.turn (foot_grow ht) (hb m hm.lt (h.owm m e).1)⟩
  · exact ⟨hno m (h.foot_lt (.inr (.inr (.inr hm)))) (h.owm m hm).1, (h.owm m hm).2⟩
theorem StoAtG.quiet (h : StoAtG lv w B b tb g sb dm wm own s) (hg : w.grownBy w' none) : StoAtG lv w' B b tb g sb dm wm own s :=
  h.logs (h.l.quiet hg) (Turn.none_ hg) (h.r.keep hg (by simp)) rfl
theorem StoAtG.disk (h : StoAtG lv w B b tb g sb dm wm own s) {T : St} {own' : Nat → Prop} (hd : DAt w' B b T own') (ht : Turn w w' own own') (hn : T.n = s.S.n) : StoAtG lv w' B b tb g sb dm wm own' (s.disk T) :=
  h.logs (h.l.disk hd ht hn) (turn_log (turn_with ht tb) g) (by
    obtain ⟨cs, hb, hr⟩ := h.r
    exact ⟨cs, blk_of_block hb (ht.block tb hb.lt h.l.s.n), hr⟩) hn
/-! The store's own cells are written. -/
theorem StoAtG.turn_sb (hg : w.grownBy w' (some sb)) : Turn w w' (Foot own tb g sb dm wm) (Foot own tb g sb dm wm) := .of_grown hg (fun j e => by cases e; exact .inr (.inl rfl))
theorem StoAtG.super (h : StoAtG lv w B b tb g sb dm wm own s) (hg : w.grownBy w' (some sb)) {x' : Sb} (hc : Blk w' sb 104 (stoC b tb lv dm wm x')) (hm : mayB x'.l (s.S.n : Nat) = true) : StoAtG lv w' B b tb g sb dm wm own { s with x := x' } where
  l := h.l.far hg (fun q e => (by cases e; exact h.osb))
  r := h.r.keep hg (fun e => (by cases e; exact h.osb (.inl (.inr rfl))))
  c := hc
  d := h.d.turn (StoAtG.turn_sb hg) (hg.block dm h.d.lt (fun e => by cases e; exact h.odm.2 rfl))
  u := fun U hU => by
    obtain ⟨m, e, hm⟩ := h.u U hU
    exact ⟨m, e, hm.turn (StoAtG.turn_sb hg) (hg.block m hm.lt (fun e2 => (h.owm m e).2.1 (by cases e2; rfl)))⟩
  n := h.n
  may := hm
  osb := h.osb
  odm := h.odm
  owm := h.owm
  low := h.low
/-- A transaction begins. -/
theorem StoAtG.begun (h : StoAtG lv w B b tb g sb dm none own s) :
    StoAtG lv ((w.alloc (.map #[] 0)).setCell ⟨sb, 11, none⟩ (.map (some w.heap.size))) B b tb g sb dm (some w.heap.size) own { s with W := some noPgs } ∧
    Turn w ((w.alloc (.map #[] 0)).setCell ⟨sb, 11, none⟩ (.map (some w.heap.size))) (Foot own tb g sb dm none) (Foot own tb g sb dm (some w.heap.size)) := by
  have hga := World.grownBy_alloc w (.map #[] 0) none
  have h1 := h.quiet hga
  have hg := Lib.grownBy_setB (World.grownBy.refl (w.alloc (.map #[] 0)) (some sb)) 11 (.map (some w.heap.size))
  have hw : ∀ i, i < w.heap.size → Foot own tb g sb dm (some w.heap.size) i → Foot own tb g sb dm none i := fun i hi hf => by
    rcases hf with hf | hf | hf | hf
    · exact .inl hf
    · exact .inr (.inl hf)
    · exact .inr (.inr (.inl hf))
    · cases hf; omega
  have ht : Turn (w.alloc (.map #[] 0)) ((w.alloc (.map #[] 0)).setCell ⟨sb, 11, none⟩ (.map (some w.heap.size))) (Foot own tb g sb dm (some w.heap.size)) (Foot own tb g sb dm (some w.heap.size)) := StoAtG.turn_sb hg
  have hsb := h.c.lt
  have hlow := h.foot_low (i := sb) (.inr (.inl rfl))
  have hm0 : ∀ i, Foot own tb g sb dm none i → i ≠ w.heap.size := fun i hi e => by have := h.foot_lt hi; omega
  refine ⟨⟨h1.l.far hg (fun q e => (by cases e; exact h.osb)), h1.r.keep hg (fun e => (by cases e; exact h.osb (.inl (.inr rfl)))), h1.c.set_ 11 _, ?_, fun U hU => ?_, fun e => (by cases e), h.may, h.osb, h.odm, fun m e => ?_, ⟨h.low.1, h.low.2.1, h.low.2.2.1, h.low.2.2.2.1, fun m e => (by cases e; omega)⟩⟩, ?_⟩
  · exact ((h.d.weak hw).turn (Turn.none_ hga) (hga.block dm h.d.lt (by simp))).turn ht (hg.block dm (Nat.lt_of_lt_of_le h.d.lt hga.size) (fun e => by cases e; exact h.odm.2 rfl))
  · cases hU
    exact ⟨_, rfl, (PMap.made w _).turn ht (hg.block _ (by simp) (fun e => by cases e; omega))⟩
  · cases e
    exact ⟨fun ho => hm0 _ (.inl ho) rfl, fun e => by omega, fun e => by have := h.d.lt; omega⟩
  · refine ⟨hg.os.trans hga.os, hg.tape.trans hga.tape, hg.output.trans hga.output, Nat.le_trans hga.size hg.size, fun i hi hn => ?_, fun i hi => ?_⟩
    · exact (hg.block i (Nat.lt_of_lt_of_le hi hga.size) (fun e => by cases e; exact hn (.inr (.inl rfl)))).trans (hga.block i hi (by simp))
    · by_cases hi2 : i < w.heap.size
      · exact .inl (hw i hi2 hi)
      · exact .inr (by omega)
/-- It is over: nothing was written. -/
theorem StoAtG.over_ (h : StoAtG lv w B b tb g sb dm wm own s) :
    StoAtG lv (w.setCell ⟨sb, 11, none⟩ (.map none)) B b tb g sb dm none own s.idle ∧ Turn w (w.setCell ⟨sb, 11, none⟩ (.map none)) (Foot own tb g sb dm wm) (Foot own tb g sb dm none) := by
  have hg := Lib.grownBy_setB (World.grownBy.refl w (some sb)) 11 (.map none)
  have hw : ∀ i, Foot own tb g sb dm none i → Foot own tb g sb dm wm i := fun i hf => by
    rcases hf with hf | hf | hf | hf
    · exact .inl hf
    · exact .inr (.inl hf)
    · exact .inr (.inr (.inl hf))
    · cases hf
  have ht : Turn w (w.setCell ⟨sb, 11, none⟩ (.map none)) (Foot own tb g sb dm none) (Foot own tb g sb dm none) := StoAtG.turn_sb hg
  refine ⟨⟨h.l.far hg (fun q e => (by cases e; exact h.osb)), h.r.keep hg (fun e => (by cases e; exact h.osb (.inl (.inr rfl)))), h.c.set_ 11 _, ?_, fun U hU => (by cases hU), fun _ => rfl, h.may, h.osb, h.odm, fun m e => (by cases e), ⟨h.low.1, h.low.2.1, h.low.2.2.1, h.low.2.2.2.1, fun m e => (by cases e)⟩⟩, ?_⟩
  · exact (h.d.weak (fun i _ hi => hw i hi)).turn ht (hg.block dm h.d.lt (fun e => by cases e; exact h.odm.2 rfl))
  · refine ⟨hg.os, hg.tape, hg.output, hg.size, fun i hi hn => ?_, fun i hi => .inl (hw i hi)⟩
    exact hg.block i hi (fun e => by cases e; exact hn (.inr (.inl rfl)))
end
end Go.Proofs.YteaokeiolgjhaaaGreat.Sto
