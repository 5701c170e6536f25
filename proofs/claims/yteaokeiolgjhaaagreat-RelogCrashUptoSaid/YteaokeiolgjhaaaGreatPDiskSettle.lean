/- A sector is made durable. -/
import Derived.Test.YteaokeiolgjhaaaGreatPDiskNow
import Derived.Deep.RegionHeld3
namespace Go.Proofs.YteaokeiolgjhaaaGreat.Dsk
open Go.RowKit Mem Crc DiskSpec

theorem Lay.thereAt {w : World} {B b bd bm : Nat} {S : St} {f : Nat → Option Value} {own : Nat → Prop} (h : Lay w B b bd bm f S own) {i : Nat} (hi : i < S.n) : w.there bd (i * 256) 256 := fun j hj => by
  have := h.room (i * 256 + j) (by omega)
  rwa [Nat.zero_add] at this
/-- The map's own word for deleting, wherever it is done. -/
theorem Lay.dropAt {w : World} {B b bd bm : Nat} {S : St} {f : Nat → Option Value} {own : Nat → Prop} (h : Lay w B b bd bm f S own) {i : Nat} (hi : i < S.n) (ty : TypeId) :
    ∃ w', (Builtin.delete_ #[89, 3] ty #[.map (some bm), .int .i64 (i : Nat)]).run Tryz.prog w = .ok (.tuple #[]) w' ∧
      Lay w' B b bd bm (fun j => if j = i then none else f j) { S with ver := upd S.ver i [] } own ∧ w.grownBy w' (some bm) := by
  have htop := h.ok.top
  obtain ⟨w', hrun, hm, hg⟩ := h.map.drop (t := 89) (E := 88) Tryz.underlying3 Tryz.underlying89 i (by omega) ty
  exact ⟨w', hrun, h.drop i hg hm, hg⟩

set_option maxRecDepth 100000 in
set_option maxHeartbeats 800000 in
theorem disk_settle {w : World} {B b bd bm : Nat} {S : St} {f : Nat → Option Value} {own : Nat → Prop} (h : Lay w B b bd bm f S own) (i : Nat) (hi : i < S.n) :
    Calls Tryz.prog 89 #[.pointer (some ⟨b, 0, none⟩), .int .i64 (i : Nat)] w fun e w' => e = .returned (.tuple #[]) ∧ (∃ f', Lay w' B b bd bm f' (S.settle i) own) ∧ Turn w w' own own := by
  have htop := h.ok.top
  have hsec := S.now_sec h.ok i
  have hnow : ∀ wx, w.grownBy wx none → Calls Tryz.prog 135 #[.pointer (some ⟨b, 0, none⟩), .int .i64 (i : Nat)] wx fun e w' => e = .returned (.agg (u8s (S.now i)).toArray) ∧ wx.grownBy w' none := fun wx hg =>
    disk_now (h.grown hg (fun _ e => by cases e)) i hi
  have hkeep : ∀ wx, w.grownBy wx none → wx.cell? ⟨b, 0, none⟩ = some (.slice (some ⟨bd, 0, none⟩) S.n S.n) ∧ wx.there bd (i * 256) 256 := fun wx hg => by
    have h1 := h.grown hg (fun _ e => by cases e)
    exact ⟨h1.c0, h1.thereAt hi⟩
  have hend : ∀ wx, w.grownBy wx none → Lay (wx.setCells bd (i * 256) (u8s (S.now i))) B b bd bm f { S with dur := upd S.dur i (S.now i) } own ∧ Turn w (wx.setCells bd (i * 256) (u8s (S.now i))) own own := fun wx hg => by
    have h1 := (h.grown hg (fun _ e => by cases e)).setDur hi hsec
    rw [Nat.mul_comm] at h1
    exact ⟨h1, (Turn.none_ hg).trans (.of_grown (grown_setCells bd _ _ wx) (fun j e => by cases e; exact h.ownD))⟩
  have HI : (Tryz.prog.info? 119).map (·.size) = some (u8s (S.now i)).length := by rw [u8s_length, hsec.1]; exact infoS
  have HL : (u8s (S.now i)).length = 256 := by rw [u8s_length, hsec.1]
  have HO := u8s_one (S.now i)
  have HNOW := Lib.hid hnow; have HKEEP := Lib.hid hkeep; have HEND := Lib.hid hend
  have HD0 := Lib.hid (grown_drew w none)
  have hkeep2 : ∀ wx, w.grownBy wx none → (wx.setCells bd (i * 256) (u8s (S.now i))).cell? ⟨b, 0, none⟩ = some (.slice (some ⟨bd, 0, none⟩) S.n S.n) ∧ (wx.setCells bd (i * 256) (u8s (S.now i))).there bd (i * 256) 256 := fun wx hg => by
    have h1 := (HEND.out wx hg).1
    exact ⟨h1.c0, h1.thereAt hi⟩
  have HKEEP2 := Lib.hid hkeep2
  have hcur := h.c0
  clear hnow hkeep hend hkeep2 hsec h
  generalize hx : u8s (S.now i) = x at *
  clear hx
  generalize hT : ({ S with dur := upd S.dur i (S.now i) } : St) = T at *
  have HTN := Lib.hid (show T.n = S.n by rw [← hT])
  have HS := Lib.hid (show { T with ver := upd T.ver i [] } = S.settle i by rw [← hT]; rfl)
  clear hT
  generalize S.n = n at *
  go_enter Tryz.func89, Tryz.ntmps89
  go_wp2_with fail
  go_region_held3 (fun wx => wx.cell? ⟨b, 0, none⟩ = some (.slice (some ⟨bd, 0, none⟩) n n) ∧ wx.there bd (i * 256) 256)
    (first
      | exact HKEEP.out _ HD0.out
      | exact HKEEP.out _ HGs.out
      | exact HKEEP2.out _ HGs.out)
    (first
      | (go_at_call 135
         refine (HNOW.out _ HD0.out).mono ?_
         rintro e w1 ⟨rfl, hg⟩
         have HGs := Lib.hid (HD0.out.trans hg)
         clear hg))
  obtain ⟨h2, ht2⟩ := HEND.out _ HGs.out
  have hiT : i < T.n := by rw [HTN.out]; exact hi
  obtain ⟨w3, hrun, h3, hg3⟩ := h2.dropAt hiT 0
  have hc1 := h2.c1
  rw [HS.out] at h3
  have HT2 := Lib.hid (ht2.trans (.of_grown hg3 (fun j e => by cases e; exact h2.ownM)))
  have H3 := Lib.hid h3
  clear h3 hg3 ht2 h2 HEND HKEEP HKEEP2 HNOW HGs HD0 HS
  generalize w1.setCells bd (i * 256) x = w2 at *
  go_wp2
  go_end0
  exact ⟨rfl, ⟨_, H3.out⟩, HT2.out⟩
end Go.Proofs.YteaokeiolgjhaaaGreat.Dsk
