/- The document's disk: Read, Flush. -/
import Derived.Test.YtkfijgdbaihhpaaRefFail
namespace Go.Proofs.Ytkfijgdbaihhpaa.Dsk
open Go.RowKit Mem Crc DiskSpec

theorem BytesAt.cellsRead {w : World} {own : Nat → Prop} {v : Value} {x : List Nat} (h : BytesAt w own v x) : ∃ g c, v = .slice (some ⟨g, 0, none⟩) 256 c ∧ Reads w w.heap.size 1 (some ⟨g, 0, none⟩) 256 (u8s x) := by
  obtain ⟨g, c, e, hlt, _, _, hc⟩ := h.reads
  have hx : Sec x := by obtain ⟨_, _, _, _, _, _, _, _, _, h5, _⟩ := h; exact h5
  refine ⟨g, c, e, by rw [u8s_length, hx.1], fun _ => ⟨_, rfl, hlt, fun j u hu => ?_⟩⟩
  have e1 : (⟨g, 0, none⟩ : Addr).add j = ⟨g, j, none⟩ := by unfold Addr.add; split <;> simp_all
  rw [e1]
  exact hc j u hu

set_option maxRecDepth 100000 in
set_option maxHeartbeats 1600000 in
theorem ref_read_ok {w : World} {B r bl c : Nat} {dv vv : Nat → Value} {vs : Nat → List Value} {S : St} {own : Nat → Prop} (h : RLay w B r bl c dv vv vs S own) (a count : Nat) (h1 : 1 ≤ count) (h2 : a + count ≤ S.n) (hf : S.f1 ≠ 1) :
    Calls Try.prog 20 #[.pointer (some ⟨r, 0, none⟩), .int .i64 (a : Nat), .int .i64 (count : Nat)] w fun e w' => ∃ v, e = .returned (.tuple #[v, .int .i64 0]) ∧
      Own w' w.heap.size 5 1 v (256 * count) (u8s (S.reads a count)) ∧ RLay w' B r bl c dv vv vs { S with f1 := S.f1 - 1 } own ∧ Turn w w' own own := by
  obtain ⟨i0, hi0, hz0, hz1, hz2⟩ := info_parts byte_info
  have hi := Lib.hid hi0; have z0 := Lib.hid hz0; have z1 := Lib.hid hz1; have z2 := Lib.hid hz2; clear hi0 hz0 hz1 hz2
  have htop := h.ok.top
  have HH := Lib.hid (ref_there h (a : Int) (count : Int) (by omega) (by omega))
  have hhas : S.has a count = true := by simp [St.has]; omega
  rw [hhas] at HH
  have HD := Lib.hid (ref_fails1 h)
  rw [show decide (S.f1 = 1) = false by simp [hf]] at HD
  have HOB := Lib.hid h.ownR
  have HOK := Lib.hid h.ok
  clear h hhas
  generalize hT : ({ S with f1 := S.f1 - 1 } : St) = T at *
  have HTN := Lib.hid (show T.n = S.n by rw [← hT])
  have HTR := Lib.hid (show T.now = S.now by rw [← hT]; rfl)
  clear hT
  have hws : IntKind.i64.wrap ((a : Int) + (count : Int)) = (a : Int) + (count : Int) := IntWalk.i64_in _ (by omega)
  go_enter Try.func20, Try.ntmps20
  go_wp2_with fail
  refine HH.out.mono ?_
  rintro e w' ⟨rfl, rfl⟩
  go_wp2_with fail
  refine HD.out.mono ?_
  rintro e w1 ⟨rfl, hg1, hl1⟩
  have hs1 := hg1.size
  have HT1 := Lib.hid (Turn.of_grown (own := own) hg1 (fun q e => by cases e; exact HOB.out)); have H1 := Lib.hid hl1; clear hg1 hl1
  go_wp2_with fail
  go_loopw [8, 9] (fun u i wr => ∃ (j : Nat) (i' : Int), j ≤ count ∧ i' = (a : Int) + j ∧ i = .int .i64 i' ∧ Own wr w.heap.size 5 1 u (256 * j) (u8s (S.reads a j)) ∧ w1.grownBy wr none ∧ (∀ g, u.ownBlock = some g → w1.heap.size ≤ g)) (fun _ i _ => a + count - (Go.RowKit.intOf i).toNat)
  case atStart => exact ⟨0, _, by omega, rfl, by rw [show (a : Int) + ((0 : Nat) : Int) = (a : Int) by omega], Own.nil _ _ _ _, World.grownBy.refl _ _, fun g hg => by cases hg⟩
  case round =>
    obtain ⟨j, i', hj, hi', rfl, ho, hg, hnb⟩ := hrel
    have hlr := H1.out.grown hg (fun _ e => by cases e)
    have HO := Lib.hid ho; have HG := Lib.hid hg; have HNB := Lib.hid hnb
    have hsz := hg.size
    clear ho hg hnb
    by_cases hlt : j < count
    · have HLA := Lib.hid (ref_last hlr (a + j) (by rw [HTN.out]; omega))
      rw [HTR.out] at HLA
      have EA := Lib.hid (show i' = ((a + j : Nat) : Int) by omega)
      have HX := Lib.hid (show a + count - ((a : Int) + (j : Int) + 1).toNat < a + count - i'.toNat by omega)
      have hlti : i' < (a : Int) + (count : Int) := by omega
      have hi0 : 0 ≤ i' := by omega
      have hi1 : i' < 100000 := by omega
      clear hlr
      have HI := Lib.hid hi'; clear hi'
      go_wp2_with fail
      rw [EA.out]
      refine HLA.out.mono ?_
      rintro e w3 ⟨v, rfl, hby, hg3⟩
      obtain ⟨g3, c3, rfl, hrd⟩ := hby.cellsRead
      have HRD := Lib.hid hrd
      have HO3 := Lib.hid (HO.out.keep hg3 (fun _ _ e => by cases e)); have HG3 := Lib.hid hg3
      have hs3 := hg3.size
      clear hby hrd hg3
      go_wp2_with (at_builtin
                   refine wpList_append_own_full _ rfl (.tmp 25) (.tmp 28) _ rfl w.heap.size 5 i0 _ 1 1 Try.underlying43 hi.out z0.out z1.out z2.out rfl (by omega) _ (256 * j) _ rfl HO3.out
                     _ _ 256 _ _ rfl HRD.out (u8s_one _) (by simp only [maxLen]; omega) (by omega) (by omega) ?_
                   intro v' w' hown' hgr'
                   have HO' := Lib.hid hown'; have HG' := Lib.hid hgr'; clear hown' hgr')
      go_roundw
      case rel =>
        refine ⟨j + 1, (a : Int) + (j : Int) + 1, by omega, by omega, by go_num, ?_, grownBy_new (HG.out.trans HG3.out) HG'.out.1 (fun q hq => HNB.out q hq), fun q hq => ?_⟩
        · have h := HO'.out
          rw [St.reads, u8s_append]
          exact h
        · rcases HG'.out.2 q hq with h3 | h3
          · exact HNB.out q h3
          · omega
      case measure =>
        simp only [Go.RowKit.intOf]
        exact HX.out
    · obtain rfl : j = count := by omega
      have hlti : ¬ (i' < (a : Int) + (j : Int)) := by omega
      have hdl : decide (i' < (a : Int) + (j : Int)) = false := by simp; omega
      have HI := Lib.hid hi'; clear hi'
      have HLR := Lib.hid hlr; clear hlr
      go_wp2
      go_ret2
      exact ⟨_, rfl, HO.out, HLR.out, HT1.out.trans (Turn.none_ HG.out)⟩

set_option maxHeartbeats 800000 in
theorem ref_read_no {w : World} {B r bl c : Nat} {dv vv : Nat → Value} {vs : Nat → List Value} {S : St} {own : Nat → Prop} (h : RLay w B r bl c dv vv vs S own) (a count : Int)
    (h1 : -9223372036854775808 ≤ a ∧ a ≤ 9223372036854775807) (h2 : -9223372036854775808 ≤ count ∧ count ≤ 9223372036854775807) (hn : S.has a count = false) :
    Calls Try.prog 20 #[.pointer (some ⟨r, 0, none⟩), .int .i64 a, .int .i64 count] w fun e w' => e = .returned (.tuple #[.slice none 0 0, .int .i64 2]) ∧ w = w' := by
  have HH := Lib.hid (ref_there h a count h1 h2)
  rw [hn] at HH
  clear h hn
  go_enter Try.func20, Try.ntmps20
  go_wp2_with fail
  refine HH.out.mono ?_
  rintro e w' ⟨rfl, rfl⟩
  go_wp2
  go_ret2
  exact ⟨rfl, rfl⟩
set_option maxHeartbeats 800000 in
theorem ref_read_fail {w : World} {B r bl c : Nat} {dv vv : Nat → Value} {vs : Nat → List Value} {S : St} {own : Nat → Prop} (h : RLay w B r bl c dv vv vs S own) (a count : Int)
    (h1 : -9223372036854775808 ≤ a ∧ a ≤ 9223372036854775807) (h2 : -9223372036854775808 ≤ count ∧ count ≤ 9223372036854775807) (hy : S.has a count = true) (hf : S.f1 = 1) :
    Calls Try.prog 20 #[.pointer (some ⟨r, 0, none⟩), .int .i64 a, .int .i64 count] w fun e w' => e = .returned (.tuple #[.slice none 0 0, .int .i64 10]) ∧ RLay w' B r bl c dv vv vs { S with f1 := S.f1 - 1 } own ∧ Turn w w' own own := by
  have HH := Lib.hid (ref_there h a count h1 h2)
  rw [hy] at HH
  have HD := Lib.hid (ref_fails1 h)
  rw [show decide (S.f1 = 1) = true by simp [hf]] at HD
  have HOB := Lib.hid h.ownR
  clear h hy hf
  generalize ({ S with f1 := S.f1 - 1 } : St) = T at *
  go_enter Try.func20, Try.ntmps20
  go_wp2_with fail
  refine HH.out.mono ?_
  rintro e w' ⟨rfl, rfl⟩
  go_wp2_with fail
  refine HD.out.mono ?_
  rintro e w1 ⟨rfl, hg1, hl1⟩
  have HG1 := Lib.hid hg1; have H1 := Lib.hid hl1; clear hg1 hl1
  go_wp2
  go_ret2
  exact ⟨rfl, H1.out, Turn.of_grown HG1.out (fun q e => by cases e; exact HOB.out)⟩
end Go.Proofs.Ytkfijgdbaihhpaa.Dsk
