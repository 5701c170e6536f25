/- What each sector may be full of behind a crash: in plain words, and in memory. -/
import Derived.Test.YtboccfficmaoaaaMTail
import Derived.Test.YtboccfficmaoaaaMDiskFlushedWalk
namespace Go.Proofs.Ytboccfficmaoaaa.Dsk
open Go.RowKit Mem Crc DiskSpec

/-! ### Plain words -/
def Flat (x : List Nat) : Prop := x.getD 255 0 = x.getD 0 0
def first (x : List Nat) : Nat := x.getD 0 0
/-- Of each of the eight sectors the first bytes of what is durable and of its versions, in their order. -/
structure Kept (S : St) (m : Nat → List Nat) : Prop where
  n : S.n = 8
  is : ∀ i, i < 8 → m i = first (S.dur i) :: (S.ver i).map first
  dur : ∀ i, i < 8 → Flat (S.dur i)
  ver : ∀ i, i < 8 → ∀ v ∈ S.ver i, Flat v
theorem Kept.start : Kept (St.new 8) (fun _ => [0]) where
  n := rfl
  is := fun _ _ => by show [0] = first zeros :: []; rfl
  dur := fun _ _ => by show Flat zeros; rfl
  ver := fun _ _ v hv => by cases hv
theorem Kept.same {S T : St} {m : Nat → List Nat} (h : Kept S m) (hn : T.n = S.n) (hd : T.dur = S.dur) (hv : T.ver = S.ver) : Kept T m where
  n := hn.trans h.n
  is := fun i hi => by rw [hd, hv]; exact h.is i hi
  dur := fun i hi => by rw [hd]; exact h.dur i hi
  ver := fun i hi => by rw [hv]; exact h.ver i hi
theorem Kept.put {S : St} {m : Nat → List Nat} (h : Kept S m) (fua : Bool) (i : Nat) {v : List Nat} (hf : Flat v) : Kept (S.put fua i v) (upd m i ((if fua then [] else m i) ++ [first v])) := by
  have hnow : (S.add i v).now i = v := by
    show (upd S.ver i (S.ver i ++ [v]) i).getLastD _ = v
    simp [upd]
  refine ⟨by rw [put_n]; exact h.n, fun k hk => ?_, fun k hk => ?_, fun k hk u hu => ?_⟩
  · cases fua with
    | true =>
      show upd m i ([] ++ [first v]) k = first (upd (S.add i v).dur i ((S.add i v).now i) k) :: (upd (S.add i v).ver i [] k).map first
      by_cases e : k = i
      · subst e; simp only [upd, if_true, hnow]; rfl
      · simp only [upd, e, if_false]
        rw [h.is k hk]
        show _ = first (S.dur k) :: (upd S.ver i (S.ver i ++ [v]) k).map first
        simp only [upd, e, if_false]
    | false =>
      show upd m i (m i ++ [first v]) k = first (S.dur k) :: (upd S.ver i (S.ver i ++ [v]) k).map first
      by_cases e : k = i
      · subst e; simp only [upd, if_true]; rw [h.is k hk]; simp
      · simp only [upd, e, if_false]; exact h.is k hk
  · cases fua with
    | true =>
      show Flat (upd (S.add i v).dur i ((S.add i v).now i) k)
      by_cases e : k = i
      · subst e; simp only [upd, if_true, hnow]; exact hf
      · simp only [upd, e, if_false]; exact h.dur k hk
    | false => exact h.dur k hk
  · cases fua with
    | true =>
      have hu' : u ∈ upd (S.add i v).ver i [] k := hu
      by_cases e : k = i
      · subst e; simp [upd] at hu'
      · simp only [upd, e, if_false] at hu'
        have hu2 : u ∈ upd S.ver i (S.ver i ++ [v]) k := hu'
        simp only [upd, e, if_false] at hu2
        exact h.ver k hk u hu2
    | false =>
      have hu' : u ∈ upd S.ver i (S.ver i ++ [v]) k := hu
      by_cases e : k = i
      · subst e
        simp only [upd, if_true] at hu'
        rcases List.mem_append.1 hu' with h1 | h1
        · exact h.ver k hk u h1
        · rw [List.mem_singleton] at h1; subst h1; exact hf
      · simp only [upd, e, if_false] at hu'
        exact h.ver k hk u hu'
/-- What the law's own list says behind k sectors of a write. -/
def mayW (m : Nat → List Nat) (fua : Bool) (p : Nat) (l : List Nat) : Nat → Nat → List Nat
  | 0 => m
  | k + 1 => upd (mayW m fua p l k) (p + k) ((if fua then [] else mayW m fua p l k (p + k)) ++ [l.getD (256 * k) 0])
theorem Kept.puts {S : St} {m : Nat → List Nat} (h : Kept S m) (fua : Bool) (p : Nat) (l : List Nat) : ∀ k, (∀ j, j < k → Flat (sec l j)) → Kept (S.puts fua p l k) (mayW m fua p l k)
  | 0, _ => h
  | k + 1, hf => by
    have h1 := (h.puts fua p l k (fun j hj => hf j (by omega))).put fua (p + k) (hf k (by omega))
    have e : first (sec l k) = l.getD (256 * k) 0 := sec_at l k 0 (by omega)
    rw [e] at h1
    exact h1
theorem flat_sec (count fill : Int) {k : Nat} (hk : 256 * (k + 1) ≤ (dataL count 0 fill).length) : Flat (sec (dataL count 0 fill) k) := by
  have at_ : ∀ q, q < 256 → (sec (dataL count 0 fill) k).getD q 0 = dataB fill (256 * k) := fun q hq => by
    rw [sec_at _ _ _ hq]
    rw [dataL_length] at hk
    unfold dataL
    rw [List.getD_eq_getElem?_getD, List.getElem?_map, List.getElem?_range (by omega)]
    show dataB fill (256 * k + q) = _
    unfold dataB
    rw [show (256 * k + q) / 256 = k by omega, show 256 * k / 256 = k by omega]
  unfold Flat
  rw [at_ 255 (by omega), at_ 0 (by omega)]
theorem last_of (d : Nat) (vs : List (List Nat)) (v : List Nat) : (d :: (vs ++ [v]).map first).getLastD 0 = first ((vs ++ [v]).getLastD []) := by
  have e : d :: (vs ++ [v]).map first = (d :: vs.map first) ++ [first v] := by rw [List.map_append]; rfl
  have h1 : ∀ l : List Nat, ∀ y, (l ++ [y]).getLastD 0 = y := fun l y => by rw [List.getLastD_eq_getLast?, List.getLast?_append]; rfl
  have h2 : (vs ++ [v]).getLastD [] = v := by rw [List.getLastD_eq_getLast?, List.getLast?_append]; rfl
  rw [e, h1, h2]
theorem Kept.flush {S : St} {m : Nat → List Nat} (h : Kept S m) : Kept S.flush (fun i => [(m i).getLastD 0]) := by
  have hnow : ∀ i, i < 8 → (m i).getLastD 0 = first (S.now i) ∧ Flat (S.now i) := fun i hi => by
    rw [h.is i hi]
    unfold St.now
    cases hv : (S.ver i).getLast? with
    | none =>
      have e : S.ver i = [] := List.getLast?_eq_none_iff.1 hv
      rw [e]; exact ⟨rfl, h.dur i hi⟩
    | some v =>
      obtain ⟨vs, e⟩ := List.getLast?_eq_some_iff.1 hv
      have hf := h.ver i hi v (by rw [e]; simp)
      rw [e]
      exact ⟨by rw [last_of, List.getLastD_eq_getLast?, List.getLastD_eq_getLast?, List.getLast?_append]; rfl, by simpa using hf⟩
  exact ⟨h.n, fun i hi => by show [_] = [_]; rw [(hnow i hi).1]; rfl, fun i hi => (hnow i hi).2, fun _ _ v hv => by cases hv⟩
/-- Behind a crash each sector is one of them. -/
theorem Kept.crash {S : St} {m : Nat → List Nat} (h : Kept S m) (picks : List Int) {i : Nat} (hi : i < 8) : first ((S.crash picks).now i) ∈ m i ∧ Flat ((S.crash picks).now i) := by
  have e : (S.crash picks).now i = pickOf (S.dur i) (S.ver i) (picks.getD (S.dirty.idxOf i) 0) := rfl
  rw [e, h.is i hi]
  unfold pickOf
  split
  · exact ⟨List.mem_cons_self .., h.dur i hi⟩
  · rename_i hp
    have hb := Int.emod_lt_of_pos (picks.getD (S.dirty.idxOf i) 0) (show (0 : Int) < ((S.ver i).length + 1 : Int) by omega)
    have hlt : ((picks.getD (S.dirty.idxOf i) 0) % ((S.ver i).length + 1 : Int)).toNat - 1 < (S.ver i).length := by omega
    rw [List.getD_eq_getElem?_getD, List.getElem?_eq_getElem hlt]
    have hm := List.getElem_mem hlt
    exact ⟨List.mem_cons_of_mem _ (List.mem_map_of_mem hm), h.ver i hi _ hm⟩

/-! ### In memory -/
/-- Block M is the law's array of eight rows; its rows lie apart, and outside the disk. -/
structure May (w : World) (M base : Nat) (mv : Nat → Value) (m : Nat → List Nat) (own : Nat → Prop) : Prop where
  arr : ∃ cs, Blk w M 71 cs ∧ ∀ i, i < 8 → cs[i]? = some (mv i)
  row : ∀ i, i < 8 → Tail w base (mv i) (m i)
  apart : ∀ i j g, i < 8 → j < 8 → i ≠ j → (mv i).ownBlock = some g → (mv j).ownBlock ≠ some g
  out : ∀ i g, i < 8 → (mv i).ownBlock = some g → ¬ own g
  outM : ¬ own M
  low : M < base
section
variable {w w' : World} {M base : Nat} {mv : Nat → Value} {m : Nat → List Nat} {own own' : Nat → Prop}
theorem May.cell (h : May w M base mv m own) {i : Nat} (hi : i < 8) : w.cell? ⟨M, i, none⟩ = some (mv i) := by
  obtain ⟨cs, hb, hc⟩ := h.arr
  rw [hb.cell]; exact hc i hi
theorem May.fz (h : May w M base mv m own) (i : Nat) : w.frozen? ⟨M, i, none⟩ = false := by
  obtain ⟨cs, hb, _⟩ := h.arr
  exact hb.frozen i
theorem May.lt (h : May w M base mv m own) : M < w.heap.size := by obtain ⟨cs, hb, _⟩ := h.arr; exact hb.lt
theorem May.turn (h : May w M base mv m own) (ht : Turn w w' own own') : May w' M base mv m own' where
  arr := by obtain ⟨cs, hb, hc⟩ := h.arr; exact ⟨cs, (ht.block M hb.lt h.outM).trans hb, hc⟩
  row i hi := (h.row i hi).turn ht (fun g hg => h.out i g hi hg)
  apart := h.apart
  out i g hi hg := by
    obtain ⟨_, cur, hb⟩ := (h.row i hi).block g hg
    exact ht.not_ hb.lt (h.out i g hi hg)
  outM := ht.not_ h.lt h.outM
  low := h.low
theorem May.grown (h : May w M base mv m own) (hg : w.grownBy w' none) : May w' M base mv m own := h.turn (Turn.none_ hg)
/-- One row is another. -/
theorem May.set (h : May w M base mv m own) {i : Nat} (hi : i < 8) {A : Option Addr} {n c : Nat} {xs : List Nat} (hg : w.grownBy w' (mv i).ownBlock) (ht : Tail w' base (.slice A n c) xs)
    (hb : (Value.slice A n c).ownBlock = (mv i).ownBlock ∨ ∀ g, (Value.slice A n c).ownBlock = some g → w.heap.size ≤ g) (hown : ∀ g, own g → g < w.heap.size) :
    May (w'.setCell ⟨M, i, none⟩ (.slice A n c)) M base (upd mv i (.slice A n c)) (upd m i xs) own := by
  obtain ⟨cs, hbk, hcs⟩ := h.arr
  have hMi : ∀ j g, j < 8 → (mv j).ownBlock = some g → M ≠ g := fun j g hj hg => by have := (h.row j hj).block g hg; have := h.low; omega
  have hbk' := hbk.grown hg (fun e => hMi i M hi e.symm rfl)
  have hs := Lib.grownBy_setB (World.grownBy.refl w' (some M)) i (.slice A n c)
  have hnew : ∀ g, (Value.slice A n c).ownBlock = some g → M ≠ g ∧ ¬ own g ∧ ∀ j, j < 8 → j ≠ i → (mv j).ownBlock ≠ some g := fun g hgv => by
    rcases hb with e | e
    · rw [e] at hgv
      exact ⟨hMi i g hi hgv, h.out i g hi hgv, fun j hj hji => fun e2 => h.apart j i g hj hi hji e2 hgv⟩
    · have h1 := e g hgv
      refine ⟨by have := h.lt; omega, fun ho => by have := hown g ho; omega, fun j hj _ e2 => ?_⟩
      obtain ⟨_, cur, hbb⟩ := (h.row j hj).block g e2
      have := hbb.lt; omega
  exact {
    arr := ⟨_, hbk'.set_ i _, fun j hj => by
      have hsz : i < cs.size := (Array.getElem?_eq_some_iff.1 (hcs i hi)).1
      rw [Array.getElem?_setIfInBounds]
      by_cases e : i = j
      · subst e; rw [if_pos rfl, if_pos hsz]; simp [upd]
      · rw [if_neg e, hcs j hj]; simp [upd, Ne.symm e]⟩
    row := fun j hj => by
      by_cases e : j = i
      · subst e
        simp only [upd, if_true]
        exact ht.keep hs (fun _ hg e => by cases e; exact (hnew _ hg).1 rfl)
      · simp only [upd, e, if_false]
        exact ((h.row j hj).keep hg (fun g hgj e2 => h.apart j i g hj hi e hgj e2)).keep hs (fun _ hgj e2 => by cases e2; exact hMi j _ hj hgj rfl)
    apart := fun a b g ha hb' hab hga => by
      by_cases ea : a = i
      · subst ea
        simp only [upd, if_true] at hga
        have : b ≠ a := Ne.symm hab
        simp only [upd, this, if_false]
        exact (hnew g hga).2.2 b hb' this
      · simp only [upd, ea, if_false] at hga
        by_cases eb : b = i
        · subst eb
          simp only [upd, if_true]
          intro e2
          exact (hnew g e2).2.2 a ha ea hga
        · simp only [upd, eb, if_false]
          exact h.apart a b g ha hb' hab hga
    out := fun a g ha hga => by
      by_cases ea : a = i
      · subst ea
        simp only [upd, if_true] at hga
        exact (hnew g hga).2.1
      · simp only [upd, ea, if_false] at hga
        exact h.out a g ha hga
    outM := h.outM
    low := h.low }
end
end Go.Proofs.Ytboccfficmaoaaa.Dsk
