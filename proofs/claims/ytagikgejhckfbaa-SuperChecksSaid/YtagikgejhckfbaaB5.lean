/- Shared texts of this seat's proofs: DiskLay, DiskSmall, DiskNow, DiskNew, DiskRead, DiskSettle, DiskWrite. -/
import Derived.Test.YtagikgejhckfbaaB4
import Derived.Deep.MidRow
import Derived.WalkKit
import Derived.LoopTactic
import Derived.Lib.Hide
import Derived.ProofKit
import Derived.Laws.ResultCell
import Derived.Deep.WholeRow
import Derived.Carry
import Derived.OwnWalk
import Derived.Deep.RegionHeld3
import Derived.Laws.CopyOwn
import Derived.Great.BuildSlice
/- How a disk of the program's lies in memory; what each small step leaves of it. -/
namespace Go.Proofs.Ytagikgejhckfbaa.Dsk
open Go.RowKit Mem Crc DiskSpec

/-! ### Footprints -/
/-- From w to w' no block has turned that was there, but blocks of own; what is new in own' was not there. -/
structure Turn (w w' : World) (own own' : Nat → Prop) : Prop where
  os : w'.os = w.os
  tape : w'.tape = w.tape
  output : w'.output = w.output
  size : w.heap.size ≤ w'.heap.size
  block : ∀ i, i < w.heap.size → ¬ own i → w'.heap[i]? = w.heap[i]?
  fresh : ∀ i, own' i → own i ∨ w.heap.size ≤ i

section
variable {w w1 w2 w' : World} {own own1 own2 own' : Nat → Prop} {B b bd bm : Nat} {S : St} {f : Nat → Option Value}
theorem Turn.refl (w : World) (own : Nat → Prop) : Turn w w own own := ⟨rfl, rfl, rfl, Nat.le_refl _, fun _ _ _ => rfl, fun _ h => .inl h⟩
theorem Turn.trans (h : Turn w w1 own own1) (k : Turn w1 w2 own1 own2) : Turn w w2 own own2 :=
  ⟨k.os.trans h.os, k.tape.trans h.tape, k.output.trans h.output, Nat.le_trans h.size k.size,
    fun i hi hn => (k.block i (Nat.lt_of_lt_of_le hi h.size) (fun h1 => by rcases h.fresh i h1 with h2 | h2; exact hn h2; omega)).trans (h.block i hi hn),
    fun i hi => by rcases k.fresh i hi with h1 | h1; exact h.fresh i h1; exact .inr (Nat.le_trans h.size h1)⟩
theorem Turn.of_grown {row : Option Nat} (h : w.grownBy w' row) (hr : ∀ j, row = some j → own j) : Turn w w' own own :=
  ⟨h.os, h.tape, h.output, h.size, fun i hi hn => h.block i hi (fun e => hn (hr i e.symm)), fun _ h => .inl h⟩
theorem Turn.none_ (h : w.grownBy w' none) : Turn w w' own own := .of_grown h (fun _ h => by cases h)
theorem Turn.alloc (h : Turn w w1 own own1) (o : Obj) : Turn w (w1.alloc o) own own1 := h.trans (.none_ (World.grownBy_alloc w1 o none))
theorem Turn.drew (h : Turn w w1 own own1) : Turn w w1.drew own own1 := h.trans (.none_ (grown_drew w1 none))
theorem Turn.below (h : Turn w w' own own') (hb : ∀ i, own i → B ≤ i) (hB : B ≤ w.heap.size) : Below B w w' :=
  ⟨h.os, h.tape, h.output, h.size, fun i hi => h.block i (by omega) (fun h1 => by have := hb i h1; omega)⟩

/-! ### Many cells at once -/
theorem heap_setCells (b : Nat) : ∀ (vs : List Value) (o : Nat) (w : World) (k : Nat), k ≠ b → (w.setCells b o vs).heap[k]? = w.heap[k]?
  | [], _, _, _, _ => rfl
  | v :: r, o, w, k, hk => by
    rw [World.setCells, heap_setCells b r (o + 1) _ k hk]
    exact Below.heap_setCell w _ v k hk
theorem grown_setCells (b : Nat) : ∀ (vs : List Value) (o : Nat) (w : World), w.grownBy (w.setCells b o vs) (some b)
  | [], _, w => World.grownBy.refl w _
  | v :: r, o, w => by
    have h1 : w.grownBy (w.setCell ⟨b, o, none⟩ v) (some b) := Lib.grownBy_setB (World.grownBy.refl w _) o v
    have h2 := grown_setCells b r (o + 1) (w.setCell ⟨b, o, none⟩ v)
    exact ⟨h2.os.trans h1.os, h2.tape.trans h1.tape, h2.output.trans h1.output, Nat.le_trans h1.size h2.size,
      fun i hi hn => (h2.block i (Nat.lt_of_lt_of_le hi h1.size) hn).trans (h1.block i hi hn)⟩
theorem rangeAt_of_block {o : Nat} {cs : List Value} (h : w.rangeAt b o cs) (e : w'.heap[b]? = w.heap[b]?) : w'.rangeAt b o cs := fun j v hv => by
  rw [World.cell?_of_block (a := ⟨b, o + j, none⟩) e]; exact h j v hv
theorem there_of_block {o n : Nat} (h : w.there b o n) (e : w'.heap[b]? = w.heap[b]?) : w'.there b o n := fun j hj => by
  rw [World.cell?_of_block (a := ⟨b, o + j, none⟩) e, World.frozen?_of_block (a := ⟨b, o + j, none⟩) e]; exact h j hj
theorem blk_of_block {t : TypeId} {cs : Array Value} (h : Blk w b t cs) (e : w'.heap[b]? = w.heap[b]?) : Blk w' b t cs := e.trans h
theorem own_of_block {base n size : Nat} {e : TypeId} {v : Value} {xs : List Value} (h : Own w base e size v n xs) (hk : ∀ g, v.ownBlock = some g → w'.heap[g]? = w.heap[g]?) : Own w' base e size v n xs := by
  rcases h with h | ⟨g, cur, fz, rfl, hb, hh, rest⟩
  · refine .inl ⟨h.1, ?_⟩
    rcases h.2 with hn | ⟨g, cap, cur, rfl, hb, hh, rest⟩
    · exact .inl hn
    · exact .inr ⟨g, cap, cur, rfl, hb, (hk g rfl).trans hh, rest⟩
  · exact .inr ⟨g, cur, fz, rfl, hb, (hk g rfl).trans hh, rest⟩

/-! ### The disk -/
/-- Sectors as cells. -/
def flat (l : List (List Nat)) : List Value := u8s l.flatten

/-- The versions: at each dirty sector a row of the disk's own; no two of them in one row. -/
structure Rows (w : World) (b bd bm : Nat) (f : Nat → Option Value) (S : St) (own : Nat → Prop) : Prop where
  none_ : ∀ k, S.ver k = [] → f k = none
  some_ : ∀ k, S.ver k ≠ [] → ∃ v g, f k = some v ∧ Own w 0 74 256 v (S.ver k).length (flat (S.ver k)) ∧ v.ownBlock = some g ∧ own g ∧ g ≠ b ∧ g ≠ bd ∧ g ≠ bm
  apart : ∀ k j v u, f k = some v → f j = some u → k ≠ j → v.ownBlock ≠ u.ownBlock

/-- Block b is a disk that is as S says: durable bytes in block bd, versions by the map in block bm; all of it in blocks of own, none of them below B. -/
structure Lay (w : World) (B b bd bm : Nat) (f : Nat → Option Value) (S : St) (own : Nat → Prop) : Prop where
  ok : S.ok
  blk : Blk w b 67 #[.slice (some ⟨bd, 0, none⟩) S.n S.n, .map (some bm), .int .i64 0, .int .i64 (S.f1 : Nat), .int .i64 (S.f2 : Nat), .int .i64 (S.f3 : Nat), .int .i64 S.left]
  dur : ∀ i, i < S.n → w.rangeAt bd (256 * i) (u8s (S.dur i))
  room : w.there bd 0 (256 * S.n)
  map : MapIs Try.prog 3 w bm S.n f
  rows : Rows w b bd bm f S own
  ownB : own b
  ownD : own bd
  ownM : own bm
  bd_ : b ≠ bd
  bm_ : b ≠ bm
  dm_ : bd ≠ bm
  low : ∀ i, own i → B ≤ i
  lt : ∀ i, own i → i < w.heap.size

theorem Lay.keep (h : Lay w B b bd bm f S own) (hs : w.heap.size ≤ w'.heap.size) (hk : ∀ i, own i → w'.heap[i]? = w.heap[i]?) : Lay w' B b bd bm f S own :=
  { h with
    blk := blk_of_block h.blk (hk b h.ownB)
    dur := fun i hi => rangeAt_of_block (h.dur i hi) (hk bd h.ownD)
    room := there_of_block h.room (hk bd h.ownD)
    map := h.map.of_block (hk bm h.ownM)
    rows := ⟨h.rows.none_, fun k hv => (by
      obtain ⟨v, g, h1, h2, h3, h4, h5⟩ := h.rows.some_ k hv
      exact ⟨v, g, h1, own_of_block h2 (fun g' hg' => by rw [h3] at hg'; cases hg'; exact hk g h4), h3, h4, h5⟩), h.rows.apart⟩
    lt := fun i hi => Nat.lt_of_lt_of_le (h.lt i hi) hs }
theorem Lay.grown {row : Option Nat} (h : Lay w B b bd bm f S own) (hg : w.grownBy w' row) (hr : ∀ j, row = some j → ¬ own j) : Lay w' B b bd bm f S own :=
  h.keep hg.size (fun i hi => hg.block i (h.lt i hi) (fun e => hr i e.symm hi))
theorem Lay.alloc (h : Lay w B b bd bm f S own) (o : Obj) : Lay (w.alloc o) B b bd bm f S own := h.grown (World.grownBy_alloc w o none) (fun _ h => by cases h)
theorem Lay.drew (h : Lay w B b bd bm f S own) : Lay w.drew B b bd bm f S own := h.keep (Nat.le_refl _) (fun _ _ => rfl)
theorem Lay.far (h : Lay w B b bd bm f S own) {p : Addr} (hp : ¬ own p.block) (u : Value) : Lay (w.setCell p u) B b bd bm f S own :=
  h.keep (by simp) (fun i hi => Below.heap_setCell w p u i (fun e => hp (e ▸ hi)))
/-- Rows that are told of the same versions. -/
theorem Rows.same {T : St} (h : Rows w b bd bm f S own) (e : T.ver = S.ver) : Rows w b bd bm f T own := by
  refine ⟨fun k hk => h.none_ k (by rw [← e]; exact hk), fun k hk => ?_, h.apart⟩
  rw [e] at hk ⊢
  exact h.some_ k hk
theorem Rows.keep (h : Rows w b bd bm f S own) (hk : ∀ i, own i → i ≠ b → i ≠ bd → i ≠ bm → w'.heap[i]? = w.heap[i]?) : Rows w' b bd bm f S own :=
  ⟨h.none_, fun k hv => (by
      obtain ⟨v, g, h1, h2, h3, h4, h5, h6, h7⟩ := h.some_ k hv
      exact ⟨v, g, h1, own_of_block h2 (fun g' hg' => by rw [h3] at hg'; cases hg'; exact hk g h4 h5 h6 h7), h3, h4, h5, h6, h7⟩), h.apart⟩
/-- One of the numbers in the disk's own block is written. -/
theorem Lay.field (h : Lay w B b bd bm f S own) (j : Nat) (u : Value) {T : St} (hT : T.ok) (hn : T.n = S.n) (hd : T.dur = S.dur) (hv : T.ver = S.ver)
    (hc : (#[.slice (some ⟨bd, 0, none⟩) S.n S.n, .map (some bm), .int .i64 0, .int .i64 (S.f1 : Nat), .int .i64 (S.f2 : Nat), .int .i64 (S.f3 : Nat), .int .i64 S.left] : Array Value).setIfInBounds j u =
      #[.slice (some ⟨bd, 0, none⟩) T.n T.n, .map (some bm), .int .i64 0, .int .i64 (T.f1 : Nat), .int .i64 (T.f2 : Nat), .int .i64 (T.f3 : Nat), .int .i64 T.left]) :
    Lay (w.setCell ⟨b, j, none⟩ u) B b bd bm f T own where
  ok := hT
  blk := by rw [← hc]; exact h.blk.set_ j u
  dur i hi := by rw [hd]; exact rangeAt_of_block (h.dur i (by omega)) (Below.heap_setCell w _ u bd (fun e => h.bd_ e.symm))
  room := by rw [hn]; exact there_of_block h.room (Below.heap_setCell w _ u bd (fun e => h.bd_ e.symm))
  map := by rw [hn]; exact h.map.of_block (Below.heap_setCell w _ u bm (fun e => h.bm_ e.symm))
  rows := (h.rows.keep (fun i _ hb _ _ => Below.heap_setCell w _ u i hb)).same hv
  ownB := h.ownB
  ownD := h.ownD
  ownM := h.ownM
  bd_ := h.bd_
  bm_ := h.bm_
  dm_ := h.dm_
  low := h.low
  lt i hi := by simpa using h.lt i hi
/-- A sector's durable bytes are written. -/
theorem Lay.setDur (h : Lay w B b bd bm f S own) {i : Nat} (hi : i < S.n) {x : List Nat} (hx : Sec x) : Lay (w.setCells bd (256 * i) (u8s x)) B b bd bm f { S with dur := upd S.dur i x } own where
  ok := { h.ok with dur := fun j => by show Sec (upd S.dur i x j); unfold upd; split; exact hx; exact h.ok.dur j }
  blk := blk_of_block h.blk (heap_setCells bd _ _ w b h.bd_)
  dur j hj := by
    have hj' : j < S.n := hj
    show (w.setCells bd (256 * i) (u8s x)).rangeAt bd (256 * j) (u8s (upd S.dur i x j))
    by_cases e : j = i
    · subst e
      rw [upd_same]
      refine World.rangeAt_setCells_same w bd (256 * j) (u8s x) (fun k hk => ?_)
      rw [u8s_length, hx.1] at hk
      have := h.room (256 * j + k) (by omega)
      simpa using this
    · rw [upd_ne _ _ e]
      refine World.rangeAt_setCells_apart (h.dur j hj') bd (256 * i) (u8s x) ?_
      rw [u8s_length, u8s_length, hx.1, (h.ok.dur j).1]
      omega
  room := World.there_setCells h.room bd _ _
  map := h.map.of_block (heap_setCells bd _ _ w bm (fun e => h.dm_ e.symm))
  rows := (h.rows.keep (fun k _ _ hd _ => heap_setCells bd _ _ w k hd)).same rfl
  ownB := h.ownB
  ownD := h.ownD
  ownM := h.ownM
  bd_ := h.bd_
  bm_ := h.bm_
  dm_ := h.dm_
  low := h.low
  lt k hk := Nat.lt_of_lt_of_le (h.lt k hk) (grown_setCells bd _ _ w).size
/-- A sector's versions are taken out of the map. -/
theorem Lay.drop (h : Lay w B b bd bm f S own) (i : Nat) (hg : w.grownBy w' (some bm)) (hm : MapIs Try.prog 3 w' bm S.n (fun j => if j = i then none else f j)) :
    Lay w' B b bd bm (fun j => if j = i then none else f j) { S with ver := upd S.ver i [] } own where
  ok := { h.ok with
    ver := fun j v hv => by
      have hv' : v ∈ upd S.ver i [] j := hv
      unfold upd at hv'; split at hv'
      · cases hv'
      · exact h.ok.ver j v hv'
    out := fun j hj => by
      show upd S.ver i [] j = []
      unfold upd; split
      · rfl
      · exact h.ok.out j hj }
  blk := blk_of_block h.blk (hg.block b (h.lt b h.ownB) (by simpa using h.bm_))
  dur j hj := rangeAt_of_block (h.dur j hj) (hg.block bd (h.lt bd h.ownD) (by simpa using h.dm_))
  room := there_of_block h.room (hg.block bd (h.lt bd h.ownD) (by simpa using h.dm_))
  map := hm
  rows := by
    refine ⟨fun k hk => ?_, fun k hk => ?_, fun k j v u hv hu hne => ?_⟩
    · have hk' : upd S.ver i [] k = [] := hk
      by_cases e : k = i
      · simp [e]
      · rw [upd_ne _ _ e] at hk'
        simp [e, h.rows.none_ k hk']
    · have hk' : upd S.ver i [] k ≠ [] := hk
      by_cases e : k = i
      · exact absurd (by rw [e, upd_same]) hk'
      · rw [upd_ne _ _ e] at hk'
        obtain ⟨v, g, h1, h2, h3, h4, h5, h6, h7⟩ := h.rows.some_ k hk'
        have eg : w'.heap[g]? = w.heap[g]? := hg.block g (h.lt g h4) (by simpa using h7)
        have e1 : (upd S.ver i [] k) = S.ver k := upd_ne _ _ e
        refine ⟨v, g, by simp [e, h1], ?_, h3, h4, h5, h6, h7⟩
        show Own w' 0 _ 256 v (upd S.ver i [] k).length (flat (upd S.ver i [] k))
        rw [e1]
        exact own_of_block h2 (fun g' hg' => by rw [h3] at hg'; cases hg'; exact eg)
    · by_cases e : k = i
      · simp [e] at hv
      · by_cases e' : j = i
        · simp [e'] at hu
        · simp [e] at hv
          simp [e'] at hu
          exact h.rows.apart k j v u hv hu hne
  ownB := h.ownB
  ownD := h.ownD
  ownM := h.ownM
  bd_ := h.bd_
  bm_ := h.bm_
  dm_ := h.dm_
  low := h.low
  lt k hk := Nat.lt_of_lt_of_le (h.lt k hk) hg.size
/-- The map is cleared. -/
theorem Lay.clear (h : Lay w B b bd bm f S own) (hg : w.grownBy w' (some bm)) (hm : MapIs Try.prog 3 w' bm S.n (fun _ => none)) :
    Lay w' B b bd bm (fun _ => none) { S with ver := fun _ => [] } own where
  ok := { h.ok with ver := fun _ _ hv => (by cases hv), out := fun _ _ => rfl }
  blk := blk_of_block h.blk (hg.block b (h.lt b h.ownB) (by simpa using h.bm_))
  dur j hj := rangeAt_of_block (h.dur j hj) (hg.block bd (h.lt bd h.ownD) (by simpa using h.dm_))
  room := there_of_block h.room (hg.block bd (h.lt bd h.ownD) (by simpa using h.dm_))
  map := hm
  rows := ⟨fun _ _ => rfl, fun _ hk => absurd rfl hk, fun _ _ _ _ hv => by cases hv⟩
  ownB := h.ownB
  ownD := h.ownD
  ownM := h.ownM
  bd_ := h.bd_
  bm_ := h.bm_
  dm_ := h.dm_
  low := h.low
  lt k hk := Nat.lt_of_lt_of_le (h.lt k hk) hg.size
/-- What a sector's value in the map owns: nil and nothing, or its row. -/
theorem Lay.at_ (h : Lay w B b bd bm f S own) (k : Nat) : Own w 0 74 256 ((f k).getD (.slice none 0 0)) (S.ver k).length (flat (S.ver k)) ∧
    ∀ g, ((f k).getD (.slice none 0 0)).ownBlock = some g → own g ∧ g ≠ b ∧ g ≠ bd ∧ g ≠ bm := by
  by_cases hv : S.ver k = []
  · rw [h.rows.none_ k hv, hv]
    exact ⟨Own.nil _ _ _ _, fun g hg => by simp [Value.ownBlock] at hg⟩
  · obtain ⟨v, g, h1, h2, h3, h4⟩ := h.rows.some_ k hv
    rw [h1]
    refine ⟨h2, fun g' hg' => ?_⟩
    have e : v.ownBlock = some g' := hg'
    rw [h3] at e; cases e; exact h4
/-- A sector has one version more: its value has grown, and stands in the map anew. -/
theorem Lay.add (h : Lay w B b bd bm f S own) {i : Nat} (hi : i < S.n) {x : List Nat} (hx : Sec x) {v' : Value} (hgr : Grew w w1 ((f i).getD (.slice none 0 0)) v')
    (hown : Own w1 0 74 256 v' ((S.ver i).length + 1) (flat (S.ver i) ++ u8s x)) (hg : w1.grownBy w' (some bm)) (hm : MapIs Try.prog 3 w' bm S.n (fun j => if j = i then some v' else f j)) (hB : B ≤ w.heap.size) :
    ∃ own', Lay w' B b bd bm (fun j => if j = i then some v' else f j) (S.add i x) own' ∧ Turn w w' own own' := by
  obtain ⟨g, hg1⟩ : ∃ g, v'.ownBlock = some g := by
    obtain ⟨g, c, rfl, _⟩ := hown.reads (by omega)
    exact ⟨g, rfl⟩
  have hold := (h.at_ i).2
  have hgl : own g ∧ g ≠ b ∧ g ≠ bd ∧ g ≠ bm ∨ w.heap.size ≤ g := (hgr.2 g hg1).imp (fun e => hold g e) id
  have hglt : g < w1.heap.size := (hown.base_ g hg1).2
  have lb := h.lt b h.ownB
  have ld := h.lt bd h.ownD
  have lm := h.lt bm h.ownM
  have hgb : g ≠ b := by rcases hgl with h1 | h1; exact h1.2.1; omega
  have hgd : g ≠ bd := by rcases hgl with h1 | h1; exact h1.2.2.1; omega
  have hgm : g ≠ bm := by rcases hgl with h1 | h1; exact h1.2.2.2; omega
  have hnold : ∀ k, (k = b ∨ k = bd ∨ k = bm) → some k ≠ ((f i).getD (.slice none 0 0)).ownBlock := fun k hk e => by
    obtain ⟨_, h1, h2, h3⟩ := hold k e.symm
    rcases hk with rfl | rfl | rfl
    · exact h1 rfl
    · exact h2 rfl
    · exact h3 rfl
  have kb : w'.heap[b]? = w.heap[b]? := (hg.block b (Nat.lt_of_lt_of_le lb hgr.1.size) (by simpa using h.bm_)).trans (hgr.1.block b lb (hnold b (.inl rfl)))
  have kd : w'.heap[bd]? = w.heap[bd]? := (hg.block bd (Nat.lt_of_lt_of_le ld hgr.1.size) (by simpa using h.dm_)).trans (hgr.1.block bd ld (hnold bd (.inr (.inl rfl))))
  -- the other sectors' rows
  have other : ∀ k v, k ≠ i → f k = some v → ∀ g', v.ownBlock = some g' → g' ≠ g ∧ (own g' → g' ≠ bm → w'.heap[g']? = w.heap[g']?) := by
    intro k v hki hv g' hg'
    have hk : S.ver k ≠ [] := fun e => by rw [h.rows.none_ k e] at hv; cases hv
    obtain ⟨v2, g2, h1, _, h3, h4, _⟩ := h.rows.some_ k hk
    rw [hv] at h1; cases h1
    rw [hg'] at h3; cases h3
    have hlt := h.lt g' h4
    have hne : ((f i).getD (.slice none 0 0)).ownBlock ≠ some g' := by
      cases hf : f i with
      | none => simp [Value.ownBlock]
      | some u =>
        have := h.rows.apart k i v u hv hf hki
        rw [hg'] at this
        exact fun e => this e.symm
    refine ⟨fun e => ?_, fun _ hm' => ?_⟩
    · subst e
      rcases hgr.2 g' hg1 with h5 | h5
      · exact hne h5
      · omega
    · exact (hg.block g' (Nat.lt_of_lt_of_le hlt hgr.1.size) (by simpa using hm')).trans (hgr.1.block g' hlt (fun e => hne e.symm))
  refine ⟨fun j => own j ∨ j = g, ?_, ?_⟩
  · exact {
      ok := h.ok.add hi hx
      blk := blk_of_block h.blk kb
      dur := fun j hj => rangeAt_of_block (h.dur j hj) kd
      room := there_of_block h.room kd
      map := hm
      rows := by
        refine ⟨fun k hk => ?_, fun k hk => ?_, fun k j v u hv hu hne => ?_⟩
        · have hk' : upd S.ver i (S.ver i ++ [x]) k = [] := hk
          by_cases e : k = i
          · rw [e, upd_same] at hk'; simp at hk'
          · rw [upd_ne _ _ e] at hk'
            simp [e, h.rows.none_ k hk']
        · have hk' : upd S.ver i (S.ver i ++ [x]) k ≠ [] := hk
          show ∃ v g', _ ∧ Own w' 0 _ 256 v (upd S.ver i (S.ver i ++ [x]) k).length (flat (upd S.ver i (S.ver i ++ [x]) k)) ∧ _
          by_cases e : k = i
          · subst e
            rw [upd_same]
            refine ⟨v', g, by simp, ?_, hg1, .inr rfl, hgb, hgd, hgm⟩
            have e1 : flat (S.ver k ++ [x]) = flat (S.ver k) ++ u8s x := by simp [flat, u8s_append]
            rw [e1, List.length_append, List.length_singleton]
            exact own_of_block hown (fun g' hg' => by rw [hg1] at hg'; cases hg'; exact hg.block g hglt (by simpa using hgm))
          · rw [upd_ne _ _ e] at hk' ⊢
            obtain ⟨v, g2, h1, h2, h3, h4, h5, h6, h7⟩ := h.rows.some_ k hk'
            refine ⟨v, g2, by simp [e, h1], ?_, h3, .inl h4, h5, h6, h7⟩
            exact own_of_block h2 (fun g' hg' => by rw [h3] at hg'; cases hg'; exact (other k v e h1 g2 h3).2 h4 h7)
        · by_cases e : k = i
          · subst e
            simp at hv
            subst hv
            have hu : f j = some u := by have e' : j ≠ k := fun e' => hne e'.symm; rw [if_neg e'] at hu; exact hu
            rw [hg1]
            intro e2
            exact (other j u (fun e' => hne e'.symm) hu g e2.symm).1 rfl
          · simp [e] at hv
            by_cases e' : j = i
            · subst e'
              simp at hu
              subst hu
              rw [hg1]
              intro e2
              exact (other k v e hv g e2).1 rfl
            · simp [e'] at hu
              exact h.rows.apart k j v u hv hu hne
      ownB := .inl h.ownB
      ownD := .inl h.ownD
      ownM := .inl h.ownM
      bd_ := h.bd_
      bm_ := h.bm_
      dm_ := h.dm_
      low := fun j hj => by
        rcases hj with hj | rfl
        · exact h.low j hj
        · rcases hgl with h1 | h1
          · exact h.low _ h1.1
          · omega
      lt := fun j hj => by
        rcases hj with hj | rfl
        · exact Nat.lt_of_lt_of_le (h.lt j hj) (Nat.le_trans hgr.1.size hg.size)
        · exact Nat.lt_of_lt_of_le hglt hg.size }
  · refine ⟨hg.os.trans hgr.1.os, hg.tape.trans hgr.1.tape, hg.output.trans hgr.1.output, Nat.le_trans hgr.1.size hg.size, fun j hj hn => ?_, fun j hj => ?_⟩
    · refine (hg.block j (Nat.lt_of_lt_of_le hj hgr.1.size) (fun e => ?_)).trans (hgr.1.block j hj (fun e => ?_))
      · cases e; exact hn h.ownM
      · exact hn (hold j e.symm).1
    · rcases hj with hj | rfl
      · exact .inl hj
      · exact hgl.imp (fun h1 => h1.1) id
end
end Go.Proofs.Ytagikgejhckfbaa.Dsk
/- The disk's small calls: Size, has, isDue, stops, countDone, Fail, Cut, remainder. -/
namespace Go.Proofs.Ytagikgejhckfbaa.Dsk
open Go.RowKit Mem Crc DiskSpec

section
variable {w : World} {B b bd bm : Nat} {S : St} {f : Nat → Option Value} {own : Nat → Prop}
theorem Lay.c0 (h : Lay w B b bd bm f S own) : w.cell? ⟨b, 0, none⟩ = some (.slice (some ⟨bd, 0, none⟩) S.n S.n) := by rw [h.blk.cell]; rfl
theorem Lay.c1 (h : Lay w B b bd bm f S own) : w.cell? ⟨b, 1, none⟩ = some (.map (some bm)) := by rw [h.blk.cell]; rfl
theorem Lay.c3 (h : Lay w B b bd bm f S own) : w.cell? ⟨b, 3, none⟩ = some (.int .i64 (S.f1 : Nat)) := by rw [h.blk.cell]; rfl
theorem Lay.c4 (h : Lay w B b bd bm f S own) : w.cell? ⟨b, 4, none⟩ = some (.int .i64 (S.f2 : Nat)) := by rw [h.blk.cell]; rfl
theorem Lay.c5 (h : Lay w B b bd bm f S own) : w.cell? ⟨b, 5, none⟩ = some (.int .i64 (S.f3 : Nat)) := by rw [h.blk.cell]; rfl
theorem Lay.c6 (h : Lay w B b bd bm f S own) : w.cell? ⟨b, 6, none⟩ = some (.int .i64 S.left) := by rw [h.blk.cell]; rfl
theorem Lay.fz (h : Lay w B b bd bm f S own) (j : Nat) : w.frozen? ⟨b, j, none⟩ = false := h.blk.frozen j
end

set_option maxHeartbeats 400000 in
theorem disk_size {w : World} {B b bd bm : Nat} {S : St} {f : Nat → Option Value} {own : Nat → Prop} (h : Lay w B b bd bm f S own) :
    Calls Try.prog 20 #[.pointer (some ⟨b, 0, none⟩)] w fun e w' => e = .returned (.int .i64 (S.n : Nat)) ∧ w = w' := by
  have hc := h.c0
  clear h
  generalize S.n = n at *
  go_enter Try.func20, Try.ntmps20
  go_wp2
  go_ret
  exact ⟨rfl, rfl⟩

set_option maxHeartbeats 800000 in
theorem disk_has {w : World} {B b bd bm : Nat} {S : St} {f : Nat → Option Value} {own : Nat → Prop} (h : Lay w B b bd bm f S own) (at_ count : Int)
    (h1 : -9223372036854775808 ≤ at_ ∧ at_ ≤ 9223372036854775807) (_ : -9223372036854775808 ≤ count ∧ count ≤ 9223372036854775807) :
    Calls Try.prog 27 #[.pointer (some ⟨b, 0, none⟩), .int .i64 at_, .int .i64 count] w fun e w' => e = .returned (.bool (S.has at_ count)) ∧ w = w' := by
  have htop := h.ok.top
  have HS := Lib.hid (disk_size h)
  clear h
  have hhas : S.has at_ count = (decide (0 ≤ at_) && (decide (1 ≤ count) && decide (count ≤ S.n - at_))) := rfl
  generalize S.has at_ count = r at *
  generalize S.n = n at *
  by_cases h0 : 0 ≤ at_
  · by_cases h3 : 1 ≤ count
    · have HH := Lib.hid (show r = decide (count ≤ (n : Int) - at_) by simp [hhas, h0, h3]); clear hhas
      have hw : IntKind.i64.wrap ((n : Int) - at_) = (n : Int) - at_ := IntWalk.i64_in _ (by omega)
      go_enter Try.func27, Try.ntmps27
      go_wp2_with fail
      refine HS.out.mono ?_
      rintro e w' ⟨rfl, rfl⟩
      go_wp2
      go_ret
      exact ⟨by rw [HH.out]; rfl, rfl⟩
    · have HH := Lib.hid (show r = false by simp [hhas, h0, h3]); clear hhas
      go_enter Try.func27, Try.ntmps27
      go_wp2
      go_ret
      exact ⟨by rw [HH.out]; rfl, rfl⟩
  · have HH := Lib.hid (show r = false by simp [hhas, h0]); clear hhas
    go_enter Try.func27, Try.ntmps27
    go_wp2
    go_ret
    exact ⟨by rw [HH.out]; rfl, rfl⟩


set_option maxHeartbeats 800000 in
theorem disk_due1 {w : World} {B b bd bm : Nat} {S : St} {f : Nat → Option Value} {own : Nat → Prop} (h : Lay w B b bd bm f S own) :
    Calls Try.prog 28 #[.pointer (some ⟨b, 0, none⟩), .int .i64 1] w fun e w' => e = .returned (.bool (decide (S.f1 = 1))) ∧ w.grownBy w' (some b) ∧ Lay w' B b bd bm f { S with f1 := S.f1 - 1 } own := by
  have hc := h.c3
  have hf := h.fz 3
  have hle := h.ok.f1
  by_cases h0 : S.f1 = 0
  · have HE := Lib.hid (show decide (S.f1 = 1) = false by rw [h0]; rfl)
    have HS := Lib.hid (show ({ S with f1 := S.f1 - 1 } : St) = S from St.ext' rfl rfl rfl (by show S.f1 - 1 = S.f1; omega) rfl rfl rfl)
    have H := Lib.hid h; clear h
    rw [HE.out, HS.out]
    rw [h0] at hc
    clear hle h0 HE HS
    go_enter Try.func28, Try.ntmps28
    go_wp2
    go_ret
    exact ⟨rfl, World.grownBy.refl _ _, H.out⟩
  · have hx : ((S.f1 - 1 : Nat) : Int) = (S.f1 : Int) - 1 := by omega
    have H := Lib.hid (h.field 3 (.int .i64 (S.f1 - 1 : Int)) (T := { S with f1 := S.f1 - 1 }) { h.ok with f1 := by show S.f1 - 1 ≤ _; omega } rfl rfl rfl (by rw [← hx]; rfl))
    clear h
    have HX := Lib.hid (show ((S.f1 : Int) - 1 == 0) = decide (S.f1 = 1) by rw [Bool.eq_iff_iff]; simp; omega)
    clear hx
    generalize ({ S with f1 := S.f1 - 1 } : St) = T at *
    generalize decide (S.f1 = 1) = r at *
    generalize S.f1 = m at *
    have hm : (m : Int) ≠ 0 := by omega
    have hw : IntKind.i64.wrap ((m : Int) - 1) = (m : Int) - 1 := IntWalk.i64_in _ (by omega)
    go_enter Try.func28, Try.ntmps28
    go_wp2_with fail
    go_region
    go_wp2
    go_ret
    exact ⟨by rw [← HX.out]; rfl, only_drew (Lib.grownBy_setB (World.grownBy.refl _ _) _ _), H.out.drew⟩

set_option maxHeartbeats 800000 in
theorem disk_due2 {w : World} {B b bd bm : Nat} {S : St} {f : Nat → Option Value} {own : Nat → Prop} (h : Lay w B b bd bm f S own) :
    Calls Try.prog 28 #[.pointer (some ⟨b, 0, none⟩), .int .i64 2] w fun e w' => e = .returned (.bool (decide (S.f2 = 1))) ∧ w.grownBy w' (some b) ∧ Lay w' B b bd bm f { S with f2 := S.f2 - 1 } own := by
  have hc := h.c4
  have hf := h.fz 4
  have hle := h.ok.f2
  by_cases h0 : S.f2 = 0
  · have HE := Lib.hid (show decide (S.f2 = 1) = false by rw [h0]; rfl)
    have HS := Lib.hid (show ({ S with f2 := S.f2 - 1 } : St) = S from St.ext' rfl rfl rfl rfl (by show S.f2 - 1 = S.f2; omega) rfl rfl)
    have H := Lib.hid h; clear h
    rw [HE.out, HS.out]
    rw [h0] at hc
    clear hle h0 HE HS
    go_enter Try.func28, Try.ntmps28
    go_wp2
    go_ret
    exact ⟨rfl, World.grownBy.refl _ _, H.out⟩
  · have hx : ((S.f2 - 1 : Nat) : Int) = (S.f2 : Int) - 1 := by omega
    have H := Lib.hid (h.field 4 (.int .i64 (S.f2 - 1 : Int)) (T := { S with f2 := S.f2 - 1 }) { h.ok with f2 := by show S.f2 - 1 ≤ _; omega } rfl rfl rfl (by rw [← hx]; rfl))
    clear h
    have HX := Lib.hid (show ((S.f2 : Int) - 1 == 0) = decide (S.f2 = 1) by rw [Bool.eq_iff_iff]; simp; omega)
    clear hx
    generalize ({ S with f2 := S.f2 - 1 } : St) = T at *
    generalize decide (S.f2 = 1) = r at *
    generalize S.f2 = m at *
    have hm : (m : Int) ≠ 0 := by omega
    have hw : IntKind.i64.wrap ((m : Int) - 1) = (m : Int) - 1 := IntWalk.i64_in _ (by omega)
    go_enter Try.func28, Try.ntmps28
    go_wp2_with fail
    go_region
    go_wp2
    go_ret
    exact ⟨by rw [← HX.out]; rfl, only_drew (Lib.grownBy_setB (World.grownBy.refl _ _) _ _), H.out.drew⟩

set_option maxHeartbeats 800000 in
theorem disk_due3 {w : World} {B b bd bm : Nat} {S : St} {f : Nat → Option Value} {own : Nat → Prop} (h : Lay w B b bd bm f S own) :
    Calls Try.prog 28 #[.pointer (some ⟨b, 0, none⟩), .int .i64 3] w fun e w' => e = .returned (.bool (decide (S.f3 = 1))) ∧ w.grownBy w' (some b) ∧ Lay w' B b bd bm f { S with f3 := S.f3 - 1 } own := by
  have hc := h.c5
  have hf := h.fz 5
  have hle := h.ok.f3
  by_cases h0 : S.f3 = 0
  · have HE := Lib.hid (show decide (S.f3 = 1) = false by rw [h0]; rfl)
    have HS := Lib.hid (show ({ S with f3 := S.f3 - 1 } : St) = S from St.ext' rfl rfl rfl rfl rfl (by show S.f3 - 1 = S.f3; omega) rfl)
    have H := Lib.hid h; clear h
    rw [HE.out, HS.out]
    rw [h0] at hc
    clear hle h0 HE HS
    go_enter Try.func28, Try.ntmps28
    go_wp2
    go_ret
    exact ⟨rfl, World.grownBy.refl _ _, H.out⟩
  · have hx : ((S.f3 - 1 : Nat) : Int) = (S.f3 : Int) - 1 := by omega
    have H := Lib.hid (h.field 5 (.int .i64 (S.f3 - 1 : Int)) (T := { S with f3 := S.f3 - 1 }) { h.ok with f3 := by show S.f3 - 1 ≤ _; omega } rfl rfl rfl (by rw [← hx]; rfl))
    clear h
    have HX := Lib.hid (show ((S.f3 : Int) - 1 == 0) = decide (S.f3 = 1) by rw [Bool.eq_iff_iff]; simp; omega)
    clear hx
    generalize ({ S with f3 := S.f3 - 1 } : St) = T at *
    generalize decide (S.f3 = 1) = r at *
    generalize S.f3 = m at *
    have hm : (m : Int) ≠ 0 := by omega
    have hw : IntKind.i64.wrap ((m : Int) - 1) = (m : Int) - 1 := IntWalk.i64_in _ (by omega)
    go_enter Try.func28, Try.ntmps28
    go_wp2_with fail
    go_region
    go_wp2
    go_ret
    exact ⟨by rw [← HX.out]; rfl, only_drew (Lib.grownBy_setB (World.grownBy.refl _ _) _ _), H.out.drew⟩

set_option maxHeartbeats 800000 in
theorem disk_stops2 {w : World} {B b bd bm : Nat} {S : St} {f : Nat → Option Value} {own : Nat → Prop} (h : Lay w B b bd bm f S own) :
    Calls Try.prog 30 #[.pointer (some ⟨b, 0, none⟩), .int .i64 2] w fun e w' => e = .returned (.bool (decide (S.f2 = 1) || decide (S.left = 0))) ∧ w.grownBy w' (some b) ∧ Lay w' B b bd bm f { S with f2 := S.f2 - 1 } own := by
  have HD := Lib.hid (disk_due2 h)
  have HL := Lib.hid (show ({ S with f2 := S.f2 - 1 } : St).left = S.left from rfl)
  clear h
  generalize ({ S with f2 := S.f2 - 1 } : St) = T at *
  cases hd : decide (S.f2 = 1) with
  | true =>
    rw [hd] at HD
    clear hd
    go_enter Try.func30, Try.ntmps30
    go_wp2_with fail
    refine HD.out.mono ?_
    rintro e w1 ⟨rfl, hg, hl⟩
    have HG := Lib.hid hg; have H := Lib.hid hl; clear hg hl
    go_wp2
    go_ret
    exact ⟨rfl, HG.out, H.out⟩
  | false =>
    rw [hd] at HD
    clear hd
    go_enter Try.func30, Try.ntmps30
    go_wp2_with fail
    refine HD.out.mono ?_
    rintro e w1 ⟨rfl, hg, hl⟩
    have hc := hl.c6
    rw [HL.out] at hc
    have HG := Lib.hid hg; have H := Lib.hid hl; clear hg hl
    obtain ⟨l, hl⟩ : ∃ l, l = S.left := ⟨_, rfl⟩
    rw [← hl] at hc
    have HX := Lib.hid (show (l == 0) = (false || decide (S.left = 0)) by rw [hl, Bool.eq_iff_iff]; simp)
    clear hl HL
    go_wp2
    go_ret
    exact ⟨congrArg (fun x => Ending.returned (.bool x)) HX.out, HG.out, H.out⟩

set_option maxHeartbeats 800000 in
theorem disk_stops3 {w : World} {B b bd bm : Nat} {S : St} {f : Nat → Option Value} {own : Nat → Prop} (h : Lay w B b bd bm f S own) :
    Calls Try.prog 30 #[.pointer (some ⟨b, 0, none⟩), .int .i64 3] w fun e w' => e = .returned (.bool (decide (S.f3 = 1) || decide (S.left = 0))) ∧ w.grownBy w' (some b) ∧ Lay w' B b bd bm f { S with f3 := S.f3 - 1 } own := by
  have HD := Lib.hid (disk_due3 h)
  have HL := Lib.hid (show ({ S with f3 := S.f3 - 1 } : St).left = S.left from rfl)
  clear h
  generalize ({ S with f3 := S.f3 - 1 } : St) = T at *
  cases hd : decide (S.f3 = 1) with
  | true =>
    rw [hd] at HD
    clear hd
    go_enter Try.func30, Try.ntmps30
    go_wp2_with fail
    refine HD.out.mono ?_
    rintro e w1 ⟨rfl, hg, hl⟩
    have HG := Lib.hid hg; have H := Lib.hid hl; clear hg hl
    go_wp2
    go_ret
    exact ⟨rfl, HG.out, H.out⟩
  | false =>
    rw [hd] at HD
    clear hd
    go_enter Try.func30, Try.ntmps30
    go_wp2_with fail
    refine HD.out.mono ?_
    rintro e w1 ⟨rfl, hg, hl⟩
    have hc := hl.c6
    rw [HL.out] at hc
    have HG := Lib.hid hg; have H := Lib.hid hl; clear hg hl
    obtain ⟨l, hl⟩ : ∃ l, l = S.left := ⟨_, rfl⟩
    rw [← hl] at hc
    have HX := Lib.hid (show (l == 0) = (false || decide (S.left = 0)) by rw [hl, Bool.eq_iff_iff]; simp)
    clear hl HL
    go_wp2
    go_ret
    exact ⟨congrArg (fun x => Ending.returned (.bool x)) HX.out, HG.out, H.out⟩

set_option maxHeartbeats 800000 in
theorem disk_done {w : World} {B b bd bm : Nat} {S : St} {f : Nat → Option Value} {own : Nat → Prop} (h : Lay w B b bd bm f S own) :
    Calls Try.prog 32 #[.pointer (some ⟨b, 0, none⟩)] w fun e w' => e = .returned (.tuple #[]) ∧ w.grownBy w' (some b) ∧ Lay w' B b bd bm f S.done own := by
  have hc := h.c6
  have hf := h.fz 6
  have h0 := h.ok.l0
  have h1 := h.ok.l1
  by_cases hp : 0 < S.left
  · have H := Lib.hid (h.field 6 (.int .i64 (S.left - 1 : Int)) (T := S.done) h.ok.done rfl rfl rfl (by
      show _ = #[_, _, _, _, _, _, Value.int .i64 (tick S.left)]
      simp only [tick, hp, if_true]; rfl))
    clear h
    generalize S.done = T at *
    generalize S.left = m at *
    have hw : IntKind.i64.wrap (m - 1) = m - 1 := IntWalk.i64_in _ (by omega)
    go_enter Try.func32, Try.ntmps32
    go_wp2
    go_end0
    exact ⟨rfl, Lib.grownBy_setB (World.grownBy.refl _ _) _ _, H.out⟩
  · have HS := Lib.hid (show S.done = S from St.ext' rfl rfl rfl rfl rfl rfl (by show tick S.left = S.left; simp [tick, hp]))
    have H := Lib.hid h; clear h
    rw [HS.out]
    clear HS
    generalize S.left = m at *
    have hd : decide (0 < m) = false := by simp; omega
    go_enter Try.func32, Try.ntmps32
    go_wp2
    go_end0
    exact ⟨rfl, World.grownBy.refl _ _, H.out⟩
end Go.Proofs.Ytagikgejhckfbaa.Dsk
/- What a sector reads as. -/
namespace Go.Proofs.Ytagikgejhckfbaa.Dsk
open Go.RowKit Mem Crc DiskSpec

theorem zeroS (w : World) : (zeroValue 74).run Try.prog w = .ok (.agg (Array.replicate 256 (.int .u8 0))) w := by kernel_rfl
theorem zeroM (w : World) : (zeroValue 63).run Try.prog w = .ok (.slice none 0 0) w := by kernel_rfl
theorem infoS : (Try.prog.info? 74).map (·.size) = some 256 := by kernel_rfl
theorem ret_row1 {P : Program} {fn : Func} {R : Ending → World → Prop} {a : Act} {w : World} {p : Tmp} {ty : TypeId} (h : fn.results = #[.cell p ty])
    (g : Nat) (t : TypeId) (cs : Array Value) (d : TypeDesc) (hp : a.tmps.getD p undef = .pointer (some ⟨g, 0, none⟩)) (hg : Blk w g t cs)
    (hu : P.underlying ty = some d) (hd : (match d with | .struct _ | .array _ _ => true | _ => false) = true) (hi : (P.info? ty).map (·.size) = some cs.size) (hdf : a.defers = [])
    (hR : R (.returned (.agg cs)) w) : bodyPost P fn R .ret a w := by
  refine bodyPost_ret (v := .agg cs) ?_ hdf hR
  have e : (results fn a.tmps).run P w = ((asAddr (a.tmps.getD p undef)).run P w).andThen fun ad w1 => (loadVar ty ad).run P w1 := by
    simp only [results, h]
    simp [Sem.run_bind, Result.andThen]
  rw [e, hp]
  simp [asAddr, run_loadVar_row w g t ty cs (0, 0) d hg hu hd hi, Result.andThen]
theorem wpList_store_fresh {P : Program} {ops : Array Oper} {rest : List Oper} {op : Oper} {a : Act} {w : World} {Q : Exit → Act → World → Prop} (hgd : op.guard = none) (hdn : op.dst = none) (ty : TypeId) (x y : Operand) (ho : op.op = .store ty x y)
    (c c' : Array Value) (hx : a.eval x = .pointer (some ⟨w.heap.size, 0, none⟩)) (hy : a.eval y = .agg c')
    (hi : (P.info? ty).map (·.size) = some c'.size) (hs : c.size = c'.size) (h1 : c'.all (·.oneCell') = true)
    (h : wpList P ops Q rest a (w.alloc (.cells c' ty))) : wpList P ops Q (op :: rest) a (w.alloc (.cells c ty)) :=
  wpList_plain hgd fun K hK => by
    have hr := run_storeAt_new (P := P) w ty c c' hi hs h1
    unfold Oper.wp execOp
    simp only [ho, hx, hy, Sem.run_bind, Sem.run_pure, hr, Result.andThen_ok]
    have e : a.put op.dst undef = a := by rw [hdn]; rfl
    exact hK _ _ (by rw [e]; exact h)
theorem u8s_oneA (l : List Nat) : (u8s l).toArray.all (·.oneCell') = true := all_oneCell_toArray (u8s_one l)

theorem flat_at : ∀ (vs : List (List Nat)) (q : Nat) (x : List Nat), (∀ v ∈ vs, v.length = 256) → vs[q]? = some x → ∀ j, j < 256 → (flat vs)[q * 256 + j]? = (u8s x)[j]?
  | [], _, _, _, h, _, _ => by simp at h
  | a :: vs, 0, x, hl, h, j, hj => by
    have e : a = x := by simpa using h
    subst e
    have : flat (a :: vs) = u8s a ++ flat vs := by simp [flat, u8s_append]
    rw [this, Nat.zero_mul, Nat.zero_add, List.getElem?_append_left (by rw [u8s_length, hl a (by simp)]; exact hj)]
  | a :: vs, q + 1, x, hl, h, j, hj => by
    have : flat (a :: vs) = u8s a ++ flat vs := by simp [flat, u8s_append]
    rw [this, List.getElem?_append_right (by rw [u8s_length, hl a (by simp)]; omega), u8s_length, hl a (by simp), show (q + 1) * 256 + j - 256 = q * 256 + j from by omega]
    exact flat_at vs q x (fun v hv => hl v (by simp [hv])) (by simpa using h) j hj
/-- A sector's versions, as the map has them: a slice whose elements lie there. -/
theorem Lay.versions {w : World} {B b bd bm : Nat} {S : St} {f : Nat → Option Value} {own : Nat → Prop} (h : Lay w B b bd bm f S own) (i : Nat) (hv : S.ver i ≠ []) :
    ∃ g cap, f i = some (.slice (some ⟨g, 0, none⟩) (S.ver i).length cap) ∧ (S.ver i).length ≤ cap ∧ cap ≤ maxLen ∧ own g ∧ g ≠ bd ∧ ∀ q x, (S.ver i)[q]? = some x → w.rangeAt g (q * 256) (u8s x) := by
  obtain ⟨v, g, h1, h2, h3, h4, _, h6, _⟩ := h.rows.some_ i hv
  have hpos : 0 < (S.ver i).length := List.length_pos_iff.2 hv
  obtain ⟨g', cap, rfl, _, _, hc1, hc2, hc⟩ := h2.reads hpos
  have e : g' = g := by simpa [Value.ownBlock] using h3
  subst e
  refine ⟨g', cap, h1, hc1, hc2, h4, h6, fun q x hx j u hu => ?_⟩
  have hxm : x ∈ S.ver i := List.mem_of_getElem? hx
  have hj : j < 256 := by
    have := (List.getElem?_eq_some_iff.1 hu).1
    rw [u8s_length, (h.ok.ver i x hxm).1] at this
    exact this
  refine hc (q * 256 + j) u ?_
  rw [flat_at (S.ver i) q x (fun v hv => (h.ok.ver i v hv).1) hx j hj]
  exact hu

set_option maxRecDepth 100000 in
set_option maxHeartbeats 800000 in
theorem disk_now {w : World} {B b bd bm : Nat} {S : St} {f : Nat → Option Value} {own : Nat → Prop} (h : Lay w B b bd bm f S own) (i : Nat) (hi : i < S.n) :
    Calls Try.prog 29 #[.pointer (some ⟨b, 0, none⟩), .int .i64 (i : Nat)] w fun e w' => e = .returned (.agg (u8s (S.now i)).toArray) ∧ w.grownBy w' none := by
  have hz := zeroS
  have hzm := zeroM
  have hb0 := Blk.new w 74 (Array.replicate 256 (.int .u8 0))
  have hG := World.grownBy_alloc w (.cells (Array.replicate 256 (.int .u8 0)) 74) none
  have h1 := h.alloc (.cells (Array.replicate 256 (.int .u8 0)) 74)
  have hsz : (Array.replicate 256 (Value.int .u8 0)).size = 256 := by simp
  generalize hzz : Array.replicate 256 (Value.int .u8 0) = zs at *
  clear hzz
  have htop := h.ok.top
  have hsec := S.now_sec h.ok i
  have hnow0 := @St.now_nil S i
  have HN := Lib.hid (show S.now i = (S.ver i).getLastD (S.dur i) from rfl)
  by_cases hv : S.ver i = []
  · have hlk := h1.map.look (t := 64) (E := 63) Try.underlying3 Try.underlying64 (zeroM _) i (by omega)
    rw [h.rows.none_ i hv] at hlk
    simp only [Option.getD_none] at hlk
    have HLD := Lib.hid (show (w.alloc (.cells zs 74)).rangeAt bd (i * 256) (u8s (S.dur i)) from Nat.mul_comm 256 i ▸ h1.dur i hi)
    have HI := Lib.hid (show (Try.prog.info? 74).map (·.size) = some (u8s (S.dur i)).length by rw [u8s_length, (h.ok.dur i).1]; exact infoS)
    have HS := Lib.hid (show zs.size = (u8s (S.dur i)).toArray.size by rw [hsz, List.size_toArray, u8s_length, (h.ok.dur i).1])
    have HO := Lib.hid (u8s_oneA (S.dur i))
    have hc0 := h1.c0
    have hc1 := h1.c1
    rw [hnow0 hv] at hsec ⊢
    have HSEC := Lib.hid hsec
    clear hnow0 hv hsec HN h
    have H1 := Lib.hid h1; have HB0 := Lib.hid hb0; have HGG := Lib.hid hG; clear h1 hb0 hG
    generalize hx : (u8s (S.dur i)) = x at *
    have HX := Lib.hid hx; clear hx
    generalize S.n = n at *
    go_enter Try.func29, Try.ntmps29
    go_wp2_with (first
      | refine wpList_load_mid rfl 74 (Operand.tmp 26) rfl bd (i * 256) rfl x _ HLD.out Try.underlying74 rfl HI.out ?_
      | refine wpList_store_fresh rfl rfl 74 (Operand.tmp 4) (Operand.tmp 27) rfl zs x.toArray rfl rfl HI.out HS.out HO.out ?_)
    refine ret_row1 rfl w.heap.size 74 x.toArray _ rfl (Blk.new _ _ _) Try.underlying74 rfl HI.out rfl ?_
    exact ⟨rfl, World.grownBy_alloc _ _ _⟩
  · obtain ⟨g, cap, hfi, hcap, hmax, _, _, hat⟩ := h1.versions i hv
    have hlast : S.ver i = (S.ver i).dropLast ++ [S.now i] := by
      have e1 := List.dropLast_concat_getLast hv
      have e2 : S.now i = (S.ver i).getLast hv := by
        rw [HN.out, List.getLastD_eq_getLast?, List.getLast?_eq_some_getLast hv]; rfl
      rw [e2]; exact e1.symm
    have hat1 : (S.ver i)[(S.ver i).dropLast.length]? = some (S.now i) := by
      rw [hlast]; simp
    have hr := hat _ _ hat1
    have hlk := h1.map.look (t := 64) (E := 63) Try.underlying3 Try.underlying64 (zeroM _) i (by omega)
    rw [hfi] at hlk
    simp only [Option.getD_some] at hlk
    have hk : (S.ver i).length = (S.ver i).dropLast.length + 1 := by
      have := congrArg List.length hlast; simpa using this
    rw [hk] at hlk hcap
    generalize (S.ver i).dropLast.length = k at *
    have hk64 : k + 1 ≤ 9223372036854775807 := by unfold maxLen at hmax; omega
    have HLD := Lib.hid hr
    have HI := Lib.hid (show (Try.prog.info? 74).map (·.size) = some (u8s (S.now i)).length by rw [u8s_length, hsec.1]; exact infoS)
    have HS := Lib.hid (show zs.size = (u8s (S.now i)).toArray.size by rw [hsz, List.size_toArray, u8s_length, hsec.1])
    have HO := Lib.hid (u8s_oneA (S.now i))
    have hc1 := h1.c1
    have HCAP := Lib.hid hcap; have HMAX := Lib.hid hmax
    clear hnow0 hv hsec HN h hr hat1 hlast hat hfi hk hcap hmax h1 hb0 hG
    generalize hx : (u8s (S.now i)) = x at *
    have HX := Lib.hid hx; clear hx
    generalize S.n = n at *
    go_enter Try.func29, Try.ntmps29
    go_wp2_with (first
      | refine wpList_load_mid rfl 74 (Operand.tmp 19) rfl g (k * 256) rfl x _ HLD.out Try.underlying74 rfl HI.out ?_
      | refine wpList_store_fresh rfl rfl 74 (Operand.tmp 4) (Operand.tmp 20) rfl zs x.toArray rfl rfl HI.out HS.out HO.out ?_)
    refine ret_row1 rfl w.heap.size 74 x.toArray _ rfl (Blk.new _ _ _) Try.underlying74 rfl HI.out rfl ?_
    exact ⟨rfl, World.grownBy_alloc _ _ _⟩
end Go.Proofs.Ytagikgejhckfbaa.Dsk
/- A new disk; what is to fail, a cut, a remainder. -/
namespace Go.Proofs.Ytagikgejhckfbaa.Dsk
open Go.RowKit Mem Crc DiskSpec

theorem infoS3 : (Try.prog.info? 74).map (fun i => (i.zero, i.size, i.bytes)) = some (some (.agg (Array.replicate 256 (.int .u8 0))), 256, 256) := by kernel_rfl
theorem Lay.weak {w : World} {B B' b bd bm : Nat} {S : St} {f : Nat → Option Value} {own : Nat → Prop} (h : Lay w B b bd bm f S own) (hB : B' ≤ B) : Lay w B' b bd bm f S own :=
  { h with low := fun i hi => Nat.le_trans hB (h.low i hi) }

set_option maxHeartbeats 400000 in
theorem disk_new_no (n : Int) (w : World) (hn : n < 1 ∨ 4096 < n) :
    Calls Try.prog 10 #[.int .i64 n] w fun e w' => e = .returned (.tuple #[.pointer none, .int .i64 1]) ∧ w = w' := by
  rcases hn with hn | hn
  · go_enter Try.func10, Try.ntmps10
    go_wp2
    go_ret2
    exact ⟨rfl, rfl⟩
  · have h1 : decide (n < 1) = false := by simp; omega
    go_enter Try.func10, Try.ntmps10
    go_wp2
    go_ret2
    exact ⟨rfl, rfl⟩

/-- What a new disk is, of the blocks that it is made of. -/
theorem lay_new (w w1 : World) (n : Nat) (h1 : 1 ≤ n) (h2 : n ≤ 4096) (hg : w.grownBy w1 none) (hr : w1.ownsRow w.heap.size 74 256 (.slice (some ⟨w.heap.size, 0, none⟩) n n) n (madeCells (Array.replicate 256 (.int .u8 0)) (n * 256)).toList) :
    ∃ f own, Lay ((w1.alloc (.map #[] 0)).alloc (.cells #[.slice (some ⟨w.heap.size, 0, none⟩) n n, .map (some w1.heap.size), .int .i64 0, .int .i64 0, .int .i64 0, .int .i64 0, .int .i64 (-1)] 67)) w.heap.size (w1.heap.size + 1) w.heap.size w1.heap.size f (St.new n) own ∧
      w.grownBy ((w1.alloc (.map #[] 0)).alloc (.cells #[.slice (some ⟨w.heap.size, 0, none⟩) n n, .map (some w1.heap.size), .int .i64 0, .int .i64 0, .int .i64 0, .int .i64 0, .int .i64 (-1)] 67)) none := by
  have hlt := (hr.lt w.heap.size rfl).2
  have hgg := (hg.trans (World.grownBy_alloc w1 (.map #[] 0) none)).trans (World.grownBy_alloc _ (.cells #[.slice (some ⟨w.heap.size, 0, none⟩) n n, .map (some w1.heap.size), .int .i64 0, .int .i64 0, .int .i64 0, .int .i64 0, .int .i64 (-1)] 67) none)
  have hb := Blk.new (w1.alloc (.map #[] 0)) 67 #[.slice (some ⟨w.heap.size, 0, none⟩) n n, .map (some w1.heap.size), .int .i64 0, .int .i64 0, .int .i64 0, .int .i64 0, .int .i64 (-1)]
  have hm := (MapIs.made w1 Try.prog 3 n).of_block (w' := (w1.alloc (.map #[] 0)).alloc (.cells #[.slice (some ⟨w.heap.size, 0, none⟩) n n, .map (some w1.heap.size), .int .i64 0, .int .i64 0, .int .i64 0, .int .i64 0, .int .i64 (-1)] 67)) (Below.heap_alloc _ _ _ (by simp))
  have hd := (Below.heap_alloc (w1.alloc (.map #[] 0)) (.cells #[.slice (some ⟨w.heap.size, 0, none⟩) n n, .map (some w1.heap.size), .int .i64 0, .int .i64 0, .int .i64 0, .int .i64 0, .int .i64 (-1)] 67) w.heap.size (by simp; omega)).trans (Below.heap_alloc w1 (.map #[] 0) w.heap.size hlt)
  rw [World.size_alloc] at hb
  have hsz : ((w1.alloc (.map #[] 0)).alloc (.cells #[.slice (some ⟨w.heap.size, 0, none⟩) n n, .map (some w1.heap.size), .int .i64 0, .int .i64 0, .int .i64 0, .int .i64 0, .int .i64 (-1)] 67)).heap.size = w1.heap.size + 2 := by simp
  obtain ⟨hlen, hrow⟩ := hr
  rcases hrow with ⟨hv, _⟩ | ⟨g, cap, cur, hv, _, hh, hnc, hcm, hcs, hct⟩
  · cases hv
  · simp only [Value.slice.injEq, Option.some.injEq, Addr.mk.injEq] at hv
    obtain ⟨⟨rfl, _⟩, _, rfl⟩ := hv
    generalize (w1.alloc (.map #[] 0)).alloc (.cells #[.slice (some ⟨w.heap.size, 0, none⟩) n n, .map (some w1.heap.size), .int .i64 0, .int .i64 0, .int .i64 0, .int .i64 0, .int .i64 (-1)] 67) = w2 at *
    have hh2 : w2.heap[w.heap.size]? = some (.cells cur 74 (0, 0)) := hd.trans hh
    have hcell : ∀ q, q < n * 256 → w2.cell? ⟨w.heap.size, q, none⟩ = some (.int .u8 0) := fun q hq => by
      rw [cell_of_row _ _ q cur _ _ hh2]
      have e1 : cur.toList.take (n * 256) = cur.toList := List.take_of_length_le (by simp; omega)
      rw [e1] at hct
      rw [← Array.getElem?_toList, hct]
      simp [madeCells, hq]
      rw [getElem!_pos _ _ (by rw [Array.size_replicate]; omega), Array.getElem_replicate]
    refine ⟨fun _ => none, fun i => i = w1.heap.size + 1 ∨ i = w.heap.size ∨ i = w1.heap.size, ?_, hgg⟩
    exact {
      ok := St.ok.new h1 h2
      blk := hb
      dur := fun i hi j v hv => by
        have hi' : i < n := hi
        have hj : j < 256 := by
          have := (List.getElem?_eq_some_iff.1 hv).1
          rw [u8s_length] at this
          exact Nat.lt_of_lt_of_eq this Sec.zero.1
        rw [hcell _ (by omega)]
        have : (u8s zeros)[j]? = some v := hv
        rw [u8s_at _ _ (by rw [Sec.zero.1]; exact hj)] at this
        rw [← this]
        have e0 : zeros.getD j 0 = 0 := by
          unfold zeros
          rw [List.getD_eq_getElem?_getD, List.getElem?_replicate]
          simp [hj]
        rw [e0]; rfl
      room := fun q hq => by
        have hq' : q < 256 * n := hq
        rw [Nat.zero_add]
        refine ⟨by rw [hcell q (by omega)]; rfl, ?_⟩
        simp [World.frozen?, hh2]
      map := hm
      rows := ⟨fun _ _ => rfl, fun _ hk => absurd rfl hk, fun _ _ _ _ hv => by cases hv⟩
      ownB := .inl rfl
      ownD := .inr (.inl rfl)
      ownM := .inr (.inr rfl)
      bd_ := by omega
      bm_ := by omega
      dm_ := by omega
      low := fun i hi => by omega
      lt := fun i hi => by omega }

set_option maxRecDepth 100000 in
set_option maxHeartbeats 800000 in
theorem disk_new (n : Nat) (w : World) (h1 : 1 ≤ n) (h2 : n ≤ 4096) :
    Calls Try.prog 10 #[.int .i64 (n : Nat)] w fun e w' => ∃ b bd bm f own, e = .returned (.tuple #[.pointer (some ⟨b, 0, none⟩), .int .i64 0]) ∧ Lay w' w.heap.size b bd bm f (St.new n) own ∧ w.grownBy w' none := by
  obtain ⟨i0, hi0, hz0, hz1, hz2⟩ := info_parts infoS3
  have hi := Lib.hid hi0; have z0 := Lib.hid hz0; have z1 := Lib.hid hz1; have z2 := Lib.hid hz2; clear hi0 hz0 hz1 hz2
  have HL := Lib.hid (fun w1 => lay_new w w1 n h1 h2)
  have hmk := fun w => run_makeMap (P := Try.prog) 64 w
  have hd1 : decide ((n : Int) < 1) = false := by simp; omega
  have hd2 : decide (4096 < (n : Int)) = false := by simp; omega
  generalize Array.replicate 256 (Value.int .u8 0) = zs at *
  go_enter Try.func10, Try.ntmps10
  go_wp2_with (first
    | (at_make; refine wpList_make_full _ rfl _ _ 63 rfl w.heap.size 74 i0 _ 256 Try.underlying63 hi.out z0.out z1.out .i64 .i64 _ _ n rfl rfl rfl rfl (by rw [z2.out]; omega) (by unfold maxLen; omega) (Nat.le_refl _) ?_; intro w1 hrow hg; have HROW := Lib.hid hrow; have HG := Lib.hid hg; clear hrow hg))
  go_ret2
  obtain ⟨f, own, h5, h6⟩ := HL.out _ HG.out HROW.out
  exact ⟨_, _, _, f, own, rfl, h5, h6⟩
end Go.Proofs.Ytagikgejhckfbaa.Dsk
/- Sectors are read. -/
namespace Go.Proofs.Ytagikgejhckfbaa.Dsk
open Go.RowKit Mem Crc DiskSpec

/-- The bytes of a read that has come to sector j of count. -/
def partly (S : St) (a count j : Nat) : List Nat := S.reads a j ++ List.replicate (256 * (count - j)) 0
theorem partly_all (S : St) (a count : Nat) : partly S a count count = S.reads a count := by simp [partly]
theorem partly_length {S : St} (h : S.ok) (a count j : Nat) (hj : j ≤ count) : (partly S a count j).length = 256 * count := by
  rw [partly, List.length_append, reads_length h, List.length_replicate]; omega
theorem partly_step {S : St} (h : S.ok) (a count j : Nat) (hj : j < count) : (u8s (partly S a count j)).take (j * 256) ++ (u8s (S.now (a + j)) ++ (u8s (partly S a count j)).drop (j * 256 + 256)) = u8s (partly S a count (j + 1)) := by
  have hl := reads_length h a j
  have e1 : (u8s (partly S a count j)).take (j * 256) = u8s (S.reads a j) := by
    rw [partly, u8s_append, List.take_left' (by rw [u8s_length, hl]; omega)]
  have e2 : (u8s (partly S a count j)).drop (j * 256 + 256) = u8s (List.replicate (256 * (count - (j + 1))) 0) := by
    rw [partly, u8s_append, List.drop_append, List.drop_eq_nil_of_le (by rw [u8s_length, hl]; omega), List.nil_append, u8s_length, hl]
    simp only [u8s, List.map_replicate, List.drop_replicate]
    congr 1
    omega
  rw [e1, e2, partly, St.reads, u8s_append, u8s_append, List.append_assoc]

theorem Turn.new_ {w w1 w2 : World} {own own' : Nat → Prop} {g : Nat} (h : Turn w w1 own own') (hg : w1.grownBy w2 (some g)) (hn : w.heap.size ≤ g) : Turn w w2 own own' :=
  ⟨hg.os.trans h.os, hg.tape.trans h.tape, hg.output.trans h.output, Nat.le_trans h.size hg.size,
    fun i hi ho => (hg.block i (Nat.lt_of_lt_of_le hi h.size) (fun e => by cases e; omega)).trans (h.block i hi ho), h.fresh⟩
theorem grown_setRow' {w W : World} {h : Nat} (hg : w.grownBy W (some h)) (cs : Array Value) : w.grownBy (W.setRow h cs) (some h) :=
  ⟨hg.os, hg.tape, hg.output, by simpa [World.setRow] using hg.size, fun k hk hn => (setRow_other W h k cs (fun e => hn (by rw [e]))).trans (hg.block k hk hn)⟩
theorem blk_setRow {W : World} {h : Nat} {t : TypeId} {cs : Array Value} (hb : Blk W h t cs) (ds : Array Value) : Blk (W.setRow h ds) h t ds := setRow_heap W h cs ds t (0, 0) hb

set_option maxRecDepth 100000 in
set_option maxHeartbeats 1600000 in
theorem disk_read_ok {w : World} {B b bd bm : Nat} {S : St} {f : Nat → Option Value} {own : Nat → Prop} (h : Lay w B b bd bm f S own) (a count : Nat) (h1 : 1 ≤ count) (h2 : a + count ≤ S.n) (hf : S.f1 ≠ 1) :
    Calls Try.prog 14 #[.pointer (some ⟨b, 0, none⟩), .int .i64 (a : Nat), .int .i64 (count : Nat)] w fun e w' => ∃ g cap, e = .returned (.tuple #[.slice (some ⟨g, 0, none⟩) (256 * count) cap, .int .i64 0]) ∧
      w.heap.size ≤ g ∧ Blk w' g 5 (u8s (S.reads a count)).toArray ∧ Lay w' B b bd bm f { S with f1 := S.f1 - 1 } own ∧ Turn w w' own own := by
  have htop := h.ok.top
  have HH := Lib.hid (disk_has h (a : Int) (count : Int) (by omega) (by omega))
  have hhas : S.has a count = true := by simp [St.has]; omega
  have HD := Lib.hid (disk_due1 h)
  have HF := Lib.hid (show decide (S.f1 = 1) = false by simp [hf])
  have HOK := Lib.hid h.ok
  have HLOW := Lib.hid h.low
  have HOB := Lib.hid h.ownB
  have HLT := Lib.hid h.lt
  obtain ⟨i0, hi0, hz0, hz1, hz2⟩ := info_parts byte_info
  have hi := Lib.hid hi0; have z0 := Lib.hid hz0; have z1 := Lib.hid hz1; have z2 := Lib.hid hz2; clear hi0 hz0 hz1 hz2
  have hw1 : IntKind.i64.wrap ((count : Int) * 256) = (count : Int) * 256 := IntWalk.i64_in _ (by omega)
  clear h
  rw [hhas] at HH
  rw [HF.out] at HD
  generalize hT : ({ S with f1 := S.f1 - 1 } : St) = T at *
  have HTN := Lib.hid (show T.n = S.n by rw [← hT])
  have HTR := Lib.hid (show ∀ k, T.reads a k = S.reads a k by
    intro k; rw [← hT]; induction k with
    | zero => rfl
    | succ k ih => rw [St.reads, St.reads, ih]; rfl)
  clear hT hhas
  go_enter Try.func14, Try.ntmps14
  go_wp2_with fail
  refine HH.out.mono ?_
  rintro e w' ⟨rfl, rfl⟩
  go_wp2_with fail
  refine HD.out.mono ?_
  rintro e w1 ⟨rfl, hg1, hl1⟩
  have HG1 := Lib.hid hg1; have H1 := Lib.hid hl1; clear hg1 hl1
  go_wp2_with (first
    | (at_make; refine wpList_make_full _ rfl _ _ 39 rfl w1.heap.size 5 i0 _ 1 Try.underlying39 hi.out z0.out z1.out .i64 .i64 _ _ (256 * count) rfl rfl (by omega) (by omega) (by rw [z2.out]; omega) (by unfold maxLen; omega) (Nat.le_refl _) ?_; intro w2 hrow hg; have HROW := Lib.hid hrow; have HG := Lib.hid hg; clear hrow hg))
  have hs1 := HG1.out.size
  have hs2 := HG.out.size
  have hrow0 : Blk w2 w1.heap.size 5 (u8s (partly T a count 0)).toArray := by
    have hr := HROW.out
    have e : (madeCells (Value.int .u8 0).cells (256 * count * 1)).toList = u8s (partly T a count 0) := by
      rw [Nat.mul_one]
      have : (Value.int .u8 0).cells = #[.int .u8 0] := rfl
      rw [this, toList_madeCells_one, partly]
      simp [St.reads, u8s]
    rw [e] at hr
    rcases hr.2 with ⟨hv, _⟩ | ⟨g, cap, cur, hv, _, hh, _, _, hcs, hct⟩
    · cases hv
    · simp only [Value.slice.injEq, Option.some.injEq, Addr.mk.injEq] at hv
      obtain ⟨⟨rfl, _⟩, _, rfl⟩ := hv
      rw [List.take_of_length_le (by simp; omega)] at hct
      have : cur = (u8s (partly T a count 0)).toArray := by rw [← hct]
      rw [← this]; exact hh
  have hl2 := H1.out.grown HG.out (fun _ e => by cases e)
  have HL2 := Lib.hid hl2
  have HROW0 := Lib.hid hrow0
  have HNOT := Lib.hid (show ¬ own w1.heap.size from fun e => by have := H1.out.lt _ e; omega)
  clear hrow0 hl2 HROW
  have hcnt : (256 : Nat) * count < 9223372036854775807 := by omega
  go_wp2_with fail
  go_loopw [9, 10, 22] (fun _ _ i wr => ∃ j : Nat, j ≤ count ∧ i = .int .i64 j ∧ w2.grownBy wr (some w1.heap.size) ∧ Blk wr w1.heap.size 5 (u8s (partly T a count j)).toArray) (fun _ _ i _ => count - (Go.RowKit.intOf i).toNat)
  case atStart => exact ⟨0, by omega, rfl, World.grownBy.refl _ _, HROW0.out⟩
  case round =>
    obtain ⟨j, hj, rfl, hgw, hbw⟩ := hrel
    have HGW := Lib.hid hgw; have HBW := Lib.hid hbw; clear hgw hbw
    by_cases hlt : j < count
    · have hlr := HL2.out.grown HGW.out (fun q e => by cases e; exact HNOT.out)
      have hsec := T.now_sec hlr.ok (a + j)
      have hwj : IntKind.i64.wrap ((a : Int) + (j : Int)) = (a : Int) + (j : Int) := IntWalk.i64_in _ (by omega)
      have hwj2 : IntKind.i64.wrap ((j : Int) * 256) = (j : Int) * 256 := IntWalk.i64_in _ (by omega)
      have HNOW := Lib.hid (disk_now hlr (a + j) (by rw [HTN.out]; omega))
      have HI := Lib.hid (show (Try.prog.info? 74).map (·.size) = some (u8s (T.now (a + j))).length by rw [u8s_length, hsec.1]; exact infoS)
      have hz := zeroS
      have hsz : (Array.replicate 256 (Value.int .u8 0)).size = 256 := by simp
      generalize hzz : Array.replicate 256 (Value.int .u8 0) = zs at *
      clear hzz
      have HS := Lib.hid (show zs.size = (u8s (T.now (a + j))).toArray.size by rw [hsz, List.size_toArray, u8s_length, hsec.1])
      have HO := Lib.hid (u8s_oneA (T.now (a + j)))
      have HLN := Lib.hid (show (u8s (T.now (a + j))).length = 256 by rw [u8s_length, hsec.1])
      clear hlr hsec hsz
      generalize hx : u8s (T.now (a + j)) = x at *
      have HX := Lib.hid hx; clear hx
      have EA := Lib.hid (show (a : Int) + (j : Int) = ((a + j : Nat) : Int) by omega)
      go_wp2_with fail
      rw [EA.out]
      refine HNOW.out.mono ?_
      rintro e w3 ⟨rfl, hg3⟩
      have HG3 := Lib.hid hg3; clear hg3
      go_wp2_with (first
        | refine wpList_store_fresh rfl rfl 74 (Operand.tmp 10) (Operand.tmp 29) rfl zs x.toArray rfl rfl HI.out HS.out HO.out ?_)
      have hbW := ((HBW.out.grown HG3.out (by simp)).alloc (.cells x.toArray 74)).drew
      have hbN := (Blk.new w3 74 x.toArray).drew
      have hpl := partly_length HL2.out.ok a count j hj
      have hcp := run_copy_row (P := Try.prog) (w3.alloc (.cells x.toArray 74)).drew 39 39 3 5 w1.heap.size (j * 256) (256 * count - j * 256) (256 * count - j * 256) ⟨w3.heap.size, 0, none⟩ 256 256
        (u8s (partly T a count j)).toArray 5 x Try.underlying39 (by kernel_rfl) hbW (by rw [HLN.out]; exact (Nat.min_eq_left (by omega)).symm)
        (fun q v hv => by
          have e1 : (⟨w3.heap.size, 0, none⟩ : Addr).add q = ⟨w3.heap.size, q, none⟩ := by unfold Addr.add; split <;> simp_all
          rw [e1, hbN.cell]
          simpa using hv) (by rw [HLN.out, List.size_toArray, u8s_length, hpl]; omega) (by rw [← HX.out]; exact u8s_one _)
      have hst := partly_step HL2.out.ok a count j hlt
      rw [HX.out] at hst
      rw [HLN.out, List.append_assoc, hst] at hcp
      have HBK := Lib.hid (blk_setRow hbW (u8s (partly T a count (j + 1))).toArray)
      have HGK := Lib.hid (grown_setRow' ((((HGW.out.trans (grown_any HG3.out (some w1.heap.size))).trans (World.grownBy_alloc w3 (.cells x.toArray 74) _))).trans (grown_drew _ _)) (u8s (partly T a count (j + 1))).toArray)
      have hne : ¬ (256 * count = j * 256) := by omega
      have hle : (j : Int) * 256 ≤ 256 * (count : Int) := by omega
      have hnn : (0 : Int) ≤ (j : Int) * 256 := by omega
      have htn : ((j : Int) * 256).toNat = j * 256 := by omega
      clear hbW hbN hpl hst
      generalize hcs : (u8s (partly T a count (j + 1))).toArray = cs at *
      have HCS := Lib.hid hcs; clear hcs
      generalize hW : (w3.alloc (.cells x.toArray 74)) = W at *
      go_region
      go_wp2_with fail
      go_roundw
      case rel => exact ⟨j + 1, by omega, by go_num, HGK.out, by rw [HCS.out]; exact HBK.out⟩
      case measure => simp [Go.RowKit.intOf]; omega
    · obtain rfl : j = count := by omega
      go_wp2
      go_ret2
      have hbe := HBW.out
      rw [partly_all, HTR.out] at hbe
      exact ⟨_, _, rfl, hs1, hbe, HL2.out.grown HGW.out (fun q e => by cases e; exact HNOT.out), ((Turn.of_grown HG1.out (fun q e => by cases e; exact HOB.out)).trans (Turn.none_ HG.out)).new_ HGW.out hs1⟩

set_option maxHeartbeats 800000 in
theorem disk_read_no {w : World} {B b bd bm : Nat} {S : St} {f : Nat → Option Value} {own : Nat → Prop} (h : Lay w B b bd bm f S own) (a count : Int)
    (h1 : -9223372036854775808 ≤ a ∧ a ≤ 9223372036854775807) (h2 : -9223372036854775808 ≤ count ∧ count ≤ 9223372036854775807) (hn : S.has a count = false) :
    Calls Try.prog 14 #[.pointer (some ⟨b, 0, none⟩), .int .i64 a, .int .i64 count] w fun e w' => e = .returned (.tuple #[.slice none 0 0, .int .i64 2]) ∧ w = w' := by
  have HH := Lib.hid (disk_has h a count h1 h2)
  rw [hn] at HH
  clear h hn
  go_enter Try.func14, Try.ntmps14
  go_wp2_with fail
  refine HH.out.mono ?_
  rintro e w' ⟨rfl, rfl⟩
  go_wp2
  go_ret2
  exact ⟨rfl, rfl⟩

set_option maxHeartbeats 800000 in
theorem disk_read_fail {w : World} {B b bd bm : Nat} {S : St} {f : Nat → Option Value} {own : Nat → Prop} (h : Lay w B b bd bm f S own) (a count : Int)
    (h1 : -9223372036854775808 ≤ a ∧ a ≤ 9223372036854775807) (h2 : -9223372036854775808 ≤ count ∧ count ≤ 9223372036854775807) (hy : S.has a count = true) (hf : S.f1 = 1) :
    Calls Try.prog 14 #[.pointer (some ⟨b, 0, none⟩), .int .i64 a, .int .i64 count] w fun e w' => e = .returned (.tuple #[.slice none 0 0, .int .i64 10]) ∧ Lay w' B b bd bm f { S with f1 := S.f1 - 1 } own ∧ Turn w w' own own := by
  have HH := Lib.hid (disk_has h a count h1 h2)
  rw [hy] at HH
  have HD := Lib.hid (disk_due1 h)
  have HF := Lib.hid (show decide (S.f1 = 1) = true by simp [hf])
  rw [HF.out] at HD
  have HOB := Lib.hid h.ownB
  clear h hy hf HF
  generalize ({ S with f1 := S.f1 - 1 } : St) = T at *
  go_enter Try.func14, Try.ntmps14
  go_wp2_with fail
  refine HH.out.mono ?_
  rintro e w' ⟨rfl, rfl⟩
  go_wp2_with fail
  refine HD.out.mono ?_
  rintro e w1 ⟨rfl, hg1, hl1⟩
  have HG1 := Lib.hid hg1; have H1 := Lib.hid hl1; clear hg1 hl1
  go_wp2
  go_ret2
  exact ⟨rfl, H1.out, Turn.of_grown HG1.out (fun q e => by cases e; exact HOB.out)⟩
end Go.Proofs.Ytagikgejhckfbaa.Dsk
/- A sector is made durable. -/
namespace Go.Proofs.Ytagikgejhckfbaa.Dsk
open Go.RowKit Mem Crc DiskSpec

theorem Lay.thereAt {w : World} {B b bd bm : Nat} {S : St} {f : Nat → Option Value} {own : Nat → Prop} (h : Lay w B b bd bm f S own) {i : Nat} (hi : i < S.n) : w.there bd (i * 256) 256 := fun j hj => by
  have := h.room (i * 256 + j) (by omega)
  rwa [Nat.zero_add] at this
/-- The map's own word for deleting, wherever it is done. -/
theorem Lay.dropAt {w : World} {B b bd bm : Nat} {S : St} {f : Nat → Option Value} {own : Nat → Prop} (h : Lay w B b bd bm f S own) {i : Nat} (hi : i < S.n) (ty : TypeId) :
    ∃ w', (Builtin.delete_ #[64, 3] ty #[.map (some bm), .int .i64 (i : Nat)]).run Try.prog w = .ok (.tuple #[]) w' ∧
      Lay w' B b bd bm (fun j => if j = i then none else f j) { S with ver := upd S.ver i [] } own ∧ w.grownBy w' (some bm) := by
  have htop := h.ok.top
  obtain ⟨w', hrun, hm, hg⟩ := h.map.drop (t := 64) (E := 63) Try.underlying3 Try.underlying64 i (by omega) ty
  exact ⟨w', hrun, h.drop i hg hm, hg⟩

set_option maxRecDepth 100000 in
set_option maxHeartbeats 800000 in
theorem disk_settle {w : World} {B b bd bm : Nat} {S : St} {f : Nat → Option Value} {own : Nat → Prop} (h : Lay w B b bd bm f S own) (i : Nat) (hi : i < S.n) :
    Calls Try.prog 31 #[.pointer (some ⟨b, 0, none⟩), .int .i64 (i : Nat)] w fun e w' => e = .returned (.tuple #[]) ∧ (∃ f', Lay w' B b bd bm f' (S.settle i) own) ∧ Turn w w' own own := by
  have htop := h.ok.top
  have hsec := S.now_sec h.ok i
  have hnow : ∀ wx, w.grownBy wx none → Calls Try.prog 29 #[.pointer (some ⟨b, 0, none⟩), .int .i64 (i : Nat)] wx fun e w' => e = .returned (.agg (u8s (S.now i)).toArray) ∧ wx.grownBy w' none := fun wx hg =>
    disk_now (h.grown hg (fun _ e => by cases e)) i hi
  have hkeep : ∀ wx, w.grownBy wx none → wx.cell? ⟨b, 0, none⟩ = some (.slice (some ⟨bd, 0, none⟩) S.n S.n) ∧ wx.there bd (i * 256) 256 := fun wx hg => by
    have h1 := h.grown hg (fun _ e => by cases e)
    exact ⟨h1.c0, h1.thereAt hi⟩
  have hend : ∀ wx, w.grownBy wx none → Lay (wx.setCells bd (i * 256) (u8s (S.now i))) B b bd bm f { S with dur := upd S.dur i (S.now i) } own ∧ Turn w (wx.setCells bd (i * 256) (u8s (S.now i))) own own := fun wx hg => by
    have h1 := (h.grown hg (fun _ e => by cases e)).setDur hi hsec
    rw [Nat.mul_comm] at h1
    exact ⟨h1, (Turn.none_ hg).trans (.of_grown (grown_setCells bd _ _ wx) (fun j e => by cases e; exact h.ownD))⟩
  have HI : (Try.prog.info? 74).map (·.size) = some (u8s (S.now i)).length := by rw [u8s_length, hsec.1]; exact infoS
  have HL : (u8s (S.now i)).length = 256 := by rw [u8s_length, hsec.1]
  have HO := u8s_one (S.now i)
  have HNOW := Lib.hid hnow; have HKEEP := Lib.hid hkeep; have HEND := Lib.hid hend
  have HD0 := Lib.hid (grown_drew w none)
  have hkeep2 : ∀ wx, w.grownBy wx none → (wx.setCells bd (i * 256) (u8s (S.now i))).cell? ⟨b, 0, none⟩ = some (.slice (some ⟨bd, 0, none⟩) S.n S.n) ∧ (wx.setCells bd (i * 256) (u8s (S.now i))).there bd (i * 256) 256 := fun wx hg => by
    have h1 := (HEND.out wx hg).1
    exact ⟨h1.c0, h1.thereAt hi⟩
  have HKEEP2 := Lib.hid hkeep2
  have hcur := h.c0
  clear hnow hkeep hend hkeep2 hsec h
  generalize hx : u8s (S.now i) = x at *
  clear hx
  generalize hT : ({ S with dur := upd S.dur i (S.now i) } : St) = T at *
  have HTN := Lib.hid (show T.n = S.n by rw [← hT])
  have HS := Lib.hid (show { T with ver := upd T.ver i [] } = S.settle i by rw [← hT]; rfl)
  clear hT
  generalize S.n = n at *
  go_enter Try.func31, Try.ntmps31
  go_wp2_with fail
  go_region_held3 (fun wx => wx.cell? ⟨b, 0, none⟩ = some (.slice (some ⟨bd, 0, none⟩) n n) ∧ wx.there bd (i * 256) 256)
    (first
      | exact HKEEP.out _ HD0.out
      | exact HKEEP.out _ HGs.out
      | exact HKEEP2.out _ HGs.out)
    (first
      | (go_at_call 29
         refine (HNOW.out _ HD0.out).mono ?_
         rintro e w1 ⟨rfl, hg⟩
         have HGs := Lib.hid (HD0.out.trans hg)
         clear hg))
  obtain ⟨h2, ht2⟩ := HEND.out _ HGs.out
  have hiT : i < T.n := by rw [HTN.out]; exact hi
  obtain ⟨w3, hrun, h3, hg3⟩ := h2.dropAt hiT 0
  have hc1 := h2.c1
  rw [HS.out] at h3
  have HT2 := Lib.hid (ht2.trans (.of_grown hg3 (fun j e => by cases e; exact h2.ownM)))
  have H3 := Lib.hid h3
  clear h3 hg3 ht2 h2 HEND HKEEP HKEEP2 HNOW HGs HD0 HS
  generalize w1.setCells bd (i * 256) x = w2 at *
  go_wp2
  go_end0
  exact ⟨rfl, ⟨_, H3.out⟩, HT2.out⟩
end Go.Proofs.Ytagikgejhckfbaa.Dsk
/- Sectors are written. -/
namespace Go.Proofs.Ytagikgejhckfbaa.Dsk
open Go.RowKit Mem Crc DiskSpec

/-- A slice of bytes that lies outside the disk's own blocks and reads as the numbers l. -/
def Data (w : World) (own : Nat → Prop) (A : Option Addr) (n : Nat) (l : List Nat) : Prop :=
  l.length = n ∧ (∀ x ∈ l, x < 256) ∧ (0 < n → ∃ g o, A = some ⟨g, o, none⟩ ∧ g < w.heap.size ∧ ¬ own g ∧ ∀ j, j < n → w.cell? ⟨g, o + j, none⟩ = some (.int .u8 (l.getD j 0 : Nat)))
theorem Data.turn {w w' : World} {own own' : Nat → Prop} {A : Option Addr} {n : Nat} {l : List Nat} (h : Data w own A n l) (ht : Turn w w' own own') : Data w' own' A n l := by
  refine ⟨h.1, h.2.1, fun hn => ?_⟩
  obtain ⟨g, o, e, hlt, hno, hc⟩ := h.2.2 hn
  refine ⟨g, o, e, Nat.lt_of_lt_of_le hlt ht.size, fun ho => by rcases ht.fresh g ho with h1 | h1; exact hno h1; omega, fun j hj => ?_⟩
  rw [World.cell?_of_block (a := ⟨g, o + j, none⟩) (ht.block g hlt hno)]
  exact hc j hj

theorem infoS2 : (Try.prog.info? 74).map (fun i => (i.zero, i.size, i.bytes)) = some (some (.agg (Array.replicate 256 (.int .u8 0))), 256, 256) := infoS3

/-- A sector's next version goes into the map: the value's row has grown, and the map has it. -/
theorem Lay.append {w : World} {B b bd bm : Nat} {S : St} {f : Nat → Option Value} {own : Nat → Prop} (h : Lay w B b bd bm f S own) {i : Nat} (hi : i < S.n) {x : List Nat} (hx : Sec x) (hroom : (S.ver i).length < 549755813888) (hB : B ≤ w.heap.size) (ty : TypeId) :
    ∃ v' w1 w2, (Builtin.append_ #[63, 63] ty #[(f i).getD (.slice none 0 0), .slice (some ⟨w.heap.size, 0, none⟩) 1 1]).run Try.prog (w.alloc (.cells (u8s x).toArray 74)) = .ok v' w1 ∧
      (Instr.mapUpdate 64 (.map (some bm)) (.int .i64 (i : Nat)) v').run Try.prog w1 = .ok () w2 ∧
      (∃ f' own', Lay w2 B b bd bm f' (S.add i x) own' ∧ Turn w w2 own own') ∧ ∀ k, k < w.heap.size → (¬ own k ∨ k = b) → w1.heap[k]? = w.heap[k]? := by
  obtain ⟨i0, hi0, hz0, hz1, hz2⟩ := info_parts infoS2
  have htop := h.ok.top
  have h1 := h.alloc (.cells (u8s x).toArray 74)
  obtain ⟨ho, hob⟩ := h1.at_ i
  have hnew := Blk.new w 74 (u8s x).toArray
  have hrd : Reads (w.alloc (.cells (u8s x).toArray 74)) (w.heap.size + 1) 256 (some ⟨w.heap.size, 0, none⟩) 1 (u8s x) := by
    refine ⟨by rw [u8s_length, hx.1], fun _ => ⟨_, rfl, by simp, fun j u hu => ?_⟩⟩
    have e1 : (⟨w.heap.size, 0, none⟩ : Addr).add j = ⟨w.heap.size, j, none⟩ := by unfold Addr.add; split <;> simp_all
    rw [e1, hnew.cell]
    simpa using hu
  obtain ⟨v', w1, hr1, ho1, hg1⟩ := run_append_own_full (P := Try.prog) (w.alloc (.cells (u8s x).toArray 74)) 0 63 ty 74 i0 _ 256 256 Try.underlying63 hi0 hz0 hz1 hz2 (by simp [Value.cells]) (by omega)
    _ _ _ ho (w.heap.size + 1) (some ⟨w.heap.size, 0, none⟩) 1 1 (u8s x) hrd (u8s_one x) (by unfold maxLen; omega) (by omega) (Nat.zero_le _)
  have hbm1 : w1.heap[bm]? = (w.alloc (.cells (u8s x).toArray 74)).heap[bm]? := hg1.1.block bm (h1.lt bm h1.ownM) (fun e => (hob bm e.symm).2.2.2 rfl)
  obtain ⟨w2, hr2, hm2, hg2⟩ := (h1.map.of_block hbm1).store (t := 64) (E := 63) Try.underlying3 Try.underlying64 i hi (by omega) (by unfold maxLen; omega) v'
  obtain ⟨own', hl2, ht2⟩ := h1.add hi hx hg1 ho1 hg2 hm2 (by simp; omega)
  refine ⟨v', w1, w2, hr1, hr2, ⟨_, own', hl2, (Turn.none_ (World.grownBy_alloc w _ none)).trans ht2⟩, fun k hk hno => ?_⟩
  refine (hg1.1.block k (by simp; omega) (fun e => ?_)).trans (Below.heap_alloc w _ k hk)
  obtain ⟨q1, q2, _⟩ := hob k e.symm
  rcases hno with h5 | h5
  · exact h5 q1
  · exact q2 h5

/-- A slice of one sector is laid. -/
theorem build_one {x : List Nat} (hx : Sec x) (w : World) :
    (Instr.buildSlice 63 1 #[(0, .agg (u8s x).toArray)]).run Try.prog w = .ok (.slice (some ⟨w.heap.size, 0, none⟩) 1 1) (w.alloc (.cells (u8s x).toArray 74)) := by
  obtain ⟨i0, hi0, hz0, hz1, _⟩ := info_parts infoS2
  refine run_buildSlice w 63 74 1 _ _ i0 _ Try.underlying63 hi0 hz0 (by rw [hz1]; decide) (by rw [hz1]; decide) ?_
  rw [hz1]
  have hl : (u8s x).length = 256 := by rw [u8s_length, hx.1]
  have hf := Great.fill_whole (s := 256) (by omega) [.agg (u8s x).toArray] ((Array.range (1 * 256)).map fun q => (Value.agg (Array.replicate 256 (.int .u8 0))).cells[q % (Value.agg (Array.replicate 256 (.int .u8 0))).cells.size]!) (by simp [Value.cells, hl]) (by simp)
  have e : ([Value.agg (u8s x).toArray].flatMap fun v => v.cells.toList).toArray = (u8s x).toArray := by simp [Value.cells]
  rw [e] at hf
  exact hf
theorem step_build {P : Program} {ops : Array Oper} {op : Oper} {a : Act} {w w' : World} {K : Act → World → Prop} {Q : Exit → Act → World → Prop} {E : Prop} (hgd : op.guard = none) (t : TypeId) (x : Operand)
    (ho : op.op = .buildSlice t 1 #[(0, x)]) (u v : Value) (hv : a.eval x = u) (hr : (Instr.buildSlice t 1 #[(0, u)]).run P w = .ok v w') (h : K (a.put op.dst v) w') :
    if Region.wanted op (yielded ops a.tmps) = true then Oper.wp P op a w K Q else E := by
  have hw : Region.wanted op (yielded ops a.tmps) = true := by simp [Region.wanted, hgd]
  rw [if_pos hw]
  unfold Oper.wp
  simp [execOp, ho, hv, hr, Result.andThen]
  exact h
theorem step_append {P : Program} {ops : Array Oper} {o : Oper} {a : Act} {w w' : World} {K : Act → World → Prop} {Q : Exit → Act → World → Prop} {E : Prop} (hgd : o.guard = none) (s x : Operand) (t : TypeId)
    (ho : o.op = .call { callee := .builtin .append, args := #[s, x], argTypes := #[t, t] }) (u u' v : Value) (hs : a.eval s = u) (hx : a.eval x = u') (hrun : (Builtin.append_ #[t, t] o.type #[u, u']).run P w = .ok v w') (h : K (a.put o.dst v) w') :
    if Region.wanted o (yielded ops a.tmps) = true then Oper.wp P o a w K Q else E := by
  have hw : Region.wanted o (yielded ops a.tmps) = true := by simp [Region.wanted, hgd]
  rw [if_pos hw]
  unfold Oper.wp execOp
  simp only [ho, resolve, invoke, builtin, Sem.run_bind, Sem.run_pure, Result.andThen_ok, List.map_toArray, List.map_cons, List.map_nil, hs, hx, hrun]
  exact h
theorem step_look {P : Program} {ops : Array Oper} {o : Oper} {a : Act} {w w' : World} {K : Act → World → Prop} {Q : Exit → Act → World → Prop} {E : Prop} (hgd : o.guard = none) (m x : Operand) (t : TypeId)
    (ho : o.op = .lookup t m x false) (u u' v : Value) (hs : a.eval m = u) (hx : a.eval x = u') (hrun : (Instr.lookup t u u' false).run P w = .ok v w') (h : K (a.put o.dst v) w') :
    if Region.wanted o (yielded ops a.tmps) = true then Oper.wp P o a w K Q else E := by
  have hw : Region.wanted o (yielded ops a.tmps) = true := by simp [Region.wanted, hgd]
  rw [if_pos hw]
  unfold Oper.wp
  simp [execOp, ho, hs, hx, hrun, Result.andThen]
  exact h
theorem step_update {P : Program} {ops : Array Oper} {o : Oper} {a : Act} {w w' : World} {K : Act → World → Prop} {Q : Exit → Act → World → Prop} {E : Prop} (hgd : o.guard = none) (m x y : Operand) (t : TypeId)
    (ho : o.op = .mapUpdate t m x y) (u u' u'' : Value) (hs : a.eval m = u) (hx : a.eval x = u') (hy : a.eval y = u'') (hrun : (Instr.mapUpdate t u u' u'').run P w = .ok () w') (h : K (a.put o.dst undef) w') :
    if Region.wanted o (yielded ops a.tmps) = true then Oper.wp P o a w K Q else E := by
  have hw : Region.wanted o (yielded ops a.tmps) = true := by simp [Region.wanted, hgd]
  rw [if_pos hw]
  unfold Oper.wp
  simp [execOp, ho, hs, hx, hy, hrun, Result.andThen]
  exact h
theorem puts_ver {S : St} (fua : Bool) (a : Nat) (l : List Nat) : ∀ j k, a + j ≤ k → (S.puts fua a l j).ver k = S.ver k
  | 0, _, _ => rfl
  | j + 1, k, h => by
    have ih := puts_ver (S := S) fua a l j k (by omega)
    rw [St.puts, ← ih]
    unfold St.put
    split
    · have hne : k ≠ a + j := by omega
      show upd (upd (S.puts fua a l j).ver (a + j) _) (a + j) [] k = _
      rw [upd_ne _ _ hne, upd_ne _ _ hne]
    · have hne : k ≠ a + j := by omega
      show upd (S.puts fua a l j).ver (a + j) _ k = _
      rw [upd_ne _ _ hne]
end Go.Proofs.Ytagikgejhckfbaa.Dsk
