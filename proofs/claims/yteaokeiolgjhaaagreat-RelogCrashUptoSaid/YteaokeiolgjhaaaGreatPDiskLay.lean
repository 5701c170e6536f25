/- Texts of this seat's proofs: DiskLay, DiskSmall, DiskFail. -/
import Derived.Test.YteaokeiolgjhaaaGreatMem
import Derived.Test.YteaokeiolgjhaaaGreatWords
import Derived.Test.YteaokeiolgjhaaaGreatPBytes
import Derived.Test.YteaokeiolgjhaaaGreatOwn
import Derived.Test.YteaokeiolgjhaaaGreatMapIs
import Derived.Test.YteaokeiolgjhaaaGreatPCrcMath
import Derived.Deep.MidRow
import Derived.WalkKit
import Derived.LoopTactic
import Derived.Lib.Hide
import Derived.ProofKit
/- How a disk of the program's lies in memory; what each small step leaves of it. -/
namespace Go.Proofs.YteaokeiolgjhaaaGreat.Dsk
open Go.RowKit Mem Crc DiskSpec

/-! ### Footprints -/
/-- From w to w' no block has turned that was there, but blocks of own; what is new in own' was not there. -/
structure Turn (w w' : World) (own own' : Nat → Prop) : Prop where
  os : w'.os = w.os
  tape : w'.tape = w.tape
  output : w'.output = w.output
  size : w.heap.size ≤ w'.heap.size
  block : ∀ i, i < w.heap.size → ¬ own i → w'.heap[i]? = w.heap[i]?
  fresh : ∀ i, own' i → own i ∨ w.heap.size ≤ i

section
variable {w w1 w2 w' : World} {own own1 own2 own' : Nat → Prop} {B b bd bm : Nat} {S : St} {f : Nat → Option Value}
theorem Turn.refl (w : World) (own : Nat → Prop) : Turn w w own own := ⟨rfl, rfl, rfl, Nat.le_refl _, fun _ _ _ => rfl, fun _ h => .inl h⟩
theorem Turn.trans (h : Turn w w1 own own1) (k : Turn w1 w2 own1 own2) : Turn w w2 own own2 :=
  ⟨k.os.trans h.os, k.tape.trans h.tape, k.output.trans h.output, Nat.le_trans h.size k.size,
    fun i hi hn => (k.block i (Nat.lt_of_lt_of_le hi h.size) (fun h1 => by rcases h.fresh i h1 with h2 | h2; exact hn h2; omega)).trans (h.block i hi hn),
    fun i hi => by rcases k.fresh i hi with h1 | h1; exact h.fresh i h1; exact .inr (Nat.le_trans h.size h1)⟩
theorem Turn.of_grown {row : Option Nat} (h : w.grownBy w' row) (hr : ∀ j, row = some j → own j) : Turn w w' own own :=
  ⟨h.os, h.tape, h.output, h.size, fun i hi hn => h.block i hi (fun e => hn (hr i e.symm)), fun _ h => .inl h⟩
theorem Turn.none_ (h : w.grownBy w' none) : Turn w w' own own := .of_grown h (fun _ h => by cases h)
theorem Turn.alloc (h : Turn w w1 own own1) (o : Obj) : Turn w (w1.alloc o) own own1 := h.trans (.none_ (World.grownBy_alloc w1 o none))
theorem Turn.drew (h : Turn w w1 own own1) : Turn w w1.drew own own1 := h.trans (.none_ (grown_drew w1 none))
theorem Turn.below (h : Turn w w' own own') (hb : ∀ i, own i → B ≤ i) (hB : B ≤ w.heap.size) : Below B w w' :=
  ⟨h.os, h.tape, h.output, h.size, fun i hi => h.block i (by omega) (fun h1 => by have := hb i h1; omega)⟩

/-! ### Many cells at once -/
theorem heap_setCells (b : Nat) : ∀ (vs : List Value) (o : Nat) (w : World) (k : Nat), k ≠ b → (w.setCells b o vs).heap[k]? = w.heap[k]?
  | [], _, _, _, _ => rfl
  | v :: r, o, w, k, hk => by
    rw [World.setCells, heap_setCells b r (o + 1) _ k hk]
    exact Below.heap_setCell w _ v k hk
theorem grown_setCells (b : Nat) : ∀ (vs : List Value) (o : Nat) (w : World), w.grownBy (w.setCells b o vs) (some b)
  | [], _, w => World.grownBy.refl w _
  | v :: r, o, w => by
    have h1 : w.grownBy (w.setCell ⟨b, o, none⟩ v) (some b) := Lib.grownBy_setB (World.grownBy.refl w _) o v
    have h2 := grown_setCells b r (o + 1) (w.setCell ⟨b, o, none⟩ v)
    exact ⟨h2.os.trans h1.os, h2.tape.trans h1.tape, h2.output.trans h1.output, Nat.le_trans h1.size h2.size,
      fun i hi hn => (h2.block i (Nat.lt_of_lt_of_le hi h1.size) hn).trans (h1.block i hi hn)⟩
theorem rangeAt_of_block {o : Nat} {cs : List Value} (h : w.rangeAt b o cs) (e : w'.heap[b]? = w.heap[b]?) : w'.rangeAt b o cs := fun j v hv => by
  rw [World.cell?_of_block (a := ⟨b, o + j, none⟩) e]; exact h j v hv
theorem there_of_block {o n : Nat} (h : w.there b o n) (e : w'.heap[b]? = w.heap[b]?) : w'.there b o n := fun j hj => by
  rw [World.cell?_of_block (a := ⟨b, o + j, none⟩) e, World.frozen?_of_block (a := ⟨b, o + j, none⟩) e]; exact h j hj
theorem blk_of_block {t : TypeId} {cs : Array Value} (h : Blk w b t cs) (e : w'.heap[b]? = w.heap[b]?) : Blk w' b t cs := e.trans h
theorem own_of_block {base n size : Nat} {e : TypeId} {v : Value} {xs : List Value} (h : Own w base e size v n xs) (hk : ∀ g, v.ownBlock = some g → w'.heap[g]? = w.heap[g]?) : Own w' base e size v n xs := by
  rcases h with h | ⟨g, cur, fz, rfl, hb, hh, rest⟩
  · refine .inl ⟨h.1, ?_⟩
    rcases h.2 with hn | ⟨g, cap, cur, rfl, hb, hh, rest⟩
    · exact .inl hn
    · exact .inr ⟨g, cap, cur, rfl, hb, (hk g rfl).trans hh, rest⟩
  · exact .inr ⟨g, cur, fz, rfl, hb, (hk g rfl).trans hh, rest⟩

/-! ### The disk -/
/-- Sectors as cells. -/
def flat (l : List (List Nat)) : List Value := u8s l.flatten

/-- The versions: at each dirty sector a row of the disk's own; no two of them in one row. -/
structure Rows (w : World) (b bd bm : Nat) (f : Nat → Option Value) (S : St) (own : Nat → Prop) : Prop where
  none_ : ∀ k, S.ver k = [] → f k = none
  some_ : ∀ k, S.ver k ≠ [] → ∃ v g, f k = some v ∧ Own w 0 119 256 v (S.ver k).length (flat (S.ver k)) ∧ v.ownBlock = some g ∧ own g ∧ g ≠ b ∧ g ≠ bd ∧ g ≠ bm
  apart : ∀ k j v u, f k = some v → f j = some u → k ≠ j → v.ownBlock ≠ u.ownBlock

/-- Block b is a disk that is as S says: durable bytes in block bd, versions by the map in block bm; all of it in blocks of own, none of them below B. -/
structure Lay (w : World) (B b bd bm : Nat) (f : Nat → Option Value) (S : St) (own : Nat → Prop) : Prop where
  ok : S.ok
  blk : Blk w b 92 #[.slice (some ⟨bd, 0, none⟩) S.n S.n, .map (some bm), .int .i64 0, .int .i64 (S.f1 : Nat), .int .i64 (S.f2 : Nat), .int .i64 (S.f3 : Nat), .int .i64 S.left]
  dur : ∀ i, i < S.n → w.rangeAt bd (256 * i) (u8s (S.dur i))
  room : w.there bd 0 (256 * S.n)
  map : MapIs Tryz.prog 3 w bm S.n f
  rows : Rows w b bd bm f S own
  ownB : own b
  ownD : own bd
  ownM : own bm
  bd_ : b ≠ bd
  bm_ : b ≠ bm
  dm_ : bd ≠ bm
  low : ∀ i, own i → B ≤ i
  lt : ∀ i, own i → i < w.heap.size

theorem Lay.keep (h : Lay w B b bd bm f S own) (hs : w.heap.size ≤ w'.heap.size) (hk : ∀ i, own i → w'.heap[i]? = w.heap[i]?) : Lay w' B b bd bm f S own :=
  { h with
    blk := blk_of_block h.blk (hk b h.ownB)
    dur := fun i hi => rangeAt_of_block (h.dur i hi) (hk bd h.ownD)
    room := there_of_block h.room (hk bd h.ownD)
    map := h.map.of_block (hk bm h.ownM)
    rows := ⟨h.rows.none_, fun k hv => (by
      obtain ⟨v, g, h1, h2, h3, h4, h5⟩ := h.rows.some_ k hv
      exact ⟨v, g, h1, own_of_block h2 (fun g' hg' => by rw [h3] at hg'; cases hg'; exact hk g h4), h3, h4, h5⟩), h.rows.apart⟩
    lt := fun i hi => Nat.lt_of_lt_of_le (h.lt i hi) hs }
theorem Lay.grown {row : Option Nat} (h : Lay w B b bd bm f S own) (hg : w.grownBy w' row) (hr : ∀ j, row = some j → ¬ own j) : Lay w' B b bd bm f S own :=
  h.keep hg.size (fun i hi => hg.block i (h.lt i hi) (fun e => hr i e.symm hi))
theorem Lay.alloc (h : Lay w B b bd bm f S own) (o : Obj) : Lay (w.alloc o) B b bd bm f S own := h.grown (World.grownBy_alloc w o none) (fun _ h => by cases h)
theorem Lay.drew (h : Lay w B b bd bm f S own) : Lay w.drew B b bd bm f S own := h.keep (Nat.le_refl _) (fun _ _ => rfl)
theorem Lay.far (h : Lay w B b bd bm f S own) {p : Addr} (hp : ¬ own p.block) (u : Value) : Lay (w.setCell p u) B b bd bm f S own :=
  h.keep (by simp) (fun i hi => Below.heap_setCell w p u i (fun e => hp (e ▸ hi)))
/-- Rows that are told of the same versions. -/
theorem Rows.same {T : St} (h : Rows w b bd bm f S own) (e : T.ver = S.ver) : Rows w b bd bm f T own := by
  refine ⟨fun k hk => h.none_ k (by rw [← e]; exact hk), fun k hk => ?_, h.apart⟩
  rw [e] at hk ⊢
  exact h.some_ k hk
theorem Rows.keep (h : Rows w b bd bm f S own) (hk : ∀ i, own i → i ≠ b → i ≠ bd → i ≠ bm → w'.heap[i]? = w.heap[i]?) : Rows w' b bd bm f S own :=
  ⟨h.none_, fun k hv => (by
      obtain ⟨v, g, h1, h2, h3, h4, h5, h6, h7⟩ := h.some_ k hv
      exact ⟨v, g, h1, own_of_block h2 (fun g' hg' => by rw [h3] at hg'; cases hg'; exact hk g h4 h5 h6 h7), h3, h4, h5, h6, h7⟩), h.apart⟩
/-- One of the numbers in the disk's own block is written. -/
theorem Lay.field (h : Lay w B b bd bm f S own) (j : Nat) (u : Value) {T : St} (hT : T.ok) (hn : T.n = S.n) (hd : T.dur = S.dur) (hv : T.ver = S.ver)
    (hc : (#[.slice (some ⟨bd, 0, none⟩) S.n S.n, .map (some bm), .int .i64 0, .int .i64 (S.f1 : Nat), .int .i64 (S.f2 : Nat), .int .i64 (S.f3 : Nat), .int .i64 S.left] : Array Value).setIfInBounds j u =
      #[.slice (some ⟨bd, 0, none⟩) T.n T.n, .map (some bm), .int .i64 0, .int .i64 (T.f1 : Nat), .int .i64 (T.f2 : Nat), .int .i64 (T.f3 : Nat), .int .i64 T.left]) :
    Lay (w.setCell ⟨b, j, none⟩ u) B b bd bm f T own where
  ok := hT
  blk := by rw [← hc]; exact h.blk.set_ j u
  dur i hi := by rw [hd]; exact rangeAt_of_block (h.dur i (by omega)) (Below.heap_setCell w _ u bd (fun e => h.bd_ e.symm))
  room := by rw [hn]; exact there_of_block h.room (Below.heap_setCell w _ u bd (fun e => h.bd_ e.symm))
  map := by rw [hn]; exact h.map.of_block (Below.heap_setCell w _ u bm (fun e => h.bm_ e.symm))
  rows := (h.rows.keep (fun i _ hb _ _ => Below.heap_setCell w _ u i hb)).same hv
  ownB := h.ownB
  ownD := h.ownD
  ownM := h.ownM
  bd_ := h.bd_
  bm_ := h.bm_
  dm_ := h.dm_
  low := h.low
  lt i hi := by simpa using h.lt i hi
/-- A sector's durable bytes are written. -/
theorem Lay.setDur (h : Lay w B b bd bm f S own) {i : Nat} (hi : i < S.n) {x : List Nat} (hx : Sec x) : Lay (w.setCells bd (256 * i) (u8s x)) B b bd bm f { S with dur := upd S.dur i x } own where
  ok := { h.ok with dur := fun j => by show Sec (upd S.dur i x j); unfold upd; split; exact hx; exact h.ok.dur j }
  blk := blk_of_block h.blk (heap_setCells bd _ _ w b h.bd_)
  dur j hj := by
    have hj' : j < S.n := hj
    show (w.setCells bd (256 * i) (u8s x)).rangeAt bd (256 * j) (u8s (upd S.dur i x j))
    by_cases e : j = i
    · subst e
      rw [upd_same]
      refine World.rangeAt_setCells_same w bd (256 * j) (u8s x) (fun k hk => ?_)
      rw [u8s_length, hx.1] at hk
      have := h.room (256 * j + k) (by omega)
      simpa using this
    · rw [upd_ne _ _ e]
      refine World.rangeAt_setCells_apart (h.dur j hj') bd (256 * i) (u8s x) ?_
      rw [u8s_length, u8s_length, hx.1, (h.ok.dur j).1]
      omega
  room := World.there_setCells h.room bd _ _
  map := h.map.of_block (heap_setCells bd _ _ w bm (fun e => h.dm_ e.symm))
  rows := (h.rows.keep (fun k _ _ hd _ => heap_setCells bd _ _ w k hd)).same rfl
  ownB := h.ownB
  ownD := h.ownD
  ownM := h.ownM
  bd_ := h.bd_
  bm_ := h.bm_
  dm_ := h.dm_
  low := h.low
  lt k hk := Nat.lt_of_lt_of_le (h.lt k hk) (grown_setCells bd _ _ w).size
/-- A sector's versions are taken out of the map. -/
theorem Lay.drop (h : Lay w B b bd bm f S own) (i : Nat) (hg : w.grownBy w' (some bm)) (hm : MapIs Tryz.prog 3 w' bm S.n (fun j => if j = i then none else f j)) :
    Lay w' B b bd bm (fun j => if j = i then none else f j) { S with ver := upd S.ver i [] } own where
  ok := { h.ok with
    ver := fun j v hv => by
      have hv' : v ∈ upd S.ver i [] j := hv
      unfold upd at hv'; split at hv'
      · cases hv'
      · exact h.ok.ver j v hv'
    out := fun j hj => by
      show upd S.ver i [] j = []
      unfold upd; split
      · rfl
      · exact h.ok.out j hj }
  blk := blk_of_block h.blk (hg.block b (h.lt b h.ownB) (by simpa using h.bm_))
  dur j hj := rangeAt_of_block (h.dur j hj) (hg.block bd (h.lt bd h.ownD) (by simpa using h.dm_))
  room := there_of_block h.room (hg.block bd (h.lt bd h.ownD) (by simpa using h.dm_))
  map := hm
  rows := by
    refine ⟨fun k hk => ?_, fun k hk => ?_, fun k j v u hv hu hne => ?_⟩
    · have hk' : upd S.ver i [] k = [] := hk
      by_cases e : k = i
      · simp [e]
      · rw [upd_ne _ _ e] at hk'
        simp [e, h.rows.none_ k hk']
    · have hk' : upd S.ver i [] k ≠ [] := hk
      by_cases e : k = i
      · exact absurd (by rw [e, upd_same]) hk'
      · rw [upd_ne _ _ e] at hk'
        obtain ⟨v, g, h1, h2, h3, h4, h5, h6, h7⟩ := h.rows.some_ k hk'
        have eg : w'.heap[g]? = w.heap[g]? := hg.block g (h.lt g h4) (by simpa using h7)
        have e1 : (upd S.ver i [] k) = S.ver k := upd_ne _ _ e
        refine ⟨v, g, by simp [e, h1], ?_, h3, h4, h5, h6, h7⟩
        show Own w' 0 _ 256 v (upd S.ver i [] k).length (flat (upd S.ver i [] k))
        rw [e1]
        exact own_of_block h2 (fun g' hg' => by rw [h3] at hg'; cases hg'; exact eg)
    · by_cases e : k = i
      · simp [e] at hv
      · by_cases e' : j = i
        · simp [e'] at hu
        · simp [e] at hv
          simp [e'] at hu
          exact h.rows.apart k j v u hv hu hne
  ownB := h.ownB
  ownD := h.ownD
  ownM := h.ownM
  bd_ := h.bd_
  bm_ := h.bm_
  dm_ := h.dm_
  low := h.low
  lt k hk := Nat.lt_of_lt_of_le (h.lt k hk) hg.size
/-- The map is cleared. -/
theorem Lay.clear (h : Lay w B b bd bm f S own) (hg : w.grownBy w' (some bm)) (hm : MapIs Tryz.prog 3 w' bm S.n (fun _ => none)) :
    Lay w' B b bd bm (fun _ => none) { S with ver := fun _ => [] } own where
  ok := { h.ok with ver := fun _ _ hv => (by cases hv), out := fun _ _ => rfl }
  blk := blk_of_block h.blk (hg.block b (h.lt b h.ownB) (by simpa using h.bm_))
  dur j hj := rangeAt_of_block (h.dur j hj) (hg.block bd (h.lt bd h.ownD) (by simpa using h.dm_))
  room := there_of_block h.room (hg.block bd (h.lt bd h.ownD) (by simpa using h.dm_))
  map := hm
  rows := ⟨fun _ _ => rfl, fun _ hk => absurd rfl hk, fun _ _ _ _ hv => by cases hv⟩
  ownB := h.ownB
  ownD := h.ownD
  ownM := h.ownM
  bd_ := h.bd_
  bm_ := h.bm_
  dm_ := h.dm_
  low := h.low
  lt k hk := Nat.lt_of_lt_of_le (h.lt k hk) hg.size
/-- What a sector's value in the map owns: nil and nothing, or its row. -/
theorem Lay.at_ (h : Lay w B b bd bm f S own) (k : Nat) : Own w 0 119 256 ((f k).getD (.slice none 0 0)) (S.ver k).length (flat (S.ver k)) ∧
    ∀ g, ((f k).getD (.slice none 0 0)).ownBlock = some g → own g ∧ g ≠ b ∧ g ≠ bd ∧ g ≠ bm := by
  by_cases hv : S.ver k = []
  · rw [h.rows.none_ k hv, hv]
    exact ⟨Own.nil _ _ _ _, fun g hg => by simp [Value.ownBlock] at hg⟩
  · obtain ⟨v, g, h1, h2, h3, h4⟩ := h.rows.some_ k hv
    rw [h1]
    refine ⟨h2, fun g' hg' => ?_⟩
    have e : v.ownBlock = some g' := hg'
    rw [h3] at e; cases e; exact h4
/-- A sector has one version more: its value has grown, and stands in the map anew. -/
theorem Lay.add (h : Lay w B b bd bm f S own) {i : Nat} (hi : i < S.n) {x : List Nat} (hx : Sec x) {v' : Value} (hgr : Grew w w1 ((f i).getD (.slice none 0 0)) v')
    (hown : Own w1 0 119 256 v' ((S.ver i).length + 1) (flat (S.ver i) ++ u8s x)) (hg : w1.grownBy w' (some bm)) (hm : MapIs Tryz.prog 3 w' bm S.n (fun j => if j = i then some v' else f j)) (hB : B ≤ w.heap.size) :
    ∃ own', Lay w' B b bd bm (fun j => if j = i then some v' else f j) (S.add i x) own' ∧ Turn w w' own own' := by
  obtain ⟨g, hg1⟩ : ∃ g, v'.ownBlock = some g := by
    obtain ⟨g, c, rfl, _⟩ := hown.reads (by omega)
    exact ⟨g, rfl⟩
  have hold := (h.at_ i).2
  have hgl : own g ∧ g ≠ b ∧ g ≠ bd ∧ g ≠ bm ∨ w.heap.size ≤ g := (hgr.2 g hg1).imp (fun e => hold g e) id
  have hglt : g < w1.heap.size := (hown.base_ g hg1).2
  have lb := h.lt b h.ownB
  have ld := h.lt bd h.ownD
  have lm := h.lt bm h.ownM
  have hgb : g ≠ b := by rcases hgl with h1 | h1; exact h1.2.1; omega
  have hgd : g ≠ bd := by rcases hgl with h1 | h1; exact h1.2.2.1; omega
  have hgm : g ≠ bm := by rcases hgl with h1 | h1; exact h1.2.2.2; omega
  have hnold : ∀ k, (k = b ∨ k = bd ∨ k = bm) → some k ≠ ((f i).getD (.slice none 0 0)).ownBlock := fun k hk e => by
    obtain ⟨_, h1, h2, h3⟩ := hold k e.symm
    rcases hk with rfl | rfl | rfl
    · exact h1 rfl
    · exact h2 rfl
    · exact h3 rfl
  have kb : w'.heap[b]? = w.heap[b]? := (hg.block b (Nat.lt_of_lt_of_le lb hgr.1.size) (by simpa using h.bm_)).trans (hgr.1.block b lb (hnold b (.inl rfl)))
  have kd : w'.heap[bd]? = w.heap[bd]? := (hg.block bd (Nat.lt_of_lt_of_le ld hgr.1.size) (by simpa using h.dm_)).trans (hgr.1.block bd ld (hnold bd (.inr (.inl rfl))))
  -- the other sectors' rows
  have other : ∀ k v, k ≠ i → f k = some v → ∀ g', v.ownBlock = some g' → g' ≠ g ∧ (own g' → g' ≠ bm → w'.heap[g']? = w.heap[g']?) := by
    intro k v hki hv g' hg'
    have hk : S.ver k ≠ [] := fun e => by rw [h.rows.none_ k e] at hv; cases hv
    obtain ⟨v2, g2, h1, _, h3, h4, _⟩ := h.rows.some_ k hk
    rw [hv] at h1; cases h1
    rw [hg'] at h3; cases h3
    have hlt := h.lt g' h4
    have hne : ((f i).getD (.slice none 0 0)).ownBlock ≠ some g' := by
      cases hf : f i with
      | none => simp [Value.ownBlock]
      | some u =>
        have := h.rows.apart k i v u hv hf hki
        rw [hg'] at this
        exact fun e => this e.symm
    refine ⟨fun e => ?_, fun _ hm' => ?_⟩
    · subst e
      rcases hgr.2 g' hg1 with h5 | h5
      · exact hne h5
      · omega
    · exact (hg.block g' (Nat.lt_of_lt_of_le hlt hgr.1.size) (by simpa using hm')).trans (hgr.1.block g' hlt (fun e => hne e.symm))
  refine ⟨fun j => own j ∨ j = g, ?_, ?_⟩
  · exact {
      ok := h.ok.add hi hx
      blk := blk_of_block h.blk kb
      dur := fun j hj => rangeAt_of_block (h.dur j hj) kd
      room := there_of_block h.room kd
      map := hm
      rows := by
        refine ⟨fun k hk => ?_, fun k hk => ?_, fun k j v u hv hu hne => ?_⟩
        · have hk' : upd S.ver i (S.ver i ++ [x]) k = [] := hk
          by_cases e : k = i
          · rw [e, upd_same] at hk'; simp at hk'
          · rw [upd_ne _ _ e] at hk'
            simp [e, h.rows.none_ k hk']
        · have hk' : upd S.ver i (S.ver i ++ [x]) k ≠ [] := hk
          show ∃ v g', _ ∧ Own w' 0 _ 256 v (upd S.ver i (S.ver i ++ [x]) k).length (flat (upd S.ver i (S.ver i ++ [x]) k)) ∧ _
          by_cases e : k = i
          · subst e
            rw [upd_same]
            refine ⟨v', g, by simp, ?_, hg1, .inr rfl, hgb, hgd, hgm⟩
            have e1 : flat (S.ver k ++ [x]) = flat (S.ver k) ++ u8s x := by simp [flat, u8s_append]
            rw [e1, List.length_append, List.length_singleton]
            exact own_of_block hown (fun g' hg' => by rw [hg1] at hg'; cases hg'; exact hg.block g hglt (by simpa using hgm))
          · rw [upd_ne _ _ e] at hk' ⊢
            obtain ⟨v, g2, h1, h2, h3, h4, h5, h6, h7⟩ := h.rows.some_ k hk'
            refine ⟨v, g2, by simp [e, h1], ?_, h3, .inl h4, h5, h6, h7⟩
            exact own_of_block h2 (fun g' hg' => by rw [h3] at hg'; cases hg'; exact (other k v e h1 g2 h3).2 h4 h7)
        · by_cases e : k = i
          · subst e
            simp at hv
            subst hv
            have hu : f j = some u := by have e' : j ≠ k := fun e' => hne e'.symm; rw [if_neg e'] at hu; exact hu
            rw [hg1]
            intro e2
            exact (other j u (fun e' => hne e'.symm) hu g e2.symm).1 rfl
          · simp [e] at hv
            by_cases e' : j = i
            · subst e'
              simp at hu
              subst hu
              rw [hg1]
              intro e2
              exact (other k v e hv g e2).1 rfl
            · simp [e'] at hu
              exact h.rows.apart k j v u hv hu hne
      ownB := .inl h.ownB
      ownD := .inl h.ownD
      ownM := .inl h.ownM
      bd_ := h.bd_
      bm_ := h.bm_
      dm_ := h.dm_
      low := fun j hj => by
        rcases hj with hj | rfl
        · exact h.low j hj
        · rcases hgl with h1 | h1
          · exact h.low _ h1.1
          · omega
      lt := fun j hj => by
        rcases hj with hj | rfl
        · exact Nat.lt_of_lt_of_le (h.lt j hj) (Nat.le_trans hgr.1.size hg.size)
        · exact Nat.lt_of_lt_of_le hglt hg.size }
  · refine ⟨hg.os.trans hgr.1.os, hg.tape.trans hgr.1.tape, hg.output.trans hgr.1.output, Nat.le_trans hgr.1.size hg.size, fun j hj hn => ?_, fun j hj => ?_⟩
    · refine (hg.block j (Nat.lt_of_lt_of_le hj hgr.1.size) (fun e => ?_)).trans (hgr.1.block j hj (fun e => ?_))
      · cases e; exact hn h.ownM
      · exact hn (hold j e.symm).1
    · rcases hj with hj | rfl
      · exact .inl hj
      · exact hgl.imp (fun h1 => h1.1) id
end
end Go.Proofs.YteaokeiolgjhaaaGreat.Dsk
/- The disk's small calls: Size, has, isDue, stops, countDone, Fail, Cut, remainder. -/
namespace Go.Proofs.YteaokeiolgjhaaaGreat.Dsk
open Go.RowKit Mem Crc DiskSpec

section
variable {w : World} {B b bd bm : Nat} {S : St} {f : Nat → Option Value} {own : Nat → Prop}
theorem Lay.c0 (h : Lay w B b bd bm f S own) : w.cell? ⟨b, 0, none⟩ = some (.slice (some ⟨bd, 0, none⟩) S.n S.n) := by rw [h.blk.cell]; rfl
theorem Lay.c1 (h : Lay w B b bd bm f S own) : w.cell? ⟨b, 1, none⟩ = some (.map (some bm)) := by rw [h.blk.cell]; rfl
theorem Lay.c3 (h : Lay w B b bd bm f S own) : w.cell? ⟨b, 3, none⟩ = some (.int .i64 (S.f1 : Nat)) := by rw [h.blk.cell]; rfl
theorem Lay.c4 (h : Lay w B b bd bm f S own) : w.cell? ⟨b, 4, none⟩ = some (.int .i64 (S.f2 : Nat)) := by rw [h.blk.cell]; rfl
theorem Lay.c5 (h : Lay w B b bd bm f S own) : w.cell? ⟨b, 5, none⟩ = some (.int .i64 (S.f3 : Nat)) := by rw [h.blk.cell]; rfl
theorem Lay.c6 (h : Lay w B b bd bm f S own) : w.cell? ⟨b, 6, none⟩ = some (.int .i64 S.left) := by rw [h.blk.cell]; rfl
theorem Lay.fz (h : Lay w B b bd bm f S own) (j : Nat) : w.frozen? ⟨b, j, none⟩ = false := h.blk.frozen j
end

set_option maxHeartbeats 400000 in
theorem disk_size {w : World} {B b bd bm : Nat} {S : St} {f : Nat → Option Value} {own : Nat → Prop} (h : Lay w B b bd bm f S own) :
    Calls Tryz.prog 42 #[.pointer (some ⟨b, 0, none⟩)] w fun e w' => e = .returned (.int .i64 (S.n : Nat)) ∧ w = w' := by
  have hc := h.c0
  clear h
  generalize S.n = n at *
  go_enter Tryz.func42, Tryz.ntmps42
  go_wp2
  go_ret
  exact ⟨rfl, rfl⟩

set_option maxHeartbeats 800000 in
theorem disk_has {w : World} {B b bd bm : Nat} {S : St} {f : Nat → Option Value} {own : Nat → Prop} (h : Lay w B b bd bm f S own) (at_ count : Int)
    (h1 : -9223372036854775808 ≤ at_ ∧ at_ ≤ 9223372036854775807) (_ : -9223372036854775808 ≤ count ∧ count ≤ 9223372036854775807) :
    Calls Tryz.prog 87 #[.pointer (some ⟨b, 0, none⟩), .int .i64 at_, .int .i64 count] w fun e w' => e = .returned (.bool (S.has at_ count)) ∧ w = w' := by
  have htop := h.ok.top
  have HS := Lib.hid (disk_size h)
  clear h
  have hhas : S.has at_ count = (decide (0 ≤ at_) && (decide (1 ≤ count) && decide (count ≤ S.n - at_))) := rfl
  generalize S.has at_ count = r at *
  generalize S.n = n at *
  by_cases h0 : 0 ≤ at_
  · by_cases h3 : 1 ≤ count
    · have HH := Lib.hid (show r = decide (count ≤ (n : Int) - at_) by simp [hhas, h0, h3]); clear hhas
      have hw : IntKind.i64.wrap ((n : Int) - at_) = (n : Int) - at_ := IntWalk.i64_in _ (by omega)
      go_enter Tryz.func87, Tryz.ntmps87
      go_wp2_with fail
      refine HS.out.mono ?_
      rintro e w' ⟨rfl, rfl⟩
      go_wp2
      go_ret
      exact ⟨by rw [HH.out]; rfl, rfl⟩
    · have HH := Lib.hid (show r = false by simp [hhas, h0, h3]); clear hhas
      go_enter Tryz.func87, Tryz.ntmps87
      go_wp2
      go_ret
      exact ⟨by rw [HH.out]; rfl, rfl⟩
  · have HH := Lib.hid (show r = false by simp [hhas, h0]); clear hhas
    go_enter Tryz.func87, Tryz.ntmps87
    go_wp2
    go_ret
    exact ⟨by rw [HH.out]; rfl, rfl⟩


set_option maxHeartbeats 800000 in
theorem disk_due1 {w : World} {B b bd bm : Nat} {S : St} {f : Nat → Option Value} {own : Nat → Prop} (h : Lay w B b bd bm f S own) :
    Calls Tryz.prog 134 #[.pointer (some ⟨b, 0, none⟩), .int .i64 1] w fun e w' => e = .returned (.bool (decide (S.f1 = 1))) ∧ w.grownBy w' (some b) ∧ Lay w' B b bd bm f { S with f1 := S.f1 - 1 } own := by
  have hc := h.c3
  have hf := h.fz 3
  have hle := h.ok.f1
  by_cases h0 : S.f1 = 0
  · have HE := Lib.hid (show decide (S.f1 = 1) = false by rw [h0]; rfl)
    have HS := Lib.hid (show ({ S with f1 := S.f1 - 1 } : St) = S from St.ext' rfl rfl rfl (by show S.f1 - 1 = S.f1; omega) rfl rfl rfl)
    have H := Lib.hid h; clear h
    rw [HE.out, HS.out]
    rw [h0] at hc
    clear hle h0 HE HS
    go_enter Tryz.func134, Tryz.ntmps134
    go_wp2
    go_ret
    exact ⟨rfl, World.grownBy.refl _ _, H.out⟩
  · have hx : ((S.f1 - 1 : Nat) : Int) = (S.f1 : Int) - 1 := by omega
    have H := Lib.hid (h.field 3 (.int .i64 (S.f1 - 1 : Int)) (T := { S with f1 := S.f1 - 1 }) { h.ok with f1 := by show S.f1 - 1 ≤ _; omega } rfl rfl rfl (by rw [← hx]; rfl))
    clear h
    have HX := Lib.hid (show ((S.f1 : Int) - 1 == 0) = decide (S.f1 = 1) by rw [Bool.eq_iff_iff]; simp; omega)
    clear hx
    generalize ({ S with f1 := S.f1 - 1 } : St) = T at *
    generalize decide (S.f1 = 1) = r at *
    generalize S.f1 = m at *
    have hm : (m : Int) ≠ 0 := by omega
    have hw : IntKind.i64.wrap ((m : Int) - 1) = (m : Int) - 1 := IntWalk.i64_in _ (by omega)
    go_enter Tryz.func134, Tryz.ntmps134
    go_wp2_with fail
    go_region
    go_wp2
    go_ret
    exact ⟨by rw [← HX.out]; rfl, only_drew (Lib.grownBy_setB (World.grownBy.refl _ _) _ _), H.out.drew⟩

set_option maxHeartbeats 800000 in
theorem disk_due2 {w : World} {B b bd bm : Nat} {S : St} {f : Nat → Option Value} {own : Nat → Prop} (h : Lay w B b bd bm f S own) :
    Calls Tryz.prog 134 #[.pointer (some ⟨b, 0, none⟩), .int .i64 2] w fun e w' => e = .returned (.bool (decide (S.f2 = 1))) ∧ w.grownBy w' (some b) ∧ Lay w' B b bd bm f { S with f2 := S.f2 - 1 } own := by
  have hc := h.c4
  have hf := h.fz 4
  have hle := h.ok.f2
  by_cases h0 : S.f2 = 0
  · have HE := Lib.hid (show decide (S.f2 = 1) = false by rw [h0]; rfl)
    have HS := Lib.hid (show ({ S with f2 := S.f2 - 1 } : St) = S from St.ext' rfl rfl rfl rfl (by show S.f2 - 1 = S.f2; omega) rfl rfl)
    have H := Lib.hid h; clear h
    rw [HE.out, HS.out]
    rw [h0] at hc
    clear hle h0 HE HS
    go_enter Tryz.func134, Tryz.ntmps134
    go_wp2
    go_ret
    exact ⟨rfl, World.grownBy.refl _ _, H.out⟩
  · have hx : ((S.f2 - 1 : Nat) : Int) = (S.f2 : Int) - 1 := by omega
    have H := Lib.hid (h.field 4 (.int .i64 (S.f2 - 1 : Int)) (T := { S with f2 := S.f2 - 1 }) { h.ok with f2 := by show S.f2 - 1 ≤ _; omega } rfl rfl rfl (by rw [← hx]; rfl))
    clear h
    have HX := Lib.hid (show ((S.f2 : Int) - 1 == 0) = decide (S.f2 = 1) by rw [Bool.eq_iff_iff]; simp; omega)
    clear hx
    generalize ({ S with f2 := S.f2 - 1 } : St) = T at *
    generalize decide (S.f2 = 1) = r at *
    generalize S.f2 = m at *
    have hm : (m : Int) ≠ 0 := by omega
    have hw : IntKind.i64.wrap ((m : Int) - 1) = (m : Int) - 1 := IntWalk.i64_in _ (by omega)
    go_enter Tryz.func134, Tryz.ntmps134
    go_wp2_with fail
    go_region
    go_wp2
    go_ret
    exact ⟨by rw [← HX.out]; rfl, only_drew (Lib.grownBy_setB (World.grownBy.refl _ _) _ _), H.out.drew⟩

set_option maxHeartbeats 800000 in
theorem disk_due3 {w : World} {B b bd bm : Nat} {S : St} {f : Nat → Option Value} {own : Nat → Prop} (h : Lay w B b bd bm f S own) :
    Calls Tryz.prog 134 #[.pointer (some ⟨b, 0, none⟩), .int .i64 3] w fun e w' => e = .returned (.bool (decide (S.f3 = 1))) ∧ w.grownBy w' (some b) ∧ Lay w' B b bd bm f { S with f3 := S.f3 - 1 } own := by
  have hc := h.c5
  have hf := h.fz 5
  have hle := h.ok.f3
  by_cases h0 : S.f3 = 0
  · have HE := Lib.hid (show decide (S.f3 = 1) = false by rw [h0]; rfl)
    have HS := Lib.hid (show ({ S with f3 := S.f3 - 1 } : St) = S from St.ext' rfl rfl rfl rfl rfl (by show S.f3 - 1 = S.f3; omega) rfl)
    have H := Lib.hid h; clear h
    rw [HE.out, HS.out]
    rw [h0] at hc
    clear hle h0 HE HS
    go_enter Tryz.func134, Tryz.ntmps134
    go_wp2
    go_ret
    exact ⟨rfl, World.grownBy.refl _ _, H.out⟩
  · have hx : ((S.f3 - 1 : Nat) : Int) = (S.f3 : Int) - 1 := by omega
    have H := Lib.hid (h.field 5 (.int .i64 (S.f3 - 1 : Int)) (T := { S with f3 := S.f3 - 1 }) { h.ok with f3 := by show S.f3 - 1 ≤ _; omega } rfl rfl rfl (by rw [← hx]; rfl))
    clear h
    have HX := Lib.hid (show ((S.f3 : Int) - 1 == 0) = decide (S.f3 = 1) by rw [Bool.eq_iff_iff]; simp; omega)
    clear hx
    generalize ({ S with f3 := S.f3 - 1 } : St) = T at *
    generalize decide (S.f3 = 1) = r at *
    generalize S.f3 = m at *
    have hm : (m : Int) ≠ 0 := by omega
    have hw : IntKind.i64.wrap ((m : Int) - 1) = (m : Int) - 1 := IntWalk.i64_in _ (by omega)
    go_enter Tryz.func134, Tryz.ntmps134
    go_wp2_with fail
    go_region
    go_wp2
    go_ret
    exact ⟨by rw [← HX.out]; rfl, only_drew (Lib.grownBy_setB (World.grownBy.refl _ _) _ _), H.out.drew⟩

set_option maxHeartbeats 800000 in
theorem disk_stops2 {w : World} {B b bd bm : Nat} {S : St} {f : Nat → Option Value} {own : Nat → Prop} (h : Lay w B b bd bm f S own) :
    Calls Tryz.prog 88 #[.pointer (some ⟨b, 0, none⟩), .int .i64 2] w fun e w' => e = .returned (.bool (decide (S.f2 = 1) || decide (S.left = 0))) ∧ w.grownBy w' (some b) ∧ Lay w' B b bd bm f { S with f2 := S.f2 - 1 } own := by
  have HD := Lib.hid (disk_due2 h)
  have HL := Lib.hid (show ({ S with f2 := S.f2 - 1 } : St).left = S.left from rfl)
  clear h
  generalize ({ S with f2 := S.f2 - 1 } : St) = T at *
  cases hd : decide (S.f2 = 1) with
  | true =>
    rw [hd] at HD
    clear hd
    go_enter Tryz.func88, Tryz.ntmps88
    go_wp2_with fail
    refine HD.out.mono ?_
    rintro e w1 ⟨rfl, hg, hl⟩
    have HG := Lib.hid hg; have H := Lib.hid hl; clear hg hl
    go_wp2
    go_ret
    exact ⟨rfl, HG.out, H.out⟩
  | false =>
    rw [hd] at HD
    clear hd
    go_enter Tryz.func88, Tryz.ntmps88
    go_wp2_with fail
    refine HD.out.mono ?_
    rintro e w1 ⟨rfl, hg, hl⟩
    have hc := hl.c6
    rw [HL.out] at hc
    have HG := Lib.hid hg; have H := Lib.hid hl; clear hg hl
    obtain ⟨l, hl⟩ : ∃ l, l = S.left := ⟨_, rfl⟩
    rw [← hl] at hc
    have HX := Lib.hid (show (l == 0) = (false || decide (S.left = 0)) by rw [hl, Bool.eq_iff_iff]; simp)
    clear hl HL
    go_wp2
    go_ret
    exact ⟨congrArg (fun x => Ending.returned (.bool x)) HX.out, HG.out, H.out⟩

set_option maxHeartbeats 800000 in
theorem disk_stops3 {w : World} {B b bd bm : Nat} {S : St} {f : Nat → Option Value} {own : Nat → Prop} (h : Lay w B b bd bm f S own) :
    Calls Tryz.prog 88 #[.pointer (some ⟨b, 0, none⟩), .int .i64 3] w fun e w' => e = .returned (.bool (decide (S.f3 = 1) || decide (S.left = 0))) ∧ w.grownBy w' (some b) ∧ Lay w' B b bd bm f { S with f3 := S.f3 - 1 } own := by
  have HD := Lib.hid (disk_due3 h)
  have HL := Lib.hid (show ({ S with f3 := S.f3 - 1 } : St).left = S.left from rfl)
  clear h
  generalize ({ S with f3 := S.f3 - 1 } : St) = T at *
  cases hd : decide (S.f3 = 1) with
  | true =>
    rw [hd] at HD
    clear hd
    go_enter Tryz.func88, Tryz.ntmps88
    go_wp2_with fail
    refine HD.out.mono ?_
    rintro e w1 ⟨rfl, hg, hl⟩
    have HG := Lib.hid hg; have H := Lib.hid hl; clear hg hl
    go_wp2
    go_ret
    exact ⟨rfl, HG.out, H.out⟩
  | false =>
    rw [hd] at HD
    clear hd
    go_enter Tryz.func88, Tryz.ntmps88
    go_wp2_with fail
    refine HD.out.mono ?_
    rintro e w1 ⟨rfl, hg, hl⟩
    have hc := hl.c6
    rw [HL.out] at hc
    have HG := Lib.hid hg; have H := Lib.hid hl; clear hg hl
    obtain ⟨l, hl⟩ : ∃ l, l = S.left := ⟨_, rfl⟩
    rw [← hl] at hc
    have HX := Lib.hid (show (l == 0) = (false || decide (S.left = 0)) by rw [hl, Bool.eq_iff_iff]; simp)
    clear hl HL
    go_wp2
    go_ret
    exact ⟨congrArg (fun x => Ending.returned (.bool x)) HX.out, HG.out, H.out⟩

set_option maxHeartbeats 800000 in
theorem disk_done {w : World} {B b bd bm : Nat} {S : St} {f : Nat → Option Value} {own : Nat → Prop} (h : Lay w B b bd bm f S own) :
    Calls Tryz.prog 90 #[.pointer (some ⟨b, 0, none⟩)] w fun e w' => e = .returned (.tuple #[]) ∧ w.grownBy w' (some b) ∧ Lay w' B b bd bm f S.done own := by
  have hc := h.c6
  have hf := h.fz 6
  have h0 := h.ok.l0
  have h1 := h.ok.l1
  by_cases hp : 0 < S.left
  · have H := Lib.hid (h.field 6 (.int .i64 (S.left - 1 : Int)) (T := S.done) h.ok.done rfl rfl rfl (by
      show _ = #[_, _, _, _, _, _, Value.int .i64 (tick S.left)]
      simp only [tick, hp, if_true]; rfl))
    clear h
    generalize S.done = T at *
    generalize S.left = m at *
    have hw : IntKind.i64.wrap (m - 1) = m - 1 := IntWalk.i64_in _ (by omega)
    go_enter Tryz.func90, Tryz.ntmps90
    go_wp2
    go_end0
    exact ⟨rfl, Lib.grownBy_setB (World.grownBy.refl _ _) _ _, H.out⟩
  · have HS := Lib.hid (show S.done = S from St.ext' rfl rfl rfl rfl rfl rfl (by show tick S.left = S.left; simp [tick, hp]))
    have H := Lib.hid h; clear h
    rw [HS.out]
    clear HS
    generalize S.left = m at *
    have hd : decide (0 < m) = false := by simp; omega
    go_enter Tryz.func90, Tryz.ntmps90
    go_wp2
    go_end0
    exact ⟨rfl, World.grownBy.refl _ _, H.out⟩
end Go.Proofs.YteaokeiolgjhaaaGreat.Dsk
/- What is to fail, a cut, a remainder. -/
namespace Go.Proofs.YteaokeiolgjhaaaGreat.Dsk
open Go.RowKit Mem Crc DiskSpec

def failBad (kind n : Int) : Prop := kind < 1 ∨ 3 < kind ∨ n < 1 ∨ 1099511627776 < n
set_option maxHeartbeats 800000 in
theorem disk_fail_no (p : Value) (kind n : Int) (w : World) (hb : failBad kind n) :
    Calls Tryz.prog 79 #[p, .int .i64 kind, .int .i64 n] w fun e w' => e = .returned (.int .i64 1) ∧ w = w' := by
  by_cases h1 : kind < 1
  · go_enter Tryz.func79, Tryz.ntmps79
    go_wp2
    go_ret
    exact ⟨rfl, rfl⟩
  by_cases h2 : 3 < kind
  · go_enter Tryz.func79, Tryz.ntmps79
    go_wp2
    go_ret
    exact ⟨rfl, rfl⟩
  by_cases h3 : n < 1
  · go_enter Tryz.func79, Tryz.ntmps79
    go_wp2
    go_ret
    exact ⟨rfl, rfl⟩
  · have h4 : 1099511627776 < n := by rcases hb with h | h | h | h <;> omega
    clear hb
    go_enter Tryz.func79, Tryz.ntmps79
    go_wp2
    go_ret
    exact ⟨rfl, rfl⟩

set_option maxHeartbeats 800000 in
theorem disk_fail1 {w : World} {B b bd bm : Nat} {S : St} {f : Nat → Option Value} {own : Nat → Prop} (h : Lay w B b bd bm f S own) (n : Nat) (h1 : 1 ≤ n) (h2 : n ≤ 1099511627776) :
    Calls Tryz.prog 79 #[.pointer (some ⟨b, 0, none⟩), .int .i64 1, .int .i64 (n : Nat)] w fun e w' => e = .returned (.int .i64 0) ∧ w.grownBy w' (some b) ∧ Lay w' B b bd bm f { S with f1 := n } own := by
  have hc := h.c3
  have hf := h.fz 3
  have H := Lib.hid (h.field 3 (.int .i64 (n : Nat)) (T := { S with f1 := n }) { h.ok with f1 := h2 } rfl rfl rfl rfl)
  clear h
  have hd1 : decide ((n : Int) < 1) = false := by simp; omega
  have hd2 : decide (1099511627776 < (n : Int)) = false := by simp; omega
  go_enter Tryz.func79, Tryz.ntmps79
  go_wp2
  go_ret
  exact ⟨rfl, Lib.grownBy_setB (World.grownBy.refl _ _) _ _, H.out⟩

set_option maxHeartbeats 800000 in
theorem disk_fail2 {w : World} {B b bd bm : Nat} {S : St} {f : Nat → Option Value} {own : Nat → Prop} (h : Lay w B b bd bm f S own) (n : Nat) (h1 : 1 ≤ n) (h2 : n ≤ 1099511627776) :
    Calls Tryz.prog 79 #[.pointer (some ⟨b, 0, none⟩), .int .i64 2, .int .i64 (n : Nat)] w fun e w' => e = .returned (.int .i64 0) ∧ w.grownBy w' (some b) ∧ Lay w' B b bd bm f { S with f2 := n } own := by
  have hc := h.c4
  have hf := h.fz 4
  have H := Lib.hid (h.field 4 (.int .i64 (n : Nat)) (T := { S with f2 := n }) { h.ok with f2 := h2 } rfl rfl rfl rfl)
  clear h
  have hd1 : decide ((n : Int) < 1) = false := by simp; omega
  have hd2 : decide (1099511627776 < (n : Int)) = false := by simp; omega
  go_enter Tryz.func79, Tryz.ntmps79
  go_wp2
  go_ret
  exact ⟨rfl, Lib.grownBy_setB (World.grownBy.refl _ _) _ _, H.out⟩

set_option maxHeartbeats 800000 in
theorem disk_fail3 {w : World} {B b bd bm : Nat} {S : St} {f : Nat → Option Value} {own : Nat → Prop} (h : Lay w B b bd bm f S own) (n : Nat) (h1 : 1 ≤ n) (h2 : n ≤ 1099511627776) :
    Calls Tryz.prog 79 #[.pointer (some ⟨b, 0, none⟩), .int .i64 3, .int .i64 (n : Nat)] w fun e w' => e = .returned (.int .i64 0) ∧ w.grownBy w' (some b) ∧ Lay w' B b bd bm f { S with f3 := n } own := by
  have hc := h.c5
  have hf := h.fz 5
  have H := Lib.hid (h.field 5 (.int .i64 (n : Nat)) (T := { S with f3 := n }) { h.ok with f3 := h2 } rfl rfl rfl rfl)
  clear h
  have hd1 : decide ((n : Int) < 1) = false := by simp; omega
  have hd2 : decide (1099511627776 < (n : Int)) = false := by simp; omega
  go_enter Tryz.func79, Tryz.ntmps79
  go_wp2
  go_ret
  exact ⟨rfl, Lib.grownBy_setB (World.grownBy.refl _ _) _ _, H.out⟩

set_option maxHeartbeats 800000 in
theorem disk_cut_no (p : Value) (n : Int) (w : World) (hb : n < 0 ∨ 1099511627776 < n) :
    Calls Tryz.prog 40 #[p, .int .i64 n] w fun e w' => e = .returned (.int .i64 1) ∧ w = w' := by
  by_cases h1 : n < 0
  · clear hb
    go_enter Tryz.func40, Tryz.ntmps40
    go_wp2
    go_ret
    exact ⟨rfl, rfl⟩
  · have h4 : 1099511627776 < n := by rcases hb with h | h <;> omega
    clear hb
    go_enter Tryz.func40, Tryz.ntmps40
    go_wp2
    go_ret
    exact ⟨rfl, rfl⟩
set_option maxHeartbeats 800000 in
theorem disk_cut {w : World} {B b bd bm : Nat} {S : St} {f : Nat → Option Value} {own : Nat → Prop} (h : Lay w B b bd bm f S own) (n : Int) (h1 : 0 ≤ n) (h2 : n ≤ 1099511627776) :
    Calls Tryz.prog 40 #[.pointer (some ⟨b, 0, none⟩), .int .i64 n] w fun e w' => e = .returned (.int .i64 0) ∧ w.grownBy w' (some b) ∧ Lay w' B b bd bm f { S with left := n } own := by
  have hc := h.c6
  have hf := h.fz 6
  have H := Lib.hid (h.field 6 (.int .i64 n) (T := { S with left := n }) { h.ok with l0 := by show -1 ≤ n; omega, l1 := h2 } rfl rfl rfl rfl)
  clear h
  have hd1 : decide (n < 0) = false := by simp; omega
  have hd2 : decide (1099511627776 < n) = false := by simp; omega
  go_enter Tryz.func40, Tryz.ntmps40
  go_wp2
  go_ret
  exact ⟨rfl, Lib.grownBy_setB (World.grownBy.refl _ _) _ _, H.out⟩

theorem tmod_pos {n : Int} {v : Nat} (h : 0 ≤ n) : n.tmod ((v : Int) + 1) = n % ((v : Int) + 1) := Int.tmod_eq_emod_of_nonneg h
set_option maxHeartbeats 800000 in
theorem remainder_any (n : Int) (v : Nat) (w : World) (hv : v < 9223372036854775807) :
    Calls Tryz.prog 62 #[.int .i64 n, .int .i64 ((v : Int) + 1)] w fun e w' => e = .returned (.int .i64 (n % ((v : Int) + 1))) ∧ w = w' := by
  have hp : (0 : Int) < (v : Int) + 1 := by omega
  have he := Int.emod_nonneg n (show ((v : Int) + 1) ≠ 0 by omega)
  have hl := Int.emod_lt_of_pos n hp
  have ht : n.tmod ((v : Int) + 1) = if 0 ≤ n ∨ n % ((v : Int) + 1) = 0 then n % ((v : Int) + 1) else n % ((v : Int) + 1) - ((v : Int) + 1) := by
    rw [Int.tmod_eq_emod]
    split
    · rename_i h
      rw [if_pos (by rcases h with h | h; exact .inl h; exact .inr (Int.emod_eq_zero_of_dvd h))]
      omega
    · rename_i h
      rw [if_neg (fun e => h (by rcases e with e | e; exact .inl e; exact .inr (Int.dvd_of_emod_eq_zero e)))]
      omega
  generalize n % ((v : Int) + 1) = r at *
  generalize hm : n.tmod ((v : Int) + 1) = m at *
  have hw : IntKind.i64.wrap m = m := IntWalk.i64_in _ (by rw [ht]; split <;> omega)
  have hne : ((v : Int) + 1 == 0) = false := by simp; omega
  by_cases hc : 0 ≤ n ∨ r = 0
  · rw [if_pos hc] at ht
    subst ht
    have hd : decide (m < 0) = false := by simp; omega
    clear hc
    go_enter Tryz.func62, Tryz.ntmps62
    go_wp2
    go_ret
    exact ⟨rfl, rfl⟩
  · rw [if_neg hc] at ht
    have hd : m < 0 := by omega
    have hw2 : IntKind.i64.wrap (m + ((v : Int) + 1)) = m + ((v : Int) + 1) := IntWalk.i64_in _ (by omega)
    have HR := Lib.hid (show m + ((v : Int) + 1) = r by omega)
    clear hc ht
    go_enter Tryz.func62, Tryz.ntmps62
    go_wp2
    go_ret
    exact ⟨congrArg (fun x => Ending.returned (.int .i64 x)) HR.out, rfl⟩
end Go.Proofs.YteaokeiolgjhaaaGreat.Dsk
