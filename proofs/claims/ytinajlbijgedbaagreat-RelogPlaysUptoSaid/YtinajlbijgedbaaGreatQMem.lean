/- Texts of this seat's proofs: Mem. -/
import Derived.Below
import Derived.Laws.OwnMore
import Derived.Deep.Draws
import Derived.Laws.Rows
import Derived.OwnWalk
import Derived.Deep.AppendLies
import Derived.Maps.AppendAt
import Derived.Lib.HexFns
import Derived.Lib.HexFns2
import Derived.Lib.BufferOwn
namespace Go.Proofs.YtinajlbijgedbaaGreat
theorem aj3:type_of% @List.setIfInBounds_toArray:=@List.setIfInBounds_toArray
theorem aj4:type_of% @List.getElem_cons_zero:=@List.getElem_cons_zero
theorem aj5:type_of% @List.getElem_cons_succ:=@List.getElem_cons_succ
theorem aj6:type_of% @List.getElem_toArray:=@List.getElem_toArray
theorem aj7:type_of% @List.set_cons_zero:=@List.set_cons_zero
theorem aj8:type_of% @List.set_cons_succ:=@List.set_cons_succ
theorem aj9:type_of% @World.grownBy_alloc:=@World.grownBy_alloc
theorem aka:type_of% @List.getElem?_cons_zero:=@List.getElem?_cons_zero
theorem akb:type_of% @List.getElem?_toArray:=@List.getElem?_toArray
theorem akc:type_of% @List.getElem?_cons_succ:=@List.getElem?_cons_succ
theorem akd:type_of% @Lib.grownBy_setB:=@Lib.grownBy_setB
theorem ake:type_of% @Nat.lt_of_lt_of_le:=@Nat.lt_of_lt_of_le
theorem akf:type_of% @Nat.le_refl:=@Nat.le_refl
theorem akg:type_of% @List.getD_eq_getElem?_getD:=@List.getD_eq_getElem?_getD
theorem akh:type_of% @Nat.le_trans:=@Nat.le_trans
theorem aki:type_of% @World.cell?_of_block:=@World.cell?_of_block
theorem akj:type_of% @List.getElem?_eq_getElem:=@List.getElem?_eq_getElem
theorem akk:type_of% @List.take_of_length_le:=@List.take_of_length_le
theorem akl:type_of% @List.length_append:=@List.length_append
theorem akm:type_of% @Int.tmod_eq_emod_of_nonneg:=@Int.tmod_eq_emod_of_nonneg
theorem akn:type_of% @Array.getElem?_setIfInBounds_ne:=@Array.getElem?_setIfInBounds_ne
theorem ako:type_of% @List.getElem?_eq_some_iff:=@List.getElem?_eq_some_iff
theorem akp:type_of% @Array.getElem?_eq_some_iff:=@Array.getElem?_eq_some_iff
theorem akq:type_of% @List.mem_of_mem_take:=@List.mem_of_mem_take
theorem akr:type_of% @World.grownBy.refl:=@World.grownBy.refl
theorem aks:type_of% @Nat.zero_le:=@Nat.zero_le
theorem akt:type_of% @List.mem_append:=@List.mem_append
theorem aku:type_of% @List.length_take:=@List.length_take
theorem akv:type_of% @List.getElem?_append_right:=@List.getElem?_append_right
theorem akw:type_of% @List.mem_cons_self:=@List.mem_cons_self
theorem akx:type_of% @List.mem_of_getElem?:=@List.mem_of_getElem?
theorem aky:type_of% @List.mem_cons_of_mem:=@List.mem_cons_of_mem
end Go.Proofs.YtinajlbijgedbaaGreat
namespace Go.Proofs.YtinajlbijgedbaaGreat.Mem
open Go.RowKit
def af (w:World) (g:Nat) (t:TypeId) (cs:Array Value):Prop:=w.heap[g]?=some (.cells cs t (0,0))
section
variable {w w':World} {g:Nat} {t:TypeId} {cs:Array Value}
theorem af.lt (h:af w g t cs):g < w.heap.size:=by
 rcases Nat.lt_or_ge g w.heap.size with hlt | hge
 · exact hlt
 · unfold af at h; rw [Array.getElem?_eq_none hge] at h; cases h
theorem af.cell (h:af w g t cs) (i:Nat):w.cell? ⟨g,i,none⟩=cs[i]?:=cell_of_row w g i cs t (0,0) h
theorem af.frozen (h:af w g t cs) (i:Nat):w.frozen? ⟨g,i,none⟩=false:=by
 unfold af at h
 simp [World.frozen?,h]
theorem af.new (w:World) (t:TypeId) (cs:Array Value):af (w.alloc (.cells cs t)) w.heap.size t cs:=heap_alloc_new w _
theorem af.drew (h:af w g t cs):af w.drew g t cs:=h
theorem af.drewN (h:af w g t cs) (n:Nat):af (w.drewN n) g t cs:=h
theorem af.alloc (h:af w g t cs) (o:Obj):af (w.alloc o) g t cs:=(Below.heap_alloc w o g h.lt).trans h
theorem af.aC (h:af w g t cs) (i:Nat) (u:Value):af (w.setCell ⟨g,i,none⟩ u) g t (cs.setIfInBounds i u):=by
 unfold af at h ⊢
 simp [World.setCell,Array.getElem?_modify,h]
theorem af.far (h:af w g t cs) {p:Addr} (hp:g≠p.block) (u:Value):af (w.setCell p u) g t cs:=(Below.heap_setCell w p u g hp).trans h
theorem af.grown {row:Option Nat} (h:af w g t cs) (hb:w.grownBy w' row) (hg:some g≠row):af w' g t cs:=(hb.block g h.lt hg).trans h
end
theorem bI {a w:World} {b:Nat} (h:a.grownBy w (some b)) (i:Nat) (v:Value):a.grownBy (w.setCell ⟨b,i,none⟩ v) (some b):=akd h i v
theorem kM {a w:World} {row:Option Nat} (h:a.grownBy w row):a.grownBy w.drew row:=⟨h.os,h.tape,h.output,h.size,h.block⟩
theorem uf {B:Nat} {w w':World} {row:Option Nat} (h:w.grownBy w' row) (hB:B<=w.heap.size) (hr:∀ k,row=some k->B<=k):Below B w w' :=
 (Below.refl B w).grown h hB hr
theorem iy {a c:World} (h:a.grownBy c (Value.slice none 0 0).ownBlock) (row:Option Nat):a.grownBy c row:=⟨h.os,h.tape,h.output,h.size,λi hi _=>h.block i hi (by simp [Value.ownBlock])⟩
theorem aI {a b c:World} {row r:Option Nat} (h:a.grownBy b row) (k:b.grownBy c r) (hr:∀ j,r=some j->a.heap.size<=j):a.grownBy c row :=
 ⟨k.os.trans h.os,k.tape.trans h.tape,k.output.trans h.output,akh h.size k.size,λi hi hne=>(k.block i (ake hi h.size) (λe=>by have:=hr i e.symm; omega)).trans (h.block i hi hne)⟩
end Go.Proofs.YtinajlbijgedbaaGreat.Mem
