/- Texts of this seat's proofs: MapIs, DiskLay, RefLay, RefSmall, DiskSmall, DiskFail, RefWrite3. -/
import Derived.Test.YtinajlbijgedbaaGreatQMem
import Derived.Test.YtinajlbijgedbaaGreatQWords
import Derived.Test.YtinajlbijgedbaaGreatQBytes
import Derived.Test.YtinajlbijgedbaaGreatQOwn
import Derived.Test.YtinajlbijgedbaaGreatQCrcMath
import Derived.Maps.OwnSet
import Derived.Lib.SlKeysI
import Derived.WalkKit
import Derived.Deep.MidRow
import Derived.LoopTactic
import Derived.Lib.Hide
import Derived.ProofKit
namespace Go.Proofs.YtinajlbijgedbaaGreat.Mem
open Go.RowKit Go.Maps Go.ChangeMaps Go.MapKept
def su (v:Value):Option (DataW Value × List MemPlace):=some (.held v,[])
abbrev eZ (k:Nat):Lit:=.int .i64 (k:Nat)
def entriesOf:DataW Value->List (Lit × DataW Value)
 | .map es=>es
 | _=>[]
def dN (P:Program) (K:TypeId) (w:World) (b n:Nat) (f:Nat->Option Value):Prop :=
 ∃ D:DataW Value,w.ownsMap P K su b (Maps.size D) D/\(∀ k z,D.atKey (eZ k) z=match f k with | some v=>.held v | none=>z)/\(∀ p∈entriesOf D,∃ k,k < n/\p.1=eZ k)
section
variable {P:Program} {K:TypeId} {w w':World} {b n:Nat} {f:Nat->Option Value}
theorem Gu {D:DataW Value} {m:Nat} (h:w.ownsMap P K su b m D):w.ownsMap P K su b (Maps.size D) D:=by
 obtain ⟨es,clock,hb,F,hs,rfl⟩:=h;exact ⟨es,clock,hb,F,by simp [Maps.size,length_sorted],rfl⟩
theorem M0 {a c:Nat} (h:eZ a=eZ c):a=c:=by
 simp only [eZ,Lit.int.injEq,true_and] at h;omega
theorem Qp {a c:Nat} (h:a≠c):eZ a≠eZ c:=λe=>h (M0 e)
theorem IU (k:Nat):WideAt.IsKeyLit (eZ k):=trivial
theorem dN.lt (h:dN P K w b n f):b < w.heap.size:=let ⟨_,h,_⟩:=h; h.lt
theorem dN.of_block (h:dN P K w b n f) (hb:w'.heap[b]?=w.heap[b]?):dN P K w' b n f:=by
 obtain ⟨D,⟨es,clock,h1,h2⟩,h3⟩:=h;exact ⟨D,⟨es,clock,hb.trans h1,h2⟩,h3⟩
theorem dN.made (w:World) (P:Program) (K:TypeId) (n:Nat):dN P K (w.alloc (.map #[] 0)) w.heap.size n (λ_=>none) :=
 ⟨.map [],World.ownsMap_made w P K su,λ_ _=>rfl,λp hp=>by cases hp⟩
theorem dN.keys_perm {D:DataW Value} (ht:Tidy D) (ha:∀ k z,D.atKey (eZ k) z=match f k with | some v=>.held v | none=>z) (he:∀ p∈entriesOf D,∃ k,k < n/\p.1=eZ k) :
 (intKeys D).Perm (((List.range n).filter λk=>(f k).isSome).map λk=>((k:Nat):Int)):=by
 obtain ⟨es,rfl,hp⟩:=ht;have he':∀ p∈es,∃ k,k < n/\p.1=eZ k:=he;have hnd:(intKeys (.map es:DataW Value)).Nodup:=by
  show (es.map λp=>intOf p.1).Nodup;rw [List.Nodup,List.pairwise_map];refine List.Pairwise.imp_of_mem ?_ hp;intro p q hp1 hq1 hne e;obtain ⟨k,_,h1⟩:=he' p hp1;obtain ⟨j,_,h2⟩:=he' q hq1;rw [h1,h2] at e hne;simp only [intOf] at e;exact hne (by rw [show k=j by omega])
 have af9:(((List.range n).filter λk=>(f k).isSome).map λk=>((k:Nat):Int)).Nodup:=by
  rw [List.Nodup,List.pairwise_map];exact (List.Pairwise.filter _ List.nodup_range).imp (λh e=>h (by omega))
 refine (List.perm_ext_iff_of_nodup hnd af9).2 λz=>?_
 constructor
 · intro hz;obtain ⟨p,hp1,rfl⟩:=List.mem_map.1 (show z∈es.map λp=>intOf p.1 from hz);obtain ⟨k,hk,h1⟩:=he' p hp1;refine List.mem_map.2 ⟨k,List.mem_filter.2 ⟨by simpa using hk,?_⟩,by rw [h1]; rfl⟩
   cases hf:f k with
   | some v=>rfl
   | none =>
     have hh:has (.map es:DataW Value) (eZ k)=false:=has_false_of_atKey (λz=>by rw [ha,hf]);have:=List.any_eq_false.1 hh p hp1;rw [h1,WideAt.sameKey_self (IU k)] at this
     simp at this
 · intro hz;obtain ⟨k,hk,rfl⟩:=List.mem_map.1 hz;obtain ⟨hkn,hks⟩:=List.mem_filter.1 hk;obtain ⟨v,hv⟩:=Option.isSome_iff_exists.1 hks;have hh:has (.map es:DataW Value) (eZ k)=true:=has_true_of_atKey (y:=.held v) (λz=>by rw [ha,hv]);obtain ⟨p,hp1,hp2⟩:=List.any_eq_true.1 hh;have e:=WideAt.sameKey_eq hp2;exact List.mem_map.2 ⟨p,hp1,by rw [e]; rfl⟩
theorem Jz {D:DataW Value}:(intKeys D).length=Maps.size D:=by
 cases D <;> simp [intKeys,Maps.size]
theorem dN.size_le {D:DataW Value} (ht:Tidy D) (ha:∀ k z,D.atKey (eZ k) z=match f k with | some v=>.held v | none=>z) (he:∀ p∈entriesOf D,∃ k,k < n/\p.1=eZ k):Maps.size D<=n:=by
 rw [<-Jz,(dN.keys_perm ht ha he).length_eq,List.length_map];exact akh (List.length_filter_le _ _) (by simp)
variable {t E:TypeId}
theorem dN.look (h:dN P K w b n f) (hK:P.underlying K=some (.int .i64)) (ht:P.underlying t=some (.map K E)) {z:Value} (hz:(zeroValue E).run P w=.ok z w) (k:Nat) (hk:k < 9223372036854775808) :
 (Instr.lookup t (.map (some b)) (.int .i64 (k:Nat)) false).run P w=.ok ((f k).getD z) w:=by
 obtain ⟨D,hown,ha,he⟩:=h;have hkey:keyOf P K (.int .i64 (k:Nat))=some (eZ k):=keyOf_int_mk hK (by simp [Lit.wf,IntKind.min,IntKind.max,IntKind.signed,IntKind.bits]; omega);obtain ⟨v,ps,hrun,hv⟩:=hown.lookup (int_keyed hK) ht hz (zd:=.held z) (zp:=[]) rfl hkey;rw [ha] at hv;rw [hrun]
 cases hf:f k <;> simp [hf,su] at hv <;> simp [hv]
theorem dN.store (h:dN P K w b n f) (hK:P.underlying K=some (.int .i64)) (ht:P.underlying t=some (.map K E)) (k:Nat) (hk:k < n) (hn:n < 9223372036854775807) (hn2:n < maxLen) (v:Value) :
 ∃ w',(Instr.mapUpdate t (.map (some b)) (.int .i64 (k:Nat)) v).run P w=.ok () w'/\dN P K w' b n (λj=>if j=k then some v else f j)/\w.grownBy w' (some b):=by
 obtain ⟨D,hown,ha,he⟩:=h;have hkey:keyOf P K (.int .i64 (k:Nat))=some (eZ k):=keyOf_int_mk hK (by simp [Lit.wf,IntKind.min,IntKind.max,IntKind.signed,IntKind.bits]; omega);have htd:=hown.tidy (int_keyed hK);have hsz:=dN.size_le htd ha he;obtain ⟨w',hrun,h1,h2⟩:=hown.update (int_keyed hK) ht (by omega) (d:=.held v) (ps:=[]) hkey (show su v=_ from rfl);refine ⟨w',hrun,⟨_,Gu h1,λj z=>?_,λp hp=>?_⟩,h2⟩
 · by_cases e:j=k
   · subst e;rw [atKey_put_same htd.isMap (IU j)]
     simp
   · rw [atKey_put_other (Qp e),ha]
     simp [e]
 · obtain ⟨es,rfl,_⟩:=htd;have hp':p∈DataW.insert (eZ k,.held v) (es.filter λp=>!p.1.sameKey (eZ k)):=hp;rcases mem_insert_iff.1 hp' with rfl | hp'
   · exact ⟨k,hk,rfl⟩
   · exact he p (List.mem_filter.1 hp').1
theorem dN.drop (h:dN P K w b n f) (hK:P.underlying K=some (.int .i64)) (ht:P.underlying t=some (.map K E)) (k:Nat) (hk:k < 9223372036854775808) (ty:TypeId) :
 ∃ w',(Builtin.delete_ #[t,K] ty #[.map (some b),.int .i64 (k:Nat)]).run P w=.ok (.tuple #[]) w'/\dN P K w' b n (λj=>if j=k then none else f j)/\w.grownBy w' (some b):=by
 obtain ⟨D,hown,ha,he⟩:=h;have hkey:keyOf P K (.int .i64 (k:Nat))=some (eZ k):=keyOf_int_mk hK (by simp [Lit.wf,IntKind.min,IntKind.max,IntKind.signed,IntKind.bits]; omega);have htd:=hown.tidy (int_keyed hK);obtain ⟨w',hrun,h1,h2⟩:=hown.drop (int_keyed hK) ht hkey ty;refine ⟨w',hrun,⟨_,Gu h1,λj z=>?_,λp hp=>?_⟩,h2.grown⟩
 · by_cases e:j=k
   · subst e;rw [atKey_del_same]
     simp
   · rw [atKey_del_other (Qp e),ha]
     simp [e]
 · obtain ⟨es,rfl,_⟩:=htd;have hp':p∈es.filter λp=>!p.1.sameKey (eZ k):=hp
   exact he p (List.mem_filter.1 hp').1
theorem dN.clear (h:dN P K w b n f) (ht:P.underlying t=some (.map K E)) (ty:TypeId) :
 ∃ w',(Builtin.clear_ #[t] ty #[.map (some b)]).run P w=.ok (.tuple #[]) w'/\dN P K w' b n (λ_=>none)/\w.grownBy w' (some b):=by
 obtain ⟨D,⟨es,clock,hb,F,_⟩,ha,he⟩:=h;refine ⟨setBlock w b (.map #[] clock),?_,⟨.map [],⟨#[],clock,heap_setBlock_same hb _,⟨by simp,stamped_empty clock,by simp⟩,akf _,rfl⟩,λ_ _=>rfl,λp hp=>by cases hp⟩,
  ⟨rfl,rfl,rfl,by simp [setBlock],λi _ hi=>heap_setBlock_other hb _ (λe=>hi (by rw [e]))⟩⟩
 simp [Builtin.clear_,run_underlying ht,MapKept.run_getObj_map hb,MapKept.run_setObj_map _ hb,Result.andThen,setBlock]
end
end Go.Proofs.YtinajlbijgedbaaGreat.Mem
namespace Go.Proofs.YtinajlbijgedbaaGreat.Dsk
open Go.RowKit Mem Crc DiskSpec
structure aa (w w':World) (own own':Nat->Prop):Prop where
 os:w'.os=w.os
 tape:w'.tape=w.tape
 output:w'.output=w.output
 size:w.heap.size<=w'.heap.size
 block:∀ i,i < w.heap.size->¬ own i->w'.heap[i]?=w.heap[i]?
 fresh:∀ i,own' i->own i\/w.heap.size<=i
section
variable {w w1 w2 w':World} {own Ac bV own':Nat->Prop} {B b bd bm:Nat} {S:St} {f:Nat->Option Value}
theorem aa.refl (w:World) (own:Nat->Prop):aa w w own own:=⟨rfl,rfl,rfl,akf _,λ_ _ _=>rfl,λ_ h=>.inl h⟩
theorem aa.trans (h:aa w w1 own Ac) (k:aa w1 w2 Ac bV):aa w w2 own bV :=
 ⟨k.os.trans h.os,k.tape.trans h.tape,k.output.trans h.output,akh h.size k.size,
  λi hi hn=>(k.block i (ake hi h.size) (λh1=>by rcases h.fresh i h1 with h2 | h2; exact hn h2; omega)).trans (h.block i hi hn),
  λi hi=>by rcases k.fresh i hi with h1 | h1; exact h.fresh i h1; exact .inr (akh h.size h1)⟩
theorem aa.aA {row:Option Nat} (h:w.grownBy w' row) (hr:∀ j,row=some j->own j):aa w w' own own :=
 ⟨h.os,h.tape,h.output,h.size,λi hi hn=>h.block i hi (λe=>hn (hr i e.symm)),λ_ h=>.inl h⟩
theorem aa.none_ (h:w.grownBy w' none):aa w w' own own:=.aA h (λ_ h=>by cases h)
theorem aa.drew (h:aa w w1 own Ac):aa w w1.drew own Ac:=h.trans (.none_ (ah w1 none))
theorem mU (b:Nat):∀ (vs:List Value) (o:Nat) (w:World) (k:Nat),k≠b->(w.setCells b o vs).heap[k]?=w.heap[k]?
 | [],_,_,_,_=>rfl
 | v :: r,o,w,k,hk=>by
   rw [World.setCells,mU b r (o+1) _ k hk];exact Below.heap_setCell w _ v k hk
theorem jV (b:Nat):∀ (vs:List Value) (o:Nat) (w:World),w.grownBy (w.setCells b o vs) (some b)
 | [],_,w=>akr w _
 | v :: r,o,w=>by
   have h1:w.grownBy (w.setCell ⟨b,o,none⟩ v) (some b):=akd (akr w _) o v;have h2:=jV b r (o+1) (w.setCell ⟨b,o,none⟩ v);exact ⟨h2.os.trans h1.os,h2.tape.trans h1.tape,h2.output.trans h1.output,akh h1.size h2.size,
    λi hi hn=>(h2.block i (ake hi h1.size) hn).trans (h1.block i hi hn)⟩
theorem rangeAt_of_block {o:Nat} {cs:List Value} (h:w.rangeAt b o cs) (e:w'.heap[b]?=w.heap[b]?):w'.rangeAt b o cs:=λj v hv=>by
 rw [aki (a:=⟨b,o+j,none⟩) e]; exact h j v hv
theorem jS {o n:Nat} (h:w.there b o n) (e:w'.heap[b]?=w.heap[b]?):w'.there b o n:=λj hj=>by
 rw [aki (a:=⟨b,o+j,none⟩) e,World.frozen?_of_block (a:=⟨b,o+j,none⟩) e]; exact h j hj
theorem aj {t:TypeId} {cs:Array Value} (h:af w b t cs) (e:w'.heap[b]?=w.heap[b]?):af w' b t cs:=e.trans h
theorem gT {base n size:Nat} {e:TypeId} {v:Value} {xs:List Value} (h:Own w base e size v n xs) (hk:∀ g,v.ownBlock=some g->w'.heap[g]?=w.heap[g]?):Own w' base e size v n xs:=by
 rcases h with h | ⟨g,cur,fz,rfl,hb,hh,rest⟩
 · refine .inl ⟨h.1,?_⟩;rcases h.2 with hn | ⟨g,cap,cur,rfl,hb,hh,rest⟩
   · exact .inl hn
   · exact .inr ⟨g,cap,cur,rfl,hb,(hk g rfl).trans hh,rest⟩
 · exact .inr ⟨g,cur,fz,rfl,hb,(hk g rfl).trans hh,rest⟩
def flat (l:List (List Nat)):List Value:=au l.flatten
structure Rows (w:World) (b bd bm:Nat) (f:Nat->Option Value) (S:St) (own:Nat->Prop):Prop where
 none_:∀ k,S.ae k=[]->f k=none
 some_:∀ k,S.ae k≠[]->∃ v g,f k=some v/\Own w 0 141 256 v (S.ae k).length (flat (S.ae k))/\v.ownBlock=some g/\own g/\g≠b/\g≠bd/\g≠bm
 apart:∀ k j v u,f k=some v->f j=some u->k≠j->v.ownBlock≠u.ownBlock
structure Lay (w:World) (B b bd bm:Nat) (f:Nat->Option Value) (S:St) (own:Nat->Prop):Prop where
 ok:S.ok
 blk:af w b 106 #[.slice (some ⟨bd,0,none⟩) S.n S.n,.map (some bm),.int .i64 0,.int .i64 (S.f1:Nat),.int .i64 (S.f2:Nat),.int .i64 (S.f3:Nat),.int .i64 S.left]
 ag:∀ i,i < S.n->w.rangeAt bd (256 * i) (au (S.ag i))
 room:w.there bd 0 (256 * S.n)
 map:dN Tryz.prog 3 w bm S.n f
 rows:Rows w b bd bm f S own
 ownB:own b
 jL:own bd
 lq:own bm
 bd_:b≠bd
 sZ:b≠bm
 sH:bd≠bm
 low:∀ i,own i->B<=i
 lt:∀ i,own i->i < w.heap.size
theorem Lay.keep (h:Lay w B b bd bm f S own) (hs:w.heap.size<=w'.heap.size) (hk:∀ i,own i->w'.heap[i]?=w.heap[i]?):Lay w' B b bd bm f S own :=
 { h with
  blk:=aj h.blk (hk b h.ownB)
  ag:=λi hi=>rangeAt_of_block (h.ag i hi) (hk bd h.jL)
  room:=jS h.room (hk bd h.jL)
  map:=h.map.of_block (hk bm h.lq)
  rows:=⟨h.rows.none_,λk hv=>(by
   obtain ⟨v,g,h1,h2,h3,h4,h5⟩:=h.rows.some_ k hv;exact ⟨v,g,h1,gT h2 (λg' hg'=>by rw [h3] at hg'; cases hg'; exact hk g h4),h3,h4,h5⟩),h.rows.apart⟩
  lt:=λi hi=>ake (h.lt i hi) hs }
theorem Lay.grown {row:Option Nat} (h:Lay w B b bd bm f S own) (hg:w.grownBy w' row) (hr:∀ j,row=some j->¬ own j):Lay w' B b bd bm f S own :=
 h.keep hg.size (λi hi=>hg.block i (h.lt i hi) (λe=>hr i e.symm hi))
theorem Lay.alloc (h:Lay w B b bd bm f S own) (o:Obj):Lay (w.alloc o) B b bd bm f S own:=h.grown (aj9 w o none) (λ_ h=>by cases h)
theorem Lay.drew (h:Lay w B b bd bm f S own):Lay w.drew B b bd bm f S own:=h.keep (akf _) (λ_ _=>rfl)
theorem Rows.same {T:St} (h:Rows w b bd bm f S own) (e:T.ae=S.ae):Rows w b bd bm f T own:=by
 refine ⟨λk hk=>h.none_ k (by rw [<-e]; exact hk),λk hk=>?_,h.apart⟩;rw [e] at hk ⊢;exact h.some_ k hk
theorem Rows.keep (h:Rows w b bd bm f S own) (hk:∀ i,own i->i≠b->i≠bd->i≠bm->w'.heap[i]?=w.heap[i]?):Rows w' b bd bm f S own :=
 ⟨h.none_,λk hv=>(by
  obtain ⟨v,g,h1,h2,h3,h4,h5,h6,h7⟩:=h.some_ k hv;exact ⟨v,g,h1,gT h2 (λg' hg'=>by rw [h3] at hg'; cases hg'; exact hk g h4 h5 h6 h7),h3,h4,h5,h6,h7⟩),h.apart⟩
theorem Lay.field (h:Lay w B b bd bm f S own) (j:Nat) (u:Value) {T:St} (hT:T.ok) (hn:T.n=S.n) (hd:T.ag=S.ag) (hv:T.ae=S.ae)
 (hc:(#[.slice (some ⟨bd,0,none⟩) S.n S.n,.map (some bm),.int .i64 0,.int .i64 (S.f1:Nat),.int .i64 (S.f2:Nat),.int .i64 (S.f3:Nat),.int .i64 S.left]:Array Value).setIfInBounds j u =
   #[.slice (some ⟨bd,0,none⟩) T.n T.n,.map (some bm),.int .i64 0,.int .i64 (T.f1:Nat),.int .i64 (T.f2:Nat),.int .i64 (T.f3:Nat),.int .i64 T.left]) :
 Lay (w.setCell ⟨b,j,none⟩ u) B b bd bm f T own where
 ok:=hT
 blk:=by rw [<-hc]; exact h.blk.aC j u
 ag i hi:=by rw [hd]; exact rangeAt_of_block (h.ag i (by omega)) (Below.heap_setCell w _ u bd (λe=>h.bd_ e.symm))
 room:=by rw [hn]; exact jS h.room (Below.heap_setCell w _ u bd (λe=>h.bd_ e.symm))
 map:=by rw [hn]; exact h.map.of_block (Below.heap_setCell w _ u bm (λe=>h.sZ e.symm))
 rows:=(h.rows.keep (λi _ hb _ _=>Below.heap_setCell w _ u i hb)).same hv
 ownB:=h.ownB
 jL:=h.jL
 lq:=h.lq
 bd_:=h.bd_
 sZ:=h.sZ
 sH:=h.sH
 low:=h.low
 lt i hi:=by simpa using h.lt i hi
theorem Lay.Uj (h:Lay w B b bd bm f S own) {i:Nat} (hi:i < S.n) {x:List Nat} (hx:l6 x):Lay (w.setCells bd (256 * i) (au x)) B b bd bm f { S with ag:=upd S.ag i x } own where
 ok:={ h.ok with ag:=λj=>by show l6 (upd S.ag i x j); unfold upd; split; exact hx; exact h.ok.ag j }
 blk:=aj h.blk (mU bd _ _ w b h.bd_)
 ag j hj:=by
  have hj':j < S.n:=hj;show (w.setCells bd (256 * i) (au x)).rangeAt bd (256 * j) (au (upd S.ag i x j))
  by_cases e:j=i
  · subst e;rw [upd_same];refine World.rangeAt_setCells_same w bd (256 * j) (au x) (λk hk=>?_);rw [aB,hx.1] at hk;have:=h.room (256 * j+k) (by omega)
    simpa using this
  · rw [upd_ne _ _ e];refine World.rangeAt_setCells_apart (h.ag j hj') bd (256 * i) (au x) ?_;rw [aB,aB,hx.1,(h.ok.ag j).1];omega
 room:=World.there_setCells h.room bd _ _
 map:=h.map.of_block (mU bd _ _ w bm (λe=>h.sH e.symm))
 rows:=(h.rows.keep (λk _ _ hd _=>mU bd _ _ w k hd)).same rfl
 ownB:=h.ownB
 jL:=h.jL
 lq:=h.lq
 bd_:=h.bd_
 sZ:=h.sZ
 sH:=h.sH
 low:=h.low
 lt k hk:=ake (h.lt k hk) (jV bd _ _ w).size
theorem Lay.drop (h:Lay w B b bd bm f S own) (i:Nat) (hg:w.grownBy w' (some bm)) (hm:dN Tryz.prog 3 w' bm S.n (λj=>if j=i then none else f j)) :
 Lay w' B b bd bm (λj=>if j=i then none else f j) { S with ae:=upd S.ae i [] } own where
 ok:={ h.ok with
  ae:=λj v hv=>by
   have hv':v∈upd S.ae i [] j:=hv;unfold upd at hv'; split at hv'
   · cases hv'
   · exact h.ok.ae j v hv'
  out:=λj hj=>by
   show upd S.ae i [] j=[];unfold upd; split
   · rfl
   · exact h.ok.out j hj }
 blk:=aj h.blk (hg.block b (h.lt b h.ownB) (by simpa using h.sZ))
 ag j hj:=rangeAt_of_block (h.ag j hj) (hg.block bd (h.lt bd h.jL) (by simpa using h.sH))
 room:=jS h.room (hg.block bd (h.lt bd h.jL) (by simpa using h.sH))
 map:=hm
 rows:=by
  refine ⟨λk hk=>?_,λk hk=>?_,λk j v u hv hu hne=>?_⟩
  · have hk':upd S.ae i [] k=[]:=hk
    by_cases e:k=i
    · simp [e]
    · rw [upd_ne _ _ e] at hk'
      simp [e,h.rows.none_ k hk']
  · have hk':upd S.ae i [] k≠[]:=hk
    by_cases e:k=i
    · exact absurd (by rw [e,upd_same]) hk'
    · rw [upd_ne _ _ e] at hk';obtain ⟨v,g,h1,h2,h3,h4,h5,h6,h7⟩:=h.rows.some_ k hk';have eg:w'.heap[g]?=w.heap[g]?:=hg.block g (h.lt g h4) (by simpa using h7);have e1:(upd S.ae i [] k)=S.ae k:=upd_ne _ _ e;refine ⟨v,g,by simp [e,h1],?_,h3,h4,h5,h6,h7⟩;show Own w' 0 _ 256 v (upd S.ae i [] k).length (flat (upd S.ae i [] k));rw [e1];exact gT h2 (λg' hg'=>by rw [h3] at hg'; cases hg'; exact eg)
  · by_cases e:k=i
    · simp [e] at hv
    · by_cases e':j=i
      · simp [e'] at hu
      · simp [e] at hv
        simp [e'] at hu
        exact h.rows.apart k j v u hv hu hne
 ownB:=h.ownB
 jL:=h.jL
 lq:=h.lq
 bd_:=h.bd_
 sZ:=h.sZ
 sH:=h.sH
 low:=h.low
 lt k hk:=ake (h.lt k hk) hg.size
theorem Lay.clear (h:Lay w B b bd bm f S own) (hg:w.grownBy w' (some bm)) (hm:dN Tryz.prog 3 w' bm S.n (λ_=>none)) :
 Lay w' B b bd bm (λ_=>none) { S with ae:=λ_=>[] } own where
 ok:={ h.ok with ae:=λ_ _ hv=>(by cases hv),out:=λ_ _=>rfl }
 blk:=aj h.blk (hg.block b (h.lt b h.ownB) (by simpa using h.sZ))
 ag j hj:=rangeAt_of_block (h.ag j hj) (hg.block bd (h.lt bd h.jL) (by simpa using h.sH))
 room:=jS h.room (hg.block bd (h.lt bd h.jL) (by simpa using h.sH))
 map:=hm
 rows:=⟨λ_ _=>rfl,λ_ hk=>absurd rfl hk,λ_ _ _ _ hv=>by cases hv⟩
 ownB:=h.ownB
 jL:=h.jL
 lq:=h.lq
 bd_:=h.bd_
 sZ:=h.sZ
 sH:=h.sH
 low:=h.low
 lt k hk:=ake (h.lt k hk) hg.size
theorem Lay.at_ (h:Lay w B b bd bm f S own) (k:Nat):Own w 0 141 256 ((f k).getD (.slice none 0 0)) (S.ae k).length (flat (S.ae k)) /\
 ∀ g,((f k).getD (.slice none 0 0)).ownBlock=some g->own g/\g≠b/\g≠bd/\g≠bm:=by
 by_cases hv:S.ae k=[]
 · rw [h.rows.none_ k hv,hv];exact ⟨Own.nil _ _ _ _,λg hg=>by simp [Value.ownBlock] at hg⟩
 · obtain ⟨v,g,h1,h2,h3,h4⟩:=h.rows.some_ k hv;rw [h1];refine ⟨h2,λg' hg'=>?_⟩;have e:v.ownBlock=some g':=hg';rw [h3] at e; cases e; exact h4
theorem Lay.add (h:Lay w B b bd bm f S own) {i:Nat} (hi:i < S.n) {x:List Nat} (hx:l6 x) {v':Value} (hgr:bS w w1 ((f i).getD (.slice none 0 0)) v')
 (hown:Own w1 0 141 256 v' ((S.ae i).length+1) (flat (S.ae i) ++ au x)) (hg:w1.grownBy w' (some bm)) (hm:dN Tryz.prog 3 w' bm S.n (λj=>if j=i then some v' else f j)) (hB:B<=w.heap.size) :
 ∃ own',Lay w' B b bd bm (λj=>if j=i then some v' else f j) (S.add i x) own'/\aa w w' own own':=by
 obtain ⟨g,hg1⟩:∃ g,v'.ownBlock=some g:=by
  obtain ⟨g,c,rfl,_⟩:=hown.reads (by omega);exact ⟨g,rfl⟩
 have hold:=(h.at_ i).2;have hgl:own g/\g≠b/\g≠bd/\g≠bm\/w.heap.size<=g:=(hgr.2 g hg1).imp (λe=>hold g e) id;have yR:g < w1.heap.size:=(hown.bH g hg1).2;have lb:=h.lt b h.ownB;have ld:=h.lt bd h.jL;have lm:=h.lt bm h.lq;have hgb:g≠b:=by rcases hgl with h1 | h1; exact h1.2.1; omega
 have hgd:g≠bd:=by rcases hgl with h1 | h1; exact h1.2.2.1; omega
 have hgm:g≠bm:=by rcases hgl with h1 | h1; exact h1.2.2.2; omega
 have Zg:∀ k,(k=b\/k=bd\/k=bm)->some k≠((f i).getD (.slice none 0 0)).ownBlock:=λk hk e=>by
  obtain ⟨_,h1,h2,h3⟩:=hold k e.symm;rcases hk with rfl | rfl | rfl
  · exact h1 rfl
  · exact h2 rfl
  · exact h3 rfl
 have kb:w'.heap[b]?=w.heap[b]?:=(hg.block b (ake lb hgr.1.size) (by simpa using h.sZ)).trans (hgr.1.block b lb (Zg b (.inl rfl)));have kd:w'.heap[bd]?=w.heap[bd]?:=(hg.block bd (ake ld hgr.1.size) (by simpa using h.sH)).trans (hgr.1.block bd ld (Zg bd (.inr (.inl rfl))));have other:∀ k v,k≠i->f k=some v->∀ g',v.ownBlock=some g'->g'≠g/\(own g'->g'≠bm->w'.heap[g']?=w.heap[g']?):=by
  intro k v hki hv g' hg';have hk:S.ae k≠[]:=λe=>by rw [h.rows.none_ k e] at hv; cases hv
  obtain ⟨v2,g2,h1,_,h3,h4,_⟩:=h.rows.some_ k hk;rw [hv] at h1; cases h1;rw [hg'] at h3; cases h3;have hlt:=h.lt g' h4;have hne:((f i).getD (.slice none 0 0)).ownBlock≠some g':=by
   cases hf:f i with
   | none=>simp [Value.ownBlock]
   | some u =>
     have:=h.rows.apart k i v u hv hf hki;rw [hg'] at this;exact λe=>this e.symm
  refine ⟨λe=>?_,λ_ hm'=>?_⟩
  · subst e;rcases hgr.2 g' hg1 with h5 | h5
    · exact hne h5
    · omega
  · exact (hg.block g' (ake hlt hgr.1.size) (by simpa using hm')).trans (hgr.1.block g' hlt (λe=>hne e.symm))
 refine ⟨λj=>own j\/j=g,?_,?_⟩
 · exact {
    ok:=h.ok.add hi hx
    blk:=aj h.blk kb
    ag:=λj hj=>rangeAt_of_block (h.ag j hj) kd
    room:=jS h.room kd
    map:=hm
    rows:=by
     refine ⟨λk hk=>?_,λk hk=>?_,λk j v u hv hu hne=>?_⟩
     · have hk':upd S.ae i (S.ae i ++ [x]) k=[]:=hk
       by_cases e:k=i
       · rw [e,upd_same] at hk'; simp at hk'
       · rw [upd_ne _ _ e] at hk'
         simp [e,h.rows.none_ k hk']
     · have hk':upd S.ae i (S.ae i ++ [x]) k≠[]:=hk;show ∃ v g',_/\Own w' 0 _ 256 v (upd S.ae i (S.ae i ++ [x]) k).length (flat (upd S.ae i (S.ae i ++ [x]) k))/\_
       by_cases e:k=i
       · subst e;rw [upd_same];refine ⟨v',g,by simp,?_,hg1,.inr rfl,hgb,hgd,hgm⟩;have e1:flat (S.ae k ++ [x])=flat (S.ae k) ++ au x:=by simp [flat,dH]
         rw [e1,akl,List.length_singleton];exact gT hown (λg' hg'=>by rw [hg1] at hg'; cases hg'; exact hg.block g yR (by simpa using hgm))
       · rw [upd_ne _ _ e] at hk' ⊢;obtain ⟨v,g2,h1,h2,h3,h4,h5,h6,h7⟩:=h.rows.some_ k hk';refine ⟨v,g2,by simp [e,h1],?_,h3,.inl h4,h5,h6,h7⟩;exact gT h2 (λg' hg'=>by rw [h3] at hg'; cases hg'; exact (other k v e h1 g2 h3).2 h4 h7)
     · by_cases e:k=i
       · subst e
         simp at hv
         subst hv;have hu:f j=some u:=by have e':j≠k:=λe'=>hne e'.symm; rw [if_neg e'] at hu; exact hu
         rw [hg1];intro e2;exact (other j u (λe'=>hne e'.symm) hu g e2.symm).1 rfl
       · simp [e] at hv
         by_cases e':j=i
         · subst e'
           simp at hu
           subst hu;rw [hg1];intro e2;exact (other k v e hv g e2).1 rfl
         · simp [e'] at hu
           exact h.rows.apart k j v u hv hu hne
    ownB:=.inl h.ownB
    jL:=.inl h.jL
    lq:=.inl h.lq
    bd_:=h.bd_
    sZ:=h.sZ
    sH:=h.sH
    low:=λj hj=>by
     rcases hj with hj | rfl
     · exact h.low j hj
     · rcases hgl with h1 | h1
       · exact h.low _ h1.1
       · omega
    lt:=λj hj=>by
     rcases hj with hj | rfl
     · exact ake (h.lt j hj) (akh hgr.1.size hg.size)
     · exact ake yR hg.size }
 · refine ⟨hg.os.trans hgr.1.os,hg.tape.trans hgr.1.tape,hg.output.trans hgr.1.output,akh hgr.1.size hg.size,λj hj hn=>?_,λj hj=>?_⟩
   · refine (hg.block j (ake hj hgr.1.size) (λe=>?_)).trans (hgr.1.block j hj (λe=>?_))
     · cases e; exact hn h.lq
     · exact hn (hold j e.symm).1
   · rcases hj with hj | rfl
     · exact .inl hj
     · exact hgl.imp (λh1=>h1.1) id
end
def BytesAt (w:World) (own:Nat->Prop) (v:Value) (x:List Nat):Prop :=
 ∃ g c cs fz,v=.slice (some ⟨g,0,none⟩) 256 c/\256<=c/\c<=maxLen/\own g/\w.heap[g]?=some (.cells cs 5 fz)/\l6 x/\∀ j,j < 256->cs[j]?=some (.int .u8 (x.getD j 0:Nat))
section
variable {w w1 w':World} {own own':Nat->Prop} {B r bl c:Nat} {S T:St} {dv vv:Nat->Value} {vs:Nat->List Value} {v:Value} {x:List Nat}
theorem BytesAt.keep (h:BytesAt w own v x) (ho:∀ i,own i->own' i) (hk:∀ g cs fz,own g->w.heap[g]?=some (.cells cs 5 fz)->w'.heap[g]?=w.heap[g]?):BytesAt w' own' v x:=by
 obtain ⟨g,c,cs,fz,e,h1,h2,h3,h4,h5⟩:=h;exact ⟨g,c,cs,fz,e,h1,h2,ho g h3,(hk g cs fz h3 h4).trans h4,h5⟩
theorem BytesAt.abl {base:Nat} (h:Own w base 5 1 v 256 (au x)) (hx:l6 x) (ho:∀ g,v.ownBlock=some g->own g):BytesAt w own v x:=by
 have hat:∀ j,j < 256->(au x)[j]?=some (.int .u8 (x.getD j 0:Nat)):=λj hj=>fT x j (by rw [hx.1]; exact hj)
 rcases h with h | ⟨g,cur,fz,rfl,hb,hh,hm,hcu,hl⟩
 · rcases h.2 with ⟨_,h0⟩ | ⟨g,cap,cur,rfl,hb,hh,h1,h2,_,ht⟩
   · omega
   · refine ⟨g,cap,cur,_,rfl,h1,h2,ho g rfl,hh,hx,λj hj=>?_⟩;rw [<-hat j hj,<-ht,List.getElem?_take_of_lt (by omega),Array.getElem?_toList]
 · refine ⟨g,256,cur,fz,rfl,akf _,hm,ho g rfl,hh,hx,λj hj=>?_⟩;rw [<-hat j hj,<-hcu,Array.getElem?_toList]
theorem BytesAt.reads (h:BytesAt w own v x):∃ g c,v=.slice (some ⟨g,0,none⟩) 256 c/\g < w.heap.size/\256<=c/\c<=maxLen/\∀ j u,(au x)[j]?=some u->w.cell? ⟨g,j,none⟩=some u:=by
 obtain ⟨g,c,cs,fz,e,h1,h2,h3,h4,h5,h6⟩:=h;refine ⟨g,c,e,(Array.getElem?_eq_some_iff.1 h4).1,h1,h2,λj u hu=>?_⟩;have hj:j < 256:=by have:=(List.getElem?_eq_some_iff.1 hu).1; rw [aB,h5.1] at this; exact this
 rw [cell_of_row w g j cs _ fz h4,h6 j hj,<-hu,fT x j (by rw [h5.1]; exact hj)]
structure Part (w:World) (own:Nat->Prop) (Zv PW:Value) (TQ:List Value) (d:List Nat) (ae:List (List Nat)):Prop where
 ag:BytesAt w own Zv d
 row:Own w 0 65 1 PW ae.length TQ
 mine:∀ g,PW.ownBlock=some g->own g
 Lu:∀ (k:Nat) (y:List Nat),ae[k]?=some y->∃ u:Value,TQ[k]?=some u/\BytesAt w own u y
structure aP (w:World) (B r bl c:Nat) (dv vv:Nat->Value) (vs:Nat->List Value) (S:St) (own:Nat->Prop):Prop where
 ok:S.ok
 blk:af w r 64 #[.slice (some ⟨bl,0,none⟩) S.n c,.int .i64 0,.int .i64 (S.f1:Nat),.int .i64 (S.f2:Nat),.int .i64 (S.f3:Nat),.int .i64 S.left]
 cells:∃ cs,af w bl 68 cs/\∀ i,i < S.n->cs[i * 2]?=some (dv i)/\cs[i * 2+1]?=some (vv i)
 part:∀ i,i < S.n->Part w own (dv i) (vv i) (vs i) (S.ag i) (S.ae i)
 apart:∀ i j g,i < S.n->j < S.n->i≠j->(vv i).ownBlock=some g->(vv j).ownBlock≠some g
 cap:S.n<=c/\c<=maxLen
 jK:own r
 og:own bl
 low:∀ i,own i->B<=i
 lt:∀ i,own i->i < w.heap.size
theorem iH {g g':Nat} {t t':TypeId} {cs cs':Array Value} {fz fz':Nat × Nat} (h:w.heap[g]?=some (.cells cs t fz)) (h':w.heap[g']?=some (.cells cs' t' fz')) (ht:t≠t'):g≠g':=λe=>by
 subst e;rw [h] at h';simp only [Option.some.injEq,Obj.cells.injEq] at h';exact ht h'.2.1
theorem aP.ne (h:aP w B r bl c dv vv vs S own):r≠bl:=by
 obtain ⟨cs,hb,_⟩:=h.cells;exact iH h.blk hb (by decide)
theorem aP.nV (h:aP w B r bl c dv vv vs S own) {i g:Nat} (hi:i < S.n) (hg:(vv i).ownBlock=some g):∃ cur fz,w.heap[g]?=some (.cells cur 65 fz):=by
 rcases (h.part i hi).row with h1 | ⟨g',cur,fz,e,_,hh,_⟩
 · rcases h1.2 with ⟨e,_⟩ | ⟨g',cap,cur,e,_,hh,_⟩
   · rw [e] at hg; cases hg
   · rw [e] at hg; cases hg; exact ⟨cur,_,hh⟩
 · rw [e] at hg; cases hg; exact ⟨cur,fz,hh⟩
theorem aP.rc (h:aP w B r bl c dv vv vs S own):w.cell? ⟨r,0,none⟩=some (.slice (some ⟨bl,0,none⟩) S.n c):=by rw [h.blk.cell]; rfl
theorem aP.r2 (h:aP w B r bl c dv vv vs S own):w.cell? ⟨r,2,none⟩=some (.int .i64 (S.f1:Nat)):=by rw [h.blk.cell]; rfl
theorem aP.r3 (h:aP w B r bl c dv vv vs S own):w.cell? ⟨r,3,none⟩=some (.int .i64 (S.f2:Nat)):=by rw [h.blk.cell]; rfl
theorem aP.r4 (h:aP w B r bl c dv vv vs S own):w.cell? ⟨r,4,none⟩=some (.int .i64 (S.f3:Nat)):=by rw [h.blk.cell]; rfl
theorem aP.r5 (h:aP w B r bl c dv vv vs S own):w.cell? ⟨r,5,none⟩=some (.int .i64 S.left):=by rw [h.blk.cell]; rfl
theorem aP.JG (h:aP w B r bl c dv vv vs S own) (j:Nat):w.frozen? ⟨r,j,none⟩=false:=h.blk.frozen j
theorem aP.cd (h:aP w B r bl c dv vv vs S own) {i:Nat} (hi:i < S.n):w.cell? ⟨bl,i * 2,none⟩=some (dv i):=by obtain ⟨cs,hb,hc⟩:=h.cells; rw [hb.cell]; exact (hc i hi).1
theorem aP.cv (h:aP w B r bl c dv vv vs S own) {i:Nat} (hi:i < S.n):w.cell? ⟨bl,i * 2+1,none⟩=some (vv i):=by obtain ⟨cs,hb,hc⟩:=h.cells; rw [hb.cell]; exact (hc i hi).2
theorem aP.zu (h:aP w B r bl c dv vv vs S own) (j:Nat):w.frozen? ⟨bl,j,none⟩=false:=by obtain ⟨cs,hb,_⟩:=h.cells; exact hb.frozen j
theorem Part.keep {Zv PW:Value} {TQ:List Value} {d:List Nat} {ae:List (List Nat)} (h:Part w own Zv PW TQ d ae) (ho:∀ i,own i->own' i)
 (hk:∀ g cs fz,own g->w.heap[g]?=some (.cells cs 5 fz)->w'.heap[g]?=w.heap[g]?) (hv:∀ g,PW.ownBlock=some g->w'.heap[g]?=w.heap[g]?):Part w' own' Zv PW TQ d ae :=
 ⟨h.ag.keep ho hk,gT h.row hv,λg hg=>ho g (h.mine g hg),λk y hy=>by obtain ⟨u,h1,h2⟩:=h.Lu k y hy; exact ⟨u,h1,h2.keep ho hk⟩⟩
theorem aP.keep (h:aP w B r bl c dv vv vs S own) (hs:w.heap.size<=w'.heap.size) (hk:∀ i,own i->w'.heap[i]?=w.heap[i]?):aP w' B r bl c dv vv vs S own :=
 { h with
  blk:=aj h.blk (hk r h.jK)
  cells:=by obtain ⟨cs,hb,hc⟩:=h.cells; exact ⟨cs,aj hb (hk bl h.og),hc⟩
  part:=λi hi=>(h.part i hi).keep (λ_ h=>h) (λg _ _ hg _=>hk g hg) (λg hg=>hk g ((h.part i hi).mine g hg))
  lt:=λi hi=>ake (h.lt i hi) hs }
theorem aP.grown {row:Option Nat} (h:aP w B r bl c dv vv vs S own) (hg:w.grownBy w' row) (hr:∀ j,row=some j->¬ own j):aP w' B r bl c dv vv vs S own :=
 h.keep hg.size (λi hi=>hg.block i (h.lt i hi) (λe=>hr i e.symm hi))
theorem aP.turn {o1 o2:Nat->Prop} (h:aP w B r bl c dv vv vs S own) (ht:aa w w' o1 o2) (hd:∀ i,own i->¬ o1 i):aP w' B r bl c dv vv vs S own :=
 h.keep ht.size (λi hi=>ht.block i (h.lt i hi) (hd i hi))
theorem aP.alloc (h:aP w B r bl c dv vv vs S own) (o:Obj):aP (w.alloc o) B r bl c dv vv vs S own:=h.grown (aj9 w o none) (λ_ h=>by cases h)
theorem aP.drew (h:aP w B r bl c dv vv vs S own):aP w.drew B r bl c dv vv vs S own:=h.keep (akf _) (λ_ _=>rfl)
theorem aP.struct (h:aP w B r bl c dv vv vs S own) (hg:w.grownBy w' (some r)) (hT:T.ok) (hn:T.n=S.n) (hd:T.ag=S.ag) (hv:T.ae=S.ae)
 (hb:af w' r 64 #[.slice (some ⟨bl,0,none⟩) T.n c,.int .i64 0,.int .i64 (T.f1:Nat),.int .i64 (T.f2:Nat),.int .i64 (T.f3:Nat),.int .i64 T.left]):aP w' B r bl c dv vv vs T own where
 ok:=hT
 blk:=hb
 cells:=by
  obtain ⟨cs,hb',hc⟩:=h.cells;rw [hn];exact ⟨cs,aj hb' (hg.block bl (h.lt bl h.og) (by simpa using λe=>h.ne e.symm)),hc⟩
 part i hi:=by
  rw [hd,hv];have hi':i < S.n:=by omega
  refine (h.part i hi').keep (λ_ h=>h) (λg cs fz ho hh=>hg.block g (h.lt g ho) ?_) (λg hgo=>?_)
  · simpa using iH hh h.blk (by decide)
  · obtain ⟨cur,fz,hh⟩:=h.nV hi' hgo;exact hg.block g (h.lt g ((h.part i hi').mine g hgo)) (by simpa using iH hh h.blk (by decide))
 apart i j g hi hj:=h.apart i j g (by omega) (by omega)
 cap:=by rw [hn]; exact h.cap
 jK:=h.jK
 og:=h.og
 low:=h.low
 lt i hi:=ake (h.lt i hi) hg.size
theorem aP.settle (h:aP w B r bl c dv vv vs S own) {i:Nat} (hi:i < S.n) {u:Value} {y:List Nat} (hu:BytesAt w own u y) :
 aP ((w.setCell ⟨bl,i * 2,none⟩ u).setCell ⟨bl,i * 2+1,none⟩ (.slice none 0 0)) B r bl c (upd dv i u) (upd vv i (.slice none 0 0)) (upd vs i []) { S with ag:=upd S.ag i y,ae:=upd S.ae i [] } own:=by
 have hg:w.grownBy ((w.setCell ⟨bl,i * 2,none⟩ u).setCell ⟨bl,i * 2+1,none⟩ (.slice none 0 0)) (some bl):=akd (akd (akr w _) _ u) _ _;obtain ⟨cs,hb,hc⟩:=h.cells;have hbk:=(hb.aC (i * 2) u).aC (i * 2+1) (.slice none 0 0);have fF:l6 y:=by obtain ⟨_,_,_,_,_,_,_,_,_,h5,_⟩:=hu; exact h5
 generalize (w.setCell ⟨bl,i * 2,none⟩ u).setCell ⟨bl,i * 2+1,none⟩ (.slice none 0 0)=w' at *;have hsz:∀ q,q < S.n->q * 2+1 < cs.size:=λq hq=>(Array.getElem?_eq_some_iff.1 (hc q hq).2).1
 have hk:∀ g cs fz,own g->w.heap[g]?=some (.cells cs 5 fz)->w'.heap[g]?=w.heap[g]?:=λg cs fz ho hh=>hg.block g (h.lt g ho) (by simpa using iH hh hb (by decide))
 exact {
  ok:={ h.ok with
   ag:=λj=>by show l6 (upd S.ag i y j); unfold upd; split; exact fF; exact h.ok.ag j
   ae:=λj v hv=>by
    have hv':v∈upd S.ae i [] j:=hv;unfold upd at hv'; split at hv'
    · cases hv'
    · exact h.ok.ae j v hv'
   out:=λj hj=>by
    show upd S.ae i [] j=[];unfold upd; split
    · rfl
    · exact h.ok.out j hj }
  blk:=aj h.blk (hg.block r (h.lt r h.jK) (by simpa using h.ne))
  cells:=⟨_,hbk,λq hq=>by
   have hq':q < S.n:=hq;have h1:=hsz q hq'; have h2:=hsz i hi
   by_cases e:q=i
   · subst e
     simp [upd,Array.getElem?_setIfInBounds]
     constructor <;> omega
   · rw [upd_ne _ _ e,upd_ne _ _ e];rw [akn (by omega),akn (by omega),akn (by omega),akn (by omega)];exact hc q hq'⟩
  part:=λq hq=>by
   have hq':q < S.n:=hq;show Part w' own (upd dv i u q) (upd vv i (.slice none 0 0) q) (upd vs i [] q) (upd S.ag i y q) (upd S.ae i [] q)
   by_cases e:q=i
   · subst e;rw [upd_same,upd_same,upd_same,upd_same,upd_same];exact ⟨hu.keep (λ_ h=>h) hk,Own.nil _ _ _ _,λg hg=>(by cases hg),λk z hz=>(by simp at hz)⟩
   · rw [upd_ne _ _ e,upd_ne _ _ e,upd_ne _ _ e,upd_ne _ _ e,upd_ne _ _ e];refine (h.part q hq').keep (λ_ h=>h) hk (λg hgo=>?_);obtain ⟨cur,fz,hh⟩:=h.nV hq' hgo;exact hg.block g (h.lt g ((h.part q hq').mine g hgo)) (by simpa using iH hh hb (by decide))
  apart:=λp q g hp hq hne hv=>by
   by_cases e:p=i
   · rw [e,upd_same] at hv; cases hv
   · rw [upd_ne _ _ e] at hv
     by_cases e':q=i
     · rw [e',upd_same]; simp [Value.ownBlock]
     · rw [upd_ne _ _ e']; exact h.apart p q g hp hq hne hv
  cap:=h.cap
  jK:=h.jK
  og:=h.og
  low:=h.low
  lt:=λq hq=>ake (h.lt q hq) hg.size }
theorem aP.add (h:aP w B r bl c dv vv vs S own) {i:Nat} (hi:i < S.n) {u v':Value} {y:List Nat} (hu:BytesAt w own u y) (hgr:bS w w1 (vv i) v')
 (hown:Own w1 0 65 1 v' ((S.ae i).length+1) (vs i ++ [u])) (hB:B<=w.heap.size) :
 ∃ own',aP (w1.setCell ⟨bl,i * 2+1,none⟩ v') B r bl c dv (upd vv i v') (upd vs i (vs i ++ [u])) (S.add i y) own'/\aa w (w1.setCell ⟨bl,i * 2+1,none⟩ v') own own'/\∀ q,own q->own' q:=by
 obtain ⟨cs,hb,hc⟩:=h.cells;have fF:l6 y:=by obtain ⟨_,_,_,_,_,_,_,_,_,h5,_⟩:=hu; exact h5
 obtain ⟨g,hg1⟩:∃ g,v'.ownBlock=some g:=by obtain ⟨g,c,rfl,_⟩:=hown.reads (by omega); exact ⟨g,rfl⟩
 have hrow:∀ q cur t fz,own q->w.heap[q]?=some (.cells cur t fz)->t≠65->w1.heap[q]?=w.heap[q]?:=λq cur t fz ho hh ht=>hgr.1.block q (h.lt q ho) (λe=>by
  obtain ⟨cur',fz',hh'⟩:=h.nV hi e.symm;exact iH hh hh' ht rfl)
 have hb1:af w1 bl 68 cs:=(hrow bl _ _ _ h.og hb (by decide)).trans hb;have hbk:=hb1.aC (i * 2+1) v';have hg2:w1.grownBy (w1.setCell ⟨bl,i * 2+1,none⟩ v') (some bl):=akd (akr w1 _) _ _;have hgl:own g\/w.heap.size<=g:=(hgr.2 g hg1).imp (λe=>(h.part i hi).mine g e) id;have yR:g < w1.heap.size:=(hown.bH g hg1).2;have Nq:g≠bl:=by
  rcases hown with h1 | ⟨g',cur,fz,e,_,hh,_⟩
  · rcases h1.2 with ⟨e,_⟩ | ⟨g',cap,cur,e,_,hh,_⟩
    · rw [e] at hg1; cases hg1
    · rw [e] at hg1; cases hg1; exact iH hh hb1 (by decide)
  · rw [e] at hg1; cases hg1; exact iH hh hb1 (by decide)
 generalize w1.setCell ⟨bl,i * 2+1,none⟩ v'=w' at *;have hsz:∀ q,q < S.n->q * 2+1 < cs.size:=λq hq=>(Array.getElem?_eq_some_iff.1 (hc q hq).2).1
 have hk:∀ q cs' fz,own q->w.heap[q]?=some (.cells cs' 5 fz)->w'.heap[q]?=w.heap[q]?:=λq cs' fz ho hh =>
  (hg2.block q (ake (h.lt q ho) hgr.1.size) (by simpa using iH hh hb (by decide))).trans (hrow q _ _ _ ho hh (by decide))
 have hother:∀ q g',q < S.n->q≠i->(vv q).ownBlock=some g'->w'.heap[g']?=w.heap[g']?:=λq g' hq hne hgo=>by
  obtain ⟨cur,fz,hh⟩:=h.nV hq hgo;have hlt:=h.lt g' ((h.part q hq).mine g' hgo);exact (hg2.block g' (ake hlt hgr.1.size) (by simpa using iH hh hb (by decide))).trans (hgr.1.block g' hlt (λe=>h.apart q i g' hq hi hne hgo e.symm))
 refine ⟨λq=>own q\/q=g,?_,?_,λq hq=>.inl hq⟩
 · exact {
    ok:=h.ok.add hi fF
    blk:=aj h.blk ((hg2.block r (ake (h.lt r h.jK) hgr.1.size) (by simpa using h.ne)).trans (hrow r _ _ _ h.jK h.blk (by decide)))
    cells:=⟨_,hbk,λq hq=>by
     have hq':q < S.n:=hq;have h1:=hsz q hq'; have h2:=hsz i hi
     by_cases e:q=i
     · subst e;refine ⟨?_,?_⟩
       · rw [akn (by omega)]; exact (hc q hq').1
       · rw [upd_same,Array.getElem?_setIfInBounds_self_of_lt h2]
     · rw [upd_ne _ _ e,akn (by omega),akn (by omega)];exact hc q hq'⟩
    part:=λq hq=>by
     have hq':q < S.n:=hq;show Part w' _ (dv q) (upd vv i v' q) (upd vs i (vs i ++ [u]) q) (S.ag q) (upd S.ae i (S.ae i ++ [y]) q)
     by_cases e:q=i
     · subst e;rw [upd_same,upd_same,upd_same];have hp:=h.part q hq';have hvl:(vs q).length=(S.ae q).length:=by have:=hp.row.len; omega
       refine ⟨hp.ag.keep (λ_ h=>.inl h) hk,?_,λg' hg'=>by rw [hg1] at hg'; cases hg'; exact .inr rfl,λk z hz=>?_⟩
       · rw [akl,List.length_singleton];exact gT hown (λg' hg'=>by rw [hg1] at hg'; cases hg'; exact hg2.block g yR (by simpa using Nq))
       · by_cases hkl:k < (S.ae q).length
         · rw [List.getElem?_append_left hkl] at hz;obtain ⟨u',h1,h2⟩:=hp.Lu k z hz;exact ⟨u',by rw [List.getElem?_append_left (by omega)]; exact h1,h2.keep (λ_ h=>.inl h) hk⟩
         · rw [akv (by omega)] at hz;have hk0:k - (S.ae q).length=0:=by
            rcases Nat.eq_zero_or_pos (k - (S.ae q).length) with h0 | h0
            · exact h0
            · rw [List.getElem?_eq_none (by simp; omega)] at hz; cases hz
           rw [hk0] at hz
           simp at hz
           subst hz;refine ⟨u,?_,hu.keep (λ_ h=>.inl h) hk⟩;rw [akv (by omega),hvl,hk0]; rfl
     · rw [upd_ne _ _ e,upd_ne _ _ e,upd_ne _ _ e];exact (h.part q hq').keep (λ_ h=>.inl h) hk (λg' hg'=>hother q g' hq' e hg')
    apart:=λp q g' hp hq hne hv=>by
     have hp':p < S.n:=hp;have hq':q < S.n:=hq
     by_cases e:p=i
     · subst e;rw [upd_same,hg1] at hv
       cases hv
       rw [upd_ne _ _ (λe=>hne e.symm)];intro hv2;rcases hgr.2 g hg1 with h3 | h3
       · exact h.apart p q g hp' hq' hne h3 hv2
       · have:=h.lt g ((h.part q hq').mine g hv2); omega
     · rw [upd_ne _ _ e] at hv
       by_cases e':q=i
       · subst e';rw [upd_same,hg1];intro e2
         cases e2
         rcases hgr.2 g hg1 with h3 | h3
         · exact h.apart p q g hp' hq' hne hv h3
         · have:=h.lt g ((h.part p hp').mine g hv); omega
       · rw [upd_ne _ _ e']; exact h.apart p q g' hp' hq' hne hv
    cap:=h.cap
    jK:=.inl h.jK
    og:=.inl h.og
    low:=λq hq=>by
     rcases hq with hq | rfl
     · exact h.low q hq
     · rcases hgl with h1 | h1
       · exact h.low _ h1
       · omega
    lt:=λq hq=>by
     rcases hq with hq | rfl
     · exact ake (h.lt q hq) (akh hgr.1.size hg2.size)
     · exact ake yR hg2.size }
 · refine ⟨hg2.os.trans hgr.1.os,hg2.tape.trans hgr.1.tape,hg2.output.trans hgr.1.output,akh hgr.1.size hg2.size,λq hq hn=>?_,λq hq=>?_⟩
   · refine (hg2.block q (ake hq hgr.1.size) (λe=>?_)).trans (hgr.1.block q hq (λe=>?_))
     · cases e; exact hn h.og
     · exact hn ((h.part i hi).mine q e.symm)
   · rcases hq with hq | rfl
     · exact .inl hq
     · exact hgl
end
end Go.Proofs.YtinajlbijgedbaaGreat.Dsk
set_option maxRecDepth 100000
set_option maxHeartbeats 16000000
namespace Go.Proofs.YtinajlbijgedbaaGreat.Dsk
open Lib (hid)
open Go.RowKit Mem Crc DiskSpec
theorem qQ {w:World} {B r bl c:Nat} {dv vv:Nat->Value} {vs:Nat->List Value} {S:St} {own:Nat->Prop} (h:aP w B r bl c dv vv vs S own) (at_ count:Int)
 (h1:-9223372036854775808<=at_/\at_<=9223372036854775807) (_:-9223372036854775808<=count/\count<=9223372036854775807) :
 Calls Tryz.prog 69 #[.pointer (some ⟨r,0,none⟩),.int .i64 at_,.int .i64 count] w λe w'=>e=.returned (.bool (S.has at_ count))/\w=w':=by
 have htop:=h.ok.top;have hpos:=h.ok.pos;have hc:=h.rc;clear h;have hhas:S.has at_ count=(decide (0<=at_) && (decide (1<=count) && decide (count<=S.n - at_))):=rfl;generalize S.has at_ count=q at *;generalize S.n=n at *
 by_cases h0:0<=at_
 · by_cases h3:1<=count
   · by_cases h4:at_ < n
     · have HH:=hid (show q=decide (count<=(n:Int) - at_) by simp [hhas,h0,h3]); clear hhas;have hw:IntKind.i64.wrap ((n:Int) - at_)=(n:Int) - at_:=IntWalk.i64_in _ (by omega);go_enter Tryz.func69,Tryz.ntmps69;go_wp2;go_ret;exact ⟨by rw [HH.out]; rfl,rfl⟩
     · have HH:=hid (show q=false by simp [hhas,h0,h3]; omega); clear hhas;go_enter Tryz.func69,Tryz.ntmps69;go_wp2;go_ret;exact ⟨by rw [HH.out]; rfl,rfl⟩
   · have HH:=hid (show q=false by simp [hhas,h0,h3]); clear hhas;go_enter Tryz.func69,Tryz.ntmps69;go_wp2;go_ret;exact ⟨by rw [HH.out]; rfl,rfl⟩
 · have HH:=hid (show q=false by simp [hhas,h0]); clear hhas;go_enter Tryz.func69,Tryz.ntmps69;go_wp2;go_ret;exact ⟨by rw [HH.out]; rfl,rfl⟩
theorem Gj {w:World} {B r bl c:Nat} {dv vv:Nat->Value} {vs:Nat->List Value} {S:St} {own:Nat->Prop} (h:aP w B r bl c dv vv vs S own) :
 Calls Tryz.prog 70 #[.pointer (some ⟨r,0,none⟩),.int .i64 1] w λe w'=>e=.returned (.bool (decide (S.f1=1)))/\w.grownBy w' (some r)/\aP w' B r bl c dv vv vs { S with f1:=S.f1 - 1 } own:=by
 have hc:=h.r2;have hf:=h.JG 2;have hle:=h.ok.f1
 by_cases h0:S.f1=0
 · have HE:=hid (show decide (S.f1=1)=false by rw [h0]; rfl);have HS:=hid (show ({ S with f1:=S.f1 - 1 }:St)=S from St.ext' rfl rfl rfl (by show S.f1 - 1=S.f1; omega) rfl rfl rfl);have H:=hid h; clear h;rw [HE.out,HS.out];rw [h0] at hc;clear hle h0 HE HS;go_enter Tryz.func70,Tryz.ntmps70;go_wp2;go_ret;exact ⟨rfl,akr _ _,H.out⟩
 · have hx:((S.f1 - 1:Nat):Int)=(S.f1:Int) - 1:=by omega
   have hbk:=h.blk.aC 2 (.int .i64 (S.f1 - 1:Int));have H:=hid (h.struct (T:={ S with f1:=S.f1 - 1 }) (akd (akr w (some r)) 2 (.int .i64 (S.f1 - 1:Int))) { h.ok with f1:=by show S.f1 - 1<=_; omega } rfl rfl rfl (by rw [hx]; exact hbk));clear h hbk;have HX:=hid (show ((S.f1:Int) - 1 == 0)=decide (S.f1=1) by rw [Bool.eq_iff_iff]; simp; omega);clear hx;generalize ({ S with f1:=S.f1 - 1 }:St)=T at *
   generalize decide (S.f1=1)=q at *;generalize S.f1=m at *;have hm:(m:Int)≠0:=by omega
   have hw:IntKind.i64.wrap ((m:Int) - 1)=(m:Int) - 1:=IntWalk.i64_in _ (by omega);go_enter Tryz.func70,Tryz.ntmps70;go_wp2_with fail
   go_region
   go_wp2;go_ret;exact ⟨by rw [<-HX.out]; rfl,kM (akd (akr _ _) _ _),H.out.drew⟩
theorem Gi {w:World} {B r bl c:Nat} {dv vv:Nat->Value} {vs:Nat->List Value} {S:St} {own:Nat->Prop} (h:aP w B r bl c dv vv vs S own) :
 Calls Tryz.prog 70 #[.pointer (some ⟨r,0,none⟩),.int .i64 2] w λe w'=>e=.returned (.bool (decide (S.f2=1)))/\w.grownBy w' (some r)/\aP w' B r bl c dv vv vs { S with f2:=S.f2 - 1 } own:=by
 have hc:=h.r3;have hf:=h.JG 3;have hle:=h.ok.f2
 by_cases h0:S.f2=0
 · have HE:=hid (show decide (S.f2=1)=false by rw [h0]; rfl);have HS:=hid (show ({ S with f2:=S.f2 - 1 }:St)=S from St.ext' rfl rfl rfl rfl (by show S.f2 - 1=S.f2; omega) rfl rfl);have H:=hid h; clear h;rw [HE.out,HS.out];rw [h0] at hc;clear hle h0 HE HS;go_enter Tryz.func70,Tryz.ntmps70;go_wp2;go_ret;exact ⟨rfl,akr _ _,H.out⟩
 · have hx:((S.f2 - 1:Nat):Int)=(S.f2:Int) - 1:=by omega
   have hbk:=h.blk.aC 3 (.int .i64 (S.f2 - 1:Int));have H:=hid (h.struct (T:={ S with f2:=S.f2 - 1 }) (akd (akr w (some r)) 3 (.int .i64 (S.f2 - 1:Int))) { h.ok with f2:=by show S.f2 - 1<=_; omega } rfl rfl rfl (by rw [hx]; exact hbk));clear h hbk;have HX:=hid (show ((S.f2:Int) - 1 == 0)=decide (S.f2=1) by rw [Bool.eq_iff_iff]; simp; omega);clear hx;generalize ({ S with f2:=S.f2 - 1 }:St)=T at *
   generalize decide (S.f2=1)=q at *;generalize S.f2=m at *;have hm:(m:Int)≠0:=by omega
   have hw:IntKind.i64.wrap ((m:Int) - 1)=(m:Int) - 1:=IntWalk.i64_in _ (by omega);go_enter Tryz.func70,Tryz.ntmps70;go_wp2_with fail
   go_region
   go_wp2;go_ret;exact ⟨by rw [<-HX.out]; rfl,kM (akd (akr _ _) _ _),H.out.drew⟩
theorem Gh {w:World} {B r bl c:Nat} {dv vv:Nat->Value} {vs:Nat->List Value} {S:St} {own:Nat->Prop} (h:aP w B r bl c dv vv vs S own) :
 Calls Tryz.prog 70 #[.pointer (some ⟨r,0,none⟩),.int .i64 3] w λe w'=>e=.returned (.bool (decide (S.f3=1)))/\w.grownBy w' (some r)/\aP w' B r bl c dv vv vs { S with f3:=S.f3 - 1 } own:=by
 have hc:=h.r4;have hf:=h.JG 4;have hle:=h.ok.f3
 by_cases h0:S.f3=0
 · have HE:=hid (show decide (S.f3=1)=false by rw [h0]; rfl);have HS:=hid (show ({ S with f3:=S.f3 - 1 }:St)=S from St.ext' rfl rfl rfl rfl rfl (by show S.f3 - 1=S.f3; omega) rfl);have H:=hid h; clear h;rw [HE.out,HS.out];rw [h0] at hc;clear hle h0 HE HS;go_enter Tryz.func70,Tryz.ntmps70;go_wp2;go_ret;exact ⟨rfl,akr _ _,H.out⟩
 · have hx:((S.f3 - 1:Nat):Int)=(S.f3:Int) - 1:=by omega
   have hbk:=h.blk.aC 4 (.int .i64 (S.f3 - 1:Int));have H:=hid (h.struct (T:={ S with f3:=S.f3 - 1 }) (akd (akr w (some r)) 4 (.int .i64 (S.f3 - 1:Int))) { h.ok with f3:=by show S.f3 - 1<=_; omega } rfl rfl rfl (by rw [hx]; exact hbk));clear h hbk;have HX:=hid (show ((S.f3:Int) - 1 == 0)=decide (S.f3=1) by rw [Bool.eq_iff_iff]; simp; omega);clear hx;generalize ({ S with f3:=S.f3 - 1 }:St)=T at *
   generalize decide (S.f3=1)=q at *;generalize S.f3=m at *;have hm:(m:Int)≠0:=by omega
   have hw:IntKind.i64.wrap ((m:Int) - 1)=(m:Int) - 1:=IntWalk.i64_in _ (by omega);go_enter Tryz.func70,Tryz.ntmps70;go_wp2_with fail
   go_region
   go_wp2;go_ret;exact ⟨by rw [<-HX.out]; rfl,kM (akd (akr _ _) _ _),H.out.drew⟩
theorem Mo {w:World} {B r bl c:Nat} {dv vv:Nat->Value} {vs:Nat->List Value} {S:St} {own:Nat->Prop} (h:aP w B r bl c dv vv vs S own) :
 Calls Tryz.prog 71 #[.pointer (some ⟨r,0,none⟩)] w λe w'=>e=.returned (.tuple #[])/\w.grownBy w' (some r)/\aP w' B r bl c dv vv vs S.done own:=by
 have hc:=h.r5;have hf:=h.JG 5;have h0:=h.ok.l0;have h1:=h.ok.l1
 by_cases hp:0 < S.left
 · have hbk:=h.blk.aC 5 (.int .i64 (S.left - 1:Int));have ht:S.left - 1=tick S.left:=by unfold tick; rw [if_pos hp]
   have H:=hid (h.struct (T:=S.done) (akd (akr w (some r)) 5 (.int .i64 (S.left - 1:Int))) h.ok.done rfl rfl rfl (by
    rw [ht] at hbk ⊢;exact hbk))
   clear h hbk ht;generalize S.done=T at *;generalize S.left=m at *;have hw:IntKind.i64.wrap (m - 1)=m - 1:=IntWalk.i64_in _ (by omega);go_enter Tryz.func71,Tryz.ntmps71;go_wp2
   go_end0
   exact ⟨rfl,akd (akr _ _) _ _,H.out⟩
 · have HS:=hid (show S.done=S from St.ext' rfl rfl rfl rfl rfl rfl (by show tick S.left=S.left; simp [tick,hp]));have H:=hid h; clear h;rw [HS.out];clear HS;generalize S.left=m at *;have hd:decide (0 < m)=false:=by simp; omega
   go_enter Tryz.func71,Tryz.ntmps71;go_wp2
   go_end0
   exact ⟨rfl,akr _ _,H.out⟩
theorem aP.now {w:World} {B r bl c:Nat} {dv vv:Nat->Value} {vs:Nat->List Value} {S:St} {own:Nat->Prop} (h:aP w B r bl c dv vv vs S own) {i:Nat} (hi:i < S.n):∃ A m cap,vv i=.slice A m cap/\m=(S.ae i).length/\m<=cap/\cap<=maxLen/\(m=0->S.now i=S.ag i) /\
 (0 < m->∃ g u,A=some ⟨g,0,none⟩/\g < w.heap.size/\own g/\w.cell? ⟨g,m - 1,none⟩=some u/\BytesAt w own u (S.now i)):=by
 have hp:=h.part i hi;obtain ⟨A,cap,e,h1,h2,_⟩:=hp.row.shape;refine ⟨A,_,cap,e,rfl,h1,h2,λh0=>St.nD (List.length_eq_zero_iff.1 h0),λh0=>?_⟩;obtain ⟨g,cap',e',_,hlt,_,_,hc⟩:=hp.row.reads h0;rw [e] at e';simp only [Value.slice.injEq] at e';obtain ⟨rfl,_,_⟩:=e';have hne:S.ae i≠[]:=List.length_pos_iff.1 h0;have hlast:(S.ae i)[(S.ae i).length - 1]?=some (S.now i):=by
  rw [St.now,List.getLastD_eq_getLast?,<-List.getLast?_eq_getElem?,List.getLast?_eq_some_getLast hne]; rfl
 obtain ⟨u,hu1,hu2⟩:=hp.Lu _ _ hlast;exact ⟨g,u,rfl,hlt,hp.mine g (by rw [e]; rfl),hc _ u hu1,hu2⟩
theorem Mj {w:World} {B r bl c:Nat} {dv vv:Nat->Value} {vs:Nat->List Value} {S:St} {own:Nat->Prop} (h:aP w B r bl c dv vv vs S own) (i:Nat) (hi:i < S.n) :
 Calls Tryz.prog 72 #[.pointer (some ⟨r,0,none⟩),.int .i64 (i:Nat)] w λe w'=>∃ v,e=.returned v/\BytesAt w' own v (S.now i)/\w.grownBy w' none:=by
 have htop:=h.ok.top;have hcap:=h.cap;have HG:=hid (aj9 w (.cells #[dv i,vv i] 68) none);obtain ⟨A,m,cap,hvv,hm,hmc,hcm,hz,hp⟩:=h.now hi;have hc:=h.rc;have hd:=h.cd hi;have hv:=h.cv hi;obtain ⟨gd,cd,hdi⟩:∃ gd cd,dv i=.slice (some ⟨gd,0,none⟩) 256 cd:=by obtain ⟨g,c',_,_,e,_⟩:=(h.part i hi).ag; exact ⟨g,c',e⟩
 have av:=hid (λw' (hg:w.grownBy w' none) v x (hb:BytesAt w own v x)=>(hb.keep (λ_ h=>h) (λg _ _ ho _=>hg.block g (h.lt g ho) (by simp)):BytesAt w' own v x));have hby:=(h.part i hi).ag;rw [hvv] at hv HG;rw [hdi] at hd HG hby
 by_cases h0:m=0
 · have Cn:=hz h0;rw [<-Cn] at hby;have nO:=hid hby;subst h0;clear hp hby hz hm Cn hvv h;generalize S.n=n at *;go_enter Tryz.func72,Tryz.ntmps72;go_wp2;go_ret;exact ⟨_,rfl,av.out _ HG.out _ _ nO.out,HG.out⟩
 · obtain ⟨g,u,rfl,hg1,hg2,hg3,hg4⟩:=hp (by omega);have nO:=hid hg4;obtain ⟨k,rfl⟩:∃ k,m=k+1:=⟨m - 1,by omega⟩;rw [Nat.add_sub_cancel] at hg3;have hwk:IntKind.i64.wrap (k:Int)=(k:Int):=IntWalk.i64_in _ (by unfold maxLen at hcm; omega);have hgn:=Below.heap_alloc w (.cells #[.slice (some ⟨gd,0,none⟩) 256 cd,.slice (some ⟨g,0,none⟩) (k+1) cap] 68) g hg1;clear hp hby hz hm hvv h hg4;generalize S.n=n at *
   go_enter Tryz.func72,Tryz.ntmps72;go_wp2;go_ret;exact ⟨_,rfl,av.out _ HG.out _ _ nO.out,HG.out⟩
section
variable {w:World} {B b bd bm:Nat} {S:St} {f:Nat->Option Value} {own:Nat->Prop}
theorem Lay.c0 (h:Lay w B b bd bm f S own):w.cell? ⟨b,0,none⟩=some (.slice (some ⟨bd,0,none⟩) S.n S.n):=by rw [h.blk.cell]; rfl
theorem Lay.c1 (h:Lay w B b bd bm f S own):w.cell? ⟨b,1,none⟩=some (.map (some bm)):=by rw [h.blk.cell]; rfl
theorem Lay.c3 (h:Lay w B b bd bm f S own):w.cell? ⟨b,3,none⟩=some (.int .i64 (S.f1:Nat)):=by rw [h.blk.cell]; rfl
theorem Lay.c4 (h:Lay w B b bd bm f S own):w.cell? ⟨b,4,none⟩=some (.int .i64 (S.f2:Nat)):=by rw [h.blk.cell]; rfl
theorem Lay.c5 (h:Lay w B b bd bm f S own):w.cell? ⟨b,5,none⟩=some (.int .i64 (S.f3:Nat)):=by rw [h.blk.cell]; rfl
theorem Lay.c6 (h:Lay w B b bd bm f S own):w.cell? ⟨b,6,none⟩=some (.int .i64 S.left):=by rw [h.blk.cell]; rfl
theorem Lay.fz (h:Lay w B b bd bm f S own) (j:Nat):w.frozen? ⟨b,j,none⟩=false:=h.blk.frozen j
end
theorem Cz {w:World} {B b bd bm:Nat} {S:St} {f:Nat->Option Value} {own:Nat->Prop} (h:Lay w B b bd bm f S own) :
 Calls Tryz.prog 48 #[.pointer (some ⟨b,0,none⟩)] w λe w'=>e=.returned (.int .i64 (S.n:Nat))/\w=w':=by
 have hc:=h.c0;clear h;generalize S.n=n at *;go_enter Tryz.func48,Tryz.ntmps48;go_wp2;go_ret;exact ⟨rfl,rfl⟩
theorem tZ {w:World} {B b bd bm:Nat} {S:St} {f:Nat->Option Value} {own:Nat->Prop} (h:Lay w B b bd bm f S own) (at_ count:Int)
 (h1:-9223372036854775808<=at_/\at_<=9223372036854775807) (_:-9223372036854775808<=count/\count<=9223372036854775807) :
 Calls Tryz.prog 91 #[.pointer (some ⟨b,0,none⟩),.int .i64 at_,.int .i64 count] w λe w'=>e=.returned (.bool (S.has at_ count))/\w=w':=by
 have htop:=h.ok.top;have HS:=hid (Cz h);clear h;have hhas:S.has at_ count=(decide (0<=at_) && (decide (1<=count) && decide (count<=S.n - at_))):=rfl;generalize S.has at_ count=r at *;generalize S.n=n at *
 by_cases h0:0<=at_
 · by_cases h3:1<=count
   · have HH:=hid (show r=decide (count<=(n:Int) - at_) by simp [hhas,h0,h3]); clear hhas;have hw:IntKind.i64.wrap ((n:Int) - at_)=(n:Int) - at_:=IntWalk.i64_in _ (by omega);go_enter Tryz.func91,Tryz.ntmps91;go_wp2_with fail;refine HS.out.mono ?_;rintro e w' ⟨rfl,rfl⟩;go_wp2;go_ret;exact ⟨by rw [HH.out]; rfl,rfl⟩
   · have HH:=hid (show r=false by simp [hhas,h0,h3]); clear hhas;go_enter Tryz.func91,Tryz.ntmps91;go_wp2;go_ret;exact ⟨by rw [HH.out]; rfl,rfl⟩
 · have HH:=hid (show r=false by simp [hhas,h0]); clear hhas;go_enter Tryz.func91,Tryz.ntmps91;go_wp2;go_ret;exact ⟨by rw [HH.out]; rfl,rfl⟩
theorem Kj {w:World} {B b bd bm:Nat} {S:St} {f:Nat->Option Value} {own:Nat->Prop} (h:Lay w B b bd bm f S own) :
 Calls Tryz.prog 129 #[.pointer (some ⟨b,0,none⟩),.int .i64 1] w λe w'=>e=.returned (.bool (decide (S.f1=1)))/\w.grownBy w' (some b)/\Lay w' B b bd bm f { S with f1:=S.f1 - 1 } own:=by
 have hc:=h.c3;have hf:=h.fz 3;have hle:=h.ok.f1
 by_cases h0:S.f1=0
 · have HE:=hid (show decide (S.f1=1)=false by rw [h0]; rfl);have HS:=hid (show ({ S with f1:=S.f1 - 1 }:St)=S from St.ext' rfl rfl rfl (by show S.f1 - 1=S.f1; omega) rfl rfl rfl);have H:=hid h; clear h;rw [HE.out,HS.out];rw [h0] at hc;clear hle h0 HE HS;go_enter Tryz.func129,Tryz.ntmps129;go_wp2;go_ret;exact ⟨rfl,akr _ _,H.out⟩
 · have hx:((S.f1 - 1:Nat):Int)=(S.f1:Int) - 1:=by omega
   have H:=hid (h.field 3 (.int .i64 (S.f1 - 1:Int)) (T:={ S with f1:=S.f1 - 1 }) { h.ok with f1:=by show S.f1 - 1<=_; omega } rfl rfl rfl (by rw [<-hx]; rfl));clear h;have HX:=hid (show ((S.f1:Int) - 1 == 0)=decide (S.f1=1) by rw [Bool.eq_iff_iff]; simp; omega);clear hx;generalize ({ S with f1:=S.f1 - 1 }:St)=T at *;generalize decide (S.f1=1)=r at *;generalize S.f1=m at *;have hm:(m:Int)≠0:=by omega
   have hw:IntKind.i64.wrap ((m:Int) - 1)=(m:Int) - 1:=IntWalk.i64_in _ (by omega);go_enter Tryz.func129,Tryz.ntmps129;go_wp2_with fail
   go_region
   go_wp2;go_ret;exact ⟨by rw [<-HX.out]; rfl,kM (akd (akr _ _) _ _),H.out.drew⟩
theorem V8 {w:World} {B b bd bm:Nat} {S:St} {f:Nat->Option Value} {own:Nat->Prop} (h:Lay w B b bd bm f S own) :
 Calls Tryz.prog 129 #[.pointer (some ⟨b,0,none⟩),.int .i64 2] w λe w'=>e=.returned (.bool (decide (S.f2=1)))/\w.grownBy w' (some b)/\Lay w' B b bd bm f { S with f2:=S.f2 - 1 } own:=by
 have hc:=h.c4;have hf:=h.fz 4;have hle:=h.ok.f2
 by_cases h0:S.f2=0
 · have HE:=hid (show decide (S.f2=1)=false by rw [h0]; rfl);have HS:=hid (show ({ S with f2:=S.f2 - 1 }:St)=S from St.ext' rfl rfl rfl rfl (by show S.f2 - 1=S.f2; omega) rfl rfl);have H:=hid h; clear h;rw [HE.out,HS.out];rw [h0] at hc;clear hle h0 HE HS;go_enter Tryz.func129,Tryz.ntmps129;go_wp2;go_ret;exact ⟨rfl,akr _ _,H.out⟩
 · have hx:((S.f2 - 1:Nat):Int)=(S.f2:Int) - 1:=by omega
   have H:=hid (h.field 4 (.int .i64 (S.f2 - 1:Int)) (T:={ S with f2:=S.f2 - 1 }) { h.ok with f2:=by show S.f2 - 1<=_; omega } rfl rfl rfl (by rw [<-hx]; rfl));clear h;have HX:=hid (show ((S.f2:Int) - 1 == 0)=decide (S.f2=1) by rw [Bool.eq_iff_iff]; simp; omega);clear hx;generalize ({ S with f2:=S.f2 - 1 }:St)=T at *;generalize decide (S.f2=1)=r at *;generalize S.f2=m at *;have hm:(m:Int)≠0:=by omega
   have hw:IntKind.i64.wrap ((m:Int) - 1)=(m:Int) - 1:=IntWalk.i64_in _ (by omega);go_enter Tryz.func129,Tryz.ntmps129;go_wp2_with fail
   go_region
   go_wp2;go_ret;exact ⟨by rw [<-HX.out]; rfl,kM (akd (akr _ _) _ _),H.out.drew⟩
theorem V7 {w:World} {B b bd bm:Nat} {S:St} {f:Nat->Option Value} {own:Nat->Prop} (h:Lay w B b bd bm f S own) :
 Calls Tryz.prog 129 #[.pointer (some ⟨b,0,none⟩),.int .i64 3] w λe w'=>e=.returned (.bool (decide (S.f3=1)))/\w.grownBy w' (some b)/\Lay w' B b bd bm f { S with f3:=S.f3 - 1 } own:=by
 have hc:=h.c5;have hf:=h.fz 5;have hle:=h.ok.f3
 by_cases h0:S.f3=0
 · have HE:=hid (show decide (S.f3=1)=false by rw [h0]; rfl);have HS:=hid (show ({ S with f3:=S.f3 - 1 }:St)=S from St.ext' rfl rfl rfl rfl rfl (by show S.f3 - 1=S.f3; omega) rfl);have H:=hid h; clear h;rw [HE.out,HS.out];rw [h0] at hc;clear hle h0 HE HS;go_enter Tryz.func129,Tryz.ntmps129;go_wp2;go_ret;exact ⟨rfl,akr _ _,H.out⟩
 · have hx:((S.f3 - 1:Nat):Int)=(S.f3:Int) - 1:=by omega
   have H:=hid (h.field 5 (.int .i64 (S.f3 - 1:Int)) (T:={ S with f3:=S.f3 - 1 }) { h.ok with f3:=by show S.f3 - 1<=_; omega } rfl rfl rfl (by rw [<-hx]; rfl));clear h;have HX:=hid (show ((S.f3:Int) - 1 == 0)=decide (S.f3=1) by rw [Bool.eq_iff_iff]; simp; omega);clear hx;generalize ({ S with f3:=S.f3 - 1 }:St)=T at *;generalize decide (S.f3=1)=r at *;generalize S.f3=m at *;have hm:(m:Int)≠0:=by omega
   have hw:IntKind.i64.wrap ((m:Int) - 1)=(m:Int) - 1:=IntWalk.i64_in _ (by omega);go_enter Tryz.func129,Tryz.ntmps129;go_wp2_with fail
   go_region
   go_wp2;go_ret;exact ⟨by rw [<-HX.out]; rfl,kM (akd (akr _ _) _ _),H.out.drew⟩
theorem ED {w:World} {B b bd bm:Nat} {S:St} {f:Nat->Option Value} {own:Nat->Prop} (h:Lay w B b bd bm f S own) :
 Calls Tryz.prog 92 #[.pointer (some ⟨b,0,none⟩),.int .i64 2] w λe w'=>e=.returned (.bool (decide (S.f2=1) || decide (S.left=0)))/\w.grownBy w' (some b)/\Lay w' B b bd bm f { S with f2:=S.f2 - 1 } own:=by
 have HD:=hid (V8 h);have HL:=hid (show ({ S with f2:=S.f2 - 1 }:St).left=S.left from rfl);clear h;generalize ({ S with f2:=S.f2 - 1 }:St)=T at *
 cases hd:decide (S.f2=1) with
 | true =>
   rw [hd] at HD;clear hd;go_enter Tryz.func92,Tryz.ntmps92;go_wp2_with fail;refine HD.out.mono ?_;rintro e w1 ⟨rfl,hg,hl⟩;have HG:=hid hg; have H:=hid hl; clear hg hl;go_wp2;go_ret;exact ⟨rfl,HG.out,H.out⟩
 | false =>
   rw [hd] at HD;clear hd;go_enter Tryz.func92,Tryz.ntmps92;go_wp2_with fail;refine HD.out.mono ?_;rintro e w1 ⟨rfl,hg,hl⟩;have hc:=hl.c6;rw [HL.out] at hc;have HG:=hid hg; have H:=hid hl; clear hg hl;obtain ⟨l,hl⟩:∃ l,l=S.left:=⟨_,rfl⟩;rw [<-hl] at hc;have HX:=hid (show (l == 0)=(false || decide (S.left=0)) by rw [hl,Bool.eq_iff_iff]; simp);clear hl HL;go_wp2;go_ret;exact ⟨congrArg (λx=>Ending.returned (.bool x)) HX.out,HG.out,H.out⟩
theorem EC {w:World} {B b bd bm:Nat} {S:St} {f:Nat->Option Value} {own:Nat->Prop} (h:Lay w B b bd bm f S own) :
 Calls Tryz.prog 92 #[.pointer (some ⟨b,0,none⟩),.int .i64 3] w λe w'=>e=.returned (.bool (decide (S.f3=1) || decide (S.left=0)))/\w.grownBy w' (some b)/\Lay w' B b bd bm f { S with f3:=S.f3 - 1 } own:=by
 have HD:=hid (V7 h);have HL:=hid (show ({ S with f3:=S.f3 - 1 }:St).left=S.left from rfl);clear h;generalize ({ S with f3:=S.f3 - 1 }:St)=T at *
 cases hd:decide (S.f3=1) with
 | true =>
   rw [hd] at HD;clear hd;go_enter Tryz.func92,Tryz.ntmps92;go_wp2_with fail;refine HD.out.mono ?_;rintro e w1 ⟨rfl,hg,hl⟩;have HG:=hid hg; have H:=hid hl; clear hg hl;go_wp2;go_ret;exact ⟨rfl,HG.out,H.out⟩
 | false =>
   rw [hd] at HD;clear hd;go_enter Tryz.func92,Tryz.ntmps92;go_wp2_with fail;refine HD.out.mono ?_;rintro e w1 ⟨rfl,hg,hl⟩;have hc:=hl.c6;rw [HL.out] at hc;have HG:=hid hg; have H:=hid hl; clear hg hl;obtain ⟨l,hl⟩:∃ l,l=S.left:=⟨_,rfl⟩;rw [<-hl] at hc;have HX:=hid (show (l == 0)=(false || decide (S.left=0)) by rw [hl,Bool.eq_iff_iff]; simp);clear hl HL;go_wp2;go_ret;exact ⟨congrArg (λx=>Ending.returned (.bool x)) HX.out,HG.out,H.out⟩
theorem Kk {w:World} {B b bd bm:Nat} {S:St} {f:Nat->Option Value} {own:Nat->Prop} (h:Lay w B b bd bm f S own) :
 Calls Tryz.prog 94 #[.pointer (some ⟨b,0,none⟩)] w λe w'=>e=.returned (.tuple #[])/\w.grownBy w' (some b)/\Lay w' B b bd bm f S.done own:=by
 have hc:=h.c6;have hf:=h.fz 6;have h0:=h.ok.l0;have h1:=h.ok.l1
 by_cases hp:0 < S.left
 · have H:=hid (h.field 6 (.int .i64 (S.left - 1:Int)) (T:=S.done) h.ok.done rfl rfl rfl (by
    show _=#[_,_,_,_,_,_,Value.int .i64 (tick S.left)];simp only [tick,hp,if_true]; rfl))
   clear h;generalize S.done=T at *;generalize S.left=m at *;have hw:IntKind.i64.wrap (m - 1)=m - 1:=IntWalk.i64_in _ (by omega);go_enter Tryz.func94,Tryz.ntmps94;go_wp2
   go_end0
   exact ⟨rfl,akd (akr _ _) _ _,H.out⟩
 · have HS:=hid (show S.done=S from St.ext' rfl rfl rfl rfl rfl rfl (by show tick S.left=S.left; simp [tick,hp]));have H:=hid h; clear h;rw [HS.out];clear HS;generalize S.left=m at *;have hd:decide (0 < m)=false:=by simp; omega
   go_enter Tryz.func94,Tryz.ntmps94;go_wp2
   go_end0
   exact ⟨rfl,akr _ _,H.out⟩
def wQ (kind n:Int):Prop:=kind < 1\/3 < kind\/n < 1\/1099511627776 < n
theorem CB (p:Value) (kind n:Int) (w:World) (hb:wQ kind n) :
 Calls Tryz.prog 40 #[p,.int .i64 kind,.int .i64 n] w λe w'=>e=.returned (.int .i64 1)/\w=w':=by
 by_cases h1:kind < 1
 · go_enter Tryz.func40,Tryz.ntmps40;go_wp2;go_ret;exact ⟨rfl,rfl⟩
 by_cases h2:3 < kind
 · go_enter Tryz.func40,Tryz.ntmps40;go_wp2;go_ret;exact ⟨rfl,rfl⟩
 by_cases h3:n < 1
 · go_enter Tryz.func40,Tryz.ntmps40;go_wp2;go_ret;exact ⟨rfl,rfl⟩
 · have h4:1099511627776 < n:=by rcases hb with h | h | h | h <;> omega
   clear hb;go_enter Tryz.func40,Tryz.ntmps40;go_wp2;go_ret;exact ⟨rfl,rfl⟩
theorem SN {w:World} {B b bd bm:Nat} {S:St} {f:Nat->Option Value} {own:Nat->Prop} (h:Lay w B b bd bm f S own) (n:Nat) (h1:1<=n) (h2:n<=1099511627776) :
 Calls Tryz.prog 40 #[.pointer (some ⟨b,0,none⟩),.int .i64 1,.int .i64 (n:Nat)] w λe w'=>e=.returned (.int .i64 0)/\w.grownBy w' (some b)/\Lay w' B b bd bm f { S with f1:=n } own:=by
 have hc:=h.c3;have hf:=h.fz 3;have H:=hid (h.field 3 (.int .i64 (n:Nat)) (T:={ S with f1:=n }) { h.ok with f1:=h2 } rfl rfl rfl rfl);clear h;have hd1:decide ((n:Int) < 1)=false:=by simp; omega
 have hd2:decide (1099511627776 < (n:Int))=false:=by simp; omega
 go_enter Tryz.func40,Tryz.ntmps40;go_wp2;go_ret;exact ⟨rfl,akd (akr _ _) _ _,H.out⟩
theorem SL {w:World} {B b bd bm:Nat} {S:St} {f:Nat->Option Value} {own:Nat->Prop} (h:Lay w B b bd bm f S own) (n:Nat) (h1:1<=n) (h2:n<=1099511627776) :
 Calls Tryz.prog 40 #[.pointer (some ⟨b,0,none⟩),.int .i64 2,.int .i64 (n:Nat)] w λe w'=>e=.returned (.int .i64 0)/\w.grownBy w' (some b)/\Lay w' B b bd bm f { S with f2:=n } own:=by
 have hc:=h.c4;have hf:=h.fz 4;have H:=hid (h.field 4 (.int .i64 (n:Nat)) (T:={ S with f2:=n }) { h.ok with f2:=h2 } rfl rfl rfl rfl);clear h;have hd1:decide ((n:Int) < 1)=false:=by simp; omega
 have hd2:decide (1099511627776 < (n:Int))=false:=by simp; omega
 go_enter Tryz.func40,Tryz.ntmps40;go_wp2;go_ret;exact ⟨rfl,akd (akr _ _) _ _,H.out⟩
theorem SK {w:World} {B b bd bm:Nat} {S:St} {f:Nat->Option Value} {own:Nat->Prop} (h:Lay w B b bd bm f S own) (n:Nat) (h1:1<=n) (h2:n<=1099511627776) :
 Calls Tryz.prog 40 #[.pointer (some ⟨b,0,none⟩),.int .i64 3,.int .i64 (n:Nat)] w λe w'=>e=.returned (.int .i64 0)/\w.grownBy w' (some b)/\Lay w' B b bd bm f { S with f3:=n } own:=by
 have hc:=h.c5;have hf:=h.fz 5;have H:=hid (h.field 5 (.int .i64 (n:Nat)) (T:={ S with f3:=n }) { h.ok with f3:=h2 } rfl rfl rfl rfl);clear h;have hd1:decide ((n:Int) < 1)=false:=by simp; omega
 have hd2:decide (1099511627776 < (n:Int))=false:=by simp; omega
 go_enter Tryz.func40,Tryz.ntmps40;go_wp2;go_ret;exact ⟨rfl,akd (akr _ _) _ _,H.out⟩
theorem PR (p:Value) (n:Int) (w:World) (hb:n < 0\/1099511627776 < n) :
 Calls Tryz.prog 42 #[p,.int .i64 n] w λe w'=>e=.returned (.int .i64 1)/\w=w':=by
 by_cases h1:n < 0
 · clear hb;go_enter Tryz.func42,Tryz.ntmps42;go_wp2;go_ret;exact ⟨rfl,rfl⟩
 · have h4:1099511627776 < n:=by rcases hb with h | h <;> omega
   clear hb;go_enter Tryz.func42,Tryz.ntmps42;go_wp2;go_ret;exact ⟨rfl,rfl⟩
theorem YB {w:World} {B b bd bm:Nat} {S:St} {f:Nat->Option Value} {own:Nat->Prop} (h:Lay w B b bd bm f S own) (n:Int) (h1:0<=n) (h2:n<=1099511627776) :
 Calls Tryz.prog 42 #[.pointer (some ⟨b,0,none⟩),.int .i64 n] w λe w'=>e=.returned (.int .i64 0)/\w.grownBy w' (some b)/\Lay w' B b bd bm f { S with left:=n } own:=by
 have hc:=h.c6;have hf:=h.fz 6;have H:=hid (h.field 6 (.int .i64 n) (T:={ S with left:=n }) { h.ok with l0:=by show -1<=n; omega,l1:=h2 } rfl rfl rfl rfl);clear h;have hd1:decide (n < 0)=false:=by simp; omega
 have hd2:decide (1099511627776 < n)=false:=by simp; omega
 go_enter Tryz.func42,Tryz.ntmps42;go_wp2;go_ret;exact ⟨rfl,akd (akr _ _) _ _,H.out⟩
theorem KT (n:Int) (v:Nat) (w:World) (hv:v < 9223372036854775807) :
 Calls Tryz.prog 87 #[.int .i64 n,.int .i64 ((v:Int)+1)] w λe w'=>e=.returned (.int .i64 (n % ((v:Int)+1)))/\w=w':=by
 have hp:(0:Int) < (v:Int)+1:=by omega
 have he:=Int.emod_nonneg n (show ((v:Int)+1)≠0 by omega);have hl:=Int.emod_lt_of_pos n hp;have ht:n.tmod ((v:Int)+1)=if 0<=n\/n % ((v:Int)+1)=0 then n % ((v:Int)+1) else n % ((v:Int)+1) - ((v:Int)+1):=by
  rw [Int.tmod_eq_emod]
  split
  · rename_i h
    rw [if_pos (by rcases h with h | h; exact .inl h; exact .inr (Int.emod_eq_zero_of_dvd h))];omega
  · rename_i h
    rw [if_neg (λe=>h (by rcases e with e | e; exact .inl e; exact .inr (Int.dvd_of_emod_eq_zero e)))];omega
 generalize n % ((v:Int)+1)=r at *;generalize hm:n.tmod ((v:Int)+1)=m at *;have hw:IntKind.i64.wrap m=m:=IntWalk.i64_in _ (by rw [ht]; split <;> omega);have hne:((v:Int)+1 == 0)=false:=by simp; omega
 by_cases hc:0<=n\/r=0
 · rw [if_pos hc] at ht;subst ht;have hd:decide (m < 0)=false:=by simp; omega
   clear hc;go_enter Tryz.func87,Tryz.ntmps87;go_wp2;go_ret;exact ⟨rfl,rfl⟩
 · rw [if_neg hc] at ht;have hd:m < 0:=by omega
   have hw2:IntKind.i64.wrap (m+((v:Int)+1))=m+((v:Int)+1):=IntWalk.i64_in _ (by omega);have HR:=hid (show m+((v:Int)+1)=r by omega);clear hc ht;go_enter Tryz.func87,Tryz.ntmps87;go_wp2;go_ret;exact ⟨congrArg (λx=>Ending.returned (.int .i64 x)) HR.out,rfl⟩
theorem KU (p:Value) (a:Int) (A:Option Addr) (n c:Nat) (bq:Bool) (w:World) (hn:n<=9223372036854775807) (hb:n=0\/n % 256≠0) :
 Calls Tryz.prog 24 #[p,.int .i64 a,.slice A n c,.bool bq] w λe w'=>e=.returned (.int .i64 1)/\w=w':=by
 have si:(n:Int).tdiv 256=((n / 256:Nat):Int):=by rw [Int.tdiv_eq_ediv_of_nonneg (by omega)]; omega
 have El:IntKind.i64.wrap ((n / 256:Nat):Int)=((n / 256:Nat):Int):=IntWalk.i64_in _ (by omega)
 by_cases h0:n / 256=0
 · rw [h0] at si El;clear hb;go_enter Tryz.func24,Tryz.ntmps24;go_wp2;go_ret;exact ⟨rfl,rfl⟩
 · have h1:n % 256≠0:=by rcases hb with h | h; omega; exact h
   have zy:((n:Int).tmod 256 != 0)=true:=by rw [akm (by omega)]; simp; omega
   have hw4:IntKind.i64.wrap ((n:Int).tmod 256)=(n:Int).tmod 256:=IntWalk.i64_in _ (by rw [akm (by omega)]; omega);have hq0:(((n / 256:Nat):Int) == 0)=false:=by simp; omega
   generalize (n:Int).tmod 256=m at *;generalize n / 256=q at *;clear hb;go_enter Tryz.func24,Tryz.ntmps24;go_wp2;go_ret;exact ⟨rfl,rfl⟩
theorem Gg {w:World} {B r bl c:Nat} {dv vv:Nat->Value} {vs:Nat->List Value} {S:St} {own:Nat->Prop} (h:aP w B r bl c dv vv vs S own) (a:Int) (A:Option Addr) (count cc:Nat) (bq:Bool)
 (ha:-9223372036854775808<=a/\a<=9223372036854775807) (h1:1<=count) (h2:count<=36028797018963967) (hn:S.has a count=false) :
 Calls Tryz.prog 24 #[.pointer (some ⟨r,0,none⟩),.int .i64 a,.slice A (count * 256) cc,.bool bq] w λe w'=>e=.returned (.int .i64 2)/\w=w':=by
 have HH:=hid (qQ h a (count:Int) ha (by omega));rw [hn] at HH;clear h hn;have hm1:((count * 256:Nat):Int) % 256=0:=by omega
 have hm2:((count * 256:Nat):Int) / 256=(count:Int):=by omega
 have sj:((count:Int) == 0)=false:=by simp; omega
 have hbig:count * 256<=9223372036854775807:=by omega
 generalize count * 256=n at *;have zy:(n:Int).tmod 256=0:=by rw [akm (by omega)]; exact hm1
 have si:(n:Int).tdiv 256=(count:Int):=by rw [Int.tdiv_eq_ediv_of_nonneg (by omega)]; exact hm2
 have El:IntKind.i64.wrap (count:Int)=(count:Int):=IntWalk.i64_in _ (by omega);go_enter Tryz.func24,Tryz.ntmps24;go_wp2_with fail;refine HH.out.mono ?_;rintro e w' ⟨rfl,rfl⟩;go_wp2;go_ret;exact ⟨rfl,rfl⟩
theorem IB {w:World} {B r bl c:Nat} {dv vv:Nat->Value} {vs:Nat->List Value} {S:St} {own:Nat->Prop} (h:aP w B r bl c dv vv vs S own) (a:Int) (A:Option Addr) (count cc:Nat) (bq:Bool)
 (ha:-9223372036854775808<=a/\a<=9223372036854775807) (h1:1<=count) (h2:count<=36028797018963967) (hn:S.has a count=true) (hs:S.f2=1\/S.left=0) :
 Calls Tryz.prog 24 #[.pointer (some ⟨r,0,none⟩),.int .i64 a,.slice A (count * 256) cc,.bool bq] w λe w'=>e=.returned (.int .i64 11)/\aP w' B r bl c dv vv vs { S with f2:=S.f2 - 1 } own/\aa w w' own own:=by
 have HH:=hid (qQ h a (count:Int) ha (by omega));rw [hn] at HH;have HD:=hid (Gi h);have jB:=hid h.jK;clear h hn
 by_cases hf:S.f2=1
 · rw [show decide (S.f2=1)=true by simp [hf]] at HD;clear hs hf;generalize ({ S with f2:=S.f2 - 1 }:St)=T at *;have hm1:((count * 256:Nat):Int) % 256=0:=by omega
   have hm2:((count * 256:Nat):Int) / 256=(count:Int):=by omega
   have sj:((count:Int) == 0)=false:=by simp; omega
   have hbig:count * 256<=9223372036854775807:=by omega
   generalize count * 256=n at *;have zy:(n:Int).tmod 256=0:=by rw [akm (by omega)]; exact hm1
   have si:(n:Int).tdiv 256=(count:Int):=by rw [Int.tdiv_eq_ediv_of_nonneg (by omega)]; exact hm2
   have El:IntKind.i64.wrap (count:Int)=(count:Int):=IntWalk.i64_in _ (by omega);go_enter Tryz.func24,Tryz.ntmps24;go_wp2_with fail;refine HH.out.mono ?_;rintro e w' ⟨rfl,rfl⟩;go_wp2_with fail;refine HD.out.mono ?_;rintro e w1 ⟨rfl,hg1,hl1⟩;have az:=hid hg1; have H1:=hid hl1; clear hg1 hl1;go_wp2;go_ret;exact ⟨rfl,H1.out,aa.aA az.out (λq e=>by cases e; exact jB.out)⟩
 · have hl0:S.left=0:=by rcases hs with h | h; exact absurd h hf; exact h
   rw [show decide (S.f2=1)=false by simp [hf]] at HD;have hleft:({ S with f2:=S.f2 - 1 }:St).left=0:=hl0;clear hs hf hl0;generalize ({ S with f2:=S.f2 - 1 }:St)=T at *;have hm1:((count * 256:Nat):Int) % 256=0:=by omega
   have hm2:((count * 256:Nat):Int) / 256=(count:Int):=by omega
   have sj:((count:Int) == 0)=false:=by simp; omega
   have hbig:count * 256<=9223372036854775807:=by omega
   generalize count * 256=n at *;have zy:(n:Int).tmod 256=0:=by rw [akm (by omega)]; exact hm1
   have si:(n:Int).tdiv 256=(count:Int):=by rw [Int.tdiv_eq_ediv_of_nonneg (by omega)]; exact hm2
   have El:IntKind.i64.wrap (count:Int)=(count:Int):=IntWalk.i64_in _ (by omega);go_enter Tryz.func24,Tryz.ntmps24;go_wp2_with fail;refine HH.out.mono ?_;rintro e w' ⟨rfl,rfl⟩;go_wp2_with fail;refine HD.out.mono ?_;rintro e w1 ⟨rfl,hg1,hl1⟩;have Ct:=hl1.r5;rw [hleft] at Ct;have az:=hid hg1; have H1:=hid hl1; clear hg1 hl1 hleft;go_wp2;go_ret;exact ⟨rfl,H1.out,aa.aA az.out (λq e=>by cases e; exact jB.out)⟩
end Go.Proofs.YtinajlbijgedbaaGreat.Dsk
