/- Texts of this seat's proofs: OpenOps, LogIn, LogScript, StoScript, RelScript. -/
import Derived.Test.YtinajlbijgedbaaGreatQBytes
import Derived.Test.YtinajlbijgedbaaGreatQDiskFlush
import Derived.Test.YtinajlbijgedbaaGreatQLogImgs
import Derived.Deep.Fields
import Derived.ChangeArms
import Derived.ChangeSlices
import Derived.WideShapes
import Derived.OpenShut
namespace Go.Proofs.YtinajlbijgedbaaGreat.Dsk
open Go.ChangeShapes Go.WideShapes Go.RowKit Mem Crc DiskSpec
section
variable {H:Type} {enc:TypeId × Value->H} {P:Program} {w:World} {base:Nat} {spare:Nat->Bool} {held:Bool}
end
def QK (w:World) (A:Option Addr) (n:Nat) (l:List Int):Prop :=
 l.length=n/\(∀ x∈l,-9223372036854775808<=x/\x<=9223372036854775807)/\(0 < n->∃ g o,A=some ⟨g,o,none⟩/\g < w.heap.size/\∀ j,j < n->w.cell? ⟨g,o+j,none⟩=some (.int .i64 (l.getD j 0)))
theorem QK.picks {w w':World} {A:Option Addr} {n:Nat} {l:List Int} {own:Nat->Prop} (h:QK w A n l) (hg:Below w.heap.size w w') (ho:∀ i,own i->w.heap.size<=i):yw w' own A n l:=by
 refine ⟨h.1,h.2.1,λhn=>?_⟩;obtain ⟨g,o,rfl,hlt,hc⟩:=h.2.2 hn;exact ⟨g,o,rfl,ake hlt hg.size,λe=>by have:=ho g e; omega,λj hj=>by rw [aki (a:=⟨g,o+j,none⟩) (hg.block g hlt)]; exact hc j hj⟩
section
variable {H:Type} {enc:TypeId × Value->H} {w:World} {fuel:Nat} {cs:List Value} {x:DataW H × List MemPlace}
theorem xh (h:DataW.trod enc Tryz.prog w 0 (λ_=>true) true fuel 3 cs=some x):∃ n,cs=[.int .i64 n]/\-9223372036854775808<=n/\n<=9223372036854775807:=by
 obtain ⟨n,h1,_,h2⟩:=DataW.trod_int Tryz.underlying3 h;exact ⟨n,h1,bounds_i64 h2⟩
theorem Wu (h:DataW.trod enc Tryz.prog w 0 (λ_=>true) true fuel 4 cs=some x):∃ n,cs=[.bool n]:=by
 obtain ⟨n,h1,_⟩:=DataW.trod_bool Tryz.underlying4 h;exact ⟨n,h1⟩
end
section
variable {H:Type} {enc:TypeId × Value->H} {w:World} {fuel:Nat} {cs:List Value} {x:DataW H × List MemPlace}
end
theorem EG {α:Type} {p:Nat->α->Prop}:∀ n,(∀ j,j < n->∃ x,p j x)->∃ l:List α,l.length=n/\∀ j x,l[j]?=some x->p j x
 | 0,_=>⟨[],rfl,λj x h=>by simp at h⟩
 | n+1,h=>by
   obtain ⟨l,h1,h2⟩:=EG n (λj hj=>h j (by omega));obtain ⟨x,hx⟩:=h n (by omega);refine ⟨l ++ [x],by simp [h1],λj y hy=>?_⟩;rcases Nat.lt_or_ge j n with hj | hj
   · rw [List.getElem?_append_left (by omega)] at hy; exact h2 j y hy
   · rw [akv (by omega)] at hy;have:j=n:=by
      have:=(List.getElem?_eq_some_iff.1 hy).1
      simp at this; omega
     subst this;rw [h1] at hy
     simp at hy
     subst hy; exact hx
section
variable {H:Type} {enc:TypeId × Value->H} {W:World} {base:Nat} {v:Value} {d:DataW H} {p:List MemPlace}
end
end Go.Proofs.YtinajlbijgedbaaGreat.Dsk
namespace Go.Proofs.YtinajlbijgedbaaGreat.Log
open Go.ChangeShapes Go.WideShapes Go.RowKit CrcMath CodecMath Mem Crc Codec DiskSpec Dsk Sup
section
variable {W w w':World} {B b tb g:Nat} {S T:St} {own own':Nat->Prop} {L M:Lg}
end
end Go.Proofs.YtinajlbijgedbaaGreat.Log
set_option maxRecDepth 100000
set_option maxHeartbeats 16000000
namespace Go.Proofs.YtinajlbijgedbaaGreat.Log
open Go.ChangeShapes Go.WideShapes Go.RowKit CrcMath CodecMath Mem Crc Codec DiskSpec Dsk Sup
theorem YH {H:Type}:∀ d:DataW H,1<=Rows.uptoBulk d:=by
 intro d
 cases d with
 | lit l=>cases l <;> simp [Rows.uptoBulk]
 | _=>simp [Rows.uptoBulk]
theorem FK {H:Type}:∀ l:List (DataW H),l.length<=Rows.uptoBulkAll l
 | []=>by simp [Rows.uptoBulkAll]
 | x :: r=>by have:=YH x; have:=FK r; simp only [Rows.uptoBulkAll,List.length_cons]; omega
theorem NU {H:Type} {d:DataW H}:∀ {l:List (DataW H)},d∈l->Rows.uptoBulk d<=Rows.uptoBulkAll l
 | [],h=>by cases h
 | x :: r,h=>by
   simp only [Rows.uptoBulkAll];rcases List.mem_cons.1 h with rfl | h
   · omega
   · have:=NU h; omega
theorem Tc {H:Type} {ds:List (DataW H)} {d:DataW H} (hk:Rows.uptoSmall H ds=true) (hd:d∈ds):Rows.uptoBulk d<=1048576:=by
 unfold Rows.uptoSmall at hk;rw [decide_eq_true_eq] at hk;exact akh (NU hd) hk
section
variable {H:Type} {enc:TypeId × Value->H} {w:World} {fuel:Nat} {cs:List Value} {x:DataW H × List MemPlace}
theorem K5 {P:Program} {t:TypeId} {fs:Array Field} (hs:P.underlying t=some (.struct fs)) (h:DataW.trod enc P w 0 (λ_=>true) true fuel t cs=some x) :
 ∃ (n:Nat) (xs:List (DataW H × List MemPlace)),x.1=.agg (xs.map (·.1))/\cs.length=P.cellsOf t/\∀ (i o:Nat) (ft:TypeId),(fs[i]?).map (λf=>(f.offset,f.type))=some (o,ft)->∃ y,xs[i]?=some y/\DataW.trod enc P w 0 (λ_=>true) true n ft ((cs.drop o).take (P.cellsOf ft))=some y:=by
 obtain ⟨xs,n,_,hx,hl,hlen,hg⟩:=DataW.trod_struct hs h;refine ⟨n,xs,by rw [hx],hl,λi o ft hi'=>?_⟩;obtain ⟨f,hi,hf'⟩:=Option.map_eq_some_iff.1 hi';simp only [Prod.mk.injEq] at hf';obtain ⟨rfl,rfl⟩:=hf';have hlt:i < fs.size:=(Array.getElem?_eq_some_iff.1 hi).1;refine ⟨xs[i]'(by omega),akj (by omega),?_⟩;have h1:=hg i f hi;rw [akj (by omega)] at h1;exact h1
theorem PG (h:DataW.trod enc Tryz.prog w 0 (λ_=>true) true fuel 45 cs=some x) :
 ∃ A n c l,cs=[.slice A n c]/\QK w A n l/\n<=c/\c<=maxLen/\n<=Rows.uptoBulk x.1:=by
 rcases open_ints Tryz.underlying45 Tryz.underlying3 (by kernel_rfl) h with ⟨hcs,rfl⟩ | ⟨a,l,c,zs,hcs,_,hl,hm,hz,hx,hcell,hwz⟩
 · exact ⟨_,_,_,[],hcs,⟨rfl,by simp,by omega⟩,akf _,by simp [maxLen],aks _⟩
 · have hz':zs.length=c:=by simpa using hz
   refine ⟨_,_,_,zs.take l,hcs,⟨by simp; omega,λy hy=>bounds_i64 (hwz y (akq hy)),λhn=>?_⟩,hl,hm,?_⟩
   · obtain ⟨g,o,sp⟩:=a;have h0:=hcell 0 (by omega);have hsp:sp=none:=by simpa [Addr.add] using World.cell?_spot h0
     subst hsp;have hlt:g < w.heap.size:=by have:=World.block_lt_of_cell? w _ h0; simpa [Addr.add] using this
     refine ⟨g,o,rfl,hlt,λj hj=>?_⟩;have h1:=hcell j (by omega);rw [Addr.add_mid] at h1;rw [h1]
     congr 2
     simp [akg,hj]
   · rw [hx];have h1:=FK (lits (H:=H) IntKind.i64 (zs.take l));have h2:(lits (H:=H) IntKind.i64 (zs.take l)).length=l:=by simp [lits]; omega
     simp only [Rows.uptoBulk];omega
end
section
variable {H:Type} {enc:TypeId × Value->H} {w:World} {fuel:Nat} {cs:List Value} {x:DataW H × List MemPlace}
end
section
variable {H:Type} {enc:TypeId × Value->H} {W:World} {base:Nat} {v:Value} {d:DataW H} {p:List MemPlace}
end
end Go.Proofs.YtinajlbijgedbaaGreat.Log
namespace Go.Proofs.YtinajlbijgedbaaGreat.Sto
open Go.ChangeShapes Go.WideShapes Go.RowKit CrcMath CodecMath Mem Crc Codec DiskSpec Dsk Sup Log
def In64 (x:Int):Prop:=-9223372036854775808<=x/\x<=9223372036854775807
section
variable {H:Type} {enc:TypeId × Value->H} {w:World} {fuel:Nat} {cs:List Value} {x:DataW H × List MemPlace}
end
section
variable {H:Type} {enc:TypeId × Value->H} {W:World} {base:Nat} {v:Value} {d:DataW H} {p:List MemPlace}
end
structure O7 where
 kind:Int
 start:Int
 len:Int
 page:Int
 fill:Int
 left:Bool
 A:Option Addr
 n:Nat
 c:Nat
 picks:List Int
def O7.cells (x:O7):List Value:=[.int .i64 x.kind,.int .i64 x.start,.int .i64 x.len,.int .i64 x.page,.int .i64 x.fill,.bool x.left,.slice x.A x.n x.c]
structure O7.ok (w:World) (x:O7):Prop where
 picks:QK w x.A x.n x.picks
 n:x.n<=maxLen
 kind:In64 x.kind
 start:In64 x.start
 len:In64 x.len
 page:In64 x.page
 fill:In64 x.fill
section
variable {H:Type} {enc:TypeId × Value->H} {w:World} {fuel:Nat} {cs:List Value} {x:DataW H × List MemPlace}
theorem aav (h:DataW.trod enc Tryz.prog w 0 (λ_=>true) true fuel 47 cs=some x):∃ y:O7,cs=y.cells/\y.ok w:=by
 obtain ⟨n,xs,hx,hl,hf⟩:=K5 Tryz.underlying47 h;rw [show Tryz.prog.cellsOf 47=7 from by kernel_rfl] at hl
 match cs,hl with
 | [c0,c1,c2,c3,c4,c5,c6],_ =>
   have k1:Tryz.prog.cellsOf 3=1:=by kernel_rfl
   have k2:Tryz.prog.cellsOf 4=1:=by kernel_rfl
   have k3:Tryz.prog.cellsOf 45=1:=by kernel_rfl
   obtain ⟨_,_,h0⟩:=hf 0 0 3 rfl;obtain ⟨_,_,h1⟩:=hf 1 1 3 rfl;obtain ⟨_,_,h2⟩:=hf 2 2 3 rfl;obtain ⟨_,_,h3⟩:=hf 3 3 3 rfl;obtain ⟨_,_,h4⟩:=hf 4 4 3 rfl;obtain ⟨_,_,h5⟩:=hf 5 5 4 rfl;obtain ⟨_,_,h6⟩:=hf 6 6 45 rfl;rw [k1] at h0 h1 h2 h3 h4;rw [k2] at h5;rw [k3] at h6;obtain ⟨a0,e0,b0⟩:=xh h0;obtain ⟨a1,e1,b1⟩:=xh h1;obtain ⟨a2,e2,b2⟩:=xh h2;obtain ⟨a3,e3,b3⟩:=xh h3;obtain ⟨a4,e4,b4⟩:=xh h4;obtain ⟨a5,e5⟩:=Wu h5
   obtain ⟨A2,m2,c2',l2,e6,hp2,hm2,hc2,_⟩:=PG h6
   simp at e0 e1 e2 e3 e4 e5 e6
   subst e0 e1 e2 e3 e4 e5 e6;exact ⟨⟨a0,a1,a2,a3,a4,a5,A2,m2,c2',l2⟩,rfl,hp2,akh hm2 hc2,b0,b1,b2,b3,b4⟩
end
def Je (w:World) (A:Option Addr) (n:Nat) (ops:List O7):Prop :=
 ops.length=n/\(∀ x∈ops,x.ok w)/\(0 < n->∃ g o,A=some ⟨g,o,none⟩/\g < w.heap.size/\∀ j x,ops[j]?=some x->∀ q u,x.cells[q]?=some u->w.cell? ⟨g,o+j * 7+q,none⟩=some u)
section
variable {H:Type} {enc:TypeId × Value->H} {W:World} {base:Nat} {v:Value} {d:DataW H} {p:List MemPlace}
theorem MB (o:Value.okWide Tryz.prog W .any base 22 v) (h:DataW.Trod enc Tryz.prog W 0 (λ_=>true) true 22 v d p) {ds:List (DataW H)} (hk:Rows.uptoSmall H ds=true) (hd:d∈ds) :
 ∃ A n c ops,v=.slice A n c/\Je W A n ops/\n<=1048576:=by
 have hbd:=Tc hk hd;obtain ⟨A,n,c,rfl⟩:=okWide_slice Tryz.underlying22 o;obtain ⟨fuel,hf⟩:=h;rcases DataW.trod_slice Tryz.underlying22 hf with ⟨hcs,_⟩ | ⟨a,len,cap,elems,rest,m,_,hcs,hx,_,hl,hm,hlen,hel,_,_⟩
 · simp [Value.cells] at hcs
   obtain ⟨rfl,rfl,rfl⟩:=hcs;exact ⟨_,_,_,[],rfl,⟨rfl,by simp,by omega⟩,by omega⟩
 · simp [Value.cells] at hcs
   obtain ⟨rfl,rfl,rfl⟩:=hcs;rw [show Tryz.prog.cellsOf 47=7 from by kernel_rfl] at hel;have hd2:d=DataW.slice (elems.map (·.1)) (rest.map (·.1)):=congrArg Prod.fst hx;have hall:Rows.uptoBulkAll (elems.map (·.1))<=1048576:=by
    rw [hd2] at hbd;simp only [Rows.uptoBulk] at hbd;omega
   have hne:n<=1048576:=by
    have:=FK (elems.map (·.1));rw [List.length_map,hlen] at this;omega
   have each:∀ j,j < n->∃ y:O7,y.ok W/\∀ q u,y.cells[q]?=some u->W.cell? (a.add (j * 7+q))=some u:=by
    intro j hj;have h1:=hel j hj;have vN:elems[j]?=some (elems[j]'(by omega)):=akj (by omega);rw [vN,Option.bind_eq_some_iff] at h1;obtain ⟨ds,hds,hy⟩:=h1;obtain ⟨y,rfl,hok⟩:=aav hy;refine ⟨y,hok,λq u hq=>?_⟩;have Zf:q < 7:=(List.getElem?_eq_some_iff.1 hq).1;have h2:=(World.cells?_some hds).2.2 q Zf;rw [hq] at h2;have e:(a.add (j * 7)).add q=a.add (j * 7+q):=by
     unfold Addr.add
     split <;> split <;> (try split) <;> simp_all <;> omega
    rw [<-e]; exact h2
   obtain ⟨ops,ho1,ho2⟩:=EG (p:=λj (y:O7)=>y.ok W/\∀ q u,y.cells[q]?=some u->W.cell? (a.add (j * 7+q))=some u) n each;refine ⟨_,_,_,ops,rfl,⟨ho1,λx hx=>?_,λhn=>?_⟩,hne⟩
   · obtain ⟨j,hj,e⟩:=List.getElem_of_mem hx;exact (ho2 j x (by rw [<-e,akj hj])).1
   · obtain ⟨g,off,sp⟩:=a;have h0:=(ho2 0 (ops[0]'(by omega)) (akj (by omega))).2 0 _ rfl;have hsp:sp=none:=by simpa [Addr.add] using World.cell?_spot h0
     subst hsp;have hlt:g < W.heap.size:=by have:=World.block_lt_of_cell? W _ h0; simpa [Addr.add] using this
     refine ⟨g,off,rfl,hlt,λj x hj q u hq=>?_⟩;have h1:=(ho2 j x hj).2 q u hq;rw [Addr.add_mid,<-Nat.add_assoc] at h1;exact h1
end
theorem Je.at_ {W w:World} {A:Option Addr} {n:Nat} {ops:List O7} (h:Je W A n ops) (hg:W.grownBy w none) {j:Nat} (hj:j < n):∃ g o x,A=some ⟨g,o,none⟩/\ops[j]?=some x/\x.ok W /\
 w.cell? ⟨g,o+j * 7,none⟩=some (.int .i64 x.kind)/\w.cell? ⟨g,o+j * 7+1,none⟩=some (.int .i64 x.start)/\w.cell? ⟨g,o+j * 7+2,none⟩=some (.int .i64 x.len)/\w.cell? ⟨g,o+j * 7+3,none⟩=some (.int .i64 x.page) /\
 w.cell? ⟨g,o+j * 7+4,none⟩=some (.int .i64 x.fill)/\w.cell? ⟨g,o+j * 7+5,none⟩=some (.bool x.left)/\w.cell? ⟨g,o+j * 7+6,none⟩=some (.slice x.A x.n x.c):=by
 obtain ⟨g,o,rfl,hlt,hc⟩:=h.2.2 (by omega);have hx:ops[j]?=some (ops[j]'(by rw [h.1]; exact hj)):=akj (by rw [h.1]; exact hj);have hm:=h.2.1 _ (akx hx);have hcc:∀ q u,(ops[j]'(by rw [h.1]; exact hj)).cells[q]?=some u->w.cell? ⟨g,o+j * 7+q,none⟩=some u:=λq u hu=>by
  rw [aki (a:=⟨g,o+j * 7+q,none⟩) (hg.block g hlt (by simp))];exact hc j _ hx q u hu
 exact ⟨g,o,_,rfl,hx,hm,hcc 0 _ rfl,hcc 1 _ rfl,hcc 2 _ rfl,hcc 3 _ rfl,hcc 4 _ rfl,hcc 5 _ rfl,hcc 6 _ rfl⟩
end Go.Proofs.YtinajlbijgedbaaGreat.Sto
