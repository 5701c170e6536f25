/- Texts of this seat's proofs: Own. -/
import Derived.Test.YtinajlbijgedbaaGreatQMem
import Derived.Test.YtinajlbijgedbaaGreatQWords
import Derived.ArgAppend
import Derived.WalkKit
import Derived.RegionTactic
namespace Go.Proofs.YtinajlbijgedbaaGreat.Mem
open Go.RowKit
def Own (w:World) (base:Nat) (e:TypeId) (size:Nat) (v:Value) (n:Nat) (xs:List Value):Prop :=
 w.ownsRow base e size v n xs \/
 ∃ g cur fz,v=.slice (some ⟨g,0,none⟩) n n/\base<=g/\w.heap[g]?=some (.cells cur e fz)/\n<=maxLen/\cur.toList=xs/\xs.length=n * size
def bS (w w':World) (v v':Value):Prop:=w.grownBy w' v.ownBlock/\∀ j,v'.ownBlock=some j->v.ownBlock=some j\/w.heap.size<=j
section
variable {w w' w1 w2:World} {base n size:Nat} {e:TypeId} {v v' v1 v2:Value} {xs:List Value}
theorem Own.of (h:w.ownsRow base e size v n xs):Own w base e size v n xs:=.inl h
theorem Own.nil (w:World) (base:Nat) (e:TypeId) (size:Nat):Own w base e size (.slice none 0 0) 0 []:=.inl (World.ownsRow_nil w base e size)
theorem Own.len (h:Own w base e size v n xs):xs.length=n * size:=by
 rcases h with h | ⟨_,_,_,_,_,_,_,_,h⟩
 · exact h.1
 · exact h
theorem Own.bH (h:Own w base e size v n xs):∀ j,v.ownBlock=some j->base<=j/\j < w.heap.size:=by
 rcases h with h | ⟨g,cur,fz,rfl,hb,hh,_⟩
 · exact h.lt
 · intro j hj
   simp [Value.ownBlock] at hj
   subst hj;exact ⟨hb,(Array.getElem?_eq_some_iff.1 hh).1⟩
theorem Own.keep {row:Option Nat} (h:Own w base e size v n xs) (hg:w.grownBy w' row) (hne:∀ j,v.ownBlock=some j->row≠some j):Own w' base e size v n xs:=by
 rcases h with h | ⟨g,cur,fz,rfl,hb,hh,rest⟩
 · refine .inl ⟨h.1,?_⟩;rcases h.2 with hn | ⟨g,cap,cur,rfl,hb,hh,rest⟩
   · exact .inl hn
   · refine .inr ⟨g,cap,cur,rfl,hb,?_,rest⟩;rw [hg.block g (Array.getElem?_eq_some_iff.1 hh).1 (λe=>hne g rfl e.symm)];exact hh
 · refine .inr ⟨g,cur,fz,rfl,hb,?_,rest⟩;rw [hg.block g (Array.getElem?_eq_some_iff.1 hh).1 (λe=>hne g rfl e.symm)];exact hh
theorem Own.drew (h:Own w base e size v n xs):Own w.drew base e size v n xs:=h
theorem Own.alloc (h:Own w base e size v n xs) (o:Obj):Own (w.alloc o) base e size v n xs :=
 h.keep (aj9 w o none) (λ_ _ h=>by cases h)
theorem Own.low {b:Nat} (h:Own w base e size v n xs) (hb:b<=base):Own w b e size v n xs:=by
 rcases h with h | ⟨g,cur,fz,hv,hbg,rest⟩
 · refine .inl ⟨h.1,?_⟩;rcases h.2 with hn | ⟨g,cap,cur,hv,hbg,rest⟩
   · exact .inl hn
   · exact .inr ⟨g,cap,cur,hv,by omega,rest⟩
 · exact .inr ⟨g,cur,fz,hv,by omega,rest⟩
theorem Own.reads (h:Own w base e size v n xs) (h0:0 < n):∃ g cap,v=.slice (some ⟨g,0,none⟩) n cap/\base<=g/\g < w.heap.size/\n<=cap/\cap<=maxLen/\∀ j u,xs[j]?=some u->w.cell? ⟨g,j,none⟩=some u:=by
 rcases h with h | ⟨g,cur,fz,rfl,hb,hh,hm,rfl,hl⟩
 · have hc:=λg hg=>World.ownsRow.cells h (g:=g) hg
   rcases h.2 with ⟨_,rfl⟩ | ⟨g,cap,cur,rfl,hb,hh,h1,h2,_⟩
   · omega
   · refine ⟨g,cap,rfl,hb,(Array.getElem?_eq_some_iff.1 hh).1,h1,h2,λj u hu=>?_⟩;have:=hc g rfl j u hu;have e1:(⟨g,0,none⟩:Addr).add j=⟨g,j,none⟩:=by unfold Addr.add; split <;> simp_all
     rwa [e1] at this
 · refine ⟨g,n,rfl,hb,(Array.getElem?_eq_some_iff.1 hh).1,akf _,hm,λj u hu=>?_⟩;rw [cell_of_row w g j cur e fz hh]
   simpa using hu
theorem Own.shape (h:Own w base e size v n xs):∃ A cap,v=.slice A n cap/\n<=cap/\cap<=maxLen/\(A=none->n=0/\cap=0):=by
 rcases h with h | ⟨g,cur,fz,rfl,hb,hh,hm,rfl,hl⟩
 · rcases h.2 with ⟨rfl,rfl⟩ | ⟨g,cap,cur,rfl,hb,hh,h1,h2,_⟩
   · exact ⟨_,_,rfl,akf _,by simp [maxLen],λ_=>⟨rfl,rfl⟩⟩
   · exact ⟨_,_,rfl,h1,h2,λh=>by cases h⟩
 · exact ⟨_,_,rfl,akf _,hm,λh=>by cases h⟩
theorem bS.refl (w:World) (v:Value):bS w w v v:=⟨akr w _,λ_ h=>.inl h⟩
theorem bS.trans (h:bS w w1 v v1) (k:bS w1 w2 v1 v2):bS w w2 v v2:=by
 refine ⟨⟨k.1.os.trans h.1.os,k.1.tape.trans h.1.tape,k.1.output.trans h.1.output,akh h.1.size k.1.size,λi hi hne=>?_⟩,λj hj=>?_⟩
 · refine (k.1.block i (ake hi h.1.size) (λe=>?_)).trans (h.1.block i hi hne);rcases h.2 i e.symm with h1 | h1
   · exact hne h1.symm
   · omega
 · rcases k.2 j hj with h1 | h1
   · exact h.2 j h1
   · have:=h.1.size; exact .inr (by omega)
theorem bS.new (hg:w.grownBy w' none) (hv:∀ j,v'.ownBlock=some j->w.heap.size<=j):bS w w' v v' :=
 ⟨⟨hg.os,hg.tape,hg.output,hg.size,λi hi _=>hg.block i hi (by simp)⟩,λj hj=>.inr (hv j hj)⟩
theorem bS.behind (hg:w.grownBy w1 none) (h:bS w1 w2 v v2):bS w w2 v v2 :=
 ⟨⟨h.1.os.trans hg.os,h.1.tape.trans hg.tape,h.1.output.trans hg.output,akh hg.size h.1.size,λi hi hne=>(h.1.block i (ake hi hg.size) hne).trans (hg.block i hi (by simp))⟩,
  λj hj=>(h.2 j hj).imp id (λh1=>akh hg.size h1)⟩
theorem Cw {row:Option Nat} (hg:w.grownBy w' row) (hr:∀ j,row=some j->w.heap.size<=j):w.grownBy w' none :=
 ⟨hg.os,hg.tape,hg.output,hg.size,λi hi _=>hg.block i hi (λe=>by have:=hr i e.symm; omega)⟩
theorem ah (w:World) (row:Option Nat):w.grownBy w.drew row:=⟨rfl,rfl,rfl,akf _,λ_ _ _=>rfl⟩
end
section
variable {P:Program} (w:World)
theorem nH (base:Nat) (t ty e:TypeId) (i:TypeInfo) (z:Value) (size bytes:Nat) (ht:P.underlying t=some (.slice e)) (hi:P.info? e=some i) (hz:i.zero=some z)
 (hsize:i.size=size) (hby:i.bytes=bytes) (hzs:z.cells.size=size) (hsz:0 < size)
 (v:Value) (n:Nat) (xs:List Value) (hown:Own w base e size v n xs)
 (B:Nat) (A:Option Addr) (m c:Nat) (news:List Value) (hr:Reads w B size A m news) (h1:∀ u∈news,u.oneCell'=true)
 (h63:n+m<=maxLen) (hbytes:(n+m) * bytes<=140737488355328) (hbase:base<=w.heap.size) :
 ∃ v' w',(Builtin.append_ #[t,t] ty #[v,.slice A m c]).run P w=.ok v' w'/\Own w' base e size v' (n+m) (xs ++ news)/\bS w w' v v':=by
 rcases hown with hown | ⟨g,cur,fz,rfl,hb,hh,hm,rfl,hl⟩
 · obtain ⟨v',w',h2,h3,h4,h5⟩:=zf (P:=P) w base t ty e i z size bytes ht hi hz hsize hby hzs hsz v n xs hown B A m c news hr h1 h63 hbytes hbase;refine ⟨v',w',h2,.inl h3,h4,λj hj=>?_⟩;rcases h5 with h5 | h5
   · exact .inl (h5 ▸ hj)
   · rw [h5] at hj; cases hj; exact .inr (akf _)
 · by_cases h0:m=0
   · subst h0;have hn:news=[]:=List.eq_nil_of_length_eq_zero (by simpa using hr.1);subst hn;refine ⟨_,w,?_,.inr ⟨g,cur,fz,rfl,hb,hh,hm,by simp,by simpa using hl⟩,bS.refl _ _⟩
     cases A <;> simp [Builtin.append_,run_underlying ht,sizeOf,typeInfo,hi,Builtin.lenOf,Builtin.firstCells,loadCells,loadCellsFrom,storeCells]
   · obtain ⟨ad,rfl,_,hc⟩:=hr.2 (by omega);obtain ⟨v',w',h2,h3,h4⟩:=run_append_arg_grows (P:=P) w t ty e i z size bytes ht hi hz hsize hby hzs hsz ⟨g,0,none⟩ n n cur.toList hl
      (λj u hu=>by
        have e1:(⟨g,0,none⟩:Addr).add j=⟨g,j,none⟩:=by unfold Addr.add; split <;> simp_all
        rw [e1,cell_of_row w g j cur e fz hh]; simpa using hu)
      ad m c news hr.1 hc (by omega) h63 hbytes
     exact ⟨v',w',h2,(Own.of h3).low hbase,bS.new h4 (λj hj=>(h3.lt j hj).1)⟩
theorem uK {o:Oper} {a:Act} {K:Act->World->Prop} {Q:Exit->Act->World->Prop} (s x:Operand) (t:TypeId)
 (ho:o.op=.call { callee:=.builtin .append,args:=#[s,x],argTypes:=#[t,t] })
 (base:Nat) (e:TypeId) (i:TypeInfo) (z:Value) (size bytes:Nat) (ht:P.underlying t=some (.slice e)) (hi:P.info? e=some i) (hz:i.zero=some z)
 (hsize:i.size=size) (hby:i.bytes=bytes) (hzs:z.cells.size=size) (hsz:0 < size)
 (v:Value) (n:Nat) (xs:List Value) (hs:a.eval s=v) (hown:Own w base e size v n xs)
 (B:Nat) (A:Option Addr) (m c:Nat) (news:List Value) (hx:a.eval x=.slice A m c) (hr:Reads w B size A m news) (h1:∀ u∈news,u.oneCell'=true)
 (h63:n+m<=maxLen) (hbytes:(n+m) * bytes<=140737488355328) (hbase:base<=w.heap.size)
 (h:∀ v' w',Own w' base e size v' (n+m) (xs ++ news)->bS w w' v v'->K (a.put o.dst v') w'):o.wp P a w K Q:=by
 obtain ⟨v',w',hrun,h2,h3⟩:=nH (P:=P) w base t o.type e i z size bytes ht hi hz hsize hby hzs hsz v n xs hown B A m c news hr h1 h63 hbytes hbase;unfold Oper.wp execOp;simp only [ho,resolve,invoke,builtin,Sem.run_bind,Sem.run_pure,Result.andThen_ok,List.map_toArray,List.map_cons,List.map_nil,hs,hx,hrun];exact h v' w' h2 h3
theorem ai {ops:Array Oper} {rest:List Oper} {o:Oper} {a:Act} {Q:Exit->Act->World->Prop} (hgd:o.guard=none) (s x:Operand) (t:TypeId)
 (ho:o.op=.call { callee:=.builtin .append,args:=#[s,x],argTypes:=#[t,t] })
 (base:Nat) (e:TypeId) (i:TypeInfo) (z:Value) (size bytes:Nat) (ht:P.underlying t=some (.slice e)) (hi:P.info? e=some i) (hz:i.zero=some z)
 (hsize:i.size=size) (hby:i.bytes=bytes) (hzs:z.cells.size=size) (hsz:0 < size)
 (v:Value) (n:Nat) (xs:List Value) (hs:a.eval s=v) (hown:Own w base e size v n xs)
 (B:Nat) (A:Option Addr) (m c:Nat) (news:List Value) (hx:a.eval x=.slice A m c) (hr:Reads w B size A m news) (h1:∀ u∈news,u.oneCell'=true)
 (h63:n+m<=maxLen) (hbytes:(n+m) * bytes<=140737488355328) (hbase:base<=w.heap.size)
 (h:∀ v' w',Own w' base e size v' (n+m) (xs ++ news)->bS w w' v v'->wpList P ops Q rest (a.put o.dst v') w'):wpList P ops Q (o :: rest) a w :=
 wpList_plain hgd λ_ hK=>uK w s x t ho base e i z size bytes ht hi hz hsize hby hzs hsz v n xs hs hown B A m c news hx hr h1 h63 hbytes hbase λv' w' h2 h3=>hK _ _ (h v' w' h2 h3)
theorem rP {ops:Array Oper} {o:Oper} {a:Act} {K:Act->World->Prop} {Q:Exit->Act->World->Prop} {E:Prop} (hgd:o.guard=none) (s x:Operand) (t:TypeId)
 (ho:o.op=.call { callee:=.builtin .append,args:=#[s,x],argTypes:=#[t,t] })
 (base:Nat) (e:TypeId) (i:TypeInfo) (z:Value) (size bytes:Nat) (ht:P.underlying t=some (.slice e)) (hi:P.info? e=some i) (hz:i.zero=some z)
 (hsize:i.size=size) (hby:i.bytes=bytes) (hzs:z.cells.size=size) (hsz:0 < size)
 (v:Value) (n:Nat) (xs:List Value) (hs:a.eval s=v) (hown:Own w base e size v n xs)
 (B:Nat) (A:Option Addr) (m c:Nat) (news:List Value) (hx:a.eval x=.slice A m c) (hr:Reads w B size A m news) (h1:∀ u∈news,u.oneCell'=true)
 (h63:n+m<=maxLen) (hbytes:(n+m) * bytes<=140737488355328) (hbase:base<=w.heap.size)
 (h:∀ v' w',Own w' base e size v' (n+m) (xs ++ news)->bS w w' v v'->K (a.put o.dst v') w') :
 if Region.wanted o (yielded ops a.tmps)=true then Oper.wp P o a w K Q else E:=by
 have hw:Region.wanted o (yielded ops a.tmps)=true:=by simp [Region.wanted,hgd]
 rw [if_pos hw];exact uK w s x t ho base e i z size bytes ht hi hz hsize hby hzs hsz v n xs hs hown B A m c news hx hr h1 h63 hbytes hbase h
end
end Go.Proofs.YtinajlbijgedbaaGreat.Mem
