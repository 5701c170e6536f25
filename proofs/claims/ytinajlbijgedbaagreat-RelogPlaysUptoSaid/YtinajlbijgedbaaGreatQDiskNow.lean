/- Texts of this seat's proofs: DiskNow. -/
import Derived.Test.YtinajlbijgedbaaGreatQMapIs
import Derived.Laws.ResultCell
import Derived.Deep.WholeRow
set_option maxRecDepth 100000
set_option maxHeartbeats 16000000
namespace Go.Proofs.YtinajlbijgedbaaGreat.Dsk
open Lib (hid)
open Go.RowKit Mem Crc DiskSpec
theorem Q9 (w:World):(zeroValue 141).run Tryz.prog w=.ok (.agg (Array.replicate 256 (.int .u8 0))) w:=by kernel_rfl
theorem Dm (w:World):(zeroValue 103).run Tryz.prog w=.ok (.slice none 0 0) w:=by kernel_rfl
theorem Dx:(Tryz.prog.info? 141).map (·.size)=some 256:=by kernel_rfl
theorem qG {P:Program} {fn:Func} {R:Ending->World->Prop} {a:Act} {w:World} {p:Tmp} {ty:TypeId} (h:fn.results=#[.cell p ty])
 (g:Nat) (t:TypeId) (cs:Array Value) (d:TypeDesc) (hp:a.tmps.getD p undef=.pointer (some ⟨g,0,none⟩)) (hg:af w g t cs)
 (hu:P.underlying ty=some d) (hd:(match d with | .struct _ | .array _ _=>true | _=>false)=true) (hi:(P.info? ty).map (·.size)=some cs.size) (hdf:a.defers=[])
 (hR:R (.returned (.agg cs)) w):bodyPost P fn R .ret a w:=by
 refine bodyPost_ret (v:=.agg cs) ?_ hdf hR;have e:(results fn a.tmps).run P w=((asAddr (a.tmps.getD p undef)).run P w).andThen λad w1=>(loadVar ty ad).run P w1:=by
  simp only [results,h]
  simp [Sem.run_bind,Result.andThen]
 rw [e,hp]
 simp [asAddr,run_loadVar_row w g t ty cs (0,0) d hg hu hd hi,Result.andThen]
theorem nQ {P:Program} {ops:Array Oper} {rest:List Oper} {op:Oper} {a:Act} {w:World} {Q:Exit->Act->World->Prop} (hgd:op.guard=none) (hdn:op.dst=none) (ty:TypeId) (x y:Operand) (ho:op.op=.store ty x y)
 (c c':Array Value) (hx:a.eval x=.pointer (some ⟨w.heap.size,0,none⟩)) (hy:a.eval y=.agg c')
 (hi:(P.info? ty).map (·.size)=some c'.size) (hs:c.size=c'.size) (h1:c'.all (·.oneCell')=true)
 (h:wpList P ops Q rest a (w.alloc (.cells c' ty))):wpList P ops Q (op :: rest) a (w.alloc (.cells c ty)) :=
 wpList_plain hgd λK hK=>by
  have hr:=run_storeAt_new (P:=P) w ty c c' hi hs h1;unfold Oper.wp execOp;simp only [ho,hx,hy,Sem.run_bind,Sem.run_pure,hr,Result.andThen_ok];have e:a.put op.dst undef=a:=by rw [hdn]; rfl
  exact hK _ _ (by rw [e]; exact h)
theorem Fa (l:List Nat):(au l).toArray.all (·.oneCell')=true:=all_oneCell_toArray (fO l)
theorem QB:∀ (vs:List (List Nat)) (q:Nat) (x:List Nat),(∀ v∈vs,v.length=256)->vs[q]?=some x->∀ j,j < 256->(flat vs)[q * 256+j]?=(au x)[j]?
 | [],_,_,_,h,_,_=>by simp at h
 | a :: vs,0,x,hl,h,j,hj=>by
   have e:a=x:=by simpa using h
   subst e;have:flat (a :: vs)=au a ++ flat vs:=by simp [flat,dH]
   rw [this,Nat.zero_mul,Nat.zero_add,List.getElem?_append_left (by rw [aB,hl a (by simp)]; exact hj)]
 | a :: vs,q+1,x,hl,h,j,hj=>by
   have:flat (a :: vs)=au a ++ flat vs:=by simp [flat,dH]
   rw [this,akv (by rw [aB,hl a (by simp)]; omega),aB,hl a (by simp),show (q+1) * 256+j - 256=q * 256+j from by omega];exact QB vs q x (λv hv=>hl v (by simp [hv])) (by simpa using h) j hj
theorem Lay.Lt {w:World} {B b bd bm:Nat} {S:St} {f:Nat->Option Value} {own:Nat->Prop} (h:Lay w B b bd bm f S own) (i:Nat) (hv:S.ae i≠[]) :
 ∃ g cap,f i=some (.slice (some ⟨g,0,none⟩) (S.ae i).length cap)/\(S.ae i).length<=cap/\cap<=maxLen/\own g/\g≠bd/\∀ q x,(S.ae i)[q]?=some x->w.rangeAt g (q * 256) (au x):=by
 obtain ⟨v,g,h1,h2,h3,h4,_,h6,_⟩:=h.rows.some_ i hv;have hpos:0 < (S.ae i).length:=List.length_pos_iff.2 hv;obtain ⟨g',cap,rfl,_,_,hc1,hc2,hc⟩:=h2.reads hpos;have e:g'=g:=by simpa [Value.ownBlock] using h3
 subst e;refine ⟨g',cap,h1,hc1,hc2,h4,h6,λq x hx j u hu=>?_⟩;have hxm:x∈S.ae i:=akx hx;have hj:j < 256:=by
  have:=(List.getElem?_eq_some_iff.1 hu).1;rw [aB,(h.ok.ae i x hxm).1] at this;exact this
 refine hc (q * 256+j) u ?_;rw [QB (S.ae i) q x (λv hv=>(h.ok.ae i v hv).1) hx j hj];exact hu
theorem NJ {w:World} {B b bd bm:Nat} {S:St} {f:Nat->Option Value} {own:Nat->Prop} (h:Lay w B b bd bm f S own) (i:Nat) (hi:i < S.n) :
 Calls Tryz.prog 130 #[.pointer (some ⟨b,0,none⟩),.int .i64 (i:Nat)] w λe w'=>e=.returned (.agg (au (S.now i)).toArray)/\w.grownBy w' none:=by
 have hz:=Q9;have hzm:=Dm;have hb0:=af.new w 141 (Array.replicate 256 (.int .u8 0));have hG:=aj9 w (.cells (Array.replicate 256 (.int .u8 0)) 141) none;have h1:=h.alloc (.cells (Array.replicate 256 (.int .u8 0)) 141);have hsz:(Array.replicate 256 (Value.int .u8 0)).size=256:=by simp
 generalize hzz:Array.replicate 256 (Value.int .u8 0)=zs at *;clear hzz;have htop:=h.ok.top;have fF:=S.jU h.ok i;have Sk:=@St.nD S i;have HN:=hid (show S.now i=(S.ae i).getLastD (S.ag i) from rfl)
 by_cases hv:S.ae i=[]
 · have hlk:=h1.map.look (t:=104) (E:=103) Tryz.underlying3 Tryz.underlying104 (Dm _) i (by omega);rw [h.rows.none_ i hv] at hlk;simp only [Option.getD_none] at hlk;have dO:=hid (show (w.alloc (.cells zs 141)).rangeAt bd (i * 256) (au (S.ag i)) from Nat.mul_comm 256 i ▸ h1.ag i hi);have HI:=hid (show (Tryz.prog.info? 141).map (·.size)=some (au (S.ag i)).length by rw [aB,(h.ok.ag i).1]; exact Dx);have HS:=hid (show zs.size=(au (S.ag i)).toArray.size by rw [hsz,List.size_toArray,aB,(h.ok.ag i).1])
   have HO:=hid (Fa (S.ag i));have hc0:=h1.c0;have hc1:=h1.c1;rw [Sk hv] at fF ⊢;have YQ:=hid fF;clear Sk hv fF HN h;have H1:=hid h1; have HB0:=hid hb0; have ZW:=hid hG; clear h1 hb0 hG;generalize hx:(au (S.ag i))=x at *;have HX:=hid hx; clear hx;generalize S.n=n at *;go_enter Tryz.func130,Tryz.ntmps130
   go_wp2_with (first
    | refine wpList_load_mid rfl 141 (Operand.tmp 26) rfl bd (i * 256) rfl x _ dO.out Tryz.underlying141 rfl HI.out ?_
    | refine nQ rfl rfl 141 (Operand.tmp 4) (Operand.tmp 27) rfl zs x.toArray rfl rfl HI.out HS.out HO.out ?_)
   refine qG rfl w.heap.size 141 x.toArray _ rfl (af.new _ _ _) Tryz.underlying141 rfl HI.out rfl ?_;exact ⟨rfl,aj9 _ _ _⟩
 · obtain ⟨g,cap,hfi,hcap,hmax,_,_,hat⟩:=h1.Lt i hv;have hlast:S.ae i=(S.ae i).dropLast ++ [S.now i]:=by
    have e1:=List.dropLast_concat_getLast hv;have e2:S.now i=(S.ae i).getLast hv:=by
     rw [HN.out,List.getLastD_eq_getLast?,List.getLast?_eq_some_getLast hv]; rfl
    rw [e2]; exact e1.symm
   have acp:(S.ae i)[(S.ae i).dropLast.length]?=some (S.now i):=by
    rw [hlast]; simp
   have hr:=hat _ _ acp;have hlk:=h1.map.look (t:=104) (E:=103) Tryz.underlying3 Tryz.underlying104 (Dm _) i (by omega);rw [hfi] at hlk;simp only [Option.getD_some] at hlk;have hk:(S.ae i).length=(S.ae i).dropLast.length+1:=by
    have:=congrArg List.length hlast; simpa using this
   rw [hk] at hlk hcap;generalize (S.ae i).dropLast.length=k at *;have ai4:k+1<=9223372036854775807:=by unfold maxLen at hmax; omega
   have dO:=hid hr;have HI:=hid (show (Tryz.prog.info? 141).map (·.size)=some (au (S.now i)).length by rw [aB,fF.1]; exact Dx);have HS:=hid (show zs.size=(au (S.now i)).toArray.size by rw [hsz,List.size_toArray,aB,fF.1]);have HO:=hid (Fa (S.now i));have hc1:=h1.c1;have HCAP:=hid hcap; have ajk:=hid hmax;clear Sk hv fF HN h hr acp hlast hat hfi hk hcap hmax h1 hb0 hG;generalize hx:(au (S.now i))=x at *
   have HX:=hid hx; clear hx;generalize S.n=n at *;go_enter Tryz.func130,Tryz.ntmps130
   go_wp2_with (first
    | refine wpList_load_mid rfl 141 (Operand.tmp 19) rfl g (k * 256) rfl x _ dO.out Tryz.underlying141 rfl HI.out ?_
    | refine nQ rfl rfl 141 (Operand.tmp 4) (Operand.tmp 20) rfl zs x.toArray rfl rfl HI.out HS.out HO.out ?_)
   refine qG rfl w.heap.size 141 x.toArray _ rfl (af.new _ _ _) Tryz.underlying141 rfl HI.out rfl ?_;exact ⟨rfl,aj9 _ _ _⟩
end Go.Proofs.YtinajlbijgedbaaGreat.Dsk
