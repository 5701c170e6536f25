/- Texts of this seat's proofs: DiskWrite, DiskWrite2. -/
import Derived.Test.YtinajlbijgedbaaGreatQDiskNew
import Derived.Test.YtinajlbijgedbaaGreatQDiskSettle
import Derived.Great.BuildSlice
namespace Go.Proofs.YtinajlbijgedbaaGreat.Dsk
open Go.RowKit Mem Crc DiskSpec
def Data (w:World) (own:Nat->Prop) (A:Option Addr) (n:Nat) (l:List Nat):Prop :=
 l.length=n/\(∀ x∈l,x < 256)/\(0 < n->∃ g o,A=some ⟨g,o,none⟩/\g < w.heap.size/\¬ own g/\∀ j,j < n->w.cell? ⟨g,o+j,none⟩=some (.int .u8 (l.getD j 0:Nat)))
theorem Data.turn {w w':World} {own own':Nat->Prop} {A:Option Addr} {n:Nat} {l:List Nat} (h:Data w own A n l) (ht:aa w w' own own'):Data w' own' A n l:=by
 refine ⟨h.1,h.2.1,λhn=>?_⟩;obtain ⟨g,o,e,hlt,hno,hc⟩:=h.2.2 hn;refine ⟨g,o,e,ake hlt ht.size,λho=>by rcases ht.fresh g ho with h1 | h1; exact hno h1; omega,λj hj=>?_⟩;rw [aki (a:=⟨g,o+j,none⟩) (ht.block g hlt hno)];exact hc j hj
theorem Vi:(Tryz.prog.info? 141).map (λi=>(i.zero,i.size,i.bytes))=some (some (.agg (Array.replicate 256 (.int .u8 0))),256,256):=Vh
theorem Lay.append {w:World} {B b bd bm:Nat} {S:St} {f:Nat->Option Value} {own:Nat->Prop} (h:Lay w B b bd bm f S own) {i:Nat} (hi:i < S.n) {x:List Nat} (hx:l6 x) (hroom:(S.ae i).length < 549755813888) (hB:B<=w.heap.size) (ty:TypeId) :
 ∃ v' w1 w2,(Builtin.append_ #[103,103] ty #[(f i).getD (.slice none 0 0),.slice (some ⟨w.heap.size,0,none⟩) 1 1]).run Tryz.prog (w.alloc (.cells (au x).toArray 141))=.ok v' w1 /\
  (Instr.mapUpdate 104 (.map (some bm)) (.int .i64 (i:Nat)) v').run Tryz.prog w1=.ok () w2 /\
  (∃ f' own',Lay w2 B b bd bm f' (S.add i x) own'/\aa w w2 own own')/\∀ k,k < w.heap.size->(¬ own k\/k=b)->w1.heap[k]?=w.heap[k]?:=by
 obtain ⟨i0,hi0,hz0,hz1,hz2⟩:=info_parts Vi;have htop:=h.ok.top;have h1:=h.alloc (.cells (au x).toArray 141);obtain ⟨ho,hob⟩:=h1.at_ i;have hnew:=af.new w 141 (au x).toArray;have hrd:Reads (w.alloc (.cells (au x).toArray 141)) (w.heap.size+1) 256 (some ⟨w.heap.size,0,none⟩) 1 (au x):=by
  refine ⟨by rw [aB,hx.1],λ_=>⟨_,rfl,by simp,λj u hu=>?_⟩⟩;have e1:(⟨w.heap.size,0,none⟩:Addr).add j=⟨w.heap.size,j,none⟩:=by unfold Addr.add; split <;> simp_all
  rw [e1,hnew.cell]
  simpa using hu
 obtain ⟨v',w1,hr1,ho1,hg1⟩:=nH (P:=Tryz.prog) (w.alloc (.cells (au x).toArray 141)) 0 103 ty 141 i0 _ 256 256 Tryz.underlying103 hi0 hz0 hz1 hz2 (by simp [Value.cells]) (by omega)
  _ _ _ ho (w.heap.size+1) (some ⟨w.heap.size,0,none⟩) 1 1 (au x) hrd (fO x) (by unfold maxLen; omega) (by omega) (aks _)
 have agw:w1.heap[bm]?=(w.alloc (.cells (au x).toArray 141)).heap[bm]?:=hg1.1.block bm (h1.lt bm h1.lq) (λe=>(hob bm e.symm).2.2.2 rfl);obtain ⟨w2,hr2,hm2,hg2⟩:=(h1.map.of_block agw).store (t:=104) (E:=103) Tryz.underlying3 Tryz.underlying104 i hi (by omega) (by unfold maxLen; omega) v';obtain ⟨own',hl2,ht2⟩:=h1.add hi hx hg1 ho1 hg2 hm2 (by simp; omega);refine ⟨v',w1,w2,hr1,hr2,⟨_,own',hl2,(aa.none_ (aj9 w _ none)).trans ht2⟩,λk hk hno=>?_⟩
 refine (hg1.1.block k (by simp; omega) (λe=>?_)).trans (Below.heap_alloc w _ k hk);obtain ⟨q1,q2,_⟩:=hob k e.symm;rcases hno with h5 | h5
 · exact h5 q1
 · exact q2 h5
theorem Wt {x:List Nat} (hx:l6 x) (w:World) :
 (Instr.buildSlice 103 1 #[(0,.agg (au x).toArray)]).run Tryz.prog w=.ok (.slice (some ⟨w.heap.size,0,none⟩) 1 1) (w.alloc (.cells (au x).toArray 141)):=by
 obtain ⟨i0,hi0,hz0,hz1,_⟩:=info_parts Vi;refine run_buildSlice w 103 141 1 _ _ i0 _ Tryz.underlying103 hi0 hz0 (by rw [hz1]; decide) (by rw [hz1]; decide) ?_;rw [hz1];have hl:(au x).length=256:=by rw [aB,hx.1]
 have hf:=Great.fill_whole (s:=256) (by omega) [.agg (au x).toArray] ((Array.range (1 * 256)).map λq=>(Value.agg (Array.replicate 256 (.int .u8 0))).cells[q % (Value.agg (Array.replicate 256 (.int .u8 0))).cells.size]!) (by simp [Value.cells,hl]) (by simp);have e:([Value.agg (au x).toArray].flatMap λv=>v.cells.toList).toArray=(au x).toArray:=by simp [Value.cells]
 rw [e] at hf;exact hf
theorem mD {P:Program} {ops:Array Oper} {op:Oper} {a:Act} {w w':World} {K:Act->World->Prop} {Q:Exit->Act->World->Prop} {E:Prop} (hgd:op.guard=none) (t:TypeId) (x:Operand)
 (ho:op.op=.buildSlice t 1 #[(0,x)]) (u v:Value) (hv:a.eval x=u) (hr:(Instr.buildSlice t 1 #[(0,u)]).run P w=.ok v w') (h:K (a.put op.dst v) w') :
 if Region.wanted op (yielded ops a.tmps)=true then Oper.wp P op a w K Q else E:=by
 have hw:Region.wanted op (yielded ops a.tmps)=true:=by simp [Region.wanted,hgd]
 rw [if_pos hw];unfold Oper.wp
 simp [execOp,ho,hv,hr,Result.andThen]
 exact h
theorem step_append {P:Program} {ops:Array Oper} {o:Oper} {a:Act} {w w':World} {K:Act->World->Prop} {Q:Exit->Act->World->Prop} {E:Prop} (hgd:o.guard=none) (s x:Operand) (t:TypeId)
 (ho:o.op=.call { callee:=.builtin .append,args:=#[s,x],argTypes:=#[t,t] }) (u u' v:Value) (hs:a.eval s=u) (hx:a.eval x=u') (hrun:(Builtin.append_ #[t,t] o.type #[u,u']).run P w=.ok v w') (h:K (a.put o.dst v) w') :
 if Region.wanted o (yielded ops a.tmps)=true then Oper.wp P o a w K Q else E:=by
 have hw:Region.wanted o (yielded ops a.tmps)=true:=by simp [Region.wanted,hgd]
 rw [if_pos hw];unfold Oper.wp execOp;simp only [ho,resolve,invoke,builtin,Sem.run_bind,Sem.run_pure,Result.andThen_ok,List.map_toArray,List.map_cons,List.map_nil,hs,hx,hrun];exact h
theorem Ju {P:Program} {ops:Array Oper} {o:Oper} {a:Act} {w w':World} {K:Act->World->Prop} {Q:Exit->Act->World->Prop} {E:Prop} (hgd:o.guard=none) (m x:Operand) (t:TypeId)
 (ho:o.op=.lookup t m x false) (u u' v:Value) (hs:a.eval m=u) (hx:a.eval x=u') (hrun:(Instr.lookup t u u' false).run P w=.ok v w') (h:K (a.put o.dst v) w') :
 if Region.wanted o (yielded ops a.tmps)=true then Oper.wp P o a w K Q else E:=by
 have hw:Region.wanted o (yielded ops a.tmps)=true:=by simp [Region.wanted,hgd]
 rw [if_pos hw];unfold Oper.wp
 simp [execOp,ho,hs,hx,hrun,Result.andThen]
 exact h
theorem DU {P:Program} {ops:Array Oper} {o:Oper} {a:Act} {w w':World} {K:Act->World->Prop} {Q:Exit->Act->World->Prop} {E:Prop} (hgd:o.guard=none) (m x y:Operand) (t:TypeId)
 (ho:o.op=.mapUpdate t m x y) (u u' u'':Value) (hs:a.eval m=u) (hx:a.eval x=u') (hy:a.eval y=u'') (hrun:(Instr.mapUpdate t u u' u'').run P w=.ok () w') (h:K (a.put o.dst undef) w') :
 if Region.wanted o (yielded ops a.tmps)=true then Oper.wp P o a w K Q else E:=by
 have hw:Region.wanted o (yielded ops a.tmps)=true:=by simp [Region.wanted,hgd]
 rw [if_pos hw];unfold Oper.wp
 simp [execOp,ho,hs,hx,hy,hrun,Result.andThen]
 exact h
theorem qH {S:St} (bq:Bool) (a:Nat) (l:List Nat):∀ j k,a+j<=k->(S.puts bq a l j).ae k=S.ae k
 | 0,_,_=>rfl
 | j+1,k,h=>by
   have ih:=qH (S:=S) bq a l j k (by omega);rw [St.puts,<-ih];unfold St.put
   split
   · have hne:k≠a+j:=by omega
     show upd (upd (S.puts bq a l j).ae (a+j) _) (a+j) [] k=_;rw [upd_ne _ _ hne,upd_ne _ _ hne]
   · have hne:k≠a+j:=by omega
     show upd (S.puts bq a l j).ae (a+j) _ k=_;rw [upd_ne _ _ hne]
end Go.Proofs.YtinajlbijgedbaaGreat.Dsk
set_option maxRecDepth 100000
set_option maxHeartbeats 16000000
namespace Go.Proofs.YtinajlbijgedbaaGreat.Dsk
open Lib (hid)
open Go.RowKit Mem Crc DiskSpec
theorem oF {w W:World} {h:Nat} (hg:w.grownBy W none) (hh:w.heap.size<=h) (cs:Array Value):w.grownBy (W.setRow h cs) none :=
 ⟨hg.os,hg.tape,hg.output,by simpa [World.setRow] using hg.size,λk hk _=>(setRow_other W h k cs (by omega)).trans (hg.block k hk (by simp))⟩
theorem JD {l:List Nat} {j q:Nat} (h:256 * (j+1)<=l.length) (hq:q < 256):(au (sec l j))[q]?=some (.int .u8 (l.getD (j * 256+q) 0:Nat)):=by
 have hs:(sec l j).length=256:=by simp [sec]; omega
 rw [fT _ _ (by omega)]
 congr 3
 rw [akg,akg,sec,List.getElem?_take_of_lt hq,List.getElem?_drop,Nat.mul_comm]
theorem K7 {w:World} {B b bd bm:Nat} {S:St} {f:Nat->Option Value} {own:Nat->Prop} (h:Lay w B b bd bm f S own) (a count:Nat) (A:Option Addr) (c:Nat) (l:List Nat) (bq:Bool)
 (hd:Data w own A (count * 256) l) (hc:count * 256<=c) (h1:1<=count) (h2:a+count<=S.n) (hf2:S.f2≠1) (hlf:S.left≠0) (hroom:∀ i,(S.ae i).length < 549755813888) (hB:B<=w.heap.size) :
 Calls Tryz.prog 49 #[.pointer (some ⟨b,0,none⟩),.int .i64 (a:Nat),.slice A (count * 256) c,.bool bq] w λe w'=>e=.returned (.int .i64 0) /\
  ∃ f' own',Lay w' B b bd bm f' (({ S with f2:=S.f2 - 1 }:St).puts bq a l count).done own'/\aa w w' own own':=by
 have htop:=h.ok.top;have HH:=hid (tZ h (a:Int) (count:Int) (by omega) (by omega));have hhas:S.has a count=true:=by simp [St.has]; omega
 have HD:=hid (ED h);have HF:=hid (show (decide (S.f2=1) || decide (S.left=0))=false by simp [hf2,hlf]);have jB:=hid h.ownB;clear h;rw [hhas] at HH;rw [HF.out] at HD;generalize hT:({ S with f2:=S.f2 - 1 }:St)=T at *;have Hr:=hid (show T.n=S.n by rw [<-hT]);have Oh:=hid (show ∀ i,(T.ae i).length < 549755813888 by rw [<-hT]; exact hroom);clear hT hhas hroom;obtain ⟨g,o,rfl,_⟩:=hd.2.2 (by omega);have Dj:=hid hd; clear hd
 have hm1:((count * 256:Nat):Int) % 256=0:=by omega
 have hm2:((count * 256:Nat):Int) / 256=(count:Int):=by omega
 have sj:(((count * 256:Nat):Int) == 0)=false:=by simp; omega
 generalize hn:count * 256=n at *;have HN:=hid hn; clear hn;have zy:(n:Int).tmod 256=0:=by rw [akm (by omega)]; exact hm1
 have si:(n:Int).tdiv 256=(count:Int):=by rw [Int.tdiv_eq_ediv_of_nonneg (by omega)]; exact hm2
 have El:IntKind.i64.wrap (count:Int)=(count:Int):=IntWalk.i64_in _ (by omega);go_enter Tryz.func49,Tryz.ntmps49;go_wp2_with fail;refine HH.out.mono ?_;rintro e w' ⟨rfl,rfl⟩;go_wp2_with fail;refine HD.out.mono ?_;rintro e w1 ⟨rfl,hg1,hl1⟩;have HT1:=hid (aa.aA (own:=own) hg1 (λq e=>by cases e; exact jB.out)); have H1:=hid hl1; clear hg1 hl1;go_wp2_with fail
 go_loopw [10,11,32] (λ_ _ i wr=>∃ (j:Nat) (f':Nat->Option Value) (own':Nat->Prop),j<=count/\i=.int .i64 j/\Lay wr B b bd bm f' (T.puts bq a l j) own'/\aa w wr own own') (λ_ _ i _=>count - (Go.RowKit.intOf i).toNat)
 case atStart=>exact ⟨0,f,own,by omega,rfl,H1.out,HT1.out⟩
 case round =>
  obtain ⟨j,f',own',hj,rfl,hl,ht⟩:=hrel;have HL:=hid hl; have jQ:=hid ht; clear hl ht
  by_cases hlt:j < count
  · obtain ⟨g',o',e0,yR,Nn,hcell⟩:=(Dj.out.turn jQ.out).2.2 (by omega);simp only [Option.some.injEq,Addr.mk.injEq,and_true] at e0;obtain ⟨rfl,rfl⟩:=e0;have hll:=Dj.out.1;have fF:l6 (sec l j):=P9 (by omega) Dj.out.2.1;have hij:a+j < (T.puts bq a l j).n:=by rw [wW,Hr.out]; omega
    have Vn:IntKind.i64.wrap ((a:Int)+(j:Int))=(a:Int)+(j:Int):=IntWalk.i64_in _ (by omega);have XY:IntKind.i64.wrap ((j:Int) * 256)=(j:Int) * 256:=IntWalk.i64_in _ (by omega);have EA:=hid (show (a:Int)+(j:Int)=((a+j:Nat):Int) by omega);have hz:=Q9;have hsz:(Array.replicate 256 (Value.int .u8 0)).size=256:=by simp
    generalize hzz:Array.replicate 256 (Value.int .u8 0)=zs at *;clear hzz;have hbV:=(af.new wr 141 zs).drew;have hW:wr.grownBy (wr.alloc (.cells zs 141)).drew none:=(aj9 wr _ none).trans (ah _ none);have hsx:(au (sec l j)).length=256:=by rw [aB,fF.1]
    have hcp:=run_copy_row (P:=Tryz.prog) (wr.alloc (.cells zs 141)).drew 65 65 3 5 wr.heap.size 0 256 256 ⟨g,o+j * 256,none⟩ (n - j * 256) (c - j * 256)
     zs 141 (au (sec l j)) Tryz.underlying65 (by kernel_rfl) hbV (by rw [hsx]; have:=HN.out; exact (Nat.min_eq_right (by omega)).symm)
     (λq v hv=>by
       have e1:(⟨g,o+j * 256,none⟩:Addr).add q=⟨g,o+(j * 256+q),none⟩:=by unfold Addr.add; split <;> simp_all [Nat.add_assoc]
       have hq:q < 256:=by have:=(List.getElem?_eq_some_iff.1 hv).1; omega
       have:=HN.out;rw [e1,hW.cell_far ⟨g,o+(j * 256+q),none⟩ yR (by simp),hcell (j * 256+q) (by omega)];rw [JD (by omega) hq] at hv;exact hv) (by rw [hsx,hsz]; omega) (fO _)
    have hcs:(zs.toList.take 0 ++ au (sec l j) ++ zs.toList.drop (0+(au (sec l j)).length)).toArray=(au (sec l j)).toArray:=by
     rw [hsx,List.drop_eq_nil_of_le (by simp [hsz]),List.append_nil,List.take_zero,List.nil_append]
    rw [hcs,hsx] at hcp;have xQ:=hid (mO hbV (au (sec l j)).toArray);have yE:=hid (oF hW (akf _) (au (sec l j)).toArray);have hne:¬ (c=j * 256):=by have:=HN.out; omega
    have hle:(j:Int) * 256<=(n:Int):=by have:=HN.out; omega
    have hnn:(0:Int)<=(j:Int) * 256:=by omega
    have htn:((j:Int) * 256).toNat=j * 256:=by omega
    clear hbV hW hcs hcell yR Nn hll;go_wp2_with fail
    go_region
    generalize (wr.alloc (.cells zs 141)).drew.setRow wr.heap.size (au (sec l j)).toArray=W at *;have xA:¬ own' wr.heap.size:=λe=>by have:=HL.out.lt _ e; omega
    have Yq:=xQ.out.lt;have Es:=(HL.out.grown yE.out (λ_ e=>by cases e)).drew;obtain ⟨v',wa,wb,hr1,hr2,⟨f2,bV,hl2,ht2⟩,hk⟩:=Es.append hij fF (by rw [qH bq a l j (a+j) (akf _)]; exact Oh.out _) (by have:=yE.out.size; have:=jQ.out.size; rw [heap_drew]; omega) 103;have abX:=Es.map.look (t:=104) (E:=103) Tryz.underlying3 Tryz.underlying104 (Dm _) (a+j) (by omega);have hlk2:=(Es.alloc (.cells (au (sec l j)).toArray 141)).map.look (t:=104) (E:=103) Tryz.underlying3 Tryz.underlying104 (Dm _) (a+j) (by omega)
    have Vq:W.drew.rangeAt wr.heap.size 0 (au (sec l j)):=λq v hv=>by
     rw [Nat.zero_add,(xQ.out.drew).cell]; simpa using hv
    have hka:=hk b (Es.lt b Es.ownB) (.inr rfl);have hkV:=hk wr.heap.size (by rw [heap_drew]; exact Yq) (.inl xA);have vT:=hid (show W.drew.cell? ⟨b,1,none⟩=some (.map (some bm))/\W.drew.rangeAt wr.heap.size 0 (au (sec l j)) from ⟨Es.c1,Vq⟩);have nN:=hid (show (W.drew.alloc (.cells (au (sec l j)).toArray 141)).cell? ⟨b,1,none⟩=some (.map (some bm))/\(W.drew.alloc (.cells (au (sec l j)).toArray 141)).rangeAt wr.heap.size 0 (au (sec l j)) from ⟨(Es.alloc _).c1,World.rangeAt_alloc Vq _⟩)
    have nk:=hid (show wa.cell? ⟨b,1,none⟩=some (.map (some bm))/\wa.rangeAt wr.heap.size 0 (au (sec l j)) from ⟨by rw [aki (a:=⟨b,1,none⟩) hka]; exact Es.c1,rangeAt_of_block Vq hkV⟩);have Bp:=hid (show wb.cell? ⟨b,1,none⟩=some (.map (some bm))/\wb.rangeAt wr.heap.size 0 (au (sec l j)) from ⟨hl2.c1,rangeAt_of_block Vq (ht2.block _ (by rw [heap_drew]; exact Yq) xA)⟩);have HL2:=hid hl2
    have HT2:=hid (jQ.out.trans ((aa.none_ (yE.out.trans (ah _ none))).trans ht2));have hbs:=Wt fF;have hI:(Tryz.prog.info? 141).map (·.size)=some (au (sec l j)).length:=by rw [hsx]; exact Dx
    have hU:Tryz.prog.underlying 141=some (.array 256 5):=Tryz.underlying141;rw [<-EA.out] at abX hlk2 hr2;have fK:=hid (show T.puts bq a l (j+1)=(T.puts bq a l j).put bq (a+j) (sec l j) from rfl);have hc1:=Es.c1;clear hcp hka hkV hk hl2 ht2 Vq Es xQ yE xA Yq;generalize (f' (a+j)).getD (.slice none 0 0)=v0 at *;generalize hx:au (sec l j)=x at *;clear hx;go_wp2_with fail;refine wp_region_noPanic ?_
    refine wp_region_held_drew (S:=λwx=>wx.cell? ⟨b,1,none⟩=some (.map (some bm))/\wx.rangeAt wr.heap.size 0 x) (by kernel_rfl) vT.out (λhHeld=>?_);refine wpAnyH_take (i:=0) (v:=.pointer (some ⟨b,0,none⟩)) rfl (by kernel_rfl) (by kernel_rfl) (by kernel_rfl) (λ_ _ _ h=>h) (Or.inl ⟨by rfl,?_⟩) (by assumption) ?_
    · intro w1 hSw; (try dsimp only at hSw); go_simp
    simp only [Act.put,aj6,aj4,aj3,aj7,aj8];refine wpAnyH_take (i:=1) (v:=.pointer (some ⟨b,0,none⟩)) rfl (by kernel_rfl) (by kernel_rfl) (by kernel_rfl) (λ_ _ _ h=>h) (Or.inl ⟨by rfl,?_⟩) (by assumption) ?_
    · intro w1 hSw; (try dsimp only at hSw); go_simp
    simp only [Act.put,aj6,aj5,aj4,aj3,aj7,aj8];refine wpAnyH_take (i:=2) (v:=.pointer (some ⟨b,1,none⟩)) rfl (by kernel_rfl) (by kernel_rfl) (by kernel_rfl) (λ_ _ _ h=>h) (Or.inl ⟨by rfl,?_⟩) (by assumption) ?_
    · intro w1 hSw; (try dsimp only at hSw); go_simp
    simp only [Act.put,aj6,aj5,aj4,aj3,aj7,aj8];refine wpAnyH_take (i:=3) (v:=.map (some bm)) rfl (by kernel_rfl) (by kernel_rfl) (by kernel_rfl) (λ_ _ _ h=>h) (Or.inl ⟨by rfl,?_⟩) (by assumption) ?_
    · intro w1 hSw; (try dsimp only at hSw); go_simp
    simp only [Act.put,aj6,aj5,aj4,aj3,aj7,aj8];refine wpAnyH_take (i:=4) (v:=.int .i64 (a:Nat)) rfl (by kernel_rfl) (by kernel_rfl) (by kernel_rfl) (λ_ _ _ h=>h) (Or.inl ⟨by rfl,?_⟩) (by assumption) ?_
    · intro w1 hSw; (try dsimp only at hSw); go_simp
    simp only [Act.put,aj6,aj5,aj4,aj3,aj7,aj8];refine wpAnyH_take (i:=5) (v:=.int .i64 (j:Nat)) rfl (by kernel_rfl) (by kernel_rfl) (by kernel_rfl) (λ_ _ _ h=>h) (Or.inl ⟨by rfl,?_⟩) (by assumption) ?_
    · intro w1 hSw; (try dsimp only at hSw); go_simp
    simp only [Act.put,aj6,aj5,aj4,aj3,aj7,aj8];refine wpAnyH_take (i:=6) (v:=.int .i64 ((a:Int)+(j:Int))) rfl (by kernel_rfl) (by kernel_rfl) (by kernel_rfl) (λ_ _ _ h=>h) (Or.inl ⟨by rfl,?_⟩) (by assumption) ?_
    · intro w1 hSw; (try dsimp only at hSw); go_simp
    simp only [Act.put,aj6,aj5,aj4,aj3,aj7,aj8];refine wpAnyH_take (i:=7) (v:=.pointer (some ⟨b,0,none⟩)) rfl (by kernel_rfl) (by kernel_rfl) (by kernel_rfl) (λ_ _ _ h=>h) (Or.inl ⟨by rfl,?_⟩) (by assumption) ?_
    · intro w1 hSw; (try dsimp only at hSw); go_simp
    simp only [Act.put,aj6,aj5,aj4,aj3,aj7,aj8];refine wpAnyH_take (i:=8) (v:=.pointer (some ⟨b,0,none⟩)) rfl (by kernel_rfl) (by kernel_rfl) (by kernel_rfl) (λ_ _ _ h=>h) (Or.inl ⟨by rfl,?_⟩) (by assumption) ?_
    · intro w1 hSw; (try dsimp only at hSw); go_simp
    simp only [Act.put,aj6,aj5,aj4,aj3,aj7,aj8];refine wpAnyH_take (i:=9) (v:=.pointer (some ⟨b,1,none⟩)) rfl (by kernel_rfl) (by kernel_rfl) (by kernel_rfl) (λ_ _ _ h=>h) (Or.inl ⟨by rfl,?_⟩) (by assumption) ?_
    · intro w1 hSw; (try dsimp only at hSw); go_simp
    simp only [Act.put,aj6,aj5,aj4,aj3,aj7,aj8];refine wpAnyH_take (i:=10) (v:=.map (some bm)) rfl (by kernel_rfl) (by kernel_rfl) (by kernel_rfl) (λ_ _ _ h=>h) (Or.inl ⟨by rfl,?_⟩) (by assumption) ?_
    · intro w1 hSw; (try dsimp only at hSw); go_simp
    simp only [Act.put,aj6,aj5,aj4,aj3,aj7,aj8];refine wpAnyH_take (i:=11) (v:=.int .i64 (a:Nat)) rfl (by kernel_rfl) (by kernel_rfl) (by kernel_rfl) (λ_ _ _ h=>h) (Or.inl ⟨by rfl,?_⟩) (by assumption) ?_
    · intro w1 hSw; (try dsimp only at hSw); go_simp
    simp only [Act.put,aj6,aj5,aj4,aj3,aj7,aj8];refine wpAnyH_take (i:=12) (v:=.int .i64 (j:Nat)) rfl (by kernel_rfl) (by kernel_rfl) (by kernel_rfl) (λ_ _ _ h=>h) (Or.inl ⟨by rfl,?_⟩) (by assumption) ?_
    · intro w1 hSw; (try dsimp only at hSw); go_simp
    simp only [Act.put,aj6,aj5,aj4,aj3,aj7,aj8];refine wpAnyH_take (i:=13) (v:=.int .i64 ((a:Int)+(j:Int))) rfl (by kernel_rfl) (by kernel_rfl) (by kernel_rfl) (λ_ _ _ h=>h) (Or.inl ⟨by rfl,?_⟩) (by assumption) ?_
    · intro w1 hSw; (try dsimp only at hSw); go_simp
    simp only [Act.put,aj6,aj5,aj4,aj3,aj7,aj8];refine wpAnyH_take (i:=15) (v:=.agg x.toArray) rfl (by kernel_rfl) (by kernel_rfl) (by kernel_rfl) (λ_ _ _ h=>h) (yieldsIf_load_mid (by rfl) 141 (Operand.tmp 11) rfl wr.heap.size 0 rfl x _ (λw h=>h.2) hU rfl hI) (by assumption) ?_;simp only [Act.put,aj6,aj5,aj4,aj3,aj7,aj8]
    refine wpAnyH_ready (rs:=[14,16]) (by kernel_rfl) (by simp) ?_;refine AllReadyH.cons rfl (λK hK=>?_) (AllReadyH.cons rfl (λK hK=>?_) AllReadyH.nil)
    · refine Ju rfl (Operand.tmp 51) (Operand.tmp 54) 104 rfl (.map (some bm)) (.int .i64 ((a:Int)+(j:Int))) v0 rfl rfl abX ?_;refine hK.out _ _ vT.out (λhHeld=>?_);clear hK K;refine wpAnyH_ready (rs:=[16]) (by kernel_rfl) (by simp) ?_;refine AllReadyH.cons rfl (λK hK=>?_) AllReadyH.nil;refine mD rfl 103 (Operand.tmp 56) rfl (.agg x.toArray) _ rfl (hbs _) ?_;refine hK.out _ _ nN.out (λhHeld=>?_);clear hK K
      refine wpAnyH_ready (rs:=[17]) (by kernel_rfl) (by simp) ?_;refine AllReadyH.cons rfl (λK hK=>?_) AllReadyH.nil;refine step_append rfl (Operand.tmp 55) (Operand.tmp 57) 103 rfl v0 _ v' rfl rfl hr1 ?_;refine hK.out _ _ nk.out (λhHeld=>?_);clear hK K;refine wpAnyH_ready (rs:=[18]) (by kernel_rfl) (by simp) ?_;refine AllReadyH.cons rfl (λK hK=>?_) AllReadyH.nil;refine DU rfl (Operand.tmp 44) (Operand.tmp 47) (Operand.tmp 58) 104 rfl (.map (some bm)) (.int .i64 ((a:Int)+(j:Int))) v' rfl rfl rfl hr2 ?_
      refine hK.out _ _ Bp.out (λhHeld=>?_);clear hK K;refine wpAnyH_done (by kernel_rfl) ?_ _;refine NoPanic.normal ?_;simp only [Act.put,aj6,aj5,aj4,aj3,aj7,aj8]
      cases bq with
      | false =>
        rw [show (T.puts false a l j).put false (a+j) (sec l j)=(T.puts false a l j).add (a+j) (sec l j) from rfl] at fK;rw [<-fK.out] at HL2;go_wp2_with fail
        go_roundw
        case rel=>exact ⟨j+1,_,bV,by omega,by go_num,HL2.out,HT2.out⟩
        case measure=>simp [Go.RowKit.intOf]; omega
      | true =>
        have HST:=hid (yT HL2.out (a+j) hij);rw [show (T.puts true a l j).put true (a+j) (sec l j)=((T.puts true a l j).add (a+j) (sec l j)).settle (a+j) from rfl] at fK;rw [<-fK.out] at HST;go_wp2_with fail;rw [EA.out];refine HST.out.mono ?_;rintro e w9 ⟨rfl,⟨f9,kP⟩,Em⟩;have sO:=hid kP; have zG:=hid (HT2.out.trans Em); clear kP Em;go_wp2_with fail
        go_roundw
        case rel=>exact ⟨j+1,f9,bV,by omega,by go_num,sO.out,zG.out⟩
        case measure=>simp [Go.RowKit.intOf]; omega
    · refine mD rfl 103 (Operand.tmp 56) rfl (.agg x.toArray) _ rfl (hbs _) ?_;refine hK.out _ _ nN.out (λhHeld=>?_);clear hK K;refine wpAnyH_ready (rs:=[14]) (by kernel_rfl) (by simp) ?_;refine AllReadyH.cons rfl (λK hK=>?_) AllReadyH.nil;refine Ju rfl (Operand.tmp 51) (Operand.tmp 54) 104 rfl (.map (some bm)) (.int .i64 ((a:Int)+(j:Int))) v0 rfl rfl hlk2 ?_;refine hK.out _ _ nN.out (λhHeld=>?_);clear hK K
      refine wpAnyH_ready (rs:=[17]) (by kernel_rfl) (by simp) ?_;refine AllReadyH.cons rfl (λK hK=>?_) AllReadyH.nil;refine step_append rfl (Operand.tmp 55) (Operand.tmp 57) 103 rfl v0 _ v' rfl rfl hr1 ?_;refine hK.out _ _ nk.out (λhHeld=>?_);clear hK K;refine wpAnyH_ready (rs:=[18]) (by kernel_rfl) (by simp) ?_;refine AllReadyH.cons rfl (λK hK=>?_) AllReadyH.nil;refine DU rfl (Operand.tmp 44) (Operand.tmp 47) (Operand.tmp 58) 104 rfl (.map (some bm)) (.int .i64 ((a:Int)+(j:Int))) v' rfl rfl rfl hr2 ?_
      refine hK.out _ _ Bp.out (λhHeld=>?_);clear hK K;refine wpAnyH_done (by kernel_rfl) ?_ _;refine NoPanic.normal ?_;simp only [Act.put,aj6,aj5,aj4,aj3,aj7,aj8]
      cases bq with
      | false =>
        rw [show (T.puts false a l j).put false (a+j) (sec l j)=(T.puts false a l j).add (a+j) (sec l j) from rfl] at fK;rw [<-fK.out] at HL2;go_wp2_with fail
        go_roundw
        case rel=>exact ⟨j+1,_,bV,by omega,by go_num,HL2.out,HT2.out⟩
        case measure=>simp [Go.RowKit.intOf]; omega
      | true =>
        have HST:=hid (yT HL2.out (a+j) hij);rw [show (T.puts true a l j).put true (a+j) (sec l j)=((T.puts true a l j).add (a+j) (sec l j)).settle (a+j) from rfl] at fK;rw [<-fK.out] at HST;go_wp2_with fail;rw [EA.out];refine HST.out.mono ?_;rintro e w9 ⟨rfl,⟨f9,kP⟩,Em⟩;have sO:=hid kP; have zG:=hid (HT2.out.trans Em); clear kP Em;go_wp2_with fail
        go_roundw
        case rel=>exact ⟨j+1,f9,bV,by omega,by go_num,sO.out,zG.out⟩
        case measure=>simp [Go.RowKit.intOf]; omega
  · obtain rfl:j=count:=by omega
    have KH:=hid (Kk HL.out);have YV:=hid HL.out.ownB;go_wp2_with fail;refine KH.out.mono ?_;rintro e w9 ⟨rfl,qY,kP⟩;have sO:=hid kP; have zG:=hid (jQ.out.trans (aa.aA qY (λq e=>by cases e; exact YV.out))); clear kP qY;go_wp2;go_ret;exact ⟨rfl,f',own',sO.out,zG.out⟩
end Go.Proofs.YtinajlbijgedbaaGreat.Dsk
