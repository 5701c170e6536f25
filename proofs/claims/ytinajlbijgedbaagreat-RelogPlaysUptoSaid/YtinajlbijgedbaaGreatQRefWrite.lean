/- Texts of this seat's proofs: RefWrite. -/
import Derived.Test.YtinajlbijgedbaaGreatQRefFail
import Derived.Test.YtinajlbijgedbaaGreatQDiskWrite
set_option maxRecDepth 100000
set_option maxHeartbeats 16000000
namespace Go.Proofs.YtinajlbijgedbaaGreat.Dsk
open Lib (hid)
open Go.RowKit Mem Crc DiskSpec
theorem Mc:(Tryz.prog.info? 65).map (λi=>(i.zero,i.size,i.bytes))=some (some (.slice none 0 0),1,24):=by kernel_rfl
theorem uL {P:Program} {ops:Array Oper} {o:Oper} {a:Act} {w w':World} {K:Act->World->Prop} {Q:Exit->Act->World->Prop} {E:Prop} (hgd:o.guard=none) (x:Operand) (t:TypeId)
 (ho:o.op=.load t x) (u v:Value) (hx:a.eval x=u) (hrun:(Instr.loadAt t u).run P w=.ok v w') (h:K (a.put o.dst v) w') :
 if Region.wanted o (yielded ops a.tmps)=true then Oper.wp P o a w K Q else E:=by
 have hw:Region.wanted o (yielded ops a.tmps)=true:=by simp [Region.wanted,hgd]
 rw [if_pos hw];unfold Oper.wp execOp;simp only [ho,hx,Sem.run_bind,Sem.run_pure,hrun,Result.andThen_ok];exact h
theorem rO {P:Program} {ops:Array Oper} {o:Oper} {a:Act} {w w':World} {K:Act->World->Prop} {Q:Exit->Act->World->Prop} {E:Prop} (hgd:o.guard=none) (x y:Operand) (t:TypeId)
 (ho:o.op=.store t x y) (u v:Value) (hx:a.eval x=u) (hy:a.eval y=v) (hrun:(Instr.storeAt t u v).run P w=.ok () w') (h:K (a.put o.dst undef) w') :
 if Region.wanted o (yielded ops a.tmps)=true then Oper.wp P o a w K Q else E:=by
 have hw:Region.wanted o (yielded ops a.tmps)=true:=by simp [Region.wanted,hgd]
 rw [if_pos hw];unfold Oper.wp execOp;simp only [ho,hx,hy,Sem.run_bind,Sem.run_pure,hrun,Result.andThen_ok];exact h
theorem MV (w:World) (b o:Nat) (v:Value) (hc:w.cell? ⟨b,o,none⟩=some v):(Instr.loadAt 66 (.pointer (some ⟨b,o,none⟩))).run Tryz.prog w=.ok v w:=by
 have ha:=Tryz.isAgg66 w
 simp [Instr.loadAt,Instr.sureAddr,loadVar,ha,hc]
theorem Ub (w:World) (b o:Nat) (v old:Value) (hc:w.cell? ⟨b,o,none⟩=some old) (hf:w.frozen? ⟨b,o,none⟩=false) (A:Option Addr) (n c:Nat) (hv:v=.slice A n c) :
 (Instr.storeAt 66 (.pointer (some ⟨b,o,none⟩)) v).run Tryz.prog w=.ok () (w.setCell ⟨b,o,none⟩ v):=by
 subst hv;have hz:=Tryz.sizeOf66 w;have e:(⟨b,o,none⟩:Addr).add 0=⟨b,o,none⟩:=by rw [Addr.add_mid,Nat.add_zero]
 have hs:=run_store Tryz.prog w ⟨b,o,none⟩ (.slice A n c) .plain rfl;rw [hc,hf] at hs
 simp [Instr.storeAt,Instr.sureAddr,storeVar,hz,Value.cells,storeCells,e,hs]
theorem Ws (u:Value) (w:World) (A:Option Addr) (n c:Nat) (hu:u=.slice A n c) :
 (Instr.buildSlice 66 1 #[(0,u)]).run Tryz.prog w=.ok (.slice (some ⟨w.heap.size,0,none⟩) 1 1) (w.alloc (.cells #[u] 65)):=by
 subst hu;obtain ⟨i0,hi0,hz0,hz1,_⟩:=info_parts Mc;refine run_buildSlice w 66 65 1 _ _ i0 _ Tryz.underlying66 hi0 hz0 (by rw [hz1]; decide) (by rw [hz1]; decide) ?_;rw [hz1];have hf:=Great.fill_whole (s:=1) (by omega) [.slice A n c] ((Array.range (1 * 1)).map λq=>(Value.slice none 0 0).cells[q % (Value.slice none 0 0).cells.size]!) (by simp [Value.cells]) (by simp);have e:([Value.slice A n c].flatMap λv=>v.cells.toList).toArray=#[.slice A n c]:=by simp [Value.cells]
 rw [e] at hf;exact hf
theorem aP.Uo {w w1:World} {B r bl c:Nat} {dv vv:Nat->Value} {vs:Nat->List Value} {S:St} {own:Nat->Prop} (h:aP w B r bl c dv vv vs S own) {i:Nat} (hi:i < S.n) {v':Value} (hgr:bS w w1 (vv i) v') :
 w1.heap[r]?=w.heap[r]?/\w1.heap[bl]?=w.heap[bl]?:=by
 obtain ⟨cs,hb,_⟩:=h.cells;refine ⟨hgr.1.block r (h.lt r h.jK) (λe=>?_),hgr.1.block bl (h.lt bl h.og) (λe=>?_)⟩
 · obtain ⟨cur,fz,hh⟩:=h.nV hi e.symm;exact iH h.blk hh (by decide) rfl
 · obtain ⟨cur,fz,hh⟩:=h.nV hi e.symm;exact iH hb hh (by decide) rfl
theorem aa.widen {w w1:World} {own Ac bV:Nat->Prop} (h:aa w w1 own Ac) (hf:∀ i,bV i->Ac i\/w.heap.size<=i):aa w w1 own bV :=
 { h with fresh:=λi hi=>by rcases hf i hi with h1 | h1; exact h.fresh i h1; exact .inr h1 }
theorem aP.append {w:World} {B r bl c:Nat} {dv vv:Nat->Value} {vs:Nat->List Value} {S:St} {own:Nat->Prop} (h:aP w B r bl c dv vv vs S own) {i:Nat} (hi:i < S.n) (u:Value) (A:Option Addr) (n m:Nat) (hu:u=.slice A n m) (hroom:(S.ae i).length < 549755813888) (ty:TypeId) :
 ∃ v' w1,(Builtin.append_ #[66,66] ty #[vv i,.slice (some ⟨w.heap.size,0,none⟩) 1 1]).run Tryz.prog (w.alloc (.cells #[u] 65))=.ok v' w1 /\
  Own w1 0 65 1 v' ((S.ae i).length+1) (vs i ++ [u])/\bS w w1 (vv i) v':=by
 obtain ⟨i0,hi0,hz0,hz1,hz2⟩:=info_parts Mc;have hrd:Reads (w.alloc (.cells #[u] 65)) (w.heap.size+1) 1 (some ⟨w.heap.size,0,none⟩) 1 [u]:=by
  refine ⟨rfl,λ_=>⟨_,rfl,by simp,λj x hx=>?_⟩⟩
  match j with
  | 0=>simpa [Addr.add] using hx
  | j+1=>simp at hx
 obtain ⟨v',w1,h1,h2,h3⟩:=nH (P:=Tryz.prog) (w.alloc (.cells #[u] 65)) 0 66 ty 65 i0 _ 1 24 Tryz.underlying66 hi0 hz0 hz1 hz2 rfl (by omega)
  _ _ _ ((h.part i hi).row.alloc _) (w.heap.size+1) (some ⟨w.heap.size,0,none⟩) 1 1 [u] hrd (λx hx=>by simp at hx; subst hx; rw [hu]; rfl) (by unfold maxLen; omega) (by omega) (aks _)
 exact ⟨v',w1,h1,h2,bS.behind (aj9 w _ none) h3⟩
theorem aP.wider {w:World} {B r bl c:Nat} {dv vv:Nat->Value} {vs:Nat->List Value} {S:St} {own:Nat->Prop} (h:aP w B r bl c dv vv vs S own) {own':Nat->Prop} (ho:∀ i,own i->own' i) (hlow:∀ i,own' i->B<=i) (hlt:∀ i,own' i->i < w.heap.size):aP w B r bl c dv vv vs S own' :=
 { h with
  part:=λi hi=>(h.part i hi).keep ho (λ_ _ _ _ _=>rfl) (λ_ _=>rfl)
  jK:=ho r h.jK
  og:=ho bl h.og
  low:=hlow
  lt:=hlt }
theorem Tn {S:St} (i:Nat) (x:List Nat):({ (S.add i x) with ag:=upd (S.add i x).ag i x,ae:=upd (S.add i x).ae i [] }:St)=(S.add i x).settle i:=by
 have e:(S.add i x).now i=x:=by
  show (upd S.ae i (S.ae i ++ [x]) i).getLastD _=x;rw [upd_same]; simp
 rw [St.settle,e]
theorem Mg {w:World} {B r bl c:Nat} {dv vv:Nat->Value} {vs:Nat->List Value} {S:St} {own:Nat->Prop} (h:aP w B r bl c dv vv vs S own) (a count:Nat) (A:Option Addr) (cc:Nat) (l:List Nat) (bq:Bool)
 (hd:Data w own A (count * 256) l) (hc:count * 256<=cc) (h1:1<=count) (h2:a+count<=S.n) (hf2:S.f2≠1) (hlf:S.left≠0) (hroom:∀ i,(S.ae i).length < 549755813888) (hB:B<=w.heap.size) :
 Calls Tryz.prog 24 #[.pointer (some ⟨r,0,none⟩),.int .i64 (a:Nat),.slice A (count * 256) cc,.bool bq] w λe w'=>e=.returned (.int .i64 0) /\
  ∃ kV ko vs' own',aP w' B r bl c kV ko vs' (({ S with f2:=S.f2 - 1 }:St).puts bq a l count).done own'/\aa w w' own own':=by
 have htop:=h.ok.top;have hcap:=h.cap;have HH:=hid (qQ h (a:Int) (count:Int) (by omega) (by omega));have hhas:S.has a count=true:=by simp [St.has]; omega
 rw [hhas] at HH;have HD:=hid (Gi h);rw [show decide (S.f2=1)=false by simp [hf2]] at HD;have jB:=hid h.jK;clear h hhas;generalize hT:({ S with f2:=S.f2 - 1 }:St)=T at *;have htn:T.n=S.n:=by rw [<-hT]
 have htl:T.left=S.left:=by rw [<-hT]
 have Oh:=hid (show ∀ i,(T.ae i).length < 549755813888 by rw [<-hT]; exact hroom);rw [<-htn] at hcap htop h2;have hl0:(T.left == 0)=false:=by rw [htl]; simp; exact hlf
 clear hT hroom htn htl hlf hf2;obtain ⟨g,o,rfl,_⟩:=hd.2.2 (by omega);have Dj:=hid hd; clear hd;have hm1:((count * 256:Nat):Int) % 256=0:=by omega
 have hm2:((count * 256:Nat):Int) / 256=(count:Int):=by omega
 have sj:((count:Int) == 0)=false:=by simp; omega
 generalize hn:count * 256=n at *;have HN:=hid hn; clear hn;have zy:(n:Int).tmod 256=0:=by rw [akm (by omega)]; exact hm1
 have si:(n:Int).tdiv 256=(count:Int):=by rw [Int.tdiv_eq_ediv_of_nonneg (by omega)]; exact hm2
 have El:IntKind.i64.wrap (count:Int)=(count:Int):=IntWalk.i64_in _ (by omega);obtain ⟨i0,hi0,hz0,hz1,hz2⟩:=info_parts gD;have hi:=hid hi0; have z0:=hid hz0; have z1:=hid hz1; have z2:=hid hz2; clear hi0 hz0 hz1 hz2;go_enter Tryz.func24,Tryz.ntmps24;go_wp2_with fail;refine HH.out.mono ?_;rintro e w' ⟨rfl,rfl⟩;go_wp2_with fail;refine HD.out.mono ?_;rintro e w1 ⟨rfl,hg1,hl1⟩;have Ct:=hl1.r5;have HT1:=hid (aa.aA (own:=own) hg1 (λq e=>by cases e; exact jB.out)); have H1:=hid hl1; clear hg1 hl1
 generalize hle:T.left=le at *;have sM:=hid hle; clear hle;go_wp2_with fail
 go_loopw [10,11] (λi _ wr=>∃ (j:Nat) (kV ko:Nat->Value) (vs':Nat->List Value) (own':Nat->Prop),j<=count/\i=.int .i64 j/\aP wr B r bl c kV ko vs' (T.puts bq a l j) own'/\aa w wr own own') (λi _ _=>count - (Go.RowKit.intOf i).toNat)
 case atStart=>exact ⟨0,dv,vv,vs,own,by omega,rfl,H1.out,HT1.out⟩
 case round =>
  obtain ⟨j,kV,ko,vs',own',hj,rfl,hl,ht⟩:=hrel;have HL:=hid hl; have jQ:=hid ht; clear hl ht
  by_cases hlt:j < count
  · obtain ⟨g',o',e0,yR,Nn,hcell⟩:=(Dj.out.turn jQ.out).2.2 (by omega);simp only [Option.some.injEq,Addr.mk.injEq,and_true] at e0;obtain ⟨rfl,rfl⟩:=e0;have hll:=Dj.out.1;have fF:l6 (sec l j):=P9 (by omega) Dj.out.2.1;have hij:a+j < (T.puts bq a l j).n:=by rw [wW]; omega
    have hrd:Reads wr wr.heap.size 1 (some ⟨g,o+256 * j,none⟩) 256 (au (sec l j)):=by
     refine ⟨by rw [aB,fF.1],λ_=>⟨_,rfl,yR,λq v hv=>?_⟩⟩;have hq:q < 256:=by have:=(List.getElem?_eq_some_iff.1 hv).1; rw [aB,fF.1] at this; exact this
     have:=HN.out;rw [Addr.add_mid,Nat.add_assoc,hcell (256 * j+q) (by omega),<-hv,JD (by omega) hq,Nat.mul_comm j 256]
    have gW:=hid hrd;have aiW:IntKind.i64.wrap (256 * (j:Int))=256 * (j:Int):=IntWalk.i64_in _ (by omega);have XY:IntKind.i64.wrap (256 * (j:Int)+256)=256 * (j:Int)+256:=IntWalk.i64_in _ (by omega);have Vn:IntKind.i64.wrap ((a:Int)+(j:Int))=(a:Int)+(j:Int):=IntWalk.i64_in _ (by omega);have hb1:256 * (j:Int)+256<=(cc:Int):=by have:=HN.out; omega
    have hb2:256 * (j:Int)<=256 * (j:Int)+256:=by omega
    have hb0:(0:Int)<=256 * (j:Int):=by omega
    have hb3:(0:Int)<=256 * (j:Int)+256:=by omega
    have ht1:(256 * (j:Int)).toNat=256 * j:=by omega
    have ht2:(256 * (j:Int)+256).toNat=256 * j+256:=by omega
    have hne:¬ (cc=256 * j):=by have:=HN.out; omega
    have hx1:(a:Int)+(j:Int) < (T.n:Int):=by omega
    have hx0:(0:Int)<=(a:Int)+(j:Int):=by omega
    have hx2:((a:Int)+(j:Int)).toNat=a+j:=by omega
    clear hrd hcell Nn hll
    go_wp2_with (at_builtin
                 refine ai _ rfl (.tmp 42) (.tmp 49) _ rfl wr.heap.size 5 i0 _ 1 1 Tryz.underlying65 hi.out z0.out z1.out z2.out rfl (by omega) (.slice none 0 0) 0 [] rfl (Own.nil _ _ _ _)
                  _ _ 256 _ _ rfl gW.out (fO _) (by simp only [maxLen]; omega) (by omega) (akf _) ?_
                 intro u wa hown' dC;have HU:=hid hown'; have HGU:=hid dC; clear hown' dC)
    go_wp2_with fail;have hU:Own wa wr.heap.size 5 1 u 256 (au (sec l j)):=by have:=HU.out; rwa [List.nil_append,Nat.zero_add] at this
    have hga:=iy HGU.out.1 none;obtain ⟨gu,cu,hue,hgu,hgl,_⟩:=hU.reads (by omega);have Zh:∀ q,u.ownBlock=some q->own' q\/q=gu:=λq hq=>by rw [hue] at hq; cases hq; exact .inr rfl
    have hl2:=((HL.out.grown hga (λ_ e=>by cases e)).wider (own':=λq=>own' q\/q=gu) (λ_ h=>.inl h) (λq hq=>by rcases hq with hq | rfl; exact HL.out.low q hq; have:=jQ.out.size; omega) (λq hq=>by rcases hq with hq | rfl; exact ake (HL.out.lt q hq) hga.size; exact hgl)).drew
    have hby:BytesAt wa.drew (λq=>own' q\/q=gu) u (sec l j):=(BytesAt.abl hU fF Zh);obtain ⟨v',wb,hr1,hown,hgr⟩:=hl2.append hij u _ _ _ hue (by rw [qH bq a l j (a+j) (akf _)]; exact Oh.out _) 66;obtain ⟨A5,c5,hv5,_,_,_⟩:=hown.shape;have hkb:=hl2.Uo hij hgr;have Zo:wb.cell? ⟨bl,(a+j) * 2+1,none⟩=some (ko (a+j)):=(aki (a:=⟨bl,(a+j) * 2+1,none⟩) hkb.2).trans (hl2.cv hij);have Zn:wb.frozen? ⟨bl,(a+j) * 2+1,none⟩=false:=(World.frozen?_of_block (a:=⟨bl,(a+j) * 2+1,none⟩) hkb.2).trans (hl2.zu _)
    have hst:=Ub wb bl ((a+j) * 2+1) v' _ Zo Zn _ _ _ hv5;obtain ⟨fQ,hl3,ht3,hsub⟩:=hl2.add hij hby hgr hown (by have:=jQ.out.size; have:=hga.size; show _<=wa.heap.size; omega);have Yd:=MV wa.drew bl ((a+j) * 2+1) _ (hl2.cv hij);have Yc:=MV (wa.drew.alloc (.cells #[u] 65)) bl ((a+j) * 2+1) _ ((hl2.alloc (.cells #[u] 65)).cv hij);have hbs:=λwx=>Ws u wx _ _ _ hue
    have hpn:(T.puts bq a l j).n=T.n:=wW T bq a l j;have zx:((T.puts bq a l j).add (a+j) (sec l j)).n=T.n:=hpn;have I1:a+j < ((T.puts bq a l j).add (a+j) (sec l j)).n:=hij;have hrc:=hl2.rc;rw [hpn] at hrc;have vT:=hid hrc;have nN:=hid (show (wa.drew.alloc (.cells #[u] 65)).cell? ⟨r,0,none⟩=some (.slice (some ⟨bl,0,none⟩) T.n c) by rw [<-hpn]; exact (hl2.alloc _).rc);have nk:=hid (show wb.cell? ⟨r,0,none⟩=some (.slice (some ⟨bl,0,none⟩) T.n c) by rw [aki (a:=⟨r,0,none⟩) hkb.1]; exact hrc)
    have Bp:=hid (show (wb.setCell ⟨bl,(a+j) * 2+1,none⟩ v').cell? ⟨r,0,none⟩=some (.slice (some ⟨bl,0,none⟩) T.n c) by rw [<-zx]; exact hl3.rc);have kX:=hid hl3;have hturn:=(jQ.out.trans ((aa.none_ (own:=own') (hga.trans (ah wa none))).widen (bV:=λq=>own' q\/q=gu) (λq hq=>by rcases hq with hq | rfl; exact .inl hq; exact .inr hgu))).trans ht3;have HT3:=hid hturn;have aci:BytesAt (wb.setCell ⟨bl,(a+j) * 2+1,none⟩ v') fQ u (sec l j):=by
     have hlen:(vs' (a+j)).length=((T.puts bq a l j).ae (a+j)).length:=by have:=(hl2.part _ hij).row.len; omega
     obtain ⟨u',hu1,hu2⟩:=(hl3.part (a+j) I1).Lu ((T.puts bq a l j).ae (a+j)).length (sec l j) (by
      show (upd (T.puts bq a l j).ae (a+j) _ (a+j))[_]?=_;rw [upd_same]; simp)
     rw [upd_same,<-hlen] at hu1
     simp at hu1
     rw [hu1]; exact hu2
    have hset:=hl3.settle I1 aci;rw [Tn] at hset;have ady:=hid (show bq=false->aP (wb.setCell ⟨bl,(a+j) * 2+1,none⟩ v') B r bl c kV (upd ko (a+j) v') (upd vs' (a+j) (vs' (a+j) ++ [u])) (T.puts bq a l (j+1)) fQ from λe=>by
     rw [St.puts,St.put,e]; simp only [Bool.false_eq_true,if_false]; rw [<-e]; exact hl3)
    have adx:=hid (show bq=true->aP (((wb.setCell ⟨bl,(a+j) * 2+1,none⟩ v').setCell ⟨bl,(a+j) * 2,none⟩ u).setCell ⟨bl,(a+j) * 2+1,none⟩ (.slice none 0 0)) B r bl c (upd kV (a+j) u) (upd (upd ko (a+j) v') (a+j) (.slice none 0 0)) (upd (upd vs' (a+j) (vs' (a+j) ++ [u])) (a+j) []) (T.puts bq a l (j+1)) fQ from λe=>by
     rw [St.puts,St.put,e]; simp only [if_true]; rw [<-e]; exact hset)
    have acX:=hid (hturn.trans (aa.aA (akd (akd (akr (wb.setCell ⟨bl,(a+j) * 2+1,none⟩ v') (some bl)) ((a+j) * 2) u) ((a+j) * 2+1) (.slice none 0 0)) (λq e=>by cases e; exact hl3.og)));clear hl2 hl3 ht3 hsub hby aci hset hturn hown hgr hkb Zo Zn hU hga Zh hgu hgl hrc;subst hue;subst hv5;generalize ko (a+j)=v0 at *;refine wp_region_noPanic ?_;refine wp_region_held_drew (S:=λwx=>wx.cell? ⟨r,0,none⟩=some (.slice (some ⟨bl,0,none⟩) T.n c)) (by kernel_rfl) vT.out (λhHeld=>?_)
    refine wpAnyH_take (i:=0) (v:=.pointer (some ⟨r,0,none⟩)) rfl (by kernel_rfl) (by kernel_rfl) (by kernel_rfl) (λ_ _ _ h=>h) (Or.inl ⟨by rfl,?_⟩) (by assumption) ?_
    · intro w1 hSw; (try dsimp only at hSw); go_simp
    simp only [Act.put,aj6,aj4,aj3,aj7,aj8];refine wpAnyH_take (i:=1) (v:=.pointer (some ⟨r,0,none⟩)) rfl (by kernel_rfl) (by kernel_rfl) (by kernel_rfl) (λ_ _ _ h=>h) (Or.inl ⟨by rfl,?_⟩) (by assumption) ?_
    · intro w1 hSw; (try dsimp only at hSw); go_simp
    simp only [Act.put,aj6,aj5,aj4,aj3,aj7,aj8];refine wpAnyH_take (i:=2) (v:=.pointer (some ⟨r,0,none⟩)) rfl (by kernel_rfl) (by kernel_rfl) (by kernel_rfl) (λ_ _ _ h=>h) (Or.inl ⟨by rfl,?_⟩) (by assumption) ?_
    · intro w1 hSw; (try dsimp only at hSw); go_simp
    simp only [Act.put,aj6,aj5,aj4,aj3,aj7,aj8];refine wpAnyH_take (i:=3) (v:=.slice (some ⟨bl,0,none⟩) T.n c) rfl (by kernel_rfl) (by kernel_rfl) (by kernel_rfl) (λ_ _ _ h=>h) (Or.inl ⟨by rfl,?_⟩) (by assumption) ?_
    · intro w1 hSw; (try dsimp only at hSw); go_simp
    simp only [Act.put,aj6,aj5,aj4,aj3,aj7,aj8];refine wpAnyH_take (i:=4) (v:=.int .i64 (a:Nat)) rfl (by kernel_rfl) (by kernel_rfl) (by kernel_rfl) (λ_ _ _ h=>h) (Or.inl ⟨by rfl,?_⟩) (by assumption) ?_
    · intro w1 hSw; (try dsimp only at hSw); go_simp
    simp only [Act.put,aj6,aj5,aj4,aj3,aj7,aj8];refine wpAnyH_take (i:=5) (v:=.int .i64 (j:Nat)) rfl (by kernel_rfl) (by kernel_rfl) (by kernel_rfl) (λ_ _ _ h=>h) (Or.inl ⟨by rfl,?_⟩) (by assumption) ?_
    · intro w1 hSw; (try dsimp only at hSw); go_simp
    simp only [Act.put,aj6,aj5,aj4,aj3,aj7,aj8];refine wpAnyH_take (i:=6) (v:=.int .i64 ((a:Int)+(j:Int))) rfl (by kernel_rfl) (by kernel_rfl) (by kernel_rfl) (λ_ _ _ h=>h) (Or.inl ⟨by rfl,?_⟩) (by assumption) ?_
    · intro w1 hSw; (try dsimp only at hSw); go_simp
    simp only [Act.put,aj6,aj5,aj4,aj3,aj7,aj8];refine wpAnyH_take (i:=7) (v:=.pointer (some ⟨r,0,none⟩)) rfl (by kernel_rfl) (by kernel_rfl) (by kernel_rfl) (λ_ _ _ h=>h) (Or.inl ⟨by rfl,?_⟩) (by assumption) ?_
    · intro w1 hSw; (try dsimp only at hSw); go_simp
    simp only [Act.put,aj6,aj5,aj4,aj3,aj7,aj8];refine wpAnyH_take (i:=8) (v:=.pointer (some ⟨r,0,none⟩)) rfl (by kernel_rfl) (by kernel_rfl) (by kernel_rfl) (λ_ _ _ h=>h) (Or.inl ⟨by rfl,?_⟩) (by assumption) ?_
    · intro w1 hSw; (try dsimp only at hSw); go_simp
    simp only [Act.put,aj6,aj5,aj4,aj3,aj7,aj8];refine wpAnyH_take (i:=9) (v:=.pointer (some ⟨r,0,none⟩)) rfl (by kernel_rfl) (by kernel_rfl) (by kernel_rfl) (λ_ _ _ h=>h) (Or.inl ⟨by rfl,?_⟩) (by assumption) ?_
    · intro w1 hSw; (try dsimp only at hSw); go_simp
    simp only [Act.put,aj6,aj5,aj4,aj3,aj7,aj8];refine wpAnyH_take (i:=10) (v:=.slice (some ⟨bl,0,none⟩) T.n c) rfl (by kernel_rfl) (by kernel_rfl) (by kernel_rfl) (λ_ _ _ h=>h) (Or.inl ⟨by rfl,?_⟩) (by assumption) ?_
    · intro w1 hSw; (try dsimp only at hSw); go_simp
    simp only [Act.put,aj6,aj5,aj4,aj3,aj7,aj8];refine wpAnyH_take (i:=11) (v:=.int .i64 (a:Nat)) rfl (by kernel_rfl) (by kernel_rfl) (by kernel_rfl) (λ_ _ _ h=>h) (Or.inl ⟨by rfl,?_⟩) (by assumption) ?_
    · intro w1 hSw; (try dsimp only at hSw); go_simp
    simp only [Act.put,aj6,aj5,aj4,aj3,aj7,aj8];refine wpAnyH_take (i:=12) (v:=.int .i64 (j:Nat)) rfl (by kernel_rfl) (by kernel_rfl) (by kernel_rfl) (λ_ _ _ h=>h) (Or.inl ⟨by rfl,?_⟩) (by assumption) ?_
    · intro w1 hSw; (try dsimp only at hSw); go_simp
    simp only [Act.put,aj6,aj5,aj4,aj3,aj7,aj8];refine wpAnyH_take (i:=13) (v:=.int .i64 ((a:Int)+(j:Int))) rfl (by kernel_rfl) (by kernel_rfl) (by kernel_rfl) (λ_ _ _ h=>h) (Or.inl ⟨by rfl,?_⟩) (by assumption) ?_
    · intro w1 hSw; (try dsimp only at hSw); go_simp
    simp only [Act.put,aj6,aj5,aj4,aj3,aj7,aj8];refine wpAnyH_take (i:=14) (v:=.pointer (some ⟨bl,(a+j) * 2,none⟩)) rfl (by kernel_rfl) (by kernel_rfl) (by kernel_rfl) (λ_ _ _ h=>h) (Or.inl ⟨by rfl,?_⟩) (by assumption) ?_
    · intro w1 hSw; (try dsimp only at hSw); go_simp
    simp only [Act.put,aj6,aj5,aj4,aj3,aj7,aj8];refine wpAnyH_take (i:=15) (v:=.pointer (some ⟨bl,(a+j) * 2+1,none⟩)) rfl (by kernel_rfl) (by kernel_rfl) (by kernel_rfl) (λ_ _ _ h=>h) (Or.inl ⟨by rfl,?_⟩) (by assumption) ?_
    · intro w1 hSw; (try dsimp only at hSw); go_simp
    simp only [Act.put,aj6,aj5,aj4,aj3,aj7,aj8];refine wpAnyH_take (i:=17) (v:=.slice (some ⟨gu,0,none⟩) 256 cu) rfl (by kernel_rfl) (by kernel_rfl) (by kernel_rfl) (λ_ _ _ h=>h) (Or.inl ⟨by rfl,?_⟩) (by assumption) ?_
    · intro w1 hSw; (try dsimp only at hSw); go_simp
    simp only [Act.put,aj6,aj5,aj4,aj3,aj7,aj8];refine wpAnyH_ready (rs:=[16,18]) (by kernel_rfl) (by simp) ?_;refine AllReadyH.cons rfl (λK hK=>?_) (AllReadyH.cons rfl (λK hK=>?_) AllReadyH.nil)
    · refine uL rfl (Operand.tmp 66) 66 rfl _ _ rfl Yd ?_;refine hK.out _ _ vT.out (λhHeld=>?_);clear hK K;refine wpAnyH_ready (rs:=[18]) (by kernel_rfl) (by simp) ?_;refine AllReadyH.cons rfl (λK hK=>?_) AllReadyH.nil;refine mD rfl 66 (Operand.tmp 68) rfl (.slice (some ⟨gu,0,none⟩) 256 cu) _ rfl (hbs _) ?_;refine hK.out _ _ nN.out (λhHeld=>?_);clear hK K;refine wpAnyH_ready (rs:=[19]) (by kernel_rfl) (by simp) ?_
      refine AllReadyH.cons rfl (λK hK=>?_) AllReadyH.nil;refine step_append rfl (Operand.tmp 67) (Operand.tmp 69) 66 rfl _ _ _ rfl rfl hr1 ?_;refine hK.out _ _ nk.out (λhHeld=>?_);clear hK K;simp only [Act.put,aj6,aj5,aj4,aj3,aj7,aj8];refine wpAnyH_take (i:=20) (v:=.pointer (some ⟨bl,(a+j) * 2,none⟩)) rfl (by kernel_rfl) (by kernel_rfl) (by kernel_rfl) (λ_ _ _ h=>h) (Or.inl ⟨by rfl,?_⟩) (by assumption) ?_
      · intro w1 hSw; (try dsimp only at hSw); go_simp
      simp only [Act.put,aj6,aj5,aj4,aj3,aj7,aj8];refine wpAnyH_take (i:=21) (v:=.pointer (some ⟨bl,(a+j) * 2+1,none⟩)) rfl (by kernel_rfl) (by kernel_rfl) (by kernel_rfl) (λ_ _ _ h=>h) (Or.inl ⟨by rfl,?_⟩) (by assumption) ?_
      · intro w1 hSw; (try dsimp only at hSw); go_simp
      simp only [Act.put,aj6,aj5,aj4,aj3,aj7,aj8];refine wpAnyH_ready (rs:=[22]) (by kernel_rfl) (by simp) ?_;refine AllReadyH.cons rfl (λK hK=>?_) AllReadyH.nil;refine rO rfl (Operand.tmp 72) (Operand.tmp 70) 66 rfl _ _ rfl rfl hst ?_;refine hK.out _ _ Bp.out (λhHeld=>?_);clear hK K;refine wpAnyH_done (by kernel_rfl) ?_ _
      refine NoPanic.normal ?_;simp only [Act.put,aj6,aj5,aj4]
      cases bq with
      | false =>
        go_wp2_with fail
        go_roundw
        case rel=>exact ⟨j+1,_,_,_,fQ,by omega,by go_num,ady.out rfl,HT3.out⟩
        case measure=>simp [Go.RowKit.intOf]; omega
      | true =>
        have hc3:=kX.out.rc;rw [zx] at hc3;have hcd:=kX.out.cd I1; have hcv:=kX.out.cv I1; have hf0:=kX.out.zu ((a+j) * 2); have hf1:=kX.out.zu ((a+j) * 2+1);go_wp2_with fail
        go_roundw
        case rel=>exact ⟨j+1,_,_,_,fQ,by omega,by go_num,adx.out rfl,acX.out⟩
        case measure=>simp [Go.RowKit.intOf]; omega
    · refine mD rfl 66 (Operand.tmp 68) rfl (.slice (some ⟨gu,0,none⟩) 256 cu) _ rfl (hbs _) ?_;refine hK.out _ _ nN.out (λhHeld=>?_);clear hK K;refine wpAnyH_ready (rs:=[16]) (by kernel_rfl) (by simp) ?_;refine AllReadyH.cons rfl (λK hK=>?_) AllReadyH.nil;refine uL rfl (Operand.tmp 66) 66 rfl _ _ rfl Yc ?_;refine hK.out _ _ nN.out (λhHeld=>?_);clear hK K;refine wpAnyH_ready (rs:=[19]) (by kernel_rfl) (by simp) ?_
      refine AllReadyH.cons rfl (λK hK=>?_) AllReadyH.nil;refine step_append rfl (Operand.tmp 67) (Operand.tmp 69) 66 rfl _ _ _ rfl rfl hr1 ?_;refine hK.out _ _ nk.out (λhHeld=>?_);clear hK K;simp only [Act.put,aj6,aj5,aj4,aj3,aj7,aj8];refine wpAnyH_take (i:=20) (v:=.pointer (some ⟨bl,(a+j) * 2,none⟩)) rfl (by kernel_rfl) (by kernel_rfl) (by kernel_rfl) (λ_ _ _ h=>h) (Or.inl ⟨by rfl,?_⟩) (by assumption) ?_
      · intro w1 hSw; (try dsimp only at hSw); go_simp
      simp only [Act.put,aj6,aj5,aj4,aj3,aj7,aj8];refine wpAnyH_take (i:=21) (v:=.pointer (some ⟨bl,(a+j) * 2+1,none⟩)) rfl (by kernel_rfl) (by kernel_rfl) (by kernel_rfl) (λ_ _ _ h=>h) (Or.inl ⟨by rfl,?_⟩) (by assumption) ?_
      · intro w1 hSw; (try dsimp only at hSw); go_simp
      simp only [Act.put,aj6,aj5,aj4,aj3,aj7,aj8];refine wpAnyH_ready (rs:=[22]) (by kernel_rfl) (by simp) ?_;refine AllReadyH.cons rfl (λK hK=>?_) AllReadyH.nil;refine rO rfl (Operand.tmp 72) (Operand.tmp 70) 66 rfl _ _ rfl rfl hst ?_;refine hK.out _ _ Bp.out (λhHeld=>?_);clear hK K;refine wpAnyH_done (by kernel_rfl) ?_ _
      refine NoPanic.normal ?_;simp only [Act.put,aj6,aj5,aj4]
      cases bq with
      | false =>
        go_wp2_with fail
        go_roundw
        case rel=>exact ⟨j+1,_,_,_,fQ,by omega,by go_num,ady.out rfl,HT3.out⟩
        case measure=>simp [Go.RowKit.intOf]; omega
      | true =>
        have hc3:=kX.out.rc;rw [zx] at hc3;have hcd:=kX.out.cd I1; have hcv:=kX.out.cv I1; have hf0:=kX.out.zu ((a+j) * 2); have hf1:=kX.out.zu ((a+j) * 2+1);go_wp2_with fail
        go_roundw
        case rel=>exact ⟨j+1,_,_,_,fQ,by omega,by go_num,adx.out rfl,acX.out⟩
        case measure=>simp [Go.RowKit.intOf]; omega
  · obtain rfl:j=count:=by omega
    have KH:=hid (Mo HL.out);have YV:=hid HL.out.jK;go_wp2_with fail;refine KH.out.mono ?_;rintro e w9 ⟨rfl,qY,kP⟩;have sO:=hid kP; have zG:=hid (jQ.out.trans (aa.aA qY (λq e=>by cases e; exact YV.out))); clear kP qY;go_wp2;go_ret;exact ⟨rfl,kV,ko,vs',own',sO.out,zG.out⟩
end Go.Proofs.YtinajlbijgedbaaGreat.Dsk
