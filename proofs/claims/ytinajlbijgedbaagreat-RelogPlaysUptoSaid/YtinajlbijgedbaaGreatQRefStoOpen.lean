/- Texts of this seat's proofs: RefStoOpen. -/
import Derived.Test.YtinajlbijgedbaaGreatQRefStoSettle
import Derived.Test.YtinajlbijgedbaaGreatQRefStoMem
import Derived.Test.YtinajlbijgedbaaGreatQSupRefLoad
import Derived.Test.YtinajlbijgedbaaGreatQStoGood3
set_option maxRecDepth 100000
set_option maxHeartbeats 16000000
namespace Go.Proofs.YtinajlbijgedbaaGreat.RSto
open Lib (hid)
open Go.RowKit CrcMath CodecMath Mem Crc Codec DiskSpec Dsk Sup Log RLog Sto
set_option linter.unusedVariables false
set_option linter.unusedSimpArgs false
def sb0:Sb:=⟨0,0,0,0,0,0,0⟩
def QZ (Z:Nat->Prop) (q:Nat):Nat->Prop:=λi=>i=q\/Z i
def YZ (Z:Nat->Prop) (yb:Nat):Nat->Prop:=λi=>i=yb\/Z i
theorem Gv {S:St} {D:aK} {x:Sb} {R:Int × St} (h:(dR S D sb0 x.next R).1=0):iJ x R=(0,some ⟨(dR S D sb0 x.next R).2.1,x.next.log,x.next,aM,none⟩,(dR S D sb0 x.next R).2.1)/\(dR S D sb0 x.next R).2.2=(x.next,aM):=by
 obtain ⟨e1,T⟩:=R
 by_cases h1:e1=0
 · subst h1;rw [nU] at h ⊢;rw [if_pos rfl] at h ⊢;have hk:iJ x (0,T)=if (ay T x.next.l).1=0 then (0,some ⟨(ay T x.next.l).2,x.next.log,x.next,aM,none⟩,(ay T x.next.l).2) else ((ay T x.next.l).1,none,(ay T x.next.l).2):=by unfold iJ; rw [if_pos rfl]
   rw [hk]
   dsimp only at h ⊢
   generalize ay T x.next.l=V at *;obtain ⟨e2,T2⟩:=V
   by_cases h2:e2=0
   · subst h2;unfold jT;rw [if_pos rfl,if_pos rfl];exact ⟨rfl,rfl⟩
   · unfold jT at h;rw [if_neg h2] at h;exact absurd h h2
 · rw [nU,if_neg h1] at h;exact absurd h h1
theorem KQ {S:St} {D:aK} {x y:Sb} {R:Int × St} (h:(dR S D x y R).1=0):aL y.l ((dR S D x y R).2.1.n:Nat)=true:=by
 obtain ⟨e1,T⟩:=R
 by_cases h1:e1=0
 · subst h1;rw [nU] at h ⊢;rw [if_pos rfl] at h ⊢
   dsimp only at h ⊢
   have hm:=λh=>xZ (S:=T) (l:=y.l) h
   have hn:=ze T y.l;generalize ay T y.l=V at *;obtain ⟨e2,T2⟩:=V
   by_cases h2:e2=0
   · unfold jT;rw [if_pos h2]
     dsimp only at hn hm ⊢
     rw [hn];exact hm h2
   · unfold jT at h;rw [if_neg h2] at h;exact absurd h h2
 · rw [nU,if_neg h1] at h;exact absurd h h1
theorem Gw {S:St} {D:aK} {x:Sb} {R:Int × St} (h:(dR S D sb0 x.next R).1≠0):iJ x R=((dR S D sb0 x.next R).1,none,(dR S D sb0 x.next R).2.1):=by
 obtain ⟨e1,T⟩:=R
 by_cases h1:e1=0
 · subst h1;rw [nU] at h ⊢;rw [if_pos rfl] at h ⊢;have hk:iJ x (0,T)=if (ay T x.next.l).1=0 then (0,some ⟨(ay T x.next.l).2,x.next.log,x.next,aM,none⟩,(ay T x.next.l).2) else ((ay T x.next.l).1,none,(ay T x.next.l).2):=by unfold iJ; rw [if_pos rfl]
   rw [hk]
   dsimp only at h ⊢
   generalize ay T x.next.l=V at *;obtain ⟨e2,T2⟩:=V
   by_cases h2:e2=0
   · unfold jT at h;rw [if_pos h2] at h;exact absurd rfl h
   · unfold jT;rw [if_neg h2,if_neg h2]
 · rw [nU,if_neg h1];exact ME h1
section
variable {Z:Nat->Prop} {w w' w1 wr:World} {B r g g' q:Nat} {own own':Nat->Prop} {S:St} {x:Sb} {D:aK} {pv:Value}
theorem XG (hk:dx w B r q (QZ Z q) own S x (.pointer none) D false aM pv (.slice none 0 0)) (hw:w.grownBy w1 none) (hl:lK w1 g' r x.log) (hg:w.heap.size<=g') (hm:aL x.l (S.n:Nat)=true) (hz:∀ i,Z i->i≠q) :
 aQ Z (w1.setCell ⟨q,8,none⟩ (.pointer (some ⟨g',0,none⟩))) B r g' q own ⟨S,x.log,x,D,none⟩/\aa w (w1.setCell ⟨q,8,none⟩ (.pointer (some ⟨g',0,none⟩))) (lJ own q) (bT own g' q):=by
 have hgl:=af.lt hl;have Vr:=hk.c.lt;have hk1:=hk.quiet hw;have hs:=bI (akr w1 (some q)) 8 (.pointer (some ⟨g',0,none⟩));have hsz:=hw.size;have hP:∀ i,i < w.heap.size->FX (XZ Z g' q) own i->FX (QZ Z q) own i:=λi hi he=>by
  rcases he with he | (he | he) | he
  · exact .inl he
  · subst he; omega
  · exact .inr (.inl he)
  · exact .inr (.inr he)
 have o5:dx w1 B r q (XZ Z g' q) own S x (.pointer none) D false aM pv (.slice none 0 0):=by
  refine ⟨hk1.d,hk1.c,(hk.p.weak hP).turn (aa.none_ hw),(hk.u.weak hP).turn (aa.none_ hw),hk.okD,hk.xg,.inl (.inr rfl),λi hi=>?_,hk1.low⟩;rcases hi with (hi | hi) | hi
  · subst hi;exact ⟨hgl,λe=>by have:=eP hk.d e; omega,akh hk.low hg⟩
  · exact hk1.xo i (.inl hi)
  · exact hk1.xo i (.inr hi)
 refine ⟨⟨⟨pv,_,o5.row hs (af.aC o5.c 8 _) o5.p o5.u o5.okD o5.xg⟩,af.grown hl hs (λe=>by cases e; omega),(zt hm).1,hm,λe=>by omega,λi hi=>⟨λe=>?_,hz i hi⟩⟩,?_⟩
 · have:=(hk.xo i (.inr hi)).1; omega
 · have ht:aa w w1 (lJ own q) (bT own g' q):=⟨hw.os,hw.tape,hw.output,hw.size,λi hi _=>hw.block i hi (by simp),λi hi=>by
    rcases hi with hi | hi | hi
    · exact .inl (.inl hi)
    · subst hi; exact .inr hg
    · exact .inl (.inr hi)⟩
   exact ht.trans (qD (X:=GQ g' q) (.inr rfl) hs)
def FP (Z:Nat->Prop) (w:World) (B r:Nat) (own:Nat->Prop) (a:Int × Option Sto × St) (e:Ending) (w':World):Prop :=
 (∃ s,a.2.1=some s/\∃ g q own',e=.returned (.tuple #[.pointer (some ⟨q,0,none⟩),.int .i64 0])/\aQ Z w' B r g q own' s/\aa w w' own (bT own' g q)) \/
 (a.2.1=none/\e=.returned (.tuple #[.pointer none,.int .i64 a.1])/\∃ own',bX w' B r a.2.2 own'/\aa w w' own own')
theorem KW {N:Nat} {ag:Nat->List Nat} (h:bX w B r (plain N ag) own) (hn2:2<=N) (eu:gI N ag=none) :
 Calls Tryz.prog 8 #[.pointer (some ⟨r,0,none⟩)] w (λe w'=>e=.returned (.tuple #[.pointer none,.int .i64 14])/\bX w' B r (plain N ag) own/\aa w w' own own):=by
 have hld:=BQ h;rw [(kK hn2).1,(kK hn2).2,uw hn2,eu] at hld;simp only [Option.isSome_none,Option.getD_none,Bool.false_eq_true,if_false] at hld;rw [show nG jm=.agg #[.int .i64 0,.int .i64 0,.int .i64 0,.int .i64 0,.int .i64 0,.int .i64 0,.int .i64 0] from rfl] at hld;have dO:=hid hld;clear hld h hn2 eu;go_enter Tryz.func8,Tryz.ntmps8;go_wp2_with fail;refine dO.out.mono ?_;rintro e w2 ⟨rfl,h2,ht2⟩;have hga:=aj9 w2 (.cells #[.int .i64 0,.int .i64 0,.int .i64 0,.int .i64 0,.int .i64 0,.int .i64 0,.int .i64 0] 49) none
 have HQ:=hid (And.intro (eH h2 hga (λj e=>by cases e)) (ht2.trans (aa.none_ hga)));clear h2 ht2 hga dO;go_wp2_with fail;go_ret2;exact ⟨rfl,HQ.out.1,HQ.out.2⟩
theorem BP {N:Nat} {ag:Nat->List Nat} (h:bX w B r (plain N ag) own) (hB:B<=w.heap.size) (hz:∀ i,Z i->i < w.heap.size/\¬ own i/\B<=i) (x:Sb) (eu:gI N ag=some x.l) (bu:aL x.l (N:Int)=true) (hgn:x.gn < 1099511627776) (fG:x.ep < 1099511627776) :
 Calls Tryz.prog 8 #[.pointer (some ⟨r,0,none⟩)] w (FP Z w B r own (iC N ag x)):=by
 have hn2:2<=N:=by have:=Gy rfl bu; omega
 have hld:=BQ h;rw [(kK hn2).1,(kK hn2).2,uw hn2,eu] at hld;simp only [Option.isSome_some,if_true,Option.getD_some,Ua] at hld;have dO:=hid hld;have HOWN:=hid (show ∀ i,own i->i < w.heap.size from λi hi=>eP h hi);have Hz:=hid (show True->iC N ag x=iJ x (bn (plain N ag) (aG (bF (plain N ag) x.log.ln x.log).1)) from λ_=>rfl);have aU:=hid (Af (plain N ag) x.log.ln x.log);have TC:=hid (show (bF (plain N ag) x.log.ln x.log).1.length<=1099511627776 from by
  have h1:=Ag (plain N ag) x.log.ln x.log;have h2:=(aV (iR bu) 4 (by simp [Sb.l])).2
  simp [Sb.l] at h2
  have h3:x.log.ln=x.ln:=rfl;omega)
 have gX:=hid (show True->aL x.l (N:Int)=true from λ_=>bu); have pU:=hid hB; have HZ:=hid hz;have yF:=hid (show True->x.gn < 1099511627776/\x.ep < 1099511627776 from λ_=>⟨hgn,fG⟩);clear hld h hB hz eu bu hgn fG;generalize iC N ag x=R0 at *;go_enter Tryz.func8,Tryz.ntmps8;go_wp2_with fail;refine dO.out.mono ?_;rintro e w2 ⟨rfl,h2,ht2⟩;have tV:=aj9 w2 (.cells #[.int .i64 (x.gn:Nat),.int .i64 (x.ep:Nat),.int .i64 (x.pg:Nat),.int .i64 (x.st:Nat),.int .i64 (x.ln:Nat),.int .i64 (x.hd:Nat),.int .i64 (x.sq:Nat)] 49) none
 have hbn:=af.new w2 49 #[.int .i64 (x.gn:Nat),.int .i64 (x.ep:Nat),.int .i64 (x.pg:Nat),.int .i64 (x.st:Nat),.int .i64 (x.ln:Nat),.int .i64 (x.hd:Nat),.int .i64 (x.sq:Nat)];have x0:=hbn.cell 0; have x1:=hbn.cell 1; have x2:=hbn.cell 2; have x3:=hbn.cell 3; have x4:=hbn.cell 4; have x5:=hbn.cell 5; have x6:=hbn.cell 6;simp only [akb,aka,akc] at x0 x1 x2 x3 x4 x5 x6
 have hop:=aag (eH h2 tV (λj e=>by cases e)) (akh pU.out (akh ht2.size tV.size)) rfl (x.gn:Nat) (x.pg:Nat) x.ep x.st x.ln x.hd x.sq (gX.out trivial);have Bi:=hid hop;have nP:=hid hbn;have HT2:=hid (ht2.trans (aa.none_ tV));have HNY:=hid (show ¬ own w2.heap.size from λe=>by have:=HOWN.out _ e; have:=ht2.size; omega);have FR:=hid ht2.size;clear h2 ht2 hop tV hbn dO;go_wp2_with fail
 refine Bi.out.mono ?_;rintro e w3 ⟨gl,A,n,c,rfl,hnc,hgl,hl3,IY,ht3⟩;have Oe:=hid (aj nP.out (ht3.block w2.heap.size nP.out.lt HNY.out));have HT3:=hid (HT2.out.trans ht3);have kX:=hid hl3.d;have Oq:=hid IY;have xw:=ht3.size;have hrl:=IY.len;clear hl3 IY ht3 Bi x0 x1 x2 x3 x4 x5 x6 nP HT2;have x0:=Oe.out.cell 0; have x1:=Oe.out.cell 1;simp only [akb,aka,akc] at x0 x1
 have hg1:decide ((1099511627776:Int)<=((x.gn:Nat):Int))=false:=by have:=(yF.out trivial).1; simp; omega
 have hg2:decide ((1099511627776:Int)<=((x.ep:Nat):Int))=false:=by have:=(yF.out trivial).2; simp; omega
 have Z4:=hid (show nI w3 (FX (QZ (YZ Z w2.heap.size) w3.heap.size) own) A n (bF (plain N ag) x.log.ln x.log).1 from Oq.out.weak (λi hi hf=>by
  rcases hf with hf | hf | hf | hf
  · have:=HOWN.out _ hf; have:=FR.out; exact .inl (by simp; omega)
  · omega
  · subst hf; exact .inl (by simp)
  · have:=(HZ.out _ hf).1; have:=FR.out; exact .inl (by simp; omega)))
 have hwy:w2.heap.size < w3.heap.size:=Oe.out.lt;have yG:=hid (show dx (w3.alloc (.cells (Qc r sb0 (.pointer none) (.slice none 0 0) false (.slice none 0 0)) 54)) B r w3.heap.size (QZ (YZ Z w2.heap.size) w3.heap.size) own (plain N ag) sb0 (.pointer none) aM false aM (.slice none 0 0) (.slice none 0 0) from
  ⟨eH kX.out (aj9 w3 _ none) (λj e=>by cases e),af.new w3 _ _,uO _ _,uO _ _,bg.none_,bg.none_,.inl rfl,λi hi=>by
   have h1:=FR.out;rcases hi with hi | hi | hi
   · subst hi;exact ⟨by simp,λe=>by have:=HOWN.out _ e; omega,by have:=pU.out; omega⟩
   · subst hi;exact ⟨by simp; omega,HNY.out,by have:=pU.out; omega⟩
   · exact ⟨by have:=(HZ.out _ hi).1; simp; omega,(HZ.out _ hi).2.1,(HZ.out _ hi).2.2⟩,by have h2:=pU.out; have h3:=FR.out; simp; omega⟩)
 have cB:=hid (aj9 w3 (.cells (Qc r sb0 (.pointer none) (.slice none 0 0) false (.slice none 0 0)) 54) none);have HQN:=hid (show w2.heap.size≠w3.heap.size from by omega);clear Oq xw hgl;have ai1:(bF (plain N ag) x.log.ln x.log).1.length=n:=hrl;have ag0:=hid (show n<=1099511627776 from by have:=TC.out; omega);clear hrl;generalize hRR:(bF (plain N ag) x.log.ln x.log).1=R at *;clear hRR
 go_upto_region 9 with fail;clear hg1 hg2 x0 x1;go_wp2_with fail;generalize hq:w3.heap.size=q at *;have HQ:=hid hq;clear hq hwy;have hcells:Qc r sb0 (.pointer none) (.slice none 0 0) false (.slice none 0 0)=#[.pointer (some ⟨r,0,none⟩),.int .i64 0,.int .i64 0,.int .i64 0,.int .i64 0,.int .i64 0,.int .i64 0,.int .i64 0,.pointer none,.slice none 0 0,.bool false,.slice none 0 0]:=rfl;rw [hcells] at yG cB
 clear hcells;generalize hw4:w3.alloc (.cells #[.pointer (some ⟨r,0,none⟩),.int .i64 0,.int .i64 0,.int .i64 0,.int .i64 0,.int .i64 0,.int .i64 0,.int .i64 0,.pointer none,.slice none 0 0,.bool false,.slice none 0 0] 54)=w4 at *;clear hw4;have ve:=hid (show ∀ (y:ax) (D:aK),bU y=true->jo (rising D) y=rising (upd D y.1.toNat (some (y.2.1,y.2.2))) from λy D hy=>by
  have hy1:=(eO hy).2.1;have h1:=yP (D:=D) (k:=y.1.toNat) (by omega) (y.2.1,y.2.2);unfold iY at h1;rw [show ((y.1.toNat:Nat):Int)=y.1 by omega] at h1;exact h1)
 have HLEN:=hid (show ∀ (D:aK),(rising D).length<=1024 from λD=>by rw [dP]; have:=List.length_filter_le (λk=>(D k).isSome) (List.range 1024); rw [List.length_range] at this; exact this)
 go_loopw [9,10] (λi _ wr=>∃ j:Nat,j<=n/\i=.int .i64 j/\w3.grownBy wr none/\∃ pv,dx wr B r q (QZ (YZ Z w2.heap.size) q) own (plain N ag) sb0 (.pointer none) (aG (R.take j)) false aM pv (.slice none 0 0)) (λi _ _=>n - (Go.RowKit.intOf i).toNat)
 case atStart=>exact ⟨0,aks _,rfl,cB.out,_,yG.out⟩
 case round =>
  clear yG cB;obtain ⟨j,hj,rfl,hg,pv,hc⟩:=hrel;have HG:=hid hg; have HC:=hid hc;clear hg hc
  by_cases hlt:j < n
  · have hjn:(j:Int) < (n:Int):=by omega
    obtain ⟨gi,o,⟨xs,xi⟩,Bx,mx,cx,rfl,hgi,hno,hx,e0,e1,hmc,Cr⟩:=Z4.out.at_ hlt
    dsimp only at e1 Cr
    have hxo:=aU.out _ (akx hx);have yx:=hid hxo; have HX:=hid hx; have jC:=hid Cr;have lN:=hid (show ∀ wx,w3.grownBy wx none->wx.cell? ⟨gi,o+j * 2+1,none⟩=some (.slice Bx mx cx) from λwx hg=>by
     rw [aki (a:=⟨gi,o+j * 2+1,none⟩) (hg.block gi hgi (by simp))]; exact e1)
    have qj:=Cr.len;have aga:mx<=40:=by have:=hxo.1; dsimp only at this; omega
    have HML:=hid qj;have c1:=lN.out _ HG.out;have H0:=hid (show ∃ pv,dx wr B r q (QZ (YZ Z w2.heap.size) q) own (plain N ag) sb0 (.pointer none) (bE (aG (R.take j)) (xi.take 0)) false aM pv (.slice none 0 0) from ⟨pv,HC.out⟩);clear hxo hx Cr qj e0 e1 hno hgi HC;go_wp2_with fail;generalize hwr:wr=wo at *;clear hwr
    go_loopw [10] (λi wx=>∃ k:Nat,k<=mx/\i=.int .i64 k/\w3.grownBy wx none/\∃ pv,dx wx B r q (QZ (YZ Z w2.heap.size) q) own (plain N ag) sb0 (.pointer none) (bE (aG (R.take j)) (xi.take k)) false aM pv (.slice none 0 0)) (λi _=>mx - (Go.RowKit.intOf i).toNat)
    case atStart=>exact ⟨0,aks _,rfl,HG.out,H0.out⟩
    case round =>
     clear H0 HG c1;obtain ⟨k,hk,rfl,hg,pv2,hc2⟩:=hrel;have HG:=hid hg; have HC:=hid hc2;have c1:=lN.out _ hg
     by_cases hkm:k < mx
     · have hkn:(k:Int) < (mx:Int):=by omega
       obtain ⟨g2,o2,⟨y1,y2,y3⟩,By,my,cy,rfl,hg2,X8,hy,d0,d1,d2,Sl,hd2⟩:=(jC.out.turn (aa.none_ hg)).at_ hkm
       dsimp only at d0 d1 d2 hd2
       have J7:=yx.out.2 _ (akx hy);have HY:=hid hy; have HYO:=hid J7;obtain ⟨A3,n3,c3,X6,Ya,Yg,hA3,FB⟩:=hc2.p;subst X6;have zx:n3<=1024:=by have h1:=FB.len; have h2:=HLEN.out (bE (aG (R.take j)) (xi.take k)); omega
       have HD5:=hid (ah wr none);have ni:=hid (hc2.quiet HD5.out);have q9:=hc2.cells.2.2.2.2.2.2.2.2.2.1;have q9':=ni.out.cells.2.2.2.2.2.2.2.2.2.1;have c1':=lN.out _ (hg.trans HD5.out);have d0':wr.drew.cell? ⟨g2,o2+k * 3,none⟩=some (.int .i64 y1):=d0;have d1':wr.drew.cell? ⟨g2,o2+k * 3+1,none⟩=some (.int .i64 y2):=d1;have d2':wr.drew.cell? ⟨g2,o2+k * 3+2,none⟩=some (.slice By my cy):=d2;have fK:=hid (Dt (FB.turn (aa.none_ HD5.out)) (λi hi=>ake (hc2.bO hi) HD5.out.size) Ya Yg hA3 zx y1 y2 (show cO wr.drew (FX (QZ (YZ Z w2.heap.size) q) own) (.slice By my cy) y3 from ⟨_,_,_,rfl,Sl,Dsk.Data.turn hd2 (aa.none_ HD5.out)⟩))
       have CV:=hid (show True->jo (rising (bE (aG (R.take j)) (xi.take k))) (y1,y2,y3)=rising (bE (aG (R.take j)) (xi.take (k+1))) from λ_=>by
        rw [ve.out (y1,y2,y3) _ HYO.out,rW HY.out])
       have HDK:=hid (show bg (bE (aG (R.take j)) (xi.take (k+1))) from by
        rw [rW HY.out];exact hc2.okD.upd (by rw [show ((y1.toNat:Nat):Int)=y1 from by have:=(eO J7).2.1; dsimp only at this; omega]; exact J7))
       clear hc2 hy J7 hd2 X8 FB Sl hg;generalize rising (bE (aG (R.take j)) (xi.take k))=lj at *;go_wp2_with fail
       go_region_with (go_at_call 29
                       (with_reducible refine fK.out.mono ?_)
                       rintro e w5 ⟨hg5,v5,rfl,hv5⟩;have afY:=(ni.out.quiet hg5).cells.2.2.2.2.2.2.2.2.2.1;have f9:=(ni.out.quiet hg5).fz 9;have iF:=hid (HD5.out.trans hg5);have KG:=hid hg5;have HV5:=hid hv5;obtain ⟨A5,n5,c5,rfl,_⟩:=hv5;clear hg5)
       all_goals
        have ET:=hid (show w3.grownBy (w5.setCell ⟨q,9,none⟩ (.slice A5 n5 c5)) none/\∃ pv,dx (w5.setCell ⟨q,9,none⟩ (.slice A5 n5 c5)) B r q (QZ (YZ Z w2.heap.size) q) own (plain N ag) sb0 (.pointer none) (bE (aG (R.take j)) (xi.take (k+1))) false aM pv (.slice none 0 0) from by
         have kQ:=ni.out.quiet KG.out;have hs:=bI (akr w5 (some q)) 9 (.slice A5 n5 c5);exact ⟨aI (HG.out.trans iF.out) hs (λj e=>by cases e; exact Nat.le_of_eq HQ.out),_,kQ.row hs (af.aC kQ.c 9 (.slice A5 n5 c5)) (by rw [<-CV.out trivial]; exact HV5.out) kQ.u HDK.out bg.none_⟩)
        go_wp2_with fail
        first
         | exact ⟨⟨k+1,by omega,by first | rfl | go_num,ET.out⟩,by simp [Go.RowKit.intOf]; omega⟩
         | (go_roundw
            case rel=>exact ⟨k+1,by omega,by first | rfl | go_num,ET.out⟩
            case measure=>simp [Go.RowKit.intOf]; omega)
     · have hke:k=mx:=by omega
       have hkn:¬ ((k:Int) < (mx:Int)):=by omega
       have HE:=hid (show w3.grownBy wr none/\∃ pv,dx wr B r q (QZ (YZ Z w2.heap.size) q) own (plain N ag) sb0 (.pointer none) (aG (R.take (j+1))) false aM pv (.slice none 0 0) from by
        rw [Ej HX.out];have h1:=HC.out;rw [akk (l:=xi) (by have:=HML.out; omega)] at h1;exact ⟨HG.out,_,h1⟩)
       have Vn:IntKind.i64.wrap ((j:Int)+1)=(j:Int)+1:=IntWalk.i64_in _ (by have:=ag0.out; omega);clear HC hg hc2;go_wp2_with fail
       first
        | exact ⟨⟨j+1,by omega,by first | rfl | go_num,HE.out⟩,by simp [Go.RowKit.intOf]; omega⟩
        | (go_roundw
           case rel=>exact ⟨j+1,by omega,by first | rfl | go_num,HE.out⟩
           case measure=>simp [Go.RowKit.intOf]; omega)
  · have vN:j=n:=by omega
    subst vN;have hnj:¬ ((j:Int) < (j:Int)):=by omega
    have Z0:=hid (show dx wr B r q (QZ (YZ Z w2.heap.size) q) own (plain N ag) sb0 (.pointer none) (aG R) false aM pv (.slice none 0 0) from by
     have h1:=HC.out;rw [akk (by omega)] at h1;exact h1)
    have EK:=hid (Oe.out.grown HG.out (by simp));have hgx:=(yF.out trivial).1;have Qw:=(yF.out trivial).2;have hw1:IntKind.i64.wrap (((x.gn:Nat):Int)+1)=((x.gn:Nat):Int)+1:=IntWalk.i64_in _ (by omega);have hw2:IntKind.i64.wrap (((x.ep:Nat):Int)+1)=((x.ep:Nat):Int)+1:=IntWalk.i64_in _ (by omega);have y0:=EK.out.cell 0; have y1:=EK.out.cell 1; have y5:=EK.out.cell 5; have y6:=EK.out.cell 6;have f0:=EK.out.frozen 0; have f1:=EK.out.frozen 1; have f5:=EK.out.frozen 5; have f6:=EK.out.frozen 6
    simp only [akb,aka,akc] at y0 y1 y5 y6;have hgs:=bI (bI (bI (bI (akr wr (some w2.heap.size)) 0 (.int .i64 (((x.gn:Nat):Int)+1))) 1 (.int .i64 (((x.ep:Nat):Int)+1))) 5 (.int .i64 0)) 6 (.int .i64 1);have HCY:=hid (Z0.out.beside (g:=w2.heap.size) (.inr (.inl rfl)) HQN.out hgs);have iG:=hid (show af ((((wr.setCell ⟨w2.heap.size,0,none⟩ (.int .i64 (((x.gn:Nat):Int)+1))).setCell ⟨w2.heap.size,1,none⟩ (.int .i64 (((x.ep:Nat):Int)+1))).setCell ⟨w2.heap.size,5,none⟩ (.int .i64 0)).setCell ⟨w2.heap.size,6,none⟩ (.int .i64 1)) w2.heap.size 49 #[.int .i64 (((x.gn:Nat):Int)+1),.int .i64 (((x.ep:Nat):Int)+1),.int .i64 (x.pg:Nat),.int .i64 (x.st:Nat),.int .i64 (x.ln:Nat),.int .i64 0,.int .i64 1] from (((EK.out.aC 0 _).aC 1 _).aC 5 _).aC 6 _)
    have Ii:=hid (show w3.grownBy ((((wr.setCell ⟨w2.heap.size,0,none⟩ (.int .i64 (((x.gn:Nat):Int)+1))).setCell ⟨w2.heap.size,1,none⟩ (.int .i64 (((x.ep:Nat):Int)+1))).setCell ⟨w2.heap.size,5,none⟩ (.int .i64 0)).setCell ⟨w2.heap.size,6,none⟩ (.int .i64 1)) (some w2.heap.size) from (iy HG.out _).trans hgs);have HST:=hid (JF HCY.out (λi=>by show ([]:List (List Nat)).length < _; simp) x.next);have hsn:=JB (plain N ag) (aG R) sb0 x.next
    have YU:=hid (show True->R0=iJ x (bn (plain N ag) (aG R)) from Hz.out);have Ow:=hid (λh=>Gv (S:=plain N ag) (D:=aG R) (x:=x) (R:=bn (plain N ag) (aG R)) h);have TB:=hid (λh=>Gw (S:=plain N ag) (D:=aG R) (x:=x) (R:=bn (plain N ag) (aG R)) h);have YR:=hid (show jc (plain N ag) (aG R) sb0 x.next=dR (plain N ag) (aG R) sb0 x.next (bn (plain N ag) (aG R)) from rfl);rw [<-YR.out] at Ow TB;have YT:=hid (λh=>(YU.out trivial).trans (Ow.out h).1)
    have YW:=hid (λh=>(YU.out trivial).trans (TB.out h));have l7:=hid hsn;have Lp:=hid (λh=>KQ (S:=plain N ag) (D:=aG R) (x:=sb0) (y:=x.next) (R:=bn (plain N ag) (aG R)) h);rw [<-YR.out] at Lp;have Vm:(#[.int .i64 (x.next.gn:Nat),.int .i64 (x.next.ep:Nat),.int .i64 (x.next.pg:Nat),.int .i64 (x.next.st:Nat),.int .i64 (x.next.ln:Nat),.int .i64 (x.next.hd:Nat),.int .i64 (x.next.sq:Nat)]:Array Value)=#[.int .i64 (((x.gn:Nat):Int)+1),.int .i64 (((x.ep:Nat):Int)+1),.int .i64 (x.pg:Nat),.int .i64 (x.st:Nat),.int .i64 (x.ln:Nat),.int .i64 0,.int .i64 1]:=by simp [Sb.next]
    have EL:=hid Vm;have Oj:=hid (show Calls Tryz.prog 30 #[.pointer (some ⟨q,0,none⟩),.agg #[.int .i64 (((x.gn:Nat):Int)+1),.int .i64 (((x.ep:Nat):Int)+1),.int .i64 (x.pg:Nat),.int .i64 (x.st:Nat),.int .i64 (x.ln:Nat),.int .i64 0,.int .i64 1]] ((((wr.setCell ⟨w2.heap.size,0,none⟩ (.int .i64 (((x.gn:Nat):Int)+1))).setCell ⟨w2.heap.size,1,none⟩ (.int .i64 (((x.ep:Nat):Int)+1))).setCell ⟨w2.heap.size,5,none⟩ (.int .i64 0)).setCell ⟨w2.heap.size,6,none⟩ (.int .i64 1)) (ru ((((wr.setCell ⟨w2.heap.size,0,none⟩ (.int .i64 (((x.gn:Nat):Int)+1))).setCell ⟨w2.heap.size,1,none⟩ (.int .i64 (((x.ep:Nat):Int)+1))).setCell ⟨w2.heap.size,5,none⟩ (.int .i64 0)).setCell ⟨w2.heap.size,6,none⟩ (.int .i64 1)) B r q (QZ (YZ Z w2.heap.size) q) own (.pointer none) false aM (.slice none 0 0) (jc (plain N ag) (aG R) sb0 x.next)) from by
     have h9:=HST.out;rw [Vm] at h9;exact h9)
    have HTY:=hid (show aa w ((((wr.setCell ⟨w2.heap.size,0,none⟩ (.int .i64 (((x.gn:Nat):Int)+1))).setCell ⟨w2.heap.size,1,none⟩ (.int .i64 (((x.ep:Nat):Int)+1))).setCell ⟨w2.heap.size,5,none⟩ (.int .i64 0)).setCell ⟨w2.heap.size,6,none⟩ (.int .i64 1)) own (lJ own q) from by
     have h9:=HT3.out.XJ Ii.out FR.out;exact ⟨h9.os,h9.tape,h9.output,h9.size,h9.block,λi hi=>by
      rcases hi with hi | hi
      · exact h9.fresh i hi
      · subst hi; have h8:=FR.out; have h7:=HQ.out; have h6:=Oe.out.lt; exact .inr (by omega)⟩)
    have HYL:=hid Oe.out.lt;clear hgs hgx Qw YR YU hsn Hz Z4 aU ve HLEN HC Z0 Oe Vm HST HT3 HG Ii;generalize jc (plain N ag) (aG R) sb0 x.next=RS at *;obtain ⟨e5,T,xn,Dn⟩:=RS;have Oi:=hid (show Calls Tryz.prog 30 #[.pointer (some ⟨q,0,none⟩),.agg #[.int .i64 (((x.gn:Nat):Int)+1),.int .i64 (((x.ep:Nat):Int)+1),.int .i64 (x.pg:Nat),.int .i64 (x.st:Nat),.int .i64 (x.ln:Nat),.int .i64 0,.int .i64 1]] ((((wr.setCell ⟨w2.heap.size,0,none⟩ (.int .i64 (((x.gn:Nat):Int)+1))).setCell ⟨w2.heap.size,1,none⟩ (.int .i64 (((x.ep:Nat):Int)+1))).setCell ⟨w2.heap.size,5,none⟩ (.int .i64 0)).setCell ⟨w2.heap.size,6,none⟩ (.int .i64 1)) (λe w'=>e=.returned (.int .i64 e5)/\∃ own' pv',dx w' B r q (QZ (YZ Z w2.heap.size) q) own' T xn (.pointer none) Dn false aM pv' (.slice none 0 0)/\aa ((((wr.setCell ⟨w2.heap.size,0,none⟩ (.int .i64 (((x.gn:Nat):Int)+1))).setCell ⟨w2.heap.size,1,none⟩ (.int .i64 (((x.ep:Nat):Int)+1))).setCell ⟨w2.heap.size,5,none⟩ (.int .i64 0)).setCell ⟨w2.heap.size,6,none⟩ (.int .i64 1)) w' (lJ own q) (lJ own' q)) from Oj.out)
    have z0:=iG.out.cell 0; have z1:=iG.out.cell 1; have z2:=iG.out.cell 2; have z3:=iG.out.cell 3; have z4:=iG.out.cell 4; have z5:=iG.out.cell 5; have z6:=iG.out.cell 6;simp only [akb,aka,akc] at z0 z1 z2 z3 z4 z5 z6;clear Oj;go_wp2_with fail;refine Oi.out.mono ?_;rintro e w6 ⟨rfl,oh,pv6,kQ,qh⟩;have kY:=hid (aj iG.out (qh.block w2.heap.size iG.out.lt (λe=>by
     rcases e with e | e
     · exact HNY.out e
     · exact HQN.out e)))
    have pI:=hid (HTY.out.trans qh);have l8:=hid kQ;clear kQ qh Oi HCY iG HTY z0 z1 z2 z3 z4 z5 z6 y0 y1 y5 y6 f0 f1 f5 f6 EK
    by_cases h5:e5=0
    · subst h5;obtain ⟨rfl,rfl⟩:xn=x.next/\Dn=aM:=by
       have h9:=(Ow.out rfl).2
       injection h9 with h8 h7
       exact ⟨h8,h7⟩
      have HE:=hid (show True->R0=(0,some ⟨T,x.next.log,x.next,aM,none⟩,T) from λ_=>YT.out rfl);have HMN:=hid (show True->aL x.next.l (T.n:Nat)=true from λ_=>Lp.out rfl);have HKZ:=hid (show dx w6 B r q (QZ Z q) oh T x.next (.pointer none) aM false aM pv6 (.slice none 0 0) from by
       have hP:∀ i,i < w6.heap.size->FX (QZ Z q) oh i->FX (QZ (YZ Z w2.heap.size) q) oh i:=λi _ he=>by
        rcases he with he | he | he
        · exact .inl he
        · exact .inr (.inl he)
        · exact .inr (.inr (.inr he))
       exact l8.out.sets (.inl rfl) (λi hi=>l8.out.xo i (by
        rcases hi with hi | hi
        · exact .inl hi
        · exact .inr (.inr hi))) (l8.out.p.weak hP) (l8.out.u.weak hP))
      have HZQ:=hid (show ∀ i,Z i->i≠q from λi hi e=>by have h1:=(HZ.out i hi).1; have h2:=FR.out; have h3:=HQ.out; have h4:=HYL.out; rw [e] at h1; omega);have ZT:=hid HKZ.out;have mi:=hid (show Calls Tryz.prog 31 #[.pointer (some ⟨r,0,none⟩),.agg #[.int .i64 (((x.gn:Nat):Int)+1),.int .i64 (((x.ep:Nat):Int)+1),.int .i64 (x.pg:Nat),.int .i64 (x.st:Nat),.int .i64 (x.ln:Nat),.int .i64 0,.int .i64 1]] w6 (λe w7=>∃ g',e=.returned (.pointer (some ⟨g',0,none⟩))/\w7.cell? ⟨q,8,none⟩=some (.pointer none)/\w7.frozen? ⟨q,8,none⟩=false /\
       FP Z w B r own R0 (.returned (.tuple #[.pointer (some ⟨q,0,none⟩),.int .i64 0])) (w7.setCell ⟨q,8,none⟩ (.pointer (some ⟨g',0,none⟩)))) from by
       have hm:dY [((x.next.gn:Nat):Int),((x.next.ep:Nat):Int),((x.next.pg:Nat):Int),((x.next.st:Nat):Int),((x.next.ln:Nat):Int),((x.next.hd:Nat):Int),((x.next.sq:Nat):Int)] (T.n:Nat)=0:=by
        have h1:aL [((x.next.gn:Nat):Int),((x.next.ep:Nat):Int),((x.next.pg:Nat):Int),((x.next.st:Nat):Int),((x.next.ln:Nat):Int),((x.next.hd:Nat):Int),((x.next.sq:Nat):Int)] (T.n:Nat)=true:=HMN.out trivial;unfold dY;rw [h1]; rfl
       have h9:=Me ZT.out.d (x.next.gn:Nat) (x.next.pg:Nat) x.next.ep x.next.st x.next.ln x.next.hd x.next.sq hm;rw [EL.out] at h9;refine h9.mono ?_;rintro e w7 ⟨g',rfl,hg',hl,hg⟩;have Cq:=ZT.out.quiet hg;have h7:=XG ZT.out hg (x:=x.next) hl hg' (HMN.out trivial) HZQ.out;refine ⟨g',rfl,Cq.cells.2.2.2.2.2.2.2.2.1,Cq.fz 8,?_⟩;rw [HE.out trivial];exact .inl ⟨_,rfl,g',q,oh,rfl,h7.1,pI.out.trans h7.2⟩)
      have z0:=kY.out.cell 0; have z1:=kY.out.cell 1; have z2:=kY.out.cell 2; have z3:=kY.out.cell 3; have z4:=kY.out.cell 4; have z5:=kY.out.cell 5; have z6:=kY.out.cell 6;simp only [akb,aka,akc] at z0 z1 z2 z3 z4 z5 z6;clear HMN HE HKZ ZT l8 kY pI YT YW Ow TB Lp EL HZQ gX TC yF hw1 hw2;go_wp2_with fail;refine mi.out.mono ?_;rintro e w8 ⟨g',rfl,Wq,f8',hop⟩
      have agV:=hid hop;clear hop;go_wp2;go_ret2;exact agV.out
    · have h5b:(e5 == 0)=false:=by simpa using h5
      have HF:=hid (show FP Z w B r own R0 (.returned (.tuple #[.pointer none,.int .i64 e5])) w6 from by
       rw [YW.out h5];exact .inr ⟨rfl,rfl,oh,l8.out.d,⟨pI.out.os,pI.out.tape,pI.out.output,pI.out.size,pI.out.block,λi hi=>pI.out.fresh i (.inl hi)⟩⟩)
      clear h5 l8 kY pI YT YW Ow TB Lp EL gX TC yF hw1 hw2;go_wp2_with fail;go_ret2;exact HF.out
end
end Go.Proofs.YtinajlbijgedbaaGreat.RSto
