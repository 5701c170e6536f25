/- Texts of this seat's proofs: RefStoSwitch, RefRelMem, RefRelStep, RelBoth. -/
import Derived.Test.YtinajlbijgedbaaGreatQRefStoSettle
import Derived.Test.YtinajlbijgedbaaGreatQRefStoMem
import Derived.Test.YtinajlbijgedbaaGreatQStoUse
set_option maxRecDepth 100000
set_option maxHeartbeats 16000000
namespace Go.Proofs.YtinajlbijgedbaaGreat.RSto
open Lib (hid)
open Go.RowKit CrcMath CodecMath Mem Crc Codec DiskSpec Dsk Sup Log RLog Sto
set_option linter.unusedVariables false
set_option linter.unusedSimpArgs false
def rq (Z:Nat->Prop) (w:World) (B r g q:Nat) (own:Nat->Prop) (s:Sto) (l:List Int) (R:Int × St) (e:Ending) (w':World):Prop :=
 e=.returned (.int .i64 R.1)/\∃ own' g',aa w w' (bT own g q) (bT own' g' q) /\
  ((R.1=0/\∃ x',x'.l=l/\aQ Z w' B r g' q own' { s with S:=R.2,x:=x',L:=x'.log })\/(R.1≠0/\g'=g/\aQ Z w' B r g q own' (s.disk R.2)))
section
variable {Z:Nat->Prop} {w w' w1:World} {B r g g' q:Nat} {own own':Nat->Prop} {s:Sto} {S':St} {x':Sb} {D':aK} {pv' Ba:Value}
theorem Iy (h:aQ Z w B r g q own s) (a c:Int) (hb:s.W.isSome=true):Calls Tryz.prog 82 #[.pointer (some ⟨q,0,none⟩),.int .i64 a,.int .i64 c] w λe w'=>e=.returned (.int .i64 17)/\w'=w:=by
 obtain ⟨pv,ov,hk⟩:=h.k;obtain ⟨_,_,_,_,_,_,_,_,_,_,c10,_⟩:=hk.cells;rw [hb] at c10;clear h hk hb;go_enter Tryz.func82,Tryz.ntmps82;go_wp2_with fail;go_ret;exact ⟨rfl,rfl⟩
theorem aQ.Ro (h:aQ Z w B r g q own s) (hw:w.grownBy w1 none) {M:Lg} (hl:lK w1 g' r M) (hg:w.heap.size<=g') (hM:M.ok s.S.n) :
 aQ Z (w1.setCell ⟨q,8,none⟩ (.pointer (some ⟨g',0,none⟩))) B r g' q own { s with L:=M }/\aa w (w1.setCell ⟨q,8,none⟩ (.pointer (some ⟨g',0,none⟩))) (bT own g q) (bT own g' q):=by
 obtain ⟨pv,ov,hk⟩:=h.k;have hgl:=af.lt hl;have Vr:=hk.c.lt;have hk1:=hk.quiet hw;have hs:=bI (akr w1 (some q)) 8 (.pointer (some ⟨g',0,none⟩));have hsz:=hw.size;have hP:∀ i,i < w.heap.size->FX (XZ Z g' q) own i->FX (XZ Z g q) own i:=λi hi he=>by
  rcases he with he | (he | he) | he
  · exact .inl he
  · subst he; omega
  · exact .inr (.inl (.inr he))
  · exact .inr (.inr he)
 have o5:dx w1 B r q (XZ Z g' q) own s.S s.x (.pointer (some ⟨g,0,none⟩)) s.D s.W.isSome (s.W.getD aM) pv ov:=by
  refine ⟨hk1.d,hk1.c,(hk.p.weak hP).turn (aa.none_ hw),(hk.u.weak hP).turn (aa.none_ hw),hk.okD,hk.xg,.inl (.inr rfl),λi hi=>?_,hk1.low⟩;rcases hi with (hi | hi) | hi
  · subst hi;exact ⟨hgl,λe=>by have:=eP hk.d e; omega,akh hk.low hg⟩
  · exact hk1.xo i (.inl (.inr hi))
  · exact hk1.xo i (.inr hi)
 refine ⟨⟨⟨pv,ov,o5.row hs (af.aC o5.c 8 _) o5.p o5.u o5.okD o5.xg⟩,af.grown hl hs (λe=>by cases e; omega),hM,h.may,λe=>by omega,λi hi=>⟨λe=>?_,(h.zo i hi).2⟩⟩,?_⟩
 · have:=(hk.xo i (.inr hi)).1; omega
 · have ht:aa w w1 (bT own g q) (bT own g' q):=⟨hw.os,hw.tape,hw.output,hw.size,λi hi _=>hw.block i hi (by simp),λi hi=>by
    rcases hi with hi | hi | hi
    · exact .inl (.inl hi)
    · subst hi; exact .inr hg
    · exact .inl (.inr (.inr hi))⟩
   exact ht.trans (qD (X:=GQ g' q) (.inr rfl) hs)
theorem aQ.aa8 (h:aQ Z w B r g q own s) (hw:w.grownBy w1 none) (hl:lK w1 g' r s.x.log) (hg:w.heap.size<=g') :
 aQ Z (w1.setCell ⟨q,8,none⟩ (.pointer (some ⟨g',0,none⟩))) B r g' q own { s with L:=s.x.log }/\aa w (w1.setCell ⟨q,8,none⟩ (.pointer (some ⟨g',0,none⟩))) (bT own g q) (bT own g' q) /\
  w1.cell? ⟨q,8,none⟩=some (.pointer (some ⟨g,0,none⟩))/\w1.frozen? ⟨q,8,none⟩=false:=by
 have h1:=h.Ro hw hl hg (zt h.may).1;obtain ⟨_,_,Cq⟩:=(h.quiet hw).k;exact ⟨h1.1,h1.2,Cq.cells.2.2.2.2.2.2.2.2.1,Cq.fz 8⟩
theorem aa5 (h:aQ Z w B r g q own s):Calls Tryz.prog 31 #[.pointer (some ⟨r,0,none⟩),.agg #[.int .i64 (s.x.gn:Nat),.int .i64 (s.x.ep:Nat),.int .i64 (s.x.pg:Nat),.int .i64 (s.x.st:Nat),.int .i64 (s.x.ln:Nat),.int .i64 (s.x.hd:Nat),.int .i64 (s.x.sq:Nat)]] w λe w1 =>
 ∃ g',e=.returned (.pointer (some ⟨g',0,none⟩))/\aQ Z (w1.setCell ⟨q,8,none⟩ (.pointer (some ⟨g',0,none⟩))) B r g' q own { s with L:=s.x.log }/\aa w (w1.setCell ⟨q,8,none⟩ (.pointer (some ⟨g',0,none⟩))) (bT own g q) (bT own g' q) /\
  w1.cell? ⟨q,8,none⟩=some (.pointer (some ⟨g,0,none⟩))/\w1.frozen? ⟨q,8,none⟩=false:=by
 have hm:dY [((s.x.gn:Nat):Int),((s.x.ep:Nat):Int),((s.x.pg:Nat):Int),((s.x.st:Nat):Int),((s.x.ln:Nat):Int),((s.x.hd:Nat):Int),((s.x.sq:Nat):Int)] (s.S.n:Nat)=0:=by
  have h1:aL [((s.x.gn:Nat):Int),((s.x.ep:Nat):Int),((s.x.pg:Nat):Int),((s.x.st:Nat):Int),((s.x.ln:Nat):Int),((s.x.hd:Nat):Int),((s.x.sq:Nat):Int)] (s.S.n:Nat)=true:=h.may;unfold dY;rw [h1]; rfl
 refine (Me h.la.d (s.x.gn:Nat) (s.x.pg:Nat) s.x.ep s.x.st s.x.ln s.x.hd s.x.sq hm).mono ?_;rintro e w1 ⟨g',rfl,hg',hl,hg⟩;have h1:=h.aa8 (w1:=w1) (g':=g') hg hl hg';exact ⟨g',rfl,h1.1,h1.2.1,h1.2.2.1,h1.2.2.2⟩
theorem Um (h:aQ Z w B r g q own s) (a c:Int) (hW:s.W=none) (hkey:keys s.D=[]) (hroom:∀ i,(s.S.ae i).length < 549755813888) :
 Calls Tryz.prog 82 #[.pointer (some ⟨q,0,none⟩),.int .i64 a,.int .i64 c] w (rq Z w B r g q own s (fV s (a,c)) (ay s.S (fV s (a,c)))):=by
 obtain ⟨pv,ov,hk⟩:=h.k;obtain ⟨c0,c1,c2,c3,c4,c5,c6,c7,c8,c9,c10,_⟩:=hk.cells;rw [hW] at c10;simp only [Option.isSome_none] at c10;obtain ⟨A,n,cc,hpv,hnc,hcm,hA,him⟩:=hk.p;subst hpv;have hnl:=him.len;rw [dP,hkey] at hnl;obtain rfl:n=0:=hnl.symm;have bu:=iR h.may;have hgx:=(aV bu 0 (by simp [Sb.l])).2;have hex:=(aV bu 1 (by simp [Sb.l])).2
 simp [Sb.l] at hgx hex
 have hw1:IntKind.i64.wrap (((s.x.gn:Nat):Int)+1)=((s.x.gn:Nat):Int)+1:=IntWalk.i64_in _ (by omega);have hw2:IntKind.i64.wrap (((s.x.ep:Nat):Int)+1)=((s.x.ep:Nat):Int)+1:=IntWalk.i64_in _ (by omega);have H:=hid h; have HK:=hid hk;have hga:=aj9 w (.cells #[.int .i64 (((s.x.gn:Nat):Int)+1),.int .i64 (((s.x.ep:Nat):Int)+1),.int .i64 (s.x.pg:Nat),.int .i64 a,.int .i64 c,.int .i64 0,.int .i64 1] 49) none
 have hbn:=af.new w 49 #[.int .i64 (((s.x.gn:Nat):Int)+1),.int .i64 (((s.x.ep:Nat):Int)+1),.int .i64 (s.x.pg:Nat),.int .i64 a,.int .i64 c,.int .i64 0,.int .i64 1];have gM:=hid hga; have nP:=hid hbn;generalize yh:w.alloc (.cells #[.int .i64 (((s.x.gn:Nat):Int)+1),.int .i64 (((s.x.ep:Nat):Int)+1),.int .i64 (s.x.pg:Nat),.int .i64 a,.int .i64 c,.int .i64 0,.int .i64 1] 49)=wa at *;have WA:=hid yh;have nN:=hid (hk.quiet hga)
 have HD1:=hid (ah wa none);have nk:=hid (nN.out.quiet HD1.out);have gV:=hid (Mh nk.out.d);have fM:=hid (λwx=>lT (((s.x.gn:Nat):Int)+1) (((s.x.ep:Nat):Int)+1) ((s.x.pg:Nat):Int) a c 0 1 ((s.S.n:Nat):Int) wx);have OJ:=hid (show aL (fV s (a,c)) (s.S.n:Nat)=false->ay s.S (fV s (a,c))=(1,s.S) from λh=>by unfold ay; rw [h]; rfl);have Ty:=hid (λwx (hg:w.grownBy wx none)=>rT (hk.quiet hg).d (((s.x.gn:Nat):Int)+1) (((s.x.ep:Nat):Int)+1) ((s.x.pg:Nat):Int) a c 0 1 (λi=>by have h3:=hroom i; omega) (hk.quiet hg).low)
 have HN:=hid (ze s.S (fV s (a,c)));have Bq:=hid (show dY [((s.x.gn:Nat):Int)+1,((s.x.ep:Nat):Int)+1,((s.x.pg:Nat):Int),a,c,0,1] (s.S.n:Nat)=if aL (fV s (a,c)) (s.S.n:Nat) then 0 else 1 from rfl);have Y3:=hid (show [((s.x.gn:Nat):Int)+1,((s.x.ep:Nat):Int)+1,((s.x.pg:Nat):Int),a,c,0,1]=fV s (a,c) from rfl);rw [Y3.out] at Ty;generalize ay s.S (fV s (a,c))=RS at *;obtain ⟨e2,T⟩:=RS;generalize hMB:aL (fV s (a,c)) (s.S.n:Nat)=mb at *
 have HMB:=hid hMB;clear hMB;generalize dY [((s.x.gn:Nat):Int)+1,((s.x.ep:Nat):Int)+1,((s.x.pg:Nat):Int),a,c,0,1] ((s.S.n:Nat):Int)=ck at *;have hkeep:∀ wx,wa.grownBy wx none->wx.cell? ⟨q,0,none⟩=some (.pointer (some ⟨r,0,none⟩))/\wx.cell? ⟨w.heap.size,0,none⟩=some (.int .i64 (((s.x.gn:Nat):Int)+1))/\wx.cell? ⟨w.heap.size,1,none⟩=some (.int .i64 (((s.x.ep:Nat):Int)+1))/\wx.cell? ⟨w.heap.size,2,none⟩=some (.int .i64 (s.x.pg:Nat))/\wx.cell? ⟨w.heap.size,3,none⟩=some (.int .i64 a)/\wx.cell? ⟨w.heap.size,4,none⟩=some (.int .i64 c)/\wx.cell? ⟨w.heap.size,5,none⟩=some (.int .i64 0)/\wx.cell? ⟨w.heap.size,6,none⟩=some (.int .i64 1):=by
  intro wx hg;have hb:=hbn.grown hg (by simp);refine ⟨((hk.quiet hga).quiet hg).cells.1,?_,?_,?_,?_,?_,?_,?_⟩ <;> (rw [hb.cell]; rfl)
 have av:=hid hkeep;have Io:=hid (nP.out.grown HD1.out (by simp));have bB:=hid hroom;have bD:=hid (show ¬ FX (XZ Z g q) own w.heap.size from λe=>by have:=hk.bO e; omega);have CJ:=hid hW;clear h hk hga hbn bu hroom hkeep hW hkey him hnc hcm hA yh hnl hgx hex;go_enter Tryz.func82,Tryz.ntmps82;go_wp2_with fail;rw [WA.out]
 go_region_held3 (λwx=>wx.cell? ⟨q,0,none⟩=some (.pointer (some ⟨r,0,none⟩))/\wx.cell? ⟨w.heap.size,0,none⟩=some (.int .i64 (((s.x.gn:Nat):Int)+1))/\wx.cell? ⟨w.heap.size,1,none⟩=some (.int .i64 (((s.x.ep:Nat):Int)+1))/\wx.cell? ⟨w.heap.size,2,none⟩=some (.int .i64 (s.x.pg:Nat))/\wx.cell? ⟨w.heap.size,3,none⟩=some (.int .i64 a)/\wx.cell? ⟨w.heap.size,4,none⟩=some (.int .i64 c)/\wx.cell? ⟨w.heap.size,5,none⟩=some (.int .i64 0)/\wx.cell? ⟨w.heap.size,6,none⟩=some (.int .i64 1))
  (first
    | exact av.out _ HD1.out
    | exact av.out _ Ih.out)
  (first
    | (go_at_call 23
       (with_reducible refine gV.out.mono ?_)
       rintro e w3 ⟨rfl,rfl⟩)
    | (go_at_call 22
       (with_reducible refine (fM.out _).mono ?_)
       rintro e w4 ⟨rfl,hg4⟩;have Bn:=hid (nk.out.quiet hg4);have jJ:=hid (Io.out.grown hg4 (by simp));have cB:=hid ((gM.out.trans HD1.out).trans hg4);have KE:=hid hg4;have Ih:=hid (HD1.out.trans hg4);clear hg4))
 clear gV fM
 cases mb with
 | false =>
   have HE:=hid (OJ.out rfl);obtain rfl:ck=1:=Bq.out;clear OJ Ty;go_wp2_with fail;go_ret;unfold rq;rw [HE.out];exact ⟨rfl,own,g,aa.none_ cB.out,.inr ⟨by simp,rfl,H.out.quiet cB.out⟩⟩
 | true =>
   obtain rfl:ck=0:=Bq.out;have hm:=HMB.out;obtain ⟨x',hx'⟩:=ML (show aL [((s.x.gn:Nat):Int)+1,((s.x.ep:Nat):Int)+1,((s.x.pg:Nat):Int),a,c,0,1] (s.S.n:Nat)=true from hm);have HX:=hid hx';have HM:=hid (show aL x'.l (s.S.n:Nat)=true from by rw [hx']; exact hm);have hx2:=hx';unfold Sb.l at hx2
   injection hx2 with e0 hx2; injection hx2 with e1 hx2; injection hx2 with e2' hx2; injection hx2 with e3 hx2; injection hx2 with e4 hx2; injection hx2 with e5 hx2; injection hx2 with e6 _
   have Y5:=hid (show af w4 w.heap.size 49 #[.int .i64 (x'.gn:Nat),.int .i64 (x'.ep:Nat),.int .i64 (x'.pg:Nat),.int .i64 (x'.st:Nat),.int .i64 (x'.ln:Nat),.int .i64 (x'.hd:Nat),.int .i64 (x'.sq:Nat)] from by rw [e0,e1,e2',e3,e4,e5,e6]; exact jJ.out);have HD5:=hid (ah w4 none);have HGZ:=hid (Ih.out.trans HD5.out);have ni:=hid (Bn.out.quiet HD5.out);have gF:=hid (Y5.out.grown HD5.out (by simp));have xP:=hid (show w4.drew.cell? ⟨q,0,none⟩=some (.pointer (some ⟨r,0,none⟩))/\w4.drew.cell? ⟨w.heap.size,0,none⟩=some (.int .i64 (x'.gn:Nat))/\w4.drew.cell? ⟨w.heap.size,1,none⟩=some (.int .i64 (x'.ep:Nat))/\w4.drew.cell? ⟨w.heap.size,2,none⟩=some (.int .i64 (x'.pg:Nat))/\w4.drew.cell? ⟨w.heap.size,3,none⟩=some (.int .i64 (x'.st:Nat))/\w4.drew.cell? ⟨w.heap.size,4,none⟩=some (.int .i64 (x'.ln:Nat))/\w4.drew.cell? ⟨w.heap.size,5,none⟩=some (.int .i64 (x'.hd:Nat))/\w4.drew.cell? ⟨w.heap.size,6,none⟩=some (.int .i64 (x'.sq:Nat)) from by
    refine ⟨ni.out.cells.1,?_,?_,?_,?_,?_,?_,?_⟩ <;> (rw [gF.out.cell]; rfl))
   have hsv:=Ty.out _ ((gM.out.trans HD1.out).trans (KE.out.trans HD5.out));rw [<-e0,<-e1,<-e3,<-e4,<-e5,<-e6] at hsv
   try rw [<-e2'] at hsv
   have fw:=hid hsv;clear hsv e0 e1 e2' e3 e4 e5 e6 hx' hm OJ Ty av jJ Io nP
   try dsimp only at fw HN
   go_wp2_with fail
   go_region_held3 (λwx=>wx.cell? ⟨q,0,none⟩=some (.pointer (some ⟨r,0,none⟩))/\wx.cell? ⟨w.heap.size,0,none⟩=some (.int .i64 (x'.gn:Nat))/\wx.cell? ⟨w.heap.size,1,none⟩=some (.int .i64 (x'.ep:Nat))/\wx.cell? ⟨w.heap.size,2,none⟩=some (.int .i64 (x'.pg:Nat))/\wx.cell? ⟨w.heap.size,3,none⟩=some (.int .i64 (x'.st:Nat))/\wx.cell? ⟨w.heap.size,4,none⟩=some (.int .i64 (x'.ln:Nat))/\wx.cell? ⟨w.heap.size,5,none⟩=some (.int .i64 (x'.hd:Nat))/\wx.cell? ⟨w.heap.size,6,none⟩=some (.int .i64 (x'.sq:Nat)))
    (first
      | exact xP.out
      | exact Br.out)
    (first
      | (go_at_call 26
         (with_reducible refine fw.out.mono ?_)
         rintro e w6 ⟨rfl,oh,hd6,qh⟩;have l8:=hid (ni.out.disk hd6 qh);have nu:=hid (aj gF.out (qh.block w.heap.size gF.out.lt (λe=>bD.out (.inl e))));have rD:=hid qh;have Br:=hid (show w6.cell? ⟨q,0,none⟩=some (.pointer (some ⟨r,0,none⟩))/\w6.cell? ⟨w.heap.size,0,none⟩=some (.int .i64 (x'.gn:Nat))/\w6.cell? ⟨w.heap.size,1,none⟩=some (.int .i64 (x'.ep:Nat))/\w6.cell? ⟨w.heap.size,2,none⟩=some (.int .i64 (x'.pg:Nat))/\w6.cell? ⟨w.heap.size,3,none⟩=some (.int .i64 (x'.st:Nat))/\w6.cell? ⟨w.heap.size,4,none⟩=some (.int .i64 (x'.ln:Nat))/\w6.cell? ⟨w.heap.size,5,none⟩=some (.int .i64 (x'.hd:Nat))/\w6.cell? ⟨w.heap.size,6,none⟩=some (.int .i64 (x'.sq:Nat)) from by
          refine ⟨l8.out.cells.1,?_,?_,?_,?_,?_,?_,?_⟩ <;> (rw [nu.out.cell]; rfl))
         have CS:=hid (((H.out.quiet cB.out).quiet HD5.out).disk hd6 qh HN.out);clear hd6 qh))
   have pI:=hid ((aa.none_ (own:=bT own g q) (cB.out.trans HD5.out)).trans (wM (GQ g q) rD.out));clear fw
   by_cases he2:e2=0
   · subst he2;have y0:=nu.out.cell 0; have y1:=nu.out.cell 1; have y2:=nu.out.cell 2; have y3:=nu.out.cell 3; have y4:=nu.out.cell 4; have y5:=nu.out.cell 5; have y6:=nu.out.cell 6;simp only [akb,aka,akc] at y0 y1 y2 y3 y4 y5 y6;obtain ⟨p0,p1,p2,p3,p4,p5,p6,p7,p8,_,_,_⟩:=l8.out.cells;have f1:=l8.out.fz 1; have f2:=l8.out.fz 2; have f3:=l8.out.fz 3; have f4:=l8.out.fz 4; have f5:=l8.out.fz 5; have f6:=l8.out.fz 6; have f7:=l8.out.fz 7
     have fZ:=akd (akd (akd (akd (akd (akd (akd (akr w6 (some q)) 1 (.int .i64 (x'.gn:Nat))) 2 (.int .i64 (x'.ep:Nat))) 3 (.int .i64 (x'.pg:Nat))) 4 (.int .i64 (x'.st:Nat))) 5 (.int .i64 (x'.ln:Nat))) 6 (.int .i64 (x'.hd:Nat))) 7 (.int .i64 (x'.sq:Nat));have sD:=(((((((l8.out.c).aC 1 (.int .i64 (x'.gn:Nat))).aC 2 (.int .i64 (x'.ep:Nat))).aC 3 (.int .i64 (x'.pg:Nat))).aC 4 (.int .i64 (x'.st:Nat))).aC 5 (.int .i64 (x'.ln:Nat))).aC 6 (.int .i64 (x'.hd:Nat))).aC 7 (.int .i64 (x'.sq:Nat))
     have h7:=CS.out.row (x':=x') (D':=s.D) (W':=s.W) (pv':=.slice A 0 cc) (Ba:=ov) l8.out fZ sD l8.out.p l8.out.u l8.out.okD l8.out.xg (by rw [show (s.disk T).S.n=s.S.n from HN.out]; exact HM.out);have xR:=hid (nu.out.grown fZ (λe=>by cases e; exact bD.out (.inr (.inl (.inr rfl)))));go_wp2_with fail;generalize hw7:(((((((w6.setCell ⟨q,1,none⟩ (.int .i64 (x'.gn:Nat))).setCell ⟨q,2,none⟩ (.int .i64 (x'.ep:Nat))).setCell ⟨q,3,none⟩ (.int .i64 (x'.pg:Nat))).setCell ⟨q,4,none⟩ (.int .i64 (x'.st:Nat))).setCell ⟨q,5,none⟩ (.int .i64 (x'.ln:Nat))).setCell ⟨q,6,none⟩ (.int .i64 (x'.hd:Nat))).setCell ⟨q,7,none⟩ (.int .i64 (x'.sq:Nat)))=w7 at *
     have HD7:=hid (ah w7 none);have H8:=hid (h7.1.quiet HD7.out);have CQ:=hid ((pI.out.trans h7.2).trans (aa.none_ HD7.out));have sQ:=hid (xR.out.grown HD7.out (by simp));have mi:=hid (show Calls Tryz.prog 31 #[.pointer (some ⟨r,0,none⟩),.agg #[.int .i64 (x'.gn:Nat),.int .i64 (x'.ep:Nat),.int .i64 (x'.pg:Nat),.int .i64 (x'.st:Nat),.int .i64 (x'.ln:Nat),.int .i64 (x'.hd:Nat),.int .i64 (x'.sq:Nat)]] w7.drew (λe w1 =>
      ∃ g',e=.returned (.pointer (some ⟨g',0,none⟩))/\aQ Z (w1.setCell ⟨q,8,none⟩ (.pointer (some ⟨g',0,none⟩))) B r g' q oh { s with S:=T,x:=x',L:=x'.log }/\aa w7.drew (w1.setCell ⟨q,8,none⟩ (.pointer (some ⟨g',0,none⟩))) (bT oh g q) (bT oh g' q) /\
       w1.cell? ⟨q,8,none⟩=some (.pointer (some ⟨g,0,none⟩))/\w1.frozen? ⟨q,8,none⟩=false) from aa5 H8.out)
     obtain ⟨_,_,Vz⟩:=H8.out.k;have p0:=Vz.cells.1;have p0':w7.cell? ⟨q,0,none⟩=some (.pointer (some ⟨r,0,none⟩)):=p0;have y0':=xR.out.cell 0; have y1':=xR.out.cell 1; have y2':=xR.out.cell 2; have y3':=xR.out.cell 3; have y4':=xR.out.cell 4; have y5':=xR.out.cell 5; have y6':=xR.out.cell 6;simp only [akb,aka,akc] at y0' y1' y2' y3' y4' y5' y6'
     have y0:=sQ.out.cell 0; have y1:=sQ.out.cell 1; have y2:=sQ.out.cell 2; have y3:=sQ.out.cell 3; have y4:=sQ.out.cell 4; have y5:=sQ.out.cell 5; have y6:=sQ.out.cell 6;simp only [akb,aka,akc] at y0 y1 y2 y3 y4 y5 y6;clear h7 fZ sD hw7 Vz pI CS l8 nu xR Br xP rD HM HN HMB Bq Y3 bD bB CJ ni gF Bn Y5 nk nN H HK gM cB KE Ih HGZ HD1 HD5 WA c0 c1 c2 c3 c4 c5 c6 c7 c8 c9 c10 hw1 hw2 HD7
     go_region_with (go_at_call 31
                     (with_reducible refine mi.out.mono ?_)
                     rintro e w8 ⟨g',rfl,hsw,htw,Wq,f8'⟩;have EO:=hid hsw;have Hr:=hid htw;clear hsw htw)
     all_goals
      go_wp2;go_ret;unfold rq;exact ⟨rfl,oh,g',CQ.out.trans Hr.out,.inl ⟨rfl,x',HX.out,EO.out⟩⟩
   · have qZ:(e2 == 0)=false:=by simpa using he2
     have HF:=hid (show rq Z w B r g q own s (fV s (a,c)) (e2,T) (.returned (.int .i64 e2)) w6 from by
      unfold rq;exact ⟨rfl,oh,g,pI.out,.inr ⟨he2,rfl,CS.out⟩⟩)
     clear he2 pI CS l8 nu Br xP rD HX HM HN HMB Bq Y3 bD bB CJ ni gF Bn Y5 nk nN H HK gM cB KE Ih HGZ HD1 HD5 WA c0 c1 c2 c3 c4 c5 c6 c7 c8 c9 c10 hw1 hw2;go_wp2_with fail;go_ret;exact HF.out
end
def fI (w:World) (mb q:Nat) (n:Int) (tg:Option (Int × Int)):Prop :=
 ∃ st ln,af w mb 41 #[.pointer (some ⟨q,0,none⟩),.int .i64 n,.bool tg.isSome,.int .i64 st,.int .i64 ln]/\∀ p,tg=some p->p=(st,ln)
section
variable {Z:Nat->Prop} {w w':World} {B r g q mb:Nat} {own own':Nat->Prop} {s:Sto} {n:Int} {tg:Option (Int × Int)}
theorem fI.quiet (h:fI w mb q n tg) (hg:w.grownBy w' none):fI w' mb q n tg:=by
 obtain ⟨st,ln,hb,hp⟩:=h;exact ⟨st,ln,hb.grown hg (by simp),hp⟩
theorem fI.turn {F F':Nat->Prop} (h:fI w mb q n tg) (ht:aa w w' F F') (hn:¬ F mb):fI w' mb q n tg:=by
 obtain ⟨st,ln,hb,hp⟩:=h;exact ⟨st,ln,aj hb (ht.block mb hb.lt hn),hp⟩
theorem aQ.mover (h:aQ Z w B r g q own s) (hz:Z mb) (hg:w.grownBy w' (some mb)):aQ Z w' B r g q own s:=by
 obtain ⟨pv,ov,hk⟩:=h.k;refine h.other (F:=λi=>i=mb) (F':=λi=>i=mb) (.aA hg (λj e=>by cases e; rfl)) (λi hi=>by subst hi; exact hz) (λi hi=>.inl hi) (λi hi=>?_);have h1:=hk.xo i (.inr hi);exact ⟨ake h1.1 hg.size,h1.2.2⟩
def W9 (Z:Nat->Prop) (w:World) (B r g q:Nat) (own:Nat->Prop) (s:Sto) (mb:Nat) (n:Int) (a:Int × Option (Int × Int)) (e:Ending) (w':World):Prop :=
 e=.returned (.int .i64 a.1)/\aQ Z w' B r g q own s/\fI w' mb q n a.2/\w.grownBy w' (some mb)
theorem aa6 (h:aQ Z w B r g q own s) (hm:fI w mb q n tg) (hz:Z mb) (st ln:Int) :
 Calls Tryz.prog 32 #[.pointer (some ⟨mb,0,none⟩),.int .i64 st,.int .i64 ln] w (W9 Z w B r g q own s mb n (qK s n tg (st,ln))):=by
 obtain ⟨st0,ln0,hb,hp⟩:=hm;have x0:=hb.cell 0; have x1:=hb.cell 1; have x2:=hb.cell 2; have x3:=hb.cell 3; have x4:=hb.cell 4;simp only [akb,aka,akc] at x0 x1 x2 x3 x4;have H:=hid h; have HB:=hid hb; have HP:=hid hp; have HZ:=hid hz
 cases tg with
 | some p =>
   simp only [Option.isSome_some] at x2;have HR:=hid (show W9 Z w B r g q own s mb n (qK s n (some p) (st,ln)) (.returned (.int .i64 17)) w from ⟨rfl,h,⟨st0,ln0,hb,hp⟩,akr w _⟩);clear h hb hp hz;go_enter Tryz.func32,Tryz.ntmps32;go_wp2_with fail;go_ret;exact HR.out
 | none =>
   simp only [Option.isSome_none] at x2;obtain ⟨pv,ov,hk⟩:=h.k;obtain ⟨c0,c1,c2,c3,c4,c5,c6,c7,c8,c9,c10,_⟩:=hk.cells;have bu:=iR h.may;have hgx:=(aV bu 0 (by simp [Sb.l])).2;have hex:=(aV bu 1 (by simp [Sb.l])).2
   simp [Sb.l] at hgx hex
   have hw1:IntKind.i64.wrap (((s.x.gn:Nat):Int)+1)=((s.x.gn:Nat):Int)+1:=IntWalk.i64_in _ (by omega);have hw2:IntKind.i64.wrap (((s.x.ep:Nat):Int)+1)=((s.x.ep:Nat):Int)+1:=IntWalk.i64_in _ (by omega);obtain ⟨R,hR⟩:∃ r,qK s n none (st,ln)=r:=⟨_,rfl⟩;rw [hR];have HA:=hid (show (if aL (fV s (st,ln)) n then ((0:Int),some (st,ln)) else (1,none))=R from hR);have Bq:=hid (show dY [((s.x.gn:Nat):Int)+1,((s.x.ep:Nat):Int)+1,((s.x.pg:Nat):Int),st,ln,0,1] n=if aL (fV s (st,ln)) n then 0 else 1 from rfl)
   have fM:=hid (λwx=>lT (((s.x.gn:Nat):Int)+1) (((s.x.ep:Nat):Int)+1) ((s.x.pg:Nat):Int) st ln 0 1 n wx);have hga:=aj9 w (.cells #[.int .i64 (((s.x.gn:Nat):Int)+1),.int .i64 (((s.x.ep:Nat):Int)+1),.int .i64 (s.x.pg:Nat),.int .i64 st,.int .i64 ln,.int .i64 0,.int .i64 1] 49) none;have hbn:=af.new w 49 #[.int .i64 (((s.x.gn:Nat):Int)+1),.int .i64 (((s.x.ep:Nat):Int)+1),.int .i64 (s.x.pg:Nat),.int .i64 st,.int .i64 ln,.int .i64 0,.int .i64 1]
   have gM:=hid hga; have nP:=hid hbn;generalize yh:w.alloc (.cells #[.int .i64 (((s.x.gn:Nat):Int)+1),.int .i64 (((s.x.ep:Nat):Int)+1),.int .i64 (s.x.pg:Nat),.int .i64 st,.int .i64 ln,.int .i64 0,.int .i64 1] 49)=wa at *;have WA:=hid yh;have HD1:=hid (ah wa none);have av:=hid (show ∀ wx,wa.grownBy wx none->wx.cell? ⟨mb,1,none⟩=some (.int .i64 n)/\wx.cell? ⟨w.heap.size,0,none⟩=some (.int .i64 (((s.x.gn:Nat):Int)+1))/\wx.cell? ⟨w.heap.size,1,none⟩=some (.int .i64 (((s.x.ep:Nat):Int)+1))/\wx.cell? ⟨w.heap.size,2,none⟩=some (.int .i64 (s.x.pg:Nat))/\wx.cell? ⟨w.heap.size,3,none⟩=some (.int .i64 st)/\wx.cell? ⟨w.heap.size,4,none⟩=some (.int .i64 ln)/\wx.cell? ⟨w.heap.size,5,none⟩=some (.int .i64 0)/\wx.cell? ⟨w.heap.size,6,none⟩=some (.int .i64 1) from λwx hg=>by
    have hb2:=(hb.grown hga (by simp)).grown hg (by simp);have hb3:=hbn.grown hg (by simp);refine ⟨?_,?_,?_,?_,?_,?_,?_,?_⟩
    · rw [hb2.cell]; rfl
    all_goals (rw [hb3.cell]; rfl))
   clear h hb hp hz hk hR bu hgx hex hga hbn yh;go_enter Tryz.func32,Tryz.ntmps32;go_wp2_with fail;rw [WA.out]
   go_region_held3 (λwx=>wx.cell? ⟨mb,1,none⟩=some (.int .i64 n)/\wx.cell? ⟨w.heap.size,0,none⟩=some (.int .i64 (((s.x.gn:Nat):Int)+1))/\wx.cell? ⟨w.heap.size,1,none⟩=some (.int .i64 (((s.x.ep:Nat):Int)+1))/\wx.cell? ⟨w.heap.size,2,none⟩=some (.int .i64 (s.x.pg:Nat))/\wx.cell? ⟨w.heap.size,3,none⟩=some (.int .i64 st)/\wx.cell? ⟨w.heap.size,4,none⟩=some (.int .i64 ln)/\wx.cell? ⟨w.heap.size,5,none⟩=some (.int .i64 0)/\wx.cell? ⟨w.heap.size,6,none⟩=some (.int .i64 1))
    (first
      | exact av.out _ HD1.out
      | exact av.out _ Ih.out)
    (first
      | (go_at_call 22
         (with_reducible refine (fM.out _).mono ?_)
         rintro e w4 ⟨rfl,hg4⟩;have cB:=hid ((gM.out.trans HD1.out).trans hg4);have Ih:=hid (HD1.out.trans hg4);clear hg4))
   rw [Bq.out];clear Bq fM av;have jJ:=hid (HB.out.grown cB.out (by simp))
   cases hmb:aL (fV s (st,ln)) n with
   | false =>
     have HA2:=hid (show (1,none)=R from by have:=HA.out; rw [hmb] at this; exact this);simp only [Bool.false_eq_true,if_false];clear hmb HA;go_wp2_with fail;go_ret;rw [<-HA2.out];exact ⟨rfl,H.out.quiet cB.out,⟨st0,ln0,jJ.out,λp e=>by cases e⟩,iy cB.out _⟩
   | true =>
     have HA2:=hid (show (0,some (st,ln))=R from by have:=HA.out; rw [hmb] at this; exact this);simp only [if_true];clear hmb HA;have y2:=jJ.out.cell 2; have y3:=jJ.out.cell 3; have y4:=jJ.out.cell 4;simp only [akb,aka,akc] at y2 y3 y4;have g2:=jJ.out.frozen 2; have g3:=jJ.out.frozen 3; have g4:=jJ.out.frozen 4;have hgs:=akd (akd (akd (akr w4 (some mb)) 2 (.bool true)) 3 (.int .i64 st)) 4 (.int .i64 ln)
     have HE:=hid (show aQ Z (((w4.setCell ⟨mb,2,none⟩ (.bool true)).setCell ⟨mb,3,none⟩ (.int .i64 st)).setCell ⟨mb,4,none⟩ (.int .i64 ln)) B r g q own s/\fI (((w4.setCell ⟨mb,2,none⟩ (.bool true)).setCell ⟨mb,3,none⟩ (.int .i64 st)).setCell ⟨mb,4,none⟩ (.int .i64 ln)) mb q n (some (st,ln))/\w.grownBy (((w4.setCell ⟨mb,2,none⟩ (.bool true)).setCell ⟨mb,3,none⟩ (.int .i64 st)).setCell ⟨mb,4,none⟩ (.int .i64 ln)) (some mb) from
      ⟨(H.out.quiet cB.out).mover HZ.out hgs,⟨st,ln,((jJ.out.aC 2 _).aC 3 _).aC 4 _,λp e=>by cases e; rfl⟩,(iy cB.out _).trans hgs⟩)
     clear hgs;go_wp2_with fail;go_ret;rw [<-HA2.out];exact ⟨rfl,HE.out.1,HE.out.2.1,HE.out.2.2⟩
end
section
variable {Z:Nat->Prop} {w w':World} {B r g q mb:Nat} {own own':Nat->Prop} {s:Sto} {n:Int} {tg:Option (Int × Int)}
def uh (Z:Nat->Prop) (w:World) (B r g q:Nat) (own:Nat->Prop) (s:Sto) (mb:Nat) (n:Int) (tg:Option (Int × Int)) (e:Ending) (w':World):Prop :=
 ∃ dn er own' g' s' je,e=.returned (.tuple #[.bool dn,.int .i64 er])/\jk s tg dn er s' je/\aQ Z w' B r g' q own' s'/\fI w' mb q n je /\
  aa w w' (λi=>bT own g q i\/i=mb) (λi=>bT own' g' q i\/i=mb)
theorem fI.cells {a c:Int} (h:fI w mb q n (some (a,c))):w.cell? ⟨mb,0,none⟩=some (.pointer (some ⟨q,0,none⟩))/\w.cell? ⟨mb,2,none⟩=some (.bool true)/\w.cell? ⟨mb,3,none⟩=some (.int .i64 a)/\w.cell? ⟨mb,4,none⟩=some (.int .i64 c):=by
 obtain ⟨st,ln,hb,hp⟩:=h;have h1:=hp _ rfl
 injection h1 with h2 h3
 subst h2 h3;refine ⟨?_,?_,?_,?_⟩ <;> (rw [hb.cell]; rfl)
theorem fI.done (h:fI w mb q n tg):fI (w.setCell ⟨mb,2,none⟩ (.bool false)) mb q n none:=by
 obtain ⟨st,ln,hb,_⟩:=h;exact ⟨st,ln,hb.aC 2 _,λp e=>by cases e⟩
theorem fI.fz (h:fI w mb q n tg) (i:Nat):w.frozen? ⟨mb,i,none⟩=false:=by
 obtain ⟨st,ln,hb,_⟩:=h;exact hb.frozen i
theorem fI.idle (h:fI w mb q n none):w.cell? ⟨mb,2,none⟩=some (.bool false):=by
 obtain ⟨st,ln,hb,_⟩:=h;rw [hb.cell]; rfl
theorem aae (h:aQ Z w B r g q own s) (hm:fI w mb q n tg) (hz:Z mb) (hroom:∀ i,(s.S.ae i).length < 549755700000) :
 Calls Tryz.prog 33 #[.pointer (some ⟨mb,0,none⟩)] w (uh Z w B r g q own s mb n tg):=by
 have HNF:=hid (show ¬ bT own g q mb from λe=>h.apart e hz);have HZ:=hid hz
 cases tg with
 | none =>
   have HH:=hid h; have HM:=hid hm;have x2:=hm.idle;clear h hm hroom hz;go_enter Tryz.func33,Tryz.ntmps33;go_wp2_with fail;go_ret2;unfold uh;exact ⟨false,18,own,g,s,none,rfl,.idle,HH.out,HM.out,aa.none_ (akr w none)⟩
 | some tq =>
   obtain ⟨a,c⟩:=tq;have HD:=hid (Xp h);obtain ⟨x0,x2,x3,x4⟩:=hm.cells;have HH:=hid h; have HM:=hid hm; have bB:=hid hroom;have ng:=hid (show (keys s.D).length=0↔keys s.D=[] from List.length_eq_zero_iff);clear h hm hroom hz;generalize hK:(keys s.D).length=K at *;go_enter Tryz.func33,Tryz.ntmps33;go_wp2_with fail;refine HD.out.mono ?_;rintro e w2 ⟨⟨Ad,cd,rfl⟩,hg2⟩;have HG2:=hid hg2;have yD:=hid (HH.out.quiet hg2); have Bl:=hid (HM.out.quiet hg2)
   clear hg2 HD x0 x2 x3 x4
   by_cases hk0:K=0
   · have hki:¬ ((0:Int) < (K:Int)):=by omega
     have xL:=hid (ng.out.1 hk0);have aZ:=hid (ah w2 none);have Dc:=hid (yD.out.quiet aZ.out); have qo:=hid (Bl.out.quiet aZ.out);have pQ:=hid (show ∀ wx,fI wx mb q n (some (a,c))->wx.cell? ⟨mb,0,none⟩=some (.pointer (some ⟨q,0,none⟩))/\wx.cell? ⟨mb,3,none⟩=some (.int .i64 a)/\wx.cell? ⟨mb,4,none⟩=some (.int .i64 c) from λwx hm=>⟨hm.cells.1,hm.cells.2.2.1,hm.cells.2.2.2⟩);have HT3:=hid (aa.none_ (own:=λi=>bT own g q i\/i=mb) (HG2.out.trans aZ.out))
     obtain ⟨x0,x2,x3,x4⟩:=Bl.out.cells;clear Bl yD
     by_cases hW:s.W.isSome=true
     · have EO:=hid (Iy Dc.out a c hW);have HWW:=hid hW;clear hW;go_wp2_with fail
       go_region_held3 (λwx=>wx.cell? ⟨mb,0,none⟩=some (.pointer (some ⟨q,0,none⟩))/\wx.cell? ⟨mb,3,none⟩=some (.int .i64 a)/\wx.cell? ⟨mb,4,none⟩=some (.int .i64 c))
        (first
          | exact pQ.out _ qo.out)
        (first
          | (go_at_call 82
             (with_reducible refine EO.out.mono ?_)
             rintro e w4 ⟨rfl,rfl⟩))
       go_wp2_with fail;go_ret2;unfold uh;exact ⟨false,17,own,g,s,some (a,c),rfl,.busy _ xL.out HWW.out,Dc.out,qo.out,HT3.out⟩
     · rw [Bool.not_eq_true] at hW;have CJ:=hid (show s.W=none from by cases hx:s.W with | none=>rfl | some U=>rw [hx] at hW; cases hW);have hsw:=Um Dc.out a c CJ.out xL.out (λi=>by have:=bB.out i; omega);unfold rq at hsw;obtain ⟨R0,hR0⟩:∃ r,ay s.S (fV s (a,c))=r:=⟨_,rfl⟩;have fA:=hid hR0;rw [hR0] at hsw;obtain ⟨er,T⟩:=R0
       dsimp only at hsw
       have EO:=hid hsw;clear hW hsw hR0;go_wp2_with fail
       go_region_held3 (λwx=>wx.cell? ⟨mb,0,none⟩=some (.pointer (some ⟨q,0,none⟩))/\wx.cell? ⟨mb,3,none⟩=some (.int .i64 a)/\wx.cell? ⟨mb,4,none⟩=some (.int .i64 c))
        (first
          | exact pQ.out _ qo.out
          | exact pQ.out _ vg.out)
        (first
          | (go_at_call 82
             (with_reducible refine EO.out.mono ?_)
             rintro e w4 ⟨rfl,iE,g4,jF,h4⟩;have sK:=hid jF;have H4:=hid h4;have vg:=hid (qo.out.turn jF HNF.out);clear jF h4))
       have fJ:=hid (HT3.out.trans (wL sK.out));rcases H4.out with ⟨he,x',hx',h5⟩ | ⟨he,hgg,h5⟩
       · have qZ:(er == 0)=true:=by rw [he]; rfl
         have HX:=hid hx';have oP:=hid h5;have HE:=hid he;subst he;have hgs:=akd (akr w4 (some mb)) 2 (.bool false);have CS:=hid (oP.out.mover HZ.out hgs);have CZ:=hid vg.out.done;have rD:=hid (fJ.out.trans (nS hgs));have y2:=vg.out.cells.2.1; have g2:=vg.out.fz 2;clear hx' h5 H4 hgs;go_wp2_with fail;go_ret2;have hR:(ay s.S (fV s (a,c))).2=T:=by rw [fA.out]
         have hS:=jk.done (a,c) x' xL.out CJ.out (by rw [fA.out]) HX.out;rw [hR] at hS;unfold uh;exact ⟨true,0,iE,g4,_,none,rfl,hS,CS.out,CZ.out,rD.out⟩
       · have qZ:(er == 0)=false:=by simpa using he
         have HE:=hid he;have oP:=hid h5;have ZW:=hid hgg;clear hgg;have Cv:(ay s.S (fV s (a,c))).1=er:=by rw [fA.out]
         have hR:(ay s.S (fV s (a,c))).2=T:=by rw [fA.out]
         have hS:=jk.fail (a,c) xL.out CJ.out (by rw [Cv]; exact HE.out);rw [hR,Cv] at hS;have HSF:=hid hS;clear he h5 H4 hK hk0 hki ng hR Cv hS xL fA CJ;go_wp2_with fail;go_ret2;unfold uh;exact ⟨false,er,iE,g4,_,some (a,c),rfl,HSF.out,ZW.out ▸ oP.out,vg.out,fJ.out⟩
   · have hki:(0:Int) < (K:Int):=by omega
     have xL:=hid (show keys s.D≠[] from λe=>hk0 (ng.out.2 e));have hcp:=Qb yD.out bB.out;unfold eD at hcp;obtain ⟨R0,hR0⟩:∃ r,bZ s=r:=⟨_,rfl⟩;have HS:=hid (jk.ky (a,c) xL.out);rw [hR0] at hcp HS;clear hR0;obtain ⟨er,T⟩:=R0
     dsimp only at hcp
     have Il:=hid hcp;obtain ⟨x0,x2,x3,x4⟩:=Bl.out.cells;clear hcp;go_wp2_with fail;refine Il.out.mono ?_;rintro e w3 ⟨rfl,fQ,h3,ht3⟩;have Dc:=hid h3;have HT3:=hid ((aa.none_ (own:=λi=>bT own g q i\/i=mb) HG2.out).trans (wL ht3));have qo:=hid (Bl.out.turn ht3 HNF.out);clear h3 ht3 Il x0 x2 x3 x4;go_wp2_with fail;go_ret2;unfold uh;exact ⟨false,er,fQ,g,T,some (a,c),rfl,HS.out,Dc.out,qo.out,HT3.out⟩
end
end Go.Proofs.YtinajlbijgedbaaGreat.RSto
namespace Go.Proofs.YtinajlbijgedbaaGreat.Both
open Go.RowKit CrcMath CodecMath Mem Crc Codec DiskSpec Dsk Sup Log Sto RSto
structure BL where
 b:Nat
 tb:Nat
 sb:Nat
 dm:Nat
 mb:Nat
 r:Nat
 q:Nat
 nb:Nat
structure BM where
 g:Nat
 wm:Option Nat
 own:Nat->Prop
 rg:Nat
 ro:Nat->Prop
abbrev PF (L:BL) (M:BM):Nat->Prop:=aD M.own L.tb M.g L.sb L.dm M.wm
abbrev DF (L:BL) (M:BM):Nat->Prop:=bT M.ro M.rg L.q
def ZP (L:BL) (M:BM) (K:Nat->Prop):Nat->Prop:=λi=>DF L M i\/i=L.nb\/K i
def ZD (L:BL) (M:BM) (K:Nat->Prop):Nat->Prop:=λi=>PF L M i\/i=L.mb\/i=L.nb\/K i
structure Bo (W w:World) (K:Nat->Prop) (L:BL) (M:BM) (s t:Sto) (tg tu:Option (Int × Int)):Prop where
 gr:W.grownBy w none
 p:bf (ZP L M K) w W.heap.size L.b L.tb M.g L.sb L.dm M.wm M.own s
 m:dI w (FZ (ZP L M K) (PF L M)) W.heap.size L.mb L.sb 400 tg
 d:aQ (ZD L M K) w W.heap.size L.r M.rg L.q M.ro t
 n:fI w L.nb L.q 400 tu
 nf:¬ PF L M L.nb/\L.nb≠L.mb/\W.heap.size<=L.nb/\L.nb < w.heap.size
 kf:∀ i,K i->¬ PF L M i/\i≠L.mb/\i≠L.nb/\W.heap.size<=i/\i < w.heap.size
theorem Fj {w w':World} {nb q:Nat} {n:Int} {tg:Option (Int × Int)} (h:fI w nb q n tg) (hb:w'.heap[nb]?=w.heap[nb]?):fI w' nb q n tg:=by
 obtain ⟨st,ln,h1,h2⟩:=h;exact ⟨st,ln,aj h1 hb,h2⟩
section
variable {W w w':World} {K K':Nat->Prop} {L:BL} {M:BM} {s s' t t':Sto} {tg je tu FU:Option (Int × Int)}
theorem Bo.mlt (h:Bo W w K L M s t tg tu):L.mb < w.heap.size:=by
 obtain ⟨p,hb,_⟩:=h.m.blk;exact hb.lt
theorem Bo.rz (h:Bo W w K L M s t tg tu) {i:Nat} (hi:DF L M i):¬ PF L M i/\i≠L.mb/\i≠L.nb/\¬ K i:=by
 have:=h.d.apart hi;exact ⟨λe=>this (.inl e),λe=>this (.inr (.inl e)),λe=>this (.inr (.inr (.inl e))),λe=>this (.inr (.inr (.inr e)))⟩
theorem Bo.prog (h:Bo W w K L M s t tg tu) {g':Nat} {mQ:Option Nat} {own':Nat->Prop}
 (hp:bf (ZP L M K) w' W.heap.size L.b L.tb g' L.sb L.dm mQ own' s') (hm:dI w' (FZ (ZP L M K) (aD own' L.tb g' L.sb L.dm mQ)) W.heap.size L.mb L.sb 400 je)
 (ht:aa w w' (λi=>PF L M i\/i=L.mb) (λi=>aD own' L.tb g' L.sb L.dm mQ i\/i=L.mb)) :
 Bo W w' K L { M with g:=g',wm:=mQ,own:=own' } s' t je tu/\∀ i,K i->w'.heap[i]?=w.heap[i]?:=by
 have hz:∀ i,ZD L { M with g:=g',wm:=mQ,own:=own' } K i->ZD L M K i\/w.heap.size<=i:=λi hi=>by
  rcases hi with hi | hi | hi
  · rcases ht.fresh i (.inl hi) with (h1 | h1) | h1
    · exact .inl (.inl h1)
    · exact .inl (.inr (.inl h1))
    · exact .inr h1
  · exact .inl (.inr (.inl hi))
  · exact .inl (.inr (.inr hi))
 have hlt:∀ i,ZD L { M with g:=g',wm:=mQ,own:=own' } K i->i < w'.heap.size/\W.heap.size<=i:=λi hi=>by
  rcases hi with hi | hi | hi | hi
  · exact ⟨hp.bO hi,hp.il hi⟩
  · have e:i=L.mb:=hi;rw [e]; exact ⟨ake h.mlt ht.size,h.m.2.1⟩
  · have e:i=L.nb:=hi;rw [e]; exact ⟨ake h.nf.2.2.2 ht.size,h.nf.2.2.1⟩
  · exact ⟨ake (h.kf i hi).2.2.2.2 ht.size,(h.kf i hi).2.2.2.1⟩
 have hout:∀ i,i < w.heap.size->¬ PF L M i->i≠L.mb->¬ aD own' L.tb g' L.sb L.dm mQ i:=λi h1 h2 h3 e=>by
  rcases ht.fresh i (.inl e) with (h4 | h4) | h4
  · exact h2 h4
  · exact h3 h4
  · omega
 exact ⟨⟨dX h.gr ht (λi hi=>by
  rcases hi with hi | hi
  · exact h.p.il hi
  · rw [hi]; exact h.m.2.1),hp,hm,h.d.other ht (λi hi=>hi.imp id .inl) hz hlt,Fj h.n (ht.block L.nb h.nf.2.2.2 (λe=>e.elim h.nf.1 h.nf.2.1)),
  ⟨hout _ h.nf.2.2.2 h.nf.1 h.nf.2.1,h.nf.2.1,h.nf.2.2.1,ake h.nf.2.2.2 ht.size⟩,λi hi=>by
   obtain ⟨a,b,c,d,e⟩:=h.kf i hi;exact ⟨hout i e a b,b,c,d,ake e ht.size⟩⟩,λi hi=>ht.block i (h.kf i hi).2.2.2.2 (λe=>e.elim (h.kf i hi).1 (h.kf i hi).2.1)⟩
theorem Bo.Gr (h:Bo W w K L M s t tg tu) {g':Nat} {mQ:Option Nat} {own':Nat->Prop} (hp:bf (ZP L M K) w' W.heap.size L.b L.tb g' L.sb L.dm mQ own' s') (ht:aa w w' (PF L M) (aD own' L.tb g' L.sb L.dm mQ)) :
 Bo W w' K L { M with g:=g',wm:=mQ,own:=own' } s' t tg tu/\∀ i,K i->w'.heap[i]?=w.heap[i]?:=h.prog hp (h.m.turn (jb ht)) (wL ht)
theorem Bo.U2 (h:Bo W w K L M s t tg tu) {Z' F F':Nat->Prop} (ht:aa w w' F F') (hF:∀ i,F i->ZP L M K i) (hz:∀ i,Z' i->ZP L M K i\/w.heap.size<=i):dI w' (FZ Z' (PF L M)) W.heap.size L.mb L.sb 400 tg:=by
 have hout:∀ i,i < w.heap.size->¬ FZ (ZP L M K) (PF L M) i->¬ FZ Z' (PF L M) i:=λi h1 h2 e=>by
  rcases e with e | e
  · exact h2 (.inl e)
  · rcases hz i e with h3 | h3
    · exact h2 (.inr h3)
    · omega
 obtain ⟨h1,h0,h2⟩:=h.m
 cases tg with
 | none=>exact ⟨hout _ (af.lt h2) h1,h0,aj h2 (ht.block L.mb (af.lt h2) (λe=>h1 (.inr (hF _ e))))⟩
 | some q =>
   obtain ⟨g,h3,h4,h5,h6⟩:=h2;exact ⟨hout _ h3.lt h1,h0,g,aj h3 (ht.block L.mb h3.lt (λe=>h1 (.inr (hF _ e)))),aj h4 (ht.block g h4.lt (λe=>h5 (.inr (hF _ e)))),hout _ h4.lt h5,h6⟩
theorem Bo.SI (h:Bo W w K L M s t tg tu) {Gc:Nat} {ro':Nat->Prop} (hd:aQ (ZD L M K) w' W.heap.size L.r Gc L.q ro' t') (hn:fI w' L.nb L.q 400 FU)
 (ht:aa w w' (λi=>DF L M i\/i=L.nb) (λi=>bT ro' Gc L.q i\/i=L.nb)) :
 Bo W w' K L { M with rg:=Gc,ro:=ro' } s t' tg FU/\∀ i,K i->w'.heap[i]?=w.heap[i]?:=by
 have hz:∀ i,ZP L { M with rg:=Gc,ro:=ro' } K i->ZP L M K i\/w.heap.size<=i:=λi hi=>by
  rcases hi with hi | hi | hi
  · rcases ht.fresh i (.inl hi) with (h1 | h1) | h1
    · exact .inl (.inl h1)
    · exact .inl (.inr (.inl h1))
    · exact .inr h1
  · exact .inl (.inr (.inl hi))
  · exact .inl (.inr (.inr hi))
 have hlt:∀ i,ZP L { M with rg:=Gc,ro:=ro' } K i->i < w'.heap.size:=λi hi=>by
  rcases hi with hi | hi | hi
  · exact hd.bO hi
  · have e:i=L.nb:=hi;rw [e]; exact ake h.nf.2.2.2 ht.size
  · exact ake (h.kf i hi).2.2.2.2 ht.size
 have hF:∀ i,(DF L M i\/i=L.nb)->ZP L M K i:=λi hi=>hi.imp id .inl
 have hfr:∀ i,PF L M i->¬ (DF L M i\/i=L.nb):=λi hi e=>by
  rcases e with e | e
  · exact (h.rz e).1 hi
  · exact h.nf.1 (e ▸ hi)
 exact ⟨⟨dX h.gr ht (λi hi=>by
  rcases hi with hi | hi
  · exact h.d.il hi
  · rw [hi]; exact h.nf.2.2.1),h.p.other ht hF hfr hz hlt,h.U2 ht hF hz,hd,hn,⟨h.nf.1,h.nf.2.1,h.nf.2.2.1,ake h.nf.2.2.2 ht.size⟩,λi hi=>by
  obtain ⟨a,b,c,d,e⟩:=h.kf i hi;exact ⟨a,b,c,d,ake e ht.size⟩⟩,λi hi=>ht.block i (h.kf i hi).2.2.2.2 (λe=>e.elim (λe=>(h.rz e).2.2.2 hi) (h.kf i hi).2.2.1)⟩
theorem Bo.G6 (h:Bo W w K L M s t tg tu) {Gc:Nat} {ro':Nat->Prop} (hd:aQ (ZD L M K) w' W.heap.size L.r Gc L.q ro' t') (ht:aa w w' (DF L M) (bT ro' Gc L.q)) :
 Bo W w' K L { M with rg:=Gc,ro:=ro' } s t' tg tu/\∀ i,K i->w'.heap[i]?=w.heap[i]? :=
 h.SI hd (Fj h.n (ht.block L.nb h.nf.2.2.2 (λe=>(h.rz e).2.2.1 rfl))) (wL ht)
theorem Bo.law (h:Bo W w K L M s t tg tu) {F0 F1:Nat->Prop} (ht:aa w w' F0 F1) (h0:∀ i,F0 i->K i) (hk:∀ i,K' i->K i\/(w.heap.size<=i/\i < w'.heap.size)):Bo W w' K' L M s t tg tu:=by
 have hz:∀ i,ZP L M K' i->ZP L M K i\/w.heap.size<=i:=λi hi=>by
  rcases hi with hi | hi | hi
  · exact .inl (.inl hi)
  · exact .inl (.inr (.inl hi))
  · exact (hk i hi).imp (λe=>.inr (.inr e)) (·.1)
 have hz2:∀ i,ZD L M K' i->ZD L M K i\/w.heap.size<=i:=λi hi=>by
  rcases hi with hi | hi | hi | hi
  · exact .inl (.inl hi)
  · exact .inl (.inr (.inl hi))
  · exact .inl (.inr (.inr (.inl hi)))
  · exact (hk i hi).imp (λe=>.inr (.inr (.inr e))) (·.1)
 have hlow:=h.gr.size;have hsz:=ht.size;have hkl:∀ i,K' i->W.heap.size<=i/\i < w'.heap.size:=λi hi=>by
  rcases hk i hi with h1 | h1
  · exact ⟨(h.kf i h1).2.2.2.1,ake (h.kf i h1).2.2.2.2 hsz⟩
  · exact ⟨by omega,h1.2⟩
 refine ⟨dX h.gr ht (λi hi=>(h.kf i (h0 i hi)).2.2.2.1),h.p.other ht (λi e=>.inr (.inr (h0 i e))) (λi hi e=>(h.kf i (h0 i e)).1 hi) hz (λi hi=>?_),h.U2 ht (λi e=>.inr (.inr (h0 i e))) hz,h.d.other ht (λi e=>.inr (.inr (.inr (h0 i e)))) hz2 (λi hi=>?_),
  Fj h.n (ht.block L.nb h.nf.2.2.2 (λe=>(h.kf _ (h0 _ e)).2.2.1 rfl)),⟨h.nf.1,h.nf.2.1,h.nf.2.2.1,ake h.nf.2.2.2 hsz⟩,λi hi=>?_⟩
 · rcases hi with hi | hi | hi
   · exact ake (h.d.bO hi) hsz
   · have e:i=L.nb:=hi;rw [e]; exact ake h.nf.2.2.2 hsz
   · exact (hkl i hi).2
 · rcases hi with hi | hi | hi | hi
   · exact ⟨ake (h.p.bO hi) hsz,h.p.il hi⟩
   · have e:i=L.mb:=hi;rw [e]; exact ⟨ake h.mlt hsz,h.m.2.1⟩
   · have e:i=L.nb:=hi;rw [e]; exact ⟨ake h.nf.2.2.2 hsz,h.nf.2.2.1⟩
   · exact ⟨(hkl i hi).2,(hkl i hi).1⟩
 · rcases hk i hi with h1 | h1
   · obtain ⟨a,b,c,d,e⟩:=h.kf i h1;exact ⟨a,b,c,d,ake e hsz⟩
   · exact ⟨λe=>by have:=h.p.bO e; omega,λe=>by have:=h.mlt; omega,λe=>by have:=h.nf.2.2.2; omega,by omega,h1.2⟩
theorem Bo.more (h:Bo W w K L M s t tg tu) (hg:w.grownBy w' none) (hk:∀ i,K' i->K i\/(w.heap.size<=i/\i < w'.heap.size)):Bo W w' K' L M s t tg tu :=
 h.law (F0:=λ_=>False) (aa.none_ hg) (λi e=>e.elim) hk
theorem Bo.quiet (h:Bo W w K L M s t tg tu) (hg:w.grownBy w' none):Bo W w' K L M s t tg tu:=h.more hg (λi hi=>.inl hi)
end
end Go.Proofs.YtinajlbijgedbaaGreat.Both
