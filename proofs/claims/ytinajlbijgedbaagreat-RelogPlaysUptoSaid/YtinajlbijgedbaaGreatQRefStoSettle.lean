/- Texts of this seat's proofs: RefStoSettle, RefStoCkpt. -/
import Derived.Test.YtinajlbijgedbaaGreatQRefStoMem
import Derived.Test.YtinajlbijgedbaaGreatQRefPage
import Derived.Test.YtinajlbijgedbaaGreatQStoSmall
import Derived.Test.YtinajlbijgedbaaGreatQSupRefSave
set_option maxRecDepth 100000
set_option maxHeartbeats 16000000
namespace Go.Proofs.YtinajlbijgedbaaGreat.RSto
open Lib (hid)
open Go.RowKit CrcMath CodecMath Mem Crc Codec DiskSpec Dsk Sup Log RLog Sto
set_option linter.unusedVariables false
set_option linter.unusedSimpArgs false
def dR (S:St) (D:aK) (x y:Sb) (R:Int × St):Int × St × Sb × aK :=
 if R.1=0 then (if (ay R.2 y.l).1=0 then (0,(ay R.2 y.l).2,y,aM) else ((ay R.2 y.l).1,(ay R.2 y.l).2,x,D)) else (R.1,R.2,x,D)
def jc (S:St) (D:aK) (x y:Sb):Int × St × Sb × aK:=dR S D x y (bn S D)
theorem JA {S:St} {D:aK} {x y:Sb} {R:Int × St} (h:R.1≠0):dR S D x y R=(R.1,R.2,x,D):=by unfold dR; rw [if_neg h]
theorem Rj {S:St} {D:aK} {x y:Sb} {R:Int × St} (h:R.1=0) (h2:(ay R.2 y.l).1≠0):dR S D x y R=((ay R.2 y.l).1,(ay R.2 y.l).2,x,D):=by unfold dR; rw [if_pos h,if_neg h2]
theorem Ug {S:St} {D:aK} {x y:Sb} {R:Int × St} (h:R.1=0) (h2:(ay R.2 y.l).1=0):dR S D x y R=(0,(ay R.2 y.l).2,y,aM):=by unfold dR; rw [if_pos h,if_pos h2]
def ru (w:World) (B r q:Nat) (X own:Nat->Prop) (lv:Value) (un:Bool) (U:aK) (ov:Value) (a:Int × St × Sb × aK) (e:Ending) (w':World):Prop :=
 e=.returned (.int .i64 a.1)/\∃ own' pv',dx w' B r q X own' a.2.1 a.2.2.1 lv a.2.2.2 un U pv' ov/\aa w w' (lJ own q) (lJ own' q)
structure yu (w wr:World) (B r q:Nat) (X own own':Nat->Prop) (S:St) (x:Sb) (lv:Value) (D:aK) (un:Bool) (U:aK) (pv ov:Value) (yc:Array Value) (yb j:Nat):Prop where
 co:dx wr B r q X own' (aO S ((rising D).take j)).2 x lv D un U pv ov
 tu:aa w wr own own'
 ok:(aO S ((rising D).take j)).1=0
 ae:∀ i,((aO S ((rising D).take j)).2.ae i).length<=(S.ae i).length+j
 y:af wr yb 49 yc
 yo:¬ own' yb
 yq:yb≠q
section
variable {w w' wr:World} {B r q:Nat} {X own own' ik:Nat->Prop} {S S':St} {x:Sb} {lv:Value} {D:aK} {un:Bool} {U:aK} {pv ov:Value} {yc:Array Value} {yb j:Nat}
theorem yu.quiet (h:yu w wr B r q X own own' S x lv D un U pv ov yc yb j) (hg:wr.grownBy w' none):yu w w' B r q X own own' S x lv D un U pv ov yc yb j :=
 ⟨h.co.quiet hg,h.tu.trans (aa.none_ hg),h.ok,h.ae,h.y.grown hg (by simp),h.yo,h.yq⟩
theorem PZ {g:Nat} (ht:aa w w' own own') (hl:g < w.heap.size) (hn:¬ own g):¬ own' g:=λh=>by
 rcases ht.fresh g h with h1 | h1
 · exact hn h1
 · omega
theorem PI {xi:ax} (hx:(rising D)[j]?=some xi) (h0:(aO S ((rising D).take j)).1=0):aO S ((rising D).take (j+1))=bJ (aO S ((rising D).take j)).2 xi:=by rw [yO hx,uB _ _ _ h0]
theorem yu.next (h:yu w wr B r q X own own' S x lv D un U pv ov yc yb j) {xi:ax} (hx:(rising D)[j]?=some xi) (hok:bU xi=true) {w4:World} (hg:wr.grownBy w4 none) (hd:bX w' B r (bJ (aO S ((rising D).take j)).2 xi).2 ik) (ht:aa w4 w' own' ik) (hz:(bJ (aO S ((rising D).take j)).2 xi).1=0) :
 yu w w' B r q X own ik S x lv D un U pv ov yc yb (j+1):=by
 have h4:=h.quiet hg;have hh:=PI hx h.ok;refine ⟨by rw [hh]; exact h4.co.disk hd ht,h4.tu.trans ht,by rw [hh]; exact hz,λi=>?_,aj h4.y (ht.block yb h4.y.lt h4.yo),PZ ht h4.y.lt h4.yo,h4.yq⟩;rw [hh];have h1:=uk (aO S ((rising D).take j)).2 false (2+xi.1) (nY hok) i;have h2:=h.ae i;show ((aF (aO S ((rising D).take j)).2 false (2+xi.1) (frame (cZ xi.1 xi.2.1 xi.2.2))).2.ae i).length<=_;omega
theorem Dq (ht:aa w w' own own'):aa w w' (lJ own q) (lJ own' q):=kE ht q
theorem JF (h:dx w B r q X own S x lv D un U pv ov) (hroom:∀ i,(S.ae i).length < 549755800000) (y:Sb) :
 Calls Tryz.prog 30 #[.pointer (some ⟨q,0,none⟩),.agg #[.int .i64 (y.gn:Nat),.int .i64 (y.ep:Nat),.int .i64 (y.pg:Nat),.int .i64 (y.st:Nat),.int .i64 (y.ln:Nat),.int .i64 (y.hd:Nat),.int .i64 (y.sq:Nat)]] w (ru w B r q X own lv un U ov (jc S D x y)):=by
 obtain ⟨A,n,c,hpv,hnc,hcm,hA,him⟩:=h.p;subst hpv;have hN:(rising D).length<=1024:=by rw [dP]; have:=List.length_filter_le (λk=>(D k).isSome) (List.range 1024); rw [List.length_range] at this; exact this
 have hnl:=him.len;have bB:=hid hroom; have aU:=hid (kJ h.okD);have tC:=hid (show jc S D x y=dR S D x y (bn S D) from rfl);generalize jc S D x y=R0 at *;have hga:=aj9 w (.cells #[.int .i64 (y.gn:Nat),.int .i64 (y.ep:Nat),.int .i64 (y.pg:Nat),.int .i64 (y.st:Nat),.int .i64 (y.ln:Nat),.int .i64 (y.hd:Nat),.int .i64 (y.sq:Nat)] 49) none;have H0:=hid (show yu w (w.alloc (.cells #[.int .i64 (y.gn:Nat),.int .i64 (y.ep:Nat),.int .i64 (y.pg:Nat),.int .i64 (y.st:Nat),.int .i64 (y.ln:Nat),.int .i64 (y.hd:Nat),.int .i64 (y.sq:Nat)] 49)) B r q X own own S x lv D un U (.slice A n c) ov #[.int .i64 (y.gn:Nat),.int .i64 (y.ep:Nat),.int .i64 (y.pg:Nat),.int .i64 (y.st:Nat),.int .i64 (y.ln:Nat),.int .i64 (y.hd:Nat),.int .i64 (y.sq:Nat)] w.heap.size 0 from
  ⟨h.quiet hga,aa.none_ hga,rfl,λi=>akf _,af.new w _ _,λe=>by have:=eP h.d e; omega,λe=>by have:=(h.xo q h.xq).1; omega⟩)
 clear h hroom hga him;go_enter Tryz.func30,Tryz.ntmps30;go_wp2_with fail;generalize yh:w.alloc (.cells #[.int .i64 (y.gn:Nat),.int .i64 (y.ep:Nat),.int .i64 (y.pg:Nat),.int .i64 (y.st:Nat),.int .i64 (y.ln:Nat),.int .i64 (y.hd:Nat),.int .i64 (y.sq:Nat)] 49)=wa at *;generalize hyb:w.heap.size=yb at *;clear yh hyb
 go_loopw [5,6,7,8,19] (λi _ _ _ _ wr=>∃ j:Nat,j<=n/\i=.int .i64 j/\∃ own',yu w wr B r q X own own' S x lv D un U (.slice A n c) ov #[.int .i64 (y.gn:Nat),.int .i64 (y.ep:Nat),.int .i64 (y.pg:Nat),.int .i64 (y.st:Nat),.int .i64 (y.ln:Nat),.int .i64 (y.hd:Nat),.int .i64 (y.sq:Nat)] yb j) (λi _ _ _ _ _=>n - (Go.RowKit.intOf i).toNat)
 case atStart=>exact ⟨0,aks _,rfl,own,H0.out⟩
 case round =>
  clear H0;obtain ⟨j,hj,rfl,own',hr⟩:=hrel;have HR:=hid hr;obtain ⟨k0,_,_,_,_,_,_,_,_,k9,_,_⟩:=hr.co.cells;clear hr
  by_cases hlt:j < n
  · have hjn:(j:Int) < (n:Int):=by omega
    obtain ⟨A2,n2,c2,e9,_,_,_,him⟩:=HR.out.co.p
    injection e9 with e91 e92 e93
    subst e91 e92 e93;obtain ⟨gi,o,⟨x1,x2,x3⟩,Bx,mx,cx,rfl,hgi,hno,hx,e0,e1,e2,hmc,kT⟩:=him.at_ hlt
    dsimp only at e0 e1 e2 kT
    have hxo:=aU.out _ (akx hx);have HX:=hid hx;have hx1:=(eO hxo).2.1
    dsimp only at hx1
    have yx:=hid hxo;have pJ:=hid (wT wr.heap.size x1 x2 Bx mx cx x3 wr (uV kT));have xJ:=hid (show ed x1 x2 x3=some (frame (cZ x1 x2 x3)) from by rw [ed,show bA x1 x2 x3=true from hxo]; rfl);have xN:=hid hgi;have HE0:=hid e0;have KF:=hid (show ¬ own' gi from λe=>hno (.inl e));clear him hno hx hmc kT hxo
    go_wp2_with (go_at_call 79
                 refine pJ.out.mono ?_;rintro e w3 ⟨hg3,⟨lp,v3,ho,rfl,hown,hlp⟩ | ⟨ho,_⟩⟩
                 case inr=>rw [xJ.out] at ho; cases ho
                 have aZ:=hid hg3;have hle:=xJ.out.symm.trans ho
                 injection hle with hle
                 subst hle;rw [nY yx.out] at hown;obtain ⟨gp,cp,rfl,hbp,oD,hcp,aca,acb⟩:=hown.reads (by omega);have Il:=hid acb; have Ij:=hid oD; have OP:=hid hbp; have HCM:=hid aca; have ZZ:=hid hcp;clear hg3 ho hown hlp hbp oD hcp aca acb)
    have HR3:=hid (HR.out.quiet aZ.out);have HNG:=hid (show ¬ own' gp from λhi=>by have:=eP HR.out.co.d hi; have:=OP.out; omega);have HD0:=hid (ah w3 none);have HR4:=hid (HR3.out.quiet HD0.out);have sw:Dsk.Data w3.drew own' (some ⟨gp,0,none⟩) 256 (frame (cZ x1 x2 x3)):=⟨nY yx.out,Mx yx.out,λ_=>⟨gp,0,rfl,Ij.out,HNG.out,λk hk=>by rw [Nat.zero_add]; exact Il.out _ _ (fT _ k (by rw [nY yx.out]; exact hk))⟩⟩
    have yz:=hid (mR HR4.out.co.d (2+x1) (some ⟨gp,0,none⟩) 256 cp _ false (by omega) sw ZZ.out (by omega) (λi=>by have:=HR.out.ae i; have:=bB.out i; omega) HR4.out.co.low);have mi:=hid (uJ (aO S ((rising D).take j)).2 false (2+x1) (frame (cZ x1 x2 x3)));have jf:=hid (show w3.drew.cell? ⟨q,0,none⟩=some (.pointer (some ⟨r,0,none⟩))/\w3.drew.cell? ⟨q,9,none⟩=some (.slice (some ⟨gi,o,none⟩) n c)/\w3.drew.cell? ⟨gi,o+j * 3,none⟩=some (.int .i64 x1) from by
     obtain ⟨k0,_,_,_,_,_,_,_,_,k9,_,_⟩:=HR4.out.co.cells;refine ⟨k0,k9,?_⟩;rw [aki (a:=⟨gi,o+j * 3,none⟩) ((aZ.out.trans HD0.out).block gi xN.out (by simp))];exact HE0.out)
    have hwx:IntKind.i64.wrap (2+x1)=2+x1:=IntWalk.i64_in _ (by omega);clear sw k0 k9 e0 e1 e2;go_wp2_with fail
    go_region_held3 (λwx=>wx.cell? ⟨q,0,none⟩=some (.pointer (some ⟨r,0,none⟩))/\wx.cell? ⟨q,9,none⟩=some (.slice (some ⟨gi,o,none⟩) n c)/\wx.cell? ⟨gi,o+j * 3,none⟩=some (.int .i64 x1))
     (first
       | exact jf.out
       | exact Y4.out)
     (first
       | (go_at_call 24
          (with_reducible refine yz.out.mono ?_)
          rintro e w5 ⟨rfl,ik,hd5,dL⟩;have HD5:=hid hd5; have fJ:=hid dL;have Y4:=hid (show w5.cell? ⟨q,0,none⟩=some (.pointer (some ⟨r,0,none⟩))/\w5.cell? ⟨q,9,none⟩=some (.slice (some ⟨gi,o,none⟩) n c)/\w5.cell? ⟨gi,o+j * 3,none⟩=some (.int .i64 x1) from by
           obtain ⟨k0,_,_,_,_,_,_,_,_,k9,_,_⟩:=(HR4.out.co.disk hd5 dL).cells;refine ⟨k0,k9,?_⟩;rw [aki (a:=⟨gi,o+j * 3,none⟩) (dL.block gi (ake xN.out (aZ.out.trans HD0.out).size) KF.out)];exact jf.out.2.2)
          clear hd5 dL))
    clear yz jf
    by_cases hE:(aF (aO S ((rising D).take j)).2 false (2+x1) (frame (cZ x1 x2 x3))).1=0
    · have ET:=hid (HR.out.next HX.out yx.out (aZ.out.trans HD0.out) HD5.out fJ.out hE);rw [hE];clear hE HD5 fJ HR4 HR3;go_wp2_with fail
      first
       | exact ⟨⟨j+1,by omega,by first | rfl | go_num,ik,ET.out⟩,by simp [Go.RowKit.intOf]; omega⟩
       | (go_roundw
          case rel=>exact ⟨j+1,by omega,by first | rfl | go_num,ik,ET.out⟩
          case measure=>simp [Go.RowKit.intOf]; omega)
    · have rG:=hid (Hg (S:=S) HX.out HR.out.ok hE);have HQ:=hid (show ru w B r q X own lv un U ov R0 (.returned (.int .i64 (aF (aO S ((rising D).take j)).2 false (2+x1) (frame (cZ x1 x2 x3))).1)) w5 from by
       unfold ru;rw [tC.out,rG.out,JA (R:=bJ (aO S ((rising D).take j)).2 (x1,x2,x3)) hE];exact ⟨rfl,ik,_,HR4.out.co.disk HD5.out fJ.out,Dq (HR4.out.tu.trans fJ.out)⟩)
      clear rG HD5 fJ HR4 HR3;generalize (aF (aO S ((rising D).take j)).2 false (2+x1) (frame (cZ x1 x2 x3))).1=er at *;have qZ:(er == 0)=false:=by simpa using hE
      go_wp2_with fail;go_ret;exact HQ.out
  · have vN:j=n:=by omega
    subst vN;have hnb:¬ ((j:Int) < (j:Int)):=by omega
    have WW:=hid (Kt (S:=S) (D:=D) (by omega) HR.out.ok);have ku:=hid (qy HR.out.co.d);have sP:=hid (oH (aO S ((rising D).take j)).2);have Dh:=hid (λi=>jP (aO S ((rising D).take j)).2 i);have HRV:=hid HR.out.ae;rw [WW.out] at tC;generalize aR (aO S ((rising D).take j)).2=RF at *;obtain ⟨e1,T⟩:=RF
    dsimp only at ku sP Dh tC
    go_wp2_with fail;refine ku.out.mono ?_;rintro e w5 ⟨rfl,hd5,dL⟩;have xP:=hid (HR.out.co.disk hd5 dL);have fJ:=hid (HR.out.tu.trans dL);have HY5:=hid (aj HR.out.y (dL.block yb HR.out.y.lt HR.out.yo));have HYQ:=hid HR.out.yq;clear hd5 dL ku k0 k9
    by_cases he1:e1=0
    · subst he1;have HD6:=hid (ah w5 none);have Br:=hid (xP.out.quiet HD6.out);have HY6:=hid (HY5.out.grown HD6.out (by simp));have fw:=hid (rT Br.out.d (y.gn:Nat) (y.ep:Nat) (y.pg:Nat) (y.st:Nat) (y.ln:Nat) (y.hd:Nat) (y.sq:Nat) (λi=>by have h1:=Dh.out i; have h2:=HRV.out i; have h3:=bB.out i; omega) Br.out.low);have Ov:=hid (λh=>tC.out.trans (Ug (S:=S) (D:=D) (x:=x) (y:=y) (R:=(0,T)) rfl h));have HBAD:=hid (λh=>tC.out.trans (Rj (S:=S) (D:=D) (x:=x) (y:=y) (R:=(0,T)) rfl h))
      have hyl:[((y.gn:Nat):Int),((y.ep:Nat):Int),((y.pg:Nat):Int),((y.st:Nat):Int),((y.ln:Nat):Int),((y.hd:Nat):Int),((y.sq:Nat):Int)]=y.l:=rfl;rw [hyl] at fw;have jf:=hid (show w5.drew.cell? ⟨q,0,none⟩=some (.pointer (some ⟨r,0,none⟩))/\w5.drew.cell? ⟨yb,0,none⟩=some (.int .i64 (y.gn:Nat))/\w5.drew.cell? ⟨yb,1,none⟩=some (.int .i64 (y.ep:Nat))/\w5.drew.cell? ⟨yb,2,none⟩=some (.int .i64 (y.pg:Nat))/\w5.drew.cell? ⟨yb,3,none⟩=some (.int .i64 (y.st:Nat))/\w5.drew.cell? ⟨yb,4,none⟩=some (.int .i64 (y.ln:Nat))/\w5.drew.cell? ⟨yb,5,none⟩=some (.int .i64 (y.hd:Nat))/\w5.drew.cell? ⟨yb,6,none⟩=some (.int .i64 (y.sq:Nat)) from by
       refine ⟨Br.out.cells.1,?_,?_,?_,?_,?_,?_,?_⟩ <;> (rw [HY6.out.cell]; rfl))
      clear tC hyl Dh sP
      dsimp only at Ov HBAD
      generalize ay T y.l=RS at *;obtain ⟨e2,T2⟩:=RS
      dsimp only at fw Ov HBAD
      go_wp2_with fail
      go_region_held3 (λwx=>wx.cell? ⟨q,0,none⟩=some (.pointer (some ⟨r,0,none⟩))/\wx.cell? ⟨yb,0,none⟩=some (.int .i64 (y.gn:Nat))/\wx.cell? ⟨yb,1,none⟩=some (.int .i64 (y.ep:Nat))/\wx.cell? ⟨yb,2,none⟩=some (.int .i64 (y.pg:Nat))/\wx.cell? ⟨yb,3,none⟩=some (.int .i64 (y.st:Nat))/\wx.cell? ⟨yb,4,none⟩=some (.int .i64 (y.ln:Nat))/\wx.cell? ⟨yb,5,none⟩=some (.int .i64 (y.hd:Nat))/\wx.cell? ⟨yb,6,none⟩=some (.int .i64 (y.sq:Nat)))
       (first
         | exact jf.out
         | exact Y4.out)
       (first
         | (go_at_call 26
            (with_reducible refine fw.out.mono ?_)
            rintro e w7 ⟨rfl,abh,hd7,J8⟩;have vB:=hid (Br.out.disk hd7 J8);have CQ:=hid ((fJ.out.trans (aa.none_ HD6.out)).trans J8);have Kw:=hid (aj HY6.out (J8.block yb HY6.out.lt HR.out.yo));have Y4:=hid (show w7.cell? ⟨q,0,none⟩=some (.pointer (some ⟨r,0,none⟩))/\w7.cell? ⟨yb,0,none⟩=some (.int .i64 (y.gn:Nat))/\w7.cell? ⟨yb,1,none⟩=some (.int .i64 (y.ep:Nat))/\w7.cell? ⟨yb,2,none⟩=some (.int .i64 (y.pg:Nat))/\w7.cell? ⟨yb,3,none⟩=some (.int .i64 (y.st:Nat))/\w7.cell? ⟨yb,4,none⟩=some (.int .i64 (y.ln:Nat))/\w7.cell? ⟨yb,5,none⟩=some (.int .i64 (y.hd:Nat))/\w7.cell? ⟨yb,6,none⟩=some (.int .i64 (y.sq:Nat)) from by
             refine ⟨vB.out.cells.1,?_,?_,?_,?_,?_,?_,?_⟩ <;> (rw [Kw.out.cell]; rfl))
            clear hd7 J8))
      clear fw jf
      by_cases he2:e2=0
      · subst he2;have HE:=hid (Ov.out rfl);have y0:=Kw.out.cell 0; have y1:=Kw.out.cell 1; have y2:=Kw.out.cell 2; have y3:=Kw.out.cell 3; have y4:=Kw.out.cell 4; have y5:=Kw.out.cell 5; have y6:=Kw.out.cell 6;simp only [akb,aka,akc] at y0 y1 y2 y3 y4 y5 y6;obtain ⟨_,p1,p2,p3,p4,p5,p6,p7,_,p9,_,_⟩:=vB.out.cells;have f1:=vB.out.fz 1; have f2:=vB.out.fz 2; have f3:=vB.out.fz 3; have f4:=vB.out.fz 4; have f5:=vB.out.fz 5; have f6:=vB.out.fz 6; have f7:=vB.out.fz 7; have f9:=vB.out.fz 9
        clear Ov HBAD;go_wp2_with fail;go_ret;have hg:=akd (akd (akd (akd (akd (akd (akd (akd (akr w7 (some q)) 1 (.int .i64 (y.gn:Nat))) 2 (.int .i64 (y.ep:Nat))) 3 (.int .i64 (y.pg:Nat))) 4 (.int .i64 (y.st:Nat))) 5 (.int .i64 (y.ln:Nat))) 6 (.int .i64 (y.hd:Nat))) 7 (.int .i64 (y.sq:Nat))) 9 (.slice none 0 0)
        have hb:=(((((((vB.out.c.aC 1 (.int .i64 (y.gn:Nat))).aC 2 (.int .i64 (y.ep:Nat))).aC 3 (.int .i64 (y.pg:Nat))).aC 4 (.int .i64 (y.st:Nat))).aC 5 (.int .i64 (y.ln:Nat))).aC 6 (.int .i64 (y.hd:Nat))).aC 7 (.int .i64 (y.sq:Nat))).aC 9 (.slice none 0 0);unfold ru;rw [HE.out];exact ⟨rfl,abh,.slice none 0 0,vB.out.row hg hb (uO _ _) vB.out.u bg.none_ vB.out.xg,(Dq CQ.out).trans (.aA hg (λj e=>by cases e; exact .inr rfl))⟩
      · have HE:=hid (HBAD.out he2);have qZ:(e2 == 0)=false:=by simpa using he2
        clear Ov HBAD he2;go_wp2_with fail;go_ret;unfold ru;rw [HE.out];exact ⟨rfl,abh,_,vB.out,Dq CQ.out⟩
    · have qZ:(e1 == 0)=false:=by simpa using he1
      have HE:=hid (tC.out.trans (JA (S:=S) (D:=D) (x:=x) (y:=y) (R:=(e1,T)) he1));clear tC he1;go_wp2_with fail;go_ret;unfold ru;rw [HE.out];exact ⟨rfl,own',_,xP.out,Dq fJ.out⟩
end
theorem NV (S:St) (D:aK):(bn S D).2.n=S.n:=by
 unfold bn
 split
 · rw [oH,Fz]
 · rw [Fz]
theorem Uh (S:St) (D:aK) (x y:Sb) (R:Int × St):(dR S D x y R).2.1.n=R.2.n:=by
 unfold dR
 split
 · split
   · exact ze _ _
   · exact ze _ _
 · rfl
theorem JB (S:St) (D:aK) (x y:Sb):(jc S D x y).2.1.n=S.n:=by
 unfold jc;rw [Uh];exact NV S D
theorem O6 {S:St} {D:aK} {x y:Sb} {R:Int × St} {n:Nat} (hx:aL x.l (n:Int)=true) (hn:R.2.n=n):aL (dR S D x y R).2.2.1.l (n:Int)=true:=by
 unfold dR
 split
 · split
   · rename_i h
     rw [<-hn]; exact xZ h
   · exact hx
 · exact hx
section
variable {Z:Nat->Prop} {w w':World} {B r g q:Nat} {own own':Nat->Prop} {s:Sto} {S':St} {x':Sb} {D':aK} {pv' Ba:Value}
theorem aQ.core (h:aQ Z w B r g q own s) (hk:dx w' B r q (XZ Z g q) own' S' x' (.pointer (some ⟨g,0,none⟩)) D' s.W.isSome (s.W.getD aM) pv' Ba) (ht:aa w w' (lJ own q) (lJ own' q)) (hn:S'.n=s.S.n) (hm:aL x'.l (s.S.n:Nat)=true) :
 aQ Z w' B r g q own' { s with S:=S',x:=x',D:=D' }/\aa w w' (bT own g q) (bT own' g q):=by
 obtain ⟨pv,ov,hk0⟩:=h.k;have hgl:=af.lt h.l;have hg:¬ lJ own q g:=λe=>by
  rcases e with e | e
  · exact (hk0.xo g (.inl (.inl rfl))).2.1 e
  · exact h.ne e
 refine ⟨⟨⟨pv',Ba,hk⟩,aj h.l (ht.block g hgl hg),hn ▸ h.ok,by show aL x'.l (S'.n:Nat)=true; rw [hn]; exact hm,h.ne,h.zo⟩,?_⟩;refine ⟨ht.os,ht.tape,ht.output,ht.size,λi hi hno=>ht.block i hi (λe=>hno ?_),λi hi=>?_⟩
 · rcases e with e | e
   · exact .inl e
   · exact .inr (.inr e)
 · rcases hi with hi | hi | hi
   · rcases ht.fresh i (.inl hi) with (h1 | h1) | h1
     · exact .inl (.inl h1)
     · exact .inl (.inr (.inr h1))
     · exact .inr h1
   · exact .inl (.inr (.inl hi))
   · exact .inl (.inr (.inr hi))
def Bf (s:Sto) (a:Int × St × Sb × aK):Int × Sto :=
 if a.1=0 then (0,{ s with S:=a.2.1,L:=s.L.drop,x:=a.2.2.1,D:=a.2.2.2 }) else (a.1,{ s with S:=a.2.1,x:=a.2.2.1,D:=a.2.2.2 })
theorem CE {s:Sto} {a:Int × St × Sb × aK} (h:a.1≠0):Bf s a=(a.1,{ s with S:=a.2.1,x:=a.2.2.1,D:=a.2.2.2 }):=by unfold Bf; rw [if_neg h]
theorem AO (s:Sto) (T:St) (y:Sb) (D:aK):Bf s (0,T,y,D)=(0,{ s with S:=T,L:=s.L.drop,x:=y,D:=D }):=by
 unfold Bf;generalize hz:((0,T,y,D):Int × St × Sb × aK)=a;have h0:a.1=0:=by rw [<-hz]
 rw [if_pos h0,<-hz]
def jT (D:aK) (x y:Sb) (V:Int × St):Int × St × Sb × aK:=if V.1=0 then (0,V.2,y,aM) else (V.1,V.2,x,D)
def Wo (s:Sto) (V:Int × St):Int × Sto:=if V.1=0 then (0,{ s with S:=V.2,L:=s.L.drop,x:=s.past,D:=aM }) else (V.1,s.disk V.2)
theorem nU (S:St) (D:aK) (x y:Sb) (R:Int × St):dR S D x y R=if R.1=0 then jT D x y (ay R.2 y.l) else (R.1,R.2,x,D):=by
 unfold dR jT
 rfl
theorem Wn (s:Sto) (T:St):jZ s T=Wo s (ay T s.past.l):=by
 unfold jZ Wo
 rfl
theorem S9 (s:Sto):∀ V:Int × St,Wo s V=Bf s (jT s.D s.x s.past V):=by
 rintro ⟨e2,T3⟩
 by_cases h2:e2=0
 · subst h2;have h1:jT s.D s.x s.past (0,T3)=(0,T3,s.past,aM):=by unfold jT; rw [if_pos rfl]
   rw [h1,AO];unfold Wo;rw [if_pos rfl]
 · have h1:jT s.D s.x s.past (e2,T3)=(e2,T3,s.x,s.D):=by unfold jT; rw [if_neg h2]
   rw [h1,CE (a:=(e2,T3,s.x,s.D)) h2];unfold Wo;rw [if_neg h2]
   rfl
theorem zC (s:Sto) (T:St):iU s T=Bf s (jc T s.D s.x s.past):=by
 have key:∀ R:Int × St,(if R.1=0 then jZ s R.2 else (R.1,s.disk R.2))=Bf s (dR T s.D s.x s.past R):=by
  rintro ⟨e1,T2⟩;rw [nU,Wn]
  by_cases h1:e1=0
  · subst h1;rw [if_pos rfl,if_pos rfl];exact S9 s _
  · rw [if_neg h1,if_neg h1,CE (a:=(e1,T2,s.x,s.D)) h1]
    rfl
 exact key (bn T s.D)
theorem NT {s:Sto} (hq:¬ (keys s.D=[]/\0 < s.L.room)) (hg:s.x.gn≠1099511627776) (hf:(aR s.S).1=0) :
 bG s=Bf s (jc (aR s.S).2 s.D s.x s.past):=by
 rw [<-zC];unfold bG;rw [if_neg hq,if_neg hg,if_pos hf]
theorem Qb (h:aQ Z w B r g q own s) (hroom:∀ i,(s.S.ae i).length < 549755700000):Calls Tryz.prog 81 #[.pointer (some ⟨q,0,none⟩)] w (eD Z w B r g q own (bZ s)):=by
 obtain ⟨pv,ov,hk⟩:=h.k;obtain ⟨c0,c1,_,_,_,_,_,_,c8,c9,c10,_⟩:=hk.cells;have H:=hid h; have HK:=hid hk
 cases hW:s.W with
 | some U =>
   have HE:=hid (show bZ s=(17,s) from by unfold bZ; rw [hW]; rfl);rw [hW] at c10;simp only [Option.isSome_some] at c10;clear h hk hW hroom c9;go_enter Tryz.func81,Tryz.ntmps81;go_wp2_with fail;go_ret;unfold eD;rw [HE.out];exact ⟨rfl,own,H.out,aa.none_ (akr _ _)⟩
 | none =>
   have HE:=hid (show bZ s=bG s from by unfold bZ; rw [hW]; rfl);have HW:=hid hW;rw [hW] at c10;simp only [Option.isSome_none] at c10;have bB:=hid hroom;obtain ⟨A,n,c,hpv,hnc,hcm,hA,him⟩:=hk.p;subst hpv;have hnl:=him.len;rw [dP] at hnl;have zI:=hid (Qd H.out.l H.out.ok.taken (by have h1:=H.out.ok.fit; have h2:=(wV HK.out.d).top; omega));have ng:=hid (show n=0↔keys s.D=[] from by rw [<-hnl]; exact List.length_eq_zero_iff)
   obtain ⟨R0,hR0⟩:∃ r,bG s=r:=⟨_,rfl⟩;rw [hR0] at HE;have fA:=hid hR0.symm;rw [HE.out];clear HE;clear h hk hW hroom hR0 him hnl hcm hA;go_enter Tryz.func81,Tryz.ntmps81;go_upto_region 3 with fail
   go_cut [24] (λs24 wx=>s24=.bool (decide (keys s.D=[]/\0 < s.L.room))/\∃ m,wx=w.drewN m)
   case first =>
    by_cases hk:n=0
    · have hki:((n:Int) == 0)=true:=by simp; omega
      have hkj:(n:Int)=0:=by omega
      have vT:=hid (ng.out.1 hk);go_wp2_with fail;refine zI.out.mono ?_;rintro e w1 ⟨rfl,m,rfl⟩;go_wp2_with fail;go_meet;refine ⟨?_,m,rfl⟩
      simp [vT.out]
    · have hki:((n:Int) == 0)=false:=by simp; omega
      have hkj:¬ ((n:Int)=0):=by omega
      have vT:=hid (show ¬ (keys s.D=[]) from λe=>hk (ng.out.2 e));go_wp2_with fail;go_meet;refine ⟨?_,0,rfl⟩
      simp [vT.out]
   case rest =>
    obtain ⟨rfl,m,rfl⟩:=hcut;have hg1:=dB (akr w none) m;have H1:=hid (H.out.quiet hg1);have nN:=hid (HK.out.quiet hg1);have HT1:=hid (aa.none_ (own:=bT own g q) hg1);clear hg1 c0 c1 c8 c9 c10 zI ng;generalize w.drewN m=w1 at *
    by_cases hq:keys s.D=[]/\0 < s.L.room
    · have uS:decide (keys s.D=[]/\0 < s.L.room)=true:=by simpa using hq
      have HE2:=hid (show bG s=(0,s) from by unfold bG; rw [if_pos hq]);rw [uS];clear uS hq;go_wp2_with fail;go_ret;unfold eD;rw [fA.out.trans HE2.out];exact ⟨rfl,own,H1.out,HT1.out⟩
    · have uS:decide (keys s.D=[]/\0 < s.L.room)=false:=by simpa using hq
      have HQ:=hid hq;rw [uS];clear uS hq;obtain ⟨c0,c1,c2,c3,c4,c5,c6,c7,c8,_,_,_⟩:=nN.out.cells;have bu:=iR H1.out.may;have hgx:=(aV bu 0 (by simp [Sb.l])).2
      simp [Sb.l] at hgx
      clear bu
      by_cases hgn:s.x.gn=1099511627776
      · have hgb:(1099511627776:Int)<=((s.x.gn:Nat):Int):=by omega
        have HE2:=hid (show bG s=(15,s) from by unfold bG; rw [if_neg HQ.out,if_pos hgn]);clear hgn;go_wp2_with fail;go_ret;unfold eD;rw [fA.out.trans HE2.out];exact ⟨rfl,own,H1.out,HT1.out⟩
      · have hgb:¬ ((1099511627776:Int)<=((s.x.gn:Nat):Int)):=by omega
        have OH:=hid hgn;have ku:=hid (qy nN.out.d);have sP:=hid (oH s.S);have Dh:=hid (λi=>jP s.S i);have bD:=hid (λ(hf:(aR s.S).1≠0)=>(show R0=((aR s.S).1,s.disk (aR s.S).2) from by rw [fA.out]; unfold bG; rw [if_neg HQ.out,if_neg OH.out,if_neg hf]));have ui:=hid (λhf=>fA.out.trans (NT HQ.out OH.out hf));clear hgn;generalize aR s.S=RF at *;obtain ⟨e1,T⟩:=RF
        dsimp only at ku sP Dh bD ui
        go_wp2_with fail;refine ku.out.mono ?_;rintro e w2 ⟨rfl,hd2,ht2⟩;have H2:=hid (H1.out.disk hd2 ht2 sP.out);have nk:=hid (nN.out.disk hd2 ht2);have HT2:=hid (HT1.out.trans (wM (GQ g q) ht2));clear ku hd2 ht2 c0 c1 c2 c3 c4 c5 c6 c7 c8 hgb
        by_cases he1:e1=0
        · subst he1;have j5:=hid (ui.out rfl);clear bD ui HQ fA OH;obtain ⟨_,d1,d2,d3,d4,d5,d6,d7,d8,_,_,_⟩:=nk.out.cells;have hw1:IntKind.i64.wrap (((s.x.gn:Nat):Int)+1)=((s.x.gn:Nat):Int)+1:=IntWalk.i64_in _ (by omega);have hbn:=af.new w2 49 #[.int .i64 (s.x.gn:Nat),.int .i64 (s.x.ep:Nat),.int .i64 (s.x.pg:Nat),.int .i64 (s.x.st:Nat),.int .i64 (s.x.ln:Nat),.int .i64 (s.x.hd:Nat),.int .i64 (s.x.sq:Nat)]
          have x0:=hbn.cell 0;have f0:=hbn.frozen 0;simp only [akb,aka] at x0;have hga:=aj9 w2 (.cells #[.int .i64 (((s.x.gn:Nat):Int)+1),.int .i64 (s.x.ep:Nat),.int .i64 (s.x.pg:Nat),.int .i64 (s.x.st:Nat),.int .i64 (s.x.ln:Nat),.int .i64 (s.x.hd:Nat),.int .i64 (s.x.sq:Nat)] 49) none;have gM:=hid hga;have y9:=(nk.out.quiet hga).cells.2.2.2.2.2.2.2.2.1
          have nP:=hid (af.new w2 49 #[.int .i64 (((s.x.gn:Nat):Int)+1),.int .i64 (s.x.ep:Nat),.int .i64 (s.x.pg:Nat),.int .i64 (s.x.st:Nat),.int .i64 (s.x.ln:Nat),.int .i64 (s.x.hd:Nat),.int .i64 (s.x.sq:Nat)]);have CP:=hid (aaf (H2.out.quiet hga).l);clear hga hbn;go_wp2_with fail;refine CP.out.mono ?_;rintro e w4 ⟨rfl,m,rfl⟩;have Ns:=dB (akr (w2.alloc (.cells #[.int .i64 (((s.x.gn:Nat):Int)+1),.int .i64 (s.x.ep:Nat),.int .i64 (s.x.pg:Nat),.int .i64 (s.x.st:Nat),.int .i64 (s.x.ln:Nat),.int .i64 (s.x.hd:Nat),.int .i64 (s.x.sq:Nat)] 49)) none) m
          have hbC:=nP.out.grown Ns (by simp);have VA:=(akd (akd (bW Ns (some w2.heap.size)) 5 (.int .i64 ((s.L.tail:Nat):Int))) 6 (.int .i64 ((s.L.seq:Nat):Int)));have Dg:=hid (aI gM.out VA (λj e=>by cases e; exact akf _));have y0:=hbC.cell 0; have y1:=hbC.cell 1; have y2:=hbC.cell 2; have y3:=hbC.cell 3; have y4:=hbC.cell 4;have f5:=hbC.frozen 5; have f6:=hbC.frozen 6
          have y5:=hbC.cell 5; have y6:=hbC.cell 6;simp only [akb,aka,akc] at y0 y1 y2 y3 y4 y5 y6;have HST:=hid (λwx (hg:w2.grownBy wx none)=>JF (nk.out.quiet hg) (λi=>by have h2:=Dh.out i; have h3:=bB.out i; omega) s.past);have l7:=hid (JB T s.D s.x s.past);have Ht:=hid (O6 (S:=T) (D:=s.D) (x:=s.x) (y:=s.past) (R:=bn T s.D) (n:=s.S.n) H.out.may ((NV T s.D).trans sP.out))
          have acZ:=hid (show jc T s.D s.x s.past=dR T s.D s.x s.past (bn T s.D) from rfl);rw [<-acZ.out] at Ht;clear Ns hbC VA CP x0 f0 y9 acZ;have hp1:((s.past.gn:Nat):Int)=((s.x.gn:Nat):Int)+1:=by simp [Sto.past]
          have Oj:=hid (show ∀ wx,w2.grownBy wx none->Calls Tryz.prog 30 #[.pointer (some ⟨q,0,none⟩),.agg #[.int .i64 (((s.x.gn:Nat):Int)+1),.int .i64 (s.x.ep:Nat),.int .i64 (s.x.pg:Nat),.int .i64 (s.x.st:Nat),.int .i64 (s.x.ln:Nat),.int .i64 ((s.L.tail:Nat):Int),.int .i64 ((s.L.seq:Nat):Int)]] wx (ru wx B r q (XZ Z g q) own (.pointer (some ⟨g,0,none⟩)) s.W.isSome (s.W.getD aM) ov (jc T s.D s.x s.past)) from λwx hg=>by
           have:=HST.out wx hg;rw [hp1] at this;exact this)
          clear HST hp1;generalize jc T s.D s.x s.past=RS at *;obtain ⟨e2,T2,x2,D2⟩:=RS;have acY:=hid (show T2.n=T.n from l7.out);have ac0:=hid (show aL x2.l (s.S.n:Nat)=true from Ht.out);have Oi:=hid (show ∀ wx,w2.grownBy wx none->Calls Tryz.prog 30 #[.pointer (some ⟨q,0,none⟩),.agg #[.int .i64 (((s.x.gn:Nat):Int)+1),.int .i64 (s.x.ep:Nat),.int .i64 (s.x.pg:Nat),.int .i64 (s.x.st:Nat),.int .i64 (s.x.ln:Nat),.int .i64 ((s.L.tail:Nat):Int),.int .i64 ((s.L.seq:Nat):Int)]] wx (λe w'=>e=.returned (.int .i64 e2)/\∃ own' pv',dx w' B r q (XZ Z g q) own' T2 x2 (.pointer (some ⟨g,0,none⟩)) D2 s.W.isSome (s.W.getD aM) pv' ov/\aa wx w' (lJ own q) (lJ own' q)) from Oj.out)
          clear l7 Ht Oj;go_wp2_with fail;refine (Oi.out _ Dg.out).mono ?_;rintro e w5 ⟨rfl,ik,pv5,hk5,dL⟩;have h5:=(H2.out.quiet Dg.out).core hk5 dL acY.out (by rw [show (s.disk T).S.n=s.S.n from sP.out]; exact ac0.out);have H5:=hid (show aQ Z w5 B r g q ik { s with S:=T2,x:=x2,D:=D2 } from h5.1);have fJ:=hid (HT2.out.trans ((aa.none_ Dg.out).trans h5.2));have ni:=hid hk5;have z8:=hk5.cells.2.2.2.2.2.2.2.2.1
          clear h5 hk5 dL Oi y0 y1 y2 y3 y4 y5 y6 f5 f6 d1 d2 d3 d4 d5 d6 d7 d8
          by_cases he2:e2=0
          · subst he2;have vV:=hid (j5.out.trans (AO s T2 x2 D2));have HDR:=hid (aah H5.out.l);go_wp2_with fail;refine HDR.out.mono ?_;rintro e w6 ⟨rfl,GJ,ic⟩;have hla:=H5.out.la.row ic GJ H5.out.ok.drop;have h6:=H5.out.logs hla (.aA ic (λj e=>by cases e; exact .inr rfl)) rfl;have H6:=hid h6.1;have rD:=hid (fJ.out.trans h6.2);clear hla h6 GJ ic HDR z8;go_wp2_with fail;go_ret;unfold eD;rw [vV.out];exact ⟨rfl,ik,H6.out,rD.out⟩
          · have vV:=hid (j5.out.trans (CE (a:=(e2,T2,x2,D2)) he2));have qZ:(e2 == 0)=false:=by simpa using he2
            have HF:=hid (show eD Z w B r g q own R0 (.returned (.int .i64 e2)) w5 from by
             unfold eD;rw [vV.out];exact ⟨rfl,ik,H5.out,fJ.out⟩)
            clear he2 H HK H1 nN HT1 HW bB sP Dh H2 nk HT2 j5 vV H5 ni fJ nP gM Dg acY ac0;go_wp2_with fail;go_ret;exact HF.out
        · have qZ:(e1 == 0)=false:=by simpa using he1
          have j5:=hid (bD.out he1);have HF:=hid (show eD Z w B r g q own R0 (.returned (.int .i64 e1)) w2 from by
           unfold eD;rw [j5.out];exact ⟨rfl,own,H2.out,HT2.out⟩)
          clear bD ui he1 HQ fA OH H HK H1 nN HT1 HW bB sP Dh H2 nk HT2 j5;go_wp2_with fail;go_ret;exact HF.out
end
end Go.Proofs.YtinajlbijgedbaaGreat.RSto
