/- Texts of this seat's proofs: StoLatest, StoRestart, StoSwitch, StoWrite, StoHome, StoRead, StoBoth, StoLoad, StoOpen, StoFormat, StoFmt2, StoLaw. -/
import Derived.Test.YtinajlbijgedbaaGreatQStoSmall
import Derived.Test.YtinajlbijgedbaaGreatQLogImgs
import Derived.Test.YtinajlbijgedbaaGreatQLogSmall
import Derived.Test.YtinajlbijgedbaaGreatQCodecPageGet
import Derived.Test.YtinajlbijgedbaaGreatQCodecSpec
import Derived.Deep.RegionHeld3
set_option maxRecDepth 100000
set_option maxHeartbeats 16000000
namespace Go.Proofs.YtinajlbijgedbaaGreat.Sto
open Lib (hid)
open Go.RowKit Go.Maps Go.Shelf CrcMath CodecMath Mem Crc Codec DiskSpec Dsk Sup Log
theorem UB {w:World} {P:Nat->Prop} {A:Option Addr} {n:Nat} {l:List Rec} (h:nI w P A n l) (B:Nat) (hB:w.heap.size<=B):nI w (From P B) A n l :=
 h.weak (λi hi hq=>by
  rcases hq with hq | hq
  · exact hq
  · omega)
structure qC (w wr:World) (P:Nat->Prop) (A:Option Addr) (n:Nat) (R:List Rec) (D:aK):Prop where
 mp:dE wr (From P w.heap.size) w.heap.size D
 rc:nI wr (From P w.heap.size) A n R
 gr:w.grownBy wr none
theorem qC.quiet {w wr w':World} {P:Nat->Prop} {A:Option Addr} {n:Nat} {R:List Rec} {D:aK} (h:qC w wr P A n R D) (hg:wr.grownBy w' none):qC w w' P A n R D :=
 ⟨h.mp.turn (aa.none_ hg) (hg.block _ h.mp.lt (by simp)),h.rc.turn (aa.none_ hg),h.gr.trans hg⟩
theorem qC.put {w wr w':World} {P:Nat->Prop} {A:Option Addr} {n:Nat} {R:List Rec} {D D':aK} (h:qC w wr P A n R D) (hg:wr.grownBy w' (some w.heap.size)) (hm:dE w' (From P w.heap.size) w.heap.size D'):qC w w' P A n R D' :=
 ⟨hm,h.rc.turn (.aA hg (λj e=>by cases e; exact .inr (akf _))),h.gr.andThen hg (λj hj=>.inl (by cases hj; exact akf _))⟩
theorem Ej {R:List Rec} {j:Nat} {r:Rec} (h:R[j]?=some r):aG (R.take (j+1))=bE (aG (R.take j)) r.2:=by
 unfold aG;rw [List.take_add_one,h,List.foldl_append]
 rfl
theorem rW {D:aK} {l:List ax} {i:Nat} {x:ax} (h:l[i]?=some x):bE D (l.take (i+1))=upd (bE D (l.take i)) x.1.toNat (some (x.2.1,x.2.2)):=by
 rw [List.take_add_one,h];exact Mt _ _ _
theorem Pz {w:World} {P:Nat->Prop} {A:Option Addr} {n c:Nat} {R:List Rec} (h:nI w P A n R) (hn:n<=1099511627776) (hok:∀ r∈R,r.2.length<=40/\∀ x∈r.2,bU x=true) :
 Calls Tryz.prog 99 #[.slice A n c] w λe w'=>e=.returned (.map (some w.heap.size))/\dE w' (From P w.heap.size) w.heap.size (aG R)/\w.grownBy w' none:=by
 have hmm:=@run_makeMap Tryz.prog;have hga:=aj9 w (.map #[] 0) none;have hL:=h.len;have H0:=hid (show qC w (w.alloc (.map #[] 0)) P A n R (aG (R.take 0)) from ⟨dE.made w _,(UB h w.heap.size (akf _)).turn (aa.none_ hga),hga⟩);have aU:=hid hok;have HL:=hid hL;clear h hga hok hL;go_enter Tryz.func99,Tryz.ntmps99;go_wp2_with fail
 go_loopw [5,7,11] (λ_ _ i wr=>∃ j:Nat,j<=n/\i=.int .i64 j/\qC w wr P A n R (aG (R.take j))) (λ_ _ i _=>n - (Go.RowKit.intOf i).toNat)
 case atStart=>exact ⟨0,aks _,rfl,H0.out⟩
 case round =>
  clear H0;obtain ⟨j,hj,rfl,hr⟩:=hrel;have HR:=hid hr;clear hr
  by_cases hlt:j < n
  · have hjn:(j:Int) < (n:Int):=by omega
    obtain ⟨gi,o,x,Bx,mx,cx,rfl,hgi,hno,hx,e0,e1,hmc,Cr⟩:=HR.out.rc.at_ hlt;have hxo:=aU.out _ (akx hx);have yx:=hid hxo;have HX:=hid hx;have jC:=hid Cr;have qj:=Cr.len;have aga:mx<=40:=by have:=hxo.1; omega
    clear hx Cr hxo hno qj;have hga:=aj9 wr (.cells #[.int .i64 x.1,.slice Bx mx cx] 87) none;have H1:=hid (show qC w (wr.alloc (.cells #[.int .i64 x.1,.slice Bx mx cx] 87)) P _ n R (bE (aG (R.take j)) (x.2.take 0)) from HR.out.quiet hga);have HI1:=hid (jC.out.turn (aa.none_ hga));clear hga jC HR hgi;go_wp2_with fail;generalize wr.alloc (.cells #[.int .i64 x.1,.slice Bx mx cx] 87)=wa at *
    go_loopw [7,18] (λ_ i wx=>∃ k:Nat,k<=mx/\i=.int .i64 k/\qC w wx P (some ⟨gi,o,none⟩) n R (bE (aG (R.take j)) (x.2.take k))/\eG wx (From P w.heap.size) Bx mx x.2) (λ_ i _=>mx - (Go.RowKit.intOf i).toNat)
    case atStart=>exact ⟨0,aks _,rfl,H1.out,HI1.out⟩
    case round =>
     clear H1 HI1;obtain ⟨k,hk,rfl,hr,hi⟩:=hrel;have HR:=hid hr;have HI:=hid hi;clear hr hi
     by_cases hkm:k < mx
     · have hkn:(k:Int) < (mx:Int):=by omega
       obtain ⟨g2,o2,⟨y1,y2,y3⟩,By,my,cy,rfl,hg2,X8,hy,c0,c1,c2,Sl,hd2⟩:=HI.out.at_ hkm
       dsimp only at c0 c1 c2 hd2
       have J7:=yx.out.2 _ (akx hy);have hy1:=(eO J7).2.1
       dsimp only at hy1
       obtain ⟨q,rfl⟩:∃ q:Nat,y1=(q:Int):=⟨y1.toNat,by omega⟩;have Qw:=aj9 wr (.cells #[.int .i64 (q:Nat),.int .i64 y2,.slice By my cy] 90) none;have hr1:=HR.out.quiet Qw;have hi1:=HI.out.turn (aa.none_ Qw);have hv1:rA (wr.alloc (.cells #[.int .i64 (q:Nat),.int .i64 y2,.slice By my cy] 90)) (From P w.heap.size) (.agg #[.int .i64 y2,.slice By my cy]) (y2,y3):=⟨_,rfl,By,my,cy,rfl,Sl,Dsk.Data.turn hd2 (aa.none_ Qw)⟩
       obtain ⟨w3,hr3,sj,hg3⟩:=hr1.mp.store (k:=q) hv1 J7 (.inr (akf _));have HR3:=hid (hr1.put hg3 sj);have HI3:=hid (hi1.turn (.aA hg3 (λj e=>by cases e; exact .inr (akf _))));have HPT:=hid (show bE (aG (R.take j)) (x.2.take (k+1))=upd (bE (aG (R.take j)) (x.2.take k)) q (some (y2,y3)) from rW hy);clear Qw hr1 hi1 hv1 sj hg3 X8 hy hd2 J7 HR HI;go_wp2_with fail
       go_roundw
       case rel=>exact ⟨k+1,by omega,by first | rfl | simp,by rw [HPT.out]; exact HR3.out,HI3.out⟩
       case measure=>simp [Go.RowKit.intOf]; omega
     · have hke:k=mx:=by omega
       have hkn:¬ ((k:Int) < (mx:Int)):=by omega
       have qj:=HI.out.len;have HE:=hid (show qC w wr P (some ⟨gi,o,none⟩) n R (aG (R.take (j+1))) from by
        rw [Ej HX.out];have h1:=HR.out;rw [akk (l:=x.2) (by omega)] at h1;exact h1)
       clear qj HR;go_wp2_with fail
       go_roundw
       case rel=>exact ⟨j+1,by omega,by first | rfl | simp,HE.out⟩
       case measure=>simp [Go.RowKit.intOf]; omega
  · have vN:j=n:=by omega
    have hnj:¬ ((j:Int) < (n:Int)):=by omega
    have hL:=HL.out;have HE:=hid (show qC w wr P A n R (aG R) from by
     have h1:=HR.out;rw [akk (by omega)] at h1;exact h1)
    clear hL;go_wp2_with fail;go_ret;exact ⟨rfl,HE.out.mp,HE.out.gr⟩
end Go.Proofs.YtinajlbijgedbaaGreat.Sto
namespace Go.Proofs.YtinajlbijgedbaaGreat.Sto
open Lib (hid)
open Go.RowKit Go.Shelf CrcMath CodecMath Mem Crc Codec DiskSpec Dsk Sup Log
theorem vE (x:Sb) (hg:x.gn<=1099511627776) (he:x.ep<=1099511627776) (w:World) :
 Calls Tryz.prog 56 #[.agg #[.int .i64 (x.gn:Nat),.int .i64 (x.ep:Nat),.int .i64 (x.pg:Nat),.int .i64 (x.st:Nat),.int .i64 (x.ln:Nat),.int .i64 (x.hd:Nat),.int .i64 (x.sq:Nat)]] w λe w'=>e=.returned (.agg #[.int .i64 (((x.gn:Nat):Int)+1),.int .i64 (((x.ep:Nat):Int)+1),.int .i64 (x.pg:Nat),.int .i64 (x.st:Nat),.int .i64 (x.ln:Nat),.int .i64 0,.int .i64 1])/\w.grownBy w' none:=by
 have hw1:IntKind.i64.wrap (((x.gn:Nat):Int)+1)=((x.gn:Nat):Int)+1:=IntWalk.i64_in _ (by omega);have hw2:IntKind.i64.wrap (((x.ep:Nat):Int)+1)=((x.ep:Nat):Int)+1:=IntWalk.i64_in _ (by omega);have hbn:=af.new (w.alloc (.cells #[.int .i64 (((x.gn:Nat):Int)+1),.int .i64 (((x.ep:Nat):Int)+1),.int .i64 (x.pg:Nat),.int .i64 (x.st:Nat),.int .i64 (x.ln:Nat),.int .i64 0,.int .i64 1] 49)) 49 #[.int .i64 (((x.gn:Nat):Int)+1),.int .i64 (((x.ep:Nat):Int)+1),.int .i64 (x.pg:Nat),.int .i64 (x.st:Nat),.int .i64 (x.ln:Nat),.int .i64 0,.int .i64 1]
 rw [show (w.alloc (.cells #[.int .i64 (((x.gn:Nat):Int)+1),.int .i64 (((x.ep:Nat):Int)+1),.int .i64 (x.pg:Nat),.int .i64 (x.st:Nat),.int .i64 (x.ln:Nat),.int .i64 0,.int .i64 1] 49)).heap.size=w.heap.size+1 from by simp] at hbn;have nP:=hid hbn;clear hbn;go_enter Tryz.func56,Tryz.ntmps56;go_wp2;refine qG rfl (w.heap.size+1) 49 #[.int .i64 (((x.gn:Nat):Int)+1),.int .i64 (((x.ep:Nat):Int)+1),.int .i64 (x.pg:Nat),.int .i64 (x.st:Nat),.int .i64 (x.ln:Nat),.int .i64 0,.int .i64 1] _ rfl nP.out Tryz.underlying49 rfl (by kernel_rfl) rfl ?_
 exact ⟨rfl,(aj9 w _ none).trans (aj9 _ _ none)⟩
section
variable {Z:Nat->Prop} {lv:Value} {w w' w1 wr:World} {B b tb g g' sb dm:Nat} {wm:Option Nat} {own own' bV:Nat->Prop} {s:Sto}
theorem aS.Ro (h:aS Z lv w B b tb g sb dm wm own s) {M:Lg} (hl:gG w1 B b tb g' s.S own M) (hg:w.grownBy w1 none) (hlt:w.heap.size<=g') :
 bf Z (w1.setCell ⟨sb,9,none⟩ (.pointer (some ⟨g',0,none⟩))) B b tb g' sb dm wm own { s with L:=M } /\
 aa w (w1.setCell ⟨sb,9,none⟩ (.pointer (some ⟨g',0,none⟩))) (aD own tb g sb dm wm) (aD own tb g' sb dm wm):=by
 have hs:=akd (akr w1 (some sb)) 9 (.pointer (some ⟨g',0,none⟩));have h1:=h.quiet hg;have hsz:=hg.size;have hlow:B<=g':=by have:=h.l.s.s; omega
 have ht:aa w (w1.setCell ⟨sb,9,none⟩ (.pointer (some ⟨g',0,none⟩))) (aD own tb g sb dm wm) (aD own tb g' sb dm wm) :=
  ⟨hs.os.trans hg.os,hs.tape.trans hg.tape,hs.output.trans hg.output,akh hg.size hs.size,λi hi hn=>(hs.block i (ake hi hg.size) (λe=>hn (.inr (.inl (by cases e; rfl))))).trans (hg.block i hi (by simp)),λi hi=>by
   rcases hi with (hi | hi) | hi
   · exact .inl (.inl (.inl hi))
   · exact .inr (by rw [hi]; exact hlt)
   · exact .inl (.inr hi)⟩
 have hno:∀ i,i < w.heap.size->¬ fC own tb g i->¬ fC own tb g' i:=λi hi hn hp=>by
  rcases hp with hp | hp
  · exact hn (.inl hp)
  · rw [hp] at hi; omega
 refine ⟨⟨hl.far hs (λq e=>by cases e; exact hno sb h.c.lt h.rX),h1.r.keep hs (λe=>(by cases e; exact h.rX (.inl (.inr rfl)))),h1.c.aC 9 _,?_,λU hU=>?_,h.n,h.may,hno sb h.c.lt h.rX,⟨hno dm h.d.lt h.qX.1,h.qX.2⟩,λm hm=>⟨hno m (h.bO (.inr (.inr (.inr hm)))) (h.vM m hm).1,(h.vM m hm).2⟩,⟨h.low.1,hlow,h.low.2.2⟩,λi hi=>ake (h1.z i hi) hs.size⟩,ht⟩
 · exact h.d.turn (jb ht) ((hs.block dm (by have:=h.d.lt; omega) (λe=>h.qX.2 (by cases e; rfl))).trans (hg.block dm h.d.lt (by simp)))
 · obtain ⟨m,e,hm⟩:=h.u U hU;exact ⟨m,e,hm.turn (jb ht) ((hs.block m (by have:=hm.lt; omega) (λe2=>(h.vM m e).2.1 (by cases e2; rfl))).trans (hg.block m hm.lt (by simp)))⟩
def mP (Z:Nat->Prop) (lv:Value) (w:World) (B b tb g sb dm:Nat) (wm:Option Nat) (own:Nat->Prop) (s:Sto) (l:List Int) (e:Ending) (w':World):Prop :=
 e=.returned (.int .i64 (ay s.S l).1)/\∃ own' g',aa w w' (aD own tb g sb dm wm) (aD own' tb g' sb dm wm) /\
  (((ay s.S l).1=0/\∃ x',x'.l=l/\bf Z w' B b tb g' sb dm wm own' { s with S:=(ay s.S l).2,x:=x',L:=x'.log })\/((ay s.S l).1≠0/\g'=g/\aS Z lv w' B b tb g sb dm wm own' (s.disk (ay s.S l).2)))
theorem yM (h:aS Z lv w B b tb g sb dm wm own s) (a0 a1 a2 a3 a4 a5 a6:Int) (hroom:∀ i,(s.S.ae i).length < 549755813888) :
 Calls Tryz.prog 55 #[.pointer (some ⟨sb,0,none⟩),.agg #[.int .i64 a0,.int .i64 a1,.int .i64 a2,.int .i64 a3,.int .i64 a4,.int .i64 a5,.int .i64 a6]] w (mP Z lv w B b tb g sb dm wm own s [a0,a1,a2,a3,a4,a5,a6]):=by
 have hga:=aj9 w (.cells #[.int .i64 a0,.int .i64 a1,.int .i64 a2,.int .i64 a3,.int .i64 a4,.int .i64 a5,.int .i64 a6] 49) none;have gM:=hid hga;have hbn:=af.new w 49 #[.int .i64 a0,.int .i64 a1,.int .i64 a2,.int .i64 a3,.int .i64 a4,.int .i64 a5,.int .i64 a6];have nP:=hid hbn;have hsv:=LJ (h.quiet hga) a0 a1 a2 a3 a4 a5 a6 hroom;unfold Ho at hsv;unfold mP;obtain ⟨R0,hR0⟩:∃ r,ay s.S [a0,a1,a2,a3,a4,a5,a6]=r:=⟨_,rfl⟩
 rw [hR0] at hsv ⊢;have fw:=hid hsv;clear hR0 hsv;obtain ⟨er,T⟩:=R0
 dsimp only at fw ⊢
 have Di:=hid (show ¬ aD own tb g sb dm wm w.heap.size from λhi=>by have:=h.bO hi; omega);have x0:=hbn.cell 0; have x1:=hbn.cell 1; have x2:=hbn.cell 2; have x3:=hbn.cell 3; have x4:=hbn.cell 4; have x5:=hbn.cell 5; have x6:=hbn.cell 6;simp only [akb,aka,akc] at x0 x1 x2 x3 x4 x5 x6;clear hga hbn h;go_enter Tryz.func55,Tryz.ntmps55;go_wp2_with fail
 refine fw.out.mono ?_;rintro e w2 ⟨rfl,bV,ht2,h2⟩;have HT2:=hid ((aa.none_ gM.out).trans ht2);have HB2:=hid (aj nP.out (ht2.block w.heap.size nP.out.lt Di.out));clear ht2 fw nP gM x0 x1 x2 x3 x4 x5 x6;rcases h2 with ⟨he,x',hx',h2⟩ | ⟨he,h2⟩
 · have hx2:=hx';unfold Sb.l at hx'
   injection hx' with e0 hx'; injection hx' with e1 hx'; injection hx' with e2 hx'; injection hx' with e3 hx'; injection hx' with e4 hx'; injection hx' with e5 hx'; injection hx' with e6 _
   subst e0 e1 e2 e3 e4 e5 e6;have qZ:(er == 0)=true:=by rw [he]; rfl
   subst he;have HX:=hid hx2;have HD0:=hid (ah w2 none);have H2:=hid (h2.quiet HD0.out);have HB0:=hid (HB2.out.grown HD0.out (by simp));have hnw:=Qm H2.out.l.s (x'.gn:Nat) (x'.pg:Nat) x'.ep x'.st x'.ln x'.hd x'.sq H2.out.may;unfold Ff at hnw;have mi:=hid hnw;clear hnw;have hkeep:∀ (lv2:Value) (wx:World) (g2:Nat) (fQ:Nat->Prop) (t:Sto),aS Z lv2 wx B b tb g2 sb dm wm fQ t->af wx w.heap.size 49 #[(.int .i64 (x'.gn:Nat)),(.int .i64 (x'.ep:Nat)),(.int .i64 (x'.pg:Nat)),(.int .i64 (x'.st:Nat)),(.int .i64 (x'.ln:Nat)),(.int .i64 (x'.hd:Nat)),(.int .i64 (x'.sq:Nat))]->wx.cell? ⟨sb,0,none⟩=some (.pointer (some ⟨b,0,none⟩))/\wx.cell? ⟨sb,1,none⟩=some (.pointer (some ⟨tb,0,none⟩))/\wx.cell? ⟨w.heap.size,0,none⟩=some (.int .i64 (x'.gn:Nat))/\wx.cell? ⟨w.heap.size,1,none⟩=some (.int .i64 (x'.ep:Nat))/\wx.cell? ⟨w.heap.size,2,none⟩=some (.int .i64 (x'.pg:Nat))/\wx.cell? ⟨w.heap.size,3,none⟩=some (.int .i64 (x'.st:Nat))/\wx.cell? ⟨w.heap.size,4,none⟩=some (.int .i64 (x'.ln:Nat))/\wx.cell? ⟨w.heap.size,5,none⟩=some (.int .i64 (x'.hd:Nat))/\wx.cell? ⟨w.heap.size,6,none⟩=some (.int .i64 (x'.sq:Nat)):=λlv2 wx g2 fQ t hs hb=>by
    obtain ⟨c0,c1,_⟩:=hs.cells;exact ⟨c0,c1,by rw [hb.cell]; rfl,by rw [hb.cell]; rfl,by rw [hb.cell]; rfl,by rw [hb.cell]; rfl,by rw [hb.cell]; rfl,by rw [hb.cell]; rfl,by rw [hb.cell]; rfl⟩
   have av:=hid hkeep;clear hx2 h2 HB2 hkeep;go_wp2_with fail
   go_region_held3 (λwx=>wx.cell? ⟨sb,0,none⟩=some (.pointer (some ⟨b,0,none⟩))/\wx.cell? ⟨sb,1,none⟩=some (.pointer (some ⟨tb,0,none⟩))/\wx.cell? ⟨w.heap.size,0,none⟩=some (.int .i64 (x'.gn:Nat))/\wx.cell? ⟨w.heap.size,1,none⟩=some (.int .i64 (x'.ep:Nat))/\wx.cell? ⟨w.heap.size,2,none⟩=some (.int .i64 (x'.pg:Nat))/\wx.cell? ⟨w.heap.size,3,none⟩=some (.int .i64 (x'.st:Nat))/\wx.cell? ⟨w.heap.size,4,none⟩=some (.int .i64 (x'.ln:Nat))/\wx.cell? ⟨w.heap.size,5,none⟩=some (.int .i64 (x'.hd:Nat))/\wx.cell? ⟨w.heap.size,6,none⟩=some (.int .i64 (x'.sq:Nat)))
    (first
      | exact av.out _ _ _ _ _ H2.out HB0.out
      | exact av.out _ _ _ _ _ oP.out.1 gF.out
      | exact av.out _ _ _ _ _ uZ.out HB3.out)
    (first
      | (go_at_call 102
         (with_reducible refine mi.out.mono ?_)
         rintro e w3 ⟨g',rfl,hg',hl3,hg3⟩;have f9':=(H2.out.quiet hg3).fz 9;obtain ⟨_,_,_,_,_,_,_,_,_,c9',_,_⟩:=(H2.out.quiet hg3).cells;have uZ:=hid (H2.out.quiet hg3);have HB3:=hid (HB0.out.grown hg3 (by simp));have oP:=hid (H2.out.Ro hl3 hg3 hg');have gF:=hid (HB3.out.far (p:=⟨sb,9,none⟩) (λe=>Di.out (.inr (.inl e))) (.pointer (some ⟨g',0,none⟩)));clear hg3 hl3 hg'))
   go_wp2;go_ret;exact ⟨rfl,bV,g',(HT2.out.trans (aa.none_ HD0.out)).trans oP.out.2,x',HX.out,oP.out.1⟩
 · have qZ:(er == 0)=false:=by simpa using he
   have HE:=hid he;have H2:=hid h2;clear he h2;go_wp2_with fail;go_ret;exact ⟨rfl,bV,g,HT2.out,.inr ⟨HE.out,rfl,H2.out⟩⟩
end
section
variable {Z:Nat->Prop} {w w' w1 wr:World} {B b tb g g' sb dm:Nat} {wm:Option Nat} {own own' bV:Nat->Prop} {s:Sto}
theorem F3 (h:bf Z w B b tb g sb dm wm own s) (a c:Int) (hb:s.W.isSome=true\/keys s.D≠[]) :
 Calls Tryz.prog 67 #[.pointer (some ⟨sb,0,none⟩),.int .i64 a,.int .i64 c] w λe w'=>e=.returned (.int .i64 17)/\w'=w:=by
 have HU:=hid (ma h);obtain ⟨_,_,_,_,_,_,_,_,_,_,c10,_⟩:=h.cells;have hsz:=λty=>h.d.size ty
 clear h
 by_cases hW:s.W.isSome=true
 · rw [hW] at HU;clear hb hW;go_enter Tryz.func67,Tryz.ntmps67;go_wp2_with fail;refine HU.out.mono ?_;rintro e w1 ⟨rfl,rfl⟩;go_wp2_with fail;go_ret;exact ⟨rfl,rfl⟩
 · rw [Bool.not_eq_true] at hW;rw [hW] at HU;have hk:0 < (keys s.D).length:=by
    rcases hb with hb | hb
    · rw [hW] at hb; cases hb
    · exact List.length_pos_iff.2 hb
   generalize (keys s.D).length=K at *;have hki:(0:Int) < (K:Int):=by omega
   clear hb hW;go_enter Tryz.func67,Tryz.ntmps67;go_wp2_with fail;refine HU.out.mono ?_;rintro e w1 ⟨rfl,rfl⟩;go_wp2_with fail;go_ret;exact ⟨rfl,rfl⟩
theorem Rf (h:bf Z w B b tb g sb dm wm own s) (a c:Int) (hW:s.W.isSome=false) (hk:keys s.D=[]) (hroom:∀ i,(s.S.ae i).length < 549755813888) :
 Calls Tryz.prog 67 #[.pointer (some ⟨sb,0,none⟩),.int .i64 a,.int .i64 c] w (mP Z (.pointer (some ⟨g,0,none⟩)) w B b tb g sb dm wm own s [((s.x.gn:Nat):Int)+1,((s.x.ep:Nat):Int)+1,((s.x.pg:Nat):Int),a,c,0,1]):=by
 have HU:=hid (ma h);rw [hW] at HU;obtain ⟨_,_,c2,c3,c4,c5,c6,c7,c8,_,c10,_⟩:=h.cells;have hsz:=λty=>h.d.size ty
 rw [hk] at hsz;have bu:=iR h.may;have hgx:=(aV bu 0 (by simp [Sb.l])).2;have hex:=(aV bu 1 (by simp [Sb.l])).2
 simp [Sb.l] at hgx hex
 have KC:=hid (vE s.x (by omega) (by omega) w);have H:=hid h;have bB:=hid hroom;clear h hroom hW hk bu;go_enter Tryz.func67,Tryz.ntmps67;go_wp2_with fail;refine HU.out.mono ?_;rintro e w1 ⟨rfl,rfl⟩;go_wp2_with fail;refine KC.out.mono ?_;rintro e w2 ⟨rfl,hg2⟩;have HG2:=hid (hg2.trans (aj9 w2 (.cells #[.int .i64 (((s.x.gn:Nat):Int)+1),.int .i64 (((s.x.ep:Nat):Int)+1),.int .i64 (s.x.pg:Nat),.int .i64 a,.int .i64 c,.int .i64 0,.int .i64 1] 49) none))
 have Om:=hid (yM (H.out.quiet HG2.out) (((s.x.gn:Nat):Int)+1) (((s.x.ep:Nat):Int)+1) ((s.x.pg:Nat):Int) a c 0 1 bB.out);clear hg2 KC c2 c3 c4 c5 c6 c7 c8 c10 hsz;go_wp2_with fail;refine Om.out.mono ?_;unfold mP;rintro e w3 ⟨rfl,fQ,g3,ht3,h3⟩;have HT3:=hid ((aa.none_ HG2.out).trans ht3);have H3:=hid h3;clear ht3 h3 Om;go_wp2_with fail;go_ret;exact ⟨rfl,fQ,g3,HT3.out,H3.out⟩
end
def MN (p:Int) (q:Pg):Int:=if bA p q.1 q.2 then 0 else 1
theorem XB {w:World} {tb:Nat} {P:Nat->Prop} (p:Int) (q:Pg) {A:Option Addr} {n c:Nat} (hR:Ready w tb) (hd:Dsk.Data w P A n q.2) (hP:P tb) :
 Calls Tryz.prog 59 #[.pointer (some ⟨tb,0,none⟩),.agg #[.int .i64 p,.int .i64 q.1,.slice A n c]] w λe w'=>(∃ A' n' c',e=.returned (.tuple #[.slice A' n' c',.int .i64 (MN p q)]))/\w.grownBy w' none:=by
 refine (vF tb tb none p q.1 A n c q.2 w (oV hR) (pz hd hP)).mono ?_;rintro e w' ⟨hg,⟨l,g,ho,rfl,_⟩ | ⟨ho,rfl,_⟩⟩
 · have hk:bA p q.1 q.2=true:=by
    unfold ed at ho
    split at ho
    · assumption
    · cases ho
   have hm:MN p q=0:=if_pos hk;exact ⟨⟨_,_,_,by rw [hm]⟩,hg⟩
 · have hk:¬ (bA p q.1 q.2=true):=λhk=>by
    rw [ed,if_pos hk] at ho; cases ho
   have hm:MN p q=1:=if_neg hk;exact ⟨⟨_,_,_,by rw [hm]⟩,hg⟩
section
variable {Z:Nat->Prop} {w w' w1 wr:World} {B b tb g g' sb dm:Nat} {wm:Option Nat} {own own' bV:Nat->Prop} {s:Sto}
theorem aS.wrote {m:Nat} (h:bf Z w B b tb g sb dm (some m) own s) (hg:w.grownBy w' (some m)) {U:aK} (hd:dE w' (FZ Z (aD own tb g sb dm (some m))) m U) :
 bf Z w' B b tb g sb dm (some m) own { s with W:=some U }/\aa w w' (aD own tb g sb dm (some m)) (aD own tb g sb dm (some m)):=by
 have ht:aa w w' (aD own tb g sb dm (some m)) (aD own tb g sb dm (some m)):=.aA hg (λj e=>by cases e; exact .inr (.inr (.inr rfl)));obtain ⟨m1,m2,m3⟩:=h.vM m rfl;refine ⟨⟨h.l.far hg (λq e=>(by cases e; exact m1)),h.r.keep hg (λe=>(by cases e; exact m1 (.inl (.inr rfl)))),h.c.grown hg (λe=>m2 (by cases e; rfl)),h.d.turn (jb ht) (hg.block dm h.d.lt (λe=>m3 (by cases e; rfl))),λV hV=>?_,λe=>(by cases e),h.may,h.rX,h.qX,h.vM,h.low,λi hi=>ake (h.z i hi) hg.size⟩,ht⟩
 cases hV
 exact ⟨m,rfl,hd⟩
theorem dE.aaA {P:Nat->Prop} {bm:Nat} {D:aK} (h:dE w P bm D) (k:Nat) (hk:k < 9223372036854775808):∃ k0 A n c,(Instr.lookup 100 (.map (some bm)) (.int .i64 (k:Nat)) true).run Tryz.prog w=.ok (.tuple #[.agg #[.int .i64 k0,.slice A n c],.bool (D k).isSome]) w:=by
 obtain ⟨v,hr,⟨_,rfl⟩ | ⟨p,_,bv,rfl,A,n,c,rfl,_⟩⟩:=h.abv k hk
 · exact ⟨_,_,_,_,hr⟩
 · exact ⟨_,_,_,_,hr⟩
theorem xX (h:bf Z w B b tb g sb dm wm own s) (p:Int) {v:Value} {q:Pg} (hv:rA w (aD own tb g sb dm wm) v q) (hs:s.W=none\/s.has p=false) :
 Calls Tryz.prog 17 #[.pointer (some ⟨sb,0,none⟩),.int .i64 p,v] w (uX Z w B b tb g sb dm wm own (bQ s p q)):=by
 obtain ⟨bv,rfl,A,n,c,rfl,hnc,hd⟩:=hv;have hga:=aj9 w (.cells #[.int .i64 q.1,.slice A n c] 72) none;have HU:=hid (ma (h.quiet hga));have HH:=hid (P7 (h.quiet hga) p);have H1:=hid (h.quiet hga);have HT1:=hid (aa.none_ (own:=aD own tb g sb dm wm) hga);clear hga h hd
 cases hW:s.W with
 | none =>
   have HE:=hid (show bQ s p q=(18,s) from by unfold bQ; rw [hW]);rw [hW] at HU;clear hW hs;go_enter Tryz.func17,Tryz.ntmps17;go_wp2_with fail;refine HU.out.mono ?_;rintro e w2 ⟨rfl,rfl⟩;go_wp2_with fail;go_ret;rw [HE.out];exact ⟨rfl,own,H1.out,HT1.out⟩
 | some U =>
   rcases hs with hs | hs
   · rw [hW] at hs; cases hs
   have HE:=hid (show bQ s p q=(2,s) from by unfold bQ; rw [hW]; exact if_pos hs);rw [hW] at HU;rw [hs] at HH;clear hW hs;go_enter Tryz.func17,Tryz.ntmps17;go_wp2_with fail;refine HU.out.mono ?_;rintro e w2 ⟨rfl,rfl⟩;go_wp2_with fail;refine HH.out.mono ?_;rintro e w2 ⟨rfl,rfl⟩;go_wp2_with fail;go_ret;rw [HE.out];exact ⟨rfl,own,H1.out,HT1.out⟩
def QI (Z:Nat->Prop) (w:World) (B b tb g sb dm m:Nat) (own:Nat->Prop) (U:aK) (r:Int × Sto) (e:Ending) (w':World):Prop :=
 e=.returned (.int .i64 r.1)/\bf Z w' B b tb g sb dm (some m) own r.2/\w.grownBy w' (some m)/\∀ Q:Nat->Prop,(∀ i,Q i->i < w.heap.size)->Q m->dE w Q m U->∀ U',r.2.W=some U'->dE w' Q m U'
theorem DL {w w':World} {B b tb g sb dm m:Nat} {own:Nat->Prop} {U:aK} {s:Sto} {z:Int} (h:bf Z w' B b tb g sb dm (some m) own s) (hU:s.W=some U) (hg:w.grownBy w' none):QI Z w B b tb g sb dm m own U (z,s) (.returned (.int .i64 z)) w':=by
 refine ⟨rfl,h,iy hg _,λQ _ _ hm U' hU'=>?_⟩;have:U'=U:=by
  have h1:s.W=some U':=hU';rw [hU] at h1
  injection h1 with h1
  exact h1.symm
 subst this;exact hm.turn (aa.none_ hg) (hg.block m hm.lt (by simp))
theorem O0 (h:bf Z w B b tb g sb dm wm own s) (p:Int) {v:Value} {q:Pg} {U:aK} (hv:rA w (aD own tb g sb dm wm) v q) (hU:s.W=some U) (hp:s.has p=true) :
 Calls Tryz.prog 17 #[.pointer (some ⟨sb,0,none⟩),.int .i64 p,v] w λe w'=>∃ m,wm=some m/\QI Z w B b tb g sb dm m own U (bQ s p q) e w':=by
 obtain ⟨m,rfl,hm⟩:=h.u U hU;obtain ⟨bv,rfl,A,n,c,rfl,hnc,hd⟩:=hv;have hga:=aj9 w (.cells #[.int .i64 q.1,.slice A n c] 72) none;have hpr:0<=p/\p < (s.x.pg:Int):=by simpa [Sto.has] using hp
 have jG:=(aV (iR h.may) 2 (by simp [Sb.l])).2
 simp [Sb.l] at jG
 obtain ⟨k,rfl⟩:∃ k:Nat,p=(k:Int):=⟨p.toNat,by omega⟩;have hk:k < 9223372036854775808:=by omega
 have HU:=hid (ma (h.quiet hga));have HH:=hid (P7 (h.quiet hga) (k:Int));rw [hU] at HU;rw [hp] at HH;have H1:=hid (h.quiet hga);have HT1:=hid (aa.none_ (own:=aD own tb g sb dm (some m)) hga);have ag7:=hid hga;have HB1:=hid (af.new w 72 #[.int .i64 q.1,.slice A n c]);have Dj:=hid (Dsk.Data.turn hd HT1.out);have HE:=hid (show bQ s (k:Int) q=if bA (k:Int) q.1 q.2=false then (1,s) else if U k=none/\(keys U).length=40 then (16,s) else (0,{ s with W:=some (upd U k (some q)) }) from by
  unfold bQ;rw [hU];show (if s.has (k:Int)=false then _ else _)=_;rw [if_neg (by rw [hp]; simp)]
  rfl)
 have ZB:=hid hU;have HNC:=hid hnc;have Ig:=hid (show ¬ aD own tb g sb dm (some m) w.heap.size from λhi=>by have:=h.bO hi; omega);clear hga hpr jG h hd hU hp hm hnc;obtain ⟨R0,hR0⟩:∃ r,bQ s (k:Int) q=r:=⟨_,rfl⟩;rw [hR0] at HE ⊢;clear hR0;go_enter Tryz.func17,Tryz.ntmps17;go_wp2_with fail;refine HU.out.mono ?_;rintro e w2 ⟨rfl,rfl⟩;go_wp2_with fail;refine HH.out.mono ?_;rintro e w2 ⟨rfl,rfl⟩;clear HU HH
 go_wp2_with fail;generalize w.alloc (.cells #[.int .i64 q.1,.slice A n c] 72)=wq at *;have hkeep:∀ (wx:World) (t:Sto),bf Z wx B b tb g sb dm (some m) own t->af wx w.heap.size 72 #[.int .i64 q.1,.slice A n c]->wx.cell? ⟨sb,1,none⟩=some (.pointer (some ⟨tb,0,none⟩))/\wx.cell? ⟨sb,11,none⟩=some (.map (some m))/\wx.cell? ⟨w.heap.size,0,none⟩=some (.int .i64 q.1)/\wx.cell? ⟨w.heap.size,1,none⟩=some (.slice A n c):=λwx t hs hb=>by
  obtain ⟨_,c1,_,_,_,_,_,_,_,_,_,c11⟩:=hs.cells;exact ⟨c1,c11,by rw [hb.cell]; rfl,by rw [hb.cell]; rfl⟩
 have av:=hid hkeep;have HD0:=hid (ah wq none);have HB0:=hid (HB1.out.grown HD0.out (by simp));have H2:=hid (H1.out.quiet HD0.out);have pJ:=hid (XB (w:=wq.drew) (tb:=tb) (P:=aD own tb g sb dm (some m)) (k:Int) q (A:=A) (n:=n) (c:=c) H2.out.r (Dsk.Data.turn Dj.out (aa.none_ HD0.out)) (.inl (.inl (.inr rfl))));clear hkeep
 go_region_held3 (λwx=>wx.cell? ⟨sb,1,none⟩=some (.pointer (some ⟨tb,0,none⟩))/\wx.cell? ⟨sb,11,none⟩=some (.map (some m))/\wx.cell? ⟨w.heap.size,0,none⟩=some (.int .i64 q.1)/\wx.cell? ⟨w.heap.size,1,none⟩=some (.slice A n c))
  (first
    | exact av.out _ _ H2.out HB0.out
    | exact av.out _ _ H3.out HB3.out)
  (first
    | (go_at_call 59
       (with_reducible refine pJ.out.mono ?_)
       rintro e w3 ⟨⟨A',n',c',rfl⟩,hg3⟩;have H3:=hid (H2.out.quiet hg3);have HB3:=hid (HB0.out.grown hg3 (by simp));have HT3:=hid (HT1.out.trans (aa.none_ (HD0.out.trans hg3)));have adN:=hid (Dsk.Data.turn Dj.out (aa.none_ (HD0.out.trans hg3)));have adI:=hid (ag7.out.trans (HD0.out.trans hg3));clear hg3))
 clear pJ HB0 H2 HD0 HB1 H1 HT1 Dj
 by_cases hok:bA (k:Int) q.1 q.2=true
 · have hme:MN (k:Int) q=0:=if_pos hok;have aU:=hid hok;have lN:=hid (show R0=if U k=none/\(keys U).length=40 then (16,s) else (0,{ s with W:=some (upd U k (some q)) }) from HE.out.trans (if_neg (by rw [hok]; simp)));rw [hme];clear hme hok HE;obtain ⟨m',em,hm⟩:=H3.out.u U ZB.out
   cases em
   obtain ⟨k0,A1,n1,c1,Zj⟩:=hm.aaA k hk;obtain ⟨ux,hux⟩:∃ u,(U k).isSome=u:=⟨_,rfl⟩;rw [hux] at Zj;have HUX:=hid hux;clear hux;obtain ⟨_,_,_,_,_,_,_,_,_,_,_,y11⟩:=H3.out.cells;have cB:=hid (aj9 w3 (.cells #[.int .i64 k0,.slice A1 n1 c1] 72) none);have H4:=hid (H3.out.quiet cB.out);have jJ:=hid (HB3.out.grown cB.out (by simp));have sK:=hid (HT3.out.trans (aa.none_ cB.out));have ahb:=hid (Dsk.Data.turn adN.out (aa.none_ cB.out))
   have Y0:=hid (adI.out.trans cB.out);have vg:=hid (hm.quiet cB.out);clear hm;go_upto_region 9 with fail;clear Zj y11 HB3 H3 HT3 adN cB;generalize w3.alloc (.cells #[.int .i64 k0,.slice A1 n1 c1] 72)=w4 at *;have hsz:=λty=>vg.out.size ty
   obtain ⟨_,_,_,_,_,_,_,_,_,_,_,y11⟩:=H4.out.cells
   go_cut [50] (λs5 wx=>s5=.bool (decide (U k=none/\(keys U).length=40))/\wx=w4)
   case first =>
    generalize (keys U).length=K at *
    cases ux with
    | true =>
      have Zp:¬ (U k=none):=λe=>by have:=HUX.out; rw [e] at this; cases this
      go_wp2_with fail;go_meet;exact ⟨by simp [Zp],rfl⟩
    | false =>
      have Zp:U k=none:=by have:=HUX.out; simpa using this
      have HUN:=hid Zp;clear Zp
      by_cases hK:K=40
      · have hK1:((K:Int) == 40)=true:=by simp; omega
        have hK2:(K:Int)=40:=by omega
        go_wp2_with fail;go_meet;exact ⟨by simp [hK,HUN.out],rfl⟩
      · have hK1:((K:Int) == 40)=false:=by simp; omega
        have hK2:¬ ((K:Int)=40):=by omega
        go_wp2_with fail;go_meet;exact ⟨by simp [hK],rfl⟩
   case rest =>
    obtain ⟨rfl,rfl⟩:=hcut;generalize wc=w4 at *;clear hsz y11
    by_cases hq:U k=none/\(keys U).length=40
    · have uS:decide (U k=none/\(keys U).length=40)=true:=by simpa using hq
      have HE2:=hid (lN.out.trans (if_pos hq));rw [uS];clear uS hq;go_wp2_with fail;go_ret;rw [HE2.out];exact ⟨m,rfl,DL H4.out ZB.out Y0.out⟩
    · have uS:decide (U k=none/\(keys U).length=40)=false:=by simpa using hq
      have HE2:=hid (lN.out.trans (if_neg hq));rw [uS];clear uS hq;have hl:q.2.length=240:=(dQ aU.out).2.2.1;have HD5:=hid (ah w4 none);have H5:=hid (H4.out.quiet HD5.out);have gF:=hid (jJ.out.grown HD5.out (by simp));have Il:=hid (SV (w:=w4.drew) (P:=aD own tb g sb dm (some m)) (v:=.agg #[.int .i64 q.1,.slice A n c]) (p:=q) ⟨_,rfl,A,n,c,rfl,HNC.out,Dsk.Data.turn ahb.out (aa.none_ HD5.out)⟩ (by omega) (by omega))
      have ku:=hid (λi (hi:FZ Z (aD own tb g sb dm (some m)) i)=>H5.out.Y7 hi);have hmm:=(H5.out.u U ZB.out);have Q3:=hid (show dE w4.drew (FZ Z (aD own tb g sb dm (some m))) m U from by obtain ⟨m',em,hm⟩:=hmm; cases em; exact hm);clear hl hmm vg;go_wp2_with fail
      go_region_held3 (λwx=>wx.cell? ⟨sb,1,none⟩=some (.pointer (some ⟨tb,0,none⟩))/\wx.cell? ⟨sb,11,none⟩=some (.map (some m))/\wx.cell? ⟨w.heap.size,0,none⟩=some (.int .i64 q.1)/\wx.cell? ⟨w.heap.size,1,none⟩=some (.slice A n c))
       (first
         | exact av.out _ _ H5.out gF.out
         | exact av.out _ _ H7.out.1 nu.out
         | exact av.out _ _ H6.out kY.out)
       (first
         | (go_at_call 60
            (with_reducible refine Il.out.mono ?_)
            rintro e w6 ⟨v',rfl,hv',ic⟩;have H6:=hid (H5.out.quiet ic);have kY:=hid (gF.out.grown ic (by simp));obtain ⟨w7,hrun,hd7,fZ⟩:=(Q3.out.quiet ic).store (k:=k) (p:=q) (v:=v') (hv'.weak (λi _ hi=>ku.out i hi)) aU.out (.inl (.inr (.inr (.inr rfl))));have H7:=hid (H6.out.wrote fZ hd7);have nu:=hid (kY.out.grown fZ (λe=>Ig.out (.inr (.inr (.inr (by cases e; rfl))))));have YY:=hid (Y0.out.trans (HD5.out.trans ic))
            have ag6:=hid ((iy YY.out (some m)).trans fZ);have HQ7:=hid (show ∀ Q:Nat->Prop,(∀ i,Q i->i < w.heap.size)->Q m->dE w Q m U->dE w7 Q m (upd U k (some q)) from λQ hQ hQm hU0=>(by
             have h6:dE w6 Q m U:=hU0.turn (aa.none_ YY.out) (YY.out.block m hU0.lt (by simp));obtain ⟨w7',hr',hd',_⟩:=h6.store (k:=k) (p:=q) (v:=v') (hv'.weak (λi _ hi=>ake (hQ i hi) (Y0.out.trans HD5.out).size)) aU.out hQm;have e7:=hrun.symm.trans hr'
             injection e7 with _ e7
             rw [e7];exact hd'))
            clear hv' ic hd7 fZ))
      go_wp2;go_ret;rw [HE2.out];exact ⟨m,rfl,rfl,H7.out.1,ag6.out,λQ h1 h2 h3 U' hU'=>by cases hU'; exact HQ7.out Q h1 h2 h3⟩
 · have hme:MN (k:Int) q=1:=if_neg hok;have lN:=hid (show R0=(1,s) from HE.out.trans (if_pos (by simpa using hok)));rw [hme];clear hme hok HE;go_wp2_with fail;go_ret;rw [lN.out];exact ⟨m,rfl,DL H3.out ZB.out adI.out⟩
theorem Jr (h:bf Z w B b tb g sb dm wm own s) (p:Int) {v:Value} {q:Pg} {U:aK} (hv:rA w (aD own tb g sb dm wm) v q) (hU:s.W=some U) (hp:s.has p=true) :
 Calls Tryz.prog 17 #[.pointer (some ⟨sb,0,none⟩),.int .i64 p,v] w (uX Z w B b tb g sb dm wm own (bQ s p q)):=by
 refine (O0 h p hv hU hp).mono ?_;rintro e w1 ⟨m,rfl,h1,h2,h3,_⟩;exact ⟨h1,own,h2,.aA h3 (λj e=>by cases e; exact .inr (.inr (.inr rfl)))⟩
end
end Go.Proofs.YtinajlbijgedbaaGreat.Sto
namespace Go.Proofs.YtinajlbijgedbaaGreat.Sto
open Go.RowKit Go.Shelf CrcMath CodecMath Mem Crc Codec DiskSpec Dsk Sup Log
section
variable {Z:Nat->Prop} {w w' w1 wr:World} {B b tb g g' sb dm:Nat} {wm:Option Nat} {own own' bV:Nat->Prop} {s:Sto}
end
section
variable {Z:Nat->Prop} {w w' w1 wr:World} {B b tb g g' sb dm:Nat} {wm:Option Nat} {own own' bV:Nat->Prop} {s:Sto}
end
end Go.Proofs.YtinajlbijgedbaaGreat.Sto
namespace Go.Proofs.YtinajlbijgedbaaGreat.Sto
open Lib (hid)
open Go.RowKit Go.Shelf CrcMath CodecMath Mem Crc Codec DiskSpec Dsk Sup Log
def jN (S:St) (a0 a1 a2 a3 a4 a5 a6:Int):Int × St :=
 if (ay S [a0,a1,a2,a3,a4,a5,a6]).1=0 then ay (ay S [a0,a1,a2,a3,a4,a5,a6]).2 [a0+1,a1,a2,a3,a4,a5,a6] else ay S [a0,a1,a2,a3,a4,a5,a6]
section
variable {Z:Nat->Prop} {w w' w1:World} {B b tb:Nat} {own own':Nat->Prop} {S T:St}
theorem Iw (h:dU w B b S own) (hB:B<=w.heap.size):gQ (w.alloc (.cells jW 192)) B b w.heap.size S own :=
 ⟨iA h (aj9 w _ none) (by simp),.inl ⟨_,af.new w 192 jW,SA⟩,λho=>by
  obtain ⟨_,_,_,hd⟩:=h;have:=hd.lt _ ho;omega,by simp; omega⟩
theorem LG {g:Nat} (hg:w.grownBy w1 none) (h:aa w1 w' (fC own tb g) (fC own' tb g)) (ht:w.heap.size<=tb) (ht2:w.heap.size<=g):aa w w' own own' :=
 ⟨h.os.trans hg.os,h.tape.trans hg.tape,h.output.trans hg.output,akh hg.size h.size,λi hi hn=>(h.block i (ake hi hg.size) (λe=>by
  rcases e with (e | e) | e
  · exact hn e
  · omega
  · omega)).trans (hg.block i hi (by simp)),λi hi=>by
  rcases h.fresh i (.inl (.inl hi)) with ((h1 | h1) | h1) | h1
  · exact .inl h1
  · exact .inr (by omega)
  · exact .inr (by omega)
  · exact .inr (akh hg.size h1)⟩
theorem zU (S:St) (a0 a1 a2 a3 a4 a5 a6:Int) (i:Nat):((ay S [a0,a1,a2,a3,a4,a5,a6]).2.ae i).length<=(S.ae i).length+1:=by
 unfold ay
 split
 · have h:=Log.oQ S true ((gen [a0,a1,a2,a3,a4,a5,a6]).tmod 2) (frame (aX [a0,a1,a2,a3,a4,a5,a6])) i;rw [cz _ (by rw [mr _ rfl]; omega)] at h;exact h
 · exact Nat.le_succ _
theorem YI (h:dU w B b S own) (hB:B<=w.heap.size) (a0 a1 a2 a3 a4 a5 a6:Int) (hroom:∀ i,(S.ae i).length < 549755813000) :
 Calls Tryz.prog 52 #[.pointer (some ⟨b,0,none⟩),.agg #[.int .i64 a0,.int .i64 a1,.int .i64 a2,.int .i64 a3,.int .i64 a4,.int .i64 a5,.int .i64 a6]] w λe w'=>e=.returned (.int .i64 (jN S a0 a1 a2 a3 a4 a5 a6).1) /\
  ∃ own',dU w' B b (jN S a0 a1 a2 a3 a4 a5 a6).2 own'/\aa w w' own own':=by
 have hga:=aj9 w (.cells #[.int .i64 a0,.int .i64 a1,.int .i64 a2,.int .i64 a3,.int .i64 a4,.int .i64 a5,.int .i64 a6] 49) none;have h1:=iA h hga (by simp);have hbx:=af.new w 49 #[.int .i64 a0,.int .i64 a1,.int .i64 a2,.int .i64 a3,.int .i64 a4,.int .i64 a5,.int .i64 a6];have bK:=hid (show ∀ i,own i->i < w.heap.size from λi hi=>by obtain ⟨_,_,_,hd⟩:=h; exact hd.lt i hi);have KA:=hid (Iw h1 (akh hB hga.size))
 have hgt:=aj9 (w.alloc (.cells #[.int .i64 a0,.int .i64 a1,.int .i64 a2,.int .i64 a3,.int .i64 a4,.int .i64 a5,.int .i64 a6] 49)) (.cells jW 192) none;have az:=hid (hga.trans hgt);have HB1:=hid (hbx.grown hgt (by simp));have zF:=hid hga.size;have hs0:(w.alloc (.cells #[.int .i64 a0,.int .i64 a1,.int .i64 a2,.int .i64 a3,.int .i64 a4,.int .i64 a5,.int .i64 a6] 49)).heap.size=w.heap.size+1:=by simp
 have bB:=hid hroom;have fw:=hid (L9 KA.out a0 a1 a2 a3 a4 a5 a6 (λi=>by have:=hroom i; omega));rw [hs0] at KA zF fw;obtain ⟨R0,hR0⟩:∃ r,jN S a0 a1 a2 a3 a4 a5 a6=r:=⟨_,rfl⟩;have HE:=hid (show R0=if (ay S [a0,a1,a2,a3,a4,a5,a6]).1=0 then ay (ay S [a0,a1,a2,a3,a4,a5,a6]).2 [a0+1,a1,a2,a3,a4,a5,a6] else ay S [a0,a1,a2,a3,a4,a5,a6] from hR0.symm);rw [hR0];have gX:=hid (λ(e:(ay S [a0,a1,a2,a3,a4,a5,a6]).1=0)=>aV (iR (xZ e)) 0 (by simp))
 have agJ:=hid (λi=>zU S a0 a1 a2 a3 a4 a5 a6 i);clear hR0;generalize ay S [a0,a1,a2,a3,a4,a5,a6]=R1 at *;obtain ⟨er,T⟩:=R1
 dsimp only at *
 have x0:=HB1.out.cell 0; have x1:=HB1.out.cell 1; have x2:=HB1.out.cell 2; have x3:=HB1.out.cell 3; have x4:=HB1.out.cell 4; have x5:=HB1.out.cell 5; have x6:=HB1.out.cell 6;simp only [akb,aka,akc] at x0 x1 x2 x3 x4 x5 x6;clear hga h1 hbx hgt h hroom hs0;go_enter Tryz.func52,Tryz.ntmps52;go_wp2_with fail;refine (IM _).mono ?_;rintro e w1 ⟨rfl,rfl⟩
 go_wp2_with fail;refine fw.out.mono ?_;rintro e w2 ⟨rfl,bV,hs2,ht2⟩;have HS2:=hid hs2;have HT2:=hid (nR ht2 w.heap.size);have vS:=hid (show ¬ With bV (w.heap.size+1) w.heap.size from λho=>by
  rcases ht2.fresh w.heap.size ho with (h1 | h1) | h1
  · have:=bK.out _ h1; omega
  · omega
  · have:=HB1.out.lt; omega)
 have HB2:=hid (aj HB1.out (ht2.block w.heap.size HB1.out.lt (λho=>by
  rcases ho with h1 | h1
  · have:=bK.out _ h1; omega
  · omega)))
 clear hs2 ht2 fw x0 x1 x2 x3 x4 x5 x6
 by_cases he:er=0
 · subst he;have HE2:=hid (show R0=ay T [a0+1,a1,a2,a3,a4,a5,a6] from HE.out.trans (if_pos rfl));have hmx:=gX.out rfl;have x0:=HB2.out.cell 0; have x1:=HB2.out.cell 1; have x2:=HB2.out.cell 2; have x3:=HB2.out.cell 3; have x4:=HB2.out.cell 4; have x5:=HB2.out.cell 5; have x6:=HB2.out.cell 6; have f0:=HB2.out.frozen 0;simp only [akb,aka,akc] at x0 x1 x2 x3 x4 x5 x6
   simp at hmx
   have hw1:IntKind.i64.wrap (a0+1)=a0+1:=IntWalk.i64_in _ (by omega);have hg3:=akd (akr w2 (some w.heap.size)) 0 (.int .i64 (a0+1));have uZ:=hid (show gQ (w2.setCell ⟨w.heap.size,0,none⟩ (.int .i64 (a0+1))) B b (w.heap.size+1) T bV from
    ⟨iA HS2.out.d hg3 (λj e ho=>by cases e; exact vS.out (.inl ho)),kZ HS2.out.t hg3 (by simp),HS2.out.n,akh HS2.out.s hg3.size⟩)
   have fw:=hid (L9 uZ.out (a0+1) a1 a2 a3 a4 a5 a6 (λi=>by have h1:=agJ.out i; have h2:=bB.out i; omega));have HT3:=hid (HT2.out.trans (yL hg3));have j5:=hid HE2.out;clear hg3 HE gX;go_wp2_with fail;refine fw.out.mono ?_;rintro e w4 ⟨rfl,iE,hs4,jF⟩;have zH:=hid hs4;have sK:=hid (HT3.out.trans (nR jF w.heap.size));clear hs4 jF fw x0 x1 x2 x3 x4 x5 x6 f0;go_wp2_with fail;go_ret;rw [HE2.out];exact ⟨rfl,iE,zH.out.d,LG az.out sK.out (by omega) (akf _)⟩
 · have qZ:(er == 0)=false:=by simpa using he
   have HE2:=hid (HE.out.trans (if_neg he));clear HE he;go_wp2_with fail;go_ret;rw [HE2.out];exact ⟨rfl,bV,HS2.out.d,LG az.out HT2.out (by omega) (akf _)⟩
end
end Go.Proofs.YtinajlbijgedbaaGreat.Sto
namespace Go.Proofs.YtinajlbijgedbaaGreat.Sto
open Lib (hid)
open Go.RowKit Go.Maps Go.Shelf CrcMath CodecMath Mem Crc Codec DiskSpec Dsk Sup Log
theorem Ua (x:Sb):nG x.l=.agg #[.int .i64 (x.gn:Nat),.int .i64 (x.ep:Nat),.int .i64 (x.pg:Nat),.int .i64 (x.st:Nat),.int .i64 (x.ln:Nat),.int .i64 (x.hd:Nat),.int .i64 (x.sq:Nat)]:=rfl
def QN (Z:Nat->Prop) (w:World) (B b:Nat) (own:Nat->Prop) (s:Sto) (e:Ending) (w':World):Prop :=
 ∃ tb gl sb dm,e=.returned (.tuple #[.pointer (some ⟨sb,0,none⟩),.int .i64 0])/\aS Z (.pointer none) w' B b tb gl sb dm none own s/\aa w w' own (aD own tb gl sb dm none)
section
variable {Z:Nat->Prop} {w w' w1:World} {B b:Nat} {own:Nat->Prop}
theorem Vb {wa wl wm:World} {tb gl q:Nat} {N:Nat} {ag:Nat->List Nat} {x:Sb} {M:Lg} {D:aK} (hown:∀ i,own i->i < w.heap.size) (hB:B<=w.heap.size) (h1:w.heap.size<=tb) (h2:tb < wa.heap.size) (h3:wa.heap.size<=gl)
 (hw1:w.heap.size<=wa.heap.size) (hl:gG wl B b tb gl (plain N ag) own M) (hr:Ready wl tb) (ht:aa w wl own own) (hg:wl.grownBy wm none) (hq:wl.heap.size<=q)
 (hd:dE wm (From (λi=>i < wa.heap.size\/i=gl) q) q D) (bu:aL x.l (N:Int)=true) (hz:∀ i,Z i->i < w.heap.size) :
 aS Z (.pointer none) (wm.alloc (.cells (pW b tb (.pointer none) q none x) 102)) B b tb gl wm.heap.size q none own ⟨plain N ag,M,x,D,none⟩ /\
  aa w (wm.alloc (.cells (pW b tb (.pointer none) q none x) 102)) own (aD own tb gl wm.heap.size q none):=by
 have hga:=aj9 wm (.cells (pW b tb (.pointer none) q none x) 102) none;have hs1:=hg.size;have hs2:=hga.size;have hgl:=hl.l.lt;have Vr:=hd.lt;have hws:=ht.size;have yh:∀ i,own i->i < wa.heap.size:=λi hi=>ake (hown i hi) hw1
 refine ⟨⟨(hl.quiet hg).quiet hga,(hr.keep hg (by simp)).keep hga (by simp),af.new wm 102 _,?_,λU hU=>(by cases hU),λ_=>rfl,bu,?_,⟨?_,by omega⟩,λm e=>(by cases e),⟨by omega,by omega,by omega,by omega,λm e=>(by cases e)⟩,λi hi=>(by have:=hz i hi; omega)⟩,?_⟩
 · refine (hd.weak (λi hi hf=>?_)).turn (aa.none_ hga) (hga.block q Vr (by simp));rcases hf with (((hf | hf) | hf) | hf | hf | hf) | hf
   · exact .inl (.inl (yh i hf))
   · exact .inl (.inl (by omega))
   · exact .inl (.inr hf)
   · omega
   · exact .inr (by omega)
   · cases hf
   · exact .inl (.inl (by have:=hz i hf; omega))
 · rintro ((hf | hf) | hf)
   · have:=yh _ hf; omega
   · omega
   · omega
 · rintro ((hf | hf) | hf)
   · have:=yh _ hf; omega
   · omega
   · omega
 · have ht2:aa w (wm.alloc (.cells (pW b tb (.pointer none) q none x) 102)) own own:=(ht.trans (aa.none_ hg)).trans (aa.none_ hga);refine ⟨ht2.os,ht2.tape,ht2.output,ht2.size,ht2.block,λi hi=>?_⟩;rcases hi with ((hf | hf) | hf) | hf | hf | hf
   · exact .inl hf
   · exact .inr (by omega)
   · exact .inr (by omega)
   · exact .inr (by omega)
   · exact .inr (by omega)
   · cases hf
theorem BG {N:Nat} {ag:Nat->List Nat} (h:dU w B b (plain N ag) own) (hB:B<=w.heap.size) (x:Sb) (eu:gI N ag=some x.l) (bu:aL x.l (N:Int)=true) (hgn:x.gn < 1099511627776) (fG:x.ep < 1099511627776) (hz:∀ i,Z i->i < w.heap.size) :
 Calls Tryz.prog 53 #[.pointer (some ⟨b,0,none⟩)] w (QN Z w B b own ⟨plain N ag,(bF (plain N ag) x.log.ln x.log).2,x,aG (bF (plain N ag) x.log.ln x.log).1,none⟩):=by
 have hok:=Af (plain N ag) x.log.ln x.log;have hlen:(bF (plain N ag) x.log.ln x.log).1.length<=1099511627776:=by
  have h1:=Ag (plain N ag) x.log.ln x.log;have h2:=(aV (iR bu) 4 (by simp [Sb.l])).2
  simp [Sb.l] at h2
  have h3:x.log.ln=x.ln:=rfl;omega
 have hown:∀ i,own i->i < w.heap.size:=λi hi=>by obtain ⟨_,_,_,hd⟩:=h; exact hd.lt i hi
 have hn2:2<=N:=by have:=Gy rfl bu; omega
 have hs1:=Iw h hB;have hld:=MW hs1;rw [(kK hn2).1,(kK hn2).2,uw hn2,eu] at hld;simp only [Option.isSome_some,if_true,Option.getD_some,Ua] at hld;have dO:=hid hld;have HOWN:=hid hown;have HZZ:=hid hz;have Nr:=aj9 w (.cells jW 192) none;have uj:=hid Nr;have hgb:((x.gn:Int) == 1099511627776)=false:=by simp; omega
 have qZ:((x.ep:Int) == 1099511627776)=false:=by simp; omega
 have hsz0:(w.alloc (.cells jW 192)).heap.size=w.heap.size+1:=by simp
 have gX:=hid bu;have nJ:=hid (IM w);clear hs1 hld h hown eu Nr hz;generalize w.alloc (.cells jW 192)=wz at *;go_enter Tryz.func53,Tryz.ntmps53;go_wp2_with fail;refine nJ.out.mono ?_;rintro e w1 ⟨rfl,rfl⟩;clear nJ;go_wp2_with fail;refine dO.out.mono ?_;rintro e w2 ⟨rfl,hs2,ht2,hr2⟩;have hsz2:=ht2.size;have tV:=aj9 w2 (.cells #[.int .i64 (x.gn:Nat),.int .i64 (x.ep:Nat),.int .i64 (x.pg:Nat),.int .i64 (x.st:Nat),.int .i64 (x.ln:Nat),.int .i64 (x.hd:Nat),.int .i64 (x.sq:Nat)] 49) none
 have hop:=MU (hs2.quiet tV) ((hr2 trivial).keep tV (by simp)) rfl (x.gn:Nat) (x.pg:Nat) x.ep x.st x.ln x.hd x.sq bu;unfold Ff at hop;have Bi:=hid hop;have hbn:=af.new w2 49 #[.int .i64 (x.gn:Nat),.int .i64 (x.ep:Nat),.int .i64 (x.pg:Nat),.int .i64 (x.st:Nat),.int .i64 (x.ln:Nat),.int .i64 (x.hd:Nat),.int .i64 (x.sq:Nat)];have nP:=hid hbn;have x0:=hbn.cell 0; have x1:=hbn.cell 1; have x2:=hbn.cell 2; have x3:=hbn.cell 3; have x4:=hbn.cell 4; have x5:=hbn.cell 5; have x6:=hbn.cell 6
 simp only [akb,aka,akc] at x0 x1 x2 x3 x4 x5 x6;have HT2:=hid (show aa w (w2.alloc (.cells #[.int .i64 (x.gn:Nat),.int .i64 (x.ep:Nat),.int .i64 (x.pg:Nat),.int .i64 (x.st:Nat),.int .i64 (x.ln:Nat),.int .i64 (x.hd:Nat),.int .i64 (x.sq:Nat)] 49)) own own from by
  refine aa.trans ⟨ht2.os.trans uj.out.os,ht2.tape.trans uj.out.tape,ht2.output.trans uj.out.output,akh uj.out.size ht2.size,λi hi hn=>?_,λi hi=>.inl hi⟩ (aa.none_ tV);exact (ht2.block i (ake hi uj.out.size) (λe=>by
   rcases e with e | e
   · exact hn e
   · omega)).trans (uj.out.block i hi (by simp)))
 have bD:=hid (show ¬ own w2.heap.size from λe=>by have:=HOWN.out _ e; omega);have gV:=hid (show (w2.alloc (.cells #[.int .i64 (x.gn:Nat),.int .i64 (x.ep:Nat),.int .i64 (x.pg:Nat),.int .i64 (x.st:Nat),.int .i64 (x.ln:Nat),.int .i64 (x.hd:Nat),.int .i64 (x.sq:Nat)] 49)).heap.size=w2.heap.size+1 from by simp);clear hs2 ht2 hr2 hop tV hbn dO;go_wp2_with fail;refine Bi.out.mono ?_;rintro e w3 ⟨gl,A,n,c,rfl,hnc,hgl,hl3,hr3,IY,ht3⟩
 have HB3:=hid (aj nP.out (ht3.block w2.heap.size nP.out.lt bD.out));have HT3:=hid (HT2.out.trans ht3);have kX:=hid hl3; have HR3:=hid hr3; have Oq:=hid IY; have HGL:=hid hgl;clear hl3 hr3 IY ht3 Bi x0 x1 x2 x3 x4 x5 x6 nP hgl HT2;have x0:=HB3.out.cell 0; have x1:=HB3.out.cell 1;simp only [akb,aka,akc] at x0 x1;go_wp2_with fail;clear x0 x1;generalize yh:w2.alloc (.cells #[.int .i64 (x.gn:Nat),.int .i64 (x.ep:Nat),.int .i64 (x.pg:Nat),.int .i64 (x.st:Nat),.int .i64 (x.ln:Nat),.int .i64 (x.hd:Nat),.int .i64 (x.sq:Nat)] 49)=wa at *
 have HD3:=hid (ah w3 none);have jJ:=hid (HB3.out.grown HD3.out (by simp));have hnl:n<=1099511627776:=by have:=Oq.out.len; have h2:(bF (plain N ag) x.log.ln x.log).1.length=n:=this; omega
 have bK:=hid (Pz (c:=c) (Oq.out.turn (aa.none_ HD3.out)) hnl hok);have av:=hid (show ∀ wx,af wx w2.heap.size 49 #[.int .i64 (x.gn:Nat),.int .i64 (x.ep:Nat),.int .i64 (x.pg:Nat),.int .i64 (x.st:Nat),.int .i64 (x.ln:Nat),.int .i64 (x.hd:Nat),.int .i64 (x.sq:Nat)]->wx.cell? ⟨w2.heap.size,0,none⟩=some (.int .i64 (x.gn:Nat))/\wx.cell? ⟨w2.heap.size,1,none⟩=some (.int .i64 (x.ep:Nat))/\wx.cell? ⟨w2.heap.size,2,none⟩=some (.int .i64 (x.pg:Nat))/\wx.cell? ⟨w2.heap.size,3,none⟩=some (.int .i64 (x.st:Nat))/\wx.cell? ⟨w2.heap.size,4,none⟩=some (.int .i64 (x.ln:Nat))/\wx.cell? ⟨w2.heap.size,5,none⟩=some (.int .i64 (x.hd:Nat))/\wx.cell? ⟨w2.heap.size,6,none⟩=some (.int .i64 (x.sq:Nat)) from λwx hb=>⟨by rw [hb.cell]; rfl,by rw [hb.cell]; rfl,by rw [hb.cell]; rfl,by rw [hb.cell]; rfl,by rw [hb.cell]; rfl,by rw [hb.cell]; rfl,by rw [hb.cell]; rfl⟩)
 clear HB3
 go_region_held3 (λwx=>wx.cell? ⟨w2.heap.size,0,none⟩=some (.int .i64 (x.gn:Nat))/\wx.cell? ⟨w2.heap.size,1,none⟩=some (.int .i64 (x.ep:Nat))/\wx.cell? ⟨w2.heap.size,2,none⟩=some (.int .i64 (x.pg:Nat))/\wx.cell? ⟨w2.heap.size,3,none⟩=some (.int .i64 (x.st:Nat))/\wx.cell? ⟨w2.heap.size,4,none⟩=some (.int .i64 (x.ln:Nat))/\wx.cell? ⟨w2.heap.size,5,none⟩=some (.int .i64 (x.hd:Nat))/\wx.cell? ⟨w2.heap.size,6,none⟩=some (.int .i64 (x.sq:Nat)))
  (first
    | exact av.out _ jJ.out
    | exact av.out _ gF.out
    | exact av.out _ kY.out)
  (first
    | (go_at_call 99
       (with_reducible refine bK.out.mono ?_)
       rintro e w5 ⟨rfl,si,hg5⟩;have OA:=hid si;have fP:=hid (HD3.out.trans hg5);have gF:=hid (jJ.out.grown hg5 (by simp));have kY:=hid (gF.out.grown (aj9 w5 (.cells (pW b w.heap.size (.pointer none) w3.drew.heap.size none x) 102) none) (by simp));clear si hg5))
 go_wp2;go_ret2;have hm:dE w5 (From (λi=>i < wa.heap.size\/i=gl) w3.heap.size) w3.heap.size (aG (bF (plain N ag) x.log.ln x.log).1):=OA.out;have h9:=Vb (w:=w) (q:=w3.heap.size) HOWN.out hB (akf _) (by have:=gV.out; omega) HGL.out (by have:=gV.out; omega) kX.out HR3.out HT3.out fP.out (akf _) hm gX.out HZZ.out;exact ⟨w.heap.size,gl,w5.heap.size,w3.heap.size,rfl,h9.1,h9.2⟩
theorem Xg {N:Nat} {ag:Nat->List Nat} (h:dU w B b (plain N ag) own) (hB:B<=w.heap.size) (x:Sb) (eu:gI N ag=some x.l) (bu:aL x.l (N:Int)=true) (hgn:x.gn < 1099511627776) (fG:x.ep < 1099511627776) (_:x.sq<=1099511000000)
 (_:(bF (plain N ag) x.log.ln x.log).1.length<=1099511627776) (_:∀ r∈(bF (plain N ag) x.log.ln x.log).1,r.2.length<=40/\∀ y∈r.2,bU y=true) (hz:∀ i,Z i->i < w.heap.size) :
 Calls Tryz.prog 53 #[.pointer (some ⟨b,0,none⟩)] w (QN Z w B b own ⟨plain N ag,(bF (plain N ag) x.log.ln x.log).2,x,aG (bF (plain N ag) x.log.ln x.log).1,none⟩) :=
 BG h hB x eu bu hgn fG hz
end
theorem UZ (x:Sb):[((x.gn:Nat):Int)+1,((x.ep:Nat):Int)+1,((x.pg:Nat):Int),((x.st:Nat):Int),((x.ln:Nat):Int),0,1]=x.next.l:=by simp [Sb.l,Sb.next]
def FO (Z:Nat->Prop) (w:World) (B b:Nat) (own:Nat->Prop) (s:Sto) (e:Ending) (w':World):Prop :=
 ∃ tb g sb dm own',e=.returned (.tuple #[.pointer (some ⟨sb,0,none⟩),.int .i64 0])/\bf Z w' B b tb g sb dm none own' s/\aa w w' own (aD own' tb g sb dm none)
abbrev aaU:=FO (λ_=>False)
section
variable {Z:Nat->Prop} {w w' w1:World} {B b:Nat} {own:Nat->Prop}
theorem Rh {N:Nat} {ag:Nat->List Nat} (h:dU w B b (plain N ag) own) (hB:B<=w.heap.size) (x:Sb) (eu:gI N ag=some x.l) (bu:aL x.l (N:Int)=true) (hgn:x.gn < 1099511627776) (fG:x.ep < 1099511627776) (mf:x.sq<=1099511000000)
 {R:List Rec} {M:Lg} (hR:bF (plain N ag) x.log.ln x.log=(R,M)) (hlen:R.length<=1099511627776) (hok:∀ r∈R,r.2.length<=40/\∀ y∈r.2,bU y=true) {S2 S3:St} (hbr:bn (plain N ag) (aG R)=(0,S2)) (hsv:ay S2 x.next.l=(0,S3)) (hz:∀ i,Z i->i < w.heap.size) :
 Calls Tryz.prog 15 #[.pointer (some ⟨b,0,none⟩)] w (FO Z w B b own ⟨S3,x.next.log,x.next,aM,none⟩):=by
 have hld:=Xg h hB x eu bu hgn fG mf (by rw [hR]; exact hlen) (by rw [hR]; exact hok) hz;rw [hR] at hld;have dO:=hid hld;have ig:=hid hbr;have fw:=hid hsv;have yF:=hid (show x.gn<=1099511627776/\x.ep<=1099511627776 from ⟨by omega,by omega⟩);clear hld h hB eu bu hgn fG mf hR hlen hok hbr hsv hz;go_enter Tryz.func15,Tryz.ntmps15;go_wp2_with fail;refine dO.out.mono ?_;rintro e w1 ⟨tb,gl,sb,dm,rfl,h1,ht1⟩
 have hb:=BH h1 (λi=>by show ([]:List (List Nat)).length < _; simp);unfold xU at hb
 dsimp only at hb
 have HPD:=hid h1.d.ok;rw [ig.out] at hb;have HB:=hid hb;have HT1:=hid ht1;clear h1 ht1 hb dO;go_wp2_with fail;refine HB.out.mono ?_;rintro e w2 ⟨rfl,bV,h2,ht2⟩;have HT2:=hid (HT1.out.trans ht2);obtain ⟨_,_,c2,c3,c4,c5,c6,c7,c8,_,_,_⟩:=h2.cells;have c2':w2.cell? ⟨sb,2,none⟩=some (.int .i64 (x.gn:Nat)):=c2;have c3':w2.cell? ⟨sb,3,none⟩=some (.int .i64 (x.ep:Nat)):=c3;have c4':w2.cell? ⟨sb,4,none⟩=some (.int .i64 (x.pg:Nat)):=c4
 have c5':w2.cell? ⟨sb,5,none⟩=some (.int .i64 (x.st:Nat)):=c5;have c6':w2.cell? ⟨sb,6,none⟩=some (.int .i64 (x.ln:Nat)):=c6;have Zw:w2.cell? ⟨sb,7,none⟩=some (.int .i64 (x.hd:Nat)):=c7;have Wq:w2.cell? ⟨sb,8,none⟩=some (.int .i64 (x.sq:Nat)):=c8;have H2:=hid h2;have KC:=hid (vE x yF.out.1 yF.out.2 w2);clear h2 ht2 HB HT1 c2 c3 c4 c5 c6 c7 c8;go_wp2_with fail;refine KC.out.mono ?_;rintro e w3 ⟨rfl,hg3⟩
 have hv2:=ql (S:=plain N ag) HPD.out;rw [ig.out] at hv2;have hrt:=yM (H2.out.quiet hg3) (((x.gn:Nat):Int)+1) (((x.ep:Nat):Int)+1) ((x.pg:Nat):Int) ((x.st:Nat):Int) ((x.ln:Nat):Int) 0 1 (λi=>by
  have h9:=hv2 i;have h8:((plain N ag).ae i).length=0:=rfl;show (S2.ae i).length < _;have h7:(S2.ae i).length<=((plain N ag).ae i).length+1024:=h9;omega)
 unfold mP at hrt;rw [UZ] at hrt;have hsd:(Sto.disk (⟨plain N ag,M,x,aG R,none⟩:Sto) S2).S=S2:=rfl;rw [show (Sto.disk (⟨plain N ag,M,x,aG R,none⟩:Sto) (0,S2).2).S=S2 from rfl,fw.out] at hrt;have Om:=hid hrt;have HT3:=hid (HT2.out.trans (aa.none_ hg3));clear hrt hv2 hg3 KC c2' c3' c4' c5' c6' Zw Wq H2 HT2;go_wp2_with fail;refine Om.out.mono ?_;rintro e w4 ⟨rfl,iE,g4,jF,h4⟩;rcases h4 with ⟨_,x',hx',h4⟩ | ⟨hne,_⟩
 · have Bb:=Sb.Li hx';subst Bb;obtain ⟨_,_,_,_,_,_,_,_,_,_,z10,_⟩:=h4.cells;obtain ⟨w7,hrun,hd7,fZ⟩:=h4.d.clear 0;have h7:=h4.cleared fZ hd7;have H7:=hid h7;have sK:=hid (HT3.out.trans jF);clear h4 h7 hd7 fZ jF hx';go_wp2_with fail;go_ret2;exact ⟨tb,g4,sb,dm,iE,rfl,H7.out.1,sK.out.trans H7.out.2⟩
 · exact absurd rfl hne
theorem Xf {N:Nat} {ag:Nat->List Nat} (h:dU w B b (plain N ag) own) (hB:B<=w.heap.size) (x:Sb) (eu:gI N ag=some x.l) (bu:aL x.l (N:Int)=true) (hgn:x.gn < 1099511627776) (fG:x.ep < 1099511627776) (mf:x.sq<=1099511000000)
 {R:List Rec} {M:Lg} (hR:bF (plain N ag) x.log.ln x.log=(R,M)) (hlen:R.length<=1099511627776) (hok:∀ r∈R,r.2.length<=40/\∀ y∈r.2,bU y=true) {S2 S3:St} (hbr:bn (plain N ag) (aG R)=(0,S2)) (hsv:ay S2 x.next.l=(0,S3)) :
 Calls Tryz.prog 15 #[.pointer (some ⟨b,0,none⟩)] w (aaU w B b own ⟨S3,x.next.log,x.next,aM,none⟩) :=
 Rh h hB x eu bu hgn fG mf hR hlen hok hbr hsv (λ_ e=>e.elim)
end
end Go.Proofs.YtinajlbijgedbaaGreat.Sto
namespace Go.Proofs.YtinajlbijgedbaaGreat.Sto
open Go.RowKit Go.Shelf CrcMath CodecMath Mem Crc Codec DiskSpec Dsk Sup Log
def iw:List Nat:=List.replicate 256 0
def bM:Nat->St->Int × St
 | 0,S=>(0,S)
 | n+1,S=>if (bM n S).1=0 then aF (bM n S).2 false (2+(n:Int)) iw else bM n S
def nE (S:St) (pg st ln:Int):Int × St:=if (aR S).1=0 then jN (aR S).2 1 1 pg st ln 0 1 else aR S
def iT (S:St) (pg st ln:Int):Int × St :=
 if aL [1,1,pg,st,ln,0,1] (S.n:Nat) then (if (bM pg.toNat S).1=0 then nE (bM pg.toNat S).2 pg st ln else bM pg.toNat S) else (1,S)
theorem TP (S:St):∀ n,(bM n S).2.n=S.n
 | 0=>rfl
 | n+1=>by
   rw [bM]
   split
   · rw [uJ]; exact TP S n
   · exact TP S n
theorem E9 (S:St) (i:Nat):∀ n,((bM n S).2.ae i).length<=(S.ae i).length+n
 | 0=>akf _
 | n+1=>by
   have h1:=E9 S i n;have h2:=uk (bM n S).2 false (2+(n:Int)) (l:=iw) List.length_replicate i;rw [bM]
   split
   · omega
   · omega
theorem Bw {S:St} {n:Nat} (h:(bM n S).1≠0):∀ m,n<=m->bM m S=bM n S
 | 0,hm=>by have:n=0:=by omega
            subst this; rfl
 | m+1,hm=>by
   by_cases e:n=m+1
   · rw [e]
   · have h1:=Bw h m (by omega);rw [bM,h1,if_neg h]
section
variable {w w' w1:World} {B b tb:Nat} {own own':Nat->Prop} {S T:St}
theorem wR (h:dU w B b S own):Calls Tryz.prog 48 #[.pointer (some ⟨b,0,none⟩)] w λe w'=>e=.returned (.int .i64 (S.n:Nat))/\w=w':=by
 obtain ⟨_,_,_,hd⟩:=h;exact Cz hd
end
end Go.Proofs.YtinajlbijgedbaaGreat.Sto
namespace Go.Proofs.YtinajlbijgedbaaGreat.Sto
open Lib (hid)
open Go.RowKit Go.Shelf CrcMath CodecMath Mem Crc Codec DiskSpec Dsk Sup Log
theorem MO (w:World):(Instr.makeSlice 65 (.int .i64 256) (.int .i64 256)).run Tryz.prog w=.ok (.slice (some ⟨w.heap.size,0,none⟩) 256 256) (w.alloc (.cells (Array.replicate 256 (.int .u8 0)) 5)):=by kernel_rfl
theorem Cg:(Array.replicate 256 (Value.int .u8 0))=(au iw).toArray:=by
 unfold iw au;rw [List.map_replicate]
 apply Array.ext'
 simp
section
variable {w w' w1:World} {B b tb:Nat} {own own':Nat->Prop} {S T:St}
theorem GV (h:dU w B b S own) (hB:B<=w.heap.size) (pg st ln:Int) (hm:aL [1,1,pg,st,ln,0,1] (S.n:Nat)=true) (hroom:∀ i,(S.ae i).length < 549755800000) :
 Calls Tryz.prog 14 #[.pointer (some ⟨b,0,none⟩),.int .i64 pg,.int .i64 st,.int .i64 ln] w λe w'=>e=.returned (.int .i64 (iT S pg st ln).1)/\∃ own',dU w' B b (iT S pg st ln).2 own'/\aa w w' own own':=by
 have hga:=aj9 w (.cells #[.int .i64 1,.int .i64 1,.int .i64 pg,.int .i64 st,.int .i64 ln,.int .i64 0,.int .i64 1] 49) none;have gM:=hid hga;have hbk:=af.new w 49 #[.int .i64 1,.int .i64 1,.int .i64 pg,.int .i64 st,.int .i64 ln,.int .i64 0,.int .i64 1];have fD:=hid hbk;have HDR:=hid (ah (w.alloc (.cells #[.int .i64 1,.int .i64 1,.int .i64 pg,.int .i64 st,.int .i64 ln,.int .i64 0,.int .i64 1] 49)) none)
 have HD1:=hid (iA h (hga.trans HDR.out) (by simp));have gV:=hid (wR HD1.out);have fM:=hid (λwx=>uW 1 1 pg st ln 0 1 (S.n:Int) wx);have hmk:=MO;rw [Cg] at hmk;have bD:=hid (show ∀ i,own i->i < w.heap.size from λi hi=>by obtain ⟨_,_,_,hd⟩:=h; exact hd.lt i hi);have hck:dY [1,1,pg,st,ln,0,1] (S.n:Int)=if aL [1,1,pg,st,ln,0,1] S.n then 0 else 1:=rfl;have hkeep:∀ wx,(w.alloc (.cells #[.int .i64 1,.int .i64 1,.int .i64 pg,.int .i64 st,.int .i64 ln,.int .i64 0,.int .i64 1] 49)).grownBy wx none->wx.cell? ⟨w.heap.size,0,none⟩=some (.int .i64 1)/\wx.cell? ⟨w.heap.size,1,none⟩=some (.int .i64 1)/\wx.cell? ⟨w.heap.size,2,none⟩=some (.int .i64 pg)/\wx.cell? ⟨w.heap.size,3,none⟩=some (.int .i64 st)/\wx.cell? ⟨w.heap.size,4,none⟩=some (.int .i64 ln)/\wx.cell? ⟨w.heap.size,5,none⟩=some (.int .i64 0)/\wx.cell? ⟨w.heap.size,6,none⟩=some (.int .i64 1):=λwx hg=>by
  have hb:=hbk.grown hg (by simp);exact ⟨by rw [hb.cell]; rfl,by rw [hb.cell]; rfl,by rw [hb.cell]; rfl,by rw [hb.cell]; rfl,by rw [hb.cell]; rfl,by rw [hb.cell]; rfl,by rw [hb.cell]; rfl⟩
 have av:=hid hkeep;obtain ⟨R0,hR0⟩:∃ r,iT S pg st ln=r:=⟨_,rfl⟩;rw [hR0];unfold iT at hR0;have HE:=hid hR0.symm;clear hR0 hga hbk h hkeep;have jG:16<=pg/\pg<=1024:=by
  have hr:jg [1,1,pg,st,ln,0,1] (S.n:Nat)=true:=by
   unfold aL at hm;rw [Bool.and_eq_true] at hm;exact hm.2
  simp [jg] at hr
  omega
 obtain ⟨N,hN⟩:∃ N:Nat,pg=(N:Int):=⟨pg.toNat,by omega⟩;rw [show pg.toNat=N by omega] at HE;have HN:=hid hN;have vS:=hid (show N<=1024 by omega);have pU:=hid hB;have bB:=hid hroom;have gX:=hid hm;clear hroom hN jG;rw [hm] at hck HE;rw [hck] at fM;clear hck hm;generalize hn:(S.n:Int)=n at *;go_enter Tryz.func14,Tryz.ntmps14;go_wp2_with fail
 go_region_held3 (λwx=>wx.cell? ⟨w.heap.size,0,none⟩=some (.int .i64 1)/\wx.cell? ⟨w.heap.size,1,none⟩=some (.int .i64 1)/\wx.cell? ⟨w.heap.size,2,none⟩=some (.int .i64 pg)/\wx.cell? ⟨w.heap.size,3,none⟩=some (.int .i64 st)/\wx.cell? ⟨w.heap.size,4,none⟩=some (.int .i64 ln)/\wx.cell? ⟨w.heap.size,5,none⟩=some (.int .i64 0)/\wx.cell? ⟨w.heap.size,6,none⟩=some (.int .i64 1))
  (first
    | exact av.out _ HDR.out
    | exact av.out _ HG2.out)
  (first
    | (go_at_call 48
       refine gV.out.mono ?_;rintro e w1 ⟨rfl,rfl⟩)
    | (go_at_call 47
       refine (fM.out _).mono ?_;rintro e w2 ⟨rfl,hg⟩;have HG2:=hid (HDR.out.trans hg);have HD2:=hid (iA HD1.out hg (by simp));clear hg))
 have lN:=hid (show R0=(if (bM N S).1=0 then nE (bM N S).2 pg st ln else bM N S) from HE.out.trans (if_pos (by simp)));have HB2:=hid (fD.out.grown HG2.out (by simp));have H0:=hid (show dU w2 B b (bM 0 S).2 own/\aa w2 w2 own own/\(bM 0 S).1=0 from ⟨HD2.out,aa.refl _ _,rfl⟩);clear HE HD1 gV fM av HDR;go_wp2_with fail
 go_loopw [10,11,27] (λ_ _ i wr=>∃ j:Nat,j<=N/\i=.int .i64 j/\∃ own',dU wr B b (bM j S).2 own'/\aa w2 wr own own'/\(bM j S).1=0) (λ_ _ i _=>N - (Go.RowKit.intOf i).toNat)
 case atStart=>exact ⟨0,aks _,rfl,own,H0.out⟩
 case round =>
  clear H0;obtain ⟨j,hj,rfl,own',hd,ht,he⟩:=hrel;have HD:=hid hd; have HT:=hid ht; have aU:=hid he;clear hd ht he;have hsz2:=HG2.out.size;have xw:=HT.out.size;have hsz1:=gM.out.size;have nO:=hid (aj HB2.out (HT.out.block w.heap.size HB2.out.lt (λe=>by have:=bD.out _ e; omega)));have pI:=hid ((aa.none_ (gM.out.trans HG2.out)).trans HT.out);have mi:=hid (show ∀ i,own' i->i < wr.heap.size from λi hi=>by obtain ⟨_,_,_,hd⟩:=HD.out; exact hd.lt i hi)
  have Oz:=hid (show ¬ own' w.heap.size from λe=>by
   rcases pI.out.fresh _ e with h1 | h1
   · have:=bD.out _ h1; omega
   · rcases HT.out.fresh _ e with h2 | h2
     · have:=bD.out _ h2; omega
     · have:=HB2.out.lt; omega)
  have EM:=hid (λi=>E9 S i j);have hbw:B<=wr.heap.size:=by have:=pU.out; omega
  by_cases hlt:j < N
  · have hjn:(j:Int) < pg:=by have:=HN.out; omega
    have ZU:=hid (λwx=>Ni (j:Int) wx (by have:=vS.out; omega));have Vn:IntKind.i64.wrap ((j:Int)+1)=(j:Int)+1:=IntWalk.i64_in _ (by have:=vS.out; omega);have hga:=aj9 wr (.cells (au iw).toArray 5) none;have hbk:=af.new wr 5 (au iw).toArray;have hg2:=hga.trans (ah (wr.alloc (.cells (au iw).toArray 5)) none);have hd2:=iA HD.out hg2 (by simp);have hl:iw.length=256:=List.length_replicate
    have sw:=lG (own:=own') (hbk.grown (ah (wr.alloc (.cells (au iw).toArray 5)) none) (by simp)) (λx hx=>by rw [(List.mem_replicate.1 hx).2]; omega) (λe=>by have:=mi.out _ e; omega);rw [hl] at sw;have hnb:=vS.out;have hwr:=lY hd2 (2+(j:Int)) (some ⟨wr.heap.size,0,none⟩) 256 256 _ false (by omega) sw (by omega) (by omega) (λi=>by have:=EM.out i; have:=bB.out i; omega) (akh hbw hg2.size);have hstep:bM (j+1) S=aF (bM j S).2 false (2+(j:Int)) iw:=by
     rw [bM,if_pos aU.out]
    have Tz:=hid (λ(h:(bM (j+1) S).1≠0)=>Bw h N (by omega));rw [<-hstep] at hwr;generalize hq:bM (j+1) S=r at *;have HQ:=hid hq;obtain ⟨er,Tr⟩:=r
    dsimp only at hwr
    have yz:=hid hwr;have Y1:=hid hg2;clear hga hbk hg2 hd2 hl sw hnb hwr hstep hq;generalize au iw=zs at *;go_wp2_with fail
    go_region_held3 (λ_=>True)
     (first | trivial)
     (first
       | (go_at_call 50
          (with_reducible refine (ZU.out _).mono ?_)
          rintro e w4 ⟨rfl,rfl⟩)
       | (go_at_call 49
          (with_reducible refine yz.out.mono ?_)
          rintro e w5 ⟨rfl,ik,hd5,dL⟩;have HD5:=hid hd5;have fJ:=hid ((aa.none_ Y1.out).trans dL);clear hd5 dL))
    all_goals (
     by_cases h0:er=0
     · subst h0;go_wp2_with fail
       go_roundw
       case rel=>exact ⟨j+1,by omega,by first | rfl | simp [Vn],ik,by rw [HQ.out]; exact HD5.out,HT.out.trans fJ.out,by rw [HQ.out]⟩
       case measure=>simp [Go.RowKit.intOf]; omega
     · have Ke:(er == 0)=false:=by simpa using h0
       have fA:=hid (show R0=(er,Tr) from by
        have h1:=Tz.out h0;have h2:=lN.out;rw [h1,if_neg h0] at h2;exact h2)
       go_wp2_with fail;go_ret;rw [fA.out];exact ⟨rfl,ik,HD5.out,pI.out.trans fJ.out⟩)
  · have vN:j=N:=by omega
    subst vN;have hjn:¬ ((j:Int) < pg):=by have:=HN.out; omega
    have HF:=hid (o8 HD.out);have HE2:=hid (show R0=nE (bM j S).2 pg st ln from lN.out.trans (if_pos aU.out));have QT:=hid (λi=>jP (bM j S).2 i);have ZM:=hid (show j<=1024 from vS.out);unfold nE at HE2;generalize (bM j S).2=S2 at *;generalize hq:aR S2=r at *;obtain ⟨ef,Tf⟩:=r
    dsimp only at HF HE2 QT
    clear hq;go_wp2_with fail;refine HF.out.mono ?_;rintro e w5 ⟨rfl,hd5,dL⟩;have HD5:=hid hd5;have fJ:=hid (pI.out.trans dL);have gF:=hid (aj nO.out (dL.block w.heap.size nO.out.lt Oz.out));have hs5:=dL.size;clear hd5 dL HF
    by_cases h0:ef=0
    · subst h0;have pR:=hid (YI HD5.out (akh hbw hs5) 1 1 pg st ln 0 1 (λi=>by have h1:=QT.out i; have h2:=EM.out i; have h3:=bB.out i; have h4:=ZM.out; omega));have j5:=hid (show R0=jN Tf 1 1 pg st ln 0 1 from HE2.out.trans (if_pos rfl));have x0:=gF.out.cell 0; have x1:=gF.out.cell 1; have x2:=gF.out.cell 2; have x3:=gF.out.cell 3; have x4:=gF.out.cell 4; have x5:=gF.out.cell 5; have x6:=gF.out.cell 6
      simp only [akb,aka,akc] at x0 x1 x2 x3 x4 x5 x6;go_wp2_with fail;refine pR.out.mono ?_;rintro e w6 ⟨rfl,oh,hd6,qh⟩;have HD6:=hid hd6;have rD:=hid (fJ.out.trans qh);clear hd6 qh pR x0 x1 x2 x3 x4 x5 x6;go_wp2_with fail;go_ret;rw [j5.out];exact ⟨rfl,oh,HD6.out,rD.out⟩
    · have Ke:(ef == 0)=false:=by simpa using h0
      have j5:=hid (HE2.out.trans (if_neg h0));go_wp2_with fail;go_ret;rw [j5.out];exact ⟨rfl,own',HD5.out,fJ.out⟩
end
end Go.Proofs.YtinajlbijgedbaaGreat.Sto
namespace Go.Proofs.YtinajlbijgedbaaGreat.Sto
open Go.RowKit Go.Maps Go.Shelf CrcMath CodecMath Mem Crc Codec DiskSpec Dsk Sup Log
def jy (f:Int):List Nat:=List.replicate 240 (o7 f 0)
def jH (c i:Nat):List Nat:=List.replicate i c ++ List.replicate (240 - i) 0
theorem SF (f:Int):jH (o7 f 0) 240=jy f:=by simp [jH,jy]
theorem PN (c:Nat):jH c 0=List.replicate 240 0:=by simp [jH]
theorem PO (c:Nat) {i:Nat} (hi:i < 240):(au (jH c i)).toArray.setIfInBounds i (.int .u8 (c:Nat))=(au (jH c (i+1))).toArray:=by
 apply Array.ext'
 rw [Array.toList_setIfInBounds];show (au (jH c i)).set i _=au (jH c (i+1));have e:240 - i=(240 - (i+1))+1:=by omega
 unfold jH au;rw [List.map_append,List.map_append,List.map_replicate,List.map_replicate,List.map_replicate,List.map_replicate,List.set_append_right _ _ (by simp),List.length_replicate,Nat.sub_self,e,List.replicate_succ (n:=240 - (i+1)),aj7,List.replicate_succ' (n:=i),List.append_assoc]
 rfl
theorem uF (f:Int):(jy f).length=240:=List.length_replicate
theorem wI (f:Int):∀ x∈jy f,x < 256:=λx hx=>by rw [List.eq_of_mem_replicate hx]; exact Yv _ _
theorem U5 (w:World):(Instr.makeSlice 65 (.int .i64 240) (.int .i64 240)).run Tryz.prog w=.ok (.slice (some ⟨w.heap.size,0,none⟩) 240 240) (w.alloc (.cells (Array.replicate 240 (.int .u8 0)) 5)):=by kernel_rfl
theorem Te (c:Nat):(Array.replicate 240 (Value.int .u8 0))=(au (jH c 0)).toArray:=by
 rw [PN];unfold au;rw [List.map_replicate]
 apply Array.ext'
 simp
theorem VU (c:Nat) {i:Nat} (hi:i < 240):(au (jH c i)).toArray[i]?=some (.int .u8 0):=by
 have e:240 - i=(240 - (i+1))+1:=by omega
 unfold jH au;rw [akb,List.map_append,akv (by simp),List.map_replicate,List.map_replicate,List.length_replicate,Nat.sub_self,e,List.replicate_succ]
 rfl
end Go.Proofs.YtinajlbijgedbaaGreat.Sto
