/- Texts of this seat's proofs: RefLogRecord, RefLogAppend. -/
import Derived.Test.YtinajlbijgedbaaGreatQRefLogNew
import Derived.Test.YtinajlbijgedbaaGreatQLogMay
import Derived.Test.YtinajlbijgedbaaGreatQRefPage
import Derived.Test.YtinajlbijgedbaaGreatQRefPageGet
import Derived.Test.YtinajlbijgedbaaGreatQBytes
import Derived.Deep.DeepCutAuto
set_option maxRecDepth 100000
set_option maxHeartbeats 16000000
namespace Go.Proofs.YtinajlbijgedbaaGreat.RLog
open Lib (hid)
open Go.RowKit CrcMath CodecMath Mem Crc Codec DiskSpec Dsk Sup Log
set_option linter.unusedVariables false
set_option linter.unusedSimpArgs false
structure yV (w wr:World) (P:Nat->Prop) (g r:Nat) (L:Lg) (A:Option Addr) (n:Nat) (l:List ax) (va vn:Value) (j:Nat):Prop where
 gr:w.grownBy wr none
 lb:lK wr g r L
 im:eG wr (From P w.heap.size) A n l
 ss:Own wr w.heap.size 5 1 va (256 * j) (au (eT L.ep L.seq (l.take j)))
 nn:Own wr w.heap.size 3 1 vn j (lW (oo (l.take j)))
 ne:∀ q,va.ownBlock=some q->vn.ownBlock≠some q
 lo:g < w.heap.size
section
variable {w wr w':World} {P:Nat->Prop} {g r:Nat} {L:Lg} {A:Option Addr} {n:Nat} {l:List ax} {va vn:Value} {j:Nat}
theorem yV.quiet (h:yV w wr P g r L A n l va vn j) (hg:wr.grownBy w' none):yV w w' P g r L A n l va vn j :=
 ⟨h.gr.trans hg,af.grown h.lb hg (by simp),h.im.turn (aa.none_ hg),h.ss.keep hg (λ_ _=>by simp),h.nn.keep hg (λ_ _=>by simp),h.ne,h.lo⟩
theorem yV.rows (h:yV w wr P g r L A n l va vn j) {row:Option Nat} (hg:wr.grownBy w' row) (hr:∀ q,row=some q->w.heap.size<=q):w.grownBy w' none/\lK w' g r L/\eG w' (From P w.heap.size) A n l:=by
 have hlo:=h.lo;refine ⟨aI h.gr hg hr,af.grown h.lb hg ?_,h.im.turn (aa.aA hg (λq e=>.inr (hr q e)))⟩;intro e;have:=hr g e.symm;omega
theorem yV.next {w3 w4 w5:World} {v1 v2:Value} (h:yV w w3 P g r L A n l va vn j) {x:ax} (hx:l[j]?=some x) {o:Obj}
 (h2:Own w4 w.heap.size 5 1 v2 (256 * j+256) (au (eT L.ep L.seq (l.take j)) ++ au (lu L.ep L.seq x))) (g2:bS w3 w4 va v2)
 (h1:Own w5 w.heap.size 3 1 v1 (j+1) (lW (oo (l.take j)) ++ [.int .i64 x.1])) (g1:bS (w4.alloc o) w5 vn v1):yV w w5 P g r L A n l v2 v1 (j+1):=by
 obtain ⟨a1,a3,a4⟩:=h.rows g2.1 (λq e=>(h.ss.bH q e).1);have hb:∀ q,vn.ownBlock=some q->w.heap.size<=q:=λq e=>(h.nn.bH q e).1
 have hlo:=h.lo;have hal:=aj9 w4 o none;refine ⟨aI (a1.trans hal) g1.1 hb,(af.grown (af.grown a3 hal (by simp)) g1.1 (λe=>by have:=hb g e.symm; omega)),(a4.turn (aa.none_ hal)).turn (aa.aA g1.1 (λq e=>.inr (hb q e))),?_,?_,?_,hlo⟩
 · rw [Ap _ _ l hx,dH,Nat.mul_succ];refine (h2.keep hal (λ_ _=>by simp)).keep g1.1 (λq e1 e2=>?_);rcases g2.2 q e1 with h3 | h3
   · exact h.ne q h3 e2
   · have:=(h.nn.bH q e2).2;omega
 · rw [MI l hx,uz];exact h1
 · intro q e1 e2;have h4:=(h2.bH q e1).2;rcases g1.2 q e2 with h3 | h3
   · rcases g2.2 q e1 with h5 | h5
     · exact h.ne q h5 h3
     · have:=(h.nn.bH q h3).2;omega
   · simp at h3; omega
end
theorem BR {w:World} {g n:Nat} {e:TypeId} {cap:Nat} {xs:List Value} (hl:xs.length=n) (hg:g < w.heap.size) (hc:∀ j u,xs[j]?=some u->w.cell? ⟨g,j,none⟩=some u):Reads w w.heap.size 1 (some ⟨g,0,none⟩) n xs :=
 ⟨by rw [hl,Nat.mul_one],λ_=>⟨_,rfl,hg,λj u hu=>by rw [addr_add]; exact hc j u hu⟩⟩
theorem Uq {w:World} {P:Nat->Prop} {g r:Nat} {L:Lg} (A:Option Addr) (n c:Nat) (l:List ax) (hlb:lK w g r L) (him:eG w P A n l)
 (hok:∀ x∈l,bU x=true) (h1:1<=n) (gB:n<=40) (fG:L.ep<=4294967295) (mf:L.seq<=1099511627775) :
 Calls Tryz.prog 127 #[.pointer (some ⟨g,0,none⟩),.slice A n c] w λe w'=>w.grownBy w' none/\∃ v,e=.returned v/\Own w' w.heap.size 5 1 v (256+256 * n) (au (bR L.ep L.seq l)):=by
 have HLEN:=hid him.len;obtain ⟨i0,hi0,hz0,hz1,hz2⟩:=info_parts Codec.qI;obtain ⟨k0,hk0,hy0,hy1,hy2⟩:=info_parts gD;have hi:=hid hi0; have z0:=hid hz0; have z1:=hid hz1; have z2:=hid hz2;have hk:=hid hk0; have y0:=hid hy0; have y1:=hid hy1; have y2:=hid hy2;have H0:=hid (show yV w w P g r L A n l (.slice none 0 0) (.slice none 0 0) 0 from
  ⟨akr w none,hlb,him.from_ _ (akf _),Own.nil _ _ _ _,Own.nil _ _ _ _,λq h=>by simp [Value.ownBlock] at h,af.lt hlb⟩)
 have aU:=hid hok; have EZ:=hid fG; have CR:=hid mf;clear hlb him hok hi0 hz0 hz1 hz2 hk0 hy0 hy1 hy2 fG mf;go_enter Tryz.func127,Tryz.ntmps127;go_wp2_with fail
 go_loopw [5,6,7,8,9] (λva vn i _ _ wr=>∃ j:Nat,j<=n/\i=.int .i64 j/\yV w wr P g r L A n l va vn j) (λ_ _ i _ _ _=>n - (Go.RowKit.intOf i).toNat)
 case atStart=>exact ⟨0,aks _,rfl,H0.out⟩
 case round =>
  clear H0;obtain ⟨j,hj,rfl,hr⟩:=hrel;have HR:=hid hr;clear hr
  by_cases hlt:j < n
  · have hjn:(j:Int) < (n:Int):=by omega
    have h0:(0:Int)<=(j:Int):=by omega
    have hw1:IntKind.i64.wrap ((j:Int)+1)=((j+1:Nat):Int):=kD (n:=j+1) (by omega);obtain ⟨gi,o,⟨x1,x2,x3⟩,Bx,mx,cx,rfl,hgi,hno,hx,e0,e1,e2,hmc,kT⟩:=HR.out.im.at_ hlt
    dsimp only at e0 e1 e2 kT
    have hxo:=JC aU.out hx;have HX:=hid hx;have WO:=hid (zw hxo EZ.out CR.out);have HIL:=hid (xu (ep:=L.ep) (sq:=L.seq) hxo);have xN:=hid hgi;have bD:=hid (show gi < w.heap.size from Nat.lt_of_not_le λh=>hno (.inr h));have zM:=hid kT;have hkeep:∀ wx,wr.grownBy wx none->wx.cell? ⟨g,2,none⟩=some (.int .i64 (L.ep:Nat))/\wx.cell? ⟨g,9,none⟩=some (.int .i64 (L.seq:Nat))/\wx.cell? ⟨gi,o+j * 3,none⟩=some (.int .i64 x1)/\wx.cell? ⟨gi,o+j * 3+1,none⟩=some (.int .i64 x2)/\wx.cell? ⟨gi,o+j * 3+2,none⟩=some (.slice Bx mx cx):=by
     intro wx hg;have hb:=hg.block gi hgi (by simp);obtain ⟨_,_,c2,_,_,_,_,_,_,c9,_,_⟩:=(show lK wx g r L from af.grown HR.out.lb hg (by simp)).cells;exact ⟨c2,c9,by rw [aki (a:=⟨gi,o+j * 3,none⟩) hb]; exact e0,by rw [aki (a:=⟨gi,o+j * 3+1,none⟩) hb]; exact e1,by rw [aki (a:=⟨gi,o+j * 3+2,none⟩) hb]; exact e2⟩
    have av:=hid hkeep;have HD0:=hid (ah wr none);have pJ:=hid (λwx (hg:wr.grownBy wx none)=>AZ wx.heap.size (L.ep:Nat) (L.seq:Nat) x1 x2 Bx mx cx x3 wx (uV (Dsk.Data.turn zM.out (aa.none_ hg))));clear hkeep e0 e1 e2 hno hx hmc kT hxo hgi;go_wp2_with fail
    go_region_held3 (λwx=>wx.cell? ⟨g,2,none⟩=some (.int .i64 (L.ep:Nat))/\wx.cell? ⟨g,9,none⟩=some (.int .i64 (L.seq:Nat))/\wx.cell? ⟨gi,o+j * 3,none⟩=some (.int .i64 x1)/\wx.cell? ⟨gi,o+j * 3+1,none⟩=some (.int .i64 x2)/\wx.cell? ⟨gi,o+j * 3+2,none⟩=some (.slice Bx mx cx))
     (first
       | exact av.out _ HD0.out
       | exact av.out _ az.out)
     (first
       | (go_at_call 151
          refine (pJ.out _ HD0.out).mono ?_;rintro e w3 ⟨hg3,⟨lp,v3,ho,rfl,hown,hlp⟩ | ⟨ho,_⟩⟩
          case inr=>rw [WO.out] at ho; cases ho
          have az:=hid (HD0.out.trans hg3);have hle:=WO.out.symm.trans ho
          injection hle with hle
          have sM:=hid hle;have j6:lp.length=256:=by rw [<-hle]; exact HIL.out
          rw [j6] at hown;obtain ⟨g3,c3,rfl,hb3,Nt,hc3,agv,Ny⟩:=hown.reads (by omega);have Lr:=hid j6;have gW:=hid (BR (e:=5) (cap:=c3) (show (au lp).length=256 by rw [aB,j6]) Nt Ny);clear hg3 ho hown hle hlp j6 hb3 Nt Ny))
    have HR3:=hid (HR.out.quiet az.out);have HE0:=hid (av.out _ az.out).2.2.1;clear av pJ zM
    go_wp2_with (first
     | (at_builtin
        refine ai _ rfl (.tmp 35) (.tmp 36) _ rfl w.heap.size 5 k0 _ 1 1 Tryz.underlying65 hk.out y0.out y1.out y2.out rfl (by omega) _ (256 * j) _ rfl HR3.out.ss
         _ _ 256 c3 _ rfl gW.out (fO _) (by simp only [maxLen]; omega) (by omega) HR3.out.gr.size ?_
        intro v2 w4 hown2 jr;have lM:=hid hown2; have HG2:=hid jr;have q0:w4.cell? ⟨gi,o+j * 3,none⟩=some (.int .i64 x1):=(aki (a:=⟨gi,o+j * 3,none⟩) (jr.1.block gi (ake bD.out HR3.out.gr.size) (λe=>by have:=(HR3.out.ss.bH gi e.symm).1; have:=bD.out; omega))).trans HE0.out;have Bj:=hid (HR3.out.nn.keep jr.1 (λq hq e=>HR3.out.ne q e hq));have gV:=hid (akh HR3.out.gr.size jr.1.size)
        clear hown2 jr)
     | (at_builtin
        refine ai _ rfl (.tmp 38) (.tmp 44) _ rfl w.heap.size 3 i0 _ 1 8 Tryz.underlying45 hi.out z0.out z1.out z2.out rfl (by omega) _ j _ rfl (Bj.out.alloc _)
         _ _ 1 1 _ rfl (qz _ _) (λu hu=>by simp at hu; subst hu; rfl) (by simp only [maxLen]; omega) (by omega) (by have:=gV.out; simp; omega) ?_
        intro v1 w5 hown1 iL;have dZ:=hid hown1; have cB:=hid iL; clear hown1 iL))
    have ho2:=lM.out;rw [<-sM.out] at ho2;have HN:=hid (HR3.out.next HX.out ho2 HG2.out dZ.out cB.out);clear ho2 dZ lM cB HG2 HR3
    first
     | exact ⟨⟨j+1,by omega,by first | rfl | go_num,HN.out⟩,by simp [Go.RowKit.intOf]; omega⟩
     | (go_roundw
        case rel=>exact ⟨j+1,by omega,by first | rfl | go_num,HN.out⟩
        case measure=>simp [Go.RowKit.intOf]; omega)
  · obtain rfl:j=n:=by omega
    have hln:=HLEN.out;have htk:l.take j=l:=akk (by omega);have hnn:=HR.out.nn;have hss:=HR.out.ss;rw [htk] at hnn hss;obtain ⟨An,cn,rfl,hin,_,_⟩:=wZ hnn (λy hy=>by
     obtain ⟨x,hx,rfl⟩:=List.mem_map.1 hy;have:=(eO (aU.out x hx)).2.1;omega)
    obtain ⟨gs,cs,rfl,hgs,hgl,hsc,hcm,hcl⟩:=hss.reads (by omega);have hil:=uP L.ep L.seq aU.out;have hby:Bytes wr wr.heap.size (some ⟨gs,0,none⟩) (256 * j) (eT L.ep L.seq l):=by
     refine ⟨by rw [hil,hln],Fx _ _ aU.out,λ_=>⟨gs,0,rfl,hgl,by omega,λq hq=>?_⟩⟩;rw [Nat.zero_add];exact hcl _ _ (fT _ q (by rw [hil,hln]; exact hq))
    have pM:=hid hin; have iG:=hid hby;have HHL:=hid (q8 (ep:=L.ep) (sq:=L.seq) (l:=l) (by omega));have WR:=hid (Av (ep:=L.ep) (sq:=L.seq) aU.out (by omega) (by omega) EZ.out (by have:=CR.out; omega) _ rfl);have hm:=Jf 0 (eT L.ep L.seq l);have Q3:=hid hm;have hkeep:∀ wx,wr.grownBy wx none->wx.cell? ⟨g,2,none⟩=some (.int .i64 (L.ep:Nat))/\wx.cell? ⟨g,9,none⟩=some (.int .i64 (L.seq:Nat)):=by
     intro wx hg;obtain ⟨_,_,c2,_,_,_,_,_,_,c9,_,_⟩:=(show lK wx g r L from af.grown HR.out.lb hg (by simp)).cells;exact ⟨c2,c9⟩
    have av:=hid hkeep;have HD0:=hid (ah wr none);have vL:=hid (λwx (hg:wr.grownBy wx none)=>IC wr.heap.size (some ⟨gs,0,none⟩) (256 * j) cs (eT L.ep L.seq l) wx (iG.out.keep (bW hg _)) (by omega));have WI:=hid (λwx (hg:wr.grownBy wx none)=>BO wr.heap.size (L.ep:Nat) (L.seq:Nat) An j cn (oo l) (M 0 (eT L.ep L.seq l)) wx (kN pM.out hg (.inl rfl)) Q3.out);have WE:=hid hss;have ZL:=hid hln;clear hm hkeep hin hby hnn hss htk hln hcl hil
    go_wp2_with fail
    go_region_held3 (λwx=>wx.cell? ⟨g,2,none⟩=some (.int .i64 (L.ep:Nat))/\wx.cell? ⟨g,9,none⟩=some (.int .i64 (L.seq:Nat)))
     (first
       | exact av.out _ HD0.out
       | exact av.out _ az.out)
     (first
       | (go_at_call 120
          refine (vL.out _ HD0.out).mono ?_;rintro e w2 ⟨rfl,rfl⟩)
       | (go_at_call 119
          refine (WI.out _ HD0.out).mono ?_;rintro e w3 ⟨hg3,⟨lp,v3,ho,rfl,hown,hlp⟩ | ⟨ho,_⟩⟩
          case inr=>rw [WR.out] at ho; cases ho
          have az:=hid (HD0.out.trans hg3);have hle:=WR.out.symm.trans ho
          injection hle with hle
          have sM:=hid hle;have j6:lp.length=256:=by rw [<-hle]; exact HHL.out
          rw [j6] at hown;have HOW:=hid (hown.low (show w.heap.size<=wr.drew.heap.size from HR.out.gr.size));clear hg3 ho hown hle hlp j6))
    have gW:=hid (show Reads w3 w3.heap.size 1 (some ⟨gs,0,none⟩) (256 * j) (au (eT L.ep L.seq l)) from by
     obtain ⟨gs',cs',he,_,hl',_,_,hc'⟩:=(WE.out.keep az.out (λ_ _=>by simp)).reads (by omega)
     injection he with he1 he2 Ka
     injection he1 with he1
     injection he1 with he1 _ _
     subst he1;exact BR (e:=5) (cap:=cs) (by rw [aB,uP L.ep L.seq aU.out,ZL.out]) hl' hc')
    have gV:=hid (akh HR.out.gr.size az.out.size);clear av vL WI
    go_wp2_with (at_builtin
                 refine ai _ rfl (.tmp 63) (.tmp 64) _ rfl w.heap.size 5 k0 _ 1 1 Tryz.underlying65 hk.out y0.out y1.out y2.out rfl (by omega) _ 256 _ rfl HOW.out
                  _ _ (256 * j) cs _ rfl gW.out (fO _) (by simp only [maxLen]; omega) (by omega) gV.out ?_
                 intro v5 w5 hown5 hg5;have xK:=hid hown5; have fP:=hid hg5; clear hown5 hg5)
    go_ret;have Cm:=xK.out;rw [<-sM.out,<-dH] at Cm;exact ⟨aI (HR.out.gr.trans az.out) fP.out.1 (λq e=>(HOW.out.bH q e).1),_,rfl,Cm⟩
structure mY (w:World) (B r g:Nat) (S:St) (own:Nat->Prop) (L:Lg):Prop where
 d:bX w B r S own
 l:lK w g r L
 k:L.ok S.n
 far:¬ own g
 low:B<=w.heap.size
theorem eP {w:World} {B r:Nat} {S:St} {own:Nat->Prop} (h:bX w B r S own) {i:Nat} (hi:own i):i < w.heap.size:=by
 obtain ⟨bl,c,dv,vv,vs,hR⟩:=h;exact hR.lt i hi
theorem wV {w:World} {B r:Nat} {S:St} {own:Nat->Prop} (h:bX w B r S own):S.ok:=by
 obtain ⟨bl,c,dv,vv,vs,hR⟩:=h;exact hR.ok
theorem eH {w w':World} {B r:Nat} {S:St} {own:Nat->Prop} {row:Option Nat} (h:bX w B r S own) (hg:w.grownBy w' row) (hr:∀ j,row=some j->¬ own j):bX w' B r S own:=by
 obtain ⟨bl,c,dv,vv,vs,hR⟩:=h;exact ⟨bl,c,dv,vv,vs,hR.grown hg hr⟩
section
variable {w w':World} {B r g:Nat} {S:St} {own own':Nat->Prop} {L:Lg}
theorem mY.quiet (h:mY w B r g S own L) (hg:w.grownBy w' none):mY w' B r g S own L :=
 ⟨eH h.d hg (λ_ e=>by cases e),af.grown h.l hg (by simp),h.k,h.far,akh h.low hg.size⟩
theorem mY.disk {S':St} (h:mY w B r g S own L) (hd:bX w' B r S' own') (ht:aa w w' own own') (hn:S'.n=S.n):mY w' B r g S' own' L :=
 ⟨hd,aj h.l (ht.block g (af.lt h.l) h.far),hn ▸ h.k,λe=>by
  rcases ht.fresh g e with h1 | h1
  · exact h.far h1
  · have:=af.lt h.l; omega,akh h.low ht.size⟩
theorem mY.row {L':Lg} (h:mY w B r g S own L) (hg:w.grownBy w' (some g)) (hl:lK w' g r L') (hk:L'.ok S.n):mY w' B r g S own L' :=
 ⟨eH h.d hg (λj e=>by cases e; exact h.far),hl,hk,h.far,akh h.low hg.size⟩
end
def lJ (own:Nat->Prop) (g:Nat):Nat->Prop:=λi=>own i\/i=g
theorem kE {w w':World} {own own':Nat->Prop} (h:aa w w' own own') (g:Nat):aa w w' (lJ own g) (lJ own' g) :=
 ⟨h.os,h.tape,h.output,h.size,λi hi hn=>h.block i hi (λe=>hn (.inl e)),λi hi=>by
  rcases hi with hi | hi
  · rcases h.fresh i hi with h1 | h1
    · exact .inl (.inl h1)
    · exact .inr h1
  · exact .inl (.inr hi)⟩
def AR (w:World) (B r g:Nat) (S:St) (own:Nat->Prop) (L:Lg) (l:List ax) (e:Ending) (w':World):Prop :=
 e=.returned (.int .i64 (aN S L l).1)/\∃ own',mY w' B r g (aN S L l).2.1 own' (aN S L l).2.2/\aa w w' (lJ own g) (lJ own' g)
theorem qW {w w':World} {B r g:Nat} {S:St} {own:Nat->Prop} {L:Lg} {l:List ax} {z:Int} (h:mY w B r g S own L) (hg:w.grownBy w' none) (ha:aN S L l=(z,S,L)):AR w B r g S own L l (.returned (.int .i64 z)) w':=by
 unfold AR;rw [ha];exact ⟨rfl,own,h.quiet hg,aa.none_ hg⟩
theorem Pb {w:World} {B r g:Nat} {S:St} {own:Nat->Prop} {L:Lg} (h:mY w B r g S own L) :
 Calls Tryz.prog 75 #[.pointer (some ⟨g,0,none⟩),.int .i64 (L.tail:Nat)] w λe w'=>e=.returned (.int .i64 ((L.st:Int)+(L.tail:Int)))/\w.grownBy w' none:=by
 have hk:=h.k; have h1:=hk.fit; have h2:=hk.low; have h3:=hk.tail; have h4:=(wV h.d).top;refine (yf h.l L.tail (by omega) h2 (by omega)).mono ?_;rintro e w' ⟨rfl,m,rfl⟩;exact ⟨by rw [Nat.mod_eq_of_lt h3]; rfl,⟨rfl,rfl,rfl,akf _,λ_ _ _=>rfl⟩⟩
theorem O9 {w:World} {B r g:Nat} {S:St} {own:Nat->Prop} {L:Lg} (h:mY w B r g S own L) :
 Calls Tryz.prog 75 #[.pointer (some ⟨g,0,none⟩),.int .i64 0] w λe w'=>e=.returned (.int .i64 (L.st:Int))/\w.grownBy w' none:=by
 have hk:=h.k; have h1:=hk.fit; have h2:=hk.low; have h3:=hk.tail; have h4:=(wV h.d).top;refine (yf h.l 0 (by omega) h2 (by omega)).mono ?_;rintro e w' ⟨rfl,m,rfl⟩;exact ⟨by rw [Nat.zero_mod]; rfl,⟨rfl,rfl,rfl,akf _,λ_ _ _=>rfl⟩⟩
theorem Md {w:World} {g r:Nat} {L:Lg} (h:lK w g r L):lK ((w.setCell ⟨g,9,none⟩ (.int .i64 ((L.seq:Int)+1))).setCell ⟨g,11,none⟩ (.bool true)) g r L.fail:=af.aC (af.aC h 9 _) 11 _
theorem Us {w:World} {P:Nat->Prop} {B r g:Nat} {S:St} {own:Nat->Prop} {L:Lg} (h:mY w B r g S own L) (A:Option Addr) (n c:Nat) (l:List ax) (him:eG w P A n l) (hnm:n<=1099511627776) (hroom:∀ i,(S.ae i).length < 549755813000) :
 Calls Tryz.prog 85 #[.pointer (some ⟨g,0,none⟩),.slice A n c] w (AR w B r g S own L l):=by
 have hlen:=him.len;have hk:=h.k;have hfit:=hk.fit; have htl:=hk.tail; have htk:=hk.taken; have htop:=(wV h.d).top; have abN:=hk.seq; have Co:=hk.low; have fG:=hk.ep;have H:=hid h; have HK:=hid hk; have bB:=hid hroom; have jC:=hid him; have HLEN:=hid hlen;clear h hk hroom him hlen
 by_cases gB:40 < n
 · have HA:=hid (show aN S L l=(16,S,L) by unfold aN; rw [if_pos (by rw [HLEN.out]; exact gB)]);have Yr:(40:Int) < (n:Int):=by omega
   go_enter Tryz.func85,Tryz.ntmps85;go_wp2_with fail;go_ret;exact qW H.out (akr _ _) HA.out
 have Yr:¬ ((40:Int) < (n:Int)):=by omega
 have gX:=hid (aa7 (c:=c) jC.out hnm)
 by_cases hmw:(eF [] l && decide (0 < n))=false
 · rw [hmw] at gX;have HA:=hid (show aN S L l=(1,S,L) by
    unfold aN;rw [if_neg (by rw [HLEN.out]; exact gB),if_pos ?_];rw [HLEN.out];rcases (Bool.and_eq_false_iff.1 hmw) with h1 | h1
    · exact .inr h1
    · exact .inl (by simpa using h1))
   clear hmw;go_enter Tryz.func85,Tryz.ntmps85
   go_wp2_with (go_at_call 126
                refine gX.out.mono ?_;rintro e w1 ⟨rfl,hg1⟩;have az:=hid hg1; clear hg1)
   go_ret;exact qW H.out az.out HA.out
 · have hmt:(eF [] l && decide (0 < n))=true:=by
    cases hm:(eF [] l && decide (0 < n)) with
    | true=>rfl
    | false=>exact absurd hm hmw
   rw [hmt] at gX;rw [Bool.and_eq_true] at hmt;have hn0:0 < n:=by simpa using hmt.2
   have yC:=hid hmt.1;have aU:=hid (wP hmt.1);have zI:=λw1 (hg:w.grownBy w1 none)=>hid (Qd (H.out.quiet hg).l htk (by omega))
   have zI:=hid zI;clear hmw hmt
   by_cases hc:L.room < 1+n\/4294967295 < L.ep\/1099511627775 < L.seq
   · have HA:=hid (show aN S L l=(15,S,L) by
      unfold aN;rw [if_neg (by rw [HLEN.out]; exact gB),if_neg (by rw [HLEN.out,yC.out]; simp; omega),if_pos (by rw [HLEN.out]; exact hc)])
     have HC:=hid hc; clear hc
     cases hbr:L.broken with
     | true =>
       have ig:=hid hbr; clear hbr;go_enter Tryz.func85,Tryz.ntmps85
       go_wp2_with (go_at_call 126
                    refine gX.out.mono ?_;rintro e w1 ⟨rfl,hg1⟩;have uI:=(H.out.quiet hg1).l.cells.2.2.2.2.2.2.2.2.2.2.2;rw [ig.out] at uI;have az:=hid hg1; clear hg1)
       go_ret;exact qW H.out az.out HA.out
     | false =>
       have ig:=hid hbr; clear hbr
       by_cases hc1:L.room < 1+n
       · have NA:(L.room:Int) < 1+(n:Int):=by omega
         go_enter Tryz.func85,Tryz.ntmps85
         go_wp2_with (first
          | (go_at_call 126
             refine gX.out.mono ?_;rintro e w1 ⟨rfl,hg1⟩;have uI:=(H.out.quiet hg1).l.cells.2.2.2.2.2.2.2.2.2.2.2;rw [ig.out] at uI;have az:=hid hg1; clear hg1)
          | (go_at_call 123
             refine (zI.out _ az.out).out.mono ?_;rintro e w2 ⟨rfl,m2,rfl⟩))
         go_ret;exact qW H.out (az.out.trans ⟨rfl,rfl,rfl,akf _,λ_ _ _=>rfl⟩) HA.out
       · have NA:¬ ((L.room:Int) < 1+(n:Int)):=by omega
         by_cases hc2:4294967295 < L.ep
         · have Nz:(4294967295:Int) < (L.ep:Int):=by omega
           go_enter Tryz.func85,Tryz.ntmps85
           go_wp2_with (first
            | (go_at_call 126
               refine gX.out.mono ?_;rintro e w1 ⟨rfl,hg1⟩;have uI:=(H.out.quiet hg1).l.cells.2.2.2.2.2.2.2.2.2.2.2;rw [ig.out] at uI;have x2:=(H.out.quiet hg1).l.cells.2.2.1;have az:=hid hg1; clear hg1)
            | (go_at_call 123
               refine (zI.out _ az.out).out.mono ?_;rintro e w2 ⟨rfl,m2,rfl⟩))
           go_ret;exact qW H.out (az.out.trans ⟨rfl,rfl,rfl,akf _,λ_ _ _=>rfl⟩) HA.out
         · have Nz:¬ ((4294967295:Int) < (L.ep:Int)):=by omega
           have hc3:1099511627775 < L.seq:=by
            rcases HC.out with h | h | h
            · omega
            · omega
            · exact h
           have Yj:(1099511627775:Int) < (L.seq:Int):=by omega
           go_enter Tryz.func85,Tryz.ntmps85
           go_wp2_with (first
            | (go_at_call 126
               refine gX.out.mono ?_;rintro e w1 ⟨rfl,hg1⟩;have uI:=(H.out.quiet hg1).l.cells.2.2.2.2.2.2.2.2.2.2.2;rw [ig.out] at uI;have x2:=(H.out.quiet hg1).l.cells.2.2.1;have x9:=(H.out.quiet hg1).l.cells.2.2.2.2.2.2.2.2.2.1;have az:=hid hg1; clear hg1)
            | (go_at_call 123
               refine (zI.out _ az.out).out.mono ?_;rintro e w2 ⟨rfl,m2,rfl⟩))
           go_ret;exact qW H.out (az.out.trans ⟨rfl,rfl,rfl,akf _,λ_ _ _=>rfl⟩) HA.out
   · have hbr:L.broken=false:=by
      cases hb:L.broken with
      | false=>rfl
      | true=>exact absurd (show L.room=0 by simp [Lg.room,hb]) (by omega)
     have NA:¬ ((L.room:Int) < 1+(n:Int)):=by omega
     have Nz:¬ ((4294967295:Int) < (L.ep:Int)):=by omega
     have Yj:¬ ((1099511627775:Int) < (L.seq:Int)):=by omega
     have ig:=hid hbr;have hap:aN S L l=if (bL S L (bR L.ep L.seq l)).1=0 then (0,(bL S L (bR L.ep L.seq l)).2,L.pass (1+n)) else ((bL S L (bR L.ep L.seq l)).1,(bL S L (bR L.ep L.seq l)).2,L.fail):=by
      unfold aN;rw [if_neg (by rw [HLEN.out]; exact gB),if_neg (by rw [HLEN.out,yC.out]; simp; omega),if_neg (by rw [HLEN.out]; exact hc),HLEN.out]
     have hpn:=UF S L (bR L.ep L.seq l);have hlr:(bR L.ep L.seq l).length=256 * (1+n):=by rw [tL aU.out (by rw [HLEN.out]; omega),HLEN.out]
     have sS:=hid hap; have HPN:=hid hpn; have C8:=hid hlr;have tF:=hid (HK.out.pass (k:=1+n) (by omega) (by omega));have Q4:=hid (HK.out.fail (by omega));have bK:=hid (Qf (ep:=L.ep) (sq:=L.seq) aU.out);have FT:=λwx (hg:w.grownBy wx none)=>hid (Uq A n c l (H.out.quiet hg).l (jC.out.turn (aa.none_ hg (own:=P))) aU.out (by omega) (by omega) (by omega) (by omega))
     have FT:=hid FT;clear hap hpn hlr hbr hc;go_enter Tryz.func85,Tryz.ntmps85;go_upto_region 9 with (first
      | (go_at_call 126
         refine gX.out.mono ?_;rintro e w1 ⟨rfl,hg1⟩;have uI:=(H.out.quiet hg1).l.cells.2.2.2.2.2.2.2.2.2.2.2;rw [ig.out] at uI;have x2:=(H.out.quiet hg1).l.cells.2.2.1;have x9:=(H.out.quiet hg1).l.cells.2.2.2.2.2.2.2.2.2.1;have az:=hid hg1; clear hg1)
      | (go_at_call 123
         refine (zI.out _ az.out).out.mono ?_;rintro e w2 ⟨rfl,m2,rfl⟩;have HG2:=hid (az.out.trans (show World.grownBy _ (World.drewN _ m2) none from ⟨rfl,rfl,rfl,akf _,λ_ _ _=>rfl⟩)))
      | (go_at_call 127
         refine (FT.out _ HG2.out).out.mono ?_;rintro e w4 ⟨hg4,v4,rfl,hrow⟩;have cB:=hid (HG2.out.trans hg4);have AV:=hid (hrow.low HG2.out.size);clear hg4 hrow))
     obtain ⟨gr,cap,rfl,hge,hgl,hlc,hcm,hcl⟩:=AV.out.reads (by omega);obtain ⟨F,hF⟩:∃ F,min (1+n) (L.ln - L.tail)=F:=⟨_,rfl⟩;have hah:L.ahead (256+256 * n)=256 * F:=by unfold Lg.ahead; omega
     have hF1:1<=F/\F<=1+n:=by omega
     have ZX:=hid hF;have H4:=hid (H.out.quiet cB.out);have KF:=hid (show ¬ own gr from λho=>by have:=eP H.out.d ho; omega);have HD4:=hid (show Dsk.Data w4 own (some ⟨gr,0,none⟩) (256+256 * n) (bR L.ep L.seq l) from
      ⟨by rw [C8.out]; omega,bK.out,λ_=>⟨gr,0,rfl,hgl,KF.out,λj hj=>by rw [Nat.zero_add]; exact hcl _ _ (fT _ j (by rw [C8.out]; omega))⟩⟩)
     have hrl:(bR L.ep L.seq l).length=256+256 * n:=by rw [C8.out]; omega
     obtain ⟨_,_,_,_,_,c5,_,_,c8,_,_,_⟩:=H4.out.l.cells;clear hcl hgl FT gX zI uI x2 x9;generalize bR L.ep L.seq l=rec at *
     go_cut [7] (λs7 wx=>s7=.int .i64 (F:Nat)/\∃ m,wx=w4.drewN m)
     case first =>
      have hw1:IntKind.i64.wrap ((L.ln:Int) - (L.tail:Int))=(L.ln:Int) - (L.tail:Int):=IntWalk.i64_in _ (by omega);go_wp2_with fail
      go_quiet (fail)
      go_wp2_with fail;go_meet;exact ⟨by rw [<-ZX.out]; congr 1; omega,_,rfl⟩
     case rest =>
      obtain ⟨rfl,m,rfl⟩:=hcut;obtain ⟨a,haF⟩:∃ a,256 * F=a:=⟨_,rfl⟩;rw [haF] at hah;have hg1:w4.grownBy (w4.drewN m) none:=⟨rfl,rfl,rfl,akf _,λ_ _ _=>rfl⟩;have H1:=hid (H4.out.quiet hg1);have fP:=hid (cB.out.trans hg1);have xO:=hid (Dsk.Data.turn HD4.out (aa.none_ hg1 (own:=own)));clear hg1 H4 cB HD4 c5 c8 AV;generalize w4.drewN m=w5 at *;have Aw:((L.st+L.tail:Nat):Int)=(L.st:Int)+(L.tail:Int):=by omega
      have hp1:(aF S false ((L.st:Int)+(L.tail:Int)) (rec.take a)).1≠0->bL S L rec=aF S false ((L.st:Int)+(L.tail:Int)) (rec.take a):=λh0=>by
       unfold bL;rw [hrl,hah,Aw,if_pos h0]
      have hp2:(aF S false ((L.st:Int)+(L.tail:Int)) (rec.take a)).1=0->F=1+n->bL S L rec=(0,(aF S false ((L.st:Int)+(L.tail:Int)) (rec.take a)).2):=λh0 h1=>by
       unfold bL;rw [hrl,hah,Aw,if_neg (by rw [h0]; simp),if_pos (by omega)]
      have hp3:(aF S false ((L.st:Int)+(L.tail:Int)) (rec.take a)).1=0->F≠1+n->bL S L rec=aF (aF S false ((L.st:Int)+(L.tail:Int)) (rec.take a)).2 false (L.st:Int) (rec.drop a):=λh0 h1=>by
       unfold bL;rw [hrl,hah,Aw,if_neg (by rw [h0]; simp),if_neg (by omega)]
      have hn1:=jD S false ((L.st:Int)+(L.tail:Int)) (rec.take a);have hv1:∀ i,((aF S false ((L.st:Int)+(L.tail:Int)) (rec.take a)).2.ae i).length < 549755813888:=λi=>by
       have h1:=oQ S false ((L.st:Int)+(L.tail:Int)) (rec.take a) i;have h2:=bB.out i;rw [aku,hrl] at h1;omega
      have Hy:=hid hp1; have QX:=hid hp2; have QW:=hid hp3; have nM:=hid hn1; have rC:=hid hv1;clear Aw hp1 hp2 hp3 hn1 hv1;unfold maxLen at hcm;have hkeep:∀ wx (S':St) (own':Nat->Prop),mY wx B r g S' own' L->wx.cell? ⟨g,0,none⟩=some (.pointer (some ⟨r,0,none⟩))/\wx.cell? ⟨g,8,none⟩=some (.int .i64 (L.tail:Nat)):=λwx S' own' hx=>⟨hx.l.cells.1,hx.l.cells.2.2.2.2.2.2.2.2.1⟩
      have av:=hid hkeep;have xS:=hid (H1.out.quiet (ah w5 none));have YQ:=hid (Pb xS.out);have HW1:=hid (λwx (hg:w5.grownBy wx none)=>mR (H1.out.quiet hg).d ((L.st:Int)+(L.tail:Int)) (some ⟨gr,0,none⟩) a cap (rec.take a) false (by omega) (Kl (Dsk.Data.turn xO.out (aa.none_ hg)) a (by omega)) (by omega) (by omega) (λi=>Nat.lt_trans (bB.out i) (by omega)) (H1.out.quiet hg).low);have Nf:IntKind.i64.wrap (256 * (F:Int))=(a:Int):=by rw [<-kD (n:=a) (by omega)]; congr 1; omega
      have agz:(a:Int)<=((256+256 * n:Nat):Int):=by omega
      have agC:(a:Int)<=(cap:Int):=by omega
      have agD:(0:Int)<=(a:Int):=by omega
      have ajc:a<=cap:=by omega
      clear hkeep;go_wp2_with fail
      go_region_held3 (λwx=>wx.cell? ⟨g,0,none⟩=some (.pointer (some ⟨r,0,none⟩))/\wx.cell? ⟨g,8,none⟩=some (.int .i64 (L.tail:Nat)))
       (first
         | exact av.out _ _ _ xS.out
         | exact av.out _ _ _ HA1.out
         | exact av.out _ _ _ HA2.out)
       (first
         | (go_at_call 75
            (with_reducible refine YQ.out.mono ?_)
            rintro e w6 ⟨rfl,ic⟩;have HA1:=hid (xS.out.quiet ic);have iF:=hid ((ah w5 none).trans ic);clear ic)
         | (go_at_call 24
            (with_reducible refine (HW1.out _ iF.out).mono ?_)
            rintro e w7 ⟨rfl,bV,hd2,ht2⟩;have HA2:=hid (HA1.out.disk hd2 ht2 nM.out);have HT2:=hid ((aa.none_ iF.out).trans ht2);have HDB:=hid (Dsk.Data.turn (Dsk.Data.turn xO.out (aa.none_ iF.out)) ht2);clear hd2 ht2))
      clear YQ HW1;generalize (aF S false ((L.st:Int)+(L.tail:Int)) (rec.take a))=R1 at *;obtain ⟨E1,S1⟩:=R1
      dsimp only at *
      by_cases hE1:E1=0
      · subst hE1
        by_cases hFn:F=1+n
        · have hlI:¬ ((F:Int) < 1+(n:Int)):=by omega
          have OU:=hid (show aN S L l=(0,S1,L.pass (1+n)) by rw [sS.out,QX.out rfl hFn,if_pos rfl]);clear Hy QX QW;have ES:=hid (BK HA2.out.l (1+n) (by omega) Co (by omega) (by omega) (by omega) (by omega));rw [show ((1+n:Nat):Int)=1+(n:Int) from by omega] at ES
          go_wp2_with (go_at_call 78
                       refine ES.out.mono ?_;rintro e w9 ⟨rfl,kP,qY⟩;have sO:=hid kP; have EY:=hid qY; clear kP qY)
          go_ret;unfold AR;rw [OU.out];exact ⟨rfl,_,HA2.out.row EY.out sO.out (nM.out.symm ▸ tF.out),((kE (aa.none_ fP.out) g).trans (kE HT2.out g)).trans (.aA EY.out (λq e=>by cases e; exact .inr rfl))⟩
        · have hlI:(F:Int) < 1+(n:Int):=by omega
          have CV:=hid (QW.out rfl hFn);have hcC:¬ (cap=a):=by omega
          have aiS:(a:Int)<=256+256 * (n:Int):=by omega
          have agy:a<=256+256 * n:=by omega
          have aiO:(rec.drop a).length=256+256 * n - a:=by rw [List.length_drop,hrl]
          have pV:=hid (HA2.out.quiet (ah w7 none));have CU:=hid (O9 pV.out);have EU:=hid (jD S1 false (L.st:Int) (rec.drop a));have HW2:=hid (λwx (hg:w7.grownBy wx none)=>mR (HA2.out.quiet hg).d (L.st:Int) (some ⟨gr,a,none⟩) (256+256 * n - a) (cap - a) (rec.drop a) false (by omega) (Km (Dsk.Data.turn HDB.out (aa.none_ hg)) a (by omega)) (by omega) (by omega) rC.out (HA2.out.quiet hg).low);have hkeep:∀ wx (S':St) (own':Nat->Prop),mY wx B r g S' own' L->wx.cell? ⟨g,0,none⟩=some (.pointer (some ⟨r,0,none⟩)):=λwx S' own' hx=>hx.l.cells.1
          have av:=hid hkeep;clear hkeep Hy QX QW;go_wp2_with fail
          go_region_held3 (λwx=>wx.cell? ⟨g,0,none⟩=some (.pointer (some ⟨r,0,none⟩)))
           (first
             | exact av.out _ _ _ pV.out
             | exact av.out _ _ _ OW.out
             | exact av.out _ _ _ sU.out)
           (first
             | (go_at_call 75
                (with_reducible refine CU.out.mono ?_)
                rintro e w8 ⟨rfl,zz⟩;have OW:=hid (pV.out.quiet zz);have j4:=hid ((ah w7 none).trans zz);clear zz)
             | (go_at_call 24
                (with_reducible refine (HW2.out _ j4.out).mono ?_)
                rintro e w9 ⟨rfl,fQ,hd3,ht3⟩;have sU:=hid (OW.out.disk hd3 ht3 EU.out);have fJ:=hid (HT2.out.trans ((aa.none_ j4.out).trans ht3));clear hd3 ht3))
          clear CU HW2;generalize aF S1 false (L.st:Int) (rec.drop a)=R2 at *;obtain ⟨E2,S2⟩:=R2
          dsimp only at *
          by_cases hE2:E2=0
          · subst hE2;have OU:=hid (show aN S L l=(0,S2,L.pass (1+n)) by rw [sS.out,CV.out,if_pos rfl]);have ES:=hid (BK sU.out.l (1+n) (by omega) Co (by omega) (by omega) (by omega) (by omega));rw [show ((1+n:Nat):Int)=1+(n:Int) from by omega] at ES
            go_wp2_with (go_at_call 78
                         refine ES.out.mono ?_;rintro e w9 ⟨rfl,kP,qY⟩;have sO:=hid kP; have EY:=hid qY; clear kP qY)
            go_ret;unfold AR;rw [OU.out];exact ⟨rfl,_,sU.out.row EY.out sO.out ((EU.out.trans nM.out).symm ▸ tF.out),((kE (aa.none_ fP.out) g).trans (kE fJ.out g)).trans (.aA EY.out (λq e=>by cases e; exact .inr rfl))⟩
          · have hEb:(E2 != 0)=true:=by simpa using hE2
            have OU:=hid (show aN S L l=(E2,S2,L.fail) by rw [sS.out,CV.out,if_neg hE2]);clear hE2;have x9:=sU.out.l.cells.2.2.2.2.2.2.2.2.2.1;have uI:=sU.out.l.cells.2.2.2.2.2.2.2.2.2.2.2;have f9:=sU.out.l.fz 9;have f11:=sU.out.l.fz 11;go_wp2_with fail;go_ret;unfold AR;rw [OU.out];refine ⟨rfl,_,sU.out.row (bI (bI (akr _ _) 9 _) 11 _) (Md sU.out.l) ((EU.out.trans nM.out).symm ▸ Q4.out),?_⟩
            exact ((kE (aa.none_ fP.out) g).trans (kE fJ.out g)).trans (.aA (bI (bI (akr _ _) 9 _) 11 _) (λq e=>by cases e; exact .inr rfl))
      · have hEb:(E1 == 0)=false:=by simpa using hE1
        have hEc:(E1 != 0)=true:=by simpa using hE1
        have OU:=hid (show aN S L l=(E1,S1,L.fail) by rw [sS.out,Hy.out hE1,if_neg hE1]);clear hE1 Hy QX QW;have x9:=HA2.out.l.cells.2.2.2.2.2.2.2.2.2.1;have uI:=HA2.out.l.cells.2.2.2.2.2.2.2.2.2.2.2;have f9:=HA2.out.l.fz 9;have f11:=HA2.out.l.fz 11;go_wp2_with fail;go_ret;unfold AR;rw [OU.out];refine ⟨rfl,_,HA2.out.row (bI (bI (akr _ _) 9 _) 11 _) (Md HA2.out.l) (nM.out.symm ▸ Q4.out),?_⟩
        exact ((kE (aa.none_ fP.out) g).trans (kE HT2.out g)).trans (.aA (bI (bI (akr _ _) 9 _) 11 _) (λq e=>by cases e; exact .inr rfl))
end Go.Proofs.YtinajlbijgedbaaGreat.RLog
