/- Texts of this seat's proofs: RefLogNew, RefLogMay. -/
import Derived.Test.YtinajlbijgedbaaGreatQRefLog
import Derived.Test.YtinajlbijgedbaaGreatQSupRefSave
import Derived.Test.YtinajlbijgedbaaGreatQSupSave
import Derived.Test.YtinajlbijgedbaaGreatQRefPage
set_option maxRecDepth 100000
set_option maxHeartbeats 16000000
namespace Go.Proofs.YtinajlbijgedbaaGreat.RLog
open Lib (hid)
open Go.RowKit CrcMath CodecMath Mem Crc Codec DiskSpec Dsk Sup Log
set_option linter.unusedVariables false
set_option linter.unusedSimpArgs false
theorem Ms {w:World} {B r:Nat} {S:St} {own:Nat->Prop} (h:bX w B r S own):∃ bl c,w.cell? ⟨r,0,none⟩=some (.slice (some ⟨bl,0,none⟩) S.n c):=by
 obtain ⟨bl,c,dv,vv,vs,hR⟩:=h;exact ⟨bl,c,hR.blk.cell 0⟩
theorem aak {w:World} {B r:Nat} {S:St} {own:Nat->Prop} (h:bX w B r S own):∃ cs,af w r 64 cs/\cs[0]?=w.cell? ⟨r,0,none⟩:=by
 obtain ⟨bl,c,dv,vv,vs,hR⟩:=h;exact ⟨_,hR.blk,(hR.blk.cell 0).symm⟩
theorem Me {w:World} {B r:Nat} {S:St} {own:Nat->Prop} (h:bX w B r S own) (gn pg:Int) (ep st ln hd sq:Nat) (hm:dY [gn,(ep:Int),pg,(st:Int),(ln:Int),(hd:Int),(sq:Int)] (S.n:Nat)=0) :
 Calls Tryz.prog 31 #[.pointer (some ⟨r,0,none⟩),.agg #[.int .i64 gn,.int .i64 (ep:Nat),.int .i64 pg,.int .i64 (st:Nat),.int .i64 (ln:Nat),.int .i64 (hd:Nat),.int .i64 (sq:Nat)]] w λe w' =>
  ∃ g,e=.returned (.pointer (some ⟨g,0,none⟩))/\w.heap.size<=g/\lK w' g r (Lg.new gn ep pg st ln hd sq)/\w.grownBy w' none:=by
 obtain ⟨bl,c,hc⟩:=Ms h;obtain ⟨cs,hrb,hcs⟩:=aak h;have bz:=hid (aj9 w (.cells #[.int .i64 gn,.int .i64 (ep:Nat),.int .i64 pg,.int .i64 (st:Nat),.int .i64 (ln:Nat),.int .i64 (hd:Nat),.int .i64 (sq:Nat)] 49) none);have fD:=hid (af.new w 49 #[.int .i64 gn,.int .i64 (ep:Nat),.int .i64 pg,.int .i64 (st:Nat),.int .i64 (ln:Nat),.int .i64 (hd:Nat),.int .i64 (sq:Nat)]);have akz:=hid hrb;have fM:=hid (λwx=>lT gn (ep:Int) pg (st:Int) (ln:Int) (hd:Int) (sq:Int) (S.n:Int) wx)
 rw [hm] at fM;have hcell:∀ wx,(w.alloc (.cells #[.int .i64 gn,.int .i64 (ep:Nat),.int .i64 pg,.int .i64 (st:Nat),.int .i64 (ln:Nat),.int .i64 (hd:Nat),.int .i64 (sq:Nat)] 49)).grownBy wx none->wx.cell? ⟨r,0,none⟩=some (.slice (some ⟨bl,0,none⟩) S.n c) /\
  wx.cell? ⟨w.heap.size,0,none⟩=some (.int .i64 gn)/\wx.cell? ⟨w.heap.size,1,none⟩=some (.int .i64 (ep:Nat))/\wx.cell? ⟨w.heap.size,2,none⟩=some (.int .i64 pg)/\wx.cell? ⟨w.heap.size,3,none⟩=some (.int .i64 (st:Nat))/\wx.cell? ⟨w.heap.size,4,none⟩=some (.int .i64 (ln:Nat))/\wx.cell? ⟨w.heap.size,5,none⟩=some (.int .i64 (hd:Nat))/\wx.cell? ⟨w.heap.size,6,none⟩=some (.int .i64 (sq:Nat)):=by
  intro wx hg;have hb:=fD.out.grown hg (by simp);have hr:=(akz.out.alloc _).grown hg (by simp);exact ⟨by rw [hr.cell,hcs]; exact hc,hb.cell 0,hb.cell 1,hb.cell 2,hb.cell 3,hb.cell 4,hb.cell 5,hb.cell 6⟩
 have HC:=hid hcell;have HD0:=hid (ah (w.alloc (.cells #[.int .i64 gn,.int .i64 (ep:Nat),.int .i64 pg,.int .i64 (st:Nat),.int .i64 (ln:Nat),.int .i64 (hd:Nat),.int .i64 (sq:Nat)] 49)) none);clear h hcell hrb hcs hc hm;generalize hn:S.n=n at *;go_enter Tryz.func31,Tryz.ntmps31;go_wp2_with fail
 go_region_held3 (λwx=>wx.cell? ⟨r,0,none⟩=some (.slice (some ⟨bl,0,none⟩) n c)/\wx.cell? ⟨w.heap.size,0,none⟩=some (.int .i64 gn)/\wx.cell? ⟨w.heap.size,1,none⟩=some (.int .i64 (ep:Nat))/\wx.cell? ⟨w.heap.size,2,none⟩=some (.int .i64 pg)/\wx.cell? ⟨w.heap.size,3,none⟩=some (.int .i64 (st:Nat))/\wx.cell? ⟨w.heap.size,4,none⟩=some (.int .i64 (ln:Nat))/\wx.cell? ⟨w.heap.size,5,none⟩=some (.int .i64 (hd:Nat))/\wx.cell? ⟨w.heap.size,6,none⟩=some (.int .i64 (sq:Nat)))
  (first
    | exact HC.out _ HD0.out
    | exact HC.out _ az.out)
  (first
    | (go_at_call 22
       refine (fM.out _).mono ?_;rintro e w1 ⟨rfl,hg1⟩;have az:=hid (HD0.out.trans hg1);clear hg1))
 obtain ⟨_,y0,y1,y2,y3,y4,y5,y6⟩:=HC.out _ az.out;go_wp2_with fail;go_ret;exact ⟨_,rfl,(bz.out.trans az.out).size,af.new _ _ _,(bz.out.trans az.out).trans (aj9 _ _ none)⟩
theorem LW {l:List ax} {i:Nat} {n:Int}:(iZ l i).contains n=true↔∃ k x,k < i/\l[k]?=some x/\x.1=n:=by
 unfold iZ;rw [List.contains_iff_mem,List.mem_reverse,List.mem_map]
 constructor
 · rintro ⟨x,hx,rfl⟩;obtain ⟨k,hk⟩:=List.getElem?_of_mem hx;have hlt:k < (l.take i).length:=(List.getElem?_eq_some_iff.1 hk).1;rw [aku] at hlt;rw [List.getElem?_take_of_lt (by omega)] at hk;exact ⟨k,x,by omega,hk,rfl⟩
 · rintro ⟨k,x,hk,hx,rfl⟩;refine ⟨x,?_,rfl⟩;have:(l.take i)[k]?=some x:=by rw [List.getElem?_take_of_lt hk]; exact hx
   exact akx this
theorem uV {w:World} {P:Nat->Prop} {A:Option Addr} {n:Nat} {l:List Nat} (h:Dsk.Data w P A n l):Bytes w w.heap.size A n l :=
 ⟨h.1,h.2.1,λhn=>by
  obtain ⟨g,o,h1,h2,_,h4⟩:=h.2.2 hn;exact ⟨g,o,h1,h2,by omega,h4⟩⟩
theorem aa7 {w:World} {P:Nat->Prop} {A:Option Addr} {n c:Nat} {l:List ax} (him:eG w P A n l) (hn:n<=1099511627776) :
 Calls Tryz.prog 126 #[.slice A n c] w λe w'=>e=.returned (.bool (eF [] l && decide (0 < n)))/\w.grownBy w' none:=by
 have hlen:=him.len;have jC:=hid him; have HLEN:=hid hlen;clear him hlen;obtain ⟨R,hR⟩:∃ R,(eF [] l && decide (0 < n))=R:=⟨_,rfl⟩;rw [hR];have HR:=hid hR;clear hR;go_enter Tryz.func126,Tryz.ntmps126;go_wp2_with fail
 go_loopw [3,4,5,6] (λi _ _ _ wr=>∃ k:Nat,k<=n/\i=.int .i64 k/\eF [] l=eF (iZ l k) (l.drop k)/\w.grownBy wr none) (λi _ _ _ _=>n - (intOf i).toNat)
 case atStart=>exact ⟨0,by omega,rfl,rfl,akr _ _⟩
 case round =>
  obtain ⟨k,hk,rfl,bu,hg⟩:=hrel;have gX:=hid bu; have HG:=hid hg;clear bu hg
  by_cases hlt:k < n
  · have him:=jC.out.turn (aa.none_ HG.out (own:=P));obtain ⟨g,o,x,Bx,mx,cx,rfl,hgl,hPg,hx,y0,y1,y2,hmc,kT⟩:=him.at_ hlt;have hst:=JV l hx;have pJ:=hid (wT wr.heap.size x.1 x.2.1 Bx mx cx x.2.2 wr (uV kT));have h0:(0:Int)<=k:=by omega
    have h1:(k:Int) < n:=by omega
    have hw1:IntKind.i64.wrap ((k:Int)+1)=((k+1:Nat):Int):=kD (n:=k+1) (by omega)
    cases yj:bU x with
    | false =>
      have bD:=hid (show R=false from by rw [<-HR.out,gX.out,hst,yj]; rfl);have xJ:=hid (show ed x.1 x.2.1 x.2.2=none by rw [ed,show bA x.1 x.2.1 x.2.2=false from yj]; rfl);obtain ⟨x1,x2,x3⟩:=x;simp only at y0 y1 y2 pJ xJ;clear yj hst hx him kT
      go_wp2_with (go_at_call 79
                   refine pJ.out.mono ?_;rintro e w1 ⟨hg1,⟨l1,v1,ho,_⟩ | ⟨_,rfl⟩⟩
                   case inl=>rw [xJ.out] at ho; cases ho
                   have az:=hid (HG.out.trans hg1);clear hg1)
      go_ret;exact ⟨by rw [bD.out]; rfl,az.out⟩
    | true =>
      have xJ:=hid (show ed x.1 x.2.1 x.2.2=some (frame (cZ x.1 x.2.1 x.2.2)) by rw [ed,show bA x.1 x.2.1 x.2.2=true from yj]; rfl);have HST:=hid (show eF [] l=(!(iZ l k).contains x.1 && eF (iZ l (k+1)) (l.drop (k+1))) from by rw [gX.out,hst,yj]; rfl);have HX:=hid hx;have adR:=hid (λj (hj:j < k)=>him.at_ (show j < n by omega));obtain ⟨x1,x2,x3⟩:=x;simp only at y0 y1 y2 pJ xJ HST;clear yj hst hx him kT
      go_wp2_with (go_at_call 79
                   refine pJ.out.mono ?_;rintro e w1 ⟨hg1,⟨l1,v1,ho,rfl,_⟩ | ⟨ho,_⟩⟩
                   case inr=>rw [xJ.out] at ho; cases ho
                   have az:=hid hg1;clear hg1)
      go_loopw [6] (λj wx=>∃ q:Nat,q<=k/\j=.int .i64 q/\(∀ t y,t < q->l[t]?=some y->y.1≠x1)/\wr.grownBy wx none) (λj _=>k - (intOf j).toNat)
      case atStart=>exact ⟨0,by omega,rfl,λt y ht=>by omega,az.out⟩
      case round =>
       obtain ⟨q,hq,rfl,hno,hgx⟩:=hrel;have CX:=hid hno; have KE:=hid hgx;clear hno hgx
       by_cases hlt2:q < k
       · obtain ⟨g',o',y,_,_,_,hA,_,_,hy,z0,_,_,_⟩:=adR.out q hlt2
         injection hA with hA
         injection hA with hA1 hA2
         subst hA1 hA2;have hbl:=KE.out.block g hgl (by simp);have u0:wr.cell? ⟨g,o+k * 3,none⟩=some (.int .i64 x1):=by rw [aki (a:=⟨g,o+k * 3,none⟩) hbl]; exact y0
         have u1:wr.cell? ⟨g,o+q * 3,none⟩=some (.int .i64 y.1):=by rw [aki (a:=⟨g,o+q * 3,none⟩) hbl]; exact z0
         have h2:(q:Int) < k:=by omega
         have h3:(0:Int)<=q:=by omega
         have h4:(q:Int) < n:=by omega
         have hw2:IntKind.i64.wrap ((q:Int)+1)=((q+1:Nat):Int):=kD (n:=q+1) (by omega);have HYQ:=hid hy;obtain ⟨y1,yr⟩:=y;simp only at u1;clear hy z0 y0 hbl
         by_cases he:y1=x1
         · have hbb:(y1 == x1)=true:=by simpa using he
           have bD:=hid (show R=false from by
            rw [<-HR.out,HST.out,(LW (l:=l) (i:=k) (n:=x1)).2 ⟨q,_,hlt2,HYQ.out,he⟩]; rfl)
           clear he;go_wp2_with fail
           go_quiet (fail)
           go_wp2_with fail;go_ret;exact ⟨by rw [bD.out]; rfl,(HG.out.trans KE.out).trans ⟨rfl,rfl,rfl,akf _,λ_ _ _=>rfl⟩⟩
         · have hbb:(y1 == x1)=false:=by simpa using he
           have rF:=hid he;clear he;go_wp2_with fail
           go_quiet (fail)
           go_wp2_with fail
           go_roundw
           case rel=>exact ⟨q+1,by omega,by first | rfl | go_num,λt z ht hz=>by
            by_cases htq:t=q
            · subst htq;have:=HYQ.out.symm.trans hz
              cases this
              exact rF.out
            · exact CX.out t z (by omega) hz,KE.out.trans ⟨rfl,rfl,rfl,akf _,λ_ _ _=>rfl⟩⟩
           case measure=>simp [intOf]; omega
       · have h2:¬ ((q:Int) < k):=by omega
         have HNC:=hid (show (iZ l k).contains x1=false from by
          rw [Bool.eq_false_iff];intro h;obtain ⟨t,z,ht,hz,he⟩:=LW.1 h;exact CX.out t z (by omega) hz he)
         go_wp2_with fail;exact ⟨⟨k+1,by omega,by first | rfl | go_num,by rw [HST.out,HNC.out]; rfl,HG.out.trans KE.out⟩,by simp [intOf]; omega⟩
  · have hkn:k=n:=by omega
    subst hkn;have HM:=hid (show R=decide (0 < k) by rw [<-HR.out,gX.out,<-HLEN.out,MM l,Bool.true_and]);have hdd:decide ((0:Int) < (k:Int))=decide (0 < k):=decide_eq_decide.2 (by omega);go_wp2_with fail;go_ret;exact ⟨by rw [HM.out]; first | rfl | simp,HG.out⟩
end Go.Proofs.YtinajlbijgedbaaGreat.RLog
