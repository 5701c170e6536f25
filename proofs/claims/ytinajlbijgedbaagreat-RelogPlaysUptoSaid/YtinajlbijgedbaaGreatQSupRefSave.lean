/- Texts of this seat's proofs: SupRefSave. -/
import Derived.Test.YtinajlbijgedbaaGreatQStructs
import Derived.Test.YtinajlbijgedbaaGreatQRefNew
import Derived.Deep.RegionHeld3
set_option maxRecDepth 100000
set_option maxHeartbeats 16000000
namespace Go.Proofs.YtinajlbijgedbaaGreat.Sup
open Lib (hid)
open Go.RowKit CrcMath CodecMath Mem Crc Codec DiskSpec Dsk
theorem qV {w w':World} {B b:Nat} {S:St} {own:Nat->Prop} (h:bX w B b S own) {row:Option Nat} (hg:w.grownBy w' row) (hr:∀ j,row=some j->¬ own j):bX w' B b S own:=by
 obtain ⟨bl,c,dv,vv,vs,h⟩:=h;exact ⟨bl,c,dv,vv,vs,h.grown hg hr⟩
theorem aa9 {w:World} {B b:Nat} {S:St} {own:Nat->Prop} (h:bX w B b S own):S.ok/\(∀ i,own i->i < w.heap.size)/\(∀ i,own i->B<=i):=by
 obtain ⟨bl,c,dv,vv,vs,h⟩:=h;exact ⟨h.ok,h.lt,h.low⟩
theorem NP {w:World} {base:Nat} {v:Value} {l:List Nat} {own:Nat->Prop} (h:Own w base 5 1 v l.length (au l)) (hl:∀ x∈l,x < 256) (ho:∀ g,base<=g->¬ own g) :
 ∃ A c,v=.slice A l.length c/\Dsk.Data w own A l.length l/\l.length<=c:=by
 obtain ⟨A,c,rfl,hc,_,_⟩:=h.shape;refine ⟨A,c,rfl,⟨rfl,hl,λhn=>?_⟩,hc⟩;obtain ⟨g,cap,hv,hb,hlt,_,_,hcell⟩:=h.reads hn
 injection hv with h1
 subst h1;exact ⟨g,0,rfl,hlt,ho g hb,λj hj=>by rw [Nat.zero_add]; exact hcell j _ (fT l j hj)⟩
theorem aa3 (a:Int):-1<=a.tmod 2/\a.tmod 2<=1:=by
 rcases Int.le_total 0 a with h | h
 · rw [akm h]; omega
 · have:a.tmod 2=-((-a).tmod 2):=by rw [Int.neg_tmod,Int.neg_neg]
   rw [this,akm (by omega)]; omega
theorem rT {w:World} {B r:Nat} {S:St} {own:Nat->Prop} (h:bX w B r S own) (a0 a1 a2 a3 a4 a5 a6:Int) (hroom:∀ i,(S.ae i).length < 549755813888) (hB:B<=w.heap.size) :
 Calls Tryz.prog 26 #[.pointer (some ⟨r,0,none⟩),.agg #[.int .i64 a0,.int .i64 a1,.int .i64 a2,.int .i64 a3,.int .i64 a4,.int .i64 a5,.int .i64 a6]] w λe w' =>
  e=.returned (.int .i64 (ay S [a0,a1,a2,a3,a4,a5,a6]).1)/\∃ own',bX w' B r (ay S [a0,a1,a2,a3,a4,a5,a6]).2 own'/\aa w w' own own':=by
 obtain ⟨bl,c,dv,vv,vs,hR⟩:=h;have hbk:=af.new w 49 #[.int .i64 a0,.int .i64 a1,.int .i64 a2,.int .i64 a3,.int .i64 a4,.int .i64 a5,.int .i64 a6];have hg0:=aj9 w (.cells #[.int .i64 a0,.int .i64 a1,.int .i64 a2,.int .i64 a3,.int .i64 a4,.int .i64 a5,.int .i64 a6] 49) none;have hR0:=hR.alloc (.cells #[.int .i64 a0,.int .i64 a1,.int .i64 a2,.int .i64 a3,.int .i64 a4,.int .i64 a5,.int .i64 a6] 49)
 have hkeep:∀ wx,(w.alloc (.cells #[.int .i64 a0,.int .i64 a1,.int .i64 a2,.int .i64 a3,.int .i64 a4,.int .i64 a5,.int .i64 a6] 49)).grownBy wx none->wx.cell? ⟨w.heap.size,0,none⟩=some (.int .i64 a0)/\wx.cell? ⟨w.heap.size,1,none⟩=some (.int .i64 a1)/\wx.cell? ⟨w.heap.size,2,none⟩=some (.int .i64 a2)/\wx.cell? ⟨w.heap.size,3,none⟩=some (.int .i64 a3)/\wx.cell? ⟨w.heap.size,4,none⟩=some (.int .i64 a4)/\wx.cell? ⟨w.heap.size,5,none⟩=some (.int .i64 a5)/\wx.cell? ⟨w.heap.size,6,none⟩=some (.int .i64 a6)/\wx.cell? ⟨r,0,none⟩=some (.slice (some ⟨bl,0,none⟩) S.n c):=by
  intro wx hg;have hb:=hbk.grown hg (by simp);exact ⟨by rw [hb.cell]; rfl,by rw [hb.cell]; rfl,by rw [hb.cell]; rfl,by rw [hb.cell]; rfl,by rw [hb.cell]; rfl,by rw [hb.cell]; rfl,by rw [hb.cell]; rfl,(hR0.grown hg (λ_ e=>by cases e)).rc⟩
 have av:=hid hkeep;have bB:=hid hroom; have pU:=hid hB;have H0:=hid (show bX w B r S own from ⟨bl,c,dv,vv,vs,hR⟩);have bK:=hid hR.lt;have HD0:=hid (ah (w.alloc (.cells #[.int .i64 a0,.int .i64 a1,.int .i64 a2,.int .i64 a3,.int .i64 a4,.int .i64 a5,.int .i64 a6] 49)) none);have bz:=hid hg0;have fM:=hid (λwx=>lT a0 a1 a2 a3 a4 a5 a6 (S.n:Int) wx);have fw:=hid (show ay S [a0,a1,a2,a3,a4,a5,a6]=if aL [a0,a1,a2,a3,a4,a5,a6] S.n then aF S true (a0.tmod 2) (frame (aX [a0,a1,a2,a3,a4,a5,a6])) else (1,S) from rfl)
 have hck:dY [a0,a1,a2,a3,a4,a5,a6] (S.n:Int)=if aL [a0,a1,a2,a3,a4,a5,a6] S.n then 0 else 1:=rfl;clear hbk hg0 hkeep hR0 hroom hB hR
 cases hm:aL [a0,a1,a2,a3,a4,a5,a6] S.n with
 | false =>
   rw [hm] at fw;rw [hm,if_neg (by simp)] at hck;rw [hck] at fM;rw [fw.out];clear hck hm fw;generalize hn:S.n=n at *;go_enter Tryz.func26,Tryz.ntmps26;go_wp2_with fail
   go_region_held3 (λwx=>wx.cell? ⟨w.heap.size,0,none⟩=some (.int .i64 a0)/\wx.cell? ⟨w.heap.size,1,none⟩=some (.int .i64 a1)/\wx.cell? ⟨w.heap.size,2,none⟩=some (.int .i64 a2)/\wx.cell? ⟨w.heap.size,3,none⟩=some (.int .i64 a3)/\wx.cell? ⟨w.heap.size,4,none⟩=some (.int .i64 a4)/\wx.cell? ⟨w.heap.size,5,none⟩=some (.int .i64 a5)/\wx.cell? ⟨w.heap.size,6,none⟩=some (.int .i64 a6)/\wx.cell? ⟨r,0,none⟩=some (.slice (some ⟨bl,0,none⟩) n c))
    (first
      | exact av.out _ HD0.out
      | exact av.out _ az.out)
    (first
      | (go_at_call 22
         refine (fM.out _).mono ?_;rintro e w2 ⟨rfl,hg⟩;have az:=hid (HD0.out.trans hg);clear hg))
   go_wp2;go_ret;exact ⟨rfl,own,qV H0.out (bz.out.trans az.out) (λ_ e=>by cases e),aa.none_ (bz.out.trans az.out)⟩
 | true =>
   have HM:=hid hm;rw [hm,if_pos rfl] at fw;rw [hm,if_pos rfl] at hck;rw [hck] at fM;rw [fw.out];clear hck hm fw;have hlen:=vX (s:=[a0,a1,a2,a3,a4,a5,a6]) rfl (kI HM.out);have HLEN:=hid hlen;have HW:=hid (kI HM.out);clear hlen;generalize frame (aX [a0,a1,a2,a3,a4,a5,a6])=L at *;generalize hn:S.n=n at *;go_enter Tryz.func26,Tryz.ntmps26;go_wp2_with fail
   go_region_held3 (λwx=>wx.cell? ⟨w.heap.size,0,none⟩=some (.int .i64 a0)/\wx.cell? ⟨w.heap.size,1,none⟩=some (.int .i64 a1)/\wx.cell? ⟨w.heap.size,2,none⟩=some (.int .i64 a2)/\wx.cell? ⟨w.heap.size,3,none⟩=some (.int .i64 a3)/\wx.cell? ⟨w.heap.size,4,none⟩=some (.int .i64 a4)/\wx.cell? ⟨w.heap.size,5,none⟩=some (.int .i64 a5)/\wx.cell? ⟨w.heap.size,6,none⟩=some (.int .i64 a6)/\wx.cell? ⟨r,0,none⟩=some (.slice (some ⟨bl,0,none⟩) n c))
    (first
      | exact av.out _ HD0.out
      | exact av.out _ az.out)
    (first
      | (go_at_call 22
         refine (fM.out _).mono ?_;rintro e w2 ⟨rfl,hg⟩;have az:=hid (HD0.out.trans hg);clear hg))
   obtain ⟨x0,x1,x2,x3,x4,x5,x6,_⟩:=av.out _ az.out;have fD:=hid ((af.new w 49 #[.int .i64 a0,.int .i64 a1,.int .i64 a2,.int .i64 a3,.int .i64 a4,.int .i64 a5,.int .i64 a6]).grown az.out (by simp));have Ji:=hid (bz.out.trans az.out);go_wp2_with fail;refine (qx a0 a1 a2 a3 a4 a5 a6 _).mono ?_;rintro e w3 ⟨hg3,hW3⟩;rw [HW.out] at hW3;rcases hW3 with ⟨l,v,ho,rfl,hown3,hl3⟩ | ⟨ho,_⟩
   case inr=>cases ho
   obtain rfl:L=l:=by injection ho
   have hb3:=fD.out.grown hg3 (by simp);have y0:=hb3.cell 0;simp only [akb,aka] at y0;obtain ⟨A3,c3,rfl,hd3,hc3⟩:=NP (own:=own) hown3 hl3 (λg hg ho=>by have:=bK.out g ho; have:=Ji.out.size; omega);have H3:=hid (qV H0.out (Ji.out.trans hg3) (λ_ e=>by cases e));have aZ:=hid (Ji.out.trans hg3);have HD3:=hid hd3; have pQ:=hid hc3;clear ho hg3 hown3 hl3 hb3 hd3 hc3 x0 x1 x2 x3 x4 x5 x6
   rw [HLEN.out] at HD3 pQ ⊢;have htm:=aa3 a0;go_wp2_with fail;refine (mR H3.out (a0.tmod 2) A3 256 c3 L true (by omega) HD3.out pQ.out (by omega) bB.out (akh pU.out aZ.out.size)).mono ?_;rintro e w5 ⟨rfl,own',hd5,dL⟩;have fJ:=hid ((aa.none_ (own:=own) aZ.out).trans dL);have H5:=hid hd5;clear hd5 dL;go_wp2;go_ret;exact ⟨rfl,own',H5.out,fJ.out⟩
end Go.Proofs.YtinajlbijgedbaaGreat.Sup
