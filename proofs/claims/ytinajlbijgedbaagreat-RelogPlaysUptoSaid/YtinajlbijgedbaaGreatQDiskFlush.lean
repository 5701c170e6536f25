/- Texts of this seat's proofs: DiskFlush, DiskCrash. -/
import Derived.Test.YtinajlbijgedbaaGreatQDiskLaid
import Derived.Test.YtinajlbijgedbaaGreatQDiskSettle
import Derived.Test.YtinajlbijgedbaaGreatQMapIs
set_option maxRecDepth 100000
set_option maxHeartbeats 16000000
namespace Go.Proofs.YtinajlbijgedbaaGreat.Dsk
open Lib (hid)
open Go.RowKit Mem Crc DiskSpec
theorem JU {w:World} {base n:Nat} {v:Value} {l:List Nat} (h:w.ownsRow base 3 1 v n (ou l)) :
 n=l.length/\∃ A c,v=.slice A n c/\∀ j,j < n->∃ g,A=some ⟨g,0,none⟩/\base<=g/\g < w.heap.size/\w.cell? ⟨g,j,none⟩=some (.int .i64 (l.getD j 0:Nat)):=by
 have hn:n=l.length:=by have:=h.1; rw [Ei] at this; omega
 refine ⟨hn,?_⟩;rcases h.2 with ⟨rfl,h0⟩ | ⟨g,cap,cur,rfl,hbg,hh,_⟩
 · subst h0; exact ⟨none,0,rfl,λj hj=>by omega⟩
 · refine ⟨_,cap,rfl,λj hj=>⟨g,rfl,hbg,(Array.getElem?_eq_some_iff.1 hh).1,?_⟩⟩;have h1:=World.ownsRow.cells h (g:=g) rfl j _ (Qj l j (by omega));have e1:(⟨g,0,none⟩:Addr).add j=⟨g,j,none⟩:=by unfold Addr.add; split <;> simp_all
   rw [e1] at h1;rw [h1,akg,akj (by omega)]; rfl
theorem PS {S:St} {j:Nat} (hj:j < S.aJ.length):S.aJ.getD j 0 < S.n:=by
 rw [akg,akj hj];exact ((ow _).1 (List.getElem_mem hj)).1
theorem FI (S:St):S.aJ.length<=S.n:=by
 have:=List.length_filter_le (λk=>!(S.ae k).isEmpty) (List.range S.n)
 simpa [St.aJ] using this
theorem K9 {w:World} {B b bd bm:Nat} {S:St} {f:Nat->Option Value} {own:Nat->Prop} (h:Lay w B b bd bm f S own) (hf3:S.f3≠1) (hlf:S.left≠0) :
 Calls Tryz.prog 51 #[.pointer (some ⟨b,0,none⟩)] w λe w'=>e=.returned (.int .i64 0)/\(∃ f',Lay w' B b bd bm f' ({ S with f3:=S.f3 - 1 }:St).flush.done own)/\aa w w' own own:=by
 have HD:=hid (EC h);rw [show (decide (S.f3=1) || decide (S.left=0))=false by simp [hf3,hlf]] at HD;have jB:=hid h.ownB;clear h;generalize ({ S with f3:=S.f3 - 1 }:St)=T at *;go_enter Tryz.func51,Tryz.ntmps51;go_wp2_with fail;refine HD.out.mono ?_;rintro e w1 ⟨rfl,hg1,hl1⟩;have OL:=hid (G9 hl1);have HT1:=hid (aa.aA (own:=own) hg1 (λq e=>by cases e; exact jB.out)); have H1:=hid hl1; clear hg1 hl1;go_wp2_with fail
 refine OL.out.mono ?_;rintro e w2 ⟨v,rfl,hrow,hg2⟩;obtain ⟨_,A,c,rfl,hcells⟩:=JU hrow;have hdl:=FI T;have htop:=H1.out.ok.top;have Im:=hid hcells;have HL2:=hid (H1.out.grown hg2 (λ_ e=>by cases e));have HT2:=hid (HT1.out.trans (aa.none_ hg2));have nJ:=hid (λg (hg:w1.heap.size<=g) (ho:own g)=>by have:=H1.out.lt g ho; omega:∀ g,w1.heap.size<=g->¬ own g);clear hrow hg2 hcells;go_wp2_with fail
 go_loopw [4,10] (λ_ i wr=>∃ (j:Nat) (f':Nat->Option Value),j<=T.aJ.length/\i=.int .i64 j/\Lay wr B b bd bm f' (T.settles (T.aJ.take j)) own/\aa w2 wr own own) (λ_ i _=>T.aJ.length - (Go.RowKit.intOf i).toNat)
 case atStart=>exact ⟨0,f,by omega,rfl,HL2.out,aa.refl _ _⟩
 case round =>
  obtain ⟨j,f',hj,rfl,hl,ht⟩:=hrel;have HL:=hid hl; have jQ:=hid ht; clear hl ht
  by_cases hlt:j < T.aJ.length
  · obtain ⟨g,rfl,hgb,hgl,hc⟩:=Im.out j hlt;have hcj:wr.cell? ⟨g,j,none⟩=some (.int .i64 (T.aJ.getD j 0:Nat)):=by
     rw [aki (a:=⟨g,j,none⟩) (jQ.out.block g hgl (nJ.out g hgb))]; exact hc
    have hb:=PS hlt;have hn:(T.settles (T.aJ.take j)).n=T.n:=(rQ T _).1;have HST:=hid (yT HL.out (T.aJ.getD j 0) (by rw [hn]; exact hb));have htk:T.aJ.take (j+1)=T.aJ.take j ++ [T.aJ.getD j 0]:=by
     rw [List.take_succ_eq_append_getElem hlt,akg,akj hlt]; rfl
    rw [<-BI,<-htk] at HST;clear htk hn hc;generalize T.aJ.getD j 0=at_ at *;generalize hdn:T.aJ.length=dn at *;have KH:=hid hdn; clear hdn;go_wp2_with fail;refine HST.out.mono ?_;rintro e w9 ⟨rfl,⟨f9,kP⟩,Em⟩;have sO:=hid kP; have zG:=hid (jQ.out.trans Em); clear kP Em;go_wp2_with fail
    go_roundw
    case rel=>exact ⟨j+1,f9,by omega,by go_num,sO.out,zG.out⟩
    case measure=>simp [Go.RowKit.intOf]; omega
  · obtain rfl:j=T.aJ.length:=by omega
    have hall:T.settles (T.aJ.take T.aJ.length)=T.flush:=by rw [List.take_length,O5 H1.out.ok]
    rw [hall] at HL;have KH:=hid (Kk HL.out);clear hall;generalize hdn:T.aJ.length=dn at *;go_wp2_with fail;refine KH.out.mono ?_;rintro e w9 ⟨rfl,qY,kP⟩;have sO:=hid kP; have zG:=hid ((HT2.out.trans jQ.out).trans (aa.aA qY (λq e=>by cases e; exact jB.out))); clear kP qY;go_wp2;go_ret;exact ⟨rfl,⟨f',sO.out⟩,zG.out⟩
theorem G8 {w:World} {B b bd bm:Nat} {S:St} {f:Nat->Option Value} {own:Nat->Prop} (h:Lay w B b bd bm f S own) (hs:S.f3=1\/S.left=0) :
 Calls Tryz.prog 51 #[.pointer (some ⟨b,0,none⟩)] w λe w'=>e=.returned (.int .i64 12)/\Lay w' B b bd bm f { S with f3:=S.f3 - 1 } own/\aa w w' own own:=by
 have HD:=hid (EC h);rw [show (decide (S.f3=1) || decide (S.left=0))=true by simp; exact hs] at HD;have jB:=hid h.ownB;clear h hs;generalize ({ S with f3:=S.f3 - 1 }:St)=T at *;go_enter Tryz.func51,Tryz.ntmps51;go_wp2_with fail;refine HD.out.mono ?_;rintro e w1 ⟨rfl,hg1,hl1⟩;have az:=hid hg1; have H1:=hid hl1; clear hg1 hl1;go_wp2;go_ret;exact ⟨rfl,H1.out,aa.aA az.out (λq e=>by cases e; exact jB.out)⟩
def yw (w:World) (own:Nat->Prop) (A:Option Addr) (n:Nat) (l:List Int):Prop :=
 l.length=n/\(∀ x∈l,-9223372036854775808<=x/\x<=9223372036854775807)/\(0 < n->∃ g o,A=some ⟨g,o,none⟩/\g < w.heap.size/\¬ own g/\∀ j,j < n->w.cell? ⟨g,o+j,none⟩=some (.int .i64 (l.getD j 0)))
theorem yw.turn {w w':World} {own own':Nat->Prop} {A:Option Addr} {n:Nat} {l:List Int} (h:yw w own A n l) (ht:aa w w' own own'):yw w' own' A n l:=by
 refine ⟨h.1,h.2.1,λhn=>?_⟩;obtain ⟨g,o,e,hlt,hno,hc⟩:=h.2.2 hn;refine ⟨g,o,e,ake hlt ht.size,λho=>by rcases ht.fresh g ho with h1 | h1; exact hno h1; omega,λj hj=>?_⟩;rw [aki (a:=⟨g,o+j,none⟩) (ht.block g hlt hno)];exact hc j hj
section
variable {w w':World} {B b bd bm:Nat} {S T:St} {f:Nat->Option Value} {own:Nat->Prop}
theorem Lay.struct (h:Lay w B b bd bm f S own) (hg:w.grownBy w' (some b)) (hT:T.ok) (hn:T.n=S.n) (hd:T.ag=S.ag) (hv:T.ae=S.ae)
 (hb:af w' b 106 #[.slice (some ⟨bd,0,none⟩) T.n T.n,.map (some bm),.int .i64 0,.int .i64 (T.f1:Nat),.int .i64 (T.f2:Nat),.int .i64 (T.f3:Nat),.int .i64 T.left]):Lay w' B b bd bm f T own where
 ok:=hT
 blk:=hb
 ag i hi:=by rw [hd]; exact rangeAt_of_block (h.ag i (by omega)) (hg.block bd (h.lt bd h.jL) (by simpa using λe=>h.bd_ e.symm))
 room:=by rw [hn]; exact jS h.room (hg.block bd (h.lt bd h.jL) (by simpa using λe=>h.bd_ e.symm))
 map:=by rw [hn]; exact h.map.of_block (hg.block bm (h.lt bm h.lq) (by simpa using λe=>h.sZ e.symm))
 rows:=(h.rows.keep (λi hi hb _ _=>hg.block i (h.lt i hi) (by simpa using hb))).same hv
 ownB:=h.ownB
 jL:=h.jL
 lq:=h.lq
 bd_:=h.bd_
 sZ:=h.sZ
 sH:=h.sH
 low:=h.low
 lt i hi:=ake (h.lt i hi) hg.size
theorem Lay.QD (h:Lay w B b bd bm f S own) (ty:TypeId) :
 ∃ w',(Builtin.clear_ #[104] ty #[.map (some bm)]).run Tryz.prog w=.ok (.tuple #[]) w'/\Lay w' B b bd bm (λ_=>none) { S with ae:=λ_=>[] } own/\w.grownBy w' (some bm):=by
 obtain ⟨w',hrun,hm,hg⟩:=h.map.clear (t:=104) (E:=103) Tryz.underlying104 ty;exact ⟨w',hrun,h.clear hg hm,hg⟩
theorem Lay.TT (h:Lay w B b bd bm f S own) (ty:TypeId) :
 (Builtin.clear_ #[45] ty #[.slice (some ⟨b,2,none⟩) 4 4]).run Tryz.prog w=.ok (.tuple #[]) (w.setCells b 2 [.int .i64 0,.int .i64 0,.int .i64 0,.int .i64 0]) /\
   Lay (w.setCells b 2 [.int .i64 0,.int .i64 0,.int .i64 0,.int .i64 0]) B b bd bm f { S with f1:=0,f2:=0,f3:=0 } own/\w.grownBy (w.setCells b 2 [.int .i64 0,.int .i64 0,.int .i64 0,.int .i64 0]) (some b):=by
 have hst:=run_storeCells_cells (P:=Tryz.prog) b 2 [.int .i64 0,.int .i64 0,.int .i64 0,.int .i64 0] 0 w
  (λj hj=>by
    have hj':j < 4:=hj;rw [h.blk.cell]
    match j,hj' with
    | 0,_=>rfl
    | 1,_=>rfl
    | 2,_=>rfl
    | 3,_=>rfl)
  (λj _=>h.blk.frozen _) (λv hv=>by simp at hv; subst hv; rfl)
 refine ⟨?_,h.struct (T:={ S with f1:=0,f2:=0,f3:=0 }) (jV b _ _ w) { h.ok with f1:=aks _,f2:=aks _,f3:=aks _ } rfl rfl rfl ?_,jV b _ _ w⟩
 · have hzc:Builtin.zeroCells (Value.int .i64 0).cells 4=#[Value.int .i64 0,Value.int .i64 0,Value.int .i64 0,Value.int .i64 0]:=by kernel_rfl
   simp [Builtin.clear_,run_underlying Tryz.underlying45,hzc]
   have:=hst
   simp at this
   rw [this]
   rfl
 · exact (((h.blk.aC 2 (.int .i64 0)).aC 3 (.int .i64 0)).aC 4 (.int .i64 0)).aC 5 (.int .i64 0)
end
theorem SQ {w:World} {B b bd bm:Nat} {S:St} {f:Nat->Option Value} {own:Nat->Prop} (h:Lay w B b bd bm f S own) (A:Option Addr) (n c:Nat) (picks:List Int) (hp:yw w own A n picks) (hnm:n<=9223372036854775807) (hroom:∀ i,(S.ae i).length < 549755813888) :
 Calls Tryz.prog 44 #[.pointer (some ⟨b,0,none⟩),.slice A n c] w λe w'=>e=.returned (.tuple #[])/\(∃ f',Lay w' B b bd bm f' (S.gm picks) own)/\aa w w' own own:=by
 have OL:=hid (G9 h);have htop:=h.ok.top;have hdl:=FI S;have aU:=hid h.ok;have jB:=hid h.ownB;have H1:=hid h;have HP:=hid hp;have bB:=hid hroom;clear hp h hroom;go_enter Tryz.func44,Tryz.ntmps44;go_wp2_with fail;refine OL.out.mono ?_;rintro e w2 ⟨v,rfl,hrow,hg2⟩;obtain ⟨_,A',c',rfl,hcells⟩:=JU hrow;have Im:=hid hcells;have HL2:=hid (H1.out.grown hg2 (λ_ e=>by cases e));have HT2:=hid (aa.none_ (own:=own) hg2)
 have nJ:=hid (λg (hg:w.heap.size<=g) (ho:own g)=>by have:=H1.out.lt g ho; omega:∀ g,w.heap.size<=g->¬ own g);clear hrow hg2 hcells;go_wp2_with fail
 go_loopw [4,5,6,7,11] (λ_ _ _ _ i wr=>∃ j:Nat,j<=S.aJ.length/\j<=n/\i=.int .i64 j/\Lay wr B b bd bm f { S with ag:=S.bY picks j } own/\aa w2 wr own own) (λ_ _ _ _ i _=>S.aJ.length - (Go.RowKit.intOf i).toNat)
 case atStart=>exact ⟨0,by omega,by omega,rfl,by rw [Be]; exact HL2.out,aa.refl _ _⟩
 case round =>
  obtain ⟨j,hj,hjn,rfl,hl,ht⟩:=hrel;have HL:=hid hl; have jQ:=hid ht; clear hl ht
  by_cases hlt:j < S.aJ.length
  · obtain ⟨g,rfl,hgb,hgl,hc⟩:=Im.out j hlt;have hcj:wr.cell? ⟨g,j,none⟩=some (.int .i64 (S.aJ.getD j 0:Nat)):=by
     rw [aki (a:=⟨g,j,none⟩) (jQ.out.block g hgl (nJ.out g hgb))]; exact hc
    clear hc
    by_cases hjb:j=n
    · have jE:=(show j=S.aJ.length\/j=picks.length from .inr (by rw [HP.out.1]; exact hjb));subst hjb;generalize S.aJ.getD j 0=at_ at *;have hL0:Lay wr B b bd bm f { S with ag:=(S.gm picks).ag } own:=by rw [<-xC aU.out picks (k:=j) jE]; exact HL.out
      obtain ⟨wc,hrun,hlc,hgc⟩:=hL0.QD 0;obtain ⟨aee,xy,Np⟩:=hlc.TT 0;have hf6:=xy.fz 6;have Br:=xy.c6;have hc1:=hL0.c1;have hlast:=xy.struct (T:=S.gm picks) (w':=(wc.setCells b 2 [.int .i64 0,.int .i64 0,.int .i64 0,.int .i64 0]).setCell ⟨b,6,none⟩ (.int .i64 (-1))) (akd (akr _ _) _ _) (aU.out.gm picks) rfl rfl rfl (xy.blk.aC 6 (.int .i64 (-1)));have Ib:=hid hlast;have CP:=hid ((((HT2.out.trans jQ.out).trans (aa.aA hgc (λq e=>by cases e; exact hL0.lq))).trans (aa.aA Np (λq e=>by cases e; exact jB.out))).trans (aa.aA (akd (akr (wc.setCells b 2 [.int .i64 0,.int .i64 0,.int .i64 0,.int .i64 0]) (some b)) 6 (.int .i64 (-1))) (λq e=>by cases e; exact jB.out)))
      clear hL0 hlc xy hgc Np hlast;generalize wc.setCells b 2 [.int .i64 0,.int .i64 0,.int .i64 0,.int .i64 0]=wd at *;go_wp2
      go_end0
      exact ⟨rfl,⟨_,Ib.out⟩,CP.out⟩
    · have hjb':((j:Int) == (n:Int))=false:=by simp; omega
      have agl:j < n:=by omega
      obtain ⟨g3,o3,rfl,hg3,_,hcp⟩:=(HP.out.turn (HT2.out.trans jQ.out)).2.2 (by omega);have Sv:=hcp j agl;have yS:S.aJ[j]?=some (S.aJ.getD j 0):=by rw [akg,akj hlt]; rfl
      have hstep:=vI S picks yS;have Si:=Ld S picks yS;have hmem:=(ow (S.aJ.getD j 0)).1 (akx yS);generalize S.aJ.getD j 0=at_ at *;generalize picks.getD j 0=pk at *;obtain ⟨lX,Sd⟩:=hmem;obtain ⟨g2,cap,hfi,hcap,hmax,_,agt,hat⟩:=HL.out.Lt at_ Sd;have hlk:=HL.out.map.look (t:=104) (E:=103) Tryz.underlying3 Tryz.underlying104 (Dm wr) at_ (by omega);rw [hfi] at hlk;simp only [Option.getD_some] at hlk
      have hat':∀ q x,(S.ae at_)[q]?=some x->wr.rangeAt g2 (q * 256) (au x):=hat;have aiP:(S.ae at_).length<=cap:=hcap;have ai3:(Instr.lookup 104 (.map (some bm)) (.int .i64 (at_:Nat)) false).run Tryz.prog wr=.ok (.slice (some ⟨g2,0,none⟩) (S.ae at_).length cap) wr:=hlk;clear hat hcap hlk hfi hcp;have hpick:ja (S.ag at_) (S.ae at_) pk=if (pk % ((S.ae at_).length+1:Int)).toNat=0 then S.ag at_ else (S.ae at_).getD ((pk % ((S.ae at_).length+1:Int)).toNat - 1) (S.ag at_):=rfl
      have hsv:=aU.out.ae at_;have hm0:0 < (S.ae at_).length:=List.length_pos_iff.2 Sd;have hmr:=bB.out at_;generalize qj:(S.ae at_).length=m at *;have hmm:m < 9223372036854775807:=by omega
      have ac5:=hid (KT pk m wr hmm);have he:=Int.emod_nonneg pk (show ((m:Int)+1)≠0 by omega);have hle:=Int.emod_lt_of_pos pk (show (0:Int) < (m:Int)+1 by omega);generalize pk % ((m:Int)+1)=r at *;have Nf:IntKind.i64.wrap ((m:Int)+1)=(m:Int)+1:=IntWalk.i64_in _ (by omega);have hc1:=HL.out.c1
      by_cases hr0:r=0
      · subst hr0;rw [show (0:Int).toNat=0 from rfl,if_pos rfl] at hpick;have HSK:=hid (Si hpick);clear Si hstep hpick hsv yS he hle hat' qj;go_wp2_with fail;refine ac5.out.mono ?_;rintro e w9 ⟨rfl,rfl⟩;go_wp2_with fail
        go_roundw
        case rel=>exact ⟨j+1,by omega,by omega,by go_num,by rw [HSK.out]; exact HL.out,jQ.out⟩
        case measure=>simp [Go.RowKit.intOf]; omega
      · obtain ⟨q,rfl⟩:∃ q:Nat,r=(q:Int)+1:=⟨(r - 1).toNat,by omega⟩;have hq:q < (S.ae at_).length:=by omega
        rw [show ((q:Int)+1).toNat=q+1 from by omega,if_neg (by omega),Nat.add_sub_cancel,akg,akj hq,Option.getD_some] at hpick;have hx:=hsv _ (List.getElem_mem hq);have hrq:=hat' q _ (akj hq);rw [hpick] at hstep;generalize (S.ae at_)[q]=x at *;have hsd:=HL.out.drew.Uj lX hx;rw [Nat.mul_comm] at hsd;have hth:=HL.out.drew.Ip lX;have vT:=hid (show wr.drew.cell? ⟨b,0,none⟩=some (.slice (some ⟨bd,0,none⟩) S.n S.n)/\wr.drew.rangeAt g2 (q * 256) (au x)/\wr.drew.there bd (at_ * 256) 256 from ⟨HL.out.drew.c0,hrq,hth⟩)
        have nN:=hid (show (wr.drew.setCells bd (at_ * 256) (au x)).cell? ⟨b,0,none⟩=some (.slice (some ⟨bd,0,none⟩) S.n S.n)/\(wr.drew.setCells bd (at_ * 256) (au x)).rangeAt g2 (q * 256) (au x)/\(wr.drew.setCells bd (at_ * 256) (au x)).there bd (at_ * 256) 256 from
         ⟨hsd.c0,rangeAt_of_block hrq (mU bd _ _ wr.drew g2 agt),World.there_setCells hth bd _ _⟩)
        have WG:=hid (show Lay (wr.drew.setCells bd (at_ * 256) (au x)) B b bd bm f { S with ag:=S.bY picks (j+1) } own by rw [hstep]; exact hsd);have HTS:=hid (jQ.out.trans ((aa.none_ (ah wr none)).trans (aa.aA (jV bd (au x) (at_ * 256) wr.drew) (λk e=>by cases e; exact HL.out.jL))));have hI:(Tryz.prog.info? 141).map (·.size)=some (au x).length:=by rw [aB,hx.1]; exact Dx
        have hU:Tryz.prog.underlying 141=some (.array 256 5):=Tryz.underlying141;have hLn:(au x).length=256:=by rw [aB,hx.1]
        have hOn:=fO x;have hc0:=HL.out.c0;have hwq:IntKind.i64.wrap (q:Int)=(q:Int):=IntWalk.i64_in _ (by omega);have hqm:(q:Int) < (m:Int):=by omega
        have hq0:(0:Int)<=(q:Int):=by omega
        have aja:(at_:Int) < (S.n:Int):=by omega
        have hpos:decide ((0:Int) < (q:Int)+1)=true:=decide_eq_true (by omega);clear Si hstep hpick hsv yS he hle hat' hsd hth hrq hx qj;generalize au x=xc at *;go_wp2_with fail;refine ac5.out.mono ?_;rintro e w9 ⟨rfl,rfl⟩;go_wp2_with fail
        go_region_held3 (λwx=>wx.cell? ⟨b,0,none⟩=some (.slice (some ⟨bd,0,none⟩) S.n S.n)/\wx.rangeAt g2 (q * 256) xc/\wx.there bd (at_ * 256) 256)
         (first
           | exact vT.out
           | exact nN.out)
         (fail)
        go_wp2_with fail
        go_roundw
        case rel=>exact ⟨j+1,by omega,by omega,by go_num,WG.out,HTS.out⟩
        case measure=>simp [Go.RowKit.intOf]; omega
  · obtain rfl:j=S.aJ.length:=by omega
    have jE:=(show S.aJ.length=S.aJ.length\/S.aJ.length=picks.length from .inl rfl);have hL0:Lay wr B b bd bm f { S with ag:=(S.gm picks).ag } own:=by rw [<-xC aU.out picks (k:=S.aJ.length) jE]; exact HL.out
    obtain ⟨wc,hrun,hlc,hgc⟩:=hL0.QD 0;obtain ⟨aee,xy,Np⟩:=hlc.TT 0;have hf6:=xy.fz 6;have Br:=xy.c6;have hc1:=hL0.c1;have hlast:=xy.struct (T:=S.gm picks) (w':=(wc.setCells b 2 [.int .i64 0,.int .i64 0,.int .i64 0,.int .i64 0]).setCell ⟨b,6,none⟩ (.int .i64 (-1))) (akd (akr _ _) _ _) (aU.out.gm picks) rfl rfl rfl (xy.blk.aC 6 (.int .i64 (-1)));have Ib:=hid hlast;have CP:=hid ((((HT2.out.trans jQ.out).trans (aa.aA hgc (λq e=>by cases e; exact hL0.lq))).trans (aa.aA Np (λq e=>by cases e; exact jB.out))).trans (aa.aA (akd (akr (wc.setCells b 2 [.int .i64 0,.int .i64 0,.int .i64 0,.int .i64 0]) (some b)) 6 (.int .i64 (-1))) (λq e=>by cases e; exact jB.out)))
    clear hL0 hlc xy hgc Np hlast;generalize wc.setCells b 2 [.int .i64 0,.int .i64 0,.int .i64 0,.int .i64 0]=wd at *;go_wp2
    go_end0
    exact ⟨rfl,⟨_,Ib.out⟩,CP.out⟩
end Go.Proofs.YtinajlbijgedbaaGreat.Dsk
