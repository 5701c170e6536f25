/- Texts of this seat's proofs: RefCrash. -/
import Derived.Test.YtinajlbijgedbaaGreatQRefFail
import Derived.Test.YtinajlbijgedbaaGreatQDiskFlush
set_option maxRecDepth 100000
set_option maxHeartbeats 16000000
namespace Go.Proofs.YtinajlbijgedbaaGreat.Dsk
open Lib (hid)
open Go.RowKit Mem Crc DiskSpec
def gL (S:St) (k:Nat):Nat->List (List Nat):=λi=>if S.aJ.idxOf i < k then [] else S.ae i
theorem Lb (S:St):gL S 0=S.ae:=by funext i; simp [gL]
theorem Lc (S:St) {k a:Nat} (hk:S.aJ[k]?=some a):gL S (k+1)=upd (gL S k) a []:=by
 have hkl:k < S.aJ.length:=(List.getElem?_eq_some_iff.1 hk).1;have hka:S.aJ[k]=a:=(List.getElem?_eq_some_iff.1 hk).2;have hid:S.aJ.idxOf a=k:=by rw [<-hka]; exact (uE S).idxOf_getElem k hkl
 funext i
 by_cases hi:i=a
 · subst hi; simp [gL,upd,hid]
 · have hne:S.aJ.idxOf i≠k:=by
    intro e;have hil:S.aJ.idxOf i < S.aJ.length:=by omega
    have:=List.getElem_idxOf hil
    apply hi
    rw [<-this,<-hka]
    simp [e]
   simp only [gL,upd,hi,if_false]
   by_cases h1:S.aJ.idxOf i < k
   · rw [if_pos h1,if_pos (by omega)]
   · rw [if_neg h1,if_neg (by omega)]
theorem NQ {S:St} (h:S.ok):gL S S.aJ.length=λ_=>[]:=by
 funext i
 unfold gL
 split
 · rfl
 · rename_i hlt
   have hn:¬ i∈S.aJ:=λhm=>hlt (List.idxOf_lt_length_of_mem hm)
   rcases Nat.lt_or_ge i S.n with h1 | h1
   · exact Classical.byContradiction λhne=>hn ((ow i).2 ⟨h1,hne⟩)
   · exact h.out i h1
theorem YE {S:St} (picks:List Int) {k a:Nat} (hk:S.aJ[k]?=some a):S.bY picks k a=S.ag a/\gL S k a=S.ae a:=by
 have hkl:k < S.aJ.length:=(List.getElem?_eq_some_iff.1 hk).1;have hka:S.aJ[k]=a:=(List.getElem?_eq_some_iff.1 hk).2;have hid:S.aJ.idxOf a=k:=by rw [<-hka]; exact (uE S).idxOf_getElem k hkl
 exact ⟨by simp [St.bY,hid],by simp [gL,hid]⟩
theorem XF {w:World} {base n:Nat} {v:Value} {l:List Nat} (h:Own w base 3 1 v n (ou l)):n=l.length/\∃ A c,v=.slice A n c/\∀ j,j < n->∃ g,A=some ⟨g,0,none⟩/\base<=g/\g < w.heap.size/\w.cell? ⟨g,j,none⟩=some (.int .i64 (l.getD j 0:Nat)):=by
 have hn:n=l.length:=by have:=h.len; rw [Ei] at this; omega
 obtain ⟨A,c,rfl,_,_,_⟩:=h.shape;refine ⟨hn,A,c,rfl,λj hj=>?_⟩;obtain ⟨g,cap,e,hb,hlt,_,_,hc⟩:=h.reads (by omega);simp only [Value.slice.injEq] at e;obtain ⟨rfl,_,_⟩:=e;refine ⟨g,rfl,hb,hlt,?_⟩;rw [hc j _ (Qj l j (by omega)),akg,akj (by omega)]; rfl
theorem UA {w:World} {B r bl c:Nat} {dv vv:Nat->Value} {vs:Nat->List Value} {S:St} {own:Nat->Prop} (h:aP w B r bl c dv vv vs S own) (A:Option Addr) (n cc:Nat) (picks:List Int) (hp:yw w own A n picks) (hnm:n<=9223372036854775807) (hroom:∀ i,(S.ae i).length < 549755813888) :
 Calls Tryz.prog 45 #[.pointer (some ⟨r,0,none⟩),.slice A n cc] w λe w'=>e=.returned (.tuple #[])/\(∃ kV ko vs',aP w' B r bl c kV ko vs' (S.gm picks) own)/\aa w w' own own:=by
 have OL:=hid (Uz h);have htop:=h.ok.top;have hcap:=h.cap;have hdl:=FI S;have aU:=hid h.ok;have jB:=hid h.jK;have Ou:=hid h.og;have H1:=hid h;have HP:=hid hp;have bB:=hid hroom;clear hp h hroom;go_enter Tryz.func45,Tryz.ntmps45;go_wp2_with fail;refine OL.out.mono ?_;rintro e w2 ⟨v,rfl,hrow,hg2⟩;obtain ⟨_,A',c',rfl,hcells⟩:=XF hrow;have Im:=hid hcells;have HL2:=hid (H1.out.grown hg2 (λ_ e=>by cases e))
 have HT2:=hid (aa.none_ (own:=own) hg2);have nJ:=hid (λg (hg:w.heap.size<=g) (ho:own g)=>by have:=H1.out.lt g ho; omega:∀ g,w.heap.size<=g->¬ own g);clear hrow hg2 hcells;go_wp2_with fail
 go_loopw [5,6,7,8] (λi _ _ _ wr=>∃ (j:Nat) (kV ko:Nat->Value) (vs':Nat->List Value),j<=S.aJ.length/\i=.int .i64 j/\aP wr B r bl c kV ko vs' { S with ag:=S.bY picks j,ae:=gL S j } own/\aa w2 wr own own) (λi _ _ _ _=>S.aJ.length - (Go.RowKit.intOf i).toNat)
 case atStart=>exact ⟨0,dv,vv,vs,by omega,rfl,by rw [Be,Lb]; exact HL2.out,aa.refl _ _⟩
 case round =>
  obtain ⟨j,kV,ko,vs',hj,rfl,hl,ht⟩:=hrel;have HL:=hid hl; have jQ:=hid ht; clear hl ht
  by_cases hlt:j < S.aJ.length
  · obtain ⟨g,rfl,hgb,hgl,hc⟩:=Im.out j hlt;have hcj:wr.cell? ⟨g,j,none⟩=some (.int .i64 (S.aJ.getD j 0:Nat)):=by
     rw [aki (a:=⟨g,j,none⟩) (jQ.out.block g hgl (nJ.out g hgb))]; exact hc
    have yS:S.aJ[j]?=some (S.aJ.getD j 0):=by rw [akg,akj hlt]; rfl
    have hmem:=(ow (S.aJ.getD j 0)).1 (akx yS);have Vp:=vI S picks yS;have Vo:=Lc S yS;have Sy:=YE picks yS;have Nn:=nJ.out g hgb;have ab4:g < wr.heap.size:=ake hgl jQ.out.size;clear hc;generalize S.aJ.getD j 0=at_ at *;generalize hpk:picks.getD j 0=pk at *;obtain ⟨lX,Sd⟩:=hmem;obtain ⟨A2,m,cap,hvv,hm,hmc,hcm,_,_⟩:=HL.out.now lX;have qj:m=(S.ae at_).length:=by rw [hm]; exact congrArg List.length Sy.2
    have hm0:0 < m:=by rw [qj]; exact List.length_pos_iff.2 Sd
    have hmr:=bB.out at_;rw [<-qj] at hmr;have Au:Part wr own (kV at_) (ko at_) (vs' at_) (S.bY picks j at_) (gL S j at_):=HL.out.part at_ lX;rw [Sy.1,Sy.2] at Au;have hcd:=HL.out.cd lX; have hcv:=HL.out.cv lX; have hrc:=HL.out.rc;rw [hvv] at hcv Au;obtain ⟨gd,cd,hdi⟩:∃ gd cd,kV at_=.slice (some ⟨gd,0,none⟩) 256 cd:=by obtain ⟨g,c',_,_,e,_⟩:=Au.ag; exact ⟨g,c',e⟩
    rw [hdi] at hcd Au;have Qz:=(aj9 wr (.cells #[.slice (some ⟨gd,0,none⟩) 256 cd,.slice A2 m cap] 68) none).trans (ah _ none);have HWX:=hid Qz;have Qv:=HL.out.grown Qz (λ_ e=>by cases e);have hbX:=(af.new wr 68 #[.slice (some ⟨gd,0,none⟩) 256 cd,.slice A2 m cap]).drew;have hX0:=hbX.cell 0; have hX1:=hbX.cell 1;simp only [akb,aka,akc] at hX0 hX1
    have Sw:(wr.alloc (.cells #[.slice (some ⟨gd,0,none⟩) 256 cd,.slice A2 m cap] 68)).drew.cell? ⟨g,j,none⟩=some (.int .i64 (at_:Nat)):=(aki (a:=⟨g,j,none⟩) (Qz.block g ab4 (by simp))).trans hcj;have vT:=hid (show wr.drew.cell? ⟨r,0,none⟩=some (.slice (some ⟨bl,0,none⟩) S.n c)/\wr.drew.cell? ⟨g,j,none⟩=some (.int .i64 (at_:Nat))/\wr.drew.cell? ⟨bl,at_ * 2,none⟩=some (.slice (some ⟨gd,0,none⟩) 256 cd)/\wr.drew.cell? ⟨bl,at_ * 2+1,none⟩=some (.slice A2 m cap) from ⟨hrc,hcj,hcd,hcv⟩)
    have hl1:=HL.out.alloc (.cells #[.slice none 0 0,.slice none 0 0] 68);have hc1:=hl1.cd lX; have hc2:=hl1.cv lX;rw [hdi] at hc1;rw [hvv] at hc2;have nN:=hid (show (wr.alloc (.cells #[.slice none 0 0,.slice none 0 0] 68)).drew.cell? ⟨r,0,none⟩=some (.slice (some ⟨bl,0,none⟩) S.n c)/\(wr.alloc (.cells #[.slice none 0 0,.slice none 0 0] 68)).drew.cell? ⟨g,j,none⟩=some (.int .i64 (at_:Nat))/\(wr.alloc (.cells #[.slice none 0 0,.slice none 0 0] 68)).drew.cell? ⟨bl,at_ * 2,none⟩=some (.slice (some ⟨gd,0,none⟩) 256 cd)/\(wr.alloc (.cells #[.slice none 0 0,.slice none 0 0] 68)).drew.cell? ⟨bl,at_ * 2+1,none⟩=some (.slice A2 m cap) from
     ⟨hl1.rc,(aki (a:=⟨g,j,none⟩) (Below.heap_alloc wr _ g ab4)).trans hcj,hc1,hc2⟩)
    have Yi:=Qv.cd lX; have Yh:=Qv.cv lX;rw [hdi] at Yi;rw [hvv] at Yh;have nk:=hid (show (wr.alloc (.cells #[.slice (some ⟨gd,0,none⟩) 256 cd,.slice A2 m cap] 68)).drew.cell? ⟨r,0,none⟩=some (.slice (some ⟨bl,0,none⟩) S.n c)/\(wr.alloc (.cells #[.slice (some ⟨gd,0,none⟩) 256 cd,.slice A2 m cap] 68)).drew.cell? ⟨g,j,none⟩=some (.int .i64 (at_:Nat))/\(wr.alloc (.cells #[.slice (some ⟨gd,0,none⟩) 256 cd,.slice A2 m cap] 68)).drew.cell? ⟨bl,at_ * 2,none⟩=some (.slice (some ⟨gd,0,none⟩) 256 cd)/\(wr.alloc (.cells #[.slice (some ⟨gd,0,none⟩) 256 cd,.slice A2 m cap] 68)).drew.cell? ⟨bl,at_ * 2+1,none⟩=some (.slice A2 m cap) from
     ⟨Qv.rc,Sw,Yi,Yh⟩)
    have HHX:=hid Qv;have Lm:=hid (Au.keep (λ_ h=>h) (λq _ _ ho _=>Qz.block q (HL.out.lt q ho) (by simp)) (λq hq=>Qz.block q (HL.out.lt q (Au.mine q hq)) (by simp)):Part (wr.alloc (.cells #[.slice (some ⟨gd,0,none⟩) 256 cd,.slice A2 m cap] 68)).drew own _ _ _ _ _);have af8:=Qv.rc;have HML:=hid qj;have hpd:ja (S.ag at_) (S.ae at_) pk=if (pk % (m+1:Int)).toNat=0 then S.ag at_ else (S.ae at_).getD ((pk % (m+1:Int)).toNat - 1) (S.ag at_):=by rw [qj]; rfl
    have HPD:=hid hpd;have WG:=hid Vp; have fw:=hid Vo; have ve:=hid hpk;have oO:=hid hvv; have HDI:=hid hdi;have Nq:g≠bl:=λe=>Nn (by rw [e]; exact Ou.out)
    clear hl1 hc1 hc2 Qz hbX Qv Au Yi Yh hcd hcv hrc hcj hvv hdi qj hm hpd Vp Vo Sy hmc hpk;go_wp2_with fail
    go_region_held3 (λwx=>wx.cell? ⟨r,0,none⟩=some (.slice (some ⟨bl,0,none⟩) S.n c)/\wx.cell? ⟨g,j,none⟩=some (.int .i64 (at_:Nat))/\wx.cell? ⟨bl,at_ * 2,none⟩=some (.slice (some ⟨gd,0,none⟩) 256 cd)/\wx.cell? ⟨bl,at_ * 2+1,none⟩=some (.slice A2 m cap))
     (first
       | exact vT.out
       | exact nN.out
       | exact nk.out)
     (fail)
    generalize hwX:(wr.alloc (.cells #[.slice (some ⟨gd,0,none⟩) 256 cd,.slice A2 m cap] 68)).drew=wX at *;have YX:=hid (show wr.grownBy wX none from HWX.out);clear vT nN nk af8
    by_cases hjb:j < n
    · obtain ⟨g3,o3,rfl,hg3,_,hcp⟩:=(HP.out.turn (HT2.out.trans jQ.out)).2.2 (by omega);have Sv:=hcp j hjb;rw [ve.out] at Sv;have acd:=(aki (a:=⟨g3,o3+j,none⟩) (HWX.out.block g3 hg3 (by simp))).trans Sv;clear hcp Sv;have hp:(0:Int) < (m:Int)+1:=by omega
      have he:=Int.emod_nonneg pk (show ((m:Int)+1)≠0 by omega);have hl:=Int.emod_lt_of_pos pk hp;have ht:pk.tmod ((m:Int)+1)=if 0<=pk\/pk % ((m:Int)+1)=0 then pk % ((m:Int)+1) else pk % ((m:Int)+1) - ((m:Int)+1):=by
       rw [Int.tmod_eq_emod]
       split
       · rename_i h
         rw [if_pos (by rcases h with h | h; exact .inl h; exact .inr (Int.emod_eq_zero_of_dvd h))];omega
       · rename_i h
         rw [if_neg (λe=>h (by rcases e with e | e; exact .inl e; exact .inr (Int.dvd_of_emod_eq_zero e)))];omega
      have hpick:=HPD.out;generalize pk % ((m:Int)+1)=rr at *;generalize htm:pk.tmod ((m:Int)+1)=t at *;have Nf:IntKind.i64.wrap ((m:Int)+1)=(m:Int)+1:=IntWalk.i64_in _ (by omega);have hne:((m:Int)+1 == 0)=false:=by simp; omega
      have hne2:¬ ((m:Int)+1=0):=by omega
      have hw:IntKind.i64.wrap t=t:=IntWalk.i64_in _ (by rw [ht]; split <;> omega);have tF:=hid (show wX.drew.cell? ⟨g3,o3+j,none⟩=some (.int .i64 pk)/\wX.drew.cell? ⟨wr.heap.size,1,none⟩=some (.slice A2 m cap) from ⟨acd,hX1⟩);have HT:=hid ht; have HE:=hid he; have bK:=hid hl; have HPI:=hid hpick; have pJ:=hid hp;clear ht he hl hpick hp acd;go_wp2_with fail
      go_region_held3 (λwx=>wx.cell? ⟨g3,o3+j,none⟩=some (.int .i64 pk)/\wx.cell? ⟨wr.heap.size,1,none⟩=some (.slice A2 m cap))
       (exact tF.out)
       (fail)
      clear htm hne hne2 Nf;have qp:=hid (show aP wX.drew B r bl c kV ko vs' { S with ag:=S.bY picks j,ae:=gL S j } own from HHX.out.drew);have fU:=hid (show wr.grownBy wX.drew none from (YX.out.trans (ah wX none)));have OM:=hid (show wX.drew.cell? ⟨g,j,none⟩=some (.int .i64 (at_:Nat)) from Sw);have aje:wX.drew.cell? ⟨wr.heap.size,0,none⟩=some (.slice (some ⟨gd,0,none⟩) 256 cd):=hX0;have ajd:wX.drew.cell? ⟨wr.heap.size,1,none⟩=some (.slice A2 m cap):=hX1
      have Yk:BytesAt wX.drew own (.slice (some ⟨gd,0,none⟩) 256 cd) (S.ag at_):=Lm.out.ag;have xQ:=hid (show Part wX.drew own (.slice (some ⟨gd,0,none⟩) 256 cd) (.slice A2 m cap) (vs' at_) (S.ag at_) (S.ae at_) from Lm.out.keep (λ_ h=>h) (λ_ _ _ _ _=>rfl) (λ_ _=>rfl));clear hX0 hX1 Sw HWX YX HHX Lm tF;generalize wX.drew=wz at *;have hpick:=HPI.out
      by_cases hr0:rr=0
      · have ht0:t=0:=by rw [HT.out,if_pos (.inr hr0)]; exact hr0
        rw [hr0,show (0:Int).toNat=0 from rfl,if_pos rfl] at hpick;have gJ:=hid (show S.bY picks (j+1)=upd (S.bY picks j) at_ (S.ag at_)/\gL S (j+1)=upd (gL S j) at_ [] from ⟨by rw [WG.out,hpick],fw.out⟩);have hby:=Yk;clear Yk hr0;have Nw:=qp.out.cd lX; have Nv:=qp.out.cv lX; have ab9:=qp.out.zu (at_ * 2); have ab8:=qp.out.zu (at_ * 2+1);rw [HDI.out] at Nw;rw [oO.out] at Nv;have Bp:=hid (show wz.drew.cell? ⟨r,0,none⟩=some (.slice (some ⟨bl,0,none⟩) S.n c)/\wz.drew.cell? ⟨g,j,none⟩=some (.int .i64 (at_:Nat)) from ⟨qp.out.rc,OM.out⟩)
        have hset:=qp.out.settle lX hby;have qB:aP ((wz.setCell ⟨bl,at_ * 2,none⟩ (.slice (some ⟨gd,0,none⟩) 256 cd)).setCell ⟨bl,at_ * 2+1,none⟩ (.slice none 0 0)) B r bl c (upd kV at_ (.slice (some ⟨gd,0,none⟩) 256 cd)) (upd ko at_ (.slice none 0 0)) (upd vs' at_ []) { S with ag:=S.bY picks (j+1),ae:=gL S (j+1) } own:=by
         rw [gJ.out.1,gJ.out.2]; exact hset
        have yX:=hid qB.drew;have HT1:=hid (((jQ.out.trans (aa.none_ (fU.out))).trans (aa.aA (akd (akd (akr wz (some bl)) (at_ * 2) (.slice (some ⟨gd,0,none⟩) 256 cd)) (at_ * 2+1) (.slice none 0 0)) (λq e=>by cases e; exact Ou.out))).trans (aa.none_ (ah ((wz.setCell ⟨bl,at_ * 2,none⟩ (.slice (some ⟨gd,0,none⟩) 256 cd)).setCell ⟨bl,at_ * 2+1,none⟩ (.slice none 0 0)) none)))
        have Bn:=hid (show ((wz.setCell ⟨bl,at_ * 2,none⟩ (.slice (some ⟨gd,0,none⟩) 256 cd)).setCell ⟨bl,at_ * 2+1,none⟩ (.slice none 0 0)).drew.cell? ⟨r,0,none⟩=some (.slice (some ⟨bl,0,none⟩) S.n c)/\((wz.setCell ⟨bl,at_ * 2,none⟩ (.slice (some ⟨gd,0,none⟩) 256 cd)).setCell ⟨bl,at_ * 2+1,none⟩ (.slice none 0 0)).drew.cell? ⟨g,j,none⟩=some (.int .i64 (at_:Nat)) from
         ⟨hset.rc,(aki (a:=⟨g,j,none⟩) ((akd (akd (akr wz (some bl)) (at_ * 2) (.slice (some ⟨gd,0,none⟩) 256 cd)) (at_ * 2+1) (.slice none 0 0)).block g (by have:=fU.out.size; omega) (by simpa using Nq))).trans OM.out⟩)
        clear hset qB hby hpick;subst ht0;go_wp2_with fail
        go_region_held3 (λwx=>wx.cell? ⟨r,0,none⟩=some (.slice (some ⟨bl,0,none⟩) S.n c)/\wx.cell? ⟨g,j,none⟩=some (.int .i64 (at_:Nat)))
         (first
           | exact Bp.out
           | exact Bn.out)
         (fail)
        go_wp2_with fail
        go_roundw
        case rel=>exact ⟨j+1,_,_,_,by omega,by go_num,yX.out,HT1.out⟩
        case measure=>simp [Go.RowKit.intOf]; omega
      · obtain ⟨q,rfl⟩:∃ q:Nat,rr=(q:Int)+1:=⟨(rr - 1).toNat,by have:=HE.out; omega⟩;have hqm:(q:Int) < (m:Int):=by have:=bK.out; omega
        have hq:q < (S.ae at_).length:=by rw [<-HML.out]; omega
        rw [show ((q:Int)+1).toNat=q+1 from by omega,if_neg (by omega),Nat.add_sub_cancel,akg,akj hq,Option.getD_some] at hpick;obtain ⟨u,hu1,hu2⟩:=xQ.out.Lu q _ (akj hq);obtain ⟨ga,ca,hae,_,_,_,_,hac⟩:=xQ.out.row.reads (by omega);simp only [Value.slice.injEq] at hae;obtain ⟨rfl,agB,agA⟩:=hae; clear agB agA;have hau:=hac q u hu1;obtain ⟨gu,cu,rfl⟩:∃ gu cu,u=.slice (some ⟨gu,0,none⟩) 256 cu:=by obtain ⟨g,c',_,_,e,_⟩:=hu2; exact ⟨g,c',e⟩
        have gJ:=hid (show S.bY picks (j+1)=upd (S.bY picks j) at_ ((S.ae at_)[q])/\gL S (j+1)=upd (gL S j) at_ [] from ⟨by rw [WG.out,hpick],fw.out⟩);have hby:=hu2;have hwq:IntKind.i64.wrap (q:Int)=(q:Int):=IntWalk.i64_in _ (by omega);have aiV:IntKind.i64.wrap ((q:Int)+1 - 1)=(q:Int):=by rw [Int.add_sub_cancel]; exact hwq
        have hpos:decide ((0:Int) < (q:Int)+1)=true:=decide_eq_true (by omega);have hq0:(0:Int)<=(q:Int):=by omega
        have ht:=HT.out;clear Yk hac hu1 hu2;have Nw:=qp.out.cd lX; have Nv:=qp.out.cv lX; have ab9:=qp.out.zu (at_ * 2); have ab8:=qp.out.zu (at_ * 2+1);rw [HDI.out] at Nw;rw [oO.out] at Nv;have Bp:=hid (show wz.drew.cell? ⟨r,0,none⟩=some (.slice (some ⟨bl,0,none⟩) S.n c)/\wz.drew.cell? ⟨g,j,none⟩=some (.int .i64 (at_:Nat)) from ⟨qp.out.rc,OM.out⟩);have hset:=qp.out.settle lX hby;have qB:aP ((wz.setCell ⟨bl,at_ * 2,none⟩ (.slice (some ⟨gu,0,none⟩) 256 cu)).setCell ⟨bl,at_ * 2+1,none⟩ (.slice none 0 0)) B r bl c (upd kV at_ (.slice (some ⟨gu,0,none⟩) 256 cu)) (upd ko at_ (.slice none 0 0)) (upd vs' at_ []) { S with ag:=S.bY picks (j+1),ae:=gL S (j+1) } own:=by
         rw [gJ.out.1,gJ.out.2]; exact hset
        have yX:=hid qB.drew;have HT1:=hid (((jQ.out.trans (aa.none_ (fU.out))).trans (aa.aA (akd (akd (akr wz (some bl)) (at_ * 2) (.slice (some ⟨gu,0,none⟩) 256 cu)) (at_ * 2+1) (.slice none 0 0)) (λq e=>by cases e; exact Ou.out))).trans (aa.none_ (ah ((wz.setCell ⟨bl,at_ * 2,none⟩ (.slice (some ⟨gu,0,none⟩) 256 cu)).setCell ⟨bl,at_ * 2+1,none⟩ (.slice none 0 0)) none)))
        have Bn:=hid (show ((wz.setCell ⟨bl,at_ * 2,none⟩ (.slice (some ⟨gu,0,none⟩) 256 cu)).setCell ⟨bl,at_ * 2+1,none⟩ (.slice none 0 0)).drew.cell? ⟨r,0,none⟩=some (.slice (some ⟨bl,0,none⟩) S.n c)/\((wz.setCell ⟨bl,at_ * 2,none⟩ (.slice (some ⟨gu,0,none⟩) 256 cu)).setCell ⟨bl,at_ * 2+1,none⟩ (.slice none 0 0)).drew.cell? ⟨g,j,none⟩=some (.int .i64 (at_:Nat)) from
         ⟨hset.rc,(aki (a:=⟨g,j,none⟩) ((akd (akd (akr wz (some bl)) (at_ * 2) (.slice (some ⟨gu,0,none⟩) 256 cu)) (at_ * 2+1) (.slice none 0 0)).block g (by have:=fU.out.size; omega) (by simpa using Nq))).trans OM.out⟩)
        clear hset qB hby hpick
        by_cases hc:0<=pk
        · have htq:t=(q:Int)+1:=by rw [ht,if_pos (.inl hc)]
          have hd:decide ((q:Int)+1 < 0)=false:=by simp; omega
          clear ht hc hr0;subst htq;go_wp2_with fail
          go_region_held3 (λwx=>wx.cell? ⟨r,0,none⟩=some (.slice (some ⟨bl,0,none⟩) S.n c)/\wx.cell? ⟨g,j,none⟩=some (.int .i64 (at_:Nat)))
           (first
             | exact Bp.out
             | exact Bn.out)
           (fail)
          go_wp2_with fail
          go_roundw
          case rel=>exact ⟨j+1,_,_,_,by omega,by go_num,yX.out,HT1.out⟩
          case measure=>simp [Go.RowKit.intOf]; omega
        · have ht':t=(q:Int)+1 - ((m:Int)+1):=by rw [ht,if_neg (by rintro (h | h); exact hc h; omega)]
          have hd:t < 0:=by omega
          have hw2:IntKind.i64.wrap (t+(m:Int))=t+(m:Int):=IntWalk.i64_in _ (by omega);have hw3:IntKind.i64.wrap (t+(m:Int)+1)=(q:Int)+1:=by rw [show t+(m:Int)+1=(q:Int)+1 by omega]; exact IntWalk.i64_in _ (by omega)
          clear ht hc ht' hr0;go_wp2_with fail
          go_region_held3 (λwx=>wx.cell? ⟨r,0,none⟩=some (.slice (some ⟨bl,0,none⟩) S.n c)/\wx.cell? ⟨g,j,none⟩=some (.int .i64 (at_:Nat)))
           (first
             | exact Bp.out
             | exact Bn.out)
           (fail)
          go_wp2_with fail
          go_roundw
          case rel=>exact ⟨j+1,_,_,_,by omega,by go_num,yX.out,HT1.out⟩
          case measure=>simp [Go.RowKit.intOf]; omega
    · have hjb':¬ ((j:Int) < (n:Int)):=by omega
      have IZ:pk=0:=by rw [<-ve.out,akg,List.getElem?_eq_none (by rw [HP.out.1]; omega)]; rfl
      have qp:=HHX;have fU:=YX;have OM:=hid Sw;have hpick:ja (S.ag at_) (S.ae at_) pk=S.ag at_:=by rw [IZ]; exact Ee _ _
      have gJ:=hid (show S.bY picks (j+1)=upd (S.bY picks j) at_ (S.ag at_)/\gL S (j+1)=upd (gL S j) at_ [] from ⟨by rw [WG.out,hpick],fw.out⟩);have hby:BytesAt wX own (.slice (some ⟨gd,0,none⟩) 256 cd) (S.ag at_):=Lm.out.ag;clear hwX;generalize wX=wz at *;clear IZ hjb;have Nw:=qp.out.cd lX; have Nv:=qp.out.cv lX; have ab9:=qp.out.zu (at_ * 2); have ab8:=qp.out.zu (at_ * 2+1);rw [HDI.out] at Nw;rw [oO.out] at Nv
      have Bp:=hid (show wz.drew.cell? ⟨r,0,none⟩=some (.slice (some ⟨bl,0,none⟩) S.n c)/\wz.drew.cell? ⟨g,j,none⟩=some (.int .i64 (at_:Nat)) from ⟨qp.out.rc,OM.out⟩);have hset:=qp.out.settle lX hby;have qB:aP ((wz.setCell ⟨bl,at_ * 2,none⟩ (.slice (some ⟨gd,0,none⟩) 256 cd)).setCell ⟨bl,at_ * 2+1,none⟩ (.slice none 0 0)) B r bl c (upd kV at_ (.slice (some ⟨gd,0,none⟩) 256 cd)) (upd ko at_ (.slice none 0 0)) (upd vs' at_ []) { S with ag:=S.bY picks (j+1),ae:=gL S (j+1) } own:=by
       rw [gJ.out.1,gJ.out.2]; exact hset
      have yX:=hid qB.drew;have HT1:=hid (((jQ.out.trans (aa.none_ (fU.out))).trans (aa.aA (akd (akd (akr wz (some bl)) (at_ * 2) (.slice (some ⟨gd,0,none⟩) 256 cd)) (at_ * 2+1) (.slice none 0 0)) (λq e=>by cases e; exact Ou.out))).trans (aa.none_ (ah ((wz.setCell ⟨bl,at_ * 2,none⟩ (.slice (some ⟨gd,0,none⟩) 256 cd)).setCell ⟨bl,at_ * 2+1,none⟩ (.slice none 0 0)) none)))
      have Bn:=hid (show ((wz.setCell ⟨bl,at_ * 2,none⟩ (.slice (some ⟨gd,0,none⟩) 256 cd)).setCell ⟨bl,at_ * 2+1,none⟩ (.slice none 0 0)).drew.cell? ⟨r,0,none⟩=some (.slice (some ⟨bl,0,none⟩) S.n c)/\((wz.setCell ⟨bl,at_ * 2,none⟩ (.slice (some ⟨gd,0,none⟩) 256 cd)).setCell ⟨bl,at_ * 2+1,none⟩ (.slice none 0 0)).drew.cell? ⟨g,j,none⟩=some (.int .i64 (at_:Nat)) from
       ⟨hset.rc,(aki (a:=⟨g,j,none⟩) ((akd (akd (akr wz (some bl)) (at_ * 2) (.slice (some ⟨gd,0,none⟩) 256 cd)) (at_ * 2+1) (.slice none 0 0)).block g (by have:=fU.out.size; omega) (by simpa using Nq))).trans OM.out⟩)
      clear hset qB hby hpick;go_wp2_with fail
      go_region_held3 (λwx=>wx.cell? ⟨r,0,none⟩=some (.slice (some ⟨bl,0,none⟩) S.n c)/\wx.cell? ⟨g,j,none⟩=some (.int .i64 (at_:Nat)))
       (first
         | exact Bp.out
         | exact Bn.out)
       (fail)
      go_wp2_with fail
      go_roundw
      case rel=>exact ⟨j+1,_,_,_,by omega,by go_num,yX.out,HT1.out⟩
      case measure=>simp [Go.RowKit.intOf]; omega
  · obtain rfl:j=S.aJ.length:=by omega
    have hL0:aP wr B r bl c kV ko vs' { S with ag:=(S.gm picks).ag,ae:=λ_=>[] } own:=by
     have e1:=xC aU.out picks (k:=S.aJ.length) (.inl rfl);have e2:=NQ aU.out;rw [<-e1,<-e2]; exact HL.out
    have hbk:=(((((hL0.blk.aC 1 (.int .i64 0)).aC 2 (.int .i64 0)).aC 3 (.int .i64 0)).aC 4 (.int .i64 0)).aC 5 (.int .i64 (-1)));have hgg:=akd (akd (akd (akd (akd (akr wr (some r)) 1 (.int .i64 0)) 2 (.int .i64 0)) 3 (.int .i64 0)) 4 (.int .i64 0)) 5 (.int .i64 (-1));have hlast:=hL0.struct (T:=S.gm picks) hgg (aU.out.gm picks) rfl rfl rfl hbk
    have Ib:=hid hlast;have CP:=hid ((HT2.out.trans jQ.out).trans (aa.aA hgg (λq e=>by cases e; exact jB.out)));have q1:=hL0.blk.cell 1; have q2:=hL0.blk.cell 2; have q3:=hL0.blk.cell 3; have q4:=hL0.blk.cell 4; have q5:=hL0.blk.cell 5;have z1:=hL0.blk.frozen 1; have z2:=hL0.blk.frozen 2; have z3:=hL0.blk.frozen 3; have z4:=hL0.blk.frozen 4; have z5:=hL0.blk.frozen 5;simp only [akb,aka,akc] at q1 q2 q3 q4 q5
    clear hL0 hbk hgg hlast hlt hj;go_wp2
    go_end0
    exact ⟨rfl,⟨_,_,_,Ib.out⟩,CP.out⟩
end Go.Proofs.YtinajlbijgedbaaGreat.Dsk
