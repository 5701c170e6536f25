/- Texts of this seat's proofs: LogImgs, LogFind, LogNew, LogOpen, LogOps, LogSame, LogKnown. -/
import Derived.Test.YtinajlbijgedbaaGreatQLogMay
import Derived.Test.YtinajlbijgedbaaGreatQCodecPageGet
import Derived.Test.YtinajlbijgedbaaGreatQCodecSpec
import Derived.Test.YtinajlbijgedbaaGreatQDiskNew
import Derived.Test.YtinajlbijgedbaaGreatQCrcFill
import Derived.Deep.RegionHeld3
import Derived.Deep.RegionLaw
set_option maxRecDepth 100000
set_option maxHeartbeats 16000000
namespace Go.Proofs.YtinajlbijgedbaaGreat.Log
open Lib (hid)
open Go.RowKit CrcMath CodecMath Mem Crc Codec DiskSpec Dsk Sup
theorem J3 {w:World} {base:Nat} {P:Nat->Prop} {v:Value} {l:List Nat} (h:YN w base v l) (hP:∀ i,base<=i->¬ P i):cO w P v l:=by
 obtain ⟨A,c,rfl,hc,hlt,hx⟩:=h;refine ⟨A,l.length,c,rfl,hc,rfl,hlt,λh0=>?_⟩;obtain ⟨g,off,t,L,rfl,hg,hbk,hfit,he⟩:=hx h0;refine ⟨g,off,rfl,hbk.lt,hP g hg,λj hj=>?_⟩;rw [hbk.cell,akb,fT _ _ (by omega)]
 congr 3
 have e2:l.getD j 0=((L.drop off).take l.length).getD j 0:=by rw [<-he]
 rw [e2]
 simp [akg,List.getElem?_take_of_lt hj]
def N8 (w:World) (r:Option (List ax)) (e:Ending) (w':World):Prop :=
 w.grownBy w' none/\((∃ l A c,r=some l/\e=.returned (.tuple #[.slice A l.length c,.bool true])/\l.length<=c/\c<=maxLen/\eG w' (· < w.heap.size) A l.length l)\/(r=none/\e=.returned (.tuple #[.slice none 0 0,.bool false])))
theorem oU {w w':World} {v v':Value} {R:Nat->Prop} (h:bS w w' v v'):aa w w' (λi=>R i\/v.ownBlock=some i) (λi=>R i\/v'.ownBlock=some i) :=
 ⟨h.1.os,h.1.tape,h.1.output,h.1.size,λi hi hn=>h.1.block i hi (λe=>hn (.inr e.symm)),λi hi=>by
  rcases hi with hi | hi
  · exact .inl (.inl hi)
  · rcases h.2 i hi with h1 | h1
    · exact .inl (.inr h1)
    · exact .inr h1⟩
def xG (w wr:World) (A:Option Addr) (n:Nat) (l:List Int):Prop:=0 < n->∃ g o,A=some ⟨g,o,none⟩/\g < w.heap.size/\∀ j,j < n->wr.cell? ⟨g,o+j,none⟩=some (.int .i64 (l.getD j 0))
theorem xG.grown {w wr w':World} {A:Option Addr} {n:Nat} {l:List Int} (h:xG w wr A n l) (hw:w.heap.size<=wr.heap.size) {row:Option Nat} (hg:wr.grownBy w' row) (hr:∀ q,row=some q->w.heap.size<=q):xG w w' A n l:=by
 intro h0;obtain ⟨g,o,e,hlt,hc⟩:=h h0;refine ⟨g,o,e,hlt,λj hj=>?_⟩;rw [aki (a:=⟨g,o+j,none⟩) (hg.block g (by omega) (λe2=>by have:=hr g e2.symm; omega))];exact hc j hj
structure Jg (w wr:World) (g b tb:Nat) (L:Lg) (ep sq:Int) (A:Option Addr) (n c sum:Nat) (pages:List Int) (As:Option Addr) (m:Nat) (bytes:List Nat) (vo:Value) (j:Nat):Prop where
 gr:w.grownBy wr none
 lb:dS wr g L b tb
 r:Ready wr tb
 hd:af wr w.heap.size 130 #[.int .i64 ep,.int .i64 sq,.slice A n c,.int .u32 (sum:Nat)]
 pg:xG w wr A n pages
 bs:Dsk.Data wr (From (·=tb) w.heap.size) As m bytes
 lo:g < w.heap.size/\tb < w.heap.size
 im:∃ V:List (ax × Value),gZ ep sq pages bytes j=some (V.map (·.1))/\V.length=j/\Own wr (w.heap.size+1) 90 3 vo j (dM V)/\∀ p∈V,cO wr (λi=>i < w.heap.size\/vo.ownBlock=some i) p.2 p.1.2.2
section
variable {w wr w':World} {g b tb:Nat} {L:Lg} {ep sq:Int} {A:Option Addr} {n c sum:Nat} {pages:List Int} {As:Option Addr} {m:Nat} {bytes:List Nat} {vo:Value} {j:Nat}
theorem Jg.quiet (h:Jg w wr g b tb L ep sq A n c sum pages As m bytes vo j) (hg:wr.grownBy w' none):Jg w w' g b tb L ep sq A n c sum pages As m bytes vo j:=by
 obtain ⟨V,h1,h2,h3,h4⟩:=h.im;exact ⟨h.gr.trans hg,h.lb.grown hg (by simp),h.r.keep hg (by simp),h.hd.grown hg (by simp),h.pg.grown h.gr.size hg (λ_ e=>by cases e),Dsk.Data.turn h.bs (aa.none_ hg),h.lo,V,h1,h2,h3.keep hg (λ_ _=>by simp),λp hp=>(h4 p hp).turn (aa.none_ hg)⟩
end
theorem JE {w:World} {b g o m j:Nat} {l:List Nat} (h:Bytes w b (some ⟨g,o,none⟩) m l) (hj:256 * (j+1)<=m):Bytes w b (some ⟨g,o+j * 256,none⟩) 256 (DiskSpec.sec l j):=by
 obtain ⟨h1,h2,h3⟩:=h;have hl:(DiskSpec.sec l j).length=256:=by unfold DiskSpec.sec; rw [aku,List.length_drop,h1]; omega
 refine ⟨hl,λx hx=>h2 x (List.mem_of_mem_drop (akq hx)),λ_=>?_⟩;obtain ⟨g',o',e,hlt,hne,hc⟩:=h3 (by omega);simp only [Option.some.injEq,Addr.mk.injEq,and_true] at e;obtain ⟨rfl,rfl⟩:=e;refine ⟨g,o+j * 256,rfl,hlt,hne,λq hq=>?_⟩;rw [show o+j * 256+q=o+(256 * j+q) from by omega,hc _ (by omega)]
 congr 3
 unfold DiskSpec.sec
 simp [akg,List.getElem?_take_of_lt hq,List.getElem?_drop]
def aex (wr wx:World) (r:Option (Int × Int × Int × Int × List Nat)) (s11 s12 s13 Y9:Value):Prop :=
 wr.grownBy wx none/\∃ gq,s13=.pointer (some ⟨gq,0,none⟩)/\wr.heap.size<=gq /\
  ((∃ e s n k b A m c,r=some (e,s,n,k,b)/\s11=.int .i64 e/\s12=.int .i64 s/\Y9=.bool true/\af wx gq 90 #[.int .i64 n,.int .i64 k,.slice A m c]/\cO wx (· < wr.heap.size) (.slice A m c) b) \/
    (r=none/\s11=.int .i64 0/\s12=.int .i64 0/\Y9=.bool false/\af wx gq 90 #[.int .i64 0,.int .i64 0,.slice none 0 0]))
theorem P8 (w:World):(sizeOf (Tryz.prog.elem 65)).run Tryz.prog w=.ok 1 w:=by kernel_rfl
theorem F5 (gs os m cs j:Nat) (hj:256 * (j+1)<=m) (hm:m<=cs) (w:World) :
 (Instr.slice 65 (.slice (some ⟨gs,os,none⟩) m cs) (some (.int .i64 ((j:Int) * 256))) (some (.int .i64 (((j:Int)+1) * 256))) none).run Tryz.prog w=.ok (.slice (some ⟨gs,os+j * 256,none⟩) 256 (cs - j * 256)) w:=by
 rw [run_slice_lh w 65 _ m cs (by kernel_rfl) .i64 .i64 _ _ (by omega) (by omega) (by omega),P8];have e1:((j:Int) * 256).toNat=j * 256:=by omega
 have e2:(((j:Int)+1) * 256).toNat=j * 256+256:=by omega
 rw [e1,e2];show Result.ok (sliced (some ⟨gs,os,none⟩) (j * 256) (j * 256+256) cs 1) w=_;unfold sliced;rw [if_neg (by omega),show j * 256+256 - j * 256=256 from by omega];simp only [Option.map,Nat.mul_one]
 congr 3
 unfold Addr.add
 split <;> simp_all
theorem LP (gs os m cs j:Nat) (hj:256 * (j+1)<=m) (hm:m<=cs) (w:World) :
 (Instr.sliceAt 65 (.slice (some ⟨gs,os,none⟩) m cs) (some (.int .i64 ((j:Int) * 256))) (some (.int .i64 (((j:Int)+1) * 256))) none).run Tryz.prog w=.ok (.slice (some ⟨gs,os+j * 256,none⟩) 256 (cs - j * 256)) w:=by
 rw [run_sliceAt_slice w 65 _ _ _ _ (by kernel_rfl)];exact F5 gs os m cs j hj hm w
theorem RX {w:World} {g b tb:Nat} {L:Lg} (ep sq:Int) (A:Option Addr) (n c sum:Nat) (pages:List Int) (As:Option Addr) (m cs:Nat) (bytes:List Nat)
 (hlb:dS w g L b tb) (hR:Ready w tb) (jG:Ints w tb A n pages) (hbs:Bytes w tb As m bytes) (hm:m=256 * n) (hn:n<=40) (h1:1<=n) (hmc:m<=cs) (hsum:sum < 4294967296) :
 Calls Tryz.prog 161 #[.pointer (some ⟨g,0,none⟩),.agg #[.int .i64 ep,.int .i64 sq,.slice A n c,.int .u32 (sum:Nat)],.slice As m cs] w (N8 w (mM ep sq pages sum bytes)):=by
 subst hm;obtain ⟨i0,hi0,hz0,hz1,hz2⟩:=info_parts wu;have hi:=hid hi0; have z0:=hid hz0; have z1:=hid hz1; have z2:=hid hz2;have hlen:=jG.1;have hbd:Dsk.Data w (From (·=tb) w.heap.size) As (256 * n) bytes:=⟨hbs.1,hbs.2.1,λh0=>by
  obtain ⟨g2,o2,e,hlt,hne,hc⟩:=hbs.2.2 h0;exact ⟨g2,o2,e,hlt,λh=>by rcases h with h | h; exact hne h; omega,hc⟩⟩
 have hga:=aj9 w (.cells #[.int .i64 ep,.int .i64 sq,.slice A n c,.int .u32 (sum:Nat)] 130) none;have H0:=hid (show Jg w (w.alloc (.cells #[.int .i64 ep,.int .i64 sq,.slice A n c,.int .u32 (sum:Nat)] 130)) g b tb L ep sq A n c sum pages As (256 * n) bytes (.slice none 0 0) 0 from
  ⟨hga,hlb.grown hga (by simp),hR.keep hga (by simp),af.new w _ _,xG.grown (w:=w) (wr:=w) (λh0=>by obtain ⟨g2,o2,e,hlt,_,hc⟩:=jG.2.2 h0; exact ⟨g2,o2,e,hlt,hc⟩) (akf _) hga (λ_ e=>by cases e),Dsk.Data.turn hbd (aa.none_ hga),⟨hlb.lt,by obtain ⟨_,h,_⟩:=hR; exact h.lt⟩,[],rfl,rfl,Own.nil _ _ _ _,by simp⟩)
 have HLEN:=hid hlen;obtain ⟨gs,os,rfl,_,_,_⟩:=hbs.2.2 (by omega);clear hlb hR jG hbs hbd hga hi0 hz0 hz1 hz2 hlen;have ig:=hid (show mM ep sq pages sum bytes=if M 0 bytes=sum then gZ ep sq pages bytes pages.length else none from rfl);have hkeep:∀ wx,(w.alloc (.cells #[.int .i64 ep,.int .i64 sq,.slice A n c,.int .u32 (sum:Nat)] 130)).grownBy wx none->wx.cell? ⟨g,1,none⟩=some (.pointer (some ⟨tb,0,none⟩))/\wx.cell? ⟨w.heap.size,3,none⟩=some (.int .u32 (sum:Nat)):=by
  intro wx hg;have h:=H0.out.quiet hg;exact ⟨h.lb.cells.2.1,by rw [h.hd.cell]; rfl⟩
 have av:=hid hkeep;have HD0:=hid (ah (w.alloc (.cells #[.int .i64 ep,.int .i64 sq,.slice A n c,.int .u32 (sum:Nat)] 130)) none);have vL:=hid (λwx (hg:(w.alloc (.cells #[.int .i64 ep,.int .i64 sq,.slice A n c,.int .u32 (sum:Nat)] 130)).grownBy wx none)=>Jq tb (some ⟨gs,os,none⟩) (256 * n) cs bytes wx (H0.out.quiet hg).r (pz (H0.out.quiet hg).bs (.inl rfl)) (by omega));clear hkeep;go_enter Tryz.func161,Tryz.ntmps161
 go_wp2_with fail;generalize w.alloc (.cells #[.int .i64 ep,.int .i64 sq,.slice A n c,.int .u32 (sum:Nat)] 130)=wa at *;generalize hmm:M 0 bytes=mb at *;have Q3:=hid hmm; clear hmm
 go_region_held3 (λwx=>wx.cell? ⟨g,1,none⟩=some (.pointer (some ⟨tb,0,none⟩))/\wx.cell? ⟨w.heap.size,3,none⟩=some (.int .u32 (sum:Nat)))
  (first
    | exact av.out _ HD0.out)
  (first
    | (go_at_call 140
       (with_reducible refine (vL.out _ HD0.out).mono ?_)
       rintro e w2 ⟨rfl,rfl⟩))
 obtain ⟨hk1,hk3⟩:=av.out _ HD0.out
 by_cases hsm:mb=sum
 · subst hsm;simp only [bne_self_eq_false];have Oo:=hid (show mM ep sq pages mb bytes=gZ ep sq pages bytes n by rw [ig.out,if_pos rfl,HLEN.out]);have H1:=hid (H0.out.quiet (ah wa none));clear vL ig H0;generalize wa.drew=wb at *;have x2:=H1.out.hd.cell 2;simp only [akb,aka,akc] at x2;go_wp2_with fail
   go_loopw [8,27] (λvo i wr=>∃ j:Nat,j<=n/\i=.int .i64 j/\Jg w wr g b tb L ep sq A n c mb pages (some ⟨gs,os,none⟩) (256 * n) bytes vo j) (λ_ i _=>n - (Go.RowKit.intOf i).toNat)
   case atStart=>exact ⟨0,aks _,rfl,H1.out⟩
   case round =>
    clear H1 av HD0 hk1 hk3 x2;obtain ⟨j,hj,rfl,hr⟩:=hrel;have HR:=hid hr; clear hr
    by_cases hlt:j < n
    · have hjn:(j:Int) < (n:Int):=by omega
      obtain ⟨gp,op,rfl,_,hpc⟩:=HR.out.pg (by omega);have Bc:=hpc j hlt;have HPJ:=hid (show pages.getD j 0=pages.getD j 0 from rfl);generalize hpe:pages.getD j 0=pj at Bc HPJ;have CV:=hid hpe;have hlb:=HR.out.lb.cells.2.1;have hw1:IntKind.i64.wrap ((j:Int) * 256)=(j:Int) * 256:=IntWalk.i64_in _ (by omega);have hw2:IntKind.i64.wrap ((j:Int)+1)=(j:Int)+1:=IntWalk.i64_in _ (by omega);have hw3:IntKind.i64.wrap (((j:Int)+1) * 256)=((j:Int)+1) * 256:=IntWalk.i64_in _ (by omega)
      have hs1:=F5 gs os (256 * n) cs j (by omega) hmc;have hs2:=LP gs os (256 * n) cs j (by omega) hmc;clear hpc HPJ hpe;go_upto_region 8 with fail
      go_cut [9,10,11,12,13,14] (λs9 s10 s11 s12 s13 Y9 wx=>s9=.int .i64 j/\s10=.int .i64 pj/\aex wr wx (fe (DiskSpec.sec bytes j)) s11 s12 s13 Y9)
      case first =>
       have xN:=hid (λwx (hg:wr.grownBy wx none)=>Ha tb tb (some ⟨gs,os+j * 256,none⟩) 256 (cs - j * 256) (DiskSpec.sec bytes j) wx (HR.out.quiet hg).r (JE (pz (b:=tb) (HR.out.quiet hg).bs (.inl rfl)) (by omega)));have HD1:=hid (ah wr none);have xO:=hid ((aj9 wr (.cells #[.int .i64 0,.int .i64 0,.slice none 0 0] 90) none).trans (ah _ none));have yH:=hid (show af (wr.alloc (.cells #[.int .i64 0,.int .i64 0,.slice none 0 0] 90)).drew wr.heap.size 90 #[.int .i64 0,.int .i64 0,.slice none 0 0] from af.new wr _ _)
       have tF:=hid (show ∀ wx,wr.grownBy wx none->wx.cell? ⟨g,1,none⟩=some (.pointer (some ⟨tb,0,none⟩)) from λwx hg=>(HR.out.quiet hg).lb.cells.2.1)
       cases hgi:fe (DiskSpec.sec bytes j) with
       | none =>
         rw [hgi] at xN;have De:=hid hgi;clear hgi;go_wp2_with fail
         go_region_held3 (λwx=>wx.cell? ⟨g,1,none⟩=some (.pointer (some ⟨tb,0,none⟩)))
          (first
            | exact tF.out _ HD1.out
            | exact tF.out _ xO.out
            | exact tF.out _ HG2.out
            | exact tF.out _ (HG2.out.trans (aj9 _ _ none))
            | exact tF.out _ (bC (bC (bC HG2.out (akf _) _) (akf _) _) (akf _) _)
            | go_keep)
          (first
            | (go_at_call 171
               (with_reducible refine (xN.out _ HD1.out).mono ?_)
               rintro e w2 ⟨hg2,⟨_,_,_,_,_,_,ho,_⟩ | ⟨_,rfl⟩⟩
               case inl=>cases ho
               have HG2:=hid (HD1.out.trans hg2);have HB2:=hid (show True from trivial);clear hg2)
            | (go_at_call 171
               (with_reducible refine (xN.out _ xO.out).mono ?_)
               rintro e w2 ⟨hg2,⟨_,_,_,_,_,_,ho,_⟩ | ⟨_,rfl⟩⟩
               case inl=>cases ho
               have HG2:=hid (xO.out.trans hg2);have hb2:=yH.out.grown hg2 (by simp);have HB2:=hid hb2;have y0:=hb2.cell 0; have y1:=hb2.cell 1; have y2:=hb2.cell 2; have z0:=hb2.frozen 0; have z1:=hb2.frozen 1; have z2:=hb2.frozen 2;simp only [akb,aka,akc] at y0 y1 y2;clear hg2 hb2))
         all_goals
          go_wp2_with fail;go_meet
          first
           | exact ⟨rfl,rfl,HG2.out.trans (aj9 _ _ none),_,rfl,HG2.out.size,.inr ⟨De.out,rfl,rfl,rfl,af.new _ _ _⟩⟩
           | exact ⟨rfl,rfl,bC (bC (bC HG2.out (akf _) _) (akf _) _) (akf _) _,_,rfl,akf _,.inr ⟨De.out,rfl,rfl,rfl,af.zR HB2.out⟩⟩
       | some p =>
         obtain ⟨e0,s0,n0,k0,b0⟩:=p;rw [hgi] at xN;have De:=hid hgi;clear hgi;go_wp2_with fail
         go_region_held3 (λwx=>wx.cell? ⟨g,1,none⟩=some (.pointer (some ⟨tb,0,none⟩)))
          (first
            | exact tF.out _ HD1.out
            | exact tF.out _ xO.out
            | exact tF.out _ HG2.out
            | exact tF.out _ (HG2.out.trans (aj9 _ _ none))
            | exact tF.out _ (bC (bC (bC HG2.out (akf _) _) (akf _) _) (akf _) _)
            | go_keep)
          (first
            | (go_at_call 171
               (with_reducible refine (xN.out _ HD1.out).mono ?_)
               rintro e w2 ⟨hg2,⟨e1,s1,n1,k1,b1,v1,ho,rfl,hl⟩ | ⟨ho,_⟩⟩
               case inr=>cases ho
               cases ho
               have HG2:=hid (HD1.out.trans hg2);have iG:=hid (J3 (P:=(· < wr.heap.size)) hl (λi h1 h2=>Nat.lt_irrefl _ (ake h2 h1)));obtain ⟨Ab,cb,rfl,_⟩:=hl;have HB2:=hid (show True from trivial);clear hg2)
            | (go_at_call 171
               (with_reducible refine (xN.out _ xO.out).mono ?_)
               rintro e w2 ⟨hg2,⟨e1,s1,n1,k1,b1,v1,ho,rfl,hl⟩ | ⟨ho,_⟩⟩
               case inr=>cases ho
               cases ho
               have HG2:=hid (xO.out.trans hg2);have iG:=hid (J3 (P:=(·<=wr.heap.size)) hl (λi h1 h2=>by simp at h1; omega));obtain ⟨Ab,cb,rfl,_⟩:=hl;have hb2:=yH.out.grown hg2 (by simp);have HB2:=hid hb2;have y0:=hb2.cell 0; have y1:=hb2.cell 1; have y2:=hb2.cell 2; have z0:=hb2.frozen 0; have z1:=hb2.frozen 1; have z2:=hb2.frozen 2;simp only [akb,aka,akc] at y0 y1 y2
               clear hg2 hb2))
         all_goals
          go_wp2_with fail;go_meet
          first
           | exact ⟨rfl,rfl,HG2.out.trans (aj9 _ _ none),_,rfl,HG2.out.size,.inl ⟨_,_,_,_,_,_,_,_,De.out,rfl,rfl,rfl,af.new _ _ _,iG.out.turn (aa.none_ (aj9 _ _ none))⟩⟩
           | exact ⟨rfl,rfl,bC (bC (bC HG2.out (akf _) _) (akf _) _) (akf _) _,_,rfl,akf _,.inl ⟨_,_,_,_,_,_,_,_,De.out,rfl,rfl,rfl,af.zR HB2.out,
              (iG.out.turn (P':=(·<=wr.heap.size)) (aa.aA (akd (akd (akd (akr _ _) 0 _) 1 _) 2 _) (λq e=>by cases e; exact akf _))).weak (λi _ h=>Nat.le_of_lt h)⟩⟩
      case rest =>
       obtain ⟨rfl,rfl,hgr,gq,rfl,hgq,hcase⟩:=hcut;have HQ:=hid (HR.out.quiet hgr);have Qt:af wc w.heap.size 130 #[.int .i64 ep,.int .i64 sq,.slice (some ⟨gp,op,none⟩) n c,.int .u32 (mb:Nat)]:=HQ.out.hd;have q0:=Qt.cell 0; have q1:=Qt.cell 1;simp only [akb,aka,akc] at q0 q1;have HGQ:=hid hgq;clear hgr Qt hgq hs1 hs2 hw1 hw2 hw3 Bc hlb;rcases hcase with ⟨e0,s0,n0,k0,b0,A0,m0,c0,hir,rfl,rfl,rfl,hbq,hby⟩ | ⟨hir,rfl,rfl,rfl,_⟩
       · have y0:=hbq.cell 0;simp only [akb,aka] at y0
         by_cases hall:e0=ep/\s0=sq/\n0=pj
         · obtain ⟨rfl,rfl,rfl⟩:=hall;have Da:=hid (Aq hir);have y1:=hbq.cell 1; have y2:=hbq.cell 2;simp only [akb,aka,akc] at y1 y2;have iG:=hid hby;obtain ⟨V,v1,v2,v3,v4⟩:=HQ.out.im;have rC:=hid v1; have CO:=hid v2; have EN:=hid v3; have CL:=hid v4;have af3:=HQ.out.hd.lt;have Sg:=HR.out.gr.size;clear hir hbq hby v1 v2 v3 v4
           go_wp2_with (at_builtin
                        refine ai _ rfl (.tmp 69) (.tmp 71) _ rfl (w.heap.size+1) 90 i0 _ 3 40 Tryz.underlying52 hi.out z0.out z1.out z2.out rfl (by omega) _ j _ rfl (EN.out.alloc _)
                         _ _ 1 1 _ rfl (gY _ _ _ _) (λu hu=>by simp at hu; rcases hu with rfl | rfl | rfl <;> rfl) (by simp only [maxLen]; omega) (by omega) (by simp; omega) ?_
                        intro v' w' hown' dC;have kr:=hid hown'; have iO:=hid dC; clear hown' dC)
           have HN:=hid (show Jg w w' g b tb L e0 s0 (some ⟨gp,op,none⟩) n c mb pages (some ⟨gs,os,none⟩) (256 * n) bytes v' (j+1) from by
            have hal:=aj9 wc (.cells #[.int .i64 n0,.int .i64 k0,.slice A0 m0 c0] 90) none;have En:=HQ.out.quiet hal;have hlo:∀ q,u8.ownBlock=some q->w.heap.size+1<=q:=λq hq=>(EN.out.bH q hq).1
            have htb:tb < w.heap.size:=En.lo.2;have hgl:g < w.heap.size:=En.lo.1;refine ⟨aI En.gr iO.out.1 (λq hq=>by have:=hlo q hq; omega),En.lb.grown iO.out.1 (λe=>by have:=hlo _ e.symm; omega),En.r.keep iO.out.1 (λe=>by have:=hlo _ e.symm; omega),En.hd.grown iO.out.1 (λe=>by have:=hlo _ e.symm; omega),En.pg.grown En.gr.size iO.out.1 (λq hq=>by have:=hlo q hq; omega),Dsk.Data.turn En.bs (aa.aA iO.out.1 (λq hq=>.inr (by have:=hlo q hq; omega))),En.lo,V ++ [((n0,k0,b0),.slice A0 m0 c0)],?_,by rw [akl,CO.out]; rfl,?_,?_⟩
            · rw [List.map_append];exact Fw rC.out (by rw [CV.out]; exact Da.out)
            · rw [Fy];exact kr.out
            · intro p hp;rcases List.mem_append.1 hp with hp | hp
              · exact ((CL.out p hp).turn (aa.none_ hal)).turn (oU iO.out)
              · simp at hp
                subst hp;have hb:cO wc (λi=>i < w.heap.size\/u8.ownBlock=some i) (.slice A0 m0 c0) b0:=iG.out.weak (λi hi hh=>by
                 rcases hh with hh | hh
                 · omega
                 · obtain ⟨V2,_,_,ho2,_⟩:=HR.out.im;exact (ho2.bH i hh).2)
                exact (hb.turn (aa.none_ hal)).turn (oU iO.out))
           clear kr iO rC CO EN CL HQ HR;go_wp2_with fail
           go_roundw
           case rel=>exact ⟨j+1,by omega,by go_num,HN.out⟩
           case measure=>simp [Go.RowKit.intOf]; omega
         · have bD:=hid (show gZ ep sq pages bytes n=none from Am (IV hir (by rw [CV.out]; exact hall)) hlt);have Jj:=hid hall;clear hir hall hby hbq;have hend:N8 w (mM ep sq pages mb bytes) (.returned (.tuple #[.slice none 0 0,.bool false])) wc:=⟨HQ.out.gr,.inr ⟨by rw [Oo.out]; exact bD.out,rfl⟩⟩;have jE:=hid hend; clear hend
           by_cases h1:e0=ep
           · by_cases h2:s0=sq
             · have h3:¬ (n0=pj):=λh=>Jj.out ⟨h1,h2,h⟩
               subst h1 h2;go_wp2_with fail;go_ret2;exact jE.out
             · subst h1;go_wp2_with fail;go_ret2;exact jE.out
           · go_wp2_with fail;go_ret2;exact jE.out
       · have bD:=hid (show gZ ep sq pages bytes n=none from Am (Ci hir) hlt);clear hir;go_wp2_with fail;go_ret2;exact ⟨HQ.out.gr,.inr ⟨by rw [Oo.out]; exact bD.out,rfl⟩⟩
    · obtain rfl:j=n:=by omega
      obtain ⟨V,v1,v2,v3,v4⟩:=HR.out.im;obtain ⟨Ao,co,rfl,hjc,hcm,_⟩:=v3.shape;have HI:=hid (uy (P:=(· < w.heap.size)) v3 v2 (λi h1 h2 h3=>by omega) (λp hp=>(v4 p hp).weak (λi _ h=>.inl h)));have rC:=hid v1;have qm:=hid (show (V.map (·.1)).length=j from by simpa using v2);clear v1 v2 v3 v4;go_wp2_with fail;go_ret2;refine ⟨HR.out.gr,.inl ⟨V.map (·.1),Ao,co,by rw [Oo.out]; exact rC.out,by rw [qm.out]; rfl,by rw [qm.out]; exact hjc,hcm,by rw [qm.out]; exact HI.out⟩⟩
 · have Oo:=hid (show mM ep sq pages sum bytes=none by rw [ig.out,if_neg hsm]);have hsI:¬ ((mb:Int)=(sum:Int)):=by omega
   have pO:=hid ((H0.out.gr).trans HD0.out);go_wp2_with fail;go_ret2;exact ⟨pO.out,.inr ⟨Oo.out,rfl⟩⟩
theorem tK {P:Program} {fn:Func} {R:Ending->World->Prop} {a:Act} {w:World} {p q u:Tmp} {ty:TypeId} (h:fn.results=#[.cell p ty,.tmp q,.tmp u])
 (g:Nat) (t:TypeId) (cs:Array Value) (d:TypeDesc) (hp:a.tmps.getD p undef=.pointer (some ⟨g,0,none⟩)) (hg:af w g t cs)
 (hu:P.underlying ty=some d) (hd:(match d with | .struct _ | .array _ _=>true | _=>false)=true) (hi:(P.info? ty).map (·.size)=some cs.size) (hdf:a.defers=[])
 (hR:R (.returned (.tuple #[.agg cs,a.tmps.getD q undef,a.tmps.getD u undef])) w):bodyPost P fn R .ret a w:=by
 have hp':a.tmps[p]?.getD undef=.pointer (some ⟨g,0,none⟩):=by simpa using hp
 refine bodyPost_ret (v:=.tuple #[.agg cs,a.tmps.getD q undef,a.tmps.getD u undef]) ?_ hdf hR
 simp [results,h,hp',asAddr,run_loadVar_row w g t ty cs (0,0) d hg hu hd hi,Result.andThen]
def YL (w:World) (B b tb g:Nat) (S:St) (own:Nat->Prop) (L:Lg) (e:Ending) (w':World):Prop :=
 Quiet w w' B b tb g S own L/\((∃ l A c,ji S L=some l/\e=.returned (.tuple #[.agg #[.int .i64 (L.seq:Nat),.slice A l.length c],.bool true,.int .i64 0])/\l.length<=c/\c<=maxLen/\eG w' (· < w.heap.size) A l.length l) \/
  (ji S L=none/\e=.returned (.tuple #[.agg #[.int .i64 0,.slice none 0 0],.bool false,.int .i64 0])))
structure vD (w wx:World) (B b tb g:Nat) (S:St) (own:Nat->Prop) (L:Lg):Prop where
 q:Quiet w wx B b tb g S own L
 r:Ready wx tb
 z:af wx w.heap.size 87 #[.int .i64 0,.slice none 0 0]
 o:∀ i,own i->i < w.heap.size
section
variable {w wx w':World} {B b tb g:Nat} {S:St} {own:Nat->Prop} {L:Lg}
theorem vD.quiet (h:vD w wx B b tb g S own L) (hg:wx.grownBy w' none):vD w w' B b tb g S own L :=
 ⟨⟨h.q.1.quiet hg,h.q.2.trans (aa.none_ hg)⟩,h.r.keep hg (by simp),h.z.grown hg (by simp),h.o⟩
theorem vD.turn (h:vD w wx B b tb g S own L) (hq:Quiet wx w' B b tb g S own L):vD w w' B b tb g S own L :=
 ⟨⟨hq.1,h.q.2.trans hq.2⟩,Quiet.ready h.q.1 hq h.r,aj h.z (hq.2.block _ h.z.lt (λho=>by have:=h.o _ ho; omega)),h.o⟩
theorem vD.blk (h:vD w wx B b tb g S own L) (hq:Quiet wx w' B b tb g S own L) {q:Nat} {t:TypeId} {cs:Array Value} (hb:af wx q t cs) (hge:w.heap.size<=q):af w' q t cs :=
 aj hb (hq.2.block _ hb.lt (λho=>by have:=h.o _ ho; omega))
end
theorem Vf {w w':World} {own:Nat->Prop} {tb n:Nat} {A:Option Addr} {l:List Int} {base:Nat} (h:Ints w tb A n l) (ht:aa w w' own own) (hlo:∀ g,A=some ⟨g,0,none⟩->base<=g) (ho:∀ i,own i->i < base) (h0:∃ g,A=some ⟨g,0,none⟩):Ints w' tb A n l:=by
 obtain ⟨g0,rfl⟩:=h0;refine ⟨h.1,h.2.1,λhn=>?_⟩;obtain ⟨g,o,e,hlt,hne,hc⟩:=h.2.2 hn;simp only [Option.some.injEq,Addr.mk.injEq,and_true] at e;obtain ⟨rfl,rfl⟩:=e;refine ⟨g0,0,rfl,ake hlt ht.size,hne,λj hj=>?_⟩;rw [aki (a:=⟨g0,0+j,none⟩) (ht.block g0 hlt (λh1=>by have:=ho _ h1; have:=hlo _ rfl; omega))];exact hc j hj
theorem vD.done {w wx:World} {B b tb g:Nat} {S:St} {own:Nat->Prop} {L:Lg} (h:vD w wx B b tb g S own L) (h0:gG w B b tb g S own L) (v0 v1:Value) :
 af ((wx.setCell ⟨w.heap.size,0,none⟩ v0).setCell ⟨w.heap.size,1,none⟩ v1) w.heap.size 87 #[v0,v1]/\Quiet w ((wx.setCell ⟨w.heap.size,0,none⟩ v0).setCell ⟨w.heap.size,1,none⟩ v1) B b tb g S own L :=
 ⟨af.set2 h.z,Quiet.far h0 h.q (akd (akd (akr wx (some w.heap.size)) 0 v0) 1 v1) (λq e=>by cases e; exact akf _)⟩
theorem GK {l:List Nat} {ep sq:Int} {pages:List Int} {sum:Nat} (h:eU l=some (ep,sq,pages,sum)):headW ep sq pages sum=some l:=by
 unfold eU at h
 split at h
 · rename_i h1
   simp only [Option.some.injEq,Prod.mk.injEq] at h;obtain ⟨h2,h3,h4,h5⟩:=h;rw [h2,h3,h4,h5] at h1;exact h1
 · cases h
theorem Eg {w:World} {base n b:Nat} {v:Value} {l:List Int} (h:Own w base 3 1 v n (lW l)) (hl:∀ x∈l,-9223372036854775808<=x/\x<=9223372036854775807) (hb:b < base) (h0:0 < n) :
 ∃ g cap,v=.slice (some ⟨g,0,none⟩) n cap/\base<=g/\n<=cap/\Ints w b (some ⟨g,0,none⟩) n l:=by
 obtain ⟨g,cap,hv,h1,h2,h3,h4,h5⟩:=h.reads h0;have hlen:=h.len;rw [qg,Nat.mul_one] at hlen;refine ⟨g,cap,hv,h1,h3,hlen,hl,λ_=>⟨g,0,rfl,h2,by omega,λj hj=>?_⟩⟩;rw [Nat.zero_add];exact h5 _ _ (Qr l j (by omega))
theorem XR {w:World} {B b tb g:Nat} {S:St} {own:Nat->Prop} {L:Lg} (h:gG w B b tb g S own L) (hR:Ready w tb) (hf:S.f1=0) :
 Calls Tryz.prog 136 #[.pointer (some ⟨g,0,none⟩)] w (YL w B b tb g S own L):=by
 have hga:=aj9 w (.cells #[.int .i64 0,.slice none 0 0] 87) none;have H0:=hid (show vD w (w.alloc (.cells #[.int .i64 0,.slice none 0 0] 87)) B b tb g S own L from
  ⟨⟨h.quiet hga,aa.none_ hga⟩,hR.keep hga (by simp),af.new w _ _,λi hi=>h.s.kL hi⟩)
 have hkk:=h.k;have htk:=hkk.taken; have hfit:=hkk.fit; have htop:=h.s.ok.top; have hlo1:=hkk.low; have aiY:=hkk.tail;have OC:=hid h.l.lt;have zF:=hid (show tb < w.heap.size from by obtain ⟨_,h,_⟩:=hR; exact h.lt);have aU:=hid h.s.ok;have tC:=hid (S.jU h.s.ok (L.sec 0));have HF:=hid hf; have H:=hid h;clear h hR hga hkk hf;go_enter Tryz.func136,Tryz.ntmps136;go_wp2_with fail;refine (MR H0.out.q.1 HF.out 0 (by omega)).mono ?_
 rintro e w1 ⟨gs,cap,rfl,hgs,hbs,hq⟩;have H1:=hid (H0.out.turn hq);have hby:=rf (b:=tb) hbs (by have:=zF.out; simp at hgs; omega) tC.out.2;rw [tC.out.1] at hby;have iG:=hid hby;have Ii:=hid hgs;clear hgs hbs hq hby H0;obtain ⟨_,c1,c3,_,_,_,c10,_,_⟩:=H1.out.q.1.l.cells;have Df:=hid (Jc tb tb (some ⟨gs,0,none⟩) 256 cap (S.now (L.sec 0)) w1 H1.out.r iG.out);go_wp2_with fail
 cases hh:eU (S.now (L.sec 0)) with
 | none =>
   have sP:=hid (sG hh);rw [hh] at Df;clear hh;refine Df.out.mono ?_;rintro e w2 ⟨hg2,⟨_,_,_,_,_,ho,_⟩ | ⟨_,rfl⟩⟩
   case inl=>cases ho
   have H2:=hid ((H1.out.quiet hg2).quiet (aj9 w2 (.cells #[.int .i64 0,.int .i64 0,.slice none 0 0,.int .u32 0] 130) none));clear hg2 H1 c1 c3 c10;go_wp2_with fail;generalize w2.alloc (.cells #[.int .i64 0,.int .i64 0,.slice none 0 0,.int .u32 0] 130)=w3 at *;have x0:=H2.out.z.cell 0; have x1:=H2.out.z.cell 1; have f0:=H2.out.z.frozen 0; have f1:=H2.out.z.frozen 1;simp only [akb,aka,akc] at x0 x1
   go_quiet (fail)
   have hd:=vD.done (H2.out.quiet (dB (akr _ _) nq)) H.out (.int .i64 0) (.slice none 0 0);have HD:=hid hd; clear hd;go_wp2_with fail;refine tK rfl w.heap.size 87 _ _ rfl HD.out.1 Tryz.underlying87 rfl (by kernel_rfl) rfl ⟨HD.out.2,.inr ⟨sP.out,rfl⟩⟩
 | some p =>
   obtain ⟨ep,sq,pages,sum⟩:=p;have hw:=kR (GK hh);obtain ⟨_,_,hp1,Nh,_⟩:=iM hw.2;have HH:=hid hh;rw [hh] at Df;clear hh hw;refine Df.out.mono ?_;rintro e w2 ⟨hg2,⟨e1,s1,p1,m1,v,ho,rfl,hown,Ng,hsm⟩ | ⟨ho,_⟩⟩
   case inr=>cases ho
   cases ho
   obtain ⟨n,hn⟩:∃ n,pages.length=n:=⟨_,rfl⟩;rw [hn] at hown hp1 Nh;have HN:=hid hn;obtain ⟨gp,cp,rfl,oD,hcp,hin⟩:=Eg (b:=tb) hown Ng (by have:=zF.out; have:=H1.out.q.2.size; omega) hp1;have hga:=aj9 w2 (.cells #[.int .i64 ep,.int .i64 sq,.slice (some ⟨gp,0,none⟩) n cp,.int .u32 (sum:Nat)] 130) none;have H2:=hid ((H1.out.quiet hg2).quiet hga);have pM:=hid (kN hin hga (.inl rfl));have Ij:=hid (show w.heap.size<=gp from akh H1.out.q.2.size oD)
   have zK:=hid (af.new w2 130 #[.int .i64 ep,.int .i64 sq,.slice (some ⟨gp,0,none⟩) n cp,.int .u32 (sum:Nat)]);have HW2:=hid (show w.heap.size<=w2.heap.size from akh H1.out.q.2.size hg2.size);have Ht:=hid hsm;clear hg2 H1 c1 c3 c10 hown Ng hsm hga hin hn oD Df;go_wp2_with fail;generalize w2.alloc (.cells #[.int .i64 ep,.int .i64 sq,.slice (some ⟨gp,0,none⟩) n cp,.int .u32 (sum:Nat)] 130)=w3 at *
   generalize w2.heap.size=hb at *;have x0:=H2.out.z.cell 0; have x1:=H2.out.z.cell 1; have f0:=H2.out.z.frozen 0; have f1:=H2.out.z.frozen 1;have y0:=zK.out.cell 0; have y1:=zK.out.cell 1; have y2:=zK.out.cell 2; have y3:=zK.out.cell 3;simp only [akb,aka,akc] at x0 x1 y0 y1 y2 y3;obtain ⟨_,c1,c3,_,_,_,c10,_,_⟩:=H2.out.q.1.l.cells;have QV:=hid (λq=>LQ n (w3.drewN q) (by omega))
   have HRO:=hid (λq=>Ai (dS.drewN H2.out.q.1.l q) htk (by omega))
   by_cases hc:ep=L.ep/\sq=L.seq/\1+n<=L.room
   · have Q6:=hid (uU HH.out (by rw [HN.out]; exact hc));obtain ⟨rfl,rfl,h3⟩:=hc;have h3I:¬ ((L.room:Int) < 1+(n:Int)):=by omega
     have h3D:decide ((L.room:Int) < 1+(n:Int))=false:=by simpa using h3I
     go_quiet (first
      | (go_at_call 138; exact Calls.quiet_of_same (QV.out _))
      | (go_at_call 135; exact Calls.quiet_of (HRO.out _)))
     have hgd:=dB (akr w3 none) nq;have H4:=hid (H2.out.quiet hgd);have HI4:=hid (kN pM.out hgd (.inl rfl));have Q5:=hid (zK.out.grown hgd (by simp));clear hgd H2 pM zK QV HRO x0 x1 f0 f1 y0 y1 y2 y3 c1 c3 c10;generalize w3.drewN nq=w4 at *;have y2:=Q5.out.cell 2;simp only [akb,aka,akc] at y2;go_wp2_with fail;refine (IQ H4.out.q.1 HF.out n (by omega)).mono ?_
     rintro e w5 ⟨v5,rfl,hown5,Eo⟩;have H5:=hid (H4.out.turn Eo);have hb5:=H4.out.blk Eo Q5.out HW2.out;have gF:=hid hb5;have WQ:=hid (Vf HI4.out Eo.2 (base:=w.heap.size) (λg e=>by cases e; exact Ij.out) H4.out.o ⟨_,rfl⟩);obtain ⟨g5,c5,rfl,_,_,Ct,si,_,ach⟩:=Cf (b:=tb) hown5 (BU aU.out L n) (by have:=zF.out; have:=H4.out.q.2.size; omega) (by omega);have jC:=hid (RX (L.ep:Nat) (L.seq:Nat) (some ⟨gp,0,none⟩) n cp sum pages (some ⟨g5,0,none⟩) (256 * n) c5 (dV S L n) H5.out.q.1.l H5.out.r WQ.out ach rfl Nh hp1 Ct Ht.out)
     have z0:=hb5.cell 0; have z1:=hb5.cell 1; have z2:=hb5.cell 2; have z3:=hb5.cell 3;simp only [akb,aka,akc] at z0 z1 z2 z3;have EO:=hid (show w.heap.size<=w5.heap.size from H5.out.q.2.size);rw [HN.out] at Q6;clear hb5 hown5 Eo ach si y2 H4 HI4 Q5;go_wp2_with fail;refine jC.out.mono ?_;rintro e w6 ⟨ic,⟨l,A6,c6,hbr,rfl,hlc,hcm,him⟩ | ⟨hbr,rfl⟩⟩
     · have ku:=hid (Q6.out.trans hbr);have H6:=hid (H5.out.quiet ic);have hb6:=gF.out.grown ic (by simp);have z1':=hb6.cell 1;have x0:=H6.out.z.cell 0; have x1:=H6.out.z.cell 1; have f0:=H6.out.z.frozen 0; have f1:=H6.out.z.frozen 1;simp only [akb,aka,akc] at x0 x1 z1';have HD:=hid (vD.done H6.out H.out (.int .i64 (L.seq:Nat)) (.slice A6 l.length c6))
       have Ig:=hid ((him.weak (Q:=λi=>i<=w.heap.size) (λi _ hi=>by
        have h1:=H5.out.z.lt;show i < w5.heap.size;exact Nat.lt_of_le_of_lt hi h1)).turn (P':=λi=>i<=w.heap.size) (aa.aA (akd (akd (akr w6 (some w.heap.size)) 0 (.int .i64 (L.seq:Nat))) 1 (.slice A6 l.length c6)) (λq e=>by cases e; exact akf _)))
       have HLC:=hid hlc; have HCM:=hid hcm;clear ic hb6 hbr him z0 z1 z2 z3 hlc hcm jC;go_wp2_with fail;refine tK rfl w.heap.size 87 _ _ rfl HD.out.1 Tryz.underlying87 rfl (by kernel_rfl) rfl ⟨HD.out.2,.inl ⟨l,A6,c6,ku.out,rfl,HLC.out,HCM.out,Ig.out.weak (λi _ hi=>Nat.le_of_lt hi)⟩⟩
     · have sP:=hid (Q6.out.trans hbr);have H6:=hid (H5.out.quiet ic);have x0:=H6.out.z.cell 0; have x1:=H6.out.z.cell 1; have f0:=H6.out.z.frozen 0; have f1:=H6.out.z.frozen 1;simp only [akb,aka,akc] at x0 x1;have HD:=hid (vD.done H6.out H.out (.int .i64 0) (.slice none 0 0));clear ic hbr z0 z1 z2 z3 jC;go_wp2_with fail;refine tK rfl w.heap.size 87 _ _ rfl HD.out.1 Tryz.underlying87 rfl (by kernel_rfl) rfl ⟨HD.out.2,.inr ⟨sP.out,rfl⟩⟩
   · have sP:=hid (xB HH.out (by rw [HN.out]; exact hc));have HC:=hid hc;clear hc
     by_cases h1:ep=L.ep
     · by_cases h2:sq=L.seq
       · have h3:¬ (1+n<=L.room):=λh=>HC.out ⟨h1,h2,h⟩
         subst h1 h2;have h3I:(L.room:Int) < 1+(n:Int):=by omega
         have h3D:decide ((L.room:Int) < 1+(n:Int))=true:=by simpa using h3I
         go_quiet (first
          | (go_at_call 138; exact Calls.quiet_of_same (QV.out _))
          | (go_at_call 135; exact Calls.quiet_of (HRO.out _)))
         have HD:=hid (vD.done (H2.out.quiet (dB (akr _ _) nq)) H.out (.int .i64 0) (.slice none 0 0));go_wp2_with fail;refine tK rfl w.heap.size 87 _ _ rfl HD.out.1 Tryz.underlying87 rfl (by kernel_rfl) rfl ⟨HD.out.2,.inr ⟨sP.out,rfl⟩⟩
       · subst h1;have hdd:((sq:Int) != (L.seq:Int))=true:=by simpa using h2
         have hde:(sq == (L.seq:Int))=false:=by simpa using h2
         go_quiet (fail)
         have HD:=hid (vD.done (H2.out.quiet (dB (akr _ _) nq)) H.out (.int .i64 0) (.slice none 0 0));go_wp2_with fail;refine tK rfl w.heap.size 87 _ _ rfl HD.out.1 Tryz.underlying87 rfl (by kernel_rfl) rfl ⟨HD.out.2,.inr ⟨sP.out,rfl⟩⟩
     · have hdd:((ep:Int) != (L.ep:Int))=true:=by simpa using h1
       have hde:(ep == (L.ep:Int))=false:=by simpa using h1
       go_quiet (fail)
       have HD:=hid (vD.done (H2.out.quiet (dB (akr _ _) nq)) H.out (.int .i64 0) (.slice none 0 0));go_wp2_with fail;refine tK rfl w.heap.size 87 _ _ rfl HD.out.1 Tryz.underlying87 rfl (by kernel_rfl) rfl ⟨HD.out.2,.inr ⟨sP.out,rfl⟩⟩
def Ff (gn ep pg st ln hd sq:Int):Value:=.agg #[.int .i64 gn,.int .i64 ep,.int .i64 pg,.int .i64 st,.int .i64 ln,.int .i64 hd,.int .i64 sq]
theorem zt {gn pg:Int} {ep st ln hd sq n:Nat} (h:aL [gn,(ep:Int),pg,(st:Int),(ln:Int),(hd:Int),(sq:Int)] (n:Nat)=true):(Lg.new gn ep pg st ln hd sq).ok n/\64<=ln:=by
 have hs:=iR h;have h1:=(aV hs 1 (by simp)).2;have h6:=(aV hs 6 (by simp)).2;have hr:jg [gn,(ep:Int),pg,(st:Int),(ln:Int),(hd:Int),(sq:Int)] (n:Nat)=true:=by
  unfold aL at h;rw [Bool.and_eq_true] at h;exact h.2
 simp [jg] at hr h1 h6
 refine ⟨⟨?_,?_,?_,aks _,?_,?_⟩,by omega⟩
 · show st+ln<=n; omega
 · show 1<=ln; omega
 · show hd < ln; omega
 · show ep<=_; omega
 · show sq<=_; omega
theorem Qm {w:World} {B b tb:Nat} {S:St} {own:Nat->Prop} (h:gQ w B b tb S own) (gn pg:Int) (ep st ln hd sq:Nat) (hm:aL [gn,(ep:Int),pg,(st:Int),(ln:Int),(hd:Int),(sq:Int)] (S.n:Nat)=true) :
 Calls Tryz.prog 102 #[.pointer (some ⟨b,0,none⟩),.pointer (some ⟨tb,0,none⟩),Ff gn (ep:Nat) pg (st:Nat) (ln:Nat) (hd:Nat) (sq:Nat)] w λe w'=>∃ g,e=.returned (.pointer (some ⟨g,0,none⟩))/\w.heap.size<=g/\gG w' B b tb g S own (Lg.new gn ep pg st ln hd sq)/\w.grownBy w' none:=by
 have hok:=(zt hm).1;have HM:=hid hm; have aU:=hid hok; have H:=hid h;have hbk:=af.new w 49 #[.int .i64 gn,.int .i64 (ep:Nat),.int .i64 pg,.int .i64 (st:Nat),.int .i64 (ln:Nat),.int .i64 (hd:Nat),.int .i64 (sq:Nat)];have bz:=hid (aj9 w (.cells #[.int .i64 gn,.int .i64 (ep:Nat),.int .i64 pg,.int .i64 (st:Nat),.int .i64 (ln:Nat),.int .i64 (hd:Nat),.int .i64 (sq:Nat)] 49) none);have fD:=hid hbk
 have CU:=hid (h.quiet bz.out);clear h hm hok hbk;unfold Ff;have hck:dY [gn,(ep:Int),pg,(st:Int),(ln:Int),(hd:Int),(sq:Int)] (S.n:Nat)=0:=by unfold dY; rw [HM.out,if_pos rfl]
 have fM:=hid (λwx=>uW gn (ep:Nat) pg (st:Nat) (ln:Nat) (hd:Nat) (sq:Nat) (S.n:Nat) wx);rw [hck] at fM;clear hck;go_enter Tryz.func102,Tryz.ntmps102;go_wp2_with fail;generalize w.alloc (.cells #[.int .i64 gn,.int .i64 (ep:Nat),.int .i64 pg,.int .i64 (st:Nat),.int .i64 (ln:Nat),.int .i64 (hd:Nat),.int .i64 (sq:Nat)] 49)=wa at *;have hkeep:∀ wx,wa.grownBy wx none->wx.cell? ⟨w.heap.size,0,none⟩=some (.int .i64 gn)/\wx.cell? ⟨w.heap.size,1,none⟩=some (.int .i64 (ep:Nat))/\wx.cell? ⟨w.heap.size,2,none⟩=some (.int .i64 pg)/\wx.cell? ⟨w.heap.size,3,none⟩=some (.int .i64 (st:Nat))/\wx.cell? ⟨w.heap.size,4,none⟩=some (.int .i64 (ln:Nat))/\wx.cell? ⟨w.heap.size,5,none⟩=some (.int .i64 (hd:Nat))/\wx.cell? ⟨w.heap.size,6,none⟩=some (.int .i64 (sq:Nat)):=by
  intro wx hg;have hb:=fD.out.grown hg (by simp);exact ⟨by rw [hb.cell]; rfl,by rw [hb.cell]; rfl,by rw [hb.cell]; rfl,by rw [hb.cell]; rfl,by rw [hb.cell]; rfl,by rw [hb.cell]; rfl,by rw [hb.cell]; rfl⟩
 have av:=hid hkeep;have HD0:=hid (ah wa none);have gV:=hid (λwx (hg:wa.grownBy wx none)=>(CU.out.quiet hg).size);generalize hn:((S.n:Nat):Int)=nn at gV fM;clear hkeep
 go_region_held3 (λwx=>wx.cell? ⟨w.heap.size,0,none⟩=some (.int .i64 gn)/\wx.cell? ⟨w.heap.size,1,none⟩=some (.int .i64 (ep:Nat))/\wx.cell? ⟨w.heap.size,2,none⟩=some (.int .i64 pg)/\wx.cell? ⟨w.heap.size,3,none⟩=some (.int .i64 (st:Nat))/\wx.cell? ⟨w.heap.size,4,none⟩=some (.int .i64 (ln:Nat))/\wx.cell? ⟨w.heap.size,5,none⟩=some (.int .i64 (hd:Nat))/\wx.cell? ⟨w.heap.size,6,none⟩=some (.int .i64 (sq:Nat)))
  (first
    | exact av.out _ HD0.out
    | exact av.out _ az.out)
  (first
    | (go_at_call 48
       refine (gV.out _ HD0.out).mono ?_;rintro e w1 ⟨rfl,rfl⟩)
    | (go_at_call 47
       refine (fM.out _).mono ?_;rintro e w2 ⟨rfl,hg⟩;have az:=hid (HD0.out.trans hg);clear hg))
 obtain ⟨x0,x1,x2,x3,x4,x5,x6⟩:=av.out _ az.out;have HS2:=hid (CU.out.quiet az.out);have fU:=hid (bz.out.trans az.out);go_wp2_with fail;go_ret;have hga:=aj9 w2 (.cells ((Lg.new gn ep pg st ln hd sq).cs b tb) 202) none;exact ⟨w2.heap.size,rfl,fU.out.size,⟨HS2.out.quiet hga,af.new w2 _ _,λho=>by
  rcases ho with ho | ho
  · have:=HS2.out.kL ho; omega
  · have:=rM HS2.out.t; omega,aU.out⟩,fU.out.trans hga⟩
def wU (R:List (Rec × Value)):List Value:=R.flatMap λp=>[.int .i64 p.1.1,p.2]
theorem Mr (R:List (Rec × Value)) (p:Rec × Value):wU (R ++ [p])=wU R ++ [.int .i64 p.1.1,p.2]:=by simp [wU]
theorem UD:∀ (R:List (Rec × Value)) (j:Nat) (p:Rec × Value),R[j]?=some p->(wU R)[j * 2]?=some (.int .i64 p.1.1)/\(wU R)[j * 2+1]?=some p.2
 | [],j,p,h=>by simp at h
 | a :: R,0,p,h=>by
   simp at h
   subst h;exact ⟨rfl,rfl⟩
 | a :: R,j+1,p,h=>by
   have e:wU (a :: R)=[.int .i64 a.1.1,a.2] ++ wU R:=rfl;have hl:([.int .i64 a.1.1,a.2]:List Value).length=2:=rfl;obtain ⟨h1,h2⟩:=UD R j p (by simpa using h);rw [e];refine ⟨?_,?_⟩
   · rw [akv (by rw [hl]; omega),hl,show (j+1) * 2 - 2=j * 2 from by omega]; exact h1
   · rw [akv (by rw [hl]; omega),hl,show (j+1) * 2+1 - 2=j * 2+1 from by omega]; exact h2
def kg (w:World) (P:Nat->Prop) (v:Value) (l:List ax):Prop:=∃ A n c,v=.slice A n c/\n<=c/\eG w P A n l
theorem kg.turn {w w':World} {P P':Nat->Prop} {v:Value} {l:List ax} (h:kg w P v l) (ht:aa w w' P P'):kg w' P' v l:=by
 obtain ⟨A,n,c,h1,h2,h3⟩:=h;exact ⟨A,n,c,h1,h2,h3.turn ht⟩
theorem kg.weak {w:World} {P Q:Nat->Prop} {v:Value} {l:List ax} (h:kg w P v l) (hq:∀ i,i < w.heap.size->Q i->P i):kg w Q v l:=by
 obtain ⟨A,n,c,h1,h2,h3⟩:=h;exact ⟨A,n,c,h1,h2,h3.weak hq⟩
def nI (w:World) (P:Nat->Prop) (A:Option Addr) (n:Nat) (l:List Rec):Prop :=
 ∃ R:List (Rec × Value),R.map (·.1)=l/\l.length=n/\(0 < n->∃ g o,A=some ⟨g,o,none⟩/\g < w.heap.size/\¬ P g/\∀ j u,(wU R)[j]?=some u->w.cell? ⟨g,o+j,none⟩=some u)/\∀ p∈R,kg w P p.2 p.1.2
section
variable {w w':World} {P P' Q:Nat->Prop} {A:Option Addr} {n:Nat} {l:List Rec}
theorem nI.len (h:nI w P A n l):l.length=n:=by obtain ⟨_,_,h,_⟩:=h; exact h
theorem nI.turn (h:nI w P A n l) (ht:aa w w' P P'):nI w' P' A n l:=by
 obtain ⟨R,h1,h2,h3,h4⟩:=h;refine ⟨R,h1,h2,λhn=>?_,λp hp=>(h4 p hp).turn ht⟩;obtain ⟨g,o,e,hlt,hno,hc⟩:=h3 hn;refine ⟨g,o,e,ake hlt ht.size,λh5=>?_,λj u hu=>?_⟩
 · rcases ht.fresh g h5 with h6 | h6
   · exact hno h6
   · omega
 · rw [aki (a:=⟨g,o+j,none⟩) (ht.block g hlt hno)];exact hc j u hu
theorem nI.weak (h:nI w P A n l) (hq:∀ i,i < w.heap.size->Q i->P i):nI w Q A n l:=by
 obtain ⟨R,h1,h2,h3,h4⟩:=h;refine ⟨R,h1,h2,λhn=>?_,λp hp=>(h4 p hp).weak hq⟩;obtain ⟨g,o,e,hlt,hno,hc⟩:=h3 hn;exact ⟨g,o,e,hlt,λh5=>hno (hq g hlt h5),hc⟩
theorem nI.at_ (h:nI w P A n l) {j:Nat} (hj:j < n):∃ g o x B m c,A=some ⟨g,o,none⟩/\g < w.heap.size/\¬ P g/\l[j]?=some x/\w.cell? ⟨g,o+j * 2,none⟩=some (.int .i64 x.1) /\
 w.cell? ⟨g,o+j * 2+1,none⟩=some (.slice B m c)/\m<=c/\eG w P B m x.2:=by
 obtain ⟨R,h1,h2,h3,h4⟩:=h;obtain ⟨g,o,e,hlt,hno,hc⟩:=h3 (by omega);have hjR:j < R.length:=by rw [<-h1] at h2; simp at h2; omega
 obtain ⟨c0,c1⟩:=UD R j R[j] (akj hjR);obtain ⟨B,m,c,e2,hm,hd⟩:=h4 R[j] (List.getElem_mem hjR);refine ⟨g,o,R[j].1,B,m,c,e,hlt,hno,?_,hc _ _ c0,?_,hm,hd⟩
 · rw [<-h1,List.getElem?_map,akj hjR]; rfl
 · rw [<-e2]; exact hc _ _ c1
end
theorem D7 {w:World} {base n:Nat} {P:Nat->Prop} {A:Option Addr} {m c:Nat} {R:List (Rec × Value)} (h:Own w base 87 2 (.slice A m c) n (wU R)) (hR:R.length=n) (hb:∀ i,base<=i->i < w.heap.size->¬ P i) (hl:∀ p∈R,kg w P p.2 p.1.2) :
 nI w P A n (R.map (·.1)):=by
 refine ⟨R,rfl,by simpa using hR,λhn=>?_,hl⟩;obtain ⟨g,cap,e,hg,hlt,_,_,hc⟩:=h.reads hn;have hA:A=some ⟨g,0,none⟩:=by injection e
 exact ⟨g,0,hA,hlt,hb g hg hlt,λj u hu=>by rw [Nat.zero_add]; exact hc j u hu⟩
theorem D9:(Tryz.prog.info? 87).map (λi=>(i.zero,i.size,i.bytes))=some (some (.agg #[.int .i64 0,.slice none 0 0]),2,32):=by kernel_rfl
theorem K3 (w:World) (a0 a1:Value):Reads (w.alloc (.cells #[a0,a1] 87)) (w.heap.size+1) 2 (some ⟨w.heap.size,0,none⟩) 1 [a0,a1]:=by
 refine ⟨rfl,λ_=>⟨_,rfl,by simp,λj u hu=>?_⟩⟩;have hb:=(af.new w 87 #[a0,a1]).cell j;rw [addr_add,hb]
 simpa using hu
theorem zi (w:World) (q:Nat) (hq:w.heap.size=q) (a0 a1:Value):Reads (w.alloc (.cells #[a0,a1] 87)) (q+1) 2 (some ⟨q,0,none⟩) 1 [a0,a1]:=by
 subst hq;exact K3 w a0 a1
structure OpenAt (w wr:World) (B b tb g base:Nat) (S:St) (own:Nat->Prop) (L0 Lk:Lg) (vr:Value) (k:Nat):Prop where
 q:gG wr B b tb g S own Lk
 t:aa w wr own own
 r:Ready wr tb
 ln:Lk.ln=L0.ln
 kt:k<=Lk.taken
 lo:w.heap.size<=g/\g < base/\base<=wr.heap.size
 re:∃ R:List (Rec × Value),Own wr base 87 2 vr k (wU R)/\R.length=k/\(∀ p∈R,kg wr (λi=>i < w.heap.size\/i=g\/vr.ownBlock=some i) p.2 p.1.2) /\
  bF S L0.ln L0=(R.map (·.1) ++ (bF S (L0.ln - k) Lk).1,(bF S (L0.ln - k) Lk).2)
section
variable {w wr w':World} {B b tb g base:Nat} {S:St} {own:Nat->Prop} {L0 Lk:Lg} {vr:Value} {k:Nat}
theorem OpenAt.quiet (h:OpenAt w wr B b tb g base S own L0 Lk vr k) (hg:wr.grownBy w' none):OpenAt w w' B b tb g base S own L0 Lk vr k:=by
 obtain ⟨R,h1,h2,h3,h4⟩:=h.re;exact ⟨h.q.quiet hg,h.t.trans (aa.none_ hg),h.r.keep hg (by simp),h.ln,h.kt,⟨h.lo.1,h.lo.2.1,akh h.lo.2.2 hg.size⟩,R,h1.keep hg (λ_ _=>by simp),h2,λp hp=>(h3 p hp).turn (aa.none_ hg),h4⟩
theorem OpenAt.turn (h:OpenAt w wr B b tb g base S own L0 Lk vr k) (ho:∀ i,own i->i < w.heap.size) (hq:Quiet wr w' B b tb g S own Lk):OpenAt w w' B b tb g base S own L0 Lk vr k:=by
 obtain ⟨R,h1,h2,h3,h4⟩:=h.re;have hlo:=h.lo;refine ⟨hq.1,h.t.trans hq.2,Quiet.ready h.q hq h.r,h.ln,h.kt,⟨h.lo.1,h.lo.2.1,akh h.lo.2.2 hq.2.size⟩,R,gT h1 (λq hv=>hq.2.block q (h1.bH q hv).2 (λhi=>by have:=ho _ hi; have:=(h1.bH q hv).1; omega)),h2,λp hp=>(h3 p hp).turn ?_,h4⟩;exact ⟨hq.2.os,hq.2.tape,hq.2.output,hq.2.size,λi hi hn=>hq.2.block i hi (λh5=>hn (.inl (ho _ h5))),λi hi=>.inl hi⟩
def QM (w:World) (B b tb:Nat) (S:St) (own:Nat->Prop) (L0:Lg) (e:Ending) (w':World):Prop :=
 ∃ g A n c,e=.returned (.tuple #[.pointer (some ⟨g,0,none⟩),.slice A n c,.int .i64 0])/\n<=c/\w.heap.size<=g/\gG w' B b tb g S own (bF S L0.ln L0).2/\Ready w' tb/\nI w' (λi=>i < w.heap.size\/i=g) A n (bF S L0.ln L0).1/\aa w w' own own
theorem OpenAt.stop (h:OpenAt w wr B b tb g base S own L0 Lk vr k) (he:bF S (L0.ln - k) Lk=([],Lk)):QM w B b tb S own L0 (.returned (.tuple #[.pointer (some ⟨g,0,none⟩),vr,.int .i64 0])) wr:=by
 obtain ⟨R,h1,h2,h3,h4⟩:=h.re;obtain ⟨A,c,rfl,hc,_,_⟩:=h1.shape;have hlo:=h.lo;rw [he] at h4;refine ⟨g,A,k,c,rfl,hc,h.lo.1,by rw [h4]; exact h.q,h.r,?_,h.t⟩;rw [h4,List.append_nil];refine D7 h1 h2 (λi hb _ hi=>by omega) (λp hp=>(h3 p hp).weak (λi _ hi=>?_));rcases hi with hi | hi
 · exact .inl hi
 · exact .inr (.inl hi)
theorem OpenAt.next {w3 w5 w6:World} (h:OpenAt w wr B b tb g base S own L0 Lk vr k) (ho:∀ i,own i->i < w.heap.size) (htb:tb < w.heap.size) {R:List (Rec × Value)} (r1:Own wr base 87 2 vr k (wU R)) (r2:R.length=k)
 (r3:∀ p∈R,kg wr (λi=>i < w.heap.size\/i=g\/vr.ownBlock=some i) p.2 p.1.2) (r4:bF S L0.ln L0=(R.map (·.1) ++ (bF S (L0.ln - k) Lk).1,(bF S (L0.ln - k) Lk).2)) {l:List ax} {A:Option Addr} {c:Nat} (hlc:l.length<=c)
 (him:eG wr (λi=>i < w.heap.size\/i=g\/vr.ownBlock=some i) A l.length l) (hr0:Lk.room≠0) (hfr:ji S Lk=some l) (h3:wr.grownBy w3 none) {v':Value}
 (hown:Own w5 base 87 2 v' (k+1) (wU R ++ [.int .i64 (Lk.seq:Nat),.slice A l.length c])) (hgr:bS w3 w5 vr v')
 (GJ:dS w6 g (Lk.pass (1+l.length)) b tb) (ic:w5.grownBy w6 (some g)) (mf:Lk.seq<=1099511627775):OpenAt w w6 B b tb g base S own L0 (Lk.pass (1+l.length)) v' (k+1):=by
 have hlo:=h.lo;have hvb:∀ q,vr.ownBlock=some q->base<=q:=λq hq=>(r1.bH q hq).1
 have hrm:=AB hfr;have hkt:=h.kt;have hroom:Lk.room=Lk.ln - Lk.taken:=by
  unfold Lg.room at hr0 ⊢
  split
  · rename_i hb; rw [if_pos hb] at hr0; exact absurd rfl hr0
  · rfl
 have hq3:=h.q.quiet h3;have Eo:=hq3.far hgr.1 (λq e ho2=>by
  have h1:=hvb q e;rcases ho2 with (h2 | h2) | h2
  · have:=ho _ h2; omega
  · omega
  · omega)
 have hq6:=Eo.log ic GJ (Eo.k.pass hrm mf);have dL:aa w w5 own own:=⟨hgr.1.os.trans (h3.os.trans h.t.os),hgr.1.tape.trans (h3.tape.trans h.t.tape),hgr.1.output.trans (h3.output.trans h.t.output),akh h.t.size (akh h3.size hgr.1.size),
  λi hi hno=>((hgr.1.block i (ake hi (akh h.t.size h3.size)) (λe=>by have:=hvb i e.symm; omega)).trans (h3.block i (ake hi h.t.size) (by simp))).trans (h.t.block i hi hno),λi hi=>.inl hi⟩
 have hP:aa wr w6 (λi=>(i < w.heap.size\/i=g)\/vr.ownBlock=some i) (λi=>(i < w.heap.size\/i=g)\/v'.ownBlock=some i) :=
  ((aa.none_ h3).trans (oU hgr)).trans (aa.aA ic (λq e=>by cases e; exact .inl (.inr rfl)))
 have hw:∀ {v:Value} {y:List ax},kg wr (λi=>i < w.heap.size\/i=g\/vr.ownBlock=some i) v y->kg w6 (λi=>i < w.heap.size\/i=g\/v'.ownBlock=some i) v y:=fun {v y} hv =>
  ((hv.weak (Q:=λi=>(i < w.heap.size\/i=g)\/vr.ownBlock=some i) (λi _ hi=>by rcases hi with (hi | hi) | hi; exact .inl hi; exact .inr (.inl hi); exact .inr (.inr hi))).turn hP).weak (λi _ hi=>by rcases hi with hi | hi | hi; exact .inl (.inl hi); exact .inl (.inr hi); exact .inr hi)
 refine ⟨hq6,kG dL ic hlo.1,?_,h.ln,?_,⟨hlo.1,hlo.2.1,akh hlo.2.2 (akh h3.size (akh hgr.1.size ic.size))⟩,R ++ [(((Lk.seq:Int),l),.slice A l.length c)],?_,by rw [akl,r2]; rfl,?_,?_⟩
 · exact ((h.r.keep h3 (by simp)).keep hgr.1 (λe=>by have:=hvb _ e.symm; omega)).keep ic (by simp; omega)
 · show k+1<=Lk.taken+(1+l.length);omega
 · rw [Mr];exact hown.keep ic (λq e1 e2=>by
    cases e2
    have:=(hown.bH g e1).1;omega)
 · intro p hp;rcases List.mem_append.1 hp with hp | hp
   · exact hw (r3 p hp)
   · simp at hp
     subst hp;exact hw ⟨A,l.length,c,rfl,hlc,him⟩
 · have hln:=h.ln;rw [r4,show L0.ln - k=(L0.ln - (k+1))+1 from by omega,xe hr0 hfr,List.map_append]
   simp
end
theorem MU {w:World} {B b tb:Nat} {S:St} {own:Nat->Prop} (h:gQ w B b tb S own) (hR:Ready w tb) (hf:S.f1=0) (gn pg:Int) (ep st ln hd sq:Nat) (hm:aL [gn,(ep:Int),pg,(st:Int),(ln:Int),(hd:Int),(sq:Int)] (S.n:Nat)=true) :
 Calls Tryz.prog 98 #[.pointer (some ⟨b,0,none⟩),.pointer (some ⟨tb,0,none⟩),Ff gn (ep:Nat) pg (st:Nat) (ln:Nat) (hd:Nat) (sq:Nat)] w (QM w B b tb S own (Lg.new gn ep pg st ln hd sq)):=by
 obtain ⟨i0,hi0,hz0,hz1,hz2⟩:=info_parts D9;have hi:=hid hi0; have z0:=hid hz0; have z1:=hid hz1; have z2:=hid hz2;have hga:=aj9 w (.cells #[.int .i64 gn,.int .i64 (ep:Nat),.int .i64 pg,.int .i64 (st:Nat),.int .i64 (ln:Nat),.int .i64 (hd:Nat),.int .i64 (sq:Nat)] 49) none;have hnew:=Qm (h.quiet hga) gn pg ep st ln hd sq hm;unfold Ff at hnew;have nJ:=hid hnew;have bz:=hid hga;have fA:=hid (hR.keep hga (by simp))
 have HO:=hid (λi (hi:own i)=>h.kL hi);have zF:=hid (show tb < w.heap.size from by obtain ⟨_,h,_⟩:=hR; exact h.lt);have HF:=hid hf;have hok:=(zt hm).1;have aU:=hid hok;have agK:=hid h.ok.top;have hb:=af.new w 49 #[.int .i64 gn,.int .i64 (ep:Nat),.int .i64 pg,.int .i64 (st:Nat),.int .i64 (ln:Nat),.int .i64 (hd:Nat),.int .i64 (sq:Nat)];have x0:=hb.cell 0; have x1:=hb.cell 1; have x2:=hb.cell 2; have x3:=hb.cell 3; have x4:=hb.cell 4; have x5:=hb.cell 5; have x6:=hb.cell 6
 simp only [akb,aka,akc] at x0 x1 x2 x3 x4 x5 x6;clear h hR hf hm hga hnew hok hb hi0 hz0 hz1 hz2;unfold Ff;go_enter Tryz.func98,Tryz.ntmps98;go_wp2_with fail;refine nJ.out.mono ?_;rintro e w1 ⟨g,rfl,hge,hla,hg1⟩;generalize hL0:Lg.new gn ep pg st ln hd sq=L0 at *;have j3:=hid hL0; clear hL0;have H1:=hid (show OpenAt w w1 B b tb g w1.heap.size S own L0 L0 (.slice none 0 0) 0 from
  ⟨hla,aa.none_ (bz.out.trans hg1),fA.out.keep hg1 (by simp),rfl,aks _,⟨akh bz.out.size hge,hla.l.lt,akf _⟩,[],Own.nil _ _ _ _,rfl,by simp,by simp⟩)
 clear hge hla hg1 nJ fA bz x0 x1 x2 x3 x4 x5 x6;generalize hbs:w1.heap.size=base at *;clear hbs;go_wp2_with fail
 go_loopw [10] (λv wr=>∃ (k:Nat) (Lk:Lg),Lk.seq=L0.seq+k/\OpenAt w wr B b tb g base S own L0 Lk v k) (λv _=>match v with | .slice _ n _=>L0.ln - n | _=>0)
 case atStart=>exact ⟨0,L0,rfl,H1.out⟩
 case round =>
  clear H1;obtain ⟨k,Lk,hks,hoa⟩:=hrel;have HA:=hid hoa;have hkk:=hoa.q.k;have htk:=hkk.taken; have hfit:=hkk.fit; have hkt:=hoa.kt; have hln:=hoa.ln;have htop:=agK.out;have HKS:=hid hks;clear hoa hkk hks;obtain ⟨R,r1,r2,r3,r4⟩:=HA.out.re;obtain ⟨A0,c0,rfl,_,_,_⟩:=r1.shape;have zJ:=hid hln; clear hln r1 r2 r3 r4;go_wp2_with fail;refine (Rk HA.out.q.l htk (by omega)).mono ?_;rintro e w2 ⟨rfl,hg2⟩;have HA2:=hid (HA.out.quiet hg2)
  clear hg2 HA
  by_cases h0:Lk.room=0
  · have Zt:¬ ((0:Int) < (Lk.room:Int)):=by omega
    have HE:=hid (HA2.out.stop (rY h0));go_wp2_with fail
    go_ret3
    exact HE.out
  · have Zt:(0:Int) < (Lk.room:Int):=by omega
    go_wp2_with fail;refine (XR HA2.out.q HA2.out.r HF.out).mono ?_;rintro e w3 ⟨hq3,⟨l,A,c,hfr,rfl,hlc,hcm,him⟩ | ⟨hfr,rfl⟩⟩
    · have hga:=aj9 w3 (.cells #[.int .i64 (Lk.seq:Nat),.slice A l.length c] 87) none;have pV:=hid ((HA2.out.turn HO.out hq3).quiet hga);have hlt2:=HA2.out.lo;have rF:=hid (show some w3.heap.size≠(Value.slice A0 k c0).ownBlock from λe=>by
       obtain ⟨R2,q1,_⟩:=(HA2.out.turn HO.out hq3).re;have:=(q1.bH _ e.symm).2;omega)
      obtain ⟨R,r1,r2,r3,r4⟩:=pV.out.re;have jC:=hid ((him.weak (Q:=λi=>i < w.heap.size\/i=g\/(Value.slice A0 k c0).ownBlock=some i) (λi _ hi=>by
       rcases hi with hi | hi | hi
       · exact ake hi HA2.out.t.size
       · show i < w2.heap.size; omega
       · obtain ⟨R2,q1,_⟩:=HA2.out.re;exact (q1.bH i hi).2)).turn (aa.none_ (own:=λi=>i < w.heap.size\/i=g\/(Value.slice A0 k c0).ownBlock=some i) hga))
      have HB3:=hid (af.new w3 87 #[.int .i64 (Lk.seq:Nat),.slice A l.length c]);have HR1:=hid r1; have HR2:=hid r2; have HR3:=hid r3; have HR4:=hid r4; have Di:=hid hfr; have HLC:=hid hlc;have hrm:=AB hfr;have hrl:Lk.room+Lk.taken<=Lk.ln:=by unfold Lg.room; split <;> omega
      have hkl:k < L0.ln:=by have:=zJ.out; omega
      clear hq3 hfr hlc hcm him hga r1 r2 r3 r4;have gV:=hid (show base<=w3.heap.size+1 from by have:=pV.out.lo.2.2; simpa using this)
      go_wp2_with (at_builtin
                   refine ai _ rfl (.tmp 34) (.tmp 36) _ rfl base 87 i0 _ 2 32 Tryz.underlying83 hi.out z0.out z1.out z2.out rfl (by omega) _ k _ rfl (HR1.out.alloc _)
                    _ _ 1 1 _ rfl (zi _ (w3.heap.size+1) (World.size_alloc _ _) _ _) (λu hu=>by simp at hu; rcases hu with rfl | rfl <;> rfl) (by simp only [maxLen]; omega) (by omega) (by have:=gV.out; simp; omega) ?_
                   intro v' w5 hown' dC;have xK:=hid hown'; have fP:=hid dC;have y1:=((HB3.out.alloc _).grown dC.1 rF.out).cell 1;simp only [akb,aka,akc] at y1;clear hown' dC)
      have hal:=aj9 (w3.alloc (.cells #[.int .i64 (Lk.seq:Nat),.slice A l.length c] 87)) (.cells #[.int .i64 (Lk.seq:Nat),.slice A l.length c] 87) none;have OT:=hid hal;have hl5:=(pV.out.quiet hal).q.far fP.out.1 (λq e ho2=>by
       have h1:=(HR1.out.bH q e).1;rcases ho2 with (h2 | h2) | h2
       · have:=HO.out _ h2; omega
       · have:=zF.out; omega
       · omega)
      have Ic:=hid hl5;have hlen:l.length<=1099511627776:=by omega
      have hseq:Lk.seq<=1099511627775:=(FE Di.out).2.2;have CR:=hid hseq;clear hal hl5;refine (wR l.length _ hlen).mono ?_;rintro e w6 ⟨rfl,rfl⟩;go_wp2_with fail;refine (MS Ic.out.l (1+l.length) (by omega) (by omega) (by have:=Ic.out.k.tail; omega) (by omega) (by omega)).mono ?_;rintro e w7 ⟨rfl,Vw,fZ⟩;have HN:=hid (pV.out.next HO.out zF.out HR1.out HR2.out HR3.out HR4.out HLC.out jC.out h0 Di.out OT.out xK.out fP.out Vw fZ CR.out)
      have ng:=hid (show (Lk.pass (1+l.length)).seq=L0.seq+(k+1) from by show Lk.seq+1=_; have:=HKS.out; omega);clear Vw fZ Ic y1 xK fP OT HR1 HR3 jC HB3;obtain ⟨R9,q9,_⟩:=HN.out.re;obtain ⟨A5,c5,rfl,_,_,_⟩:=q9.shape;go_wp2_with fail
      go_roundw
      case rel=>exact ⟨k+1,_,ng.out,HN.out⟩
      case measure=>simp; omega
    · have pV:=hid ((HA2.out.turn HO.out hq3).quiet (aj9 w3 (.cells #[.int .i64 0,.slice none 0 0] 87) none));have HE:=hid (pV.out.stop (om hfr));clear hq3 hfr HA2;go_wp2_with fail
      go_ret3
      exact HE.out
end Go.Proofs.YtinajlbijgedbaaGreat.Log
namespace Go.Proofs.YtinajlbijgedbaaGreat.Log
open Go.RowKit CrcMath CodecMath Mem Crc Codec DiskSpec Dsk Sup
def o7 (fill:Int) (i:Nat):Nat:=((fill+i) % 256).toNat
theorem Yv (fill:Int) (i:Nat):o7 fill i < 256:=by unfold o7; omega
end Go.Proofs.YtinajlbijgedbaaGreat.Log
