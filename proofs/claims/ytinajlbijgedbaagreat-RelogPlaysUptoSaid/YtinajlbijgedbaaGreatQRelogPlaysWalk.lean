/- Texts of this seat's proofs: RelogPlaysWalk. -/
import Derived.Test.YtinajlbijgedbaaGreatQRelOpened
import Derived.Test.YtinajlbijgedbaaGreatQRelCalls
import Derived.Test.YtinajlbijgedbaaGreatQRefStoIdle
import Derived.Laws.StructEq
import Derived.Deep.DeepCutAuto
import Derived.Deep.CutBlock
import Derived.Deep.RegionHeld3
set_option linter.unusedVariables false
set_option maxRecDepth 100000
set_option maxHeartbeats 16000000
namespace Go.Proofs.YtinajlbijgedbaaGreat.Both
open Lib (hid)
open Go.ChangeShapes Go.WideShapes Go.ChangeAt Go.RowKit CrcMath CodecMath Mem Crc Codec DiskSpec Dsk Sup Log RLog Sto RSto
section
variable {W w w':World} {bb:Nat} {L:BL} {M:BM} {s:Sto} {tg:Option (Int × Int)} {m V:Nat}
theorem Yy (h:Bo W w (λi=>i=bb) L M s s tg tg) (hc:af w bb 43 L.cs) (hg:iB m V s) (hv:V<=549755000000) (hm:m < 1099511627776) (x:O7) (hx:x.ok W) :
 Calls Tryz.prog 10 #[.pointer (some ⟨bb,0,none⟩),.agg #[.int .i64 x.kind,.int .i64 x.start,.int .i64 x.len,.int .i64 x.page,.int .i64 x.fill,.bool x.left,.slice x.A x.n x.c]] w λe w'=>e=.returned (.bool true)/\Live W bb (m+1) (V+1189) w':=by
 obtain ⟨xk,xs,xl,xp,xf,lf,A,n,c,l⟩:=x;have hp:QK W A n l:=hx.picks;have hn:n<=maxLen:=hx.n;show Calls Tryz.prog 10 #[.pointer (some ⟨bb,0,none⟩),.agg #[.int .i64 xk,.int .i64 xs,.int .i64 xl,.int .i64 xp,.int .i64 xf,.bool lf,.slice A n c]] w _
 by_cases h0:xk=0
 · rw [h0]; exact Yx h hc hg hv
 by_cases h1:xk=1
 · rw [h1]; exact V3 h hc hg hv
 by_cases h2:xk=2
 · rw [h2]; exact PQ h hc hg hv
 by_cases h3:xk=3
 · rw [h3]; exact SG h hc hg hv
 by_cases h4:xk=4
 · rw [h4]; exact VZ h hc hg hv
 by_cases h5:xk=5
 · rw [h5]; exact V4 h hc hg hv
 by_cases h6:xk=6
 · rw [h6]; exact Yw h hc hg hv
 by_cases h7:xk=7
 · rw [h7]; exact SH h hc hg hv hm hp hn
 exact V5 h hc hg hv ⟨h0,h1,h2,h3,h4,h5,h6,h7⟩
theorem O8 (w:World) (a0 a1 a2 a3 a4 a5 a6:Int) :
 (binOp .neq 49 (.agg #[.int .i64 a0,.int .i64 a1,.int .i64 a2,.int .i64 a3,.int .i64 a4,.int .i64 a5,.int .i64 a6]) (.agg #[.int .i64 a0,.int .i64 a1,.int .i64 a2,.int .i64 a3,.int .i64 a4,.int .i64 a5,.int .i64 a6])).run Tryz.prog w=.ok (.bool false) w:=by
 go_simp
theorem Live.gr (h:Live W bb m V w):W.grownBy w none:=h.1
end
end Go.Proofs.YtinajlbijgedbaaGreat.Both
namespace Go.Proofs.YtinajlbijgedbaaGreat.RelogPlaysUpto
open Lib (hid)
open Go.ChangeShapes Go.WideShapes Go.ChangeAt Go.RowKit CrcMath CodecMath Mem Crc Codec DiskSpec Dsk Sup Log RLog Sto RSto Both
theorem walk {H:Type} {enc:TypeId × Value->H} (W:World) (base:Nat) (v0:Value) (d0:DataW H) (p0:List MemPlace)
 (o0:Value.okWide Tryz.prog W .any base 22 v0)
 (h0:DataW.Trod enc Tryz.prog W 0 (λ_=>true) true 22 v0 d0 p0)
 (_hsz:(DataW.weightsEach Tryz.prog [22] [d0]).all (·<=reachBytes)=true) (hk:Rows.uptoSmall H [d0]=true) :
 Calls Tryz.prog 3 #[v0] W λe W'=>e=.returned (.bool true)/\Below W.heap.size W W':=by
 obtain ⟨A,n,c,ops,rfl,hsc,hn⟩:=MB o0 h0 hk (akw ..);have ZC:=hid hsc;clear o0 h0 hk hsc;obtain ⟨dF,hf,hb,abJ,hop⟩:=acB;obtain ⟨d3,hd3⟩:∃ d3,(plain 400 dF).ok->iC 400 dF (aW 2 16 18 64)=(0,some ⟨plain 400 d3,(aW 2 16 18 64).next.log,(aW 2 16 18 64).next,aM,none⟩,plain 400 d3):=by
  by_cases hok:(plain 400 dF).ok
  · obtain ⟨d3,h⟩:=hop hok;exact ⟨d3,λ_=>h⟩
  · exact ⟨dF,λh=>absurd h hok⟩
 obtain ⟨s0,hs0⟩:∃ s0,(⟨plain 400 d3,(aW 2 16 18 64).next.log,(aW 2 16 18 64).next,aM,none⟩:Sto)=s0:=⟨_,rfl⟩;have Q7:=hid (GU W hf hb hd3);rw [hs0] at Q7 hd3;have bu:aL (aW 2 16 18 64).l ((400:Nat):Int)=true:=I7 (by omega) zh;have Bi:=hid hd3; have HF:=hid hf; have HB:=hid hb; have gX:=hid bu;have pO:=hid (λ(hok:(plain 400 dF).ok)=>(show iB 3 1025 s0 from ⟨(MQ abJ hb bu).2 s0 (by rw [hd3 hok]),(Lv 400 dF (aW 2 16 18 64)).2 s0 (by rw [hd3 hok])⟩))
 clear hop hs0 hf hb abJ hd3 bu;go_enter Tryz.func3,Tryz.ntmps3;go_wp2_with fail;refine Q7.out.mono ?_;rintro e w1 ⟨b,tb,g,sb,dm,own,rfl,hst,hg1⟩;have HST:=hid hst; have az:=hid hg1;have ER:=hid (show Calls Tryz.prog 5 #[.int .i64 400] w1 _ from aai 400 w1 (by omega) (by omega));clear hst hg1 Q7;go_wp2_with fail;refine ER.out.mono ?_;rintro e w2 ⟨r,bl,c2,dv,vv,vs,ro,rfl,hl,hg2⟩;have hrl:∀ i,ro i->w1.heap.size<=i:=λi hi=>hl.low i hi
 have hra:bX w2 W.heap.size r (St.new 400) ro:=⟨bl,c2,dv,vv,vs,{ hl with low:=λi hi=>akh az.out.size (hrl i hi) }⟩;have hap:∀ i,aD own tb g sb dm none i->¬ ro i:=λi hi e=>by have:=HST.out.bO hi; have:=hrl i e; omega
 have abM:bf (λi=>ro i\/False) w2 W.heap.size b tb g sb dm none own s0:=HST.out.other (F:=λ_=>False) (F':=λ_=>False) (aa.none_ hg2) (λi e=>e.elim) (λi _ e=>e) (λi hi=>.inr (hrl i (hi.resolve_right id))) (λi hi=>eP hra (hi.resolve_right id));have rE:=hid hra; have sS:=hid hap; have HS2:=hid abM; have HG2:=hid (az.out.trans hg2);have ng:=hid (PD w2);clear hl hg2 hrl hra hap abM ER HST az
 go_wp2_with (go_at_call 6; (with_reducible refine ng.out.mono ?_); rintro e w3 ⟨rfl,hg3⟩; have aZ:=hid hg3; clear hg3)
 have abR:bX w3 W.heap.size r (St.new 400) ro:=eH rE.out aZ.out (λ_ e=>by cases e);have hff:=Rs abR (HG2.out.trans aZ.out).size ((16:Nat):Int) ((18:Nat):Int) ((64:Nat):Int) (λi=>by show ([]:List (List Nat)).length < _; simp);rw [HF.out] at hff;have ZX:=hid (show Calls Tryz.prog 7 #[.pointer (some ⟨r,0,none⟩),.int .i64 16,.int .i64 18,.int .i64 64] w3 _ from hff);have uZ:=hid (HS2.out.quiet aZ.out)
 clear abR hff ng;go_wp2_with fail;refine ZX.out.mono ?_;rintro e w4 ⟨rfl,ro4,hr4,jF⟩;have hok:(plain 400 dF).ok:=by obtain ⟨_,_,_,_,_,hl⟩:=hr4; exact hl.ok
 have hro:∀ i,ro4 i->ro i\/w3.heap.size<=i:=λi hi=>jF.fresh i hi
 have hhf:Both.Half W w3 (λ_=>False) b r ro4 400 dF s0 w4 tb g sb dm own:=by
  refine ⟨dX (HG2.out.trans aZ.out) jF (λi hi=>BX rE.out hi),uZ.out.other jF (λi e=>.inl e) (λi hi e=>sS.out i hi e) (λi hi=>?_) (λi hi=>eP hr4 (hi.resolve_right id)),hr4,λi hi e=>?_,λi e=>e.elim,λi e=>e.elim,jF.size⟩
  · exact (hro i (hi.resolve_right id)).imp .inl id
  · rcases hro i e with h1 | h1
    · exact sS.out i hi h1
    · have:=uZ.out.bO hi; omega
 have HOD:=hid (UW hhf HB.out gX.out (by show 2 < _; omega) (by show 1 < _; omega) (by rw [Bi.out hok]));have ag8:=hid (pO.out hok);clear hr4 jF hok hro hhf ZX uZ pO;go_wp2_with fail;refine HOD.out.mono ?_;rintro e w5 ⟨rg,q,ro5,rfl,hpre,_,_⟩;have Hu:=hid hpre;clear hpre HOD;have mi:=hid (λwx=>IA (sb:=sb) wx 400);go_upto_region 10 with fail;have hga:=aj9 w5 (.cells #[.pointer (some ⟨sb,0,none⟩),.int .i64 400,.pointer none] 95) none
 have Nj:=af.new w5 95 #[.pointer (some ⟨sb,0,none⟩),.int .i64 400,.pointer none];have hs6:(w5.alloc (.cells #[.pointer (some ⟨sb,0,none⟩),.int .i64 400,.pointer none] 95)).heap.size=w5.heap.size+1:=by simp
 have gM:=hid hga; have CZ:=hid Nj; have CS:=hid hs6;clear hga Nj hs6;go_wp2_with fail;refine (mi.out _).mono ?_;rintro e w6 ⟨rfl,rfl⟩;go_upto_region 11 with fail;clear mi;generalize hw6:w5.alloc (.cells #[.pointer (some ⟨sb,0,none⟩),.int .i64 400,.pointer none] 95)=w6 at *;clear hw6;generalize hmb:w5.heap.size=mb at *;have hs6:w6.heap.size=mb+1:=CS.out;have hgb:=aj9 w6 (.cells #[.pointer (some ⟨q,0,none⟩),.int .i64 400,.bool false,.int .i64 0,.int .i64 0] 41) none
 have Qu:=af.new w6 41 #[.pointer (some ⟨q,0,none⟩),.int .i64 400,.bool false,.int .i64 0,.int .i64 0];have hs7:(w6.alloc (.cells #[.pointer (some ⟨q,0,none⟩),.int .i64 400,.bool false,.int .i64 0,.int .i64 0] 41)).heap.size=mb+1+1:=by simp [hs6]
 rw [hs6] at Qu;have Bd:=Hu.out.bo (mb:=mb) (nb:=mb+1) (F0:=λ_=>False) (F1:=λ_=>False) (aa.none_ (gM.out.trans hgb)) (λi e=>e) (CZ.out.grown hgb (by simp)) Qu (by omega) (by omega) (by omega);have pR:=hid Bd; have ZE:=hid hs7;clear hgb Qu hs7 Bd Hu CZ gM hs6 hmb;generalize hw7:w6.alloc (.cells #[.pointer (some ⟨q,0,none⟩),.int .i64 400,.bool false,.int .i64 0,.int .i64 0] 41)=w7 at *;clear hw7 CS;have hgc:=aj9 w7 (.cells #[.pointer (some ⟨b,0,none⟩),.pointer (some ⟨r,0,none⟩),.pointer (some ⟨sb,0,none⟩),.pointer (some ⟨q,0,none⟩),.pointer (some ⟨mb,0,none⟩),.pointer (some ⟨mb+1,0,none⟩)] 43) none
 have hc8:=af.new w7 43 #[.pointer (some ⟨b,0,none⟩),.pointer (some ⟨r,0,none⟩),.pointer (some ⟨sb,0,none⟩),.pointer (some ⟨q,0,none⟩),.pointer (some ⟨mb,0,none⟩),.pointer (some ⟨mb+1,0,none⟩)];rw [ZE.out] at hc8;have EW:=hid (show Live W (mb+1+1) 3 1025 (w7.alloc (.cells #[.pointer (some ⟨b,0,none⟩),.pointer (some ⟨r,0,none⟩),.pointer (some ⟨sb,0,none⟩),.pointer (some ⟨q,0,none⟩),.pointer (some ⟨mb,0,none⟩),.pointer (some ⟨mb+1,0,none⟩)] 43)) from
  ⟨pR.out.gr.trans hgc,by have:=pR.out.gr.size; have:=ZE.out; omega,.inr ⟨_,_,s0,none,pR.out.more (K':=λi=>i=mb+1+1) hgc (λi hi=>.inr (by rw [hi,<-ZE.out]; exact ⟨akf _,by simp⟩)),hc8,ag8.out⟩⟩)
 clear hgc hc8 pR ZE;generalize hw8:w7.alloc (.cells #[.pointer (some ⟨b,0,none⟩),.pointer (some ⟨r,0,none⟩),.pointer (some ⟨sb,0,none⟩),.pointer (some ⟨q,0,none⟩),.pointer (some ⟨mb,0,none⟩),.pointer (some ⟨mb+1,0,none⟩)] 43)=w8 at *;clear hw8;generalize mb+1+1=bb at *;go_wp2_with fail
 go_loopw [10] (λi wr=>∃ j:Nat,j<=n/\i=.int .i64 j/\Live W bb (3+j) (1025+1189 * j) wr) (λi _=>n - (Go.RowKit.intOf i).toNat)
 case atStart=>exact ⟨0,by omega,rfl,EW.out⟩
 case round =>
  clear EW;obtain ⟨j,hj,rfl,hlv⟩:=hrel;have fU:=hid hlv.1; have pU:=hid hlv.2.1
  by_cases hjn:j < n
  · have hjl:(j:Int) < (n:Int):=by omega
    rcases hlv.2.2 with ⟨cs,hcs,hc2⟩ | ⟨L,M,s,tg,Bd,hcs,Nl⟩
    · have y2:wr.cell? ⟨bb,2,none⟩=some (.pointer none):=by rw [hcs.cell]; exact hc2
      clear hlv hcs hc2;go_wp2_with fail;go_ret;exact ⟨rfl,uf fU.out (akf _) (by simp)⟩
    · have y2:wr.cell? ⟨bb,2,none⟩=some (.pointer (some ⟨L.sb,0,none⟩)):=by rw [hcs.cell]; rfl
      obtain ⟨gA,oA,x,rfl,hox,hok,x0,x1,x2,x3,x4,x5,x6⟩:=ZC.out.at_ fU.out hjn;have HDO:=hid (Yy Bd hcs Nl (by omega) (by omega) x hok);clear hlv Bd hcs Nl hox hok;go_wp2_with fail;refine HDO.out.mono ?_;rintro e w9 ⟨rfl,hlv⟩;have EW:=hid (show Live W bb (3+(j+1)) (1025+1189 * (j+1)) w9 from by
       rw [show 3+(j+1)=3+j+1 by omega,show 1025+1189 * (j+1)=1025+1189 * j+1189 by omega]; exact hlv)
      clear hlv HDO y2 x0 x1 x2 x3 x4 x5 x6;rcases EW.out.2.2 with ⟨cs,hcs,hc2⟩ | ⟨L,M,s,tg,Bd,hcs,Nl⟩
      · have y2:w9.drew.cell? ⟨bb,2,none⟩=some (.pointer none):=by rw [af.cell (af.drew hcs)]; exact hc2
        have dO:=hid (show Live W bb (3+(j+1)) (1025+1189 * (j+1)) w9.drew from ⟨EW.out.1.trans (ah w9 none),EW.out.2.1,.inl ⟨cs,af.drew hcs,hc2⟩⟩);clear hcs hc2 EW;go_wp2_with fail
        go_region
        go_wp2_with fail
        go_roundw
        case rel=>exact ⟨j+1,by omega,by first | rfl | simp,dO.out⟩
        case measure=>simp [Go.RowKit.intOf]; omega
      · have HD9:=hid (ah w9 none);have pR:=hid (Bd.quiet HD9.out);have E5:=hid (af.drew hcs);have KF:=hid Nl;clear Bd hcs Nl EW;obtain ⟨ib,hib⟩:∃ ib,tg.isSome=ib:=⟨_,rfl⟩;have av:=hid (λ(wx:World) (hg:w9.drew.grownBy wx none)=>(show wx.cell? ⟨bb,2,none⟩=some (.pointer (some ⟨L.sb,0,none⟩))/\wx.cell? ⟨bb,3,none⟩=some (.pointer (some ⟨L.q,0,none⟩))/\wx.cell? ⟨bb,4,none⟩=some (.pointer (some ⟨L.mb,0,none⟩))/\wx.cell? ⟨bb,5,none⟩=some (.pointer (some ⟨L.nb,0,none⟩))/\wx.cell? ⟨L.q,1,none⟩=some (.int .i64 (s.x.gn:Nat))/\wx.cell? ⟨L.q,2,none⟩=some (.int .i64 (s.x.ep:Nat))/\wx.cell? ⟨L.q,3,none⟩=some (.int .i64 (s.x.pg:Nat))/\wx.cell? ⟨L.q,4,none⟩=some (.int .i64 (s.x.st:Nat))/\wx.cell? ⟨L.q,5,none⟩=some (.int .i64 (s.x.ln:Nat))/\wx.cell? ⟨L.q,6,none⟩=some (.int .i64 (s.x.hd:Nat))/\wx.cell? ⟨L.q,7,none⟩=some (.int .i64 (s.x.sq:Nat))/\wx.cell? ⟨L.nb,2,none⟩=some (.bool ib) from by
         have hc:=E5.out.grown hg (by simp);have hq:=pR.out.quiet hg;obtain ⟨pv,ov,hk⟩:=hq.d.k;obtain ⟨_,y1,y2,y3,y4,y5,y6,y7,_⟩:=hk.cells;obtain ⟨st,ln,hn,_⟩:=hq.n;refine ⟨by rw [hc.cell]; rfl,by rw [hc.cell]; rfl,by rw [hc.cell]; rfl,by rw [hc.cell]; rfl,y1,y2,y3,y4,y5,y6,y7,?_⟩;rw [hn.cell];show some (Value.bool tg.isSome)=_;rw [hib]))
        have QU:=hid (BB pR.out.p);have HBU:=hid (λ(wx:World) (hg:w9.drew.grownBy wx none)=>(show Calls Tryz.prog 12 #[.pointer (some ⟨L.mb,0,none⟩)] wx (λe w'=>e=.returned (.bool ib)/\w'=wx) from by
         have:=zW (pR.out.m.quiet hg);rw [hib] at this;exact this))
        have HR9:=hid (akr w9.drew none);have hns:=λwx=>O8 wx (s.x.gn:Nat) (s.x.ep:Nat) (s.x.pg:Nat) (s.x.st:Nat) (s.x.ln:Nat) (s.x.hd:Nat) (s.x.sq:Nat)
        have hbb:(ib != ib)=false:=by simp
        clear hib;go_wp2_with fail
        go_region_held3 (λwx=>wx.cell? ⟨bb,2,none⟩=some (.pointer (some ⟨L.sb,0,none⟩))/\wx.cell? ⟨bb,3,none⟩=some (.pointer (some ⟨L.q,0,none⟩))/\wx.cell? ⟨bb,4,none⟩=some (.pointer (some ⟨L.mb,0,none⟩))/\wx.cell? ⟨bb,5,none⟩=some (.pointer (some ⟨L.nb,0,none⟩))/\wx.cell? ⟨L.q,1,none⟩=some (.int .i64 (s.x.gn:Nat))/\wx.cell? ⟨L.q,2,none⟩=some (.int .i64 (s.x.ep:Nat))/\wx.cell? ⟨L.q,3,none⟩=some (.int .i64 (s.x.pg:Nat))/\wx.cell? ⟨L.q,4,none⟩=some (.int .i64 (s.x.st:Nat))/\wx.cell? ⟨L.q,5,none⟩=some (.int .i64 (s.x.ln:Nat))/\wx.cell? ⟨L.q,6,none⟩=some (.int .i64 (s.x.hd:Nat))/\wx.cell? ⟨L.q,7,none⟩=some (.int .i64 (s.x.sq:Nat))/\wx.cell? ⟨L.nb,2,none⟩=some (.bool ib))
         (first
           | exact av.out _ HR9.out
           | exact av.out _ qO.out)
         (first
           | (go_at_call 11
              (with_reducible refine QU.out.mono ?_)
              rintro e Jm ⟨rfl,I4⟩;have qO:=hid I4;clear I4)
           | (go_at_call 12
              (with_reducible refine (HBU.out _ qO.out).mono ?_)
              rintro e PV ⟨rfl,X0⟩;replace X0:=X0.symm;subst X0))
        have dO:=hid (show Live W bb (3+(j+1)) (1025+1189 * (j+1)) Jm from ⟨pR.out.gr.trans qO.out,pU.out,.inr ⟨L,M,s,tg,pR.out.quiet qO.out,E5.out.grown qO.out (by simp),KF.out⟩⟩);go_wp2_with fail
        go_roundw
        case rel=>exact ⟨j+1,by omega,by first | rfl | simp,dO.out⟩
        case measure=>simp [Go.RowKit.intOf]; omega
  · have hjl:¬ ((j:Int) < (n:Int)):=by omega
    clear hlv;go_wp2_with fail;go_ret;exact ⟨rfl,uf fU.out (akf _) (by simp)⟩
end Go.Proofs.YtinajlbijgedbaaGreat.RelogPlaysUpto
