/- Texts of this seat's proofs: CodecPage, CodecPagePut, CodecImagePut, CodecHeadPut. -/
import Derived.Test.YtinajlbijgedbaaGreatQCodecBits
import Derived.Test.YtinajlbijgedbaaGreatQRefPage
import Derived.Test.YtinajlbijgedbaaGreatQRefNode
import Derived.Test.YtinajlbijgedbaaGreatQCodecSpec
import Derived.Deep.RegionLaw
import Derived.Deep.DeepCutAuto
set_option maxRecDepth 100000
set_option maxHeartbeats 16000000
namespace Go.Proofs.YtinajlbijgedbaaGreat.Codec
open Lib (hid)
open Go.RowKit CrcMath CodecMath Mem Crc
theorem UO {number kind:Int} {l:List Nat} {n:Nat} (hn:l.length=n) (hl:∀ x∈l,x < 256):bA number kind l=(decide (1<=kind) && decide (kind<=5) && dA number 1023 && decide (n=240)):=by
 subst hn;have:(l.all λx=>decide (x < 256))=true:=by rw [List.all_eq_true]; intro x hx; simpa using hl x hx
 rw [bA,this,Bool.and_true]
theorem lU (number kind:Int) (A:Option Addr) (n c:Nat) (l:List Nat) (w:World) (hn:l.length=n) (hl:∀ x∈l,x < 256) :
 Calls Tryz.prog 103 #[.agg #[.int .i64 number,.int .i64 kind,.slice A n c]] w λe w' =>
  e=.returned (.bool (bA number kind l))/\w'=w.alloc (.cells #[.int .i64 number,.int .i64 kind,.slice A n c] 90):=by
 have aU:=hid (UO (number:=number) (kind:=kind) hn hl);generalize bA number kind l=ok at *;clear hn hl
 by_cases h1:1<=kind
 · by_cases h2:kind<=5
   · cases hib:dA number 1023 with
     | false =>
       have HN:=hid (show ok=false by rw [aU.out,hib]; simp);have jI:=hid hib; clear hib;go_enter Tryz.func103,Tryz.ntmps103;go_wp2_with fail;refine (dG number _ _).mono ?_;rintro e w2 ⟨rfl,rfl⟩;rw [jI.out];go_wp2;go_ret;exact ⟨by rw [HN.out]; rfl,rfl⟩
     | true =>
       have HN:=hid (show ok=decide (n=240) by rw [aU.out,hib]; simp [h1,h2]);have jI:=hid hib; clear hib
       by_cases h4:n=240
       · subst h4;have HN':=hid (show ok=true by rw [HN.out]; simp);go_enter Tryz.func103,Tryz.ntmps103;go_wp2_with fail;refine (dG number _ _).mono ?_;rintro e w2 ⟨rfl,rfl⟩;rw [jI.out];go_wp2;go_ret;exact ⟨by rw [HN'.out]; rfl,rfl⟩
       · have HN':=hid (show ok=false by rw [HN.out]; simp [h4]);have hne:(((n:Nat):Int) == 240)=false:=by simp; omega
         go_enter Tryz.func103,Tryz.ntmps103;go_wp2_with fail;refine (dG number _ _).mono ?_;rintro e w2 ⟨rfl,rfl⟩;rw [jI.out];go_wp2;go_ret;exact ⟨by rw [HN'.out]; rfl,rfl⟩
   · have HN:=hid (show ok=false by rw [aU.out]; simp [h2]);have hd:decide (kind<=5)=false:=by simpa using h2
     go_enter Tryz.func103,Tryz.ntmps103;go_wp2;go_ret;exact ⟨by rw [HN.out]; rfl,rfl⟩
 · have HN:=hid (show ok=false by rw [aU.out]; simp [h1]);have hd:decide (1<=kind)=false:=by simpa using h1
   go_enter Tryz.func103,Tryz.ntmps103;go_wp2;go_ret;exact ⟨by rw [HN.out]; rfl,rfl⟩
theorem oV {w:World} {b:Nat} (h:Ready w b):oK w b none:=.inl ⟨h,rfl⟩
theorem Kr {w:World} {b p n:Nat} {A:Option Addr} {l:List Nat} (h:Bytes w b A n l) (hp:w.heap.size<=p):Bytes w p A n l:=by
 refine ⟨h.1,h.2.1,λhn=>?_⟩;obtain ⟨g,o,e,hlt,_,hc⟩:=h.2.2 hn;exact ⟨g,o,e,hlt,by omega,hc⟩
theorem KR {W:World} {h off g o c m N b:Nat} {t:TypeId} {L l:List Nat} (hb:af W h t (au L).toArray) (hl:Bytes W b (some ⟨g,o,none⟩) N l) (hfit:off+N<=L.length) (ty:TypeId) :
 (Builtin.copy_ #[65,65] ty #[.slice (some ⟨h,off,none⟩) N m,.slice (some ⟨g,o,none⟩) N c]).run Tryz.prog W=.ok (.int .i64 N) (W.setRow h (au (lay L off l)).toArray):=by
 have hlen:=hl.1;have:=run_copy_row (P:=Tryz.prog) W 65 65 ty 5 h off N m ⟨g,o,none⟩ N c (au L).toArray t (au l) Tryz.underlying65 LF hb
  (by rw [aB,hlen]; simp) (λj v hv=>by
    have hj:j < l.length:=by
     rcases Nat.lt_or_ge j l.length with h1 | h1
     · exact h1
     · rw [List.getElem?_eq_none (by rw [aB]; exact h1)] at hv; cases hv
    obtain ⟨g',o',e,_,_,hc⟩:=hl.2.2 (by omega);simp only [Option.some.injEq,Addr.mk.injEq,and_true] at e;obtain ⟨rfl,rfl⟩:=e;have e1:(⟨g,o,none⟩:Addr).add j=⟨g,o+j,none⟩:=by unfold Addr.add; split <;> simp_all
    rw [e1,hc j (by omega),<-hv,fT _ _ hj]) (by rw [aB,hlen]; simp [aB]; omega) (fO l)
 rw [this,aB,hlen,PY,splice,aB,hlen,List.append_assoc]
 rfl
theorem zb {ops:Array Oper} {o:Oper} {a:Act} {W:World} {K:Act->World->Prop} {Q:Exit->Act->World->Prop} {E:Prop} (hgd:o.guard=none) (d s:Operand)
 (ho:o.op=.call { callee:=.builtin .copy,args:=#[d,s],argTypes:=#[65,65] }) (h off g ao c m N b:Nat) (t:TypeId) (L l:List Nat)
 (hd:a.eval d=.slice (some ⟨h,off,none⟩) N m) (hs:a.eval s=.slice (some ⟨g,ao,none⟩) N c) (hb:af W h t (au L).toArray) (hl:Bytes W b (some ⟨g,ao,none⟩) N l) (hfit:off+N<=L.length)
 (hK:K (a.put o.dst (.int .i64 N)) (W.setRow h (au (lay L off l)).toArray)):if Region.wanted o (yielded ops a.tmps)=true then Oper.wp Tryz.prog o a W K Q else E:=by
 have hw:Region.wanted o (yielded ops a.tmps)=true:=by simp [Region.wanted,hgd]
 rw [if_pos hw];have hrun:=KR (c:=c) (m:=m) hb hl hfit o.type;unfold Oper.wp
 simp [execOp,ho,resolve,invoke,builtin,hd,hs,hrun,Result.andThen]
 exact hK
def oW (k m:Nat):List Nat:=[80,80,65,71] ++ be 1 k ++ be 4 m
theorem Cc (k m:Nat):(oW k m).length=9:=by simp [oW,aY]
theorem UN (k m:Nat) (l:List Nat):oW k m ++ [0,0,0] ++ l=cZ (m:Int) (k:Int) l:=by simp [oW,cZ]
theorem vF (b b2:Nat) (S:Option Nat) (number kind:Int) (A:Option Addr) (n c:Nat) (l:List Nat) (w:World) (hT:oK w b S) (hl:Bytes w b2 A n l) :
 Calls Tryz.prog 59 #[.pointer (some ⟨b,0,none⟩),.agg #[.int .i64 number,.int .i64 kind,.slice A n c]] w (WY w S b (ed number kind l)):=by
 have hlen:=hl.1;have hlt:=hl.2.1;have HT:=hid hT; have HLEN:=hid hlen; have bK:=hid hlt; have HL:=hid hl; clear hT hl hlen hlt;have hz:=yZ;have hg0:=(aj9 w (.cells #[.int .i64 number,.int .i64 kind,.slice A n c] 90) none).trans (aj9 _ (.cells #[.int .i64 number,.int .i64 kind,.slice A n c] 90) none);have hbx:=(af.new w 90 #[.int .i64 number,.int .i64 kind,.slice A n c]).alloc (.cells #[.int .i64 number,.int .i64 kind,.slice A n c] 90)
 have bz:=hid hg0; have jR:=hid hbx; clear hg0 hbx
 cases hok:bA number kind l with
 | false =>
   have bD:=hid (show ed number kind l=none by rw [ed,hok]; rfl);have aU:=hid hok; clear hok;go_enter Tryz.func59,Tryz.ntmps59;go_wp2_with fail;refine (lU number kind A n c l _ HLEN.out bK.out).mono ?_;rintro e w1 ⟨rfl,rfl⟩;rw [aU.out];go_wp2;go_ret2;exact ⟨bW bz.out S,.inr ⟨bD.out,rfl,bz.out⟩⟩
 | true =>
   have ui:=hid (show ed number kind l=some (frame (cZ number kind l)) by rw [ed,hok]; rfl);obtain ⟨⟨hk0,hk1⟩,⟨hm0,hm1⟩,wD,_⟩:=dQ hok;have aU:=hid hok; clear hok;obtain rfl:n=240:=by rw [<-HLEN.out,wD]
   obtain ⟨k,rfl⟩:=Int.eq_ofNat_of_zero_le (show 0<=kind by omega);obtain ⟨m,rfl⟩:=Int.eq_ofNat_of_zero_le hm0;clear wD;have OI:=hid (ym 256);generalize hzz:Array.replicate 256 (Value.int .u8 0)=zs at *;clear hzz;have hst:=xY bz.out 140 256 zs OI.out;simp only [World.size_alloc] at hst;obtain ⟨hg1,hc1,hb1⟩:=hst;have az:=hid hg1; have l9:=hid hc1; have HB1:=hid hb1; have yH:=hid ((jR.out.alloc (.cells zs 140)).alloc (.cells #[.slice (some ⟨w.heap.size+1+1,0,none⟩) 256 256] 153))
   clear hg1 hc1 hb1;go_enter Tryz.func59,Tryz.ntmps59;go_wp2_with fail;refine (lU m k A 240 c l _ HLEN.out bK.out).mono ?_;rintro e w1 ⟨rfl,rfl⟩;rw [aU.out];go_wp2_with fail;refine (Fv _ _ 0 256 _ _ _ [80,80,65,71] _ l9.out HB1.out (by decide) rfl rfl (by omega) (by rw [aT _ _ (by simp)]; omega) (by rw [aT _ _ (by simp)]; omega)).mono ?_;rintro e w2 ⟨rfl,hlf,hc2,hb2⟩;rw [show lay (fill [] 256) 0 [80,80,65,71]=fill [80,80,65,71] 256 from gz [] [80,80,65,71] 256] at hb2
   have Ym:=hlf.blk yH.out (by omega) (by omega);have HG2:=hid (hlf.new az.out (by omega) (by omega)); have mo:=hid hc2; have HB2:=hid hb2; have xH:=hid Ym;have x1:=Ym.cell 1;simp only [akb,aka,akc] at x1;clear hlf hc2 hb2 Ym az l9 HB1 yH;go_wp2_with fail;refine (iV _ _ 4 252 1 k _ _ _ mo.out HB2.out (by decide) (by omega) (by rw [aT _ _ (by simp)]; omega) (by rw [aT _ _ (by simp)]; omega) (by omega)).mono ?_
   rintro e w3 ⟨rfl,hlf,hc3,hb3⟩;rw [show lay (fill [80,80,65,71] 256) 4 (be 1 k)=fill ([80,80,65,71] ++ be 1 k) 256 from gz [80,80,65,71] (be 1 k) 256] at hb3;have Yl:=hlf.blk xH.out (by omega) (by omega);have aZ:=hid (hlf.new HG2.out (by omega) (by omega)); have pQ:=hid hc3; have HB3:=hid hb3; have mZ:=hid Yl;have x0:=Yl.cell 0;simp only [akb,aka] at x0;clear hlf hc3 hb3 Yl x1
   go_wp2_with fail;refine (iV _ _ 5 251 4 m _ _ _ pQ.out HB3.out (by decide) (by omega) (by rw [aT _ _ (by simp [aY])]; omega) (by rw [aT _ _ (by simp [aY])]; omega) (by omega)).mono ?_;rintro e w4 ⟨rfl,hlf,hc4,hb4⟩;rw [show lay (fill ([80,80,65,71] ++ be 1 k) 256) 5 (be 4 m)=fill (oW k m) 256 from gz ([80,80,65,71] ++ be 1 k) (be 4 m) 256] at hb4;have acj:=hlf.blk mZ.out (by omega) (by omega);have cB:=hid (hlf.new aZ.out (by omega) (by omega)); have yG:=hid hc4; have jJ:=hid hb4; have mh:=hid acj
   clear hlf hc4 hb4 acj x0;go_wp2_with fail;refine (mq _ _ 9 247 3 _ yG.out (by omega) (by omega)).mono ?_;rintro e w5 ⟨⟨k5,rfl,_⟩,Ze,Ct⟩;have hb5:=jJ.out.grown Ze (by simp);rw [show fill (oW k m) 256=fill (oW k m ++ [0,0,0]) 256 from (VS (oW k m) 3 256 (by rw [Cc]; omega)).symm] at hb5;have hx5:=mh.out.grown Ze (by simp; omega);have fP:=hid (aI cB.out Ze (λj hj=>by cases hj; omega)); have xP:=hid Ct; have gF:=hid hb5; have mg:=hid hx5
   have x2:=hx5.cell 2;simp only [akb,aka,akc] at x2;have Ia:=hid (show lay (fill (oW k m ++ [0,0,0]) 256) 12 l=fill (cZ m k l) 256 by
    rw [<-UN];have h:=gz (oW k m ++ [0,0,0]) l 256;have h12:(oW k m ++ [0,0,0]).length=12:=by rw [akl,Cc]; rfl
    rwa [h12] at h)
   have hl5:=bP (Kr (p:=w.heap.size+1+1+1) HL.out (by omega)) fP.out;obtain ⟨ga,oa,rfl,_,_,_⟩:=hl5.2.2 (by omega);have Ic:=hid hl5;have ku:=hid (aT (oW k m ++ [0,0,0]) 256 (by rw [akl,Cc]; simp));clear Ze Ct hb5 hx5 hl5;go_upto_region 9 with fail;have hn1:some w.heap.size≠some (w.heap.size+1+1+1):=by simp; omega
   have hn2:some (w.heap.size+1+1)≠some (w.heap.size+1+1+1):=by simp
   have zx:∀ j,some (w.heap.size+1+1+1)=some j->w.heap.size<=j:=λj hj=>by cases hj; omega
   have Vt:0 < 240:=by omega
   have nM:=hid hn1; have EU:=hid hn2; have CY:=hid zx; clear hn1 hn2 zx
   go_region_law (first
    | (go_simp
       go_at_call 106
       refine (mq (w.heap.size+1+1+1) (w.heap.size+1+1) 12 244 240 _ ?_ ?_ ?_).mono ?_;exact xP.out;omega;omega;rintro e w6 ⟨⟨k6,rfl,kQ⟩,Ck,hc6⟩;obtain rfl:=kQ Vt;have hx6:=mg.out.drew.grown Ck nM.out;have iF:=hid (aI (fP.out.trans (ah _ none)) Ck CY.out);have kY:=hid (gF.out.drew.grown Ck EU.out);have HL6:=hid ((wH Ic.out).keep Ck);have x26:=hx6.cell 2;simp only [akb,aka,akc] at x26
       clear Ck hc6 hx6)
    | (refine zb rfl (.tmp 25) (.tmp 28) rfl (w.heap.size+1+1) 12 ga oa c 240 240 (w.heap.size+1+1+1) 140 (fill (oW k m ++ [0,0,0]) 256) l ?_ ?_ ?_ ?_ ?_ ?_
       rfl
       rfl
       exact kY.out;exact HL6.out
       (rw [ku.out]; omega)))
   all_goals
    rw [Ia.out];have sD:=mO kY.out (au (fill (cZ m k l) 256)).toArray;have fZ:=oF iF.out (show w.heap.size<=w.heap.size+1+1 by omega) (au (fill (cZ m k l) 256)).toArray;generalize w6.setRow (w.heap.size+1+1) (au (fill (cZ m k l) 256)).toArray=w7 at *;obtain ⟨sb,hasks,hleft⟩:=HT.out.asks fZ (w.heap.size+1+1);have hblt:=HT.out.lt;have HAS:=hid hasks; have sM:=hid hleft; have vC:=hid sD;clear hasks hleft sD fZ
    go_wp2_with fail;refine (zT b (w.heap.size+1+1) sb (cZ m k l) _ HAS.out vC.out (by rw [uM _ _ _ HLEN.out]; omega) (wY _ _ _ bK.out) (by omega)).mono ?_;rintro e w8 ⟨rfl,hlf,hr8,Kb⟩;have j4:=hid (sM.out _ hlf (by omega)); have xR:=hid Kb; have HR8:=hid hr8;clear hlf Kb hr8;go_wp2;go_ret2;refine ⟨j4.out,.inl ⟨_,w.heap.size+1+1,ui.out,?_,by omega,xR.out,jY _ (wY _ _ _ bK.out),HR8.out⟩⟩;rw [cz _ (by rw [uM _ _ _ HLEN.out]; omega)]
    rfl
def qf (k m e s:Nat):List Nat:=be 1 k ++ be 2 m ++ be 4 e ++ be 5 s
theorem GG (k m e s:Nat):(qf k m e s).length=12:=by simp [qf,aY]
theorem Sc (k m e s:Nat) (l:List Nat):qf k m e s ++ l=fE (e:Int) (s:Int) (m:Int) (k:Int) l:=by simp [qf,fE]
theorem yn (b b2:Nat) (ak seq number kind:Int) (A:Option Addr) (n c:Nat) (l:List Nat) (w:World) (hR:Ready w b) (hl:Bytes w b2 A n l) :
 Calls Tryz.prog 164 #[.pointer (some ⟨b,0,none⟩),.int .i64 ak,.int .i64 seq,.agg #[.int .i64 number,.int .i64 kind,.slice A n c]] w (TG w 140 (dW ak seq number kind l)):=by
 have hlen:=hl.1;have hlt:=hl.2.1;have HR:=hid hR; have HLEN:=hid hlen; have bK:=hid hlt; have HL:=hid hl; clear hR hl hlen hlt;have hz:=yZ;have hg0:=(aj9 w (.cells #[.int .i64 number,.int .i64 kind,.slice A n c] 90) none).trans (aj9 _ (.cells #[.int .i64 number,.int .i64 kind,.slice A n c] 90) none);have hbx:=(af.new w 90 #[.int .i64 number,.int .i64 kind,.slice A n c]).alloc (.cells #[.int .i64 number,.int .i64 kind,.slice A n c] 90)
 have bz:=hid hg0; have jR:=hid hbx; clear hg0 hbx
 cases hok:bA number kind l with
 | false =>
   have bD:=hid (show dW ak seq number kind l=none by rw [dW,lV,hok]; rfl);have aU:=hid hok; clear hok;go_enter Tryz.func164,Tryz.ntmps164;go_wp2_with fail;refine (lU number kind A n c l _ HLEN.out bK.out).mono ?_;rintro e w1 ⟨rfl,rfl⟩;rw [aU.out];go_wp2;go_ret2;exact ⟨bz.out,.inr ⟨bD.out,rfl⟩⟩
 | true =>
   cases hie:dA ak 4294967295 with
   | false =>
     have bD:=hid (show dW ak seq number kind l=none by rw [dW,lV,hie]; simp);have aU:=hid hok; have xM:=hid hie; clear hok hie;go_enter Tryz.func164,Tryz.ntmps164;go_wp2_with fail;refine (lU number kind A n c l _ HLEN.out bK.out).mono ?_;rintro e w1 ⟨rfl,rfl⟩;rw [aU.out];go_wp2_with fail;refine (dG ak _ _).mono ?_;rintro e w2 ⟨rfl,rfl⟩;rw [xM.out];go_wp2;go_ret2;exact ⟨bz.out,.inr ⟨bD.out,rfl⟩⟩
   | true =>
     cases his:dA seq 1099511627775 with
     | false =>
       have bD:=hid (show dW ak seq number kind l=none by rw [dW,lV,his]; simp);have aU:=hid hok; have xM:=hid hie; have HIS:=hid his; clear hok hie his;go_enter Tryz.func164,Tryz.ntmps164;go_wp2_with fail;refine (lU number kind A n c l _ HLEN.out bK.out).mono ?_;rintro e w1 ⟨rfl,rfl⟩;rw [aU.out];go_wp2_with fail;refine (dG ak _ _).mono ?_;rintro e w2 ⟨rfl,rfl⟩;rw [xM.out];go_wp2_with fail;refine (dG seq _ _).mono ?_
       rintro e w2 ⟨rfl,rfl⟩;rw [HIS.out];go_wp2;go_ret2;exact ⟨bz.out,.inr ⟨bD.out,rfl⟩⟩
     | true =>
       have ui:=hid (show dW ak seq number kind l=some (frame (fE ak seq number kind l)) by rw [dW,lV,hok,hie,his]; rfl);obtain ⟨⟨hk0,hk1⟩,⟨hm0,hm1⟩,wD,_⟩:=dQ hok;obtain ⟨he0,he1⟩:=gH hie;obtain ⟨hs0,hs1⟩:=gH his;have aU:=hid hok; have xM:=hid hie; have HIS:=hid his; clear hok hie his;obtain rfl:n=240:=by rw [<-HLEN.out,wD]
       obtain ⟨k,rfl⟩:=Int.eq_ofNat_of_zero_le (show 0<=kind by omega);obtain ⟨m,rfl⟩:=Int.eq_ofNat_of_zero_le hm0;obtain ⟨ep,rfl⟩:=Int.eq_ofNat_of_zero_le he0;obtain ⟨sq,rfl⟩:=Int.eq_ofNat_of_zero_le hs0;clear wD;have OI:=hid (ym 256);generalize hzz:Array.replicate 256 (Value.int .u8 0)=zs at *;clear hzz;have hst:=xY bz.out 140 256 zs OI.out;simp only [World.size_alloc] at hst;obtain ⟨hg1,hc1,hb1⟩:=hst
       have az:=hid hg1; have l9:=hid hc1; have HB1:=hid hb1; have yH:=hid ((jR.out.alloc (.cells zs 140)).alloc (.cells #[.slice (some ⟨w.heap.size+1+1,0,none⟩) 256 256] 153));clear hg1 hc1 hb1;go_enter Tryz.func164,Tryz.ntmps164;go_wp2_with fail;refine (lU m k A 240 c l _ HLEN.out bK.out).mono ?_;rintro e w1 ⟨rfl,rfl⟩;rw [aU.out];go_wp2_with fail;refine (dG (ep:Int) _ _).mono ?_;rintro e w2 ⟨rfl,rfl⟩
       rw [xM.out];go_wp2_with fail;refine (dG (sq:Int) _ _).mono ?_;rintro e w2 ⟨rfl,rfl⟩;rw [HIS.out];have hb1':=yH.out;have x1:=hb1'.cell 1;simp only [akb,aka,akc] at x1;clear hb1';go_wp2_with fail;clear x1;refine (iV _ _ 0 256 1 k _ _ _ l9.out HB1.out (by decide) (by omega) (by rw [aT _ _ (by simp)]; omega) (by rw [aT _ _ (by simp)]; omega) (by omega)).mono ?_
       rintro e w2 ⟨rfl,hlf,hc,hb⟩;rw [show lay (fill ([]) 256) 0 (be 1 k)=fill ([] ++ be 1 k) 256 from gz ([]) (be 1 k) 256] at hb;have hbx:=hlf.blk yH.out (by omega) (by omega);have HG2:=hid (hlf.new az.out (by omega) (by omega)); have mo:=hid hc; have HB2:=hid hb; have xH:=hid hbx;have x0:=hbx.cell 0;simp only [akb,aka] at x0;clear hlf hc hb hbx;go_wp2_with fail
       clear x0;refine (iV _ _ 1 255 2 m _ _ _ mo.out HB2.out (by decide) (by omega) (by rw [aT _ _ (by simp [aY])]; omega) (by rw [aT _ _ (by simp [aY])]; omega) (by omega)).mono ?_;rintro e w3 ⟨rfl,hlf,hc,hb⟩;rw [show lay (fill ([] ++ be 1 k) 256) 1 (be 2 m)=fill ([] ++ be 1 k ++ be 2 m) 256 from gz ([] ++ be 1 k) (be 2 m) 256] at hb;have hbx:=hlf.blk xH.out (by omega) (by omega);have aZ:=hid (hlf.new HG2.out (by omega) (by omega)); have pQ:=hid hc; have HB3:=hid hb; have mZ:=hid hbx
       clear hlf hc hb hbx;go_wp2_with fail;refine (iV _ _ 3 253 4 ep _ _ _ pQ.out HB3.out (by decide) (by omega) (by rw [aT _ _ (by simp [aY])]; omega) (by rw [aT _ _ (by simp [aY])]; omega) (by omega)).mono ?_;rintro e w4 ⟨rfl,hlf,hc,hb⟩;rw [show lay (fill ([] ++ be 1 k ++ be 2 m) 256) 3 (be 4 ep)=fill ([] ++ be 1 k ++ be 2 m ++ be 4 ep) 256 from gz ([] ++ be 1 k ++ be 2 m) (be 4 ep) 256] at hb;have hbx:=hlf.blk mZ.out (by omega) (by omega)
       have cB:=hid (hlf.new aZ.out (by omega) (by omega)); have yG:=hid hc; have jJ:=hid hb; have mh:=hid hbx;clear hlf hc hb hbx;go_wp2_with fail;refine (iV _ _ 7 249 5 sq _ _ _ yG.out jJ.out (by decide) (by omega) (by rw [aT _ _ (by simp [aY])]; omega) (by rw [aT _ _ (by simp [aY])]; omega) (by omega)).mono ?_;rintro e w5 ⟨rfl,hlf,hc,hb⟩;rw [show lay (fill ([] ++ be 1 k ++ be 2 m ++ be 4 ep) 256) 7 (be 5 sq)=fill (qf k m ep sq) 256 from gz ([] ++ be 1 k ++ be 2 m ++ be 4 ep) (be 5 sq) 256] at hb
       have hbx:=hlf.blk mh.out (by omega) (by omega);have fP:=hid (hlf.new cB.out (by omega) (by omega)); have xP:=hid hc; have gF:=hid hb; have mg:=hid hbx;have x2:=hbx.cell 2;simp only [akb,aka,akc] at x2;have Ia:=hid (show lay (fill (qf k m ep sq) 256) 12 l=fill (fE ep sq m k l) 256 by
        rw [<-Sc];have h:=gz (qf k m ep sq) l 256;have h12:(qf k m ep sq).length=12:=GG k m ep sq
        rwa [h12] at h)
       have hl5:=bP (Kr (p:=w.heap.size+1+1+1) HL.out (by omega)) fP.out;obtain ⟨ga,oa,rfl,_,_,_⟩:=hl5.2.2 (by omega);have Ic:=hid hl5;have ku:=hid (aT (qf k m ep sq) 256 (by rw [GG]; omega));clear hlf hc hb hbx hl5;go_upto_region 9 with fail;have hn1:some w.heap.size≠some (w.heap.size+1+1+1):=by simp; omega
       have hn2:some (w.heap.size+1+1)≠some (w.heap.size+1+1+1):=by simp
       have zx:∀ j,some (w.heap.size+1+1+1)=some j->w.heap.size<=j:=λj hj=>by cases hj; omega
       have Vt:0 < 240:=by omega
       have nM:=hid hn1; have EU:=hid hn2; have CY:=hid zx; clear hn1 hn2 zx
       go_region_law (first
        | (go_simp
           go_at_call 106
           refine (mq (w.heap.size+1+1+1) (w.heap.size+1+1) 12 244 240 _ ?_ ?_ ?_).mono ?_;exact xP.out;omega;omega;rintro e w6 ⟨⟨k6,rfl,kQ⟩,Ck,hc6⟩;obtain rfl:=kQ Vt;have hx6:=mg.out.drew.grown Ck nM.out;have iF:=hid (aI (fP.out.trans (ah _ none)) Ck CY.out);have kY:=hid (gF.out.drew.grown Ck EU.out);have HL6:=hid ((wH Ic.out).keep Ck);have x26:=hx6.cell 2;simp only [akb,aka,akc] at x26
           clear Ck hc6 hx6)
        | (refine zb rfl (.tmp 41) (.tmp 44) rfl (w.heap.size+1+1) 12 ga oa c 240 240 (w.heap.size+1+1+1) 140 (fill (qf k m ep sq) 256) l ?_ ?_ ?_ ?_ ?_ ?_
           rfl
           rfl
           exact kY.out;exact HL6.out
           (rw [ku.out]; omega)))
       all_goals
        rw [Ia.out];have sD:=mO kY.out (au (fill (fE ep sq m k l) 256)).toArray;have fZ:=oF iF.out (show w.heap.size<=w.heap.size+1+1 by omega) (au (fill (fE ep sq m k l) 256)).toArray;generalize w6.setRow (w.heap.size+1+1) (au (fill (fE ep sq m k l) 256)).toArray=w7 at *;obtain ⟨sb,hasks,hleft⟩:=(oV HR.out).asks fZ (w.heap.size+1+1);have hblt:=(oV HR.out).lt;have HAS:=hid hasks; have sM:=hid hleft; have vC:=hid sD
        clear hasks hleft sD fZ;go_wp2_with fail;refine (zT b (w.heap.size+1+1) sb (fE ep sq m k l) _ HAS.out vC.out (by rw [r9 _ _ _ _ _ HLEN.out]; omega) (uQ _ _ _ _ _ bK.out) (by omega)).mono ?_;rintro e w8 ⟨rfl,hlf,_,Kb⟩;have j4:=hid (sM.out _ hlf (by omega)); have xR:=hid Kb;clear hlf Kb;go_wp2;go_ret2;refine ⟨j4.out,.inl ⟨_,w.heap.size+1+1,ui.out,?_,by omega,xR.out,jY _ (uQ _ _ _ _ _ bK.out)⟩⟩
        rw [cz _ (by rw [r9 _ _ _ _ _ HLEN.out]; omega)]
        rfl
theorem VK {ak seq:Int} {pages:List Int} {n:Nat} (hn:pages.length=n):mV ak seq pages=(dA ak 1099511627776 && dA seq 1099511627776 && (decide (1<=n) && decide (n<=40)) && qL pages 1023):=by subst hn; rfl
theorem Et (b:Nat) (ak seq:Int) (A:Option Addr) (n c:Nat) (pages:List Int) (sum:Nat) (w:World) (hp:Ints w b A n pages) (hn:n<=9223372036854775807) :
 Calls Tryz.prog 174 #[.agg #[.int .i64 ak,.int .i64 seq,.slice A n c,.int .u32 (sum:Nat)]] w λe w'=>e=.returned (.bool (mV ak seq pages))/\w'=w.alloc (.cells #[.int .i64 ak,.int .i64 seq,.slice A n c,.int .u32 (sum:Nat)] 130):=by
 have aU:=hid (VK (ak:=ak) (seq:=seq) hp.1);have HP:=hid (kN hp (aj9 w (.cells #[.int .i64 ak,.int .i64 seq,.slice A n c,.int .u32 (sum:Nat)] 130) none) (.inl rfl));clear hp;generalize mV ak seq pages=ok at *
 cases hie:dA ak 1099511627776 with
 | false =>
   have HN:=hid (show ok=false by rw [aU.out,hie]; simp);have xM:=hid hie; clear hie;go_enter Tryz.func174,Tryz.ntmps174;go_wp2_with fail;refine (dG ak _ _).mono ?_;rintro e w2 ⟨rfl,rfl⟩;rw [xM.out];go_wp2;go_ret;exact ⟨by rw [HN.out]; rfl,rfl⟩
 | true =>
   cases his:dA seq 1099511627776 with
   | false =>
     have HN:=hid (show ok=false by rw [aU.out,hie,his]; simp);have xM:=hid hie; have HIS:=hid his; clear hie his;go_enter Tryz.func174,Tryz.ntmps174;go_wp2_with fail;refine (dG ak _ _).mono ?_;rintro e w2 ⟨rfl,rfl⟩;rw [xM.out];go_wp2_with fail;refine (dG seq _ _).mono ?_;rintro e w2 ⟨rfl,rfl⟩;rw [HIS.out];go_wp2;go_ret;exact ⟨by rw [HN.out]; rfl,rfl⟩
   | true =>
     by_cases h1:1<=n
     · by_cases h2:n<=40
       · have HN:=hid (show ok=qL pages 1023 by rw [aU.out,hie,his]; simp [h1,h2]);have xM:=hid hie; have HIS:=hid his; clear hie his;have h1':(1:Int)<=n:=by omega
         have h2':(n:Int)<=40:=by omega
         go_enter Tryz.func174,Tryz.ntmps174;go_wp2_with fail;refine (dG ak _ _).mono ?_;rintro e w2 ⟨rfl,rfl⟩;rw [xM.out];go_wp2_with fail;refine (dG seq _ _).mono ?_;rintro e w2 ⟨rfl,rfl⟩;rw [HIS.out];go_wp2_with fail;refine (Lf b A n c pages 1023 _ HP.out hn).mono ?_;rintro e w2 ⟨rfl,rfl⟩;go_wp2;go_ret;exact ⟨by rw [HN.out]; rfl,rfl⟩
       · have HN:=hid (show ok=false by rw [aU.out,hie,his]; simp [h2]);have xM:=hid hie; have HIS:=hid his; clear hie his;have hd:decide ((n:Int)<=40)=false:=by simp; omega
         have h1':(1:Int)<=n:=by omega
         go_enter Tryz.func174,Tryz.ntmps174;go_wp2_with fail;refine (dG ak _ _).mono ?_;rintro e w2 ⟨rfl,rfl⟩;rw [xM.out];go_wp2_with fail;refine (dG seq _ _).mono ?_;rintro e w2 ⟨rfl,rfl⟩;rw [HIS.out];go_wp2;go_ret;exact ⟨by rw [HN.out]; rfl,rfl⟩
     · have HN:=hid (show ok=false by rw [aU.out,hie,his]; simp [h1]);have xM:=hid hie; have HIS:=hid his; clear hie his;obtain rfl:n=0:=by omega
       go_enter Tryz.func174,Tryz.ntmps174;go_wp2_with fail;refine (dG ak _ _).mono ?_;rintro e w2 ⟨rfl,rfl⟩;rw [xM.out];go_wp2_with fail;refine (dG seq _ _).mono ?_;rintro e w2 ⟨rfl,rfl⟩;rw [HIS.out];go_wp2;go_ret;exact ⟨by rw [HN.out]; rfl,rfl⟩
def o6 (ak seq:Int) (pages:List Int) (sum j:Nat):List Nat:=mJ ak seq pages sum ++ ((pages.take j).flatMap λn=>be 4 n.toNat)
theorem VI (ak seq:Int) (pages:List Int) (sum j:Nat) (h:j<=pages.length):(o6 ak seq pages sum j).length=26+4 * j:=by
 rw [o6,akl,Cs,AA,aku,Nat.min_eq_left h]
theorem Su (ak seq:Int) (pages:List Int) (sum j:Nat) (h:j < pages.length):o6 ak seq pages sum (j+1)=o6 ak seq pages sum j ++ be 4 (pages.getD j 0).toNat:=by
 rw [o6,xV pages 4 j h,<-List.append_assoc]; rfl
theorem VJ (ak seq:Int) (pages:List Int) (sum:Nat):o6 ak seq pages sum pages.length=jh ak seq pages sum:=by rw [o6,List.take_length]; rfl
theorem zB (b b2:Nat) (ak seq:Int) (A:Option Addr) (n c:Nat) (pages:List Int) (sum:Nat) (w:World) (hR:Ready w b) (hp:Ints w b2 A n pages) (hn:n<=9223372036854775807) (hsum:sum < 4294967296) :
 Calls Tryz.prog 165 #[.pointer (some ⟨b,0,none⟩),.agg #[.int .i64 ak,.int .i64 seq,.slice A n c,.int .u32 (sum:Nat)]] w (TG w 140 (headW ak seq pages sum)):=by
 have HLEN:=hid hp.1;have Ye:=aj9 w (.cells #[.int .i64 ak,.int .i64 seq,.slice A n c,.int .u32 (sum:Nat)] 130) none;have HR:=hid hR; have HP:=hid hp; have Hy:=hid (kN hp Ye (.inl rfl));have bz:=hid (Ye.trans (aj9 _ (.cells #[.int .i64 ak,.int .i64 seq,.slice A n c,.int .u32 (sum:Nat)] 130) none));have jR:=hid ((af.new w 130 #[.int .i64 ak,.int .i64 seq,.slice A n c,.int .u32 (sum:Nat)]).alloc (.cells #[.int .i64 ak,.int .i64 seq,.slice A n c,.int .u32 (sum:Nat)] 130))
 have hz:=yZ;clear hR hp Ye
 cases hok:mV ak seq pages with
 | false =>
   have bD:=hid (show headW ak seq pages sum=none by rw [headW,hok]; rfl);have aU:=hid hok; clear hok;go_enter Tryz.func165,Tryz.ntmps165;go_wp2_with fail;refine (Et b2 ak seq A n c pages sum _ Hy.out hn).mono ?_;rintro e w1 ⟨rfl,rfl⟩;rw [aU.out];go_wp2;go_ret2;exact ⟨bz.out,.inr ⟨bD.out,rfl⟩⟩
 | true =>
   have ui:=hid (show headW ak seq pages sum=some (frame (jh ak seq pages sum)) by rw [headW,hok]; rfl);obtain ⟨⟨he0,he1⟩,⟨hs0,hs1⟩,hn1,Yb,hpa⟩:=iM hok;rw [HLEN.out] at hn1 Yb;have CW:=hid (λj hj=>FL hpa j hj:∀ j,j < pages.length->0<=pages.getD j 0/\pages.getD j 0<=1023);have aU:=hid hok; clear hok hpa;obtain ⟨ep,rfl⟩:=Int.eq_ofNat_of_zero_le he0;obtain ⟨sq,rfl⟩:=Int.eq_ofNat_of_zero_le hs0;have OI:=hid (ym 256)
   generalize hzz:Array.replicate 256 (Value.int .u8 0)=zs at *;clear hzz;have hst:=xY bz.out 140 256 zs OI.out;simp only [World.size_alloc] at hst;obtain ⟨hg1,hc1,hb1⟩:=hst;have az:=hid hg1; have l9:=hid hc1; have HB1:=hid hb1; have yH:=hid ((jR.out.alloc (.cells zs 140)).alloc (.cells #[.slice (some ⟨w.heap.size+1+1,0,none⟩) 256 256] 153));clear hg1 hc1 hb1;go_enter Tryz.func165,Tryz.ntmps165;go_wp2_with fail
   refine (Et b2 (ep:Int) (sq:Int) A n c pages sum _ Hy.out hn).mono ?_;rintro e w1 ⟨rfl,rfl⟩;rw [aU.out];go_wp2_with fail;refine (Fv _ _ 0 256 _ _ _ [80,76,79,71] _ l9.out HB1.out (by decide) rfl rfl (by omega) (by rw [aT _ _ (by simp)]; omega) (by rw [aT _ _ (by simp)]; omega)).mono ?_;rintro e w2 ⟨rfl,hlf,hc2,hb2⟩;rw [show lay (fill [] 256) 0 [80,76,79,71]=fill [80,76,79,71] 256 from gz [] [80,76,79,71] 256] at hb2
   have hbx:=hlf.blk yH.out (by omega) (by omega);have HG2:=hid (hlf.new az.out (by omega) (by omega)); have mo:=hid hc2; have HB2:=hid hb2; have xH:=hid hbx;have x0:=hbx.cell 0;simp only [akb,aka] at x0;clear hlf hc2 hb2 hbx az l9 HB1 yH;go_wp2_with fail;clear x0;refine (iV _ _ 4 252 8 ep _ _ _ mo.out HB2.out (by decide) (by omega) (by rw [aT _ _ (by simp)]; omega) (by rw [aT _ _ (by simp)]; omega) (by omega)).mono ?_
   rintro e w3 ⟨rfl,hlf,hc,hb⟩;rw [show lay (fill ([80,76,79,71]) 256) 4 (be 8 ep)=fill ([80,76,79,71] ++ be 8 ep) 256 from gz ([80,76,79,71]) (be 8 ep) 256] at hb;have hbx:=hlf.blk xH.out (by omega) (by omega);have aZ:=hid (hlf.new HG2.out (by omega) (by omega)); have pQ:=hid hc; have HB3:=hid hb; have mZ:=hid hbx;have x1:=hbx.cell 1;simp only [akb,aka,akc] at x1
   clear hlf hc hb hbx;go_wp2_with fail;clear x1;refine (iV _ _ 12 244 8 sq _ _ _ pQ.out HB3.out (by decide) (by omega) (by rw [aT _ _ (by simp [aY])]; omega) (by rw [aT _ _ (by simp [aY])]; omega) (by omega)).mono ?_;rintro e w4 ⟨rfl,hlf,hc,hb⟩;rw [show lay (fill ([80,76,79,71] ++ be 8 ep) 256) 12 (be 8 sq)=fill ([80,76,79,71] ++ be 8 ep ++ be 8 sq) 256 from gz ([80,76,79,71] ++ be 8 ep) (be 8 sq) 256] at hb
   have hbx:=hlf.blk mZ.out (by omega) (by omega);have cB:=hid (hlf.new aZ.out (by omega) (by omega)); have yG:=hid hc; have jJ:=hid hb; have mh:=hid hbx;have x3:=hbx.cell 3;simp only [akb,aka,akc] at x3;clear hlf hc hb hbx;go_wp2_with fail;clear x3;refine (iV _ _ 20 236 4 sum _ _ _ yG.out jJ.out (by decide) (by omega) (by rw [aT _ _ (by simp [aY])]; omega) (by rw [aT _ _ (by simp [aY])]; omega) (by omega)).mono ?_
   rintro e w5 ⟨rfl,hlf,hc,hb⟩;rw [show lay (fill ([80,76,79,71] ++ be 8 ep ++ be 8 sq) 256) 20 (be 4 sum)=fill ([80,76,79,71] ++ be 8 ep ++ be 8 sq ++ be 4 sum) 256 from gz ([80,76,79,71] ++ be 8 ep ++ be 8 sq) (be 4 sum) 256] at hb;have hbx:=hlf.blk mh.out (by omega) (by omega);have fP:=hid (hlf.new cB.out (by omega) (by omega)); have xP:=hid hc; have gF:=hid hb; have mg:=hid hbx;have x2:=hbx.cell 2
   simp only [akb,aka,akc] at x2;clear hlf hc hb hbx;go_wp2_with fail;clear x2;refine (iV _ _ 24 232 2 n _ _ _ xP.out gF.out (by decide) (by omega) (by rw [aT _ _ (by simp [aY])]; omega) (by rw [aT _ _ (by simp [aY])]; omega) (by omega)).mono ?_;rintro e w6 ⟨rfl,hlf,hc,hb⟩;rw [show lay (fill ([80,76,79,71] ++ be 8 ep ++ be 8 sq ++ be 4 sum) 256) 24 (be 2 n)=fill ([80,76,79,71] ++ be 8 ep ++ be 8 sq ++ be 4 sum ++ be 2 n) 256 from gz ([80,76,79,71] ++ be 8 ep ++ be 8 sq ++ be 4 sum) (be 2 n) 256] at hb
   have hbx:=hlf.blk mg.out (by omega) (by omega);have iF:=hid (hlf.new fP.out (by omega) (by omega)); have Br:=hid hc; have kY:=hid hb; have kW:=hid hbx;have x2:=hbx.cell 2;simp only [akb,aka,akc] at x2;clear hlf hc hb hbx;go_wp2_with fail;clear x2;have ahh:=hid (show af w6 _ _ (au (fill (o6 (ep:Int) (sq:Int) pages sum 0) 256)).toArray by
    have h:=kY.out
    rwa [show [80,76,79,71] ++ be 8 ep ++ be 8 sq ++ be 4 sum ++ be 2 n=o6 (ep:Int) (sq:Int) pages sum 0 by rw [<-HLEN.out]; simp [o6,mJ]] at h)
   clear kY
   go_loopw [9,36] (λ_ i wr=>∃ j:Nat,j<=n/\i=.int .i64 j/\w.grownBy wr none/\ny wr (w.heap.size+1+1+1) (w.heap.size+1+1) (26+4 * j) (230 - 4 * j) /\
    af wr (w.heap.size+1+1) 140 (au (fill (o6 (ep:Int) (sq:Int) pages sum j) 256)).toArray) (λ_ i _=>n - (intOf i).toNat)
   case atStart=>exact ⟨0,by omega,rfl,iF.out,Br.out,ahh.out⟩
   case round =>
    obtain ⟨j,hj,rfl,hg,hc,hb⟩:=hrel;have HG:=hid hg; have HC:=hid hc; have fD:=hid hb;clear hg hc hb;have hpl:=VI (ep:Int) (sq:Int) pages sum j (by rw [HLEN.out]; exact hj)
    by_cases hlt:j < n
    · obtain ⟨g,o,rfl,_,_,hcl⟩:=(kN HP.out HG.out (.inl rfl)).2.2 (by omega);have hcj:=hcl j hlt;clear hcl;obtain ⟨hx0,hx1⟩:=CW.out j (by rw [HLEN.out]; exact hlt);have Nk:=gz (o6 (ep:Int) (sq:Int) pages sum j) (be 4 (pages.getD j 0).toNat) 256;rw [hpl,<-Su _ _ _ _ _ (by rw [HLEN.out]; exact hlt)] at Nk;have hfl:=aT (o6 (ep:Int) (sq:Int) pages sum j) 256 (by omega);have Ia:=hid Nk; have ku:=hid hfl; clear Nk hpl hfl
      generalize pages.getD j 0=x at *;obtain ⟨m,rfl⟩:=Int.eq_ofNat_of_zero_le hx0;rw [Int.toNat_natCast] at Ia;go_wp2_with fail;refine (iV _ _ (26+4 * j) (230 - 4 * j) 4 m _ _ _ HC.out fD.out (by decide) (by omega) (by rw [ku.out]; omega) (by rw [ku.out]; omega) (by omega)).mono ?_;rintro e w7 ⟨rfl,hlf,hc7,sD⟩;rw [Ia.out] at sD;have KG:=hid (hlf.new HG.out (by omega) (by omega)); have vB:=hid hc7; have nu:=hid sD
      clear hlf hc7 sD hcj;go_wp2_with fail
      go_roundw
      case rel =>
       refine ⟨j+1,by omega,by go_num,KG.out,?_,nu.out⟩;have h:=vB.out
       rwa [show 26+4 * j+4=26+4 * (j+1) from by omega,show 230 - 4 * j - 4=230 - 4 * (j+1) from by omega] at h
      case measure=>simp [intOf]; omega
    · obtain rfl:j=n:=by omega
      have hbk:=fD.out;rw [<-HLEN.out,VJ] at hbk;have vC:=hid hbk;obtain ⟨sb,hasks,hleft⟩:=(oV HR.out).asks HG.out (w.heap.size+1+1);have HAS:=hid hasks; have sM:=hid hleft;have hblt:=(oV HR.out).lt;clear hbk hasks hleft hpl;go_wp2_with fail;refine (zT b (w.heap.size+1+1) sb (jh (ep:Int) (sq:Int) pages sum) _ HAS.out vC.out (by rw [uT,HLEN.out]; omega) (xz _ _ _ _) (by omega)).mono ?_;rintro e w8 ⟨rfl,hlf,_,Kb⟩
      have j4:=hid (sM.out _ hlf (by omega)); have xR:=hid Kb;clear hlf Kb;go_wp2;go_ret2;refine ⟨j4.out,.inl ⟨_,w.heap.size+1+1,ui.out,?_,by omega,xR.out,jY _ (xz _ _ _ _)⟩⟩;rw [cz _ (by rw [uT,HLEN.out]; omega)]
      rfl
end Go.Proofs.YtinajlbijgedbaaGreat.Codec
