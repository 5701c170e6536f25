/- Texts of this seat's proofs: RefStoIdle, RefStoBegin, RefStoCommit, RefStoWrite, RefStoFormat. -/
import Derived.Test.YtinajlbijgedbaaGreatQRefStoSettle
import Derived.Test.YtinajlbijgedbaaGreatQFrameSum
import Derived.Test.YtinajlbijgedbaaGreatQRefStoMem
import Derived.Test.YtinajlbijgedbaaGreatQStoSmall
import Derived.Test.YtinajlbijgedbaaGreatQStoLatest
import Derived.Test.YtinajlbijgedbaaGreatQRefLogNew
import Derived.Deep.DeepCutAuto
namespace Go.Proofs.YtinajlbijgedbaaGreat.RSto
open Go.RowKit CrcMath CodecMath Mem Crc Codec DiskSpec Dsk Sup Log RLog Sto
def qA (a:Int × Sto):Int × Sto:=(a.1,a.2.idle)
theorem YG (s:Sto) (a:Int × St × Sb × aK):Bf s.idle a=qA (Bf s a):=by
 obtain ⟨e,T,x,D⟩:=a
 by_cases h:e=0
 · subst h;rw [AO,AO]
   rfl
 · rw [CE (a:=(e,T,x,D)) h,CE (a:=(e,T,x,D)) h]
   rfl
theorem Hd (s:Sto):bG s=if keys s.D=[]/\0 < s.L.room then (0,s) else if s.x.gn=1099511627776 then (15,s) else if (aR s.S).1=0 then Bf s (jc (aR s.S).2 s.D s.x s.past) else ((aR s.S).1,s.disk (aR s.S).2):=by
 unfold bG;simp only [zC]
theorem SY (s:Sto):bG s.idle=qA (bG s):=by
 rw [Hd s,Hd s.idle];have h1:s.idle.D=s.D:=rfl;have h2:s.idle.L=s.L:=rfl;have h3:s.idle.x=s.x:=rfl;have h4:s.idle.S=s.S:=rfl;have h5:s.idle.past=s.past:=rfl;rw [h1,h2,h3,h4,h5,YG];generalize Bf s (jc (aR s.S).2 s.D s.x s.past)=G
 by_cases hq:keys s.D=[]/\0 < s.L.room
 · rw [if_pos hq,if_pos hq]; rfl
 · rw [if_neg hq,if_neg hq]
   by_cases hg:s.x.gn=1099511627776
   · rw [if_pos hg,if_pos hg]; rfl
   · rw [if_neg hg,if_neg hg]
     by_cases hf:(aR s.S).1=0
     · rw [if_pos hf,if_pos hf]
     · rw [if_neg hf,if_neg hf]; rfl
theorem JZ (s:Sto) (l:List ax):fB s.idle l=qA (fB s l):=rfl
theorem Pd (l:List ax) (r:Int × Sto):iI l (qA r)=qA (iI l r):=by
 obtain ⟨e,s⟩:=r;unfold iI;show (if e=12 then (11,s.idle) else if e=0 then fB s.idle l else qA (e,s))=_
 by_cases h:e=12
 · rw [if_pos h,if_pos h]; rfl
 · rw [if_neg h,if_neg h]
   by_cases h0:e=0
   · rw [if_pos h0,if_pos h0,JZ]
   · rw [if_neg h0,if_neg h0]
theorem Le (s:Sto) (l:List ax):bN s.idle l=qA (bN s l):=by
 have key:∀ r:Int × Sto,(if (qA r).1=15 then iI l (bG (qA r).2) else qA r)=qA (if r.1=15 then iI l (bG r.2) else r):=by
  rintro ⟨e,t⟩;show (if e=15 then iI l (bG t.idle) else qA (e,t))=_
  by_cases h:e=15
  · rw [if_pos h,if_pos h,SY,Pd]
  · rw [if_neg h,if_neg h]
 unfold bN;rw [JZ];exact key _
theorem NS {s:Sto} {U:aK} (hW:s.W=some U) (hk:keys U≠[]) :
 dh s=if (bN s.idle (rising U)).1=0 then (0,{ (bN s.idle (rising U)).2 with D:=over (bN s.idle (rising U)).2.D U }) else bN s.idle (rising U):=by
 have h1:dh s=uD U (bN s (rising U)):=by
  unfold dh;rw [hW];simp only;rw [if_neg hk]
 rw [h1,Le];generalize bN s (rising U)=r;obtain ⟨e,t⟩:=r;unfold uD;show (if e=0 then _ else _)=if e=0 then _ else _
 by_cases h:e=0
 · rw [if_pos h,if_pos h]; rfl
 · rw [if_neg h,if_neg h]; rfl
end Go.Proofs.YtinajlbijgedbaaGreat.RSto
set_option maxRecDepth 100000
set_option maxHeartbeats 16000000
namespace Go.Proofs.YtinajlbijgedbaaGreat.RSto
open Lib (hid)
open Go.RowKit CrcMath CodecMath Mem Crc Codec DiskSpec Dsk Sup Log RLog Sto
set_option linter.unusedVariables false
set_option linter.unusedSimpArgs false
section
variable {Z:Nat->Prop} {w w':World} {B r g q:Nat} {own own':Nat->Prop} {s:Sto}
theorem Xq (h:aQ Z w B r g q own s):Calls Tryz.prog 35 #[.pointer (some ⟨q,0,none⟩)] w (eD Z w B r g q own (fH s)):=by
 obtain ⟨pv,ov,hk⟩:=h.k;obtain ⟨_,_,_,_,_,_,_,_,_,_,c10,c11⟩:=hk.cells;have f10:=hk.fz 10; have f11:=hk.fz 11;have H:=hid h; have HK:=hid hk
 cases hW:s.W with
 | some U =>
   have HE:=hid (show fH s=(17,s) from by unfold fH; rw [hW]; rfl);rw [hW] at c10;simp only [Option.isSome_some] at c10;clear h hk hW;go_enter Tryz.func35,Tryz.ntmps35;go_wp2_with fail;go_ret;unfold eD;rw [HE.out];exact ⟨rfl,own,H.out,aa.none_ (akr _ _)⟩
 | none =>
   have HE:=hid (show fH s=(0,{ s with W:=some aM }) from by unfold fH; rw [hW]; rfl);rw [hW] at c10;simp only [Option.isSome_none] at c10;clear h hk hW;go_enter Tryz.func35,Tryz.ntmps35;go_wp2_with fail;go_ret;unfold eD;rw [HE.out];have hg:=bI (bI (akr w (some q)) 10 (.bool true)) 11 (.slice none 0 0);have h9:=H.out.row (W':=some aM) HK.out hg (af.aC (af.aC HK.out.c 10 _) 11 _) HK.out.p (uO _ _) HK.out.okD bg.none_ H.out.may
   exact ⟨rfl,own,h9.1,h9.2⟩
theorem Xr (h:aQ Z w B r g q own s):Calls Tryz.prog 84 #[.pointer (some ⟨q,0,none⟩)] w λe w'=>e=.returned (.tuple #[])/\aQ Z w' B r g q own s.idle/\aa w w' (bT own g q) (bT own g q)/\w.grownBy w' (some q):=by
 obtain ⟨pv,ov,hk⟩:=h.k;obtain ⟨_,_,_,_,_,_,_,_,_,_,c10,c11⟩:=hk.cells;have f10:=hk.fz 10; have f11:=hk.fz 11;have H:=hid h; have HK:=hid hk;clear h hk;go_enter Tryz.func84,Tryz.ntmps84;go_wp2_with fail
 go_end0
 have hg:=bI (bI (akr w (some q)) 10 (.bool false)) 11 (.slice none 0 0);have h9:=H.out.row (W':=none) HK.out hg (af.aC (af.aC HK.out.c 10 _) 11 _) HK.out.p (uO _ _) HK.out.okD bg.none_ H.out.may;exact ⟨rfl,h9.1,h9.2,hg⟩
theorem aad (h:aQ Z w B r g q own s):Calls Tryz.prog 39 #[.pointer (some ⟨q,0,none⟩)] w (eD Z w B r g q own (kH s)):=by
 obtain ⟨pv,ov,hk⟩:=h.k;obtain ⟨c0,_,_,_,_,_,_,_,_,_,c10,_⟩:=hk.cells;have HF:=hid (qy hk.d);have H:=hid h
 cases hW:s.W with
 | some U =>
   have HE:=hid (show kH s=(17,s) from by unfold kH; rw [hW]; rfl);rw [hW] at c10;simp only [Option.isSome_some] at c10;clear h hk hW;go_enter Tryz.func39,Tryz.ntmps39;go_wp2_with fail;go_ret;unfold eD;rw [HE.out];exact ⟨rfl,own,H.out,aa.none_ (akr _ _)⟩
 | none =>
   have HE:=hid (show kH s=((aR s.S).1,s.disk (aR s.S).2) from by unfold kH; rw [hW]; rfl);rw [hW] at c10;simp only [Option.isSome_none] at c10;have HN:=hid (oH s.S);clear h hk hW;go_enter Tryz.func39,Tryz.ntmps39;go_wp2_with fail;refine HF.out.mono ?_;rintro e w1 ⟨rfl,hd,ht⟩;have HD:=hid hd; have HT:=hid ht;clear hd ht HF;go_wp2_with fail;go_ret;unfold eD;rw [HE.out];exact ⟨rfl,own,H.out.disk HD.out HT.out HN.out,wM (GQ g q) HT.out⟩
end
section
variable {Z:Nat->Prop} {w w' wr:World} {B r g q:Nat} {own own' bV:Nat->Prop} {s t:Sto} {l:List ax}
structure sV (Z:Nat->Prop) (w wr:World) (B r g q:Nat) (own own':Nat->Prop) (A:Option Addr) (n:Nat) (l:List ax) (t:Sto):Prop where
 st:aQ Z wr B r g q own' t
 im:eG wr (FX (XZ Z g q) own') A n l
 tu:aa w wr (bT own g q) (bT own' g q)
theorem sV.quiet {A:Option Addr} {n:Nat} (h:sV Z w wr B r g q own own' A n l t) (hg:wr.grownBy w' none):sV Z w w' B r g q own own' A n l t :=
 ⟨h.st.quiet hg,h.im.turn (aa.none_ hg),h.tu.trans (aa.none_ hg)⟩
theorem sV.turn {A:Option Addr} {n:Nat} {t2:Sto} (h:sV Z w wr B r g q own own' A n l t) (hs:aQ Z w' B r g q bV t2) (ht:aa wr w' (bT own' g q) (bT bV g q)):sV Z w w' B r g q own bV A n l t2 :=
 ⟨hs,h.im.turn (Dp Z ht),h.tu.trans ht⟩
theorem Kn {A:Option Addr} {n:Nat} (c:Nat) (h:sV Z w wr B r g q own own' A n l t) (hn:n<=1099511627776) (hroom:∀ i,(t.S.ae i).length < 549755813000) :
 Calls Tryz.prog 85 #[.pointer (some ⟨g,0,none⟩),.slice A n c] wr λe w'=>e=.returned (.int .i64 (fB t l).1)/\∃ bV,sV Z w w' B r g q own bV A n l (fB t l).2:=by
 refine (Us h.st.la A n c l h.im hn hroom).mono ?_;rintro e w1 ⟨rfl,bV,h1,h2⟩;have h3:=h.st.logs h1 h2 (Hl _ _ _);exact ⟨rfl,bV,h.turn h3.1 h3.2⟩
theorem Un (h:aQ Z w B r g q own s) (hroom:∀ i,(s.S.ae i).length < 549755600000) :
 Calls Tryz.prog 37 #[.pointer (some ⟨q,0,none⟩)] w (eD Z w B r g q own (dh s)):=by
 obtain ⟨pv,ov,hk⟩:=h.k;obtain ⟨_,_,_,_,_,_,_,_,_,_,c10,c11⟩:=hk.cells;have H:=hid h
 cases hW:s.W with
 | none =>
   have HE:=hid (show dh s=(18,s) from by unfold dh; rw [hW]);rw [hW] at c10;simp only [Option.isSome_none] at c10;obtain ⟨R0,hR0⟩:∃ r,dh s=r:=⟨_,rfl⟩;rw [hR0] at HE ⊢;clear h hk hW hroom hR0 c11;go_enter Tryz.func37,Tryz.ntmps37;go_wp2_with fail;go_ret;rw [HE.out];exact ⟨rfl,own,H.out,aa.none_ (akr _ _)⟩
 | some U =>
   rw [hW] at c10;simp only [Option.isSome_some] at c10;have Zl:bg U:=by have:=hk.xg; rw [hW] at this; exact this
   obtain ⟨A,n,c,hov,hnc,hcm,hA,him⟩:=hk.u;subst hov;rw [hW] at him;simp only [Option.getD_some] at him;have hnl:=him.len;have hN:(rising U).length<=1024:=by rw [dP]; have:=List.length_filter_le (λk=>(U k).isSome) (List.range 1024); rw [List.length_range] at this; exact this
   have hn:n<=1024:=by omega
   have HNK:=hid (show n=0↔keys U=[] from by rw [<-hnl,dP]; exact List.length_eq_zero_iff);have HAB:=hid (Xr h);have ahc:=hid c11;have jC:=hid him;have Tw:=hid (show n=0->dh s=(0,s.idle) from λh0=>by unfold dh; rw [hW]; simp only; rw [if_pos (HNK.out.1 h0)]);have YS:=hid (show n≠0->dh s=if (bN s.idle (rising U)).1=0 then (0,{ (bN s.idle (rising U)).2 with D:=over (bN s.idle (rising U)).2.D U }) else bN s.idle (rising U) from λh0=>NS hW (λe=>h0 (HNK.out.2 e)))
   have aU:=hid (kJ Zl);have QY:=hid (λ(D:aK)=>zl (D:=D) Zl);have bB:=hid hroom;have ZA:=hid (λ(t:Sto) i=>xE (S:=t.S) (L:=t.L) (kJ Zl) i);have rE:=hid (show bN s.idle (rising U)=if (fB s.idle (rising U)).1=15 then iI (rising U) (bG (fB s.idle (rising U)).2) else fB s.idle (rising U) from rfl);generalize dh s=R0 at *;generalize rising U=l at *;clear h hk hW hroom him hN HNK Zl
   by_cases h0:n=0
   · have HE:=hid (Tw.out h0);subst h0;clear Tw YS rE QY ZA;go_enter Tryz.func37,Tryz.ntmps37
     go_wp2_with (go_at_call 84
                  (with_reducible refine HAB.out.mono ?_)
                  rintro e w1 ⟨rfl,h1,ht1,hg1⟩;have HF:=hid (show eD Z w B r g q own R0 (.returned (.int .i64 0)) w1 from by
                   unfold eD;rw [HE.out];exact ⟨rfl,own,h1,ht1⟩)
                  clear h1 ht1 hg1)
     go_ret;exact HF.out
   · have HE:=hid (YS.out h0);have hnI:((n:Int) == 0)=false:=by simp; omega
     have hnJ:¬ ((n:Int)=0):=by omega
     have HW1:=hid (show (fB s.idle l).2.W=none from rfl);have rC:=hid (show ∀ i,((fB s.idle l).2.S.ae i).length<=(s.S.ae i).length+82 from λi=>ZA.out s.idle i);clear Tw YS h0;go_enter Tryz.func37,Tryz.ntmps37;go_upto_if 27 with (first
      | (go_at_call 84
         (with_reducible refine HAB.out.mono ?_)
         rintro e w1 ⟨rfl,h1,ht1,hg1⟩;have H1:=hid (show sV Z w w1 B r g q own own A n l s.idle from ⟨h1,jC.out.turn (Dp Z ht1),ht1⟩);obtain ⟨_,_,hk1⟩:=h1.k;have z8:=hk1.cells.2.2.2.2.2.2.2.2.1;have sS:=hid (Kn c H1.out (by omega) (λi=>by have:=bB.out i; show (s.S.ae i).length < _; omega));clear h1 ht1 hg1 hk1)
      | (go_at_call 85
         (with_reducible refine sS.out.mono ?_)
         rintro e w2 ⟨rfl,bV,h2⟩;have H2:=hid h2;clear h2))
     clear sS HAB jC ahc z8;generalize bN s.idle l=RA at *;generalize fB s.idle l=r1 at *;obtain ⟨e1,t1⟩:=r1
     go_cut [4] (λs4 wx=>s4=.int .i64 RA.1/\∃ fQ,sV Z w wx B r g q own fQ A n l RA.2)
     case first =>
      by_cases VM:e1=15
      · subst VM;have HR2:=hid (show RA=iI l (bG t1) from rE.out.trans (if_pos rfl));have fM:=hid (show Calls Tryz.prog 81 #[.pointer (some ⟨q,0,none⟩)] w2 (eD Z w2 B r g q bV (bG t1)) from by
         have h9:=Qb H2.out.st (λi=>by have h1:=rC.out i; have h2:=bB.out i; (try dsimp only at h1); show (t1.S.ae i).length < _; omega);have h8:bZ t1=bG t1:=by
          unfold bZ;rw [show t1.W=none from HW1.out]; rfl
         rw [h8] at h9;exact h9)
        have CO:=hid (show ∀ i,((bG t1).2.S.ae i).length<=(t1.S.ae i).length+1025 from λi=>by
         obtain ⟨_,_,hk2⟩:=H2.out.st.k;exact AL hk2.okD i)
        clear rE;generalize bG t1=r2 at *;obtain ⟨e2,t2⟩:=r2;go_wp2_with fail;refine fM.out.mono ?_;rintro e w3 ⟨rfl,fQ,h3,ht3⟩;have H3:=hid (show sV Z w w3 B r g q own fQ A n l t2 from H2.out.turn h3 ht3);obtain ⟨_,_,hk3⟩:=h3.k;have z8:=hk3.cells.2.2.2.2.2.2.2.2.1;clear h3 ht3 fM hk3
        by_cases h0:e2=0
        · subst h0;have sS:=hid (Kn c H3.out (by omega) (λi=>by have h1:=rC.out i; have h2:=bB.out i; have h3:=CO.out i; (try dsimp only at h1 h3); omega));have HR3:=hid (show RA=fB t2 l from HR2.out.trans (by unfold iI; rw [if_neg (by simp),if_pos rfl]));go_wp2_with fail;refine sS.out.mono ?_;rintro e w4 ⟨rfl,iE,h4⟩;have H4:=hid h4;rw [<-HR3.out] at H4 ⊢;clear h4 sS z8;go_wp2_with fail;go_meet;exact ⟨rfl,iE,H4.out⟩
        · have Ke:(e2 == 0)=false:=by simpa using h0
          by_cases h12:e2=12
          · subst h12;have HR3:=hid (show RA=(11,t2) from HR2.out.trans (by unfold iI; rw [if_pos rfl]));clear h0;go_wp2_with fail;go_meet;rw [HR3.out];exact ⟨rfl,fQ,H3.out⟩
          · have agF:(e2 == 12)=false:=by simpa using h12
            have HR3:=hid (show RA=(e2,t2) from HR2.out.trans (by unfold iI; rw [if_neg h12,if_neg h0]));clear h0 h12;go_wp2_with fail;go_meet;rw [HR3.out];exact ⟨rfl,fQ,H3.out⟩
      · have ajg:(e1 == 15)=false:=by simpa using VM
        have HR2:=hid (show RA=(e1,t1) from rE.out.trans (if_neg VM));clear rE VM;go_wp2_with fail;go_meet;rw [HR2.out];exact ⟨rfl,bV,H2.out⟩
     case rest =>
      obtain ⟨rfl,fQ,h3⟩:=hcut;have H3:=hid h3;clear h3 rE H2 H1 rC HW1;obtain ⟨ea,ta⟩:=RA
      by_cases h0:ea=0
      · subst h0;have HE2:=hid (show R0=(0,{ ta with D:=over ta.D U }) from HE.out.trans (if_pos rfl));clear HE ZA;have hok:=aU.out;have HD0:=hid (show bg ta.D from by obtain ⟨_,_,hk⟩:=H3.out.st.k; exact hk.okD);have zJ:=hid hnl;have H0:=hid (show sV Z w wc B r g q own fQ A n l { ta with D:=bE ta.D (l.take 0) } from H3.out);clear hok H3;go_wp2_with fail
        go_loopw [5] (λi wr=>∃ j:Nat,j<=n/\i=.int .i64 j/\∃ iE,sV Z w wr B r g q own iE A n l { ta with D:=bE ta.D (l.take j) }) (λi _=>n - (Go.RowKit.intOf i).toNat)
        case atStart=>exact ⟨0,aks _,rfl,fQ,H0.out⟩
        case round =>
         clear H0;obtain ⟨j,hj,rfl,iE,hr⟩:=hrel;have HR:=hid hr;clear hr
         by_cases hlt:j < n
         · have hjn:(j:Int) < (n:Int):=by omega
           obtain ⟨gi,o,⟨x1,x2,x3⟩,Bx,mx,cx,rfl,hgi,hno,hx,e0,e1,e2,hmc,kT⟩:=HR.out.im.at_ hlt
           dsimp only at e0 e1 e2 kT
           have hxo:=aU.out _ (akx hx);have Vm:=(eO hxo).2.1
           dsimp only at Vm
           have HX:=hid hx; have yx:=hid hxo;obtain ⟨pv3,ov3,hk3⟩:=HR.out.st.k;obtain ⟨A3,n3,c3,X6,Ya,Yg,hA3,Zm⟩:=hk3.p;have FB:eG wr (FX (XZ Z g q) iE) A3 n3 (rising (bE ta.D (l.take j))):=Zm;clear Zm;subst X6;have zx:n3<=1024:=by
            have h1:=FB.len;have h2:(rising (bE ta.D (l.take j))).length<=1024:=by rw [dP]; have:=List.length_filter_le (λk=>((bE ta.D (l.take j)) k).isSome) (List.range 1024); rw [List.length_range] at this; exact this
            omega
           have HD5:=hid (ah wr none);have ni:=hid (hk3.quiet HD5.out);have q9:=hk3.cells.2.2.2.2.2.2.2.2.2.1;have q9':=ni.out.cells.2.2.2.2.2.2.2.2.2.1;have e0':wr.drew.cell? ⟨gi,o+j * 3,none⟩=some (.int .i64 x1):=e0;have e1':wr.drew.cell? ⟨gi,o+j * 3+1,none⟩=some (.int .i64 x2):=e1;have e2':wr.drew.cell? ⟨gi,o+j * 3+2,none⟩=some (.slice Bx mx cx):=e2;have fK:=hid (Dt (FB.turn (aa.none_ HD5.out)) (λi hi=>ake (hk3.bO hi) HD5.out.size) Ya Yg hA3 zx x1 x2 (show cO wr.drew (FX (XZ Z g q) iE) (.slice Bx mx cx) x3 from ⟨_,_,_,rfl,hmc,Dsk.Data.turn kT (aa.none_ HD5.out)⟩))
           have CV:=hid (show True->jo (rising (bE ta.D (l.take j))) (x1,x2,x3)=rising (bE ta.D (l.take (j+1))) from λ_=>by
            have h1:=yP (D:=bE ta.D (l.take j)) (k:=x1.toNat) (by omega) (x2,x3);unfold iY at h1;rw [show ((x1.toNat:Nat):Int)=x1 by omega] at h1;rw [h1,rW HX.out])
           have HDK:=hid (show bg (bE ta.D (l.take (j+1))) from Gn HD0.out (λy hy=>aU.out y (akq hy)));have HPO:=hid (show bg ((show Sto from { ta with D:=bE ta.D (l.take j) }).W.getD aM) from hk3.xg);have Bb:=ni.out;clear hno hx hmc kT hxo hk3 FB hgi;generalize rising (bE ta.D (l.take j))=lj at *;go_wp2_with fail
           go_region_with (go_at_call 29
                           (with_reducible refine fK.out.mono ?_)
                           rintro e w5 ⟨hg5,v5,rfl,hv5⟩;have afY:=(ni.out.quiet hg5).cells.2.2.2.2.2.2.2.2.2.1;have f9:=(ni.out.quiet hg5).fz 9;have iF:=hid (HD5.out.trans hg5);have HV5:=hid hv5;obtain ⟨A5,n5,c5,rfl,_⟩:=hv5;clear hg5)
           all_goals
            have ET:=hid (show sV Z w (w5.setCell ⟨q,9,none⟩ (.slice A5 n5 c5)) B r g q own iE (some ⟨gi,o,none⟩) n l { ta with D:=bE ta.D (l.take (j+1)) } from by
             have kQ:=ni.out.quiet (show wr.drew.grownBy w5 none from ⟨iF.out.os,iF.out.tape,iF.out.output,iF.out.size,iF.out.block⟩);have hs:=bI (akr w5 (some q)) 9 (.slice A5 n5 c5);have h9:=(HR.out.st.quiet iF.out).row (D':=bE ta.D (l.take (j+1))) (W':=ta.W) kQ hs (af.aC kQ.c 9 (.slice A5 n5 c5)) (by rw [<-CV.out trivial]; exact HV5.out) kQ.u HDK.out HPO.out HR.out.st.may;exact (HR.out.quiet iF.out).turn h9.1 h9.2)
            go_wp2_with fail
            first
             | exact ⟨⟨j+1,by omega,by first | rfl | go_num,iE,ET.out⟩,by simp [Go.RowKit.intOf]; omega⟩
             | (go_roundw
                case rel=>exact ⟨j+1,by omega,by first | rfl | go_num,iE,ET.out⟩
                case measure=>simp [Go.RowKit.intOf]; omega)
         · obtain rfl:j=n:=by omega
           have hnb:¬ ((j:Int) < (j:Int)):=by omega
           have HF:=hid (show eD Z w B r g q own R0 (.returned (.int .i64 0)) wr from by
            unfold eD;rw [HE2.out];have h1:=HR.out.st;rw [akk (by have:=zJ.out; omega),QY.out] at h1;exact ⟨rfl,iE,h1,HR.out.tu⟩)
           clear HE2 QY HR;go_wp2_with fail;go_ret;exact HF.out
      · have Ke:(ea == 0)=false:=by simpa using h0
        have HE2:=hid (show R0=(ea,ta) from HE.out.trans (if_neg h0));have HF:=hid (show eD Z w B r g q own R0 (.returned (.int .i64 ea)) wc from by
         unfold eD;rw [HE2.out];exact ⟨rfl,fQ,H3.out.st,H3.out.tu⟩)
        clear HE ZA h0 HE2 QY;go_wp2_with fail;go_ret;exact HF.out
end
theorem RG {s:Sto} {p:Int} {q:Pg} {n:Nat} (hm:aL s.x.l (n:Int)=true) (hp:s.has p=true) (hb:∀ x∈q.2,x < 256):bA p q.1 q.2=true↔((1<=q.1/\q.1<=5)/\q.2.length=240):=by
 have h1:0<=p/\p < (s.x.pg:Int):=by simpa [Sto.has] using hp
 have h2:(s.x.pg:Int)<=1024:=by
  have:=hm;unfold aL jg at this
  simp [Sb.l] at this
  omega
 constructor
 · intro h;have:=dQ h;exact ⟨this.1,this.2.2.1⟩
 · rintro ⟨h3,h4⟩;exact JN ⟨h3,⟨by omega,by omega⟩,h4,hb⟩
section
variable {Z:Nat->Prop} {w w':World} {B r g q:Nat} {own own':Nat->Prop} {s:Sto}
theorem lg (h:aQ Z w B r g q own s) (hg:w.grownBy w' none) {z:Int}:eD Z w B r g q own (z,s) (.returned (.int .i64 z)) w':=⟨rfl,own,h.quiet hg,aa.none_ hg⟩
theorem yN (h:aQ Z w B r g q own s) (p:Int) {k:Int} {Ab:Option Addr} {nb cb:Nat} {body:List Nat} {P:Nat->Prop} (hv:cO w P (.slice Ab nb cb) body) (hs:s.W=none\/s.has p=false\/bA p k body=false) :
 Calls Tryz.prog 36 #[.pointer (some ⟨q,0,none⟩),.int .i64 p,.agg #[.int .i64 k,.slice Ab nb cb]] w (eD Z w B r g q own (bQ s p (k,body))):=by
 obtain ⟨pv,ov,hk⟩:=h.k;have hga:=aj9 w (.cells #[.int .i64 k,.slice Ab nb cb] 72) none;obtain ⟨_,_,_,c3,_,_,_,_,_,_,c10,_⟩:=(hk.quiet hga).cells;have hb:=af.new w 72 #[.int .i64 k,.slice Ab nb cb];have x0:=hb.cell 0; have x1:=hb.cell 1;simp only [akb,aka,akc] at x0 x1;have HG:=hid hga; have H:=hid h;obtain ⟨A2,n2,c2,e,hnc,hd⟩:=hv
 injection e with e1 e2 e3
 subst e1 e2 e3;have hlen:=hd.1;have ve:=hid (λ(hp:s.has p=true)=>RG (q:=(k,body)) H.out.may hp hd.2.1)
 cases hW:s.W with
 | none =>
   have HE:=hid (show bQ s p (k,body)=(18,s) from by unfold bQ; rw [hW]);rw [hW] at c10;simp only [Option.isSome_none] at c10;obtain ⟨R0,hR0⟩:∃ r,bQ s p (k,body)=r:=⟨_,rfl⟩;rw [hR0];rw [hR0] at HE;clear h hk hW hs hR0 hd hb hga hlen ve;go_enter Tryz.func36,Tryz.ntmps36;go_wp2_with fail;go_ret;rw [HE.out];exact lg H.out HG.out
 | some U =>
   rw [hW] at c10;simp only [Option.isSome_some] at c10;obtain ⟨R0,hR0⟩:∃ r,bQ s p (k,body)=r:=⟨_,rfl⟩;rw [hR0];have fA:=hid hR0.symm
   cases hp:s.has p with
   | false =>
     have HE:=hid (show R0=(2,s) from by rw [fA.out]; unfold bQ; rw [hW]; simp only [hp,if_true]);clear fA hR0
     by_cases hlt:p < 0
     · clear h hk hW hs hd hb hga hlen ve hp;go_enter Tryz.func36,Tryz.ntmps36;go_wp2_with fail;go_ret;rw [HE.out];exact lg H.out HG.out
     · have hge:(s.x.pg:Int)<=p:=by
        rcases Decidable.em ((s.x.pg:Int)<=p) with h1 | h1
        · exact h1
        · have:s.has p=true:=by simp [Sto.has]; omega
          rw [hp] at this; cases this
       clear h hk hW hs hd hb hga hlen ve hp;go_enter Tryz.func36,Tryz.ntmps36;go_wp2_with fail;go_ret;rw [HE.out];exact lg H.out HG.out
   | true =>
     have hno:bA p k body=false:=by
      rcases hs with h1 | h1 | h1
      · rw [hW] at h1; cases h1
      · rw [hp] at h1; cases h1
      · exact h1
     have hpr:0<=p/\p < (s.x.pg:Int):=by simpa [Sto.has] using hp
     have HE:=hid (show R0=(1,s) from by rw [fA.out]; unfold bQ; rw [hW]; simp only [hp,hno]; simp);have hnn:¬ ((1<=k/\k<=5)/\body.length=240):=λhh=>by
      have:=(ve.out hp).2 hh;have h2:bA p k body=true:=this;rw [hno] at h2; cases h2
     have hp0:¬ p < 0:=by omega
     have hp1:¬ ((s.x.pg:Int)<=p):=by omega
     clear fA hR0 h hk hW hs hd hb hga ve hp hno hpr
     by_cases h1:k < 1
     · clear hnn hlen;go_enter Tryz.func36,Tryz.ntmps36;go_wp2_with fail;go_ret;rw [HE.out];exact lg H.out HG.out
     · by_cases h5:5 < k
       · clear hnn hlen;go_enter Tryz.func36,Tryz.ntmps36;go_wp2_with fail;go_ret;rw [HE.out];exact lg H.out HG.out
       · have hnb:¬ nb=240:=by omega
         have hnI:((nb:Int) == 240)=false:=by simp; omega
         have hnJ:¬ ((nb:Int)=240):=by omega
         clear hnn hlen;go_enter Tryz.func36,Tryz.ntmps36;go_wp2_with fail;go_ret;rw [HE.out];exact lg H.out HG.out
theorem Ma {U:aK} (h:aQ Z w B r g q own s) (p:Int) {k:Int} {Ab:Option Addr} {nb cb:Nat} {body:List Nat} {P:Nat->Prop} (hv:cO w P (.slice Ab nb cb) body) (hW:s.W=some U) (hp:s.has p=true) (hok:bA p k body=true) :
 Calls Tryz.prog 36 #[.pointer (some ⟨q,0,none⟩),.int .i64 p,.agg #[.int .i64 k,.slice Ab nb cb]] w (eD Z w B r g q own (bQ s p (k,body))):=by
 obtain ⟨j0,hj0,hw0,hw1,hw2⟩:=info_parts gD;have Cq:=hid hj0; have y0:=hid hw0; have y1:=hid hw1; have y2:=hid hw2; clear hj0 hw0 hw1 hw2;obtain ⟨pv,ov,hk⟩:=h.k;obtain ⟨A,n,c,hov,hnc,hcm,hA,him⟩:=hk.u;subst hov;rw [hW] at him;simp only [Option.getD_some] at him;have hnl:=him.len;have hN:(rising U).length<=1024:=by rw [dP]; have:=List.length_filter_le (λk=>(U k).isSome) (List.range 1024); rw [List.length_range] at this; exact this
 have hn:n<=1024:=by omega
 have hks:(keys U).length=n:=by rw [<-hnl,dP]
 have hga:=aj9 w (.cells #[.int .i64 k,.slice Ab nb cb] 72) none;obtain ⟨_,_,_,c3,_,_,_,_,_,_,c10,c11⟩:=(hk.quiet hga).cells;rw [hW] at c10;simp only [Option.isSome_some] at c10;have hb:=af.new w 72 #[.int .i64 k,.slice Ab nb cb];have x0:=hb.cell 0; have x1:=hb.cell 1;simp only [akb,aka,akc] at x0 x1;obtain ⟨A2,n2,c2,e,hnb,hd⟩:=hv
 injection e with e1 e2 e3
 subst e1 e2 e3;obtain ⟨⟨hk1,hk5⟩,⟨hp0,hp9⟩,aeh,hlt⟩:=dQ hok;have hpr:0<=p/\p < (s.x.pg:Int):=by simpa [Sto.has] using hp
 have hlb:body.length=nb:=hd.1;obtain rfl:nb=240:=by omega
 have hP1:¬ p < 0:=by omega
 have hP2:¬ ((s.x.pg:Int)<=p):=by omega
 have hK1:¬ k < 1:=by omega
 have hK5:¬ 5 < k:=by omega
 have hpn:((p.toNat:Nat):Int)=p:=by omega
 have hfi:nK (rising U) p=(U p.toNat).map (iY p.toNat):=by rw [<-hpn]; exact ND (by omega)
 have Hu:=hid (show jo (rising U) (p,k,body)=rising (upd U p.toNat (some (k,body))) from by
  have:=yP (D:=U) (k:=p.toNat) (by omega) (k,body);unfold iY at this;rw [hpn] at this;exact this)
 have HUK:=hid (show bg (upd U p.toNat (some (k,body))) from (show bg U from by have:=hk.xg; rw [hW] at this; exact this).upd (by rw [hpn]; exact hok));have bK:=hid hlt; have OC:=hid hlb;have vR:=hid (show ∀ i,FX (XZ Z g q) own i->i < w.heap.size from λi hi=>hk.bO hi);have CW:=hid (show ∀ i,w.heap.size<=i->¬ FX (XZ Z g q) own i from λi h1 h2=>by have:=hk.bO h2; omega);have HFD:=hid (Xx (c:=c) (him.turn (aa.none_ hga)) (λi hi=>ake (hk.bO hi) hga.size) (by omega) p)
 have HFI:=hid hfi;have HWS:=hid (show s.W.isSome=true from by rw [hW]; rfl);have pU:=hid (show 0+240<=maxLen/\(0+240) * 1<=140737488355328 from ⟨by simp [maxLen],by omega⟩);have H:=hid h; have HK:=hid hk; have jC:=hid him; have HA:=hid hA; have HD:=hid hd; have jR:=hid hb; have gM:=hid hga;obtain ⟨R0,hR0⟩:∃ r,bQ s p (k,body)=r:=⟨_,rfl⟩;rw [hR0];have Ls:=hid (show U p.toNat=none/\n=40->R0=(16,s) from λhh=>by
  rw [<-hR0]; unfold bQ; rw [hW];simp only;rw [if_neg (by rw [hp]; simp),if_neg (by rw [hok]; simp),if_pos ⟨hh.1,by rw [hks]; exact hh.2⟩])
 have Ik:=hid (show ¬ (U p.toNat=none/\n=40)->R0=(0,{ s with W:=some (upd U p.toNat (some (k,body))) }) from λhh=>by
  rw [<-hR0]; unfold bQ; rw [hW];simp only;rw [if_neg (by rw [hp]; simp),if_neg (by rw [hok]; simp),if_neg (λh9=>hh ⟨h9.1,by rw [<-hks]; exact h9.2⟩)])
 obtain ⟨l2,hl2⟩:∃ l2,rising (upd U p.toNat (some (k,body)))=l2:=⟨_,rfl⟩;have HL2:=hid (show True->rising (upd U p.toNat (some (k,body)))=l2 from λ_=>hl2);rw [hl2] at Hu;clear hl2;generalize rising U=l at *;generalize hu0:U p.toNat=u0 at *;clear hu0;clear h hk him hnl hN hks hga hb hd hok hp hp0 hp9 hpr hlt hlb aeh hR0 hW hA hk1 hk5 hfi hpn
 cases u0 with
 | some z0 =>
   have HE:=hid (Ik.out (λhh=>by cases hh.1));clear Ls Ik;go_enter Tryz.func36,Tryz.ntmps36
   go_wp2_with (first
    | (go_at_call 83
       (with_reducible refine HFD.out.mono ?_)
       rintro e w2 ⟨hg2,⟨x9,Zx,vO,rfl,Qy⟩ | ⟨vO,rfl⟩⟩
       case inr=>rw [HFI.out] at vO; cases vO
       have aZ:=hid ((gM.out.trans hg2).trans (aj9 w2 (.cells #[.int .i64 x9.2.1,Zx] 72) none));have mZ:=hid ((jR.out.grown hg2 (by simp)).alloc (.cells #[.int .i64 x9.2.1,Zx] 72));have x30:=mZ.out.cell 0; have x31:=mZ.out.cell 1;simp only [akb,aka,akc] at x30 x31;obtain ⟨A9,n9,c9,rfl,_,_⟩:=Qy;have gW:=hid ((uV (Dsk.Data.turn HD.out (aa.none_ aZ.out))).reads)
       clear hg2 vO)
    | (at_builtin
       refine ai _ rfl (.tmp 59) (.tmp 61) _ rfl w.heap.size 5 j0 _ 1 1 Tryz.underlying65 Cq.out y0.out y1.out y2.out rfl (by omega) _ 0 [] rfl (Own.nil _ _ _ _)
        _ _ 240 _ _ rfl gW.out (fO _) pU.out.1 pU.out.2 aZ.out.size ?_
       intro v4 w4 uA FD;rw [Nat.zero_add,List.nil_append] at uA;have lL:=hid uA; have cB:=hid (aZ.out.trans FD.1); have mh:=hid (mZ.out.grown (show World.grownBy _ w4 none from FD.1) (by simp)); clear uA FD))
   have Bd:=Fs (P:=FX (XZ Z g q) own) (show Own w4 w.heap.size 5 1 v4 body.length (au body) from by rw [OC.out]; exact lL.out) bK.out CW.out;obtain ⟨A4,n4,c4,rfl,_,hd4⟩:=Bd;obtain rfl:n4=body.length:=hd4.1.symm;have HD5:=hid (ah w4 none);have fP:=hid (cB.out.trans HD5.out);have pR:=hid (show cO w4.drew (FX (XZ Z g q) own) (.slice A4 body.length c4) body from (show cO w4 (FX (XZ Z g q) own) (.slice A4 body.length c4) body from ⟨_,_,_,rfl,by assumption,hd4⟩).turn (aa.none_ HD5.out))
   have fK:=hid (Dt (jC.out.turn (aa.none_ fP.out)) (λi hi=>ake (vR.out i hi) fP.out.size) hnc hcm (HA.out) hn p k pR.out);have ni:=hid (HK.out.quiet fP.out);have q11:=ni.out.cells.2.2.2.2.2.2.2.2.2.2.2;have afZ:w4.cell? ⟨q,11,none⟩=some (.slice A n c):=(HK.out.quiet cB.out).cells.2.2.2.2.2.2.2.2.2.2.2;have x50:=(mh.out.grown HD5.out (by simp)).cell 0;have Xb:=mh.out.cell 0;simp only [akb,aka,akc] at x50 Xb
   clear hd4;rw [OC.out] at fK;rw [OC.out]
   go_region_with (go_at_call 29
                   (with_reducible refine fK.out.mono ?_)
                   rintro e w5 ⟨hg5,v5,rfl,hv5⟩;have ad6:=(ni.out.quiet hg5).cells.2.2.2.2.2.2.2.2.2.2.2;have f11:=(ni.out.quiet hg5).fz 11;have iF:=hid (fP.out.trans hg5);have HV5:=hid hv5;obtain ⟨A5,n5,c5,rfl,_⟩:=hv5;clear hg5)
   all_goals
    go_wp2_with fail;go_ret;have kQ:=HK.out.quiet iF.out;have hs:=bI (akr w5 (some q)) 11 (.slice A5 n5 c5);have h9:=(H.out.quiet iF.out).row (W':=some (upd U p.toNat (some (k,body)))) kQ hs (by
     have hb6:=af.aC kQ.c 11 (.slice A5 n5 c5);rw [HWS.out] at hb6;exact hb6) kQ.p (by rw [show (some (upd U p.toNat (some (k,body)))).getD aM=upd U p.toNat (some (k,body)) from rfl,HL2.out trivial,<-Hu.out]; exact HV5.out) kQ.okD HUK.out H.out.may
    rw [HE.out];exact ⟨rfl,own,h9.1,(aa.none_ iF.out).trans h9.2⟩
 | none =>
   by_cases gB:n=40
   · have HE:=hid (Ls.out ⟨rfl,gB⟩);have hki:((n:Int) == 40)=true:=by simp; omega
     have hkj:(n:Int)=40:=by omega
     clear Ls Ik gB;go_enter Tryz.func36,Tryz.ntmps36
     go_wp2_with (go_at_call 83
                  (with_reducible refine HFD.out.mono ?_)
                  rintro e w2 ⟨hg2,⟨x9,Zx,vO,rfl,Qy⟩ | ⟨vO,rfl⟩⟩
                  case inl=>rw [HFI.out] at vO; cases vO
                  have aZ:=hid ((gM.out.trans hg2).trans (aj9 w2 (.cells #[.int .i64 0,.slice none 0 0] 72) none));have q11:=(HK.out.quiet aZ.out).cells.2.2.2.2.2.2.2.2.2.2.2;clear hg2 vO)
     go_ret;rw [HE.out];exact lg H.out aZ.out
   · have HE:=hid (Ik.out (λhh=>gB hh.2));have hki:((n:Int) == 40)=false:=by simp; omega
     have hkj:¬ ((n:Int)=40):=by omega
     clear Ls Ik gB;go_enter Tryz.func36,Tryz.ntmps36
     go_wp2_with (first
      | (go_at_call 83
         (with_reducible refine HFD.out.mono ?_)
         rintro e w2 ⟨hg2,⟨x9,Zx,vO,rfl,Qy⟩ | ⟨vO,rfl⟩⟩
         case inl=>rw [HFI.out] at vO; cases vO
         have aZ:=hid ((gM.out.trans hg2).trans (aj9 w2 (.cells #[.int .i64 0,.slice none 0 0] 72) none));have mZ:=hid ((jR.out.grown hg2 (by simp)).alloc (.cells #[.int .i64 0,.slice none 0 0] 72));have q11:=(HK.out.quiet aZ.out).cells.2.2.2.2.2.2.2.2.2.2.2;have x30:=mZ.out.cell 0; have x31:=mZ.out.cell 1;simp only [akb,aka,akc] at x30 x31
         have gW:=hid ((uV (Dsk.Data.turn HD.out (aa.none_ aZ.out))).reads);clear hg2 vO)
      | (at_builtin
         refine ai _ rfl (.tmp 59) (.tmp 61) _ rfl w.heap.size 5 j0 _ 1 1 Tryz.underlying65 Cq.out y0.out y1.out y2.out rfl (by omega) _ 0 [] rfl (Own.nil _ _ _ _)
          _ _ 240 _ _ rfl gW.out (fO _) pU.out.1 pU.out.2 aZ.out.size ?_
         intro v4 w4 uA FD;rw [Nat.zero_add,List.nil_append] at uA;have lL:=hid uA; have cB:=hid (aZ.out.trans FD.1); have mh:=hid (mZ.out.grown (show World.grownBy _ w4 none from FD.1) (by simp)); clear uA FD))
     have Bd:=Fs (P:=FX (XZ Z g q) own) (show Own w4 w.heap.size 5 1 v4 body.length (au body) from by rw [OC.out]; exact lL.out) bK.out CW.out;obtain ⟨A4,n4,c4,rfl,_,hd4⟩:=Bd;obtain rfl:n4=body.length:=hd4.1.symm;have HD5:=hid (ah w4 none);have fP:=hid (cB.out.trans HD5.out);have pR:=hid (show cO w4.drew (FX (XZ Z g q) own) (.slice A4 body.length c4) body from (show cO w4 (FX (XZ Z g q) own) (.slice A4 body.length c4) body from ⟨_,_,_,rfl,by assumption,hd4⟩).turn (aa.none_ HD5.out))
     have fK:=hid (Dt (jC.out.turn (aa.none_ fP.out)) (λi hi=>ake (vR.out i hi) fP.out.size) hnc hcm (HA.out) hn p k pR.out);have ni:=hid (HK.out.quiet fP.out);have q11:=ni.out.cells.2.2.2.2.2.2.2.2.2.2.2;have afZ:w4.cell? ⟨q,11,none⟩=some (.slice A n c):=(HK.out.quiet cB.out).cells.2.2.2.2.2.2.2.2.2.2.2;have x50:=(mh.out.grown HD5.out (by simp)).cell 0;have Xb:=mh.out.cell 0;simp only [akb,aka,akc] at x50 Xb
     clear hd4;rw [OC.out] at fK;rw [OC.out]
     go_region_with (go_at_call 29
                     (with_reducible refine fK.out.mono ?_)
                     rintro e w5 ⟨hg5,v5,rfl,hv5⟩;have ad6:=(ni.out.quiet hg5).cells.2.2.2.2.2.2.2.2.2.2.2;have f11:=(ni.out.quiet hg5).fz 11;have iF:=hid (fP.out.trans hg5);have HV5:=hid hv5;obtain ⟨A5,n5,c5,rfl,_⟩:=hv5;clear hg5)
     all_goals
      go_wp2_with fail;go_ret;have kQ:=HK.out.quiet iF.out;have hs:=bI (akr w5 (some q)) 11 (.slice A5 n5 c5);have h9:=(H.out.quiet iF.out).row (W':=some (upd U p.toNat (some (k,body)))) kQ hs (by
       have hb6:=af.aC kQ.c 11 (.slice A5 n5 c5);rw [HWS.out] at hb6;exact hb6) kQ.p (by rw [show (some (upd U p.toNat (some (k,body)))).getD aM=upd U p.toNat (some (k,body)) from rfl,HL2.out trivial,<-Hu.out]; exact HV5.out) kQ.okD HUK.out H.out.may
      rw [HE.out];exact ⟨rfl,own,h9.1,(aa.none_ iF.out).trans h9.2⟩
end
section
variable {w w' w1:World} {B r:Nat} {S:St} {own own':Nat->Prop}
theorem Rs (h:bX w B r S own) (hB:B<=w.heap.size) (pg st ln:Int) (hroom:∀ i,(S.ae i).length < 549755800000) :
 Calls Tryz.prog 7 #[.pointer (some ⟨r,0,none⟩),.int .i64 pg,.int .i64 st,.int .i64 ln] w λe w'=>e=.returned (.int .i64 (iT S pg st ln).1)/\∃ own',bX w' B r (iT S pg st ln).2 own'/\aa w w' own own':=by
 have hga:=aj9 w (.cells #[.int .i64 1,.int .i64 1,.int .i64 pg,.int .i64 st,.int .i64 ln,.int .i64 0,.int .i64 1] 49) none;have gM:=hid hga;have hbk:=af.new w 49 #[.int .i64 1,.int .i64 1,.int .i64 pg,.int .i64 st,.int .i64 ln,.int .i64 0,.int .i64 1];have fD:=hid hbk;have HDR:=hid (ah (w.alloc (.cells #[.int .i64 1,.int .i64 1,.int .i64 pg,.int .i64 st,.int .i64 ln,.int .i64 0,.int .i64 1] 49)) none)
 have HD1:=hid (eH h (hga.trans HDR.out) (λj e=>by cases e));have gV:=hid (Mh HD1.out);have fM:=hid (λwx=>lT 1 1 pg st ln 0 1 (S.n:Int) wx);have hmk:=MO;rw [Cg] at hmk;have bD:=hid (show ∀ i,own i->i < w.heap.size from λi hi=>eP h hi);have Bq:=hid (show dY [1,1,pg,st,ln,0,1] (S.n:Int)=if aL [1,1,pg,st,ln,0,1] S.n then 0 else 1 from rfl);have hkeep:∀ wx,(w.alloc (.cells #[.int .i64 1,.int .i64 1,.int .i64 pg,.int .i64 st,.int .i64 ln,.int .i64 0,.int .i64 1] 49)).grownBy wx none->wx.cell? ⟨w.heap.size,0,none⟩=some (.int .i64 1)/\wx.cell? ⟨w.heap.size,1,none⟩=some (.int .i64 1)/\wx.cell? ⟨w.heap.size,2,none⟩=some (.int .i64 pg)/\wx.cell? ⟨w.heap.size,3,none⟩=some (.int .i64 st)/\wx.cell? ⟨w.heap.size,4,none⟩=some (.int .i64 ln)/\wx.cell? ⟨w.heap.size,5,none⟩=some (.int .i64 0)/\wx.cell? ⟨w.heap.size,6,none⟩=some (.int .i64 1):=by
  intro wx hg;have hb:=hbk.grown hg (by simp);exact ⟨by rw [hb.cell]; rfl,by rw [hb.cell]; rfl,by rw [hb.cell]; rfl,by rw [hb.cell]; rfl,by rw [hb.cell]; rfl,by rw [hb.cell]; rfl,by rw [hb.cell]; rfl⟩
 have av:=hid hkeep;obtain ⟨R0,hR0⟩:∃ r,iT S pg st ln=r:=⟨_,rfl⟩;rw [hR0];unfold iT at hR0;have HE:=hid hR0.symm;have Hw:=hid (show aL [1,1,pg,st,ln,0,1] (S.n:Nat)=true->16<=pg/\pg<=1024 from λhm=>by
  have hr:jg [1,1,pg,st,ln,0,1] (S.n:Nat)=true:=by
   unfold aL at hm;rw [Bool.and_eq_true] at hm;exact hm.2
  simp [jg] at hr
  omega)
 clear hR0 hga hbk h hkeep;have pU:=hid hB;have bB:=hid hroom;clear hroom;generalize hmb:aL [1,1,pg,st,ln,0,1] (S.n:Int)=mb at *;clear hmb;generalize dY [1,1,pg,st,ln,0,1] (S.n:Int)=ck at *;go_enter Tryz.func7,Tryz.ntmps7;go_wp2_with fail
 go_region_held3 (λwx=>wx.cell? ⟨w.heap.size,0,none⟩=some (.int .i64 1)/\wx.cell? ⟨w.heap.size,1,none⟩=some (.int .i64 1)/\wx.cell? ⟨w.heap.size,2,none⟩=some (.int .i64 pg)/\wx.cell? ⟨w.heap.size,3,none⟩=some (.int .i64 st)/\wx.cell? ⟨w.heap.size,4,none⟩=some (.int .i64 ln)/\wx.cell? ⟨w.heap.size,5,none⟩=some (.int .i64 0)/\wx.cell? ⟨w.heap.size,6,none⟩=some (.int .i64 1))
  (first
    | exact av.out _ HDR.out
    | exact av.out _ HG2.out)
  (first
    | (go_at_call 23
       (with_reducible refine gV.out.mono ?_)
       rintro e w1 ⟨rfl,rfl⟩)
    | (go_at_call 22
       (with_reducible refine (fM.out _).mono ?_)
       rintro e w2 ⟨rfl,hg⟩;have HG2:=hid (HDR.out.trans hg);have HD2:=hid (eH HD1.out hg (λj e=>by cases e));clear hg))
 clear HD1 gV fM av HDR
 cases mb with
 | false =>
   obtain rfl:ck=1:=Bq.out;have lN:=hid (show R0=(1,S) from HE.out.trans (if_neg (by simp)));clear HE Bq Hw hmk;go_wp2_with fail;go_ret;rw [lN.out];exact ⟨rfl,own,HD2.out,aa.none_ (gM.out.trans HG2.out)⟩
 | true =>
   obtain rfl:ck=0:=Bq.out;have jG:=Hw.out rfl;obtain ⟨N,hN⟩:∃ N:Nat,pg=(N:Int):=⟨pg.toNat,by omega⟩;rw [show pg.toNat=N by omega] at HE;have HN:=hid hN;have vS:=hid (show N<=1024 by omega);have lN:=hid (show R0=(if (bM N S).1=0 then nE (bM N S).2 pg st ln else bM N S) from HE.out.trans (if_pos (by simp)));have HB2:=hid (fD.out.grown HG2.out (by simp));have H0:=hid (show bX w2 B r (bM 0 S).2 own/\aa w2 w2 own own/\(bM 0 S).1=0 from ⟨HD2.out,aa.refl _ _,rfl⟩)
   clear HE Bq Hw hN jG;go_wp2_with fail
   go_loopw [11,12] (λi _ wr=>∃ j:Nat,j<=N/\i=.int .i64 j/\∃ own',bX wr B r (bM j S).2 own'/\aa w2 wr own own'/\(bM j S).1=0) (λi _ _=>N - (Go.RowKit.intOf i).toNat)
   case atStart=>exact ⟨0,aks _,rfl,own,H0.out⟩
   case round =>
    clear H0;obtain ⟨j,hj,rfl,own',hd,ht,he⟩:=hrel;have HD:=hid hd; have HT:=hid ht; have aU:=hid he;clear hd ht he;have hsz2:=HG2.out.size;have xw:=HT.out.size;have hsz1:=gM.out.size;have nO:=hid (aj HB2.out (HT.out.block w.heap.size HB2.out.lt (λe=>by have:=bD.out _ e; omega)));have pI:=hid ((aa.none_ (gM.out.trans HG2.out)).trans HT.out);have mi:=hid (show ∀ i,own' i->i < wr.heap.size from λi hi=>eP HD.out hi)
    have Oz:=hid (show ¬ own' w.heap.size from λe=>by
     rcases pI.out.fresh _ e with h1 | h1
     · have:=bD.out _ h1; omega
     · rcases HT.out.fresh _ e with h2 | h2
       · have:=bD.out _ h2; omega
       · have:=HB2.out.lt; omega)
    have EM:=hid (λi=>E9 S i j);have hbw:B<=wr.heap.size:=by have:=pU.out; omega
    by_cases hlt:j < N
    · have hjn:(j:Int) < pg:=by have:=HN.out; omega
      have ahJ:(j:Int)<=1024:=by have:=vS.out; omega
      have XY:IntKind.i64.wrap (2+(j:Int))=2+(j:Int):=IntWalk.i64_in _ (by have:=vS.out; omega);have hga:=aj9 wr (.cells (au iw).toArray 5) none;have hbk:=af.new wr 5 (au iw).toArray;have hd2:=eH HD.out hga (λj e=>by cases e);have hl:iw.length=256:=List.length_replicate;have sw:=lG (own:=own') hbk (λx hx=>by rw [(List.mem_replicate.1 hx).2]; omega) (λe=>by have:=mi.out _ e; omega);rw [hl] at sw
      have hnb:=vS.out;have hwr:=mR hd2 (2+(j:Int)) (some ⟨wr.heap.size,0,none⟩) 256 256 _ false (by omega) sw (by omega) (by omega) (λi=>by have:=EM.out i; have:=bB.out i; omega) (akh hbw hga.size);have hstep:bM (j+1) S=aF (bM j S).2 false (2+(j:Int)) iw:=by
       rw [bM,if_pos aU.out]
      have Tz:=hid (λ(h:(bM (j+1) S).1≠0)=>Bw h N (by omega));rw [<-hstep] at hwr;generalize hq:bM (j+1) S=rr at *;have HQ:=hid hq;obtain ⟨er,Tr⟩:=rr
      dsimp only at hwr
      have yz:=hid hwr;have Y1:=hid hga;clear hga hbk hd2 hl sw hnb hwr hstep hq;generalize au iw=zs at *;go_wp2_with fail;refine yz.out.mono ?_;rintro e w5 ⟨rfl,ik,hd5,dL⟩;have HD5:=hid hd5;have fJ:=hid ((aa.none_ Y1.out).trans dL);clear hd5 dL
      all_goals (
       by_cases h0:er=0
       · subst h0;go_wp2_with fail
         first
          | exact ⟨⟨j+1,by omega,by first | rfl | go_num,ik,by rw [HQ.out]; exact HD5.out,HT.out.trans fJ.out,by rw [HQ.out]⟩,by simp [Go.RowKit.intOf]; omega⟩
          | (go_roundw
             case rel=>exact ⟨j+1,by omega,by first | rfl | go_num,ik,by rw [HQ.out]; exact HD5.out,HT.out.trans fJ.out,by rw [HQ.out]⟩
             case measure=>simp [Go.RowKit.intOf]; omega)
       · have Ke:(er == 0)=false:=by simpa using h0
         have fA:=hid (show R0=(er,Tr) from by
          have h1:=Tz.out h0;have h2:=lN.out;rw [h1,if_neg h0] at h2;exact h2)
         go_wp2_with fail;go_ret;rw [fA.out];exact ⟨rfl,ik,HD5.out,pI.out.trans fJ.out⟩)
    · have vN:j=N:=by omega
      subst vN;have hjn:¬ ((j:Int) < pg):=by have:=HN.out; omega
      have HF:=hid (qy HD.out);have HE2:=hid (show R0=nE (bM j S).2 pg st ln from lN.out.trans (if_pos aU.out));have QT:=hid (λi=>jP (bM j S).2 i);have ZM:=hid (show j<=1024 from vS.out);unfold nE at HE2;generalize (bM j S).2=S2 at *;generalize hq:aR S2=rr at *;obtain ⟨ef,Tf⟩:=rr
      dsimp only at HF HE2 QT
      clear hq hmk;go_wp2_with fail;refine HF.out.mono ?_;rintro e w5 ⟨rfl,hd5,dL⟩;have HD5:=hid hd5;have fJ:=hid (pI.out.trans dL);have gF:=hid (aj nO.out (dL.block w.heap.size nO.out.lt Oz.out));have hs5:=dL.size;clear hd5 dL HF
      by_cases h0:ef=0
      · subst h0;have j5:=hid (show R0=Sto.jN Tf 1 1 pg st ln 0 1 from HE2.out.trans (if_pos rfl));have fw:=hid (rT HD5.out 1 1 pg st ln 0 1 (λi=>by have h1:=QT.out i; have h2:=EM.out i; have h3:=bB.out i; have h4:=ZM.out; omega) (akh hbw hs5));have l7:=hid (λi=>zU Tf 1 1 pg st ln 0 1 i);unfold Sto.jN at j5;generalize ay Tf [1,1,pg,st,ln,0,1]=RS at *;obtain ⟨e6,T6⟩:=RS
        dsimp only at fw j5 l7
        have x0:=gF.out.cell 0; have x1:=gF.out.cell 1; have x2:=gF.out.cell 2; have x3:=gF.out.cell 3; have x4:=gF.out.cell 4; have x5:=gF.out.cell 5; have x6:=gF.out.cell 6;simp only [akb,aka,akc] at x0 x1 x2 x3 x4 x5 x6;go_wp2_with fail;refine fw.out.mono ?_;rintro e w6 ⟨rfl,oh,hd6,qh⟩;have kY:=hid (aj gF.out (qh.block w.heap.size gF.out.lt Oz.out))
        have HD6:=hid hd6;have rD:=hid (fJ.out.trans qh);have hs6:=qh.size;have CX:=hid (PZ qh gF.out.lt Oz.out);clear hd6 qh fw x0 x1 x2 x3 x4 x5 x6
        by_cases h6:e6=0
        · subst h6;have vV:=hid (show R0=ay T6 [1+1,1,pg,st,ln,0,1] from j5.out.trans (if_pos rfl));have hgs:=bI (akr w6 (some w.heap.size)) 0 (.int .i64 2);have HD7:=hid (eH HD6.out hgs (λj e=>by cases e; exact CX.out));have nu:=hid (af.aC kY.out 0 (.int .i64 2));have CQ:=hid (rD.out.XJ hgs (akf _));have f0:=kY.out.frozen 0;have x00:=kY.out.cell 0;have fw:=hid (rT HD7.out 2 1 pg st ln 0 1 (λi=>by have h0:=l7.out i; have h1:=QT.out i; have h2:=EM.out i; have h3:=bB.out i; have h4:=ZM.out; omega) (akh hbw (akh hs5 (akh hs6 hgs.size))))
          have x0:=nu.out.cell 0; have x1:=nu.out.cell 1; have x2:=nu.out.cell 2; have x3:=nu.out.cell 3; have x4:=nu.out.cell 4; have x5:=nu.out.cell 5; have x6:=nu.out.cell 6;simp only [aj3,aj7,akb,aka,akc] at x00 x0 x1 x2 x3 x4 x5 x6;clear hgs;go_wp2_with fail;refine fw.out.mono ?_;rintro e w8 ⟨rfl,abg,hd8,Zc⟩
          have ZG:=hid (And.intro hd8 (CQ.out.trans Zc));clear hd8 Zc fw;go_wp2_with fail;go_ret;rw [vV.out];exact ⟨rfl,abg,ZG.out.1,ZG.out.2⟩
        · have Ke:(e6 == 0)=false:=by simpa using h6
          have vV:=hid (j5.out.trans (if_neg h6));clear h6;go_wp2_with fail;go_ret;rw [vV.out];exact ⟨rfl,oh,HD6.out,rD.out⟩
      · have Ke:(ef == 0)=false:=by simpa using h0
        have j5:=hid (HE2.out.trans (if_neg h0));go_wp2_with fail;go_ret;rw [j5.out];exact ⟨rfl,own',HD5.out,fJ.out⟩
end
end Go.Proofs.YtinajlbijgedbaaGreat.RSto
