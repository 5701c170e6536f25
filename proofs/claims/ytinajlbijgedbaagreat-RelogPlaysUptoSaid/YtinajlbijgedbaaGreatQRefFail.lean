/- Texts of this seat's proofs: RefFail, RefRead, RefFlush. -/
import Derived.Test.YtinajlbijgedbaaGreatQMapIs
import Derived.Test.YtinajlbijgedbaaGreatQDiskLaid
import Derived.Deep.RegionHeld3
set_option maxRecDepth 100000
set_option maxHeartbeats 16000000
namespace Go.Proofs.YtinajlbijgedbaaGreat.Dsk
open Lib (hid)
open Go.RowKit Mem Crc DiskSpec
theorem D6 (p:Value) (kind n:Int) (w:World) (hb:wQ kind n) :
 Calls Tryz.prog 41 #[p,.int .i64 kind,.int .i64 n] w λe w'=>e=.returned (.int .i64 1)/\w=w':=by
 by_cases h1:kind < 1
 · go_enter Tryz.func41,Tryz.ntmps41;go_wp2;go_ret;exact ⟨rfl,rfl⟩
 by_cases h2:3 < kind
 · go_enter Tryz.func41,Tryz.ntmps41;go_wp2;go_ret;exact ⟨rfl,rfl⟩
 by_cases h3:n < 1
 · go_enter Tryz.func41,Tryz.ntmps41;go_wp2;go_ret;exact ⟨rfl,rfl⟩
 · have h4:1099511627776 < n:=by rcases hb with h | h | h | h <;> omega
   clear hb;go_enter Tryz.func41,Tryz.ntmps41;go_wp2;go_ret;exact ⟨rfl,rfl⟩
theorem Uy {w:World} {B r bl c:Nat} {dv vv:Nat->Value} {vs:Nat->List Value} {S:St} {own:Nat->Prop} (h:aP w B r bl c dv vv vs S own) (n:Nat) (h1:1<=n) (h2:n<=1099511627776) :
 Calls Tryz.prog 41 #[.pointer (some ⟨r,0,none⟩),.int .i64 1,.int .i64 (n:Nat)] w λe w'=>e=.returned (.int .i64 0)/\w.grownBy w' (some r)/\aP w' B r bl c dv vv vs { S with f1:=n } own:=by
 have hc:=h.r2;have hf:=h.JG 2;have H:=hid (h.struct (T:={ S with f1:=n }) (akd (akr w (some r)) 2 (.int .i64 (n:Nat))) { h.ok with f1:=h2 } rfl rfl rfl (h.blk.aC 2 (.int .i64 (n:Nat))));clear h;have hd1:decide ((n:Int) < 1)=false:=by simp; omega
 have hd2:decide (1099511627776 < (n:Int))=false:=by simp; omega
 go_enter Tryz.func41,Tryz.ntmps41;go_wp2;go_ret;exact ⟨rfl,akd (akr _ _) _ _,H.out⟩
theorem Ux {w:World} {B r bl c:Nat} {dv vv:Nat->Value} {vs:Nat->List Value} {S:St} {own:Nat->Prop} (h:aP w B r bl c dv vv vs S own) (n:Nat) (h1:1<=n) (h2:n<=1099511627776) :
 Calls Tryz.prog 41 #[.pointer (some ⟨r,0,none⟩),.int .i64 2,.int .i64 (n:Nat)] w λe w'=>e=.returned (.int .i64 0)/\w.grownBy w' (some r)/\aP w' B r bl c dv vv vs { S with f2:=n } own:=by
 have hc:=h.r3;have hf:=h.JG 3;have H:=hid (h.struct (T:={ S with f2:=n }) (akd (akr w (some r)) 3 (.int .i64 (n:Nat))) { h.ok with f2:=h2 } rfl rfl rfl (h.blk.aC 3 (.int .i64 (n:Nat))));clear h;have hd1:decide ((n:Int) < 1)=false:=by simp; omega
 have hd2:decide (1099511627776 < (n:Int))=false:=by simp; omega
 go_enter Tryz.func41,Tryz.ntmps41;go_wp2;go_ret;exact ⟨rfl,akd (akr _ _) _ _,H.out⟩
theorem Uw {w:World} {B r bl c:Nat} {dv vv:Nat->Value} {vs:Nat->List Value} {S:St} {own:Nat->Prop} (h:aP w B r bl c dv vv vs S own) (n:Nat) (h1:1<=n) (h2:n<=1099511627776) :
 Calls Tryz.prog 41 #[.pointer (some ⟨r,0,none⟩),.int .i64 3,.int .i64 (n:Nat)] w λe w'=>e=.returned (.int .i64 0)/\w.grownBy w' (some r)/\aP w' B r bl c dv vv vs { S with f3:=n } own:=by
 have hc:=h.r4;have hf:=h.JG 4;have H:=hid (h.struct (T:={ S with f3:=n }) (akd (akr w (some r)) 4 (.int .i64 (n:Nat))) { h.ok with f3:=h2 } rfl rfl rfl (h.blk.aC 4 (.int .i64 (n:Nat))));clear h;have hd1:decide ((n:Int) < 1)=false:=by simp; omega
 have hd2:decide (1099511627776 < (n:Int))=false:=by simp; omega
 go_enter Tryz.func41,Tryz.ntmps41;go_wp2;go_ret;exact ⟨rfl,akd (akr _ _) _ _,H.out⟩
theorem Rt (p:Value) (n:Int) (w:World) (hb:n < 0\/1099511627776 < n) :
 Calls Tryz.prog 43 #[p,.int .i64 n] w λe w'=>e=.returned (.int .i64 1)/\w=w':=by
 by_cases h1:n < 0
 · clear hb;go_enter Tryz.func43,Tryz.ntmps43;go_wp2;go_ret;exact ⟨rfl,rfl⟩
 · have h4:1099511627776 < n:=by rcases hb with h | h <;> omega
   clear hb;go_enter Tryz.func43,Tryz.ntmps43;go_wp2;go_ret;exact ⟨rfl,rfl⟩
theorem aaj {w:World} {B r bl c:Nat} {dv vv:Nat->Value} {vs:Nat->List Value} {S:St} {own:Nat->Prop} (h:aP w B r bl c dv vv vs S own) (n:Int) (h1:0<=n) (h2:n<=1099511627776) :
 Calls Tryz.prog 43 #[.pointer (some ⟨r,0,none⟩),.int .i64 n] w λe w'=>e=.returned (.int .i64 0)/\w.grownBy w' (some r)/\aP w' B r bl c dv vv vs { S with left:=n } own:=by
 have hc:=h.r5;have hf:=h.JG 5;have H:=hid (h.struct (T:={ S with left:=n }) (akd (akr w (some r)) 5 (.int .i64 n)) { h.ok with l0:=by show -1<=n; omega,l1:=h2 } rfl rfl rfl (h.blk.aC 5 (.int .i64 n)));clear h;have hd1:decide (n < 0)=false:=by simp; omega
 have hd2:decide (1099511627776 < n)=false:=by simp; omega
 go_enter Tryz.func43,Tryz.ntmps43;go_wp2;go_ret;exact ⟨rfl,akd (akr _ _) _ _,H.out⟩
theorem SS (S:St) (j:Nat):(List.range (j+1)).filter (λk=>!(S.ae k).isEmpty)=(List.range j).filter (λk=>!(S.ae k).isEmpty) ++ (if S.ae j=[] then [] else [j]):=by
 rw [List.range_succ,List.filter_append]
 congr 1
 cases hv:S.ae j <;> simp [hv]
theorem U1 (l:List Nat) (j:Nat):ou (l ++ [j])=ou l ++ [.int .i64 (j:Nat)]:=by simp [ou]
theorem qI:(Tryz.prog.info? 3).map (λi=>(i.zero,i.size,i.bytes))=some (some (.int .i64 0),1,8):=by kernel_rfl
theorem UC (w:World) (x:Value):Reads (w.alloc (.cells #[x] 3)) (w.heap.size+1) 1 (some ⟨w.heap.size,0,none⟩) 1 [x]:=by
 refine ⟨rfl,λ_=>⟨_,rfl,by simp,λj u hu=>?_⟩⟩
 match j with
 | 0=>simpa [Addr.add] using hu
 | j+1=>simp at hu
theorem Uz {w:World} {B r bl c:Nat} {dv vv:Nat->Value} {vs:Nat->List Value} {S:St} {own:Nat->Prop} (h:aP w B r bl c dv vv vs S own) :
 Calls Tryz.prog 88 #[.pointer (some ⟨r,0,none⟩)] w λe w'=>∃ v,e=.returned v/\Own w' w.heap.size 3 1 v S.aJ.length (ou S.aJ)/\w.grownBy w' none:=by
 obtain ⟨i0,hi0,hz0,hz1,hz2⟩:=info_parts qI;have hi:=hid hi0; have z0:=hid hz0; have z1:=hid hz1; have z2:=hid hz2; clear hi0 hz0 hz1 hz2;have htop:=h.ok.top;have hcap:=h.cap;have HL:=hid h;have HDU:=hid (SS S);have OL:=hid (show S.aJ=(List.range S.n).filter (λk=>!(S.ae k).isEmpty) from rfl);clear h;go_enter Tryz.func88,Tryz.ntmps88;go_wp2_with fail
 go_loopw [3,4] (λu i wr=>∃ j:Nat,j<=S.n/\i=.int .i64 j/\Own wr w.heap.size 3 1 u ((List.range j).filter (λk=>!(S.ae k).isEmpty)).length (ou ((List.range j).filter (λk=>!(S.ae k).isEmpty)))/\w.grownBy wr none) (λ_ i _=>S.n - (Go.RowKit.intOf i).toNat)
 case atStart=>exact ⟨0,by omega,rfl,Own.nil _ _ _ _,akr _ _⟩
 case round =>
  obtain ⟨j,hj,rfl,ho,hg⟩:=hrel;have hlr:=HL.out.grown hg (λ_ e=>by cases e);have hc:=hlr.rc;have HO:=hid ho; have HG:=hid hg;have hsz:=hg.size;clear ho hg
  by_cases hlt:j < S.n
  · have hcv:=hlr.cv hlt;obtain ⟨A,m,cap,hvv,hm,hmc,hcm,_,_⟩:=hlr.now hlt;rw [hvv] at hcv;have hstep:=HDU.out j;have aei:=List.length_filter_le (λk=>!(S.ae k).isEmpty) (List.range j);rw [List.length_range] at aei
    by_cases h0:S.ae j=[]
    · rw [if_pos h0,List.append_nil] at hstep;have hm0:m=0:=by rw [hm,h0]; rfl
      subst hm0;have HST:=hid hstep;clear hstep hm h0 hlr hvv;go_wp2_with fail
      go_roundw
      case rel=>exact ⟨j+1,by omega,by go_num,by rw [HST.out]; exact HO.out,HG.out⟩
      case measure=>simp [Go.RowKit.intOf]; omega
    · rw [if_neg h0] at hstep;have hm0:0 < m:=by rw [hm]; exact List.length_pos_iff.2 h0
      have ai2:(0:Int) < (m:Int):=by omega
      have HST:=hid hstep;generalize (List.range j).filter (λk=>!(S.ae k).isEmpty)=L at *;clear hstep hm h0 hlr hvv
      go_wp2_with (at_builtin
                   refine ai _ rfl (.tmp 24) (.tmp 26) _ rfl w.heap.size 3 i0 _ 1 8 Tryz.underlying45 hi.out z0.out z1.out z2.out rfl (by omega) _ L.length _ rfl (HO.out.alloc _)
                    _ _ 1 1 _ rfl (UC _ _) (λu hu=>by simp at hu; subst hu; rfl) (by simp only [maxLen]; omega) (by omega) (by simp; omega) ?_
                   intro v' w' hown' dC;have kr:=hid hown'; have iO:=hid dC; clear hown' dC)
      go_roundw
      case rel =>
       refine ⟨j+1,by omega,by go_num,?_,aI (HG.out.trans (aj9 wr _ none)) iO.out.1 (λq hq=>(HO.out.bH q hq).1)⟩;rw [HST.out,akl,List.length_singleton,U1];exact kr.out
      case measure=>simp [Go.RowKit.intOf]; omega
  · obtain rfl:j=S.n:=by omega
    rw [<-OL.out] at HO;go_wp2;go_ret;exact ⟨_,rfl,HO.out,HG.out⟩
theorem BytesAt.cellsRead {w:World} {own:Nat->Prop} {v:Value} {x:List Nat} (h:BytesAt w own v x):∃ g c,v=.slice (some ⟨g,0,none⟩) 256 c/\Reads w w.heap.size 1 (some ⟨g,0,none⟩) 256 (au x):=by
 obtain ⟨g,c,e,hlt,_,_,hc⟩:=h.reads;have hx:l6 x:=by obtain ⟨_,_,_,_,_,_,_,_,_,h5,_⟩:=h; exact h5
 refine ⟨g,c,e,by rw [aB,hx.1],λ_=>⟨_,rfl,hlt,λj u hu=>?_⟩⟩;have e1:(⟨g,0,none⟩:Addr).add j=⟨g,j,none⟩:=by unfold Addr.add; split <;> simp_all
 rw [e1];exact hc j u hu
theorem Pf {w:World} {B r bl c:Nat} {dv vv:Nat->Value} {vs:Nat->List Value} {S:St} {own:Nat->Prop} (h:aP w B r bl c dv vv vs S own) (a count:Nat) (h1:1<=count) (h2:a+count<=S.n) (hf:S.f1≠1) :
 Calls Tryz.prog 73 #[.pointer (some ⟨r,0,none⟩),.int .i64 (a:Nat),.int .i64 (count:Nat)] w λe w'=>∃ v,e=.returned (.tuple #[v,.int .i64 0]) /\
  Own w' w.heap.size 5 1 v (256 * count) (au (S.reads a count))/\aP w' B r bl c dv vv vs { S with f1:=S.f1 - 1 } own/\aa w w' own own:=by
 obtain ⟨i0,hi0,hz0,hz1,hz2⟩:=info_parts gD;have hi:=hid hi0; have z0:=hid hz0; have z1:=hid hz1; have z2:=hid hz2; clear hi0 hz0 hz1 hz2;have htop:=h.ok.top;have HH:=hid (qQ h (a:Int) (count:Int) (by omega) (by omega));have hhas:S.has a count=true:=by simp [St.has]; omega
 rw [hhas] at HH;have HD:=hid (Gj h);rw [show decide (S.f1=1)=false by simp [hf]] at HD;have jB:=hid h.jK;have aU:=hid h.ok;clear h hhas;generalize hT:({ S with f1:=S.f1 - 1 }:St)=T at *;have Hr:=hid (show T.n=S.n by rw [<-hT]);have Oh:=hid (show T.now=S.now by rw [<-hT]; rfl);clear hT;have hws:IntKind.i64.wrap ((a:Int)+(count:Int))=(a:Int)+(count:Int):=IntWalk.i64_in _ (by omega);go_enter Tryz.func73,Tryz.ntmps73
 go_wp2_with fail;refine HH.out.mono ?_;rintro e w' ⟨rfl,rfl⟩;go_wp2_with fail;refine HD.out.mono ?_;rintro e w1 ⟨rfl,hg1,hl1⟩;have hs1:=hg1.size;have HT1:=hid (aa.aA (own:=own) hg1 (λq e=>by cases e; exact jB.out)); have H1:=hid hl1; clear hg1 hl1;go_wp2_with fail
 go_loopw [8,9] (λu i wr=>∃ (j:Nat) (i':Int),j<=count/\i'=(a:Int)+j/\i=.int .i64 i'/\Own wr w.heap.size 5 1 u (256 * j) (au (S.reads a j))/\w1.grownBy wr none/\(∀ g,u.ownBlock=some g->w1.heap.size<=g)) (λ_ i _=>a+count - (Go.RowKit.intOf i).toNat)
 case atStart=>exact ⟨0,_,by omega,rfl,by rw [show (a:Int)+((0:Nat):Int)=(a:Int) by omega],Own.nil _ _ _ _,akr _ _,λg hg=>by cases hg⟩
 case round =>
  obtain ⟨j,i',hj,hi',rfl,ho,hg,hnb⟩:=hrel;have hlr:=H1.out.grown hg (λ_ e=>by cases e);have HO:=hid ho; have HG:=hid hg; have vS:=hid hnb;have hsz:=hg.size;clear ho hg hnb
  by_cases hlt:j < count
  · have ZR:=hid (Mj hlr (a+j) (by rw [Hr.out]; omega));rw [Oh.out] at ZR;have EA:=hid (show i'=((a+j:Nat):Int) by omega);have HX:=hid (show a+count - ((a:Int)+(j:Int)+1).toNat < a+count - i'.toNat by omega);have agd:i' < (a:Int)+(count:Int):=by omega
    have hi0:0<=i':=by omega
    have hi1:i' < 100000:=by omega
    clear hlr;have HI:=hid hi'; clear hi';go_wp2_with fail;rw [EA.out];refine ZR.out.mono ?_;rintro e w3 ⟨v,rfl,hby,hg3⟩;obtain ⟨g3,c3,rfl,hrd⟩:=hby.cellsRead;have gW:=hid hrd;have pK:=hid (HO.out.keep hg3 (λ_ _ e=>by cases e)); have aZ:=hid hg3;have hs3:=hg3.size;clear hby hrd hg3
    go_wp2_with (at_builtin
                 refine ai _ rfl (.tmp 25) (.tmp 28) _ rfl w.heap.size 5 i0 _ 1 1 Tryz.underlying65 hi.out z0.out z1.out z2.out rfl (by omega) _ (256 * j) _ rfl pK.out
                  _ _ 256 _ _ rfl gW.out (fO _) (by simp only [maxLen]; omega) (by omega) (by omega) ?_
                 intro v' w' hown' dC;have kr:=hid hown'; have iO:=hid dC; clear hown' dC)
    go_roundw
    case rel =>
     refine ⟨j+1,(a:Int)+(j:Int)+1,by omega,by omega,by go_num,?_,aI (HG.out.trans aZ.out) iO.out.1 (λq hq=>vS.out q hq),λq hq=>?_⟩
     · have h:=kr.out;rw [St.reads,dH];exact h
     · rcases iO.out.2 q hq with h3 | h3
       · exact vS.out q h3
       · omega
    case measure =>
     simp only [Go.RowKit.intOf];exact HX.out
  · obtain rfl:j=count:=by omega
    have agd:¬ (i' < (a:Int)+(j:Int)):=by omega
    have hdl:decide (i' < (a:Int)+(j:Int))=false:=by simp; omega
    have HI:=hid hi'; clear hi';have C8:=hid hlr; clear hlr;go_wp2;go_ret2;exact ⟨_,rfl,HO.out,C8.out,HT1.out.trans (aa.none_ HG.out)⟩
theorem Ph {w:World} {B r bl c:Nat} {dv vv:Nat->Value} {vs:Nat->List Value} {S:St} {own:Nat->Prop} (h:aP w B r bl c dv vv vs S own) (a count:Int)
 (h1:-9223372036854775808<=a/\a<=9223372036854775807) (h2:-9223372036854775808<=count/\count<=9223372036854775807) (hn:S.has a count=false) :
 Calls Tryz.prog 73 #[.pointer (some ⟨r,0,none⟩),.int .i64 a,.int .i64 count] w λe w'=>e=.returned (.tuple #[.slice none 0 0,.int .i64 2])/\w=w':=by
 have HH:=hid (qQ h a count h1 h2);rw [hn] at HH;clear h hn;go_enter Tryz.func73,Tryz.ntmps73;go_wp2_with fail;refine HH.out.mono ?_;rintro e w' ⟨rfl,rfl⟩;go_wp2;go_ret2;exact ⟨rfl,rfl⟩
theorem KV {w:World} {B r bl c:Nat} {dv vv:Nat->Value} {vs:Nat->List Value} {S:St} {own:Nat->Prop} (h:aP w B r bl c dv vv vs S own) (a count:Int)
 (h1:-9223372036854775808<=a/\a<=9223372036854775807) (h2:-9223372036854775808<=count/\count<=9223372036854775807) (hy:S.has a count=true) (hf:S.f1=1) :
 Calls Tryz.prog 73 #[.pointer (some ⟨r,0,none⟩),.int .i64 a,.int .i64 count] w λe w'=>e=.returned (.tuple #[.slice none 0 0,.int .i64 10])/\aP w' B r bl c dv vv vs { S with f1:=S.f1 - 1 } own/\aa w w' own own:=by
 have HH:=hid (qQ h a count h1 h2);rw [hy] at HH;have HD:=hid (Gj h);rw [show decide (S.f1=1)=true by simp [hf]] at HD;have jB:=hid h.jK;clear h hy hf;generalize ({ S with f1:=S.f1 - 1 }:St)=T at *;go_enter Tryz.func73,Tryz.ntmps73;go_wp2_with fail;refine HH.out.mono ?_;rintro e w' ⟨rfl,rfl⟩;go_wp2_with fail;refine HD.out.mono ?_;rintro e w1 ⟨rfl,hg1,hl1⟩;have az:=hid hg1; have H1:=hid hl1; clear hg1 hl1
 go_wp2;go_ret2;exact ⟨rfl,H1.out,aa.aA az.out (λq e=>by cases e; exact jB.out)⟩
theorem KP {S:St} (h:S.ok):S.settles (List.range S.n)=S.flush:=by
 obtain ⟨r1,r2,r3,r4,r5⟩:=rQ S (List.range S.n);refine St.ext' r1 (funext λi=>?_) (funext λi=>?_) r2 r3 r4 r5
 · rw [(rR S (List.range S.n) i).1]
   split
   · rfl
   · rename_i hi
     exact (St.nD (h.out i (by simpa using hi))).symm
 · rw [(rR S (List.range S.n) i).2]
   split
   · rfl
   · rename_i hi
     exact h.out i (by simpa using hi)
theorem O4 {S:St} (j:Nat):(S.settles (List.range j)).now j=S.now j:=by
 have h:=rR S (List.range j) j;have hn:¬ j∈List.range j:=by simp
 rw [if_neg hn,if_neg hn] at h;rw [St.now,h.1,h.2]; rfl
theorem Ml {w:World} {B r bl c:Nat} {dv vv:Nat->Value} {vs:Nat->List Value} {S:St} {own:Nat->Prop} (h:aP w B r bl c dv vv vs S own) (hf3:S.f3≠1) (hlf:S.left≠0) :
 Calls Tryz.prog 25 #[.pointer (some ⟨r,0,none⟩)] w λe w'=>e=.returned (.int .i64 0)/\(∃ kV ko vs',aP w' B r bl c kV ko vs' ({ S with f3:=S.f3 - 1 }:St).flush.done own)/\aa w w' own own:=by
 have HD:=hid (Gh h);rw [show decide (S.f3=1)=false by simp [hf3]] at HD;have jB:=hid h.jK;have hcap:=h.cap;have htop:=h.ok.top;have hne0:=hlf;clear h;generalize hT:({ S with f3:=S.f3 - 1 }:St)=T at *;have htn:T.n=S.n:=by rw [<-hT]
 have htl:T.left=S.left:=by rw [<-hT]
 rw [<-htn] at hcap htop;rw [<-htl] at hne0;clear hT htn htl hlf hf3;go_enter Tryz.func25,Tryz.ntmps25;go_wp2_with fail;refine HD.out.mono ?_;rintro e w1 ⟨rfl,hg1,hl1⟩;have Ct:=hl1.r5;have hl0:(T.left == 0)=false:=by simp; exact hne0
 have HT1:=hid (aa.aA (own:=own) hg1 (λq e=>by cases e; exact jB.out)); have H1:=hid hl1; clear hg1 hl1;generalize hle:T.left=le at *;have sM:=hid hle; clear hle;go_wp2_with fail
 go_loopw [3] (λi wr=>∃ (j:Nat) (kV ko:Nat->Value) (vs':Nat->List Value),j<=T.n/\i=.int .i64 j/\aP wr B r bl c kV ko vs' (T.settles (List.range j)) own/\aa w1 wr own own) (λi _=>T.n - (Go.RowKit.intOf i).toNat)
 case atStart=>exact ⟨0,dv,vv,vs,by omega,rfl,H1.out,aa.refl _ _⟩
 case round =>
  obtain ⟨j,kV,ko,vs',hj,rfl,hl,ht⟩:=hrel;have hc0:=hl.rc;have hn:(T.settles (List.range j)).n=T.n:=(rQ T _).1;rw [hn] at hc0;have HL:=hid hl; have jQ:=hid ht; clear hl ht
  by_cases hlt:j < T.n
  · have Sm:j < (T.settles (List.range j)).n:=by omega
    have Cn:=O4 (S:=T) j;have ZR:=hid (λwx (hg:wr.grownBy wx none)=>(Mj (HL.out.grown hg (λ_ e=>by cases e)) j Sm));have vT:=hid (show wr.drew.cell? ⟨r,0,none⟩=some (.slice (some ⟨bl,0,none⟩) T.n c) by exact hc0);have Dg:=hid (ah wr none);have l7:=hid (show T.settles (List.range (j+1))=(T.settles (List.range j)).settle j by rw [List.range_succ,BI]);go_wp2_with fail
    go_region_held3 (λwx=>wx.cell? ⟨r,0,none⟩=some (.slice (some ⟨bl,0,none⟩) T.n c))
     (first
       | exact vT.out
       | exact nN.out
       | exact nk.out)
     (first
       | (go_at_call 72
          refine (ZR.out _ Dg.out).mono ?_;rintro e w2 ⟨v,rfl,hby,hg2⟩;have hl2:=HL.out.grown (Dg.out.trans hg2) (λ_ e=>by cases e);have nN:=hid (show w2.cell? ⟨r,0,none⟩=some (.slice (some ⟨bl,0,none⟩) T.n c) by rw [<-hn]; exact hl2.rc);have hset:=hl2.settle Sm hby;obtain ⟨g2,c2,rfl,_⟩:=hby.reads;have qB:=hset;rw [Cn] at qB;have yX:=hid (show aP _ B r bl c (upd kV j (.slice (some ⟨g2,0,none⟩) 256 c2)) (upd ko j (.slice none 0 0)) (upd vs' j []) (T.settles (List.range (j+1))) own by rw [l7.out,St.settle,Cn]; exact qB)
          clear qB;have nk:=hid (show ((w2.setCell ⟨bl,j * 2,none⟩ (.slice (some ⟨g2,0,none⟩) 256 c2)).setCell ⟨bl,j * 2+1,none⟩ (.slice none 0 0)).cell? ⟨r,0,none⟩=some (.slice (some ⟨bl,0,none⟩) T.n c) by rw [<-hn]; exact hset.rc);have hcd:=hl2.cd Sm; have hcv:=hl2.cv Sm; have hf0:=hl2.zu (j * 2); have hf1:=hl2.zu (j * 2+1);have HTX:=hid ((jQ.out.trans (aa.none_ (Dg.out.trans hg2))).trans (aa.aA (akd (akd (akr w2 (some bl)) (j * 2) (.slice (some ⟨g2,0,none⟩) 256 c2)) (j * 2+1) (.slice none 0 0)) (λq e=>by cases e; exact HL.out.og)))
          clear hl2 hset hby hg2))
    go_wp2_with fail
    go_roundw
    case rel=>exact ⟨j+1,_,_,_,by omega,by go_num,yX.out,HTX.out⟩
    case measure=>simp [Go.RowKit.intOf]; omega
  · obtain rfl:j=T.n:=by omega
    have hall:=KP H1.out.ok;rw [hall] at HL;have KH:=hid (Mo HL.out);go_wp2_with fail;refine KH.out.mono ?_;rintro e w9 ⟨rfl,qY,kP⟩;have sO:=hid kP; have zG:=hid ((HT1.out.trans jQ.out).trans (aa.aA qY (λq e=>by cases e; exact jB.out))); clear kP qY;go_wp2;go_ret;exact ⟨rfl,⟨kV,ko,vs',sO.out⟩,zG.out⟩
theorem IG {w:World} {B r bl c:Nat} {dv vv:Nat->Value} {vs:Nat->List Value} {S:St} {own:Nat->Prop} (h:aP w B r bl c dv vv vs S own) (hs:S.f3=1\/S.left=0) :
 Calls Tryz.prog 25 #[.pointer (some ⟨r,0,none⟩)] w λe w'=>e=.returned (.int .i64 12)/\aP w' B r bl c dv vv vs { S with f3:=S.f3 - 1 } own/\aa w w' own own:=by
 have HD:=hid (Gh h);have jB:=hid h.jK;clear h
 by_cases hf:S.f3=1
 · rw [show decide (S.f3=1)=true by simp [hf]] at HD;clear hs hf;generalize ({ S with f3:=S.f3 - 1 }:St)=T at *;go_enter Tryz.func25,Tryz.ntmps25;go_wp2_with fail;refine HD.out.mono ?_;rintro e w1 ⟨rfl,hg1,hl1⟩;have az:=hid hg1; have H1:=hid hl1; clear hg1 hl1;go_wp2;go_ret;exact ⟨rfl,H1.out,aa.aA az.out (λq e=>by cases e; exact jB.out)⟩
 · have hl0:S.left=0:=by rcases hs with h | h; exact absurd h hf; exact h
   rw [show decide (S.f3=1)=false by simp [hf]] at HD;have hleft:({ S with f3:=S.f3 - 1 }:St).left=0:=hl0;clear hs hf hl0;generalize ({ S with f3:=S.f3 - 1 }:St)=T at *;go_enter Tryz.func25,Tryz.ntmps25;go_wp2_with fail;refine HD.out.mono ?_;rintro e w1 ⟨rfl,hg1,hl1⟩;have Ct:=hl1.r5;rw [hleft] at Ct;have az:=hid hg1; have H1:=hid hl1; clear hg1 hl1 hleft;go_wp2;go_ret;exact ⟨rfl,H1.out,aa.aA az.out (λq e=>by cases e; exact jB.out)⟩
end Go.Proofs.YtinajlbijgedbaaGreat.Dsk
