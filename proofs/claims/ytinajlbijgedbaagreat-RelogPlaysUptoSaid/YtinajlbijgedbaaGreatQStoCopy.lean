/- Texts of this seat's proofs: StoCopy, StoCommit. -/
import Derived.Test.YtinajlbijgedbaaGreatQStoSmall
import Derived.Test.YtinajlbijgedbaaGreatQStoLatest
import Derived.Maps.RangeWalk
import Derived.Defers
import Derived.Deep.RegionHeld3
set_option maxRecDepth 100000
set_option maxHeartbeats 16000000
namespace Go.Proofs.YtinajlbijgedbaaGreat.Sto
open Lib (hid)
open Go.RowKit Go.Maps Go.Shelf CrcMath CodecMath Mem Crc Codec DiskSpec Dsk Sup Log
def mixed (Ds:DataW Value) (left:Lit->Bool) (fs fd:Nat->Option Value) (j:Nat):Option Value:=if (Maps.has Ds (eZ j) && !left (eZ j))=true then fs j else fd j
theorem Pv {Ds:DataW Value} {fs fd:Nat->Option Value}:mixed Ds (Maps.has Ds) fs fd=fd:=by
 funext j
 unfold mixed
 cases Maps.has Ds (eZ j) <;> rfl
theorem RO {Ds:DataW Value} {left:Lit->Bool} {fs fd:Nat->Option Value} {k:Nat} {c:Value} (hh:Maps.has Ds (eZ k)=true) (hf:fs k=some c) :
 (λj=>if j=k then some c else mixed Ds left fs fd j)=mixed Ds (λz=>left z && !z.sameKey (eZ k)) fs fd:=by
 funext j
 unfold mixed
 by_cases e:j=k
 · subst e;have hss:=WideAt.sameKey_self (IU j);rw [if_pos rfl,hh];simp only [hss,Bool.not_true,Bool.and_false,Bool.not_false,Bool.and_true];exact hf.symm
 · rw [if_neg e];have hne:(eZ j).sameKey (eZ k)=false:=by
    cases hh:(eZ j).sameKey (eZ k) with
    | false=>rfl
    | true=>exact absurd (M0 (WideAt.sameKey_eq hh)) e
   simp only [hne,Bool.not_false,Bool.and_true]
theorem aaM {Ds:DataW Value} {fs:Nat->Option Value} {n:Nat} {kl:Lit} {c:Value} (htd:Tidy Ds) (ha:∀ k z,Ds.atKey (eZ k) z=match fs k with | some v=>.held v | none=>z) (he:∀ p∈entriesOf Ds,∃ k,k < n/\p.1=eZ k)
 (hat:∀ zd,Ds.atKey kl zd=.held c):∃ k,k < n/\kl=eZ k/\fs k=some c/\Maps.has Ds (eZ k)=true:=by
 have hh:Maps.has Ds kl=true:=has_true_of_atKey hat;obtain ⟨es,rfl,_⟩:=htd;obtain ⟨p,hp1,hp2⟩:=List.any_eq_true.1 hh;obtain ⟨k,hk,h1⟩:=he p hp1;have e:=WideAt.sameKey_eq hp2;have hkl:kl=eZ k:=by rw [<-e,h1]
 subst hkl;refine ⟨k,hk,rfl,?_,hh⟩;have h2:=hat (.held (.bool true));have h3:=hat (.held (.bool false));rw [ha] at h2 h3
 cases hf:fs k with
 | none=>rw [hf] at h2 h3; simp only at h2 h3; rw [<-h2] at h3; cases h3
 | some v=>rw [hf] at h2; simp only [DataW.held.injEq] at h2; rw [h2]
theorem Wj {w:World} {bd bs:Nat} {fd fs:Nat->Option Value} (hd:dN Tryz.prog 3 w bd 1024 fd) (hs:dN Tryz.prog 3 w bs 1024 fs) (hne:bd≠bs) (jG:∀ k c,fs k=some c->∃ a A n m,c=.agg #[.int .i64 a,.slice A n m]) :
 Calls Tryz.prog 63 #[.map (some bd),.map (some bs)] w λe w'=>e=.returned (.tuple #[])/\dN Tryz.prog 3 w' bd 1024 (λj=>match fs j with | some v=>some v | none=>fd j)/\w.grownBy w' (some bd):=by
 obtain ⟨Ds,hso,hsa,hse⟩:=hs;have K:=int_keyed (k:=3) Tryz.underlying3;have HTD:=hid (hso.tidy K);have HA:=hid hsa; have HE:=hid hse; have Hw:=hid jG;have HD:=hid hd;have HS:=hid hso;have Io:=hid hd.lt;have rG:=hid hso.lt;clear hsa hse jG hd;go_enter Tryz.func63,Tryz.ntmps63
 go_wp2_with (first
  | (at_range; refine wpList_range_own _ rfl _ 100 rfl 3 72 K Tryz.underlying100 su bs (Maps.size Ds) _ rfl HS.out ?_; intro w0 hrg0 hg0 hs0)
  | go_in)
 go_frame
 go_loopw [4,5,8] (λ_ _ _ wr=>∃ (left:Lit->Bool) (cnt:Nat),wr.ranges Tryz.prog 3 su bs w.heap.size (Maps.size Ds) Ds left cnt/\dN Tryz.prog 3 wr bd 1024 (mixed Ds left fs fd)/\w.grownBy wr (some bd))
  (λ_ _ _ wr=>wr.rangeLeft bs w.heap.size)
 case atStart =>
  exact ⟨_,_,hrg0,by rw [Pv]; exact HD.out.of_block (hg0.block bd HD.out.lt (by simp)),iy hg0 _⟩
 case round =>
  obtain ⟨left,cnt,hrg,hout,hgw⟩:=hrel
  go_wp2_with (first
   | (at_next; refine wpList_next_ranges _ rfl _ rfl 3 K su id id (λkey _ _=>⟨key,rfl⟩) (λv _ _=>⟨v,rfl⟩) bs w.heap.size (Maps.size Ds) _ _ _ rfl hrg ?_ ?_)
   | go_in)
  · intro hc0 hl0;go_wp2
    go_end0
    refine ⟨rfl,?_,hgw⟩;have e:mixed Ds left fs fd=λj=>match fs j with | some v=>some v | none=>fd j:=by
     funext j
     unfold mixed;rw [hl0]
     cases hf:fs j with
     | none =>
       have hh:Maps.has Ds (eZ j)=false:=has_false_of_atKey (λz=>by rw [HA.out,hf]);rw [hh]; rfl
     | some v =>
       have hh:Maps.has Ds (eZ j)=true:=has_true_of_atKey (y:=.held v) (λz=>by rw [HA.out,hf]);rw [hh]; rfl
    rw [<-e];exact hout
  · intro x c kl yd yp w1 cnt1 hkey hlx hv hat hrg1 hlt hg1 hs1 hen;have hyd:yd=.held c:=by
     have:some (DataW.held c,([]:List MemPlace))=some (yd,yp):=hv
     injection this with this
     injection this with this
     exact this.symm
    subst hyd;obtain ⟨k,hk,rfl,hf,hh⟩:=aaM HTD.out HA.out HE.out hat;obtain ⟨z,rfl,hz,_⟩:=Maps.keyOf_int_inv Tryz.underlying3 hkey;obtain rfl:z=(k:Int):=by injection hz with _ hz; exact hz.symm
    obtain ⟨a,A,n,m,rfl⟩:=Hw.out k c hf;have hga:=aj9 w1 (.cells #[.int .i64 a,.slice A n m] 72) none;have hout1:=hout.of_block (hg1.block bd hout.lt (λe=>by have:=Io.out; cases e; omega));have hout2:=hout1.of_block (hga.block bd hout1.lt (by simp));obtain ⟨w3,hr3,sj,hg3⟩:=hout2.store (t:=100) (E:=72) Tryz.underlying3 Tryz.underlying100 k hk (by omega) (by simp [maxLen]) (.agg #[.int .i64 a,.slice A n m])
    rw [RO hh hf] at sj;have qo:=hid sj;have aZ:=hid hg3;have ac3:=hid ((hrg1.kept hga (by simp) (by simp)).kept hg3 (λe=>hne (by cases e; rfl)) (λe=>by have:=Io.out; cases e; omega));have gM:=hid hga;clear sj hg3 hga hout1 hout2;go_wp2_with fail
    go_roundw
    case rel=>exact ⟨_,cnt1,ac3.out,qo.out,((hgw.andThen hg1 (λj hj=>.inl (by cases hj; exact akf _))).trans (iy gM.out _)).trans aZ.out⟩
    case measure=>rw [ac3.out.left_eq,hrg.left_eq]; exact hlt
theorem aao {w:World} {P:Nat->Prop} {v:Value} {p:Pg} (h:rA w P v p):∃ a A n m,v=.agg #[.int .i64 a,.slice A n m]:=by
 obtain ⟨bv,rfl,A,n,c,rfl,_⟩:=h;exact ⟨_,_,_,_,rfl⟩
theorem UH {w:World} {P:Nat->Prop} {dm m:Nat} {D U:aK} (hd:dE w P dm D) (hu:dE w P m U) (hne:dm≠m) (hP:P dm) :
 Calls Tryz.prog 63 #[.map (some dm),.map (some m)] w λe w'=>e=.returned (.tuple #[])/\dE w' P dm (over D U)/\w.grownBy w' (some dm):=by
 obtain ⟨fd,hdm,hdv⟩:=hd.m;obtain ⟨fu,hum,huv⟩:=hu.m;refine (Wj hdm hum hne (λk c hk=>?_)).mono ?_
 · rcases huv k with ⟨_,e⟩ | ⟨p,v,_,e,hv⟩
   · rw [hk] at e; cases e
   · rw [hk] at e; cases e; exact aao hv
 · rintro e w' ⟨rfl,h1,h2⟩;have ht:aa w w' P P:=.aA h2 (λj e=>by cases e; exact hP);refine ⟨rfl,⟨⟨_,h1,λk=>?_⟩,hd.ok.over hu.ok⟩,h2⟩;rcases huv k with ⟨e1,e2⟩ | ⟨p,v,e1,e2,hv⟩
   · rw [e2];unfold over;rw [e1];rcases hdv k with ⟨e3,e4⟩ | ⟨p,v,e3,e4,hv⟩
     · exact .inl ⟨e3,e4⟩
     · exact .inr ⟨p,v,e3,e4,hv.turn ht⟩
   · rw [e2];unfold over;rw [e1];exact .inr ⟨p,v,rfl,rfl,hv.turn ht⟩
theorem aaN (s:Sto):(bG s).2.W=s.W:=by
 have h1:∀ (s:Sto) (T:St),(jZ s T).2.W=s.W:=λs T=>by
  have h:∀ R:Int × St,(if R.1=0 then ((0,{ s with S:=R.2,L:=s.L.drop,x:=s.past,D:=aM }):Int × Sto) else (R.1,s.disk R.2)).2.W=s.W:=λR=>by split <;> rfl
  rw [jZ]; exact h (ay T s.past.l)
 have h2:∀ (s:Sto) (T:St),(iU s T).2.W=s.W:=λs T=>by
  rw [iU];generalize bn T s.D=R
  split
  · exact h1 _ _
  · rfl
 unfold bG;generalize keys s.D=ks
 split
 · rfl
 · split
   · rfl
   · split
     · exact h2 _ _
     · rfl
theorem Tk (s:Sto) (l:List ax):(bN s l).2.W=s.W:=by
 have h1:∀ s:Sto,(fB s l).2.W=s.W:=λ_=>rfl
 unfold bN;generalize hR:fB s l=R;have Zq:R.2.W=s.W:=by rw [<-hR]; rfl
 split
 · have hq:=aaN R.2;generalize bG R.2=Q at *;unfold iI
   split
   · exact hq.trans Zq
   · split
     · exact (h1 _).trans (hq.trans Zq)
     · exact hq.trans Zq
 · exact Zq
section
variable {Z:Nat->Prop} {w w' wr:World} {B b tb g sb dm:Nat} {wm:Option Nat} {own own' bV:Nat->Prop} {s:Sto}
theorem ug (u:FrameMode) (h:bf Z w B b tb g sb dm wm own s):CallsD Tryz.prog 61 #[.pointer (some ⟨sb,0,none⟩)] u w λe u' w'=>u'=u/\(e=.returned (.tuple #[])/\w'=w.setCell ⟨sb,11,none⟩ (.map none)):=by
 obtain ⟨_,_,_,_,_,_,_,_,_,_,_,c11⟩:=h.cells;have f11:=h.fz 11;clear h
 go_enter_d Tryz.func61,Tryz.ntmps61
 go_wp2
 go_end0
 exact ⟨rfl,rfl⟩
def TH (Z:Nat->Prop) (w:World) (B b tb g sb dm:Nat) (wm:Option Nat) (own:Nat->Prop) (r:Int × Sto) (e:Ending) (w':World):Prop :=
 e=.returned (.int .i64 r.1)/\∃ own',bf Z w' B b tb g sb dm none own' r.2/\aa w w' (aD own tb g sb dm wm) (aD own' tb g sb dm none)
theorem F4 (h:bf Z w B b tb g sb dm wm own s) (hroom:∀ i,(s.S.ae i).length < 549755600000) :
 Calls Tryz.prog 19 #[.pointer (some ⟨sb,0,none⟩)] w (TH Z w B b tb g sb dm wm own (dh s)):=by
 have hu:=ma h;have H:=hid h;have bB:=hid hroom;obtain ⟨R0,hR0⟩:∃ r,dh s=r:=⟨_,rfl⟩;rw [hR0];unfold dh at hR0
 cases hW:s.W with
 | none =>
   rw [hW] at hu hR0;simp only [Option.isSome_none] at hu;have HU:=hid hu;clear hu;have fA:=hid hR0.symm;have HWM:=hid (h.n hW);clear hR0 h hroom
   go_enter_defers Tryz.func19,Tryz.ntmps19
   go_wp2_with fail;refine HU.out.mono ?_;rintro e w1 ⟨rfl,rfl⟩;go_wp2_with fail;refine ⟨_,results_tmp rfl _ _ _,?_⟩;rw [fA.out];have Nf:=HWM.out;subst Nf;exact ⟨rfl,own,H.out,aa.refl _ _⟩
 | some U =>
   rw [hW] at hu hR0;simp only [Option.isSome_some] at hu;have HU:=hid hu;clear hu;have fA:=hid hR0.symm;obtain ⟨m,Nf,hm⟩:=h.u U hW;subst Nf;obtain ⟨_,_,_,_,_,_,_,_,_,_,_,c11⟩:=h.cells;have hsz:=λty=>hm.size ty
   have ng:=hid (show (keys U).length=0↔keys U=[] from List.length_eq_zero_iff);have sS:=hid (Ri h hW hroom);have HAW:=hid ((Tk s (rising U)).trans hW);clear hR0 h hroom hm;generalize hK:(keys U).length=K at *
   go_enter_defers Tryz.func19,Tryz.ntmps19
   go_wp2_with fail;refine HU.out.mono ?_;rintro e w1 ⟨rfl,rfl⟩
   by_cases hk:K=0
   · have hki:((K:Int) == 0)=true:=by simp; omega
     go_wp2_with fail;refine leaves_cons (f:=61) (args:=#[.pointer (some ⟨sb,0,none⟩)]) (by simp) (by simp [go_sem]) ?_;refine (ug .returning H.out).mono ?_;rintro e u' w'' ⟨rfl,rfl,rfl⟩;refine ⟨_,results_tmp rfl _ _ _,?_⟩;rw [fA.out,if_pos (ng.out.1 hk)];exact ⟨rfl,own,H.out.Dv.1,H.out.Dv.2⟩
   · have hki:((K:Int) == 0)=false:=by simp; omega
     have HR1:=hid (show R0=uD U (bN s (rising U)) from fA.out.trans (if_neg (λe=>hk (ng.out.2 e))));clear fA;generalize bN s (rising U)=R1 at *;obtain ⟨e1,s1⟩:=R1;go_wp2_with fail;refine sS.out.mono ?_;rintro e w2 ⟨rfl,bV,h2,ht2⟩;have hs1:=HAW.out;have h2':bf Z w2 B b tb g sb dm (some m) bV s1:=h2;have HT1:=hid ht2;have hd2:=h2'.quiet (ah w2 none);have HT2:=hid (ht2.trans (aa.none_ (ah w2 none)))
     obtain ⟨m',em,hm2⟩:=hd2.u U hs1;obtain rfl:m=m':=by injection em
     have HC:=hid (UH hd2.d hm2 (λe=>(hd2.vM m rfl).2.2 e.symm) (.inl (.inr (.inr (.inl rfl)))));have HS2:=hid h2';have H2:=hid hd2;have hkeep:∀ (wx:World) (t:Sto),bf Z wx B b tb g sb dm (some m) bV t->wx.cell? ⟨sb,10,none⟩=some (.map (some dm))/\wx.cell? ⟨sb,11,none⟩=some (.map (some m)):=λwx t ht=>by
      obtain ⟨_,_,_,_,_,_,_,_,_,_,c10,c11⟩:=ht.cells;exact ⟨c10,c11⟩
     have av:=hid hkeep;clear h2 h2' ht2 hd2 em hm2 sS hkeep hs1
     by_cases h0:e1=0
     · subst h0;have HR2:=hid (show R0=(0,{ s1 with D:=over s1.D U,W:=none }) from HR1.out.trans (if_pos rfl));clear HR1 c11 hsz;go_wp2_with fail
       go_region_held3 (λwx=>wx.cell? ⟨sb,10,none⟩=some (.map (some dm))/\wx.cell? ⟨sb,11,none⟩=some (.map (some m)))
        (first
          | exact av.out _ _ H2.out
          | exact av.out _ _ H3.out.1)
        (first
          | (go_at_call 63
             (with_reducible refine HC.out.mono ?_)
             rintro e w3 ⟨rfl,sj,hg3⟩;have H3:=hid (H2.out.cleared hg3 sj);clear sj hg3))
       go_wp2_with fail;refine leaves_cons (f:=61) (args:=#[.pointer (some ⟨sb,0,none⟩)]) (by simp) (by simp [go_sem]) ?_;refine (ug .returning H3.out.1).mono ?_;rintro e u' w'' ⟨rfl,rfl,rfl⟩;refine ⟨_,results_tmp rfl _ _ _,?_⟩;rw [HR2.out];exact ⟨rfl,bV,H3.out.1.Dv.1,(HT2.out.trans H3.out.2).trans H3.out.1.Dv.2⟩
     · have Ke:(e1 == 0)=false:=by simpa using h0
       have HR2:=hid (show R0=(e1,s1.idle) from HR1.out.trans (if_neg h0));clear HR1 h0 c11 hsz;go_wp2_with fail;refine leaves_cons (f:=61) (args:=#[.pointer (some ⟨sb,0,none⟩)]) (by simp) (by simp [go_sem]) ?_;refine (ug .returning HS2.out).mono ?_;rintro e u' w'' ⟨rfl,rfl,rfl⟩;refine ⟨_,results_tmp rfl _ _ _,?_⟩;rw [HR2.out];exact ⟨rfl,bV,HS2.out.Dv.1,HT1.out.trans HS2.out.Dv.2⟩
end
end Go.Proofs.YtinajlbijgedbaaGreat.Sto
