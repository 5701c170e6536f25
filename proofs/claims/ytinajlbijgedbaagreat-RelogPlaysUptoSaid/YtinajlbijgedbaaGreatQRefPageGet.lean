/- Texts of this seat's proofs: RefPageGet, RefImageGet, RefHead. -/
import Derived.Test.YtinajlbijgedbaaGreatQRefPage
import Derived.Test.YtinajlbijgedbaaGreatQRefNode
import Derived.Test.YtinajlbijgedbaaGreatQStructs
import Derived.Test.YtinajlbijgedbaaGreatQI64
import Derived.IntWalk
namespace Go.Proofs.YtinajlbijgedbaaGreat.Codec
open Go.RowKit CrcMath CodecMath Mem Crc
theorem NW {w:World} {b c:Nat} {A:Option Addr} {l:List Nat} (h:Bytes w b A 256 l) (_hc:256<=c) :
 ∃ g o,A=some ⟨g,o,none⟩/\Bytes w b (some ⟨g,o+12,none⟩) 240 (fq l):=by
 obtain ⟨hlen,hlt,hc⟩:=h;obtain ⟨g,o,rfl,hg,hne,hcell⟩:=hc (by omega);refine ⟨g,o,rfl,by simp [fq]; omega,λx hx=>hlt x (List.mem_of_mem_drop (akq hx)),λ_=>⟨g,o+12,rfl,hg,hne,λj hj=>?_⟩⟩;rw [show o+12+j=o+(12+j) from by omega,hcell (12+j) (by omega)]
 congr 3
 simp [fq,akg,hj]
end Go.Proofs.YtinajlbijgedbaaGreat.Codec
set_option maxRecDepth 100000
set_option maxHeartbeats 16000000
namespace Go.Proofs.YtinajlbijgedbaaGreat.Codec
open Lib (hid)
open Go.RowKit CrcMath CodecMath Mem Crc
def Wx (w:World) (r:Option (Int × Int × Int × Int × List Nat)) (e:Ending) (w':World):Prop :=
 w.grownBy w' none/\((∃ ak seq number kind body v,r=some (ak,seq,number,kind,body)/\e=.returned (.tuple #[.int .i64 ak,.int .i64 seq,.agg #[.int .i64 number,.int .i64 kind,v],.bool true])/\Own w' w.heap.size 5 1 v body.length (au body)/\∀ x∈body,x < 256) \/
  (r=none/\e=.returned (.tuple #[.int .i64 0,.int .i64 0,.agg #[.int .i64 0,.int .i64 0,.slice none 0 0],.bool false])))
theorem KY (b:Nat) (A:Option Addr) (n c:Nat) (l:List Nat) (w:World) (hl:Bytes w b A n l) (hn:n<=9223372036854775807) (hnc:n<=c) :
 Calls Tryz.prog 121 #[.slice A n c] w (Wx w (fe l)):=by
 obtain ⟨i0,hi0,hz0,hz1,hz2⟩:=info_parts gD;have hi:=hid hi0; have z0:=hid hz0; have z1:=hid hz1; have z2:=hid hz2; clear hi0 hz0 hz1 hz2;have hr:fe l=if dW (num l 3 4) (num l 7 5) (num l 1 2) (num l 0 1) (fq l)=some l then some ((num l 3 4:Int),(num l 7 5:Int),(num l 1 2:Int),(num l 0 1:Int),fq l) else none:=rfl;have HR:=hid hr; clear hr;have bK:=hid hl.2.1;have HLEN:=hid hl.1;have hg0:=aj9 w (.cells #[.int .i64 0,.int .i64 0,.slice none 0 0] 90) none
 have HL2:=hid (bP hl hg0);have HZ2:=hid (af.new w 90 #[.int .i64 0,.int .i64 0,.slice none 0 0]);have HG2:=hid hg0;have j3:=hid hl;clear hl hg0;have HW1:=hid (gy l 1 2 bK.out (by omega)).1;have HW2:=hid (gy l 0 1 bK.out (by omega)).1;have HW3:=hid (gy l 3 4 bK.out (by omega)).1;have WB:=hid (gy l 7 5 bK.out (by omega)).1;generalize fe l=r at *
 by_cases lC:n=256
 case neg =>
  have hne:(((n:Nat):Int) != 256)=true:=by simp; omega
  have hnw:dW (num l 3 4) (num l 7 5) (num l 1 2) (num l 0 1) (fq l)≠some l:=λe=>lC (by have:=GD e; rw [HLEN.out] at this; exact this)
  have mi:=hid hnw; clear hnw;go_enter Tryz.func121,Tryz.ntmps121;go_wp2_with fail
  first
   | exact mF rfl w.heap.size 90 _ _ rfl HZ2.out Tryz.underlying90 rfl (by kernel_rfl) rfl ⟨HG2.out,.inr ⟨by rw [HR.out,if_neg mi.out],rfl⟩⟩
   | (refine mF rfl w.heap.size 90 _ _ rfl (af.zR HZ2.out) Tryz.underlying90 rfl (by kernel_rfl) rfl ⟨?_,.inr ⟨by rw [HR.out,if_neg mi.out],rfl⟩⟩
      repeat (refine bC ?_ (akf _) _)
      exact HG2.out)
 subst lC;go_enter Tryz.func121,Tryz.ntmps121;go_wp2_with fail;refine (eQ b A 256 c l 1 2 _ HL2.out (by omega)).mono ?_;rintro e w3 ⟨rfl,rfl⟩;rw [HW1.out];go_wp2_with fail;refine (eQ b A 256 c l 0 1 _ HL2.out (by omega)).mono ?_;rintro e w3 ⟨rfl,rfl⟩;rw [HW2.out];obtain ⟨g,o,rfl,hbb⟩:=NW HL2.out hnc;have pU:=hid hbb; clear hbb;have aiQ:(252:Int)<=c:=by omega
 have ai9:¬ c=12:=by omega
 go_upto_region 4 with fail;have hb1:af ((w.alloc (.cells #[.int .i64 0,.int .i64 0,.slice none 0 0] 90)).alloc (.cells #[.int .i64 ((num l 1 2:Nat):Int),.int .i64 ((num l 0 1:Nat):Int),.slice none 0 0] 90)) (w.heap.size+1) 90 #[.int .i64 ((num l 1 2:Nat):Int),.int .i64 ((num l 0 1:Nat):Int),.slice none 0 0]:=by simpa using af.new (w.alloc (.cells #[.int .i64 0,.int .i64 0,.slice none 0 0] 90)) 90 #[.int .i64 ((num l 1 2:Nat):Int),.int .i64 ((num l 0 1:Nat):Int),.slice none 0 0]
 have hk2:=hb1.cell 2;have agk:=hb1.frozen 2;simp only [akb,aka,akc] at hk2;have fD:=hid hb1; clear hb1;have HGw:=hid (HG2.out.trans (aj9 (w.alloc (.cells #[.int .i64 0,.int .i64 0,.slice none 0 0] 90)) (.cells #[.int .i64 ((num l 1 2:Nat):Int),.int .i64 ((num l 0 1:Nat):Int),.slice none 0 0] 90) none));have zL:=hid (aj9 (w.alloc (.cells #[.int .i64 0,.int .i64 0,.slice none 0 0] 90)) (.cells #[.int .i64 ((num l 1 2:Nat):Int),.int .i64 ((num l 0 1:Nat):Int),.slice none 0 0] 90) none)
 have HZa:=hid (HZ2.out.alloc (.cells #[.int .i64 ((num l 1 2:Nat):Int),.int .i64 ((num l 0 1:Nat):Int),.slice none 0 0] 90))
 go_cut [6] (λs6 wx=>∃ v:Value,s6=.pointer (some ⟨w.heap.size+1,0,none⟩)/\af wx (w.heap.size+1) 90 #[.int .i64 ((num l 1 2:Nat):Int),.int .i64 ((num l 0 1:Nat):Int),v]/\Own wx (w.heap.size+2) 5 1 v 240 (au (fq l))/\w.grownBy wx none/\af wx w.heap.size 90 #[.int .i64 0,.int .i64 0,.slice none 0 0])
 case first =>
  go_region_law (first
   | (refine rP _ rfl (.tmp 23) (.tmp 25) _ rfl (w.heap.size+2) 5 i0 _ 1 1 Tryz.underlying65 hi.out z0.out z1.out z2.out rfl (by omega) (.slice none 0 0) 0 [] (by rfl) (Own.nil _ _ _ _)
       _ (some ⟨g,o+12,none⟩) 240 _ (au (fq l)) (by rfl) (wH (bP pU.out zL.out)).reads (fO _) (by simp only [maxLen]; omega) (by omega) (by simp) ?_
      intro v' w' hown' dC;obtain ⟨A2,c2,hv2,_,_,_⟩:=hown'.shape;subst hv2;have hb1:=fD.out.drew.grown dC.1 (by simp [Value.ownBlock]);have hc1':=hb1.cell 2;have agu:=hb1.frozen 2;simp only [akb,aka,akc] at hc1';have Y6:=hid hb1;have HZ':=hid (HZa.out.drew.grown dC.1 (by simp [Value.ownBlock]));have kr:=hid hown'; have TD:=hid dC; clear hown' dC hb1))
  all_goals
   go_wp2_with fail;go_meet;exact ⟨_,rfl,Y6.out.aC 2 _,Own.jw kr.out (by omega) _,bC (aI ((HGw.out).trans (ah _ none)) TD.out.1 (λj hj=>by simp [Value.ownBlock] at hj)) (by omega) _,HZ'.out.far (by simp) _⟩
 case rest =>
  obtain ⟨v,rfl,hbk,hov,hgw,hzz⟩:=hcut;obtain ⟨A2,c2,rfl,hbody,hc2,hm2⟩:=nZ hov (λx hx=>pU.out.2.1 x hx);have OQ:=hid hbk; have QY:=hid hov; have aev:=hid hbody;have HZ3:=hid hzz; have aZ:=hid hgw; have kX:=hid (bP j3.out hgw);clear hgw hov hbody hbk hk2 agk hzz;have hk0:=OQ.out.cell 0;have hk1:=OQ.out.cell 1;have hk2:=OQ.out.cell 2;have hkl:=OQ.out.lt;simp only [akb,aka,akc] at hk0 hk1 hk2
  have hbl:(fq l).length=240:=pU.out.1;have vC:=hid hbl; clear hbl;go_wp2_with fail;refine (eQ b (some ⟨g,o,none⟩) 256 c l 3 4 _ kX.out (by omega)).mono ?_;rintro e w3 ⟨rfl,rfl⟩;rw [HW3.out];go_wp2_with fail;refine (eQ b (some ⟨g,o,none⟩) 256 c l 7 5 _ kX.out (by omega)).mono ?_;rintro e w3 ⟨rfl,rfl⟩;rw [WB.out];go_wp2_with fail;refine (AZ _ ((num l 3 4:Nat):Int) ((num l 7 5:Nat):Int) ((num l 1 2:Nat):Int) ((num l 0 1:Nat):Int) A2 240 c2 (fq l) _ aev.out).mono ?_
  rintro e w4 ⟨hg4,⟨l',v4,qi,rfl,uA,agh⟩ | ⟨qi,rfl⟩⟩
  · obtain ⟨A4,c4,rfl,hb4,_,zy⟩:=nZ uA agh;have hl4:l'.length<=9223372036854775807:=by simp only [maxLen] at zy; omega
    have jJ:=hid hb4; have lL:=hid qi;have HL4:=hid (bP kX.out hg4); have cB:=hid (aZ.out.trans hg4);have ahf:=hid (OQ.out.grown hg4 (by simp)); have HZ4:=hid (HZ3.out.grown hg4 (by simp)); have agU:=hid (QY.out.keep hg4 (by simp));clear hb4 qi uA hg4 hk0 hk1 hk2 hkl
    cases hd:decide (l'=l) with
    | true =>
      have HD2:=hid hd; clear hd;go_wp2_with fail;refine (tJ _ _ A4 (some ⟨g,o,none⟩) _ 256 c4 c l' l _ jJ.out HL4.out hl4 hn).mono ?_;rintro e w5 ⟨rfl,hdr⟩;have hg5:=lF hdr none;have fP:=hid (cB.out.trans hg5);have oN:=hid (HZ4.out.grown hg5 (by simp)); have agT:=hid (agU.out.keep hg5 (by simp));have NB:=ahf.out.grown hg5 (by simp);have hk0:=NB.cell 0;have hk1:=NB.cell 1;have hk2:=NB.cell 2;have hkl:=NB.lt
      have y0:=oN.out.cell 0;have yf0:=oN.out.frozen 0;have y1:=oN.out.cell 1;have yf1:=oN.out.frozen 1;have y2:=oN.out.cell 2;have yf2:=oN.out.frozen 2;simp only [akb,aka,akc] at hk0 hk1 hk2 y0 y1 y2;clear hdr hg5 NB;rw [HD2.out];go_wp2_with fail
      go_region
      all_goals
       go_wp2_with fail;refine mF rfl w.heap.size 90 _ _ rfl (af.zR oN.out.drew) Tryz.underlying90 rfl (by kernel_rfl) rfl ⟨?_,.inl ⟨_,_,_,_,fq l,_,?_,rfl,?_,λx hx=>pU.out.2.1 x hx⟩⟩
       · refine World.grownBy.trans ?_ (ah _ none)
         repeat (refine bC ?_ (akf _) _)
         exact fP.out
       · have hl:=of_decide_eq_true HD2.out;subst hl;rw [HR.out,if_pos lL.out]
       · rw [vC.out];exact (Own.jw (Own.jw (Own.jw agT.out.drew (by omega) _) (by omega) _) (by omega) _).low (by omega)
    | false =>
      have HD2:=hid hd; clear hd;go_wp2_with fail;refine (tJ _ _ A4 (some ⟨g,o,none⟩) _ 256 c4 c l' l _ jJ.out HL4.out hl4 hn).mono ?_;rintro e w5 ⟨rfl,hdr⟩;have hg5:=lF hdr none;have fP:=hid (cB.out.trans hg5);have oN:=hid (HZ4.out.grown hg5 (by simp));have y0:=oN.out.cell 0;have yf0:=oN.out.frozen 0;have y1:=oN.out.cell 1;have yf1:=oN.out.frozen 1;have y2:=oN.out.cell 2;have yf2:=oN.out.frozen 2
      simp only [akb,aka,akc] at y0 y1 y2;clear hdr hg5;rw [HD2.out];go_wp2_with fail;refine mF rfl w.heap.size 90 _ _ rfl (af.zR oN.out) Tryz.underlying90 rfl (by kernel_rfl) rfl ⟨?_,.inr ⟨?_,rfl⟩⟩
      · repeat (refine bC ?_ (akf _) _)
        exact fP.out
      · have hl:=of_decide_eq_false HD2.out;rw [HR.out,if_neg (by rw [lL.out]; simpa using hl)]
  · have cB:=hid (aZ.out.trans hg4); have lL:=hid qi;have oN:=hid (HZ3.out.grown hg4 (by simp));have y0:=oN.out.cell 0;have yf0:=oN.out.frozen 0;have y1:=oN.out.cell 1;have yf1:=oN.out.frozen 1;have y2:=oN.out.cell 2;have yf2:=oN.out.frozen 2;simp only [akb,aka,akc] at y0 y1 y2;clear hg4 qi hk0 hk1 hk2 hkl;go_wp2_with fail;refine mF rfl w.heap.size 90 _ _ rfl (af.zR oN.out) Tryz.underlying90 rfl (by kernel_rfl) rfl ⟨?_,.inr ⟨?_,rfl⟩⟩
    · repeat (refine bC ?_ (akf _) _)
      exact cB.out
    · rw [HR.out,if_neg (by rw [lL.out]; simp)]
theorem VF {ak seq:Int} {pages:List Int} {sum:Nat} (h:dA ak 1099511627776=false):headW ak seq pages sum=none:=by
 rw [headW,if_neg (λhh=>M5 h (iM hh).1)]
theorem VE {ak seq:Int} {pages:List Int} {sum:Nat} (h:dA seq 1099511627776=false):headW ak seq pages sum=none:=by
 rw [headW,if_neg (λhh=>M5 h (iM hh).2.1)]
theorem VD {ak seq:Int} {pages:List Int} {sum:Nat} (h:pages.length < 1\/40 < pages.length):headW ak seq pages sum=none:=by
 rw [headW,if_neg (λhh=>by have:=iM hh; omega)]
theorem VC {ak seq:Int} {pages:List Int} {sum:Nat} (j:Nat) (hj:j < pages.length) (h:dA (pages.getD j 0) 1023=false):headW ak seq pages sum=none:=by
 rw [headW,if_neg (λhh=>by have:=(iM hh).2.2.2.2; rw [QG j hj h] at this; cases this)]
theorem VB {ak seq:Int} {pages:List Int} {sum:Nat} (n:Nat) (he:dA ak 1099511627776=true) (hs:dA seq 1099511627776=true) (hn:pages.length=n) (h1:1<=n) (gB:n<=40) (h:∀ j,j < n->dA (pages.getD j 0) 1023=true) :
 headW ak seq pages sum=some (frame (jh ak seq pages sum)):=by
 have:mV ak seq pages=true:=by
  simp only [mV,Bool.and_eq_true,decide_eq_true_eq];exact ⟨⟨⟨he,hs⟩,by omega,by omega⟩,QH n hn h⟩
 rw [headW,if_pos this]
theorem BO (b:Nat) (ak seq:Int) (A:Option Addr) (n c:Nat) (pages:List Int) (sum:Nat) (w:World) (hp:Ints w b A n pages) (hsum:sum < 4294967296) :
 Calls Tryz.prog 119 #[.agg #[.int .i64 ak,.int .i64 seq,.slice A n c,.int .u32 ((sum:Nat):Int)]] w (Wrote w (headW ak seq pages sum)):=by
 have vR:=hid hp.1;have bz:=hid (aj9 w (.cells #[.int .i64 ak,.int .i64 seq,.slice A n c,.int .u32 ((sum:Nat):Int)] 130) none);have HP:=hid hp; clear hp
 cases hib:dA ak 1099511627776 with
 | false =>
   have bD:=hid (VF (seq:=seq) (pages:=pages) (sum:=sum) hib);have jI:=hid hib; clear hib;go_enter Tryz.func119,Tryz.ntmps119;go_wp2_with fail;refine (iK ak _ _).mono ?_;rintro e w2 ⟨rfl,rfl⟩;rw [jI.out];go_wp2;go_ret2;exact ⟨bz.out,.inr ⟨bD.out,rfl⟩⟩
 | true =>
 cases pX:dA seq 1099511627776 with
 | false =>
   have bD:=hid (VE (ak:=ak) (pages:=pages) (sum:=sum) pX);have jI:=hid hib; have yY:=hid pX; clear hib pX;go_enter Tryz.func119,Tryz.ntmps119;go_wp2_with fail;refine (iK ak _ _).mono ?_;rintro e w2 ⟨rfl,rfl⟩;rw [jI.out];go_wp2_with fail;refine (iK seq _ _).mono ?_;rintro e w2 ⟨rfl,rfl⟩;rw [yY.out];go_wp2;go_ret2;exact ⟨bz.out,.inr ⟨bD.out,rfl⟩⟩
 | true =>
 by_cases hn:n < 1\/40 < n
 · have bD:=hid (VD (ak:=ak) (seq:=seq) (pages:=pages) (sum:=sum) (by rw [vR.out]; exact hn));have jI:=hid hib; have yY:=hid pX; clear hib pX;rcases hn with hn | hn
   all_goals
    go_enter Tryz.func119,Tryz.ntmps119;go_wp2_with fail;refine (iK ak _ _).mono ?_;rintro e w2 ⟨rfl,rfl⟩;rw [jI.out];go_wp2_with fail;refine (iK seq _ _).mono ?_;rintro e w2 ⟨rfl,rfl⟩;rw [yY.out];go_wp2;go_ret2;exact ⟨bz.out,.inr ⟨bD.out,rfl⟩⟩
 obtain ⟨e0,e1⟩:=gH hib;obtain ⟨s0,s1⟩:=gH pX;have hn1:1<=n:=by omega
 have Yb:n<=40:=by omega
 clear hn;obtain ⟨ep,rfl⟩:=Int.eq_ofNat_of_zero_le e0;obtain ⟨sq,rfl⟩:=Int.eq_ofNat_of_zero_le s0;have jI:=hid hib; have yY:=hid pX; clear hib pX;have kc:=vY;have kd:=DY;have hoc:Own ((w.alloc (.cells #[.int .i64 (ep:Int),.int .i64 (sq:Int),.slice A n c,.int .u32 ((sum:Nat):Int)] 130)).alloc (.cells #[.int .u8 80,.int .u8 76,.int .u8 79,.int .u8 71] 5 (4,5))).drew w.heap.size 5 1 (.slice (some ⟨w.heap.size+1,0,none⟩) 4 4) 4 (au [80,76,79,71]):=by
  have h:=Ce (w.alloc (.cells #[.int .i64 (ep:Int),.int .i64 (sq:Int),.slice A n c,.int .u32 ((sum:Nat):Int)] 130)) w.heap.size 4 #[.int .u8 80,.int .u8 76,.int .u8 79,.int .u8 71] [80,76,79,71] rfl rfl (by simp [maxLen]) (by simp)
  simpa using h.drew
 have HOC:=hid hoc; clear hoc;have OO:=hid (((af.new w 130 #[.int .i64 (ep:Int),.int .i64 (sq:Int),.slice A n c,.int .u32 ((sum:Nat):Int)]).alloc (.cells #[.int .u8 80,.int .u8 76,.int .u8 79,.int .u8 71] 5)).drew);have jf:=hid (((af.new w 130 #[.int .i64 (ep:Int),.int .i64 (sq:Int),.slice A n c,.int .u32 ((sum:Nat):Int)]).alloc (.cells #[.int .u8 80,.int .u8 76,.int .u8 79,.int .u8 71] 5 (4,5))).drew)
 have az:=hid ((bz.out.trans (aj9 _ (.cells #[.int .u8 80,.int .u8 76,.int .u8 79,.int .u8 71] 5 (4,5)) none)).trans (ah _ none));have abI:=IntWalk.i64_in ((sum:Nat):Int) (by omega);have ajh:=hid abI; clear abI;go_enter Tryz.func119,Tryz.ntmps119;go_wp2_with fail;refine (iK (ep:Int) _ _).mono ?_;rintro e w2 ⟨rfl,rfl⟩;rw [jI.out];go_wp2_with fail;refine (iK (sq:Int) _ _).mono ?_;rintro e w2 ⟨rfl,rfl⟩
 rw [yY.out];go_upto_region 3 with fail
 go_cut [4] (λs4 wx=>Own wx w.heap.size 5 1 s4 20 (au ([80,76,79,71] ++ be 8 ep ++ be 8 sq))/\w.grownBy wx none/\wx.cell? ⟨w.heap.size,2,none⟩=some (.slice A n c)/\wx.cell? ⟨w.heap.size,3,none⟩=some (.int .u32 ((sum:Nat):Int))/\s4.ownBlock≠some w.heap.size)
 case first =>
  refine wp_region_held_drew (S:=λw'=>w'.cell? ⟨w.heap.size,0,none⟩=some (.int .i64 ep)/\w'.cell? ⟨w.heap.size,1,none⟩=some (.int .i64 sq)) (by kernel_rfl) ?_ (λhHeld=>?_)
  · have h:=((af.new w 130 #[.int .i64 (ep:Int),.int .i64 (sq:Int),.slice A n c,.int .u32 ((sum:Nat):Int)]).drew);exact ⟨h.cell 0,h.cell 1⟩
  refine wpAnyH_take (i:=2) (v:=.pointer (some ⟨w.heap.size,0,none⟩)) rfl (by kernel_rfl) (by kernel_rfl) (by kernel_rfl) (λ_ _ _ h=>h) (Or.inl ⟨by rfl,?_⟩) (by assumption) ?_
  · intro w1 hSw; (try dsimp only at hSw); go_simp
  simp only [Act.put,aj6,aj5,aj4,aj3,aj7,aj8];refine wpAnyH_take (i:=3) (v:=.int .i64 ep) rfl (by kernel_rfl) (by kernel_rfl) (by kernel_rfl) (λ_ _ _ h=>h) (Or.inl ⟨by rfl,?_⟩) (by assumption) ?_
  · intro w1 hSw; (try dsimp only at hSw); go_simp
  simp only [Act.put,aj6,aj5,aj4,aj3,aj7,aj8];refine wpAnyH_take (i:=5) (v:=.pointer (some ⟨w.heap.size,1,none⟩)) rfl (by kernel_rfl) (by kernel_rfl) (by kernel_rfl) (λ_ _ _ h=>h) (Or.inl ⟨by rfl,?_⟩) (by assumption) ?_
  · intro w1 hSw; (try dsimp only at hSw); go_simp
  simp only [Act.put,aj6,aj5,aj4,aj3,aj7,aj8];refine wpAnyH_take (i:=6) (v:=.int .i64 sq) rfl (by kernel_rfl) (by kernel_rfl) (by kernel_rfl) (λ_ _ _ h=>h) (Or.inl ⟨by rfl,?_⟩) (by assumption) ?_
  · intro w1 hSw; (try dsimp only at hSw); go_simp
  simp only [Act.put,aj6,aj5,aj4,aj3,aj7,aj8];refine wpAnyH_ready (rs:=[0]) (by kernel_rfl) (by simp) ?_;refine AllReadyH.cons rfl (λK hK=>?_) AllReadyH.nil
  go_simp
  refine hK.out _ _ ⟨OO.out.cell 0,OO.out.cell 1⟩ (λhHeld=>?_);clear hK K;refine wpAnyH_ready (rs:=[1]) (by kernel_rfl) (by simp) ?_;refine AllReadyH.cons rfl (λK hK=>?_) AllReadyH.nil
  go_simp
  refine hK.out _ _ ⟨jf.out.cell 0,jf.out.cell 1⟩ (λhHeld=>?_);clear hK K;refine wpAnyH_ready (rs:=[4]) (by kernel_rfl) (by simp) ?_;refine AllReadyH.cons rfl (λK hK=>?_) AllReadyH.nil
  go_simp
  refine (kz w.heap.size (.slice (some ⟨w.heap.size+1,0,none⟩) 4 4) 4 [80,76,79,71] ep 8 _ HOC.out az.out.size (by omega) (by omega)).mono ?_;rintro e w1 ⟨v1,rfl,ho1,hg1⟩;have dZ:=hid ho1;have HG2:=hid hg1;clear ho1 hg1;go_wp2_with fail;refine hK.out _ _ ⟨HG2.out.1.cell (jf.out.cell 0) (by simp [Value.ownBlock]),HG2.out.1.cell (jf.out.cell 1) (by simp [Value.ownBlock])⟩ (λhHeld=>?_);clear hK K;refine wpAnyH_ready (rs:=[7]) (by kernel_rfl) (by simp) ?_
  refine AllReadyH.cons rfl (λK hK=>?_) AllReadyH.nil
  go_simp
  refine (kz w.heap.size v1 12 ([80,76,79,71] ++ be 8 ep) sq 8 _ dZ.out (akh az.out.size HG2.out.1.size) (by omega) (by omega)).mono ?_;rintro e w2 ⟨v2,rfl,ho2,hg2⟩;have lM:=hid ho2;have aZ:=hid hg2;clear ho2 hg2;go_wp2_with fail;refine hK.out _ _ ⟨(HG2.out.trans aZ.out).1.cell (jf.out.cell 0) (by simp [Value.ownBlock]),(HG2.out.trans aZ.out).1.cell (jf.out.cell 1) (by simp [Value.ownBlock])⟩ (λhHeld=>?_)
  clear hK K;refine wpAnyH_ready (rs:=[8]) (by kernel_rfl) (by simp) ?_;refine AllReadyH.cons rfl (λK hK=>?_) AllReadyH.nil
  go_simp
  refine hK.out _ _ ⟨(HG2.out.trans aZ.out).1.cell (jf.out.cell 0) (by simp [Value.ownBlock]),(HG2.out.trans aZ.out).1.cell (jf.out.cell 1) (by simp [Value.ownBlock])⟩ (λhHeld=>?_);clear hK K;refine wpAnyH_done (by kernel_rfl) ?_ _;go_wp2_with fail;go_meet;exact ⟨lM.out,aI (aI az.out HG2.out.1 (λj hj=>by simp [Value.ownBlock] at hj; omega)) aZ.out.1 (λj hj=>(dZ.out.bH j hj).1),(HG2.out.trans aZ.out).1.cell (jf.out.cell 2) (by simp [Value.ownBlock]),(HG2.out.trans aZ.out).1.cell (jf.out.cell 3) (by simp [Value.ownBlock]),bS.apart (HG2.out.trans aZ.out) jf.out.lt (by simp [Value.ownBlock])⟩
 case rest =>
  obtain ⟨ho,hg,hc2,hc3,hne⟩:=hcut;have HO:=hid ho; have HG:=hid hg; have WV:=hid (And.intro hc2 hc3); have rF:=hid hne;clear ho hg hc2 hc3 hne kc kd;have hsz:=HG.out.size;have hub:((sum:Nat):Int)<=4294967295:=by omega
  have aiX:(0:Int)<=((sum:Nat):Int):=by omega
  have agi:=World.block_lt_of_cell? wc ⟨w.heap.size,2,none⟩ WV.out.1;have hwr:IntKind.i64.wrap ((sum:Nat):Int)=((sum:Nat):Int):=by rw [IntKind.wrap_i64]; omega
  have yz:=hid hwr; clear hwr;have hc2:=WV.out.1;have hc3:=WV.out.2;go_upto_region 4 with fail
  go_cut [4] (λs4 wx=>Own wx w.heap.size 5 1 s4 26 (au (mJ ep sq pages sum))/\w.grownBy wx none/\wx.cell? ⟨w.heap.size,2,none⟩=some (.slice A n c)/\s4.ownBlock≠some w.heap.size)
  case first =>
   have Vt:(4:Nat)<=8:=by omega
   have hn2:(2:Nat)<=8:=by omega
   have agc:(20:Nat)<=70368744177664:=by omega
   have agb:(24:Nat)<=70368744177664:=by omega
   go_region_law (first
    | (go_simp
       go_at_call_of 115 (Value.int IntKind.i64 4)
       rw [yz.out];refine (kz w.heap.size _ 20 ([80,76,79,71] ++ be 8 ep ++ be 8 sq) sum 4 _ ?_ ?_ ?_ ?_).mono ?_;exact HO.out.drew;exact hsz;exact Vt;exact agc;rintro e w3 ⟨v3,rfl,ho3,hg3⟩;have hga:=bS.behind (ah wc none) hg3;have ai8:=hga.1.cell WV.out.1 (λe=>rF.out e.symm);have HOa:=hid ho3; have zL:=hid hga;clear ho3 hg3 hga)
    | (go_simp
       go_at_call_of 115 (Value.int IntKind.i64 2)
       refine (kz w.heap.size _ 24 ([80,76,79,71] ++ be 8 ep ++ be 8 sq ++ be 4 sum) n 2 _ ?_ ?_ ?_ ?_).mono ?_;exact HOa.out;exact akh hsz zL.out.1.size;exact hn2;exact agb;rintro e w4 ⟨v4,rfl,qi,hg4⟩;have ZJ:=hid qi; have OG:=hid hg4;clear qi hg4))
   all_goals
    go_wp2_with fail;go_meet;have hpre:[80,76,79,71] ++ be 8 ep ++ be 8 sq ++ be 4 sum ++ be 2 n=mJ ep sq pages sum:=by simp [mJ,vR.out]
    have qi:=ZJ.out;rw [hpre] at qi;exact ⟨qi,aI HG.out (zL.out.trans OG.out).1 (λi hi=>(HO.out.bH i hi).1),(zL.out.trans OG.out).1.cell WV.out.1 (λe=>rF.out e.symm),bS.apart (zL.out.trans OG.out) agi rF.out⟩
  case rest =>
   obtain ⟨qi,hgw,hc4,abU⟩:=hcut;have lL:=hid qi; have HGw:=hid hgw; have yG:=hid hc4; have HN4:=hid abU;clear qi hgw abU hc2 hc3;go_wp2_with fail
   go_loopw [4,5] (λu i wr=>∃ j:Nat,j<=n/\i=.int .i64 j/\Own wr w.heap.size 5 1 u (26+4 * j) (au (mJ ep sq pages sum ++ (pages.take j).flatMap λn=>be 4 n.toNat))/\w.grownBy wr none/\wr.cell? ⟨w.heap.size,2,none⟩=some (.slice A n c)/\u.ownBlock≠some w.heap.size/\(∀ q,q < j->dA (pages.getD q 0) 1023=true)) (λ_ i _=>n - (intOf i).toNat)
   case atStart=>exact ⟨0,by omega,rfl,by simpa using lL.out,HGw.out,yG.out,HN4.out,λq hq=>by omega⟩
   case round =>
    obtain ⟨j,hj,rfl,ho,hg,hcx,hne,hin⟩:=hrel;have HOr:=hid ho; have KD:=hid hg; have adk:=hid hne; have pM:=hid hin; have HCX:=hid hcx;clear ho hg hne hin
    by_cases hlt:j < n
    · obtain ⟨g,o,rfl,_,_,hck⟩:=(kN HP.out KD.out (.inl rfl)).2.2 (by omega);have hcj:=hck j hlt;clear hck;have j0:(0:Int)<=j:=by omega
      have j1:(j:Int) < n:=by omega
      cases hib:dA (pages.getD j 0) 1023 with
      | false =>
        have bD:=hid (VC (ak:=ep) (seq:=sq) (sum:=sum) j (by rw [vR.out]; exact hlt) hib);generalize pages.getD j 0=x at *;have Ig:=hid hib; clear hib;go_wp2_with fail;refine (iK x _ _).mono ?_;rintro e w5 ⟨rfl,rfl⟩;rw [Ig.out];go_wp2;go_ret2;exact ⟨KD.out,.inr ⟨bD.out,rfl⟩⟩
      | true =>
        have GH:=xV pages 4 j (by rw [vR.out]; exact hlt);have WC:=hid GH; clear GH;have hin':∀ q,q < j+1->dA (pages.getD q 0) 1023=true:=by
         intro q hq
         by_cases e:q=j
         · subst e; exact hib
         · exact pM.out q (by omega)
        have OD:=hid hin'; clear hin';generalize pages.getD j 0=x at *;obtain ⟨hx0,hx1⟩:=gH hib;have Ig:=hid hib; clear hib;obtain ⟨m,rfl⟩:=Int.eq_ofNat_of_zero_le hx0;rw [Int.toNat_natCast] at WC;go_wp2_with fail;refine (iK (m:Int) _ _).mono ?_;rintro e w5 ⟨rfl,rfl⟩;rw [Ig.out];go_wp2_with fail;have Sg:=KD.out.size;refine (kz w.heap.size _ _ _ m 4 _ HOr.out Sg (by omega) (by omega)).mono ?_;rintro e w5 ⟨v',rfl,ho',hg'⟩
        have kr:=hid ho'; have iO:=hid hg'; clear ho' hg';go_wp2_with fail
        go_roundw
        case measure=>simp [intOf]; omega
        case rel =>
         refine ⟨j+1,by omega,by go_num,?_,aI KD.out iO.out.1 (λi hi=>(HOr.out.bH i hi).1),iO.out.1.cell HCX.out (λe=>adk.out e.symm),bS.apart iO.out (World.block_lt_of_cell? _ ⟨w.heap.size,2,none⟩ HCX.out) adk.out,OD.out⟩;rw [WC.out,<-List.append_assoc,show 26+4 * (j+1)=26+4 * j+4 from by omega];exact kr.out
    · obtain rfl:j=n:=by omega
      have oz:=VB (ak:=ep) (seq:=sq) (sum:=sum) j jI.out yY.out vR.out hn1 Yb pM.out;have HY:=hid oz; clear oz;have ho:=HOr.out;rw [akk (by rw [vR.out]; omega)] at ho;have Q0:=hid ho; clear ho;have Sg:=KD.out.size;go_wp2_with fail;refine (wF w.heap.size _ _ (jh ep sq pages sum) _ Q0.out Sg (by omega) (xz _ _ _ _)).mono ?_;rintro e w5 ⟨v',rfl,ho',hg'⟩;have kr:=hid ho'; have iO:=hid hg'; clear ho' hg'
      go_wp2;go_ret2;refine ⟨aI KD.out iO.out.1 (λi hi=>(HOr.out.bH i hi).1),.inl ⟨_,v',HY.out,rfl,?_,jY _ (xz _ _ _ _)⟩⟩;rw [cz _ (by rw [uT,vR.out]; omega)];exact kr.out
end Go.Proofs.YtinajlbijgedbaaGreat.Codec
