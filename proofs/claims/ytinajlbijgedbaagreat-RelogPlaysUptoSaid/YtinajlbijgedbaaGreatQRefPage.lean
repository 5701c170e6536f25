/- Texts of this seat's proofs: RefPage, RefImage. -/
import Derived.Test.YtinajlbijgedbaaGreatQStructs
import Derived.Test.YtinajlbijgedbaaGreatQCodecSpec
import Derived.Test.YtinajlbijgedbaaGreatQOpen
import Derived.Deep.RegionHeld3
import Derived.Deep.RegionLaw
import Derived.Deep.DeepCutAuto
set_option maxRecDepth 100000
set_option maxHeartbeats 16000000
namespace Go.Proofs.YtinajlbijgedbaaGreat.Codec
open Lib (hid)
open Go.RowKit CrcMath CodecMath Mem Crc
theorem UM {number kind:Int} {body:List Nat} (h:kind < 1):ed number kind body=none:=by
 rw [ed,if_neg (λhh=>by have:=dQ hh; omega)]
theorem UL {number kind:Int} {body:List Nat} (h:5 < kind):ed number kind body=none:=by
 rw [ed,if_neg (λhh=>by have:=dQ hh; omega)]
theorem UK {number kind:Int} {body:List Nat} (h:dA number 1023=false):ed number kind body=none:=by
 rw [ed,if_neg (λhh=>by have:=dQ hh; exact M5 h this.2.1)]
theorem UJ {number kind:Int} {body:List Nat} (h:body.length≠240):ed number kind body=none:=by
 rw [ed,if_neg (λhh=>by have:=dQ hh; exact h this.2.2.1)]
theorem VR (kind number:Nat):fill ([80,80,65,71] ++ be 1 kind ++ be 4 number) 12=[80,80,65,71] ++ (be 1 kind ++ (be 4 number ++ [0,0,0])):=by
 simp [fill,aY]
theorem wT (b:Nat) (number kind:Int) (A:Option Addr) (n c:Nat) (l:List Nat) (w:World) (hl:Bytes w b A n l) :
 Calls Tryz.prog 79 #[.agg #[.int .i64 number,.int .i64 kind,.slice A n c]] w (Wrote w (ed number kind l)):=by
 have hlen:=hl.1;have HLEN:=hid hlen; clear hlen;have bz:=hid (aj9 w (.cells #[.int .i64 number,.int .i64 kind,.slice A n c] 90) none)
 by_cases h1:kind < 1
 · have bD:=hid (UM (number:=number) (body:=l) h1);clear hl;go_enter Tryz.func79,Tryz.ntmps79;go_wp2;go_ret2;exact ⟨bz.out,.inr ⟨bD.out,rfl⟩⟩
 by_cases h2:5 < kind
 · have bD:=hid (UL (number:=number) (body:=l) h2);clear hl;go_enter Tryz.func79,Tryz.ntmps79;go_wp2;go_ret2;exact ⟨bz.out,.inr ⟨bD.out,rfl⟩⟩
 cases hib:dA number 1023 with
 | false =>
   have bD:=hid (UK (kind:=kind) (body:=l) hib);have jI:=hid hib; clear hib hl;go_enter Tryz.func79,Tryz.ntmps79;go_wp2_with fail;refine (iK number _ _).mono ?_;rintro e w2 ⟨rfl,rfl⟩;rw [jI.out];go_wp2;go_ret2;exact ⟨bz.out,.inr ⟨bD.out,rfl⟩⟩
 | true =>
   by_cases h4:n=240
   · subst h4;have hok:=JN (number:=number) (kind:=kind) (body:=l) ⟨⟨by omega,by omega⟩,gH hib,HLEN.out,hl.2.1⟩;have oz:ed number kind l=some (frame (cZ number kind l)):=by rw [ed,if_pos hok]
     have HY:=hid oz; clear oz hok;have bK:=hid hl.2.1;have HL:=hid hl; clear hl;obtain ⟨x0,x1⟩:=gH hib;have jI:=hid hib; clear hib;obtain ⟨m,rfl⟩:=Int.eq_ofNat_of_zero_le x0;obtain ⟨k,rfl⟩:=Int.eq_ofNat_of_zero_le (show (0:Int)<=kind by omega);have kc:=vY;have kd:=DY;obtain ⟨i0,hi0,hz0,hz1,hz2⟩:=info_parts gD;have hi:=hid hi0; have z0:=hid hz0; have z1:=hid hz1; have z2:=hid hz2; clear hi0 hz0 hz1 hz2
     have hoc:Own ((w.alloc (.cells #[.int .i64 m,.int .i64 k,.slice A 240 c] 90)).alloc (.cells #[.int .u8 80,.int .u8 80,.int .u8 65,.int .u8 71] 5 (4,5))).drew w.heap.size 5 1 (.slice (some ⟨w.heap.size+1,0,none⟩) 4 4) 4 (au [80,80,65,71]):=by
      have h:=Ce (w.alloc (.cells #[.int .i64 m,.int .i64 k,.slice A 240 c] 90)) w.heap.size 4 #[.int .u8 80,.int .u8 80,.int .u8 65,.int .u8 71] [80,80,65,71] rfl rfl (by simp [maxLen]) (by simp)
      simpa using h.drew
     have HOC:=hid hoc; clear hoc;have acg:((w.alloc (.cells #[.int .i64 m,.int .i64 k,.slice A 240 c] 90)).alloc (.cells #[.int .u8 80,.int .u8 80,.int .u8 65,.int .u8 71] 5)).drew.cell? ⟨w.heap.size,0,none⟩=some (.int .i64 m)/\((w.alloc (.cells #[.int .i64 m,.int .i64 k,.slice A 240 c] 90)).alloc (.cells #[.int .u8 80,.int .u8 80,.int .u8 65,.int .u8 71] 5)).drew.cell? ⟨w.heap.size,1,none⟩=some (.int .i64 k):=by
      have h:=((af.new w 90 #[.int .i64 m,.int .i64 k,.slice A 240 c]).alloc (.cells #[.int .u8 80,.int .u8 80,.int .u8 65,.int .u8 71] 5)).drew;exact ⟨h.cell 0,h.cell 1⟩
     have OO:=hid acg; clear acg;have hc0:((w.alloc (.cells #[.int .i64 m,.int .i64 k,.slice A 240 c] 90)).alloc (.cells #[.int .u8 80,.int .u8 80,.int .u8 65,.int .u8 71] 5 (4,5))).drew.cell? ⟨w.heap.size,0,none⟩=some (.int .i64 m)/\((w.alloc (.cells #[.int .i64 m,.int .i64 k,.slice A 240 c] 90)).alloc (.cells #[.int .u8 80,.int .u8 80,.int .u8 65,.int .u8 71] 5 (4,5))).drew.cell? ⟨w.heap.size,1,none⟩=some (.int .i64 k)/\((w.alloc (.cells #[.int .i64 m,.int .i64 k,.slice A 240 c] 90)).alloc (.cells #[.int .u8 80,.int .u8 80,.int .u8 65,.int .u8 71] 5 (4,5))).drew.cell? ⟨w.heap.size,2,none⟩=some (.slice A 240 c):=by
      have h:=((af.new w 90 #[.int .i64 m,.int .i64 k,.slice A 240 c]).alloc (.cells #[.int .u8 80,.int .u8 80,.int .u8 65,.int .u8 71] 5 (4,5))).drew;exact ⟨h.cell 0,h.cell 1,h.cell 2⟩
     have jf:=hid hc0; clear hc0;have az:=hid ((bz.out.trans (aj9 _ (.cells #[.int .u8 80,.int .u8 80,.int .u8 65,.int .u8 71] 5 (4,5)) none)).trans (ah _ none));go_enter Tryz.func79,Tryz.ntmps79;go_upto_region 3 with (go_at_call 114; refine (iK (m:Int) _ _).mono ?_; rintro e w2 ⟨rfl,rfl⟩; rw [jI.out])
     go_cut [4] (λs4 wx=>Own wx w.heap.size 5 1 s4 9 (au ([80,80,65,71] ++ be 1 k ++ be 4 m))/\w.grownBy wx none/\wx.cell? ⟨w.heap.size,2,none⟩=some (.slice A 240 c)/\s4.ownBlock≠some w.heap.size)
     case first =>
      refine wp_region_held_drew (S:=λw'=>w'.cell? ⟨w.heap.size,0,none⟩=some (.int .i64 m)/\w'.cell? ⟨w.heap.size,1,none⟩=some (.int .i64 k)) (by kernel_rfl) ?_ (λhHeld=>?_)
      · have h:=((af.new w 90 #[.int .i64 m,.int .i64 k,.slice A 240 c]).drew);exact ⟨h.cell 0,h.cell 1⟩
      refine wpAnyH_take (i:=2) (v:=.pointer (some ⟨w.heap.size,1,none⟩)) rfl (by kernel_rfl) (by kernel_rfl) (by kernel_rfl) (λ_ _ _ h=>h) (Or.inl ⟨by rfl,?_⟩) (by assumption) ?_
      · intro w1 hSw; (try dsimp only at hSw); go_simp
      simp only [Act.put,aj6,aj5,aj4,aj3,aj7,aj8];refine wpAnyH_take (i:=3) (v:=.pointer (some ⟨w.heap.size,1,none⟩)) rfl (by kernel_rfl) (by kernel_rfl) (by kernel_rfl) (λ_ _ _ h=>h) (Or.inl ⟨by rfl,?_⟩) (by assumption) ?_
      · intro w1 hSw; (try dsimp only at hSw); go_simp
      simp only [Act.put,aj6,aj5,aj4,aj3,aj7,aj8];refine wpAnyH_take (i:=4) (v:=.int .i64 k) rfl (by kernel_rfl) (by kernel_rfl) (by kernel_rfl) (λ_ _ _ h=>h) (Or.inl ⟨by rfl,?_⟩) (by assumption) ?_
      · intro w1 hSw; (try dsimp only at hSw); go_simp
      simp only [Act.put,aj6,aj5,aj4,aj3,aj7,aj8];refine wpAnyH_take (i:=6) (v:=.pointer (some ⟨w.heap.size,0,none⟩)) rfl (by kernel_rfl) (by kernel_rfl) (by kernel_rfl) (λ_ _ _ h=>h) (Or.inl ⟨by rfl,?_⟩) (by assumption) ?_
      · intro w1 hSw; (try dsimp only at hSw); go_simp
      simp only [Act.put,aj6,aj5,aj4,aj3,aj7,aj8];refine wpAnyH_take (i:=7) (v:=.int .i64 m) rfl (by kernel_rfl) (by kernel_rfl) (by kernel_rfl) (λ_ _ _ h=>h) (Or.inl ⟨by rfl,?_⟩) (by assumption) ?_
      · intro w1 hSw; (try dsimp only at hSw); go_simp
      simp only [Act.put,aj6,aj5,aj4,aj3,aj7,aj8];refine wpAnyH_ready (rs:=[0]) (by kernel_rfl) (by simp) ?_;refine AllReadyH.cons rfl (λK hK=>?_) AllReadyH.nil
      go_simp
      refine hK.out _ _ ⟨OO.out.1,OO.out.2⟩ (λhHeld=>?_);clear hK K;refine wpAnyH_ready (rs:=[1]) (by kernel_rfl) (by simp) ?_;refine AllReadyH.cons rfl (λK hK=>?_) AllReadyH.nil
      go_simp
      refine hK.out _ _ ⟨jf.out.1,jf.out.2.1⟩ (λhHeld=>?_);clear hK K;refine wpAnyH_ready (rs:=[5]) (by kernel_rfl) (by simp) ?_;refine AllReadyH.cons rfl (λK hK=>?_) AllReadyH.nil
      go_simp
      refine (kz w.heap.size (.slice (some ⟨w.heap.size+1,0,none⟩) 4 4) 4 [80,80,65,71] k 1 _ HOC.out az.out.size (by omega) (by omega)).mono ?_;rintro e w1 ⟨v1,rfl,ho1,hg1⟩;have dZ:=hid ho1;have HG2:=hid hg1;clear ho1 hg1;go_wp2_with fail;refine hK.out _ _ ⟨HG2.out.1.cell jf.out.1 (by simp [Value.ownBlock]),HG2.out.1.cell jf.out.2.1 (by simp [Value.ownBlock])⟩ (λhHeld=>?_);clear hK K;refine wpAnyH_ready (rs:=[8]) (by kernel_rfl) (by simp) ?_
      refine AllReadyH.cons rfl (λK hK=>?_) AllReadyH.nil
      go_simp
      refine (kz w.heap.size v1 5 ([80,80,65,71] ++ be 1 k) m 4 _ dZ.out (akh az.out.size HG2.out.1.size) (by omega) (by omega)).mono ?_;rintro e w2 ⟨v2,rfl,ho2,hg2⟩;have lM:=hid ho2;have aZ:=hid hg2;clear ho2 hg2;go_wp2_with fail;refine hK.out _ _ ⟨(HG2.out.trans aZ.out).1.cell jf.out.1 (by simp [Value.ownBlock]),(HG2.out.trans aZ.out).1.cell jf.out.2.1 (by simp [Value.ownBlock])⟩ (λhHeld=>?_)
      clear hK K;refine wpAnyH_ready (rs:=[9]) (by kernel_rfl) (by simp) ?_;refine AllReadyH.cons rfl (λK hK=>?_) AllReadyH.nil
      go_simp
      refine hK.out _ _ ⟨(HG2.out.trans aZ.out).1.cell jf.out.1 (by simp [Value.ownBlock]),(HG2.out.trans aZ.out).1.cell jf.out.2.1 (by simp [Value.ownBlock])⟩ (λhHeld=>?_);clear hK K;refine wpAnyH_done (by kernel_rfl) ?_ _;go_wp2_with fail;go_meet;exact ⟨lM.out,aI (aI az.out HG2.out.1 (λj hj=>by simp [Value.ownBlock] at hj; omega)) aZ.out.1 (λj hj=>(dZ.out.bH j hj).1),(HG2.out.trans aZ.out).1.cell jf.out.2.2 (by simp [Value.ownBlock]),bS.apart (HG2.out.trans aZ.out) (World.block_lt_of_cell? _ ⟨w.heap.size,0,none⟩ jf.out.1) (by simp [Value.ownBlock])⟩
     case rest =>
      obtain ⟨ho,hg,hc2,hne⟩:=hcut;have HO:=hid ho; have HG:=hid hg; have rF:=hid hne; clear ho hg hne;have hsz:=HG.out.size;go_wp2_with fail;refine (G5 w.heap.size _ 9 _ 12 _ HO.out hsz (by omega) (by omega)).mono ?_;rintro e w2 ⟨v2,rfl,ho2,hg2⟩;rw [VR] at ho2;have lM:=hid ho2;have hlt:=World.block_lt_of_cell? _ _ hc2;have hc3:=hg2.1.cell hc2 (λe=>rF.out e.symm);have ajj:=hid (bS.apart hg2 hlt rF.out)
      have HG2:=hid (aI HG.out hg2.1 (λj hj=>(HO.out.bH j hj).1));clear hc2 hg2 ho2;have HL2:=hid (bP HL.out HG2.out);have hsz2:=HG2.out.size
      go_wp2_with (at_builtin
                   refine ai _ rfl (.tmp 39) (.tmp 42) _ rfl w.heap.size 5 i0 _ 1 1 Tryz.underlying65 hi.out z0.out z1.out z2.out rfl (by omega) v2 12 _ rfl lM.out
                    _ A 240 c (au l) rfl HL2.out.reads (fO l) (by simp only [maxLen]; omega) (by omega) hsz2 ?_
                   intro v3 w3 ho3 hg3;have pK:=hid ho3;have aZ:=hid (aI HG2.out hg3.1 (λj hj=>(lM.out.bH j hj).1));clear ho3 hg3)
      have qi:=pK.out;rw [<-dH,show [80,80,65,71] ++ (be 1 k ++ (be 4 m ++ [0,0,0])) ++ l=cZ m k l from by simp [cZ]] at qi;have lL:=hid qi; clear qi;have xw:=aZ.out.size;refine (wF w.heap.size v3 252 (cZ m k l) _ lL.out xw (by omega) (wY _ _ _ bK.out)).mono ?_;rintro e w4 ⟨v4,rfl,Cm,hg5⟩;have xK:=hid Cm;have fP:=hid (aI aZ.out hg5.1 (λj hj=>(lL.out.bH j hj).1));clear Cm hg5;go_wp2;go_ret2;refine ⟨fP.out,.inl ⟨_,v4,HY.out,rfl,?_,jY _ (wY _ _ _ bK.out)⟩⟩
      rw [cz _ (by rw [uM _ _ _ HLEN.out]; omega)];exact xK.out
   · have bD:=hid (UJ (number:=number) (kind:=kind) (body:=l) (by rw [HLEN.out]; exact h4));have jI:=hid hib; clear hib hl;have hne:(((n:Nat):Int) != 240)=true:=by simp; omega
     go_enter Tryz.func79,Tryz.ntmps79;go_wp2_with fail;refine (iK number _ _).mono ?_;rintro e w2 ⟨rfl,rfl⟩;rw [jI.out];go_wp2;go_ret2;exact ⟨bz.out,.inr ⟨bD.out,rfl⟩⟩
theorem Sa {ak seq number kind:Int} {body:List Nat} (h:ed number kind body=none):dW ak seq number kind body=none:=by
 rw [dW,if_neg (λhh=>?_)];simp only [lV,Bool.and_eq_true] at hh;rw [ed,if_pos hh.1.1] at h
 cases h
theorem R8 {ak seq number kind:Int} {body:List Nat} (h:dA ak 4294967295=false):dW ak seq number kind body=none:=by
 rw [dW,if_neg (λhh=>by simp only [lV,Bool.and_eq_true] at hh; rw [h] at hh; cases hh.1.2)]
theorem R7 {ak seq number kind:Int} {body:List Nat} (h:dA seq 1099511627775=false):dW ak seq number kind body=none:=by
 rw [dW,if_neg (λhh=>by simp only [lV,Bool.and_eq_true] at hh; rw [h] at hh; cases hh.2)]
theorem AZ (b:Nat) (ak seq number kind:Int) (A:Option Addr) (n c:Nat) (l:List Nat) (w:World) (hl:Bytes w b A n l) :
 Calls Tryz.prog 151 #[.int .i64 ak,.int .i64 seq,.agg #[.int .i64 number,.int .i64 kind,.slice A n c]] w (Wrote w (dW ak seq number kind l)):=by
 have hg0:=aj9 w (.cells #[.int .i64 number,.int .i64 kind,.slice A n c] 90) none;have bz:=hid hg0; have j3:=hid (bP hl hg0);have jf:=hid (af.new w 90 #[.int .i64 number,.int .i64 kind,.slice A n c]);have HL:=hid hl;clear hg0 hl;obtain ⟨i0,hi0,hz0,hz1,hz2⟩:=info_parts gD;have hi:=hid hi0; have z0:=hid hz0; have z1:=hid hz1; have z2:=hid hz2; clear hi0 hz0 hz1 hz2;go_enter Tryz.func151,Tryz.ntmps151
 go_wp2_with fail;refine (wT b number kind A n c l _ j3.out).mono ?_;rintro e w1 ⟨hg1,hW1⟩;have az:=hid (bz.out.trans hg1);have l9:=hid (jf.out.grown hg1 (by simp));have Ie:=hid (bP j3.out hg1);clear hg1 bz jf j3;rcases hW1 with ⟨m,v1,ho,rfl,_,_⟩ | ⟨ho,rfl⟩
 case inr =>
  have bD:=hid (Sa (ak:=ak) (seq:=seq) ho);clear ho;go_wp2;go_ret2;exact ⟨az.out,.inr ⟨bD.out,rfl⟩⟩
 obtain ⟨hpl,hok⟩:=RD ho;obtain ⟨⟨k1,k2⟩,⟨n1,n2⟩,wD,hlt⟩:=dQ hok;have aU:=hid hok; have aew:=hid wD; have bK:=hid hlt;have aef:n=240:=by rw [<-Ie.out.1]; exact wD
 subst aef;clear ho hpl hok wD hlt
 cases hib:dA ak 4294967295 with
 | false =>
   have bD:=hid (R8 (seq:=seq) (number:=number) (kind:=kind) (body:=l) hib);have jI:=hid hib; clear hib;go_wp2_with fail;refine (iK ak _ _).mono ?_;rintro e w2 ⟨rfl,rfl⟩;rw [jI.out];go_wp2;go_ret2;exact ⟨az.out,.inr ⟨bD.out,rfl⟩⟩
 | true =>
   cases pX:dA seq 1099511627775 with
   | false =>
     have bD:=hid (R7 (ak:=ak) (number:=number) (kind:=kind) (body:=l) pX);have jI:=hid hib; have yY:=hid pX; clear hib pX;go_wp2_with fail;refine (iK ak _ _).mono ?_;rintro e w2 ⟨rfl,rfl⟩;rw [jI.out];go_wp2_with fail;refine (iK seq _ _).mono ?_;rintro e w2 ⟨rfl,rfl⟩;rw [yY.out];go_wp2;go_ret2;exact ⟨az.out,.inr ⟨bD.out,rfl⟩⟩
   | true =>
     have oz:dW ak seq number kind l=some (frame (fE ak seq number kind l)):=by
      rw [dW,if_pos];simp only [lV,Bool.and_eq_true];exact ⟨⟨aU.out,hib⟩,pX⟩
     have HY:=hid oz; clear oz;obtain ⟨e0,e1⟩:=gH hib;obtain ⟨s0,s1⟩:=gH pX;have jI:=hid hib; have yY:=hid pX; clear hib pX;obtain ⟨ep,rfl⟩:=Int.eq_ofNat_of_zero_le e0;obtain ⟨sq,rfl⟩:=Int.eq_ofNat_of_zero_le s0;obtain ⟨m',rfl⟩:=Int.eq_ofNat_of_zero_le n1;obtain ⟨k,rfl⟩:=Int.eq_ofNat_of_zero_le (show (0:Int)<=kind by omega);have Dk:=hid l9.out.drew;have Y2:=hid (az.out.trans (ah _ none));go_upto_region 4 with (first
      | (go_at_call_of 114 (Value.int IntKind.i64 4294967295); refine (iK (ep:Int) _ _).mono ?_; rintro e w2 ⟨rfl,rfl⟩; rw [jI.out])
      | (go_at_call_of 114 (Value.int IntKind.i64 1099511627775); refine (iK (sq:Int) _ _).mono ?_; rintro e w2 ⟨rfl,rfl⟩; rw [yY.out]))
     have hs0:w1.drew.cell? ⟨w.heap.size,0,none⟩=some (.int .i64 m'):=Dk.out.cell 0;have hs1:w1.drew.cell? ⟨w.heap.size,1,none⟩=some (.int .i64 k):=Dk.out.cell 1;have agM:=hid (And.intro hs0 hs1); clear hs0 hs1
     go_region_held3 (λw'=>w'.cell? ⟨w.heap.size,0,none⟩=some (.int .i64 m')/\w'.cell? ⟨w.heap.size,1,none⟩=some (.int .i64 k))
      (first
        | exact agM.out
        | exact ⟨(zL.out.trans OG.out).1.cell (Dk.out.cell 0) (by simp [Value.ownBlock]),(zL.out.trans OG.out).1.cell (Dk.out.cell 1) (by simp [Value.ownBlock])⟩
        | exact ⟨zL.out.1.cell (Dk.out.cell 0) (by simp [Value.ownBlock]),zL.out.1.cell (Dk.out.cell 1) (by simp [Value.ownBlock])⟩
        | go_keep)
      (first
        | (go_at_call_of 115 (Value.slice none 0 0)
           refine (kz w.heap.size (.slice none 0 0) 0 [] k 1 _ (Own.nil _ _ _ _) Y2.out.size (by omega) (by omega)).mono ?_;rintro e w2 ⟨v2,rfl,ho2,hg2⟩;have HOa:=hid ho2; have zL:=hid hg2;clear ho2 hg2)
        | (go_at_call_of 115 v2
           refine (kz w.heap.size v2 1 (be 1 k) m' 2 _ HOa.out (akh Y2.out.size zL.out.1.size) (by omega) (by omega)).mono ?_;rintro e w3 ⟨v3,rfl,ho3,hg3⟩;have ZJ:=hid ho3; have OG:=hid hg3;clear ho3 hg3))
     have hg3:=(zL.out.trans OG.out);have aZ:=hid (aI Y2.out hg3.1 (λj hj=>by simp [Value.ownBlock] at hj));have hc2:=hg3.1.cell (Dk.out.cell 2) (by simp [Value.ownBlock]);have mo:=hid hc2;have agZ:=hid (bS.apart hg3 Dk.out.lt (by simp [Value.ownBlock]));clear hg3 hc2;have xw:=aZ.out.size;go_wp2_with fail;refine (kz w.heap.size v3 3 (be 1 k ++ be 2 m') ep 4 _ ZJ.out xw (by omega) (by omega)).mono ?_
     rintro e w4 ⟨v4,rfl,qi,hg4⟩;have lL:=hid qi; have cB:=hid (aI aZ.out hg4.1 (λj hj=>(ZJ.out.bH j hj).1));have ag5:=hid hg4;clear qi hg4;have af5:=cB.out.size;go_wp2_with fail;refine (kz w.heap.size v4 7 (be 1 k ++ be 2 m' ++ be 4 ep) sq 5 _ lL.out af5 (by omega) (by omega)).mono ?_;rintro e w5 ⟨v5,rfl,Cm,hg5⟩;have xK:=hid Cm; have fP:=hid (aI cB.out hg5.1 (λj hj=>(lL.out.bH j hj).1));have hgr5:=ag5.out.trans hg5
     have Ct:=hgr5.1.cell mo.out (λe=>agZ.out e.symm);clear Cm hg5 hgr5;have Ic:=hid (bP HL.out fP.out);have hsz5:=fP.out.size
     go_wp2_with (at_builtin
                  refine ai _ rfl (.tmp 40) (.tmp 43) _ rfl w.heap.size 5 i0 _ 1 1 Tryz.underlying65 hi.out z0.out z1.out z2.out rfl (by omega) v5 12 _ rfl xK.out
                   _ A 240 c (au l) rfl Ic.out.reads (fO l) (by simp only [maxLen]; omega) (by omega) hsz5 ?_
                  intro v6 w6 ho6 ic;have Ox:=hid ho6;have iF:=hid (aI fP.out ic.1 (λj hj=>(xK.out.bH j hj).1));clear ho6 ic)
     have ho7:=Ox.out;rw [<-dH,show be 1 k ++ be 2 m' ++ be 4 ep ++ be 5 sq ++ l=fE ep sq m' k l from by simp [fE]] at ho7;have Q0:=hid ho7; clear ho7;have af4:=iF.out.size;refine (wF w.heap.size v6 252 (fE ep sq m' k l) _ Q0.out af4 (by omega) (uQ _ _ _ _ _ bK.out)).mono ?_;rintro e w7 ⟨v7,rfl,ho8,zz⟩;have HO8:=hid ho8;have j4:=hid (aI iF.out zz.1 (λj hj=>(Q0.out.bH j hj).1));clear ho8 zz;go_wp2;go_ret2
     refine ⟨j4.out,.inl ⟨_,v7,HY.out,rfl,?_,jY _ (uQ _ _ _ _ _ bK.out)⟩⟩;rw [cz _ (by rw [r9 _ _ _ _ _ aew.out]; omega)];exact HO8.out
end Go.Proofs.YtinajlbijgedbaaGreat.Codec
