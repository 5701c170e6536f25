/- Texts of this seat's proofs: CodecPageGet, CodecImageGet, CodecHeadGet, RefHeadGet. -/
import Derived.Test.YtinajlbijgedbaaGreatQCodecPage
import Derived.Test.YtinajlbijgedbaaGreatQRefPageGet
namespace Go.Proofs.YtinajlbijgedbaaGreat.Codec
open Go.RowKit CrcMath CodecMath Mem Crc
def YN (w:World) (base:Nat) (v:Value) (l:List Nat):Prop :=
 ∃ A c,v=.slice A l.length c/\l.length<=c/\(∀ x∈l,x < 256) /\
  (0 < l.length->∃ g off t L,A=some ⟨g,off,none⟩/\base<=g/\af w g t (au L).toArray/\off+l.length<=L.length/\l=(L.drop off).take l.length)
theorem Rd.move {w W W1:World} {p g U k n k' n':Nat} {t tU:TypeId} {L:List Nat} {cs:Array Value} (h:Rd w W p g U k n t tU L cs) (hr:W.grownBy W1 (some p)) (hc:ny W1 p g k' n'):Rd w W1 p g U k' n' t tU L cs where
 grown:=aI h.grown hr (λj hj=>by cases hj; exact h.hp)
 cur:=hc
 arr:=h.arr.grown hr (by simpa using λe=>h.pg e.symm)
 box:=h.box.grown hr (by simpa using λe=>h.pu e.symm)
 hp:=h.hp
 hg:=h.hg
 hU:=h.hU
 pu:=h.pu
 gu:=h.gu
 pg:=h.pg
theorem Wv {w:World} {base g:Nat} {t:TypeId} {l:List Nat} (hb:af w g t (au l).toArray) (hg:base<=g) (lC:l.length=256) (hlt:∀ x∈l,x < 256):YN w base (.slice (some ⟨g,12,none⟩) 240 240) (fq l):=by
 have hl:(fq l).length=240:=by simp [fq]; omega
 refine ⟨_,_,by rw [hl],by omega,λx hx=>hlt x (List.mem_of_mem_drop (akq hx)),λ_=>⟨g,12,t,l,rfl,hg,hb,by omega,by rw [hl]; rfl⟩⟩
theorem YJ {w:World} {b g:Nat} {t:TypeId} {l:List Nat} (hb:af w g t (au l).toArray) (lC:l.length=256) (hlt:∀ x∈l,x < 256) (hne:g≠b):Bytes w b (some ⟨g,12,none⟩) 240 (fq l):=by
 refine ⟨by simp [fq]; omega,λx hx=>hlt x (List.mem_of_mem_drop (akq hx)),λ_=>⟨g,12,rfl,hb.lt,hne,λj hj=>?_⟩⟩;rw [hb.cell,akb,fT _ _ (by omega)]
 congr 3
 simp [fq,akg,hj]
end Go.Proofs.YtinajlbijgedbaaGreat.Codec
set_option maxRecDepth 100000
set_option maxHeartbeats 16000000
namespace Go.Proofs.YtinajlbijgedbaaGreat.Codec
open Lib (hid)
open Go.RowKit CrcMath CodecMath Mem Crc
def Wy (w:World) (r:Option (Int × Int × Int × Int × List Nat)) (e:Ending) (w':World):Prop :=
 w.grownBy w' none/\((∃ ak seq number kind body v,r=some (ak,seq,number,kind,body)/\e=.returned (.tuple #[.int .i64 ak,.int .i64 seq,.agg #[.int .i64 number,.int .i64 kind,v],.bool true])/\YN w' w.heap.size v body) \/
  (r=none/\e=.returned (.tuple #[.int .i64 0,.int .i64 0,.agg #[.int .i64 0,.int .i64 0,.slice none 0 0],.bool false])))
theorem Ha (b b2:Nat) (A:Option Addr) (n c:Nat) (l:List Nat) (w:World) (hR:Ready w b) (hl:Bytes w b2 A n l) :
 Calls Tryz.prog 171 #[.pointer (some ⟨b,0,none⟩),.slice A n c] w (Wy w (fe l)):=by
 have hlen:=hl.1;have bK:=hid hl.2.1;have jR:=hid (af.new w 90 #[.int .i64 0,.int .i64 0,.slice none 0 0]);have bz:=hid (aj9 w (.cells #[.int .i64 0,.int .i64 0,.slice none 0 0] 90) none);have HLEN:=hid hlen; have j3:=hid hl; have HL:=hid (bP hl (aj9 w (.cells #[.int .i64 0,.int .i64 0,.slice none 0 0] 90) none)); have HR:=hid hR; clear hlen hl hR
 by_cases lC:n=256
 · subst lC;have ER:=hid (show fe l=if dW (num l 3 4) (num l 7 5) (num l 1 2) (num l 0 1) (fq l)=some l then some ((num l 3 4:Int),(num l 7 5:Int),(num l 1 2:Int),(num l 0 1:Int),fq l) else none from rfl);have HW1:=hid (gy l 0 1 bK.out (by omega)).1;have HW2:=hid (gy l 1 2 bK.out (by omega)).1;have HW3:=hid (gy l 3 4 bK.out (by omega)).1;have WB:=hid (gy l 7 5 bK.out (by omega)).1;generalize fe l=r at *
   go_enter Tryz.func171,Tryz.ntmps171;go_wp2_with fail;refine (tO b b2 A c l _ HL.out).mono ?_;rintro e w1 ⟨rfl,hg1,hb1⟩;rw [World.size_alloc] at hb1 ⊢;have Cu:=jR.out.grown hg1 (by simp);have hsz1:=hg1.size;rw [World.size_alloc] at hsz1;have hgw:=bz.out.trans hg1;have hlt1:=hb1.lt;have oM:=hid (Fq (tU:=90) (cs:=#[.int .i64 0,.int .i64 0,.slice none 0 0]) (hgw.trans (aj9 w1 (.cells #[.slice (some ⟨w.heap.size+1,0,none⟩) 256 256] 153) none)) (Dz w1 (w.heap.size+1) 256 0 rfl) (hb1.alloc _) (by omega) (by omega) (by omega))
   simp only [World.size_alloc] at oM;have xH:=hid ((Cu.alloc (.cells #[.slice (some ⟨w.heap.size+1,0,none⟩) 256 256] 153)).alloc (.cells #[.int .i64 0,.int .i64 0,.slice none 0 0] 90));clear hg1 hb1 Cu hgw;go_wp2_with fail;refine (gN w1.heap.size (w.heap.size+1) 0 256 1 140 l _ oM.out.cur oM.out.arr (by decide) bK.out (by omega) (by rw [HLEN.out]; omega) (by rw [HLEN.out]; omega)).mono ?_;rintro e w3 ⟨rfl,hr,hc⟩
   rw [HW1.out];have hbx:=oM.out.box.grown hr (by simp);have hcl:=hbx.cell 1;have hfr:=hbx.frozen 1;simp only [akb,aka,akc] at hcl;have pG:=hid (show Rd w (w3.setCell ⟨w1.heap.size+1,1,none⟩ (.int .i64 (num l 0 1:Nat))) w1.heap.size (w.heap.size+1) (w1.heap.size+1) 1 255 140 90 l #[.int .i64 0,.int .i64 (num l 0 1:Nat),.slice none 0 0] from oM.out.step hr hc 1 (.int .i64 (num l 0 1:Nat)))
   have mZ:=hid (oM.out.other xH.out hr (by omega) (by omega) 1 (.int .i64 (num l 0 1:Nat)));clear hr hc hbx;go_wp2_with fail;clear hcl hfr;refine (gN w1.heap.size (w.heap.size+1) 1 255 2 140 l _ pG.out.cur pG.out.arr (by decide) bK.out (by omega) (by rw [HLEN.out]; omega) (by rw [HLEN.out]; omega)).mono ?_;rintro e w4 ⟨rfl,hr,hc⟩;rw [HW2.out];have hbx:=pG.out.box.grown hr (by simp);have hcl:=hbx.cell 0
   have hfr:=hbx.frozen 0;simp only [akb,aka] at hcl;have ry:=hid (show Rd w (w4.setCell ⟨w1.heap.size+1,0,none⟩ (.int .i64 (num l 1 2:Nat))) w1.heap.size (w.heap.size+1) (w1.heap.size+1) 3 253 140 90 l #[.int .i64 (num l 1 2:Nat),.int .i64 (num l 0 1:Nat),.slice none 0 0] from pG.out.step hr hc 0 (.int .i64 (num l 1 2:Nat)));have mh:=hid (pG.out.other mZ.out hr (by omega) (by omega) 0 (.int .i64 (num l 1 2:Nat)))
   clear hr hc hbx;go_wp2_with fail;clear hcl hfr;refine (gN w1.heap.size (w.heap.size+1) 3 253 4 140 l _ ry.out.cur ry.out.arr (by decide) bK.out (by omega) (by rw [HLEN.out]; omega) (by rw [HLEN.out]; omega)).mono ?_;rintro e w5 ⟨rfl,hr,hc⟩;rw [HW3.out];have uY:=hid (ry.out.move hr hc);have mg:=hid (mh.out.grown hr (by simp; omega));clear hr hc;go_wp2_with fail;refine (gN w1.heap.size (w.heap.size+1) 7 249 5 140 l _ uY.out.cur uY.out.arr (by decide) bK.out (by omega) (by rw [HLEN.out]; omega) (by rw [HLEN.out]; omega)).mono ?_
   rintro e w6 ⟨rfl,hr,hc⟩;rw [WB.out];have oL:=hid (uY.out.move hr hc);have kW:=hid (mg.out.grown hr (by simp; omega));clear hr hc;go_wp2_with fail;refine (mq w1.heap.size (w.heap.size+1) 12 244 240 _ oL.out.cur (by omega) (by omega)).mono ?_;rintro e w7 ⟨⟨k6,rfl,kQ⟩,hr,hc⟩;obtain rfl:=kQ (by omega);have hbx:=oL.out.box.grown hr (by simp);have hcl:=hbx.cell 2;have hfr:=hbx.frozen 2;simp only [akb,aka,akc] at hcl
   have nL:=hid (show Rd w (w7.setCell ⟨w1.heap.size+1,2,none⟩ (.slice (some ⟨w.heap.size+1,12,none⟩) 240 240)) w1.heap.size (w.heap.size+1) (w1.heap.size+1) 252 4 140 90 l #[.int .i64 (num l 1 2:Nat),.int .i64 (num l 0 1:Nat),.slice (some ⟨w.heap.size+1,12,none⟩) 240 240] from oL.out.step hr hc 2 _);have QS:=hid (oL.out.other kW.out hr (by omega) (by omega) 2 (.slice (some ⟨w.heap.size+1,12,none⟩) 240 240))
   clear hr hc hbx;have y0:=nL.out.box.cell 0; have y1:=nL.out.box.cell 1; have y2:=nL.out.box.cell 2;simp only [akb,aka,akc] at y0 y1 y2;clear oM pG ry uY oL xH mZ mh mg kW;go_wp2_with fail;have pR:=hid (YJ (b:=w1.heap.size) nL.out.arr HLEN.out bK.out (by omega));generalize num l 0 1=k at *;generalize num l 1 2=m at *;generalize num l 3 4=ep at *
   generalize num l 7 5=sq at *;refine (yn b w1.heap.size ep sq m k _ 240 240 (fq l) _ (HR.out.keep nL.out.grown (by simp)) pR.out).mono ?_;clear y0 y1 y2;rintro e w8 hG;have jv:=hid (QS.out.grown hG.1 (by simp)); have j4:=hid (nL.out.grown.trans hG.1); have Bh:=hid (nL.out.box.grown hG.1 (by simp)); have HA8:=hid (nL.out.arr.grown hG.1 (by simp));have yE:=hid hG.2;clear hG;have x0:=jv.out.cell 0; have x1:=jv.out.cell 1; have x2:=jv.out.cell 2; have f0:=jv.out.frozen 0; have f1:=jv.out.frozen 1; have f2:=jv.out.frozen 2
   simp only [akb,aka,akc] at x0 x1 x2;have y0:=Bh.out.cell 0; have y1:=Bh.out.cell 1; have y2:=Bh.out.cell 2;simp only [akb,aka,akc] at y0 y1 y2;rcases yE.out with ⟨l',g3,ho,rfl,_,hb3,hlt3⟩ | ⟨ho,rfl⟩
   · have HB3:=hid (rf (b:=w8.heap.size) hb3 (by have:=hb3.lt; omega) hlt3); have HW:=hid ho;have kX:=hid (bP j3.out j4.out);clear ho hb3;go_wp2_with fail;refine (vK _ _ A _ _ _ c _ l l' _ kX.out HB3.out).mono ?_;rintro e w9 ⟨rfl,rfl⟩
     cases hd:decide (l=l') with
     | true =>
       have hl:=of_decide_eq_true hd;have xI:=hid (show r=some ((ep:Int),(sq:Int),(m:Int),(k:Int),fq l) by rw [ER.out,if_pos (by rw [HW.out,<-hl])]);clear hd hl;go_wp2_with fail
       go_region
       all_goals
        go_wp2_with fail;refine mF rfl w.heap.size 90 _ _ rfl (af.zR jv.out.drew) Tryz.underlying90 rfl (by kernel_rfl) rfl ⟨?_,.inl ⟨_,_,_,_,fq l,_,xI.out,rfl,Wv (((HA8.out.drew.far (by simp) _).far (by simp) _).far (by simp) _) (by omega) HLEN.out bK.out⟩⟩;refine World.grownBy.trans ?_ (ah _ none)
        repeat (refine bC ?_ (akf _) _)
        exact j4.out
     | false =>
       have hl:=of_decide_eq_false hd;have xI:=hid (show r=none by rw [ER.out,if_neg (by rw [HW.out]; simpa using λe=>hl e.symm)]);clear hd hl;go_wp2_with fail;refine mF rfl w.heap.size 90 _ _ rfl (af.zR jv.out) Tryz.underlying90 rfl (by kernel_rfl) rfl ⟨?_,.inr ⟨xI.out,rfl⟩⟩
       repeat (refine bC ?_ (akf _) _)
       exact j4.out
   · have xI:=hid (show r=none by rw [ER.out,if_neg (by rw [ho]; simp)]);clear ho;go_wp2_with fail;refine (vJ A none _ 0 c 0 _).mono ?_;rintro e w9 ⟨rfl,rfl⟩;go_wp2_with fail;refine mF rfl w.heap.size 90 _ _ rfl (af.zR jv.out) Tryz.underlying90 rfl (by kernel_rfl) rfl ⟨?_,.inr ⟨xI.out,rfl⟩⟩
     repeat (refine bC ?_ (akf _) _)
     exact j4.out
 · have hno:=PH l (by rw [HLEN.out]; exact lC);have bD:=hid hno; clear hno;generalize fe l=r at *;go_enter Tryz.func171,Tryz.ntmps171;go_wp2_with fail;refine (vG b A n c _ lC).mono ?_;rintro e w1 ⟨rfl,rfl⟩;go_wp2_with fail;exact mF rfl w.heap.size 90 _ _ rfl (jR.out.alloc _) Tryz.underlying90 rfl (by kernel_rfl) rfl ⟨bz.out.trans (aj9 _ _ none),.inr ⟨bD.out,rfl⟩⟩
def N9 (w:World) (r:Option (Int × Int × List Int × Nat)) (e:Ending) (w':World):Prop :=
 w.grownBy w' none/\((∃ ak seq pages sum v,r=some (ak,seq,pages,sum)/\e=.returned (.tuple #[.agg #[.int .i64 ak,.int .i64 seq,v,.int .u32 (sum:Nat)],.bool true])/\Own w' w.heap.size 3 1 v pages.length (lW pages) /\
  (∀ x∈pages,-9223372036854775808<=x/\x<=9223372036854775807)/\sum < 4294967296) \/
  (r=none/\e=.returned (.tuple #[.agg #[.int .i64 0,.int .i64 0,.slice none 0 0,.int .u32 0],.bool false])))
theorem Jc (b b2:Nat) (A:Option Addr) (n c:Nat) (l:List Nat) (w:World) (hR:Ready w b) (hl:Bytes w b2 A n l) :
 Calls Tryz.prog 159 #[.pointer (some ⟨b,0,none⟩),.slice A n c] w (N9 w (eU l)):=by
 have hlen:=hl.1;have bK:=hid hl.2.1;have jR:=hid (af.new w 130 #[.int .i64 0,.int .i64 0,.slice none 0 0,.int .u32 0]);have bz:=hid (aj9 w (.cells #[.int .i64 0,.int .i64 0,.slice none 0 0,.int .u32 0] 130) none);have HLEN:=hid hlen; have j3:=hid hl; have HL:=hid (bP hl (aj9 w (.cells #[.int .i64 0,.int .i64 0,.slice none 0 0,.int .u32 0] 130) none)); have HR:=hid hR; clear hlen hl hR
 by_cases lC:n=256
 · subst lC;have hr:eU l=if headW (wrap64 (num l 4 8:Nat)) (wrap64 (num l 12 8:Nat)) (eY l 26 4 4 (min (num l 24 2) 40)) (num l 20 4)=some l then some (wrap64 (num l 4 8:Nat),wrap64 (num l 12 8:Nat),eY l 26 4 4 (min (num l 24 2) 40),num l 20 4) else none:=rfl;have hsl:=MG l 20 4 bK.out;have X3:num l 20 4 < 4294967296:=hsl;have hmore:40 < num l 24 2->eU l=none:=λh=>by
    rw [hr,if_neg (λe=>?_)];have:=(Eu X3 e).2.2.2.1;rw [iW] at this;omega
   have HRR:=hid hr; have ZO:=hid hmore; have yB:=hid X3; clear hr hmore hsl X3;have HW2:=hid (gy l 20 4 bK.out (by omega)).1;have HW3:=hid (gy l 24 2 bK.out (by omega)).1;generalize eU l=r at *;go_enter Tryz.func159,Tryz.ntmps159;go_wp2_with fail;refine (tO b b2 A c l _ HL.out).mono ?_;rintro e w1 ⟨rfl,hg1,hb1⟩;rw [World.size_alloc] at hb1 ⊢;have Cu:=jR.out.grown hg1 (by simp);have hsz1:=hg1.size
   rw [World.size_alloc] at hsz1;have hgw:=bz.out.trans hg1;have hc1:=Dz w1 (w.heap.size+1) 256 0 rfl;have HB1:=hid (hb1.alloc (.cells #[.slice (some ⟨w.heap.size+1,0,none⟩) 256 256] 153)); have l9:=hid hc1;have Wz:=hid (Cu.alloc (.cells #[.slice (some ⟨w.heap.size+1,0,none⟩) 256 256] 153));have az:=hid (hgw.trans (aj9 w1 (.cells #[.slice (some ⟨w.heap.size+1,0,none⟩) 256 256] 153) none))
   have hlt1:=hb1.lt;clear hg1 hb1 Cu hgw hc1;go_wp2_with fail;refine (mq _ _ 0 256 4 _ l9.out (by omega) (by omega)).mono ?_;rintro e w2 ⟨⟨k0,rfl,_⟩,hr,hc2⟩;have hsz2:=hr.size;rw [World.size_alloc] at hsz2;have oM:=hid (Fq (tU:=130) (cs:=#[.int .i64 0,.int .i64 0,.slice none 0 0,.int .u32 0]) (aI az.out hr (λj hj=>by cases hj; omega)) hc2 (HB1.out.grown hr (by simp; omega)) (by omega) (by omega) (by omega))
   have xH:=hid ((Wz.out.grown hr (by simp; omega)).alloc (.cells #[.int .i64 0,.int .i64 0,.slice none 0 0,.int .u32 0] 130));clear hr hc2;generalize w1.heap.size=p at *;go_wp2_with fail;refine (gN p (w.heap.size+1) 4 252 8 140 l _ oM.out.cur oM.out.arr (by decide) bK.out (by omega) (by rw [HLEN.out]; omega) (by rw [HLEN.out]; omega)).mono ?_;rintro e w3 ⟨rfl,hr,hc⟩;generalize wrap64 ((num l 4 8:Nat):Int)=ep at *
   have hbx:=oM.out.box.grown hr (by simpa using λe=>oM.out.pu e.symm);have hcl:=hbx.cell 0;have hfr:=hbx.frozen 0;simp only [akb,aka] at hcl;have pG:=hid (show Rd w (w3.setCell ⟨w2.heap.size,0,none⟩ (.int .i64 ep)) p (w.heap.size+1) w2.heap.size 12 244 140 130 l #[.int .i64 ep,.int .i64 0,.slice none 0 0,.int .u32 0] from oM.out.step hr hc 0 (.int .i64 ep));have mZ:=hid (oM.out.other xH.out hr (by omega) (by omega) 0 (.int .i64 ep))
   clear hr hc hbx;go_wp2_with fail;clear hcl hfr;refine (gN p (w.heap.size+1) 12 244 8 140 l _ pG.out.cur pG.out.arr (by decide) bK.out (by omega) (by rw [HLEN.out]; omega) (by rw [HLEN.out]; omega)).mono ?_;rintro e w4 ⟨rfl,hr,hc⟩;generalize wrap64 ((num l 12 8:Nat):Int)=sq at *;have hbx:=pG.out.box.grown hr (by simpa using λe=>pG.out.pu e.symm);have hcl:=hbx.cell 1;have hfr:=hbx.frozen 1;simp only [akb,aka,akc] at hcl
   have ry:=hid (show Rd w (w4.setCell ⟨w2.heap.size,1,none⟩ (.int .i64 sq)) p (w.heap.size+1) w2.heap.size 20 236 140 130 l #[.int .i64 ep,.int .i64 sq,.slice none 0 0,.int .u32 0] from pG.out.step hr hc 1 (.int .i64 sq));have mh:=hid (pG.out.other mZ.out hr (by omega) (by omega) 1 (.int .i64 sq));clear hr hc hbx;go_wp2_with fail;clear hcl hfr;refine (gN p (w.heap.size+1) 20 236 4 140 l _ ry.out.cur ry.out.arr (by decide) bK.out (by omega) (by rw [HLEN.out]; omega) (by rw [HLEN.out]; omega)).mono ?_
   rintro e w5 ⟨rfl,hr,hc⟩;rw [HW2.out];generalize num l 20 4=sm at *;have hsm:(sm:Int) % 4294967296=sm:=by have:=yB.out; omega
   have hbx:=ry.out.box.grown hr (by simpa using λe=>ry.out.pu e.symm);have hcl:=hbx.cell 3;have hfr:=hbx.frozen 3;simp only [akb,aka,akc] at hcl;have uY:=hid (show Rd w (w5.setCell ⟨w2.heap.size,3,none⟩ (.int .u32 (sm:Nat))) p (w.heap.size+1) w2.heap.size 24 232 140 130 l #[.int .i64 ep,.int .i64 sq,.slice none 0 0,.int .u32 (sm:Nat)] from ry.out.step hr hc 3 (.int .u32 (sm:Nat)))
   have mg:=hid (ry.out.other mh.out hr (by omega) (by omega) 3 (.int .u32 (sm:Nat)));clear hr hc hbx;go_wp2_with fail;clear hcl hfr;clear hsm;refine (gN p (w.heap.size+1) 24 232 2 140 l _ uY.out.cur uY.out.arr (by decide) bK.out (by omega) (by rw [HLEN.out]; omega) (by rw [HLEN.out]; omega)).mono ?_;rintro e w6 ⟨rfl,hr,hc⟩;rw [HW3.out];have oL:=hid (uY.out.move hr hc);have kW:=hid (mg.out.grown hr (by simp; omega))
   clear hr hc oM pG ry uY Wz xH mZ mh mg
   by_cases h8:40 < num l 24 2
   · have bD:=hid (ZO.out h8);have agE:(40:Int) < ((num l 24 2:Nat):Int):=by omega
     have x0:=kW.out.cell 0; have x1:=kW.out.cell 1; have x2:=kW.out.cell 2; have x3:=kW.out.cell 3; have f0:=kW.out.frozen 0; have f1:=kW.out.frozen 1; have f2:=kW.out.frozen 2; have f3:=kW.out.frozen 3;simp only [akb,aka,akc] at x0 x1 x2 x3;go_wp2_with fail;refine di rfl w.heap.size 130 _ _ rfl (af.Fh kW.out) Tryz.underlying130 rfl (by kernel_rfl) rfl ⟨?_,.inr ⟨bD.out,rfl⟩⟩
     repeat (refine bC ?_ (akf _) _)
     exact oL.out.grown
   · obtain ⟨N,hN⟩:∃ N,N=num l 24 2:=⟨_,rfl⟩;have ajf:N<=40:=by omega
     have ER:=hid (show r=if headW ep sq (eY l 26 4 4 N) sm=some l then some (ep,sq,eY l 26 4 4 N,sm) else none by rw [HRR.out,Nat.min_eq_left (by omega),<-hN]);rw [<-hN];clear h8 hN HRR ZO;have agE:¬ ((40:Int) < ((N:Nat):Int)):=by omega
     go_wp2_with fail;refine (Pk p (w.heap.size+1) 26 230 N 4 140 l _ oL.out.cur oL.out.arr (by decide) bK.out (by omega) (by rw [HLEN.out]; omega) (by rw [HLEN.out]; omega) (by omega) (by omega)).mono ?_;rintro e w7 ⟨v,rfl,hown,hr,hc⟩;have HRG:=hid (Gx l 26 4 4 N bK.out (by omega));obtain ⟨A7,c7,rfl,_,_,_⟩:=wZ hown HRG.out;have hbx:=oL.out.box.grown hr (by simpa using λe=>oL.out.pu e.symm);have hcl:=hbx.cell 2
     have hfr:=hbx.frozen 2;simp only [akb,aka,akc] at hcl;have nL:=hid (show Rd w (w7.setCell ⟨w2.heap.size,2,none⟩ (.slice A7 N c7)) p (w.heap.size+1) w2.heap.size (26+4 * N) (230 - 4 * N) 140 130 l #[.int .i64 ep,.int .i64 sq,.slice A7 N c7,.int .u32 (sm:Nat)] from oL.out.step hr hc 2 _);have QS:=hid (oL.out.other kW.out hr (by omega) (by omega) 2 (.slice A7 N c7))
     have HOW:=hid (Own.jw (g:=w2.heap.size) (i:=2) hown oL.out.box.lt (.slice A7 N c7));have ai0:=oL.out.box.lt;clear hr hc hbx hown;have y0:=nL.out.box.cell 0; have y1:=nL.out.box.cell 1; have y2:=nL.out.box.cell 2; have y3:=nL.out.box.cell 3;simp only [akb,aka,akc] at y0 y1 y2 y3;go_wp2_with fail;obtain ⟨A7',Zw,he7,hin,_,_⟩:=wZ HOW.out HRG.out
     simp only [Value.slice.injEq,true_and] at he7;obtain ⟨rfl,rfl⟩:=he7;have pM:=hid hin; clear hin;refine (zB b _ ep sq A7 N c7 (eY l 26 4 4 N) sm _ (HR.out.keep nL.out.grown (by simp)) pM.out (by omega) yB.out).mono ?_;clear y0 y1 y2 y3 hcl hfr;rintro e w8 hG;have jv:=hid (QS.out.grown hG.1 (by simp)); have j4:=hid (nL.out.grown.trans hG.1); have Bh:=hid (nL.out.box.grown hG.1 (by simp)); have agS:=hid (HOW.out.keep hG.1 (by simp))
     have yE:=hid hG.2;clear hG;have x0:=jv.out.cell 0; have x1:=jv.out.cell 1; have x2:=jv.out.cell 2; have x3:=jv.out.cell 3; have f0:=jv.out.frozen 0; have f1:=jv.out.frozen 1; have f2:=jv.out.frozen 2; have f3:=jv.out.frozen 3;have y0:=Bh.out.cell 0; have y1:=Bh.out.cell 1; have y2:=Bh.out.cell 2; have y3:=Bh.out.cell 3;have hul:=Bh.out.lt;simp only [akb,aka,akc] at x0 x1 x2 x3 y0 y1 y2 y3
     rcases yE.out with ⟨l',g3,ho,rfl,_,hb3,hlt3⟩ | ⟨ho,rfl⟩
     · have HB3:=hid (rf (b:=w8.heap.size) hb3 (by have:=hb3.lt; omega) hlt3); have HW:=hid ho;have kX:=hid (bP j3.out j4.out);clear ho hb3;go_wp2_with fail;refine (vK _ _ A _ _ _ c _ l l' _ kX.out HB3.out).mono ?_;rintro e w9 ⟨rfl,rfl⟩
       cases hd:decide (l=l') with
       | true =>
         have hl:=of_decide_eq_true hd;have xI:=hid (show r=some (ep,sq,eY l 26 4 4 N,sm) by rw [ER.out,if_pos (by rw [HW.out,<-hl])]);clear hd hl;go_wp2_with fail;refine di rfl w.heap.size 130 _ _ rfl (af.Fh jv.out) Tryz.underlying130 rfl (by kernel_rfl) rfl ⟨?_,.inl ⟨ep,sq,eY l 26 4 4 N,sm,_,xI.out,rfl,?_,HRG.out,yB.out⟩⟩
         · repeat (refine bC ?_ (akf _) _)
           exact j4.out
         · rw [iW];exact (Own.jw (Own.jw (Own.jw (Own.jw agS.out (by omega) _) (by omega) _) (by omega) _) (by omega) _).low (by omega)
       | false =>
         have hl:=of_decide_eq_false hd;have xI:=hid (show r=none by rw [ER.out,if_neg (by rw [HW.out]; simpa using λe=>hl e.symm)]);clear hd hl;go_wp2_with fail;refine di rfl w.heap.size 130 _ _ rfl (af.Fh jv.out) Tryz.underlying130 rfl (by kernel_rfl) rfl ⟨?_,.inr ⟨xI.out,rfl⟩⟩
         repeat (refine bC ?_ (akf _) _)
         exact j4.out
     · have xI:=hid (show r=none by rw [ER.out,if_neg (by rw [ho]; simp)]);clear ho;go_wp2_with fail;refine (vJ A none _ 0 c 0 _).mono ?_;rintro e w9 ⟨rfl,rfl⟩;go_wp2_with fail;refine di rfl w.heap.size 130 _ _ rfl (af.Fh jv.out) Tryz.underlying130 rfl (by kernel_rfl) rfl ⟨?_,.inr ⟨xI.out,rfl⟩⟩
       repeat (refine bC ?_ (akf _) _)
       exact j4.out
 · have hno:=Sr l (by rw [HLEN.out]; exact lC);have bD:=hid hno; clear hno;generalize eU l=r at *;go_enter Tryz.func159,Tryz.ntmps159;go_wp2_with fail;refine (vG b A n c _ lC).mono ?_;rintro e w1 ⟨rfl,rfl⟩;go_wp2_with fail;exact di rfl w.heap.size 130 _ _ rfl (jR.out.alloc _) Tryz.underlying130 rfl (by kernel_rfl) rfl ⟨bz.out.trans (aj9 _ _ none),.inr ⟨bD.out,rfl⟩⟩
theorem Mk (b:Nat) (A:Option Addr) (n c:Nat) (l:List Nat) (w:World) (hl:Bytes w b A n l) (hn:n<=9223372036854775807) :
 Calls Tryz.prog 76 #[.slice A n c] w (N9 w (eU l)):=by
 obtain ⟨i0,hi0,hz0,hz1,hz2⟩:=info_parts qI;have hi:=hid hi0; have z0:=hid hz0; have z1:=hid hz1; have z2:=hid hz2; clear hi0 hz0 hz1 hz2;have hr:eU l=if headW (wrap64 (num l 4 8:Nat)) (wrap64 (num l 12 8:Nat)) (eY l 26 4 4 (min (num l 24 2) 40)) (num l 20 4)=some l then some (wrap64 (num l 4 8:Nat),wrap64 (num l 12 8:Nat),eY l 26 4 4 (min (num l 24 2) 40),num l 20 4) else none:=rfl;have HR:=hid hr; clear hr
 have bK:=hid hl.2.1;have hsl:num l 20 4 < 4294967296:=MG l 20 4 bK.out;have yB:=hid hsl; clear hsl;have hg0:=aj9 w (.cells #[.int .i64 0,.int .i64 0,.slice none 0 0,.int .u32 0] 130) none;have j3:=hid (bP hl hg0);have HL:=hid hl; clear hl hg0;have HW2:=hid (gy l 20 4 bK.out (by omega)).1;have HW3:=hid (gy l 24 2 bK.out (by omega)).1;have HZ:=hid ((af.new w 130 #[.int .i64 0,.int .i64 0,.slice none 0 0,.int .u32 0]))
 generalize eU l=r at *;obtain ⟨ep,fG⟩:∃ ep,wrap64 (num l 4 8:Nat)=ep:=⟨_,rfl⟩;obtain ⟨sq,mf⟩:∃ sq,wrap64 (num l 12 8:Nat)=sq:=⟨_,rfl⟩;obtain ⟨sm,hsm⟩:∃ sm,num l 20 4=sm:=⟨_,rfl⟩;rw [fG,mf,hsm] at HR;rw [hsm] at yB HW2;have EZ:=hid fG; have CR:=hid mf; have Ht:=hid hsm; clear fG mf hsm;have aec:(sm:Int) % 4294967296=sm:=by have:=yB.out; omega
 obtain ⟨N,hN⟩:∃ N,N=min (num l 24 2) 40:=⟨_,rfl⟩;have HN:=hid hN;have hN8:N<=40:=by omega
 have hNx:N<=num l 24 2:=by omega
 have hNe:N=40\/N=num l 24 2:=by omega
 have rF:=hid hNe; have CX:=hid hNx;clear hN hNe hNx;obtain ⟨M,hM⟩:∃ M,num l 24 2=M:=⟨_,rfl⟩;rw [hM] at rF CX HW3 HN;have HM:=hid hM; clear hM;go_enter Tryz.func76,Tryz.ntmps76;go_wp2_with fail;refine (eQ b A n c l 4 8 _ j3.out (by omega)).mono ?_;rintro e w1 ⟨rfl,rfl⟩;rw [EZ.out];go_wp2_with fail;refine (eQ b A n c l 12 8 _ j3.out (by omega)).mono ?_;rintro e w1 ⟨rfl,rfl⟩;rw [CR.out];go_wp2_with fail
 refine (eQ b A n c l 20 4 _ j3.out (by omega)).mono ?_;rintro e w1 ⟨rfl,rfl⟩;rw [Ht.out,HW2.out];have hinit:af ((w.alloc (.cells #[.int .i64 0,.int .i64 0,.slice none 0 0,.int .u32 0] 130)).alloc (.cells #[.int .i64 ep,.int .i64 sq,.slice none 0 0,.int .u32 (sm:Nat)] 130)) (w.heap.size+1) 130 #[.int .i64 ep,.int .i64 sq,.slice none 0 0,.int .u32 (sm:Nat)]:=by
  simpa using af.new (w.alloc (.cells #[.int .i64 0,.int .i64 0,.slice none 0 0,.int .u32 0] 130)) 130 #[.int .i64 ep,.int .i64 sq,.slice none 0 0,.int .u32 (sm:Nat)]
 have aeu:=hid hinit; clear hinit;have Ie:=hid (bP j3.out (aj9 _ (.cells #[.int .i64 ep,.int .i64 sq,.slice none 0 0,.int .u32 (sm:Nat)] 130) none));go_wp2_with fail;refine (eQ b A n c l 24 2 _ Ie.out (by omega)).mono ?_;rintro e w1 ⟨rfl,rfl⟩;rw [HM.out,HW3.out];clear aec;go_wp2_with fail
 go_loopw [6] (λi wr=>∃ (j:Nat) (vk:Value),j<=N/\i=.int .i64 j/\af wr (w.heap.size+1) 130 #[.int .i64 ep,.int .i64 sq,vk,.int .u32 (sm:Nat)]/\af wr w.heap.size 130 #[.int .i64 0,.int .i64 0,.slice none 0 0,.int .u32 0] /\
  Own wr (w.heap.size+2) 3 1 vk j (lW (eY l 26 4 4 j))/\w.grownBy wr none) (λi _=>N - (intOf i).toNat)
 case atStart=>exact ⟨0,_,by omega,rfl,aeu.out,HZ.out.alloc _,Own.nil _ _ _ _,(aj9 w _ none).trans (aj9 _ _ none)⟩
 case round =>
  obtain ⟨j,vk,hj,rfl,hbk,hbz,hok,hg⟩:=hrel;have fD:=hid hbk; have HBZ:=hid hbz; have aU:=hid hok; have HG:=hid hg;have HLr:=hid (bP HL.out hg);clear hbk hbz hok hg
  by_cases hlt:j < N
  · have hx1:(j:Int) < (M:Nat):=by have:=CX.out; omega
    have h8:(j:Int) < 40:=by omega
    have hk2:=fD.out.cell 2;have hkl:=fD.out.lt;have hkf:=fD.out.frozen 2;have WB:=hid (gy l (26+4 * j) 4 bK.out (by omega)).1;simp only [akb,aka,akc] at hk2;have wa:=IntWalk.i64_in (4 * (j:Int)) (by omega);have wb:=IntWalk.i64_in (26+4 * (j:Int)) (by omega);go_wp2_with fail
    go_region_law (first
     | (refine rP _ rfl (.tmp 29) (.tmp 35) _ rfl (w.heap.size+2) 3 i0 _ 1 8 Tryz.underlying45 hi.out z0.out z1.out z2.out rfl (by omega) vk j _ (by simp [Act.eval]) (aU.out.drew.alloc _)
         _ _ 1 1 _ (by simp [Act.eval]) (qz _ _) (λu hu=>by simp at hu; subst hu; rfl) (by simp only [maxLen]; omega) (by omega) (by have:=fD.out.lt; simp; omega) ?_
        intro v' w' hown' dC;obtain ⟨A2,c2,hv2,_,_,_⟩:=hown'.shape;subst hv2;have hb1:=(fD.out.drew.alloc _).grown dC.1 (λe=>by have:=(aU.out.bH _ e.symm).1; omega);have hc1':=hb1.cell 2;have agu:=hb1.frozen 2;simp only [akb,aka,akc] at hc1';have Y6:=hid hb1;have kr:=hid hown'; have TD:=hid dC; clear hown' dC hb1)
     | (go_simp
        go_at_call 117
        rw [show (26+4 * (j:Int))=((26+4 * j:Nat):Int) from by omega];refine (eQ b A n c l (26+4 * j) 4 _ (wH HLr.out) (by omega)).mono ?_;rintro e w2 ⟨rfl,rfl⟩;rw [WB.out]))
    all_goals
     clear wa wb;go_wp2_with fail
     go_roundw
     case measure=>simp [intOf]; omega
     case rel =>
      have hne1:∀ q,q < w.heap.size+2->some q≠vk.ownBlock:=λq hq e=>by have:=(aU.out.bH _ e.symm).1; omega
      refine ⟨j+1,_,by omega,by go_num,Y6.out.aC 2 _,((HBZ.out.drew.alloc _).grown TD.out.1 (hne1 _ (by omega))).far (by simp) _,?_,?_⟩
      · have h:=Own.jw (g:=w.heap.size+1) (i:=2) kr.out (by omega) (Value.slice A2 (j+1) c2);rw [Eh,uz];exact h
      · exact bC (aI ((HG.out.trans (ah _ none)).trans (aj9 _ _ none)) TD.out.1 (λq hq=>by have:=(aU.out.bH q hq).1; omega)) (by omega) _
  · obtain rfl:N=j:=by omega
    have hrk:=Gx l 26 4 4 N bK.out (by omega);obtain ⟨A1,c1,rfl,hi1,_,_⟩:=wZ aU.out hrk;have HRK:=hid hrk; have HI1:=hid hi1;clear hrk hi1;have hk0:=fD.out.cell 0;have hk1:=fD.out.cell 1;have hk2:=fD.out.cell 2;have hk3:=fD.out.cell 3;have hkl:=fD.out.lt;simp only [akb,aka,akc] at hk0 hk1 hk2 hk3;have aeb:(¬ (N:Int) < (M:Nat))\/((N:Int) < (M:Nat)/\¬ (N:Int) < 40):=by rcases rF.out with h | h <;> omega
    rcases aeb with hx | ⟨hx,h8⟩
    all_goals
     go_wp2_with fail;refine (BO _ ep sq A1 N c1 _ sm _ HI1.out yB.out).mono ?_;rintro e w3 ⟨hg3,⟨l',v3,ho3,rfl,hown3,hlt3⟩ | ⟨ho3,rfl⟩⟩
     · obtain ⟨A3,c3,rfl,hb3,_,sj⟩:=nZ hown3 hlt3;have hl3:l'.length<=9223372036854775807:=by simp only [maxLen] at sj; omega
       have HB3:=hid hb3; have pK:=hid ho3;have kX:=hid (bP HLr.out hg3); have aZ:=hid (HG.out.trans hg3);have ahg:=hid (fD.out.grown hg3 (by simp)); have adS:=hid (HBZ.out.grown hg3 (by simp));have agY:=hid (aU.out.keep hg3 (by simp));clear hb3 ho3 hown3 hg3 hk0 hk1 hk2 hk3 hkl
       cases hd:decide (l'=l) with
       | true =>
         have HD:=hid hd; clear hd;go_wp2_with fail;refine (tJ _ _ A3 A _ n c3 c l' l _ HB3.out kX.out hl3 hn).mono ?_;rintro e w4 ⟨rfl,hdr⟩;have hg4:=lF hdr none;have cB:=hid (aZ.out.trans hg4);have iP:=hid (adS.out.grown hg4 (by simp));have agX:=hid (agY.out.keep hg4 (by simp));have I5:=ahg.out.grown hg4 (by simp);have hk0:=I5.cell 0;have hk1:=I5.cell 1;have hk2:=I5.cell 2;have hk3:=I5.cell 3;have hkl:=I5.lt
         have Nc:=iP.out.cell 0;have Nb:=iP.out.cell 1;have IX:=iP.out.cell 2;have Na:=iP.out.cell 3;have abD:=iP.out.frozen 0;have abC:=iP.out.frozen 1;have abB:=iP.out.frozen 2;have abA:=iP.out.frozen 3;simp only [akb,aka,akc] at hk0 hk1 hk2 hk3 Nc Nb IX Na;clear hdr hg4 I5;rw [HD.out];go_wp2_with fail;refine di rfl w.heap.size 130 _ _ rfl (af.Fh iP.out) Tryz.underlying130 rfl (by kernel_rfl) rfl ⟨?_,.inl ⟨ep,sq,eY l 26 4 4 N,sm,_,?_,rfl,?_,HRK.out,yB.out⟩⟩
         · repeat (refine bC ?_ (akf _) _)
           exact cB.out
         · have hl:=of_decide_eq_true HD.out;subst hl;rw [HR.out,HM.out,<-HN.out,if_pos pK.out]
         · rw [iW];exact (Own.jw (Own.jw (Own.jw (Own.jw agX.out (by omega) _) (by omega) _) (by omega) _) (by omega) _).low (by omega)
       | false =>
         have HD:=hid hd; clear hd;go_wp2_with fail;refine (tJ _ _ A3 A _ n c3 c l' l _ HB3.out kX.out hl3 hn).mono ?_;rintro e w4 ⟨rfl,hdr⟩;have hg4:=lF hdr none;have cB:=hid (aZ.out.trans hg4);have iP:=hid (adS.out.grown hg4 (by simp));have Nc:=iP.out.cell 0;have Nb:=iP.out.cell 1;have IX:=iP.out.cell 2;have Na:=iP.out.cell 3;have abD:=iP.out.frozen 0;have abC:=iP.out.frozen 1;have abB:=iP.out.frozen 2
         have abA:=iP.out.frozen 3;simp only [akb,aka,akc] at Nc Nb IX Na;clear hdr hg4;rw [HD.out];go_wp2_with fail;refine di rfl w.heap.size 130 _ _ rfl (af.Fh iP.out) Tryz.underlying130 rfl (by kernel_rfl) rfl ⟨?_,.inr ⟨?_,rfl⟩⟩
         · repeat (refine bC ?_ (akf _) _)
           exact cB.out
         · have hl:=of_decide_eq_false HD.out;rw [HR.out,HM.out,<-HN.out,if_neg (by rw [pK.out]; simpa using hl)]
     · have aZ:=hid (HG.out.trans hg3); have pK:=hid ho3;have iP:=hid (HBZ.out.grown hg3 (by simp));have Nc:=iP.out.cell 0;have Nb:=iP.out.cell 1;have IX:=iP.out.cell 2;have Na:=iP.out.cell 3;have abD:=iP.out.frozen 0;have abC:=iP.out.frozen 1;have abB:=iP.out.frozen 2;have abA:=iP.out.frozen 3;simp only [akb,aka,akc] at Nc Nb IX Na;clear hg3 ho3 hk0 hk1 hk2 hk3 hkl
       go_wp2_with fail;refine di rfl w.heap.size 130 _ _ rfl (af.Fh iP.out) Tryz.underlying130 rfl (by kernel_rfl) rfl ⟨?_,.inr ⟨?_,rfl⟩⟩
       · repeat (refine bC ?_ (akf _) _)
         exact aZ.out
       · rw [HR.out,HM.out,<-HN.out,if_neg (by rw [pK.out]; simp)]
end Go.Proofs.YtinajlbijgedbaaGreat.Codec
