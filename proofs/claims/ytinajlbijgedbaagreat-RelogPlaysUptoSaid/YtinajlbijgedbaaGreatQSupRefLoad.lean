/- Texts of this seat's proofs: SupRefLoad. -/
import Derived.Test.YtinajlbijgedbaaGreatQLogSmall
import Derived.Test.YtinajlbijgedbaaGreatQSupRefSave
import Derived.WalkLawsBesides
import Derived.Deep.RegionLaw
import Derived.Deep.DeepCutAuto
set_option maxRecDepth 100000
set_option maxHeartbeats 16000000
namespace Go.Proofs.YtinajlbijgedbaaGreat.Sup
open Lib (hid)
open Go.RowKit CrcMath CodecMath Mem Crc Codec DiskSpec Dsk
theorem tkA {P:Program} {ops:Array Oper} {Q:Exit->Act->World->Prop} {md:Region.Mode} {S:World->Prop} {i:Nat} {oi:Oper} {v:Value} {fuel:Nat} {listed:Array Bool} {a:Act} {w:World} (hi:ops[i]?=some oi) (hy:YieldsIf P ops S oi v a) (h:wpAnyH P md ops Q S fuel (listed.setIfInBounds i true) (a.put oi.dst v) w) (hs:Region.noSelect ops=true:=by kernel_rfl) (hf:Region.free md ops listed i=true:=by kernel_rfl) (hr:(Region.ready md ops listed).contains i=true:=by kernel_rfl) (hQ:∀ c a w,Q (.panic c) (a.put oi.dst v) w->Q (.panic c) a w:=by exact λ_ _ _ h=>h) (hS:S w:=by assumption):wpAnyH P md ops Q S (fuel+1) listed a w:=wpAnyH_take hi hs hf hr hQ hy hS h
def Sx (S:St):Nat->St
 | 0=>S
 | 1=>(aH S 0 1).2
 | _=>mH S
def Ex (S:St):Nat->Int
 | 0=>(aH S 0 1).1
 | _=>(aH (aH S 0 1).2 1 1).1
def Lx (S:St):Nat->List Nat
 | 0=>dz S 0 1
 | _=>dz (aH S 0 1).2 1 1
def fx (S:St):Nat->Bool
 | 0=>false
 | 1=>decide ((aH S 0 1).1≠0)
 | _=>decide ((aH S 0 1).1≠0\/(aH (aH S 0 1).2 1 1).1≠0)
theorem aaH (S:St) (j:Nat) (hj:j < 2):fx S (j+1)=(fx S j || decide (Ex S j≠0)):=by
 obtain rfl | rfl:j=0\/j=1:=by omega
 · simp [fx,Ex]
 · simp [fx,Ex,Bool.decide_or]
theorem adZ {S:St} (h:2<=S.n) (j:Nat) (hj:j < 2):Ex S j=0\/Ex S j=10:=by
 obtain rfl | rfl:j=0\/j=1:=by omega
 · exact qU h 0 (by omega)
 · exact qU (S:=(aH S 0 1).2) (by rw [nC]; exact h) 1 (by omega)
theorem aep {S:St} (h:S.ok) (j:Nat):∀ x∈Lx S j,x < 256:=by
 unfold Lx
 split
 · exact qR h 0 1
 · exact qR (Fp h 0 1) 1 1
theorem agH (S:St) (j:Nat):(Sx S j).n=S.n:=by
 unfold Sx
 split
 · rfl
 · exact nC _ _ _
 · unfold mH; rw [nC,nC]
theorem Rq {w:World} {B r:Nat} {S:St} {own:Nat->Prop} (j:Nat) (hj:j < 2) (h:bX w B r (Sx S j) own) :
 Calls Tryz.prog 73 #[.pointer (some ⟨r,0,none⟩),.int .i64 (j:Nat),.int .i64 1] w λe w'=>∃ v,e=.returned (.tuple #[v,.int .i64 (Ex S j)])/\Own w' w.heap.size 5 1 v (Lx S j).length (au (Lx S j))/\bX w' B r (Sx S (j+1)) own/\aa w w' own own:=by
 obtain rfl | rfl:j=0\/j=1:=by omega
 · exact rU h 0 1 (by omega) (by omega)
 · exact rU h 1 1 (by omega) (by omega)
structure LR (w wr:World) (own:Nat->Prop) (B r:Nat) (S:St):Prop where
 d:bX wr B r S own
 t:aa w wr own own
 rs:af wr w.heap.size 49 #[.int .i64 0,.int .i64 0,.int .i64 0,.int .i64 0,.int .i64 0,.int .i64 0,.int .i64 0]
section
variable {w wr w':World} {own:Nat->Prop} {B r:Nat} {S S':St}
theorem LR.quiet (h:LR w wr own B r S) (hg:wr.grownBy w' none):LR w w' own B r S :=
 ⟨qV h.d hg (λ_ e=>by cases e),h.t.trans (aa.none_ hg),h.rs.grown hg (by simp)⟩
theorem LR.read (h:LR w wr own B r S) (hl:∀ i,own i->i < w.heap.size) (hd:bX w' B r S' own) (ht:aa wr w' own own):LR w w' own B r S' :=
 ⟨hd,h.t.trans ht,aj h.rs (ht.block _ h.rs.lt (λho=>by have:=hl _ ho; omega))⟩
theorem LR.aC (h:LR w wr own B r S) (hl:∀ i,own i->i < w.heap.size) (i:Nat) (v:Value):LR w (wr.setCell ⟨w.heap.size+1,i,none⟩ v) own B r S:=by
 have hg:wr.grownBy (wr.setCell ⟨w.heap.size+1,i,none⟩ v) (some (w.heap.size+1)):=akd (akr wr _) i v;exact ⟨qV h.d hg (λj e=>by cases e; exact λho=>by have:=hl _ ho; omega),kG h.t hg (by omega),h.rs.grown hg (by simp)⟩
theorem LR.kv (h:LR w wr own B r S) (hl:∀ i,own i->i < w.heap.size) {a0 a1 a2 a3 a4 a5 a6:Value} :
 LR w (((((((wr.setCell ⟨w.heap.size+1,0,none⟩ a0).setCell ⟨w.heap.size+1,1,none⟩ a1).setCell ⟨w.heap.size+1,2,none⟩ a2).setCell ⟨w.heap.size+1,3,none⟩ a3).setCell ⟨w.heap.size+1,4,none⟩ a4).setCell ⟨w.heap.size+1,5,none⟩ a5).setCell ⟨w.heap.size+1,6,none⟩ a6) own B r S :=
 (((((((h.aC hl 0 a0).aC hl 1 a1).aC hl 2 a2).aC hl 3 a3).aC hl 4 a4).aC hl 5 a5).aC hl 6 a6)
theorem qF (hl:∀ i,own i->i < w.heap.size) (h:bX wr B r S own/\aa w wr own own) (i:Nat) (v:Value) :
 bX (wr.setCell ⟨w.heap.size,i,none⟩ v) B r S own/\aa w (wr.setCell ⟨w.heap.size,i,none⟩ v) own own:=by
 have hg:wr.grownBy (wr.setCell ⟨w.heap.size,i,none⟩ v) (some w.heap.size):=akd (akr wr _) i v;exact ⟨qV h.1 hg (λj e=>by cases e; exact λho=>by have:=hl _ ho; omega),kG h.2 hg (akf _)⟩
theorem BN (hl:∀ i,own i->i < w.heap.size) (h:bX wr B r S own/\aa w wr own own) {a0 a1 a2 a3 a4 a5 a6:Value} :
 bX (((((((wr.setCell ⟨w.heap.size,0,none⟩ a0).setCell ⟨w.heap.size,1,none⟩ a1).setCell ⟨w.heap.size,2,none⟩ a2).setCell ⟨w.heap.size,3,none⟩ a3).setCell ⟨w.heap.size,4,none⟩ a4).setCell ⟨w.heap.size,5,none⟩ a5).setCell ⟨w.heap.size,6,none⟩ a6) B r S own /\
 aa w (((((((wr.setCell ⟨w.heap.size,0,none⟩ a0).setCell ⟨w.heap.size,1,none⟩ a1).setCell ⟨w.heap.size,2,none⟩ a2).setCell ⟨w.heap.size,3,none⟩ a3).setCell ⟨w.heap.size,4,none⟩ a4).setCell ⟨w.heap.size,5,none⟩ a5).setCell ⟨w.heap.size,6,none⟩ a6) own own :=
 qF hl (qF hl (qF hl (qF hl (qF hl (qF hl (qF hl h 0 a0) 1 a1) 2 a2) 3 a3) 4 a4) 5 a5) 6 a6
end
theorem IE {w:World} {B r:Nat} {S:St} {own:Nat->Prop} (h:bX w B r S own) (h2:S.n < 2) :
 Calls Tryz.prog 27 #[.pointer (some ⟨r,0,none⟩)] w λe w' =>
  e=.returned (.tuple #[nG (iX S),.int .i64 (gP S)])/\bX w' B r (loadT S) own/\aa w w' own own:=by
 obtain ⟨bl,c,dv,vv,vs,Kc⟩:=h;have hg0:=aj9 w (.cells #[.int .i64 0,.int .i64 0,.int .i64 0,.int .i64 0,.int .i64 0,.int .i64 0,.int .i64 0] 49) none;have hR:=af.new w 49 #[.int .i64 0,.int .i64 0,.int .i64 0,.int .i64 0,.int .i64 0,.int .i64 0,.int .i64 0];have H0:=hid (show bX (w.alloc (.cells #[.int .i64 0,.int .i64 0,.int .i64 0,.int .i64 0,.int .i64 0,.int .i64 0,.int .i64 0] 49)) B r S own from ⟨bl,c,dv,vv,vs,Kc.alloc _⟩)
 have bz:=hid hg0;have hrc:=(Kc.alloc (.cells #[.int .i64 0,.int .i64 0,.int .i64 0,.int .i64 0,.int .i64 0,.int .i64 0,.int .i64 0] 49)).rc;have HR:=hid hR;have HE:=hid (show gP S=1 by unfold gP; rw [if_pos h2]);have HV:=hid (show iX S=jm by unfold iX; rw [if_pos h2]);have yA:=hid (show loadT S=S by unfold loadT; rw [if_pos h2]);have x0:=hR.cell 0; have x1:=hR.cell 1; have x2:=hR.cell 2; have x3:=hR.cell 3; have x4:=hR.cell 4; have x5:=hR.cell 5; have x6:=hR.cell 6
 simp only [akb,aka,akc] at x0 x1 x2 x3 x4 x5 x6;have f0:=hR.frozen 0; have f1:=hR.frozen 1; have f2:=hR.frozen 2; have f3:=hR.frozen 3; have f4:=hR.frozen 4; have f5:=hR.frozen 5; have f6:=hR.frozen 6;have hd2:decide ((S.n:Int) < 2)=true:=by simp; omega
 have hd3:(S.n:Int) < 2:=by omega
 clear hg0 Kc hR h2;generalize S.n=n at *;go_enter Tryz.func27,Tryz.ntmps27;go_wp2_with fail;refine di rfl w.heap.size 49 _ _ rfl HR.out Tryz.underlying49 rfl (by kernel_rfl) rfl ⟨?_,?_⟩
 · rw [HE.out,HV.out]; first | done | rfl
 · rw [yA.out]; exact ⟨H0.out,aa.none_ bz.out⟩
theorem Mi {w:World} {B r:Nat} {S:St} {own:Nat->Prop} (h:bX w B r S own) (h2:¬ S.n < 2) :
 Calls Tryz.prog 27 #[.pointer (some ⟨r,0,none⟩)] w λe w' =>
  e=.returned (.tuple #[nG (iX S),.int .i64 (gP S)])/\bX w' B r (loadT S) own/\aa w w' own own:=by
 obtain ⟨hok,hl,_⟩:=aa9 h;have hn2:2<=S.n:=by omega
 have hg0:=(aj9 w (.cells #[.int .i64 0,.int .i64 0,.int .i64 0,.int .i64 0,.int .i64 0,.int .i64 0,.int .i64 0] 49) none).trans (aj9 (w.alloc (.cells #[.int .i64 0,.int .i64 0,.int .i64 0,.int .i64 0,.int .i64 0,.int .i64 0,.int .i64 0] 49)) (.cells #[.int .i64 0,.int .i64 0,.int .i64 0,.int .i64 0,.int .i64 0,.int .i64 0,.int .i64 0] 49) none);have C8:=hid (show LR w ((w.alloc (.cells #[.int .i64 0,.int .i64 0,.int .i64 0,.int .i64 0,.int .i64 0,.int .i64 0,.int .i64 0] 49)).alloc (.cells #[.int .i64 0,.int .i64 0,.int .i64 0,.int .i64 0,.int .i64 0,.int .i64 0,.int .i64 0] 49)) own B r (Sx S 0) from ⟨qV h hg0 (λ_ e=>by cases e),aa.none_ hg0,(af.new w 49 #[.int .i64 0,.int .i64 0,.int .i64 0,.int .i64 0,.int .i64 0,.int .i64 0,.int .i64 0]).alloc _⟩)
 have HX:=hid (show af ((w.alloc (.cells #[.int .i64 0,.int .i64 0,.int .i64 0,.int .i64 0,.int .i64 0,.int .i64 0,.int .i64 0] 49)).alloc (.cells #[.int .i64 0,.int .i64 0,.int .i64 0,.int .i64 0,.int .i64 0,.int .i64 0,.int .i64 0] 49)) (w.heap.size+1) 49 (Hf ((seen (S.n:Int) (Lx S 0) (Lx S 1) 0).getD qw)) from (show af ((w.alloc (.cells #[.int .i64 0,.int .i64 0,.int .i64 0,.int .i64 0,.int .i64 0,.int .i64 0,.int .i64 0] 49)).alloc (.cells #[.int .i64 0,.int .i64 0,.int .i64 0,.int .i64 0,.int .i64 0,.int .i64 0,.int .i64 0] 49)) (w.heap.size+1) 49 #[.int .i64 0,.int .i64 0,.int .i64 0,.int .i64 0,.int .i64 0,.int .i64 0,.int .i64 0] by simpa using af.new (w.alloc (.cells #[.int .i64 0,.int .i64 0,.int .i64 0,.int .i64 0,.int .i64 0,.int .i64 0,.int .i64 0] 49)) 49 #[.int .i64 0,.int .i64 0,.int .i64 0,.int .i64 0,.int .i64 0,.int .i64 0,.int .i64 0]))
 have hrc:(w.alloc (.cells #[.int .i64 0,.int .i64 0,.int .i64 0,.int .i64 0,.int .i64 0,.int .i64 0,.int .i64 0] 49)).cell? ⟨r,0,none⟩=some (.slice (some ⟨h.choose,0,none⟩) S.n h.choose_spec.choose):=by
  obtain ⟨dv,vv,vs,Kc⟩:=h.choose_spec.choose_spec;exact (Kc.alloc _).rc
 generalize h.choose_spec.choose=c0 at hrc;generalize h.choose=bl0 at hrc;have hd2:decide ((S.n:Int) < 2)=false:=by simp; omega
 have hd3:¬ ((S.n:Int) < 2):=by omega
 have HL:=hid hl;have gW:=hid (λj (hj:j < 2) wx (hx:bX wx B r (Sx S j) own)=>Rq j hj hx);have HFX:=hid (λj (hj:j < 2)=>aaH S j hj);have HEX:=hid (λj (hj:j < 2)=>adZ hn2 j hj);have HLX:=hid (λj=>aep hok j);have l7:=hid (λj=>agH S j);have Yn:seen (S.n:Int) (Lx S 0) (Lx S 1) 2=mW S.n (dz S 0 1) (dz (aH S 0 1).2 1 1):=LU _ _ _;have vU:=hid (show gP S=if fx S 2=true then 10 else if (seen (S.n:Int) (Lx S 0) (Lx S 1) 2).isSome then 0 else 14 by
  rw [Yn]; unfold gP; rw [if_neg h2]; simp only [fx,decide_eq_true_eq])
 have oO:=hid (show iX S=if fx S 2=true then jm else (seen (S.n:Int) (Lx S 0) (Lx S 1) 2).getD jm by
  rw [Yn]; unfold iX; rw [if_neg h2]; simp only [fx,decide_eq_true_eq])
 have yA:=hid (show loadT S=Sx S 2 by unfold loadT; rw [if_neg h2]; rfl);have HF0:=hid (show fx S 0=false from rfl);clear Yn hok hl hg0 h h2 hn2;have hll:∀ j,j < 2->(if j=0 then Lx S 0 else Lx S 1)=Lx S j:=by
  intro j hj;obtain rfl | rfl:j=0\/j=1:=by omega
  · rfl
  · rfl
 have WK:=hid hll;clear hll;generalize gP S=LE at *;generalize iX S=LV at *;generalize loadT S=LT at *;generalize Sx S=SX at *;generalize Ex S=EX at *;generalize Lx S=LX at *;generalize fx S=FX at *;generalize S.n=n at *;go_enter Tryz.func27,Tryz.ntmps27;go_wp2_with fail;clear hrc
 go_loopw [5,6,7,8,9,10,11] (λfo fa i _ _ _ _ wr=>∃ j:Nat,j<=2/\i=.int .i64 j/\fo=.bool (seen (n:Int) (LX 0) (LX 1) j).isSome/\fa=.bool (FX j)/\LR w wr own B r (SX j)/\af wr (w.heap.size+1) 49 (Hf ((seen (n:Int) (LX 0) (LX 1) j).getD qw))) (λ_ _ i _ _ _ _ _=>2 - (Go.RowKit.intOf i).toNat)
 case atStart=>exact ⟨0,by omega,rfl,rfl,by rw [HF0.out],C8.out,HX.out⟩
 case round =>
  clear C8 HX;obtain ⟨j,hj,rfl,rfl,rfl,hld,hx⟩:=hrel
  by_cases hlt:j < 2
  · have hstep:=BJ (n:Int) (LX 0) (LX 1) j;have GI:=zS (n:Int) (LX 0) (LX 1) j;rw [WK.out j hlt] at hstep;have gJ:=hid hstep; have dO:=hid hld; have HX:=hid hx; have yB:=hid GI;have agN:=hid (gW.out j hlt);have TE:=hid (HFX.out j hlt);have aha:=hid (HEX.out j hlt);have ag3:=hid (HLX.out j);have agL:=hid (l7.out (j+1));clear hstep hld hx GI;generalize ho1:seen (n:Int) (LX 0) (LX 1) (j+1)=o' at *;have dZ:=hid ho1; clear ho1
    generalize seen (n:Int) (LX 0) (LX 1) j=o at *;go_wp2_with fail;refine (agN.out _ dO.out.d).mono ?_;rintro e w4 ⟨v,rfl,hov,hd,ht⟩;have adu:=hid (dO.out.read HL.out hd ht);have mh:=hid (aj HX.out (ht.block _ HX.out.lt (λho=>by have:=HL.out _ ho; omega)));obtain ⟨A,m,rfl,hby,hmc,hmm⟩:=nZ hov ag3.out;have iG:=hid hby;have qj:(LX j).length<=9223372036854775807:=by simp only [maxLen] at hmm; omega
    clear hov hd ht hby hmc hmm dO HX;generalize LX j=l at *;generalize EX j=ej at *;go_upto_region 10 with fail
    go_cut [6] (λs6 wx=>s6=.bool (FX (j+1))/\wx=w4)
    case first =>
     generalize FX j=fj at *;rcases aha.out with he | he
     · subst he
       cases fj with
       | false =>
         go_wp2_with fail;go_meet;exact ⟨by rw [TE.out]; first | done | rfl | simp,rfl⟩
       | true =>
         go_wp2_with fail;go_meet;exact ⟨by rw [TE.out]; first | done | rfl | simp,rfl⟩
     · subst he
       cases fj with
       | false =>
         go_wp2_with fail;go_meet;exact ⟨by rw [TE.out]; first | done | rfl | simp,rfl⟩
       | true =>
         go_wp2_with fail;go_meet;exact ⟨by rw [TE.out]; first | done | rfl | simp,rfl⟩
    case rest =>
     obtain ⟨rfl,rfl⟩:=hcut;go_wp2_with fail;refine (KX _ A l.length m l _ iG.out qj).mono ?_;rintro e w5 ⟨hg5,rfl⟩;have AX:=hid (adu.out.quiet hg5);have mg:=hid (mh.out.grown hg5 (by simp));clear hg5 iG adu mh qj
     cases xx:dK l with
     | none =>
       have HO:=hid (show o'=o by rw [gJ.out,LM xx,mG]);rw [show nG ((none:Option (List Int)).getD qw)=.agg #[.int .i64 0,.int .i64 0,.int .i64 0,.int .i64 0,.int .i64 0,.int .i64 0,.int .i64 0] from rfl,show (none:Option (List Int)).isSome=false from rfl];clear xx gJ;have hga:=aj9 w5 (.cells #[.int .i64 0,.int .i64 0,.int .i64 0,.int .i64 0,.int .i64 0,.int .i64 0,.int .i64 0] 49) none
       have sN:=hid (AX.out.quiet hga); have kW:=hid (mg.out.grown hga (by simp));clear hga AX mg;go_wp2_with fail
       go_quiet (fail)
       go_wp2
       go_roundw
       case rel=>exact ⟨j+1,by omega,by go_num,by rw [dZ.out,HO.out],rfl,sN.out.quiet (dB (akr _ _) _),by rw [dZ.out,HO.out]; exact kW.out.drewN _⟩
       case measure=>simp [Go.RowKit.intOf]; omega
     | some uu =>
       obtain ⟨u0,u1,u2,u3,u4,u5,u6,rfl⟩:=Dw (nz xx).2;rw [show nG ((some [u0,u1,u2,u3,u4,u5,u6]).getD qw)=.agg #[.int .i64 u0,.int .i64 u1,.int .i64 u2,.int .i64 u3,.int .i64 u4,.int .i64 u5,.int .i64 u6] from rfl,show (some ([u0,u1,u2,u3,u4,u5,u6]:List Int)).isSome=true from rfl];have hso:=Jv (n:=(n:Int)) (i:=(j:Int)) xx;have vP:=aj9 w5 (.cells #[.int .i64 u0,.int .i64 u1,.int .i64 u2,.int .i64 u3,.int .i64 u4,.int .i64 u5,.int .i64 u6] 49) none
       have sN:=hid (AX.out.quiet vP); have kW:=hid (mg.out.grown vP (by simp));have hbu:=af.new w5 49 #[.int .i64 u0,.int .i64 u1,.int .i64 u2,.int .i64 u3,.int .i64 u4,.int .i64 u5,.int .i64 u6];obtain ⟨bl,c,dv,vv,vs,Kc⟩:=sN.out.d;have hkeep:∀ wx,(w5.alloc (.cells #[.int .i64 u0,.int .i64 u1,.int .i64 u2,.int .i64 u3,.int .i64 u4,.int .i64 u5,.int .i64 u6] 49)).grownBy wx none->wx.cell? ⟨w5.heap.size,0,none⟩=some (.int .i64 u0)/\wx.cell? ⟨w5.heap.size,1,none⟩=some (.int .i64 u1)/\wx.cell? ⟨w5.heap.size,2,none⟩=some (.int .i64 u2)/\wx.cell? ⟨w5.heap.size,3,none⟩=some (.int .i64 u3)/\wx.cell? ⟨w5.heap.size,4,none⟩=some (.int .i64 u4)/\wx.cell? ⟨w5.heap.size,5,none⟩=some (.int .i64 u5)/\wx.cell? ⟨w5.heap.size,6,none⟩=some (.int .i64 u6)/\wx.cell? ⟨r,0,none⟩=some (.slice (some ⟨bl,0,none⟩) n c):=by
        intro wx hg;have hb:=hbu.grown hg (by simp);have hr:=(Kc.grown hg (λ_ e=>by cases e)).rc;rw [agL.out] at hr;exact ⟨by rw [hb.cell]; rfl,by rw [hb.cell]; rfl,by rw [hb.cell]; rfl,by rw [hb.cell]; rfl,by rw [hb.cell]; rfl,by rw [hb.cell]; rfl,by rw [hb.cell]; rfl,hr⟩
       have vw:=hid hkeep; have HBU:=hid hbu;have HD0:=hid (ah (w5.alloc (.cells #[.int .i64 u0,.int .i64 u1,.int .i64 u2,.int .i64 u3,.int .i64 u4,.int .i64 u5,.int .i64 u6] 49)) none);have fM:=hid (λwx=>lT u0 u1 u2 u3 u4 u5 u6 (n:Int) wx);have hck:dY [u0,u1,u2,u3,u4,u5,u6] (n:Int)=if aL [u0,u1,u2,u3,u4,u5,u6] n then 0 else 1:=rfl;clear hkeep hbu vP xx AX mg Kc
       cases hm:aL [u0,u1,u2,u3,u4,u5,u6] n with
       | false =>
         rw [hm,if_neg (by simp)] at hck;rw [hck] at fM;have hss:jX (n:Int) (j:Int) [u0,u1,u2,u3,u4,u5,u6]=false:=by simp [jX,hm]
         rw [hss] at hso;have HO:=hid (show o'=o by rw [gJ.out,hso]; exact mG o);have av:=vw;clear hck hm hss hso gJ vw;go_wp2_with fail;refine wp_region_noPanic ?_;refine wp_region_held_drew (S:=λwx=>wx.cell? ⟨w5.heap.size,0,none⟩=some (.int .i64 u0)/\wx.cell? ⟨w5.heap.size,1,none⟩=some (.int .i64 u1)/\wx.cell? ⟨w5.heap.size,2,none⟩=some (.int .i64 u2)/\wx.cell? ⟨w5.heap.size,3,none⟩=some (.int .i64 u3)/\wx.cell? ⟨w5.heap.size,4,none⟩=some (.int .i64 u4)/\wx.cell? ⟨w5.heap.size,5,none⟩=some (.int .i64 u5)/\wx.cell? ⟨w5.heap.size,6,none⟩=some (.int .i64 u6)/\wx.cell? ⟨r,0,none⟩=some (.slice (some ⟨bl,0,none⟩) n c)) (by kernel_rfl) (av.out _ HD0.out) (λhHeld=>?_)
         refine tkA (i:=0) (v:=.bool true) rfl (Or.inl ⟨by rfl,?_⟩) ?_
         · intro w1 hSw; (try dsimp only at hSw); go_simp
         simp only [Act.put,aj6,aj4,aj3,aj7,aj8];refine tkA (i:=1) (v:=.bool true) rfl (Or.inl ⟨by rfl,?_⟩) ?_
         · intro w1 hSw; (try dsimp only at hSw); go_simp
         simp only [Act.put,aj6,aj5,aj4,aj3,aj7,aj8];refine tkA (i:=2) (v:=.agg #[.int .i64 u0,.int .i64 u1,.int .i64 u2,.int .i64 u3,.int .i64 u4,.int .i64 u5,.int .i64 u6]) rfl (Or.inl ⟨by rfl,?_⟩) ?_
         · intro w1 hSw; (try dsimp only at hSw); go_simp
         simp only [Act.put,aj6,aj5,aj4,aj3,aj7,aj8];refine tkA (i:=3) (v:=.pointer (some ⟨r,0,none⟩)) rfl (Or.inl ⟨by rfl,?_⟩) ?_
         · intro w1 hSw; (try dsimp only at hSw); go_simp
         simp only [Act.put,aj6,aj5,aj4,aj3,aj7,aj8];refine tkA (i:=4) (v:=.pointer (some ⟨r,0,none⟩)) rfl (Or.inl ⟨by rfl,?_⟩) ?_
         · intro w1 hSw; (try dsimp only at hSw); go_simp
         simp only [Act.put,aj6,aj5,aj4,aj3,aj7,aj8];refine tkA (i:=5) (v:=.pointer (some ⟨r,0,none⟩)) rfl (Or.inl ⟨by rfl,?_⟩) ?_
         · intro w1 hSw; (try dsimp only at hSw); go_simp
         simp only [Act.put,aj6,aj5,aj4,aj3,aj7,aj8];refine tkA (i:=6) (v:=.slice (some ⟨bl,0,none⟩) n c) rfl (Or.inl ⟨by rfl,?_⟩) ?_
         · intro w1 hSw; (try dsimp only at hSw); go_simp
         simp only [Act.put,aj6,aj5,aj4,aj3,aj7,aj8];refine tkA (i:=7) (v:=.int .i64 (n:Nat)) rfl (Or.inl ⟨by rfl,?_⟩) ?_
         · intro w1 hSw; (try dsimp only at hSw); go_simp
         simp only [Act.put,aj6,aj5,aj4,aj3,aj7,aj8];refine wpAnyH_ready (rs:=[8]) (by kernel_rfl) (by simp) ?_;refine AllReadyH.cons rfl (λK hK=>?_) AllReadyH.nil
         go_simp
         go_at_call 22
         refine (fM.out _).mono ?_;rintro e w7 ⟨rfl,hg⟩;have az:=hid (HD0.out.trans hg);clear hg;refine hK.out _ _ (av.out _ az.out) (λhHeld=>?_);clear hK K;refine tkA (i:=9) (v:=.bool false) rfl (Or.inl ⟨by rfl,?_⟩) ?_
         · intro w1 hSw; (try dsimp only at hSw); go_simp
         simp only [Act.put,aj6,aj5,aj4,aj3,aj7,aj8];refine tkA (i:=10) (v:=.bool false) rfl (Or.inl ⟨by rfl,?_⟩) ?_
         · intro w1 hSw; (try dsimp only at hSw); go_simp
         simp only [Act.put,aj6,aj5,aj4,aj3,aj7,aj8];refine tkA (i:=11) (v:=.bool false) rfl (Or.inl ⟨by rfl,?_⟩) ?_
         · intro w1 hSw; (try dsimp only at hSw); go_simp
         simp only [Act.put,aj6,aj5,aj4,aj3,aj7,aj8];refine tkA (i:=12) (v:=undef) rfl (Or.inr ⟨by rfl,rfl⟩) ?_;simp only [Act.put,aj6,aj5,aj4,aj3,aj7,aj8]
         refine tkA (i:=13) (v:=undef) rfl (Or.inr ⟨by rfl,rfl⟩) ?_;simp only [Act.put,aj6,aj5,aj4,aj3,aj7,aj8];refine tkA (i:=14) (v:=undef) rfl (Or.inr ⟨by rfl,rfl⟩) ?_
         simp only [Act.put,aj6,aj5,aj4,aj3,aj7,aj8];refine tkA (i:=15) (v:=undef) rfl (Or.inr ⟨by rfl,rfl⟩) ?_;simp only [Act.put,aj6,aj5,aj4,aj3,aj7,aj8]
         refine tkA (i:=16) (v:=undef) rfl (Or.inr ⟨by rfl,rfl⟩) ?_;simp only [Act.put,aj6,aj5,aj4,aj3,aj7,aj8];refine tkA (i:=17) (v:=.bool false) rfl (Or.inl ⟨by rfl,?_⟩) ?_
         · intro w1 hSw; (try dsimp only at hSw); go_simp
         simp only [Act.put,aj6,aj5,aj4,aj3,aj7,aj8];refine tkA (i:=18) (v:=.bool false) rfl (Or.inl ⟨by rfl,?_⟩) ?_
         · intro w1 hSw; (try dsimp only at hSw); go_simp
         simp only [Act.put,aj6,aj5,aj4,aj3,aj7,aj8];refine tkA (i:=19) (v:=undef) rfl (Or.inr ⟨by rfl,rfl⟩) ?_;simp only [Act.put,aj6,aj5,aj4,aj3,aj7,aj8]
         refine tkA (i:=20) (v:=undef) rfl (Or.inr ⟨by rfl,rfl⟩) ?_;simp only [Act.put,aj6,aj5,aj4,aj3,aj7,aj8];refine tkA (i:=21) (v:=undef) rfl (Or.inr ⟨by rfl,rfl⟩) ?_
         simp only [Act.put,aj6,aj5,aj4,aj3,aj7,aj8];refine tkA (i:=22) (v:=undef) rfl (Or.inr ⟨by rfl,rfl⟩) ?_;simp only [Act.put,aj6,aj5,aj4,aj3,aj7,aj8]
         refine tkA (i:=23) (v:=undef) rfl (Or.inr ⟨by rfl,rfl⟩) ?_;simp only [Act.put,aj6,aj5,aj4,aj3,aj7,aj8];refine tkA (i:=24) (v:=undef) rfl (Or.inr ⟨by rfl,rfl⟩) ?_
         simp only [Act.put,aj6,aj5,aj4,aj3,aj7,aj8];refine tkA (i:=25) (v:=undef) rfl (Or.inr ⟨by rfl,rfl⟩) ?_;simp only [Act.put,aj6,aj5,aj4,aj3,aj7,aj8]
         refine tkA (i:=26) (v:=undef) rfl (Or.inr ⟨by rfl,rfl⟩) ?_;simp only [Act.put,aj6,aj5,aj4,aj3,aj7,aj8];refine tkA (i:=27) (v:=undef) rfl (Or.inr ⟨by rfl,rfl⟩) ?_
         simp only [Act.put,aj6,aj5,aj4,aj3,aj7,aj8];refine tkA (i:=28) (v:=.bool false) rfl (Or.inl ⟨by rfl,?_⟩) ?_
         · intro w1 hSw; (try dsimp only at hSw); go_simp
         simp only [Act.put,aj6,aj5,aj4,aj3,aj7,aj8];refine wpAnyH_done (by kernel_rfl) ?_ _;refine NoPanic.normal ?_;go_wp2
         go_roundw
         case rel=>exact ⟨j+1,by omega,by go_num,by rw [dZ.out,HO.out],rfl,sN.out.quiet az.out,by rw [dZ.out,HO.out]; exact kW.out.grown az.out (by simp)⟩
         case measure=>simp [Go.RowKit.intOf]; omega
       | true =>
         rw [hm,if_pos rfl] at hck;rw [hck] at fM;have hss:jX (n:Int) (j:Int) [u0,u1,u2,u3,u4,u5,u6]=decide (u0.tmod 2=j):=by rw [jX,hm]; rfl
         rw [hss] at hso;have EP:=hid hso;clear hck hm hss hso;generalize hpq:u0.tmod 2=pq at EP
         by_cases Bc:pq=(j:Int)
         · have HO:=hid (show o'=newer o (some [u0,u1,u2,u3,u4,u5,u6]) by rw [gJ.out,EP.out,Bc]; simp);have hdj:decide (pq=(j:Int))=true:=decide_eq_true Bc;clear EP gJ
           cases o with
           | none =>
             rw [Ah] at HO;have df:af (w5.alloc (.cells #[.int .i64 u0,.int .i64 u1,.int .i64 u2,.int .i64 u3,.int .i64 u4,.int .i64 u5,.int .i64 u6] 49)) (w.heap.size+1) 49 #[.int .i64 0,.int .i64 0,.int .i64 0,.int .i64 0,.int .i64 0,.int .i64 0,.int .i64 0]:=kW.out;have zD:=hid df;have av:=vw;clear vw df;go_wp2_with fail;refine wp_region_noPanic ?_;refine wp_region_held_drew (S:=λwx=>wx.cell? ⟨w5.heap.size,0,none⟩=some (.int .i64 u0)/\wx.cell? ⟨w5.heap.size,1,none⟩=some (.int .i64 u1)/\wx.cell? ⟨w5.heap.size,2,none⟩=some (.int .i64 u2)/\wx.cell? ⟨w5.heap.size,3,none⟩=some (.int .i64 u3)/\wx.cell? ⟨w5.heap.size,4,none⟩=some (.int .i64 u4)/\wx.cell? ⟨w5.heap.size,5,none⟩=some (.int .i64 u5)/\wx.cell? ⟨w5.heap.size,6,none⟩=some (.int .i64 u6)/\wx.cell? ⟨r,0,none⟩=some (.slice (some ⟨bl,0,none⟩) n c)) (by kernel_rfl) (av.out _ HD0.out) (λhHeld=>?_)
             refine tkA (i:=0) (v:=.bool true) rfl (Or.inl ⟨by rfl,?_⟩) ?_
             · intro w1 hSw; (try dsimp only at hSw); go_simp
             simp only [Act.put,aj6,aj4,aj3,aj7,aj8];refine tkA (i:=1) (v:=.bool true) rfl (Or.inl ⟨by rfl,?_⟩) ?_
             · intro w1 hSw; (try dsimp only at hSw); go_simp
             simp only [Act.put,aj6,aj5,aj4,aj3,aj7,aj8];refine tkA (i:=2) (v:=.agg #[.int .i64 u0,.int .i64 u1,.int .i64 u2,.int .i64 u3,.int .i64 u4,.int .i64 u5,.int .i64 u6]) rfl (Or.inl ⟨by rfl,?_⟩) ?_
             · intro w1 hSw; (try dsimp only at hSw); go_simp
             simp only [Act.put,aj6,aj5,aj4,aj3,aj7,aj8];refine tkA (i:=3) (v:=.pointer (some ⟨r,0,none⟩)) rfl (Or.inl ⟨by rfl,?_⟩) ?_
             · intro w1 hSw; (try dsimp only at hSw); go_simp
             simp only [Act.put,aj6,aj5,aj4,aj3,aj7,aj8];refine tkA (i:=4) (v:=.pointer (some ⟨r,0,none⟩)) rfl (Or.inl ⟨by rfl,?_⟩) ?_
             · intro w1 hSw; (try dsimp only at hSw); go_simp
             simp only [Act.put,aj6,aj5,aj4,aj3,aj7,aj8];refine tkA (i:=5) (v:=.pointer (some ⟨r,0,none⟩)) rfl (Or.inl ⟨by rfl,?_⟩) ?_
             · intro w1 hSw; (try dsimp only at hSw); go_simp
             simp only [Act.put,aj6,aj5,aj4,aj3,aj7,aj8];refine tkA (i:=6) (v:=.slice (some ⟨bl,0,none⟩) n c) rfl (Or.inl ⟨by rfl,?_⟩) ?_
             · intro w1 hSw; (try dsimp only at hSw); go_simp
             simp only [Act.put,aj6,aj5,aj4,aj3,aj7,aj8];refine tkA (i:=7) (v:=.int .i64 (n:Nat)) rfl (Or.inl ⟨by rfl,?_⟩) ?_
             · intro w1 hSw; (try dsimp only at hSw); go_simp
             simp only [Act.put,aj6,aj5,aj4,aj3,aj7,aj8];refine wpAnyH_ready (rs:=[8]) (by kernel_rfl) (by simp) ?_;refine AllReadyH.cons rfl (λK hK=>?_) AllReadyH.nil
             go_simp
             go_at_call 22
             refine (fM.out _).mono ?_;rintro e w7 ⟨rfl,hg⟩;have az:=hid (HD0.out.trans hg);clear hg;refine hK.out _ _ (av.out _ az.out) (λhHeld=>?_);clear hK K;refine tkA (i:=9) (v:=.bool true) rfl (Or.inl ⟨by rfl,?_⟩) ?_
             · intro w1 hSw; (try dsimp only at hSw); go_simp
             simp only [Act.put,aj6,aj5,aj4,aj3,aj7,aj8];refine tkA (i:=10) (v:=.bool true) rfl (Or.inl ⟨by rfl,?_⟩) ?_
             · intro w1 hSw; (try dsimp only at hSw); go_simp
             simp only [Act.put,aj6,aj5,aj4,aj3,aj7,aj8];refine tkA (i:=11) (v:=.bool true) rfl (Or.inl ⟨by rfl,?_⟩) ?_
             · intro w1 hSw; (try dsimp only at hSw); go_simp
             simp only [Act.put,aj6,aj5,aj4,aj3,aj7,aj8];refine tkA (i:=12) (v:=.pointer (some ⟨w5.heap.size,0,none⟩)) rfl (Or.inl ⟨by rfl,?_⟩) ?_
             · intro w1 hSw; (try dsimp only at hSw); go_simp
             simp only [Act.put,aj6,aj5,aj4,aj3,aj7,aj8];refine tkA (i:=13) (v:=.int .i64 u0) rfl (Or.inl ⟨by rfl,?_⟩) ?_
             · intro w1 hSw; (try dsimp only at hSw); go_simp
             simp only [Act.put,aj6,aj5,aj4,aj3,aj7,aj8];refine tkA (i:=14) (v:=.int .i64 pq) rfl (Or.inl ⟨by rfl,?_⟩) ?_
             · intro w1 hSw; (try dsimp only at hSw); go_simp
             simp only [Act.put,aj6,aj5,aj4,aj3,aj7,aj8];refine tkA (i:=15) (v:=.int .i64 j) rfl (Or.inl ⟨by rfl,?_⟩) ?_
             · intro w1 hSw; (try dsimp only at hSw); go_simp
             simp only [Act.put,aj6,aj5,aj4,aj3,aj7,aj8];refine tkA (i:=16) (v:=.bool true) rfl (Or.inl ⟨by rfl,?_⟩) ?_
             · intro w1 hSw; (try dsimp only at hSw); go_simp
             simp only [Act.put,aj6,aj5,aj4,aj3,aj7,aj8];refine tkA (i:=17) (v:=.bool true) rfl (Or.inl ⟨by rfl,?_⟩) ?_
             · intro w1 hSw; (try dsimp only at hSw); go_simp
             simp only [Act.put,aj6,aj5,aj4,aj3,aj7,aj8];refine tkA (i:=18) (v:=.bool true) rfl (Or.inl ⟨by rfl,?_⟩) ?_
             · intro w1 hSw; (try dsimp only at hSw); go_simp
             simp only [Act.put,aj6,aj5,aj4,aj3,aj7,aj8];refine tkA (i:=19) (v:=.bool false) rfl (Or.inl ⟨by rfl,?_⟩) ?_
             · intro w1 hSw; (try dsimp only at hSw); go_simp
             simp only [Act.put,aj6,aj5,aj4,aj3,aj7,aj8];refine tkA (i:=20) (v:=.bool true) rfl (Or.inl ⟨by rfl,?_⟩) ?_
             · intro w1 hSw; (try dsimp only at hSw); go_simp
             simp only [Act.put,aj6,aj5,aj4,aj3,aj7,aj8];refine tkA (i:=21) (v:=.bool true) rfl (Or.inl ⟨by rfl,?_⟩) ?_
             · intro w1 hSw; (try dsimp only at hSw); go_simp
             simp only [Act.put,aj6,aj5,aj4,aj3,aj7,aj8];refine tkA (i:=22) (v:=undef) rfl (Or.inr ⟨by rfl,rfl⟩) ?_;simp only [Act.put,aj6,aj5,aj4,aj3,aj7,aj8]
             refine tkA (i:=23) (v:=undef) rfl (Or.inr ⟨by rfl,rfl⟩) ?_;simp only [Act.put,aj6,aj5,aj4,aj3,aj7,aj8];refine tkA (i:=24) (v:=undef) rfl (Or.inr ⟨by rfl,rfl⟩) ?_
             simp only [Act.put,aj6,aj5,aj4,aj3,aj7,aj8];refine tkA (i:=25) (v:=undef) rfl (Or.inr ⟨by rfl,rfl⟩) ?_;simp only [Act.put,aj6,aj5,aj4,aj3,aj7,aj8]
             refine tkA (i:=26) (v:=undef) rfl (Or.inr ⟨by rfl,rfl⟩) ?_;simp only [Act.put,aj6,aj5,aj4,aj3,aj7,aj8];refine tkA (i:=27) (v:=.bool true) rfl (Or.inl ⟨by rfl,?_⟩) ?_
             · intro w1 hSw; (try dsimp only at hSw); go_simp
             simp only [Act.put,aj6,aj5,aj4,aj3,aj7,aj8];refine tkA (i:=28) (v:=.bool true) rfl (Or.inl ⟨by rfl,?_⟩) ?_
             · intro w1 hSw; (try dsimp only at hSw); go_simp
             simp only [Act.put,aj6,aj5,aj4,aj3,aj7,aj8];refine wpAnyH_done (by kernel_rfl) ?_ _;refine NoPanic.normal ?_;have df:=zD.out.grown az.out (by simp);obtain ⟨y0,y1,y2,y3,y4,y5,y6,_⟩:=av.out _ az.out;have x0:=df.cell 0; have x1:=df.cell 1; have x2:=df.cell 2; have x3:=df.cell 3; have x4:=df.cell 4; have x5:=df.cell 5; have x6:=df.cell 6
             simp only [akb,aka,akc] at x0 x1 x2 x3 x4 x5 x6;have f0:=df.frozen 0; have f1:=df.frozen 1; have f2:=df.frozen 2; have f3:=df.frozen 3; have f4:=df.frozen 4; have f5:=df.frozen 5; have f6:=df.frozen 6;have HXB:=hid df;have C9:=hid (sN.out.quiet az.out);clear df;go_wp2
             go_roundw
             case rel=>exact ⟨j+1,by omega,by go_num,by rw [dZ.out,HO.out]; rfl,rfl,C9.out.kv HL.out,by rw [dZ.out,HO.out]; exact af.kv HXB.out⟩
             case measure=>simp [Go.RowKit.intOf]; omega
           | some pp =>
             obtain ⟨p0,p1,p2,p3,p4,p5,p6,rfl⟩:=Dw (yB.out pp rfl);have df:af (w5.alloc (.cells #[.int .i64 u0,.int .i64 u1,.int .i64 u2,.int .i64 u3,.int .i64 u4,.int .i64 u5,.int .i64 u6] 49)) (w.heap.size+1) 49 #[.int .i64 p0,.int .i64 p1,.int .i64 p2,.int .i64 p3,.int .i64 p4,.int .i64 p5,.int .i64 p6]:=kW.out;have zD:=hid df;have av:=hid (show ∀ wx,(w5.alloc (.cells #[.int .i64 u0,.int .i64 u1,.int .i64 u2,.int .i64 u3,.int .i64 u4,.int .i64 u5,.int .i64 u6] 49)).grownBy wx none->wx.cell? ⟨w5.heap.size,0,none⟩=some (.int .i64 u0)/\wx.cell? ⟨w5.heap.size,1,none⟩=some (.int .i64 u1)/\wx.cell? ⟨w5.heap.size,2,none⟩=some (.int .i64 u2)/\wx.cell? ⟨w5.heap.size,3,none⟩=some (.int .i64 u3)/\wx.cell? ⟨w5.heap.size,4,none⟩=some (.int .i64 u4)/\wx.cell? ⟨w5.heap.size,5,none⟩=some (.int .i64 u5)/\wx.cell? ⟨w5.heap.size,6,none⟩=some (.int .i64 u6)/\wx.cell? ⟨r,0,none⟩=some (.slice (some ⟨bl,0,none⟩) n c)/\wx.cell? ⟨w.heap.size+1,0,none⟩=some (.int .i64 p0) from λwx hg=>by
              obtain ⟨k0,k1,k2,k3,k4,k5,k6,k7⟩:=vw.out wx hg;exact ⟨k0,k1,k2,k3,k4,k5,k6,k7,by rw [(zD.out.grown hg (by simp)).cell]; rfl⟩)
             have hnew:newer (some [p0,p1,p2,p3,p4,p5,p6]) (some [u0,u1,u2,u3,u4,u5,u6])=if p0 < u0 then some [u0,u1,u2,u3,u4,u5,u6] else some [p0,p1,p2,p3,p4,p5,p6]:=rfl;rw [hnew] at HO;clear df hnew vw
             by_cases hgt:p0 < u0
             · rw [if_pos hgt] at HO;have hdg:decide (p0 < u0)=true:=decide_eq_true hgt;go_wp2_with fail;refine wp_region_noPanic ?_;refine wp_region_held_drew (S:=λwx=>wx.cell? ⟨w5.heap.size,0,none⟩=some (.int .i64 u0)/\wx.cell? ⟨w5.heap.size,1,none⟩=some (.int .i64 u1)/\wx.cell? ⟨w5.heap.size,2,none⟩=some (.int .i64 u2)/\wx.cell? ⟨w5.heap.size,3,none⟩=some (.int .i64 u3)/\wx.cell? ⟨w5.heap.size,4,none⟩=some (.int .i64 u4)/\wx.cell? ⟨w5.heap.size,5,none⟩=some (.int .i64 u5)/\wx.cell? ⟨w5.heap.size,6,none⟩=some (.int .i64 u6)/\wx.cell? ⟨r,0,none⟩=some (.slice (some ⟨bl,0,none⟩) n c)/\wx.cell? ⟨w.heap.size+1,0,none⟩=some (.int .i64 p0)) (by kernel_rfl) (av.out _ HD0.out) (λhHeld=>?_)
               refine tkA (i:=0) (v:=.bool true) rfl (Or.inl ⟨by rfl,?_⟩) ?_
               · intro w1 hSw; (try dsimp only at hSw); go_simp
               simp only [Act.put,aj6,aj4,aj3,aj7,aj8];refine tkA (i:=1) (v:=.bool true) rfl (Or.inl ⟨by rfl,?_⟩) ?_
               · intro w1 hSw; (try dsimp only at hSw); go_simp
               simp only [Act.put,aj6,aj5,aj4,aj3,aj7,aj8];refine tkA (i:=2) (v:=.agg #[.int .i64 u0,.int .i64 u1,.int .i64 u2,.int .i64 u3,.int .i64 u4,.int .i64 u5,.int .i64 u6]) rfl (Or.inl ⟨by rfl,?_⟩) ?_
               · intro w1 hSw; (try dsimp only at hSw); go_simp
               simp only [Act.put,aj6,aj5,aj4,aj3,aj7,aj8];refine tkA (i:=3) (v:=.pointer (some ⟨r,0,none⟩)) rfl (Or.inl ⟨by rfl,?_⟩) ?_
               · intro w1 hSw; (try dsimp only at hSw); go_simp
               simp only [Act.put,aj6,aj5,aj4,aj3,aj7,aj8];refine tkA (i:=4) (v:=.pointer (some ⟨r,0,none⟩)) rfl (Or.inl ⟨by rfl,?_⟩) ?_
               · intro w1 hSw; (try dsimp only at hSw); go_simp
               simp only [Act.put,aj6,aj5,aj4,aj3,aj7,aj8];refine tkA (i:=5) (v:=.pointer (some ⟨r,0,none⟩)) rfl (Or.inl ⟨by rfl,?_⟩) ?_
               · intro w1 hSw; (try dsimp only at hSw); go_simp
               simp only [Act.put,aj6,aj5,aj4,aj3,aj7,aj8];refine tkA (i:=6) (v:=.slice (some ⟨bl,0,none⟩) n c) rfl (Or.inl ⟨by rfl,?_⟩) ?_
               · intro w1 hSw; (try dsimp only at hSw); go_simp
               simp only [Act.put,aj6,aj5,aj4,aj3,aj7,aj8];refine tkA (i:=7) (v:=.int .i64 (n:Nat)) rfl (Or.inl ⟨by rfl,?_⟩) ?_
               · intro w1 hSw; (try dsimp only at hSw); go_simp
               simp only [Act.put,aj6,aj5,aj4,aj3,aj7,aj8];refine wpAnyH_ready (rs:=[8]) (by kernel_rfl) (by simp) ?_;refine AllReadyH.cons rfl (λK hK=>?_) AllReadyH.nil
               go_simp
               go_at_call 22
               refine (fM.out _).mono ?_;rintro e w7 ⟨rfl,hg⟩;have az:=hid (HD0.out.trans hg);clear hg;refine hK.out _ _ (av.out _ az.out) (λhHeld=>?_);clear hK K;refine tkA (i:=9) (v:=.bool true) rfl (Or.inl ⟨by rfl,?_⟩) ?_
               · intro w1 hSw; (try dsimp only at hSw); go_simp
               simp only [Act.put,aj6,aj5,aj4,aj3,aj7,aj8];refine tkA (i:=10) (v:=.bool true) rfl (Or.inl ⟨by rfl,?_⟩) ?_
               · intro w1 hSw; (try dsimp only at hSw); go_simp
               simp only [Act.put,aj6,aj5,aj4,aj3,aj7,aj8];refine tkA (i:=11) (v:=.bool true) rfl (Or.inl ⟨by rfl,?_⟩) ?_
               · intro w1 hSw; (try dsimp only at hSw); go_simp
               simp only [Act.put,aj6,aj5,aj4,aj3,aj7,aj8];refine tkA (i:=12) (v:=.pointer (some ⟨w5.heap.size,0,none⟩)) rfl (Or.inl ⟨by rfl,?_⟩) ?_
               · intro w1 hSw; (try dsimp only at hSw); go_simp
               simp only [Act.put,aj6,aj5,aj4,aj3,aj7,aj8];refine tkA (i:=13) (v:=.int .i64 u0) rfl (Or.inl ⟨by rfl,?_⟩) ?_
               · intro w1 hSw; (try dsimp only at hSw); go_simp
               simp only [Act.put,aj6,aj5,aj4,aj3,aj7,aj8];refine tkA (i:=14) (v:=.int .i64 pq) rfl (Or.inl ⟨by rfl,?_⟩) ?_
               · intro w1 hSw; (try dsimp only at hSw); go_simp
               simp only [Act.put,aj6,aj5,aj4,aj3,aj7,aj8];refine tkA (i:=15) (v:=.int .i64 j) rfl (Or.inl ⟨by rfl,?_⟩) ?_
               · intro w1 hSw; (try dsimp only at hSw); go_simp
               simp only [Act.put,aj6,aj5,aj4,aj3,aj7,aj8];refine tkA (i:=16) (v:=.bool true) rfl (Or.inl ⟨by rfl,?_⟩) ?_
               · intro w1 hSw; (try dsimp only at hSw); go_simp
               simp only [Act.put,aj6,aj5,aj4,aj3,aj7,aj8];refine tkA (i:=17) (v:=.bool true) rfl (Or.inl ⟨by rfl,?_⟩) ?_
               · intro w1 hSw; (try dsimp only at hSw); go_simp
               simp only [Act.put,aj6,aj5,aj4,aj3,aj7,aj8];refine tkA (i:=18) (v:=.bool true) rfl (Or.inl ⟨by rfl,?_⟩) ?_
               · intro w1 hSw; (try dsimp only at hSw); go_simp
               simp only [Act.put,aj6,aj5,aj4,aj3,aj7,aj8];refine tkA (i:=19) (v:=.bool true) rfl (Or.inl ⟨by rfl,?_⟩) ?_
               · intro w1 hSw; (try dsimp only at hSw); go_simp
               simp only [Act.put,aj6,aj5,aj4,aj3,aj7,aj8];refine tkA (i:=20) (v:=.bool false) rfl (Or.inl ⟨by rfl,?_⟩) ?_
               · intro w1 hSw; (try dsimp only at hSw); go_simp
               simp only [Act.put,aj6,aj5,aj4,aj3,aj7,aj8];refine tkA (i:=21) (v:=.bool false) rfl (Or.inl ⟨by rfl,?_⟩) ?_
               · intro w1 hSw; (try dsimp only at hSw); go_simp
               simp only [Act.put,aj6,aj5,aj4,aj3,aj7,aj8];refine tkA (i:=22) (v:=.pointer (some ⟨w5.heap.size,0,none⟩)) rfl (Or.inl ⟨by rfl,?_⟩) ?_
               · intro w1 hSw; (try dsimp only at hSw); go_simp
               simp only [Act.put,aj6,aj5,aj4,aj3,aj7,aj8];refine tkA (i:=23) (v:=.int .i64 u0) rfl (Or.inl ⟨by rfl,?_⟩) ?_
               · intro w1 hSw; (try dsimp only at hSw); go_simp
               simp only [Act.put,aj6,aj5,aj4,aj3,aj7,aj8];refine tkA (i:=24) (v:=.pointer (some ⟨w.heap.size+1,0,none⟩)) rfl (Or.inl ⟨by rfl,?_⟩) ?_
               · intro w1 hSw; (try dsimp only at hSw); go_simp
               simp only [Act.put,aj6,aj5,aj4,aj3,aj7,aj8];refine tkA (i:=25) (v:=.int .i64 p0) rfl (Or.inl ⟨by rfl,?_⟩) ?_
               · intro w1 hSw; (try dsimp only at hSw); go_simp
               simp only [Act.put,aj6,aj5,aj4,aj3,aj7,aj8];refine tkA (i:=26) (v:=.bool true) rfl (Or.inl ⟨by rfl,?_⟩) ?_
               · intro w1 hSw; (try dsimp only at hSw); go_simp
               simp only [Act.put,aj6,aj5,aj4,aj3,aj7,aj8];refine tkA (i:=27) (v:=.bool true) rfl (Or.inl ⟨by rfl,?_⟩) ?_
               · intro w1 hSw; (try dsimp only at hSw); go_simp
               simp only [Act.put,aj6,aj5,aj4,aj3,aj7,aj8];refine tkA (i:=28) (v:=.bool true) rfl (Or.inl ⟨by rfl,?_⟩) ?_
               · intro w1 hSw; (try dsimp only at hSw); go_simp
               simp only [Act.put,aj6,aj5,aj4,aj3,aj7,aj8];refine wpAnyH_done (by kernel_rfl) ?_ _;refine NoPanic.normal ?_;have df:=zD.out.grown az.out (by simp);obtain ⟨y0,y1,y2,y3,y4,y5,y6,_,_⟩:=av.out _ az.out;have x0:=df.cell 0; have x1:=df.cell 1; have x2:=df.cell 2; have x3:=df.cell 3; have x4:=df.cell 4; have x5:=df.cell 5; have x6:=df.cell 6
               simp only [akb,aka,akc] at x0 x1 x2 x3 x4 x5 x6;have f0:=df.frozen 0; have f1:=df.frozen 1; have f2:=df.frozen 2; have f3:=df.frozen 3; have f4:=df.frozen 4; have f5:=df.frozen 5; have f6:=df.frozen 6;have HXB:=hid df;have C9:=hid (sN.out.quiet az.out);clear df;go_wp2
               go_roundw
               case rel=>exact ⟨j+1,by omega,by go_num,by rw [dZ.out,HO.out]; rfl,rfl,C9.out.kv HL.out,by rw [dZ.out,HO.out]; exact af.kv HXB.out⟩
               case measure=>simp [Go.RowKit.intOf]; omega
             · rw [if_neg hgt] at HO;have hdg:decide (p0 < u0)=false:=decide_eq_false hgt;go_wp2_with fail;refine wp_region_noPanic ?_;refine wp_region_held_drew (S:=λwx=>wx.cell? ⟨w5.heap.size,0,none⟩=some (.int .i64 u0)/\wx.cell? ⟨w5.heap.size,1,none⟩=some (.int .i64 u1)/\wx.cell? ⟨w5.heap.size,2,none⟩=some (.int .i64 u2)/\wx.cell? ⟨w5.heap.size,3,none⟩=some (.int .i64 u3)/\wx.cell? ⟨w5.heap.size,4,none⟩=some (.int .i64 u4)/\wx.cell? ⟨w5.heap.size,5,none⟩=some (.int .i64 u5)/\wx.cell? ⟨w5.heap.size,6,none⟩=some (.int .i64 u6)/\wx.cell? ⟨r,0,none⟩=some (.slice (some ⟨bl,0,none⟩) n c)/\wx.cell? ⟨w.heap.size+1,0,none⟩=some (.int .i64 p0)) (by kernel_rfl) (av.out _ HD0.out) (λhHeld=>?_)
               refine tkA (i:=0) (v:=.bool true) rfl (Or.inl ⟨by rfl,?_⟩) ?_
               · intro w1 hSw; (try dsimp only at hSw); go_simp
               simp only [Act.put,aj6,aj4,aj3,aj7,aj8];refine tkA (i:=1) (v:=.bool true) rfl (Or.inl ⟨by rfl,?_⟩) ?_
               · intro w1 hSw; (try dsimp only at hSw); go_simp
               simp only [Act.put,aj6,aj5,aj4,aj3,aj7,aj8];refine tkA (i:=2) (v:=.agg #[.int .i64 u0,.int .i64 u1,.int .i64 u2,.int .i64 u3,.int .i64 u4,.int .i64 u5,.int .i64 u6]) rfl (Or.inl ⟨by rfl,?_⟩) ?_
               · intro w1 hSw; (try dsimp only at hSw); go_simp
               simp only [Act.put,aj6,aj5,aj4,aj3,aj7,aj8];refine tkA (i:=3) (v:=.pointer (some ⟨r,0,none⟩)) rfl (Or.inl ⟨by rfl,?_⟩) ?_
               · intro w1 hSw; (try dsimp only at hSw); go_simp
               simp only [Act.put,aj6,aj5,aj4,aj3,aj7,aj8];refine tkA (i:=4) (v:=.pointer (some ⟨r,0,none⟩)) rfl (Or.inl ⟨by rfl,?_⟩) ?_
               · intro w1 hSw; (try dsimp only at hSw); go_simp
               simp only [Act.put,aj6,aj5,aj4,aj3,aj7,aj8];refine tkA (i:=5) (v:=.pointer (some ⟨r,0,none⟩)) rfl (Or.inl ⟨by rfl,?_⟩) ?_
               · intro w1 hSw; (try dsimp only at hSw); go_simp
               simp only [Act.put,aj6,aj5,aj4,aj3,aj7,aj8];refine tkA (i:=6) (v:=.slice (some ⟨bl,0,none⟩) n c) rfl (Or.inl ⟨by rfl,?_⟩) ?_
               · intro w1 hSw; (try dsimp only at hSw); go_simp
               simp only [Act.put,aj6,aj5,aj4,aj3,aj7,aj8];refine tkA (i:=7) (v:=.int .i64 (n:Nat)) rfl (Or.inl ⟨by rfl,?_⟩) ?_
               · intro w1 hSw; (try dsimp only at hSw); go_simp
               simp only [Act.put,aj6,aj5,aj4,aj3,aj7,aj8];refine wpAnyH_ready (rs:=[8]) (by kernel_rfl) (by simp) ?_;refine AllReadyH.cons rfl (λK hK=>?_) AllReadyH.nil
               go_simp
               go_at_call 22
               refine (fM.out _).mono ?_;rintro e w7 ⟨rfl,hg⟩;have az:=hid (HD0.out.trans hg);clear hg;refine hK.out _ _ (av.out _ az.out) (λhHeld=>?_);clear hK K;refine tkA (i:=9) (v:=.bool true) rfl (Or.inl ⟨by rfl,?_⟩) ?_
               · intro w1 hSw; (try dsimp only at hSw); go_simp
               simp only [Act.put,aj6,aj5,aj4,aj3,aj7,aj8];refine tkA (i:=10) (v:=.bool true) rfl (Or.inl ⟨by rfl,?_⟩) ?_
               · intro w1 hSw; (try dsimp only at hSw); go_simp
               simp only [Act.put,aj6,aj5,aj4,aj3,aj7,aj8];refine tkA (i:=11) (v:=.bool true) rfl (Or.inl ⟨by rfl,?_⟩) ?_
               · intro w1 hSw; (try dsimp only at hSw); go_simp
               simp only [Act.put,aj6,aj5,aj4,aj3,aj7,aj8];refine tkA (i:=12) (v:=.pointer (some ⟨w5.heap.size,0,none⟩)) rfl (Or.inl ⟨by rfl,?_⟩) ?_
               · intro w1 hSw; (try dsimp only at hSw); go_simp
               simp only [Act.put,aj6,aj5,aj4,aj3,aj7,aj8];refine tkA (i:=13) (v:=.int .i64 u0) rfl (Or.inl ⟨by rfl,?_⟩) ?_
               · intro w1 hSw; (try dsimp only at hSw); go_simp
               simp only [Act.put,aj6,aj5,aj4,aj3,aj7,aj8];refine tkA (i:=14) (v:=.int .i64 pq) rfl (Or.inl ⟨by rfl,?_⟩) ?_
               · intro w1 hSw; (try dsimp only at hSw); go_simp
               simp only [Act.put,aj6,aj5,aj4,aj3,aj7,aj8];refine tkA (i:=15) (v:=.int .i64 j) rfl (Or.inl ⟨by rfl,?_⟩) ?_
               · intro w1 hSw; (try dsimp only at hSw); go_simp
               simp only [Act.put,aj6,aj5,aj4,aj3,aj7,aj8];refine tkA (i:=16) (v:=.bool true) rfl (Or.inl ⟨by rfl,?_⟩) ?_
               · intro w1 hSw; (try dsimp only at hSw); go_simp
               simp only [Act.put,aj6,aj5,aj4,aj3,aj7,aj8];refine tkA (i:=17) (v:=.bool true) rfl (Or.inl ⟨by rfl,?_⟩) ?_
               · intro w1 hSw; (try dsimp only at hSw); go_simp
               simp only [Act.put,aj6,aj5,aj4,aj3,aj7,aj8];refine tkA (i:=18) (v:=.bool true) rfl (Or.inl ⟨by rfl,?_⟩) ?_
               · intro w1 hSw; (try dsimp only at hSw); go_simp
               simp only [Act.put,aj6,aj5,aj4,aj3,aj7,aj8];refine tkA (i:=19) (v:=.bool true) rfl (Or.inl ⟨by rfl,?_⟩) ?_
               · intro w1 hSw; (try dsimp only at hSw); go_simp
               simp only [Act.put,aj6,aj5,aj4,aj3,aj7,aj8];refine tkA (i:=20) (v:=.bool false) rfl (Or.inl ⟨by rfl,?_⟩) ?_
               · intro w1 hSw; (try dsimp only at hSw); go_simp
               simp only [Act.put,aj6,aj5,aj4,aj3,aj7,aj8];refine tkA (i:=21) (v:=.bool false) rfl (Or.inl ⟨by rfl,?_⟩) ?_
               · intro w1 hSw; (try dsimp only at hSw); go_simp
               simp only [Act.put,aj6,aj5,aj4,aj3,aj7,aj8];refine tkA (i:=22) (v:=.pointer (some ⟨w5.heap.size,0,none⟩)) rfl (Or.inl ⟨by rfl,?_⟩) ?_
               · intro w1 hSw; (try dsimp only at hSw); go_simp
               simp only [Act.put,aj6,aj5,aj4,aj3,aj7,aj8];refine tkA (i:=23) (v:=.int .i64 u0) rfl (Or.inl ⟨by rfl,?_⟩) ?_
               · intro w1 hSw; (try dsimp only at hSw); go_simp
               simp only [Act.put,aj6,aj5,aj4,aj3,aj7,aj8];refine tkA (i:=24) (v:=.pointer (some ⟨w.heap.size+1,0,none⟩)) rfl (Or.inl ⟨by rfl,?_⟩) ?_
               · intro w1 hSw; (try dsimp only at hSw); go_simp
               simp only [Act.put,aj6,aj5,aj4,aj3,aj7,aj8];refine tkA (i:=25) (v:=.int .i64 p0) rfl (Or.inl ⟨by rfl,?_⟩) ?_
               · intro w1 hSw; (try dsimp only at hSw); go_simp
               simp only [Act.put,aj6,aj5,aj4,aj3,aj7,aj8];refine tkA (i:=26) (v:=.bool false) rfl (Or.inl ⟨by rfl,?_⟩) ?_
               · intro w1 hSw; (try dsimp only at hSw); go_simp
               simp only [Act.put,aj6,aj5,aj4,aj3,aj7,aj8];refine tkA (i:=27) (v:=.bool false) rfl (Or.inl ⟨by rfl,?_⟩) ?_
               · intro w1 hSw; (try dsimp only at hSw); go_simp
               simp only [Act.put,aj6,aj5,aj4,aj3,aj7,aj8];refine tkA (i:=28) (v:=.bool false) rfl (Or.inl ⟨by rfl,?_⟩) ?_
               · intro w1 hSw; (try dsimp only at hSw); go_simp
               simp only [Act.put,aj6,aj5,aj4,aj3,aj7,aj8];refine wpAnyH_done (by kernel_rfl) ?_ _;refine NoPanic.normal ?_;go_wp2
               go_roundw
               case rel=>exact ⟨j+1,by omega,by go_num,by rw [dZ.out,HO.out]; rfl,rfl,sN.out.quiet az.out,by rw [dZ.out,HO.out]; exact zD.out.grown az.out (by simp)⟩
               case measure=>simp [Go.RowKit.intOf]; omega
         · have HO:=hid (show o'=o by rw [gJ.out,EP.out,decide_eq_false Bc]; exact mG o);have hdj:decide (pq=(j:Int))=false:=decide_eq_false Bc;have av:=vw;clear EP gJ vw;go_wp2_with fail;refine wp_region_noPanic ?_;refine wp_region_held_drew (S:=λwx=>wx.cell? ⟨w5.heap.size,0,none⟩=some (.int .i64 u0)/\wx.cell? ⟨w5.heap.size,1,none⟩=some (.int .i64 u1)/\wx.cell? ⟨w5.heap.size,2,none⟩=some (.int .i64 u2)/\wx.cell? ⟨w5.heap.size,3,none⟩=some (.int .i64 u3)/\wx.cell? ⟨w5.heap.size,4,none⟩=some (.int .i64 u4)/\wx.cell? ⟨w5.heap.size,5,none⟩=some (.int .i64 u5)/\wx.cell? ⟨w5.heap.size,6,none⟩=some (.int .i64 u6)/\wx.cell? ⟨r,0,none⟩=some (.slice (some ⟨bl,0,none⟩) n c)) (by kernel_rfl) (av.out _ HD0.out) (λhHeld=>?_)
           refine tkA (i:=0) (v:=.bool true) rfl (Or.inl ⟨by rfl,?_⟩) ?_
           · intro w1 hSw; (try dsimp only at hSw); go_simp
           simp only [Act.put,aj6,aj4,aj3,aj7,aj8];refine tkA (i:=1) (v:=.bool true) rfl (Or.inl ⟨by rfl,?_⟩) ?_
           · intro w1 hSw; (try dsimp only at hSw); go_simp
           simp only [Act.put,aj6,aj5,aj4,aj3,aj7,aj8];refine tkA (i:=2) (v:=.agg #[.int .i64 u0,.int .i64 u1,.int .i64 u2,.int .i64 u3,.int .i64 u4,.int .i64 u5,.int .i64 u6]) rfl (Or.inl ⟨by rfl,?_⟩) ?_
           · intro w1 hSw; (try dsimp only at hSw); go_simp
           simp only [Act.put,aj6,aj5,aj4,aj3,aj7,aj8];refine tkA (i:=3) (v:=.pointer (some ⟨r,0,none⟩)) rfl (Or.inl ⟨by rfl,?_⟩) ?_
           · intro w1 hSw; (try dsimp only at hSw); go_simp
           simp only [Act.put,aj6,aj5,aj4,aj3,aj7,aj8];refine tkA (i:=4) (v:=.pointer (some ⟨r,0,none⟩)) rfl (Or.inl ⟨by rfl,?_⟩) ?_
           · intro w1 hSw; (try dsimp only at hSw); go_simp
           simp only [Act.put,aj6,aj5,aj4,aj3,aj7,aj8];refine tkA (i:=5) (v:=.pointer (some ⟨r,0,none⟩)) rfl (Or.inl ⟨by rfl,?_⟩) ?_
           · intro w1 hSw; (try dsimp only at hSw); go_simp
           simp only [Act.put,aj6,aj5,aj4,aj3,aj7,aj8];refine tkA (i:=6) (v:=.slice (some ⟨bl,0,none⟩) n c) rfl (Or.inl ⟨by rfl,?_⟩) ?_
           · intro w1 hSw; (try dsimp only at hSw); go_simp
           simp only [Act.put,aj6,aj5,aj4,aj3,aj7,aj8];refine tkA (i:=7) (v:=.int .i64 (n:Nat)) rfl (Or.inl ⟨by rfl,?_⟩) ?_
           · intro w1 hSw; (try dsimp only at hSw); go_simp
           simp only [Act.put,aj6,aj5,aj4,aj3,aj7,aj8];refine wpAnyH_ready (rs:=[8]) (by kernel_rfl) (by simp) ?_;refine AllReadyH.cons rfl (λK hK=>?_) AllReadyH.nil
           go_simp
           go_at_call 22
           refine (fM.out _).mono ?_;rintro e w7 ⟨rfl,hg⟩;have az:=hid (HD0.out.trans hg);clear hg;refine hK.out _ _ (av.out _ az.out) (λhHeld=>?_);clear hK K;refine tkA (i:=9) (v:=.bool true) rfl (Or.inl ⟨by rfl,?_⟩) ?_
           · intro w1 hSw; (try dsimp only at hSw); go_simp
           simp only [Act.put,aj6,aj5,aj4,aj3,aj7,aj8];refine tkA (i:=10) (v:=.bool true) rfl (Or.inl ⟨by rfl,?_⟩) ?_
           · intro w1 hSw; (try dsimp only at hSw); go_simp
           simp only [Act.put,aj6,aj5,aj4,aj3,aj7,aj8];refine tkA (i:=11) (v:=.bool true) rfl (Or.inl ⟨by rfl,?_⟩) ?_
           · intro w1 hSw; (try dsimp only at hSw); go_simp
           simp only [Act.put,aj6,aj5,aj4,aj3,aj7,aj8];refine tkA (i:=12) (v:=.pointer (some ⟨w5.heap.size,0,none⟩)) rfl (Or.inl ⟨by rfl,?_⟩) ?_
           · intro w1 hSw; (try dsimp only at hSw); go_simp
           simp only [Act.put,aj6,aj5,aj4,aj3,aj7,aj8];refine tkA (i:=13) (v:=.int .i64 u0) rfl (Or.inl ⟨by rfl,?_⟩) ?_
           · intro w1 hSw; (try dsimp only at hSw); go_simp
           simp only [Act.put,aj6,aj5,aj4,aj3,aj7,aj8];refine tkA (i:=14) (v:=.int .i64 pq) rfl (Or.inl ⟨by rfl,?_⟩) ?_
           · intro w1 hSw; (try dsimp only at hSw); go_simp
           simp only [Act.put,aj6,aj5,aj4,aj3,aj7,aj8];refine tkA (i:=15) (v:=.int .i64 j) rfl (Or.inl ⟨by rfl,?_⟩) ?_
           · intro w1 hSw; (try dsimp only at hSw); go_simp
           simp only [Act.put,aj6,aj5,aj4,aj3,aj7,aj8];refine tkA (i:=16) (v:=.bool false) rfl (Or.inl ⟨by rfl,?_⟩) ?_
           · intro w1 hSw; (try dsimp only at hSw); go_simp
           simp only [Act.put,aj6,aj5,aj4,aj3,aj7,aj8];refine tkA (i:=17) (v:=.bool false) rfl (Or.inl ⟨by rfl,?_⟩) ?_
           · intro w1 hSw; (try dsimp only at hSw); go_simp
           simp only [Act.put,aj6,aj5,aj4,aj3,aj7,aj8];refine tkA (i:=18) (v:=.bool false) rfl (Or.inl ⟨by rfl,?_⟩) ?_
           · intro w1 hSw; (try dsimp only at hSw); go_simp
           simp only [Act.put,aj6,aj5,aj4,aj3,aj7,aj8];refine tkA (i:=19) (v:=undef) rfl (Or.inr ⟨by rfl,rfl⟩) ?_;simp only [Act.put,aj6,aj5,aj4,aj3,aj7,aj8]
           refine tkA (i:=20) (v:=undef) rfl (Or.inr ⟨by rfl,rfl⟩) ?_;simp only [Act.put,aj6,aj5,aj4,aj3,aj7,aj8];refine tkA (i:=21) (v:=undef) rfl (Or.inr ⟨by rfl,rfl⟩) ?_
           simp only [Act.put,aj6,aj5,aj4,aj3,aj7,aj8];refine tkA (i:=22) (v:=undef) rfl (Or.inr ⟨by rfl,rfl⟩) ?_;simp only [Act.put,aj6,aj5,aj4,aj3,aj7,aj8]
           refine tkA (i:=23) (v:=undef) rfl (Or.inr ⟨by rfl,rfl⟩) ?_;simp only [Act.put,aj6,aj5,aj4,aj3,aj7,aj8];refine tkA (i:=24) (v:=undef) rfl (Or.inr ⟨by rfl,rfl⟩) ?_
           simp only [Act.put,aj6,aj5,aj4,aj3,aj7,aj8];refine tkA (i:=25) (v:=undef) rfl (Or.inr ⟨by rfl,rfl⟩) ?_;simp only [Act.put,aj6,aj5,aj4,aj3,aj7,aj8]
           refine tkA (i:=26) (v:=undef) rfl (Or.inr ⟨by rfl,rfl⟩) ?_;simp only [Act.put,aj6,aj5,aj4,aj3,aj7,aj8];refine tkA (i:=27) (v:=undef) rfl (Or.inr ⟨by rfl,rfl⟩) ?_
           simp only [Act.put,aj6,aj5,aj4,aj3,aj7,aj8];refine tkA (i:=28) (v:=.bool false) rfl (Or.inl ⟨by rfl,?_⟩) ?_
           · intro w1 hSw; (try dsimp only at hSw); go_simp
           simp only [Act.put,aj6,aj5,aj4,aj3,aj7,aj8];refine wpAnyH_done (by kernel_rfl) ?_ _;refine NoPanic.normal ?_;go_wp2
           go_roundw
           case rel=>exact ⟨j+1,by omega,by go_num,by rw [dZ.out,HO.out],rfl,sN.out.quiet az.out,by rw [dZ.out,HO.out]; exact kW.out.grown az.out (by simp)⟩
           case measure=>simp [Go.RowKit.intOf]; omega
  · obtain rfl:j=2:=by omega
    have wB:=zS (n:Int) (LX 0) (LX 1) 2;have dO:=hid hld;have hR:=hld.rs;have x0:=hR.cell 0; have x1:=hR.cell 1; have x2:=hR.cell 2; have x3:=hR.cell 3; have x4:=hR.cell 4; have x5:=hR.cell 5; have x6:=hR.cell 6;simp only [akb,aka,akc] at x0 x1 x2 x3 x4 x5 x6;have f0:=hR.frozen 0; have f1:=hR.frozen 1; have f2:=hR.frozen 2; have f3:=hR.frozen 3; have f4:=hR.frozen 4; have f5:=hR.frozen 5; have f6:=hR.frozen 6
    clear hld;generalize seen (n:Int) (LX 0) (LX 1) 2=Jd at *;generalize FX 2=f2 at *;generalize SX 2=S2 at *
    cases f2 with
    | true =>
      have HE:=hid (show LE=10 from vU.out); have HV:=hid (show LV=jm from oO.out);clear vU oO wB hx;go_wp2_with fail;refine di rfl w.heap.size 49 _ _ rfl (af.kv dO.out.rs) Tryz.underlying49 rfl (by kernel_rfl) rfl ⟨?_,?_⟩
      · rw [HE.out,HV.out]; first | done | rfl
      · rw [yA.out]; exact BN HL.out ⟨dO.out.d,dO.out.t⟩
    | false =>
      cases Jd with
      | none =>
        have HE:=hid (show LE=14 from vU.out); have HV:=hid (show LV=jm from oO.out);clear vU oO wB hx;go_wp2_with fail;refine di rfl w.heap.size 49 _ _ rfl (af.kv dO.out.rs) Tryz.underlying49 rfl (by kernel_rfl) rfl ⟨?_,?_⟩
        · rw [HE.out,HV.out]; first | done | rfl
        · rw [yA.out]; exact BN HL.out ⟨dO.out.d,dO.out.t⟩
      | some pp =>
        obtain ⟨p0,p1,p2,p3,p4,p5,p6,rfl⟩:=Dw (wB pp rfl);have HE:=hid (show LE=0 from vU.out); have HV:=hid (show LV=[p0,p1,p2,p3,p4,p5,p6] from oO.out);have hx':af wr (w.heap.size+1) 49 #[.int .i64 p0,.int .i64 p1,.int .i64 p2,.int .i64 p3,.int .i64 p4,.int .i64 p5,.int .i64 p6]:=hx;have y0:=hx'.cell 0; have y1:=hx'.cell 1; have y2:=hx'.cell 2; have y3:=hx'.cell 3; have y4:=hx'.cell 4; have y5:=hx'.cell 5; have y6:=hx'.cell 6
        simp only [akb,aka,akc] at y0 y1 y2 y3 y4 y5 y6;clear vU oO wB hx hx';go_wp2_with fail;refine di rfl w.heap.size 49 _ _ rfl (af.kv dO.out.rs) Tryz.underlying49 rfl (by kernel_rfl) rfl ⟨?_,?_⟩
        · rw [HE.out,HV.out]; first | done | rfl
        · rw [yA.out]; exact BN HL.out ⟨dO.out.d,dO.out.t⟩
theorem BQ {w:World} {B r:Nat} {S:St} {own:Nat->Prop} (h:bX w B r S own) :
 Calls Tryz.prog 27 #[.pointer (some ⟨r,0,none⟩)] w λe w' =>
  e=.returned (.tuple #[nG (iX S),.int .i64 (gP S)])/\bX w' B r (loadT S) own/\aa w w' own own:=by
 by_cases h2:S.n < 2
 · exact IE h h2
 · exact Mi h h2
end Go.Proofs.YtinajlbijgedbaaGreat.Sup
