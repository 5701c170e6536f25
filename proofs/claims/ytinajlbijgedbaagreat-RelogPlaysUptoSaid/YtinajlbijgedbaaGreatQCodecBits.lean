/- Texts of this seat's proofs: CodecBits, CodecBits2, CodecCounts, CodecSuper, SupSmall, CodecSuperGet. -/
import Derived.Test.YtinajlbijgedbaaGreatQCurMath
import Derived.Test.YtinajlbijgedbaaGreatQI64
import Derived.Test.YtinajlbijgedbaaGreatQCrcFill
import Derived.Test.YtinajlbijgedbaaGreatQCodecSpec
import Derived.Lib.BufferWrite
import Derived.Lib.Bytes
import Derived.Laws.BytesArg
set_option maxRecDepth 100000
set_option maxHeartbeats 16000000
namespace Go.Proofs.YtinajlbijgedbaaGreat.Codec
open Lib (hid)
open Go.RowKit CrcMath CodecMath Mem Crc
theorem dG (n m:Int) (w:World):Calls Tryz.prog 139 #[.int .i64 n,.int .i64 m] w λe w'=>e=.returned (.bool (dA n m))/\w=w':=by
 by_cases h:0<=n
 · have hi:dA n m=decide (n<=m):=by simp [dA,h]
   have HI:=hid hi; clear hi;go_enter Tryz.func139,Tryz.ntmps139;go_wp2;go_ret;exact ⟨by rw [HI.out]; rfl,rfl⟩
 · have hi:dA n m=false:=by simp [dA,h]
   have HI:=hid hi; clear hi;have hd:decide (0<=n)=false:=by simp; omega
   go_enter Tryz.func139,Tryz.ntmps139;go_wp2;go_ret;exact ⟨by rw [HI.out]; rfl,rfl⟩
theorem yt (A:Option Addr) (n c:Nat) (l:List Int) (m:Int) (w:World) (hlen:l.length=n) (hl:0 < n->∃ g o,A=some ⟨g,o,none⟩/\∀ j,j < n->w.cell? ⟨g,o+j,none⟩=some (.int .i64 (l.getD j 0))) (hn:n<=9223372036854775807) :
 Calls Tryz.prog 153 #[.slice A n c,.int .i64 m] w λe w'=>e=.returned (.bool (qL l m))/\w=w':=by
 have HLEN:=hid hlen; have HL:=hid hl; clear hlen hl;go_enter Tryz.func153,Tryz.ntmps153;go_wp2_with fail
 go_loop [6,9] (λ_ i=>∃ j:Nat,j<=n/\i=.int .i64 j/\(∀ q,q < j->dA (l.getD q 0) m=true)) (λ_ i=>n - (intOf i).toNat)
 case atStart=>exact ⟨0,by omega,rfl,λq hq=>by omega⟩
 case round =>
  obtain ⟨j,hj,rfl,hin⟩:=hrel;have pM:=hid hin; clear hin
  by_cases hlt:j < n
  · obtain ⟨g,o,rfl,hc⟩:=HL.out (by omega);have hcj:=hc j hlt;clear hc
    cases hib:dA (l.getD j 0) m with
    | false =>
      have bD:=hid (QG j (by rw [HLEN.out]; exact hlt) hib);generalize l.getD j 0=x at *;have jI:=hid hib; clear hib;go_wp2_with fail;refine (dG x _ _).mono ?_;rintro e w2 ⟨rfl,rfl⟩;rw [jI.out];go_wp2;go_ret;exact ⟨by rw [bD.out]; rfl,rfl⟩
    | true =>
      have hin':∀ q,q < j+1->dA (l.getD q 0) m=true:=by
       intro q hq
       by_cases e:q=j
       · subst e; exact hib
       · exact pM.out q (by omega)
      have OD:=hid hin'; clear hin';generalize l.getD j 0=x at *;have jI:=hid hib; clear hib;go_wp2_with fail;refine (dG x _ _).mono ?_;rintro e w2 ⟨rfl,rfl⟩;rw [jI.out];go_wp2
      go_round
      case rel=>exact ⟨j+1,by omega,by go_num,OD.out⟩
      case measure=>simp [intOf]; omega
  · obtain rfl:j=n:=by omega
    have HY:=hid (QH j HLEN.out pM.out);go_wp2;go_ret;exact ⟨by rw [HY.out]; rfl,rfl⟩
theorem Lf (b:Nat) (A:Option Addr) (n c:Nat) (l:List Int) (m:Int) (w:World) (hl:Ints w b A n l) (hn:n<=9223372036854775807) :
 Calls Tryz.prog 153 #[.slice A n c,.int .i64 m] w λe w'=>e=.returned (.bool (qL l m))/\w=w' :=
 yt A n c l m w hl.1 (λh=>by obtain ⟨g,o,e,_,_,hc⟩:=hl.2.2 h; exact ⟨g,o,e,hc⟩) hn
theorem Z7 (l l2:List Nat) (h:∀ x∈l,x < 256) (h2:∀ x∈l2,x < 256):((strOfNums (l.map λx:Nat=>(x:Int))).toList == (strOfNums (l2.map λx:Nat=>(x:Int))).toList)=decide (l=l2):=by
 have e:∀ q:List Nat,(strOfNums (q.map λx:Nat=>(x:Int))).toList=q.map UInt8.ofNat:=by
  intro q;rw [Lib.strOfNums_toList,Lib.bytesOf,List.map_map]
  rfl
 rw [e,e,Bool.eq_iff_iff];simp only [beq_iff_eq,decide_eq_true_eq];refine ⟨λhh=>?_,λhh=>by rw [hh]⟩;have h3:=congrArg (List.map UInt8.toNat) hh;rw [List.map_map,List.map_map] at h3;have e2:∀ q:List Nat,(∀ x∈q,x < 256)->q.map (UInt8.toNat ∘ UInt8.ofNat)=q:=by
  intro q hq
  conv=>rhs; rw [<-List.map_id q]
  refine List.map_congr_left λx hx=>?_
  simp [Nat.mod_eq_of_lt (hq x hx)]
 rwa [e2 l h,e2 l2 h2] at h3
theorem Qa {w:World} {b n:Nat} {A:Option Addr} {l:List Nat} (h:Bytes w b A n l) (c:Nat):(convert 65 9 (.slice A n c)).run Tryz.prog w=.ok (.string (strOfNums (l.map λx:Nat=>(x:Int)))) w:=by
 by_cases h0:n=0
 · subst h0;obtain rfl:l=[]:=List.eq_nil_of_length_eq_zero h.1;rw [run_convert_bytes_string w 65 9 5 _ 0 c Tryz.underlying65 Tryz.underlying5 Tryz.underlying9]
   cases A <;> simp [Conv.bytesToString,loadCells]
   all_goals rfl
 · obtain ⟨g,o,rfl,_,_,hc⟩:=h.2.2 (by omega);refine run_convert_bytes_arg (P:=Tryz.prog) w 65 5 Tryz.underlying65 Tryz.underlying5 g o n c _ (by rw [List.length_map,h.1]) (λi hi=>?_) _ Tryz.underlying9;rw [hc i hi];have:i < l.length:=by rw [h.1]; exact hi
   simp [akg,this]
theorem VX (b b2:Nat) (A A2:Option Addr) (n n2 c c2:Nat) (l l2:List Nat) (w:World) (hl:Bytes w b A n l) (hl2:Bytes w b2 A2 n2 l2) :
 Calls Tryz.prog 169 #[.slice A n c,.slice A2 n2 c2] w λe w'=>e=.returned (.bool (decide (l=l2)))/\w=w':=by
 have k1:=Qa hl c;have k2:=Qa hl2 c2;have HE:=hid (Z7 l l2 hl.2.1 hl2.2.1);clear hl hl2;go_enter Tryz.func169,Tryz.ntmps169;go_wp2;go_ret;exact ⟨by rw [<-HE.out]; rfl,rfl⟩
theorem vK (b b2:Nat) (A A2:Option Addr) (n n2 c c2:Nat) (l l2:List Nat) (w:World) (hl:Bytes w b A n l) (hl2:Bytes w b2 A2 n2 l2) :
 Calls Tryz.prog 157 #[.slice A n c,.slice A2 n2 c2,.int .i64 0] w λe w'=>e=.returned (.bool (decide (l=l2)))/\w=w':=by
 have HL:=hid hl; have HL2:=hid hl2; clear hl hl2;generalize hd:decide (l=l2)=d at *;have HD:=hid hd; clear hd;go_enter Tryz.func157,Tryz.ntmps157;go_wp2_with fail;refine (VX b b2 A A2 n n2 c c2 l l2 _ HL.out HL2.out).mono ?_;rintro e w1 ⟨rfl,rfl⟩;rw [HD.out];go_wp2;go_ret;exact ⟨rfl,rfl⟩
theorem vJ (A A2:Option Addr) (n n2 c c2:Nat) (w:World) :
 Calls Tryz.prog 157 #[.slice A n c,.slice A2 n2 c2,.int .i64 1] w λe w'=>e=.returned (.bool false)/\w=w':=by
 go_enter Tryz.func157,Tryz.ntmps157;go_wp2;go_ret;exact ⟨rfl,rfl⟩
theorem kZ {w w':World} {b:Nat} (h:mX w b) {row:Option Nat} (hg:w.grownBy w' row) (hne:some b≠row):mX w' b:=by
 rcases h with ⟨cs,hb,hf⟩ | ⟨cs,hb,hf⟩
 · exact .inl ⟨cs,hb.grown hg hne,hf⟩
 · exact .inr ⟨cs,hb.grown hg hne,hf⟩
def ad2 (w:World) (b g s:Nat):Prop:=(Ready w b/\s=g)\/(mX w b/\s=b)
theorem rf {w:World} {b g:Nat} {t:TypeId} {L:List Nat} (h:af w g t (au L).toArray) (hne:g≠b) (hl:∀ x∈L,x < 256):Bytes w b (some ⟨g,0,none⟩) L.length L :=
 ⟨rfl,hl,λ_=>⟨g,0,rfl,h.lt,hne,λj hj=>by rw [Nat.zero_add,h.cell,akb,fT _ _ hj]⟩⟩
theorem VP (pre:List Nat) (h:pre.length<=252):lay (fill pre 256) 252 (rZ (M 0 (fill pre 252)))=frame pre:=by
 have h1:(fill pre 256).take 252=fill pre 252:=by
  simp only [fill,List.take_append,List.take_replicate];rw [akk h]
  congr 2
  omega
 simp only [lay,splice,mI];rw [h1,List.drop_of_length_le (by rw [aT _ _ (by omega)]; exact akf _),List.append_nil]
 rfl
theorem TY (pre:List Nat) (h:pre.length<=252):(fill pre 256).take 252=fill pre 252:=by
 simp only [fill,List.take_append,List.take_replicate];rw [akk h]
 congr 2
 omega
theorem Px (s j:Nat) (h:j < 4):(rZ s).take (j+1)=(rZ s).take j ++ [s / 256 ^ j % 256]:=MX s j h
theorem zT (b g s:Nat) (pre:List Nat) (w:World) (hT:ad2 w b g s) (hg:af w g 140 (au (fill pre 256)).toArray) (hpre:pre.length<=252) (hlt:∀ x∈pre,x < 256) (hbg:g≠b) :
 Calls Tryz.prog 107 #[.pointer (some ⟨b,0,none⟩),.pointer (some ⟨g,0,none⟩)] w λe w' =>
  e=.returned (.slice (some ⟨g,0,none⟩) 256 256)/\Left w w' g s/\Ready w' b/\af w' g 140 (au (frame pre)).toArray:=by
 have hlen:=aT pre 256 (by omega);have hb:=(rf hg hbg (I8 pre 256 hlt)).ad4 252 (by omega);rw [TY pre hpre] at hb;have HB:=hid hb;have Di:=hid (VP pre hpre);have qj:M 0 (fill pre 252) < 4294967296:=Jf _ _;have HG:=hid hg; have HLEN:=hid hlen; have HA:=hid hT;have acy:mX w b:=hT.elim (λh=>.inr h.1) (λh=>h.1);clear hT hg hlen hb;go_enter Tryz.func107,Tryz.ntmps107;go_wp2_with fail;refine (P5 b _ 252 _ _ _ acy HB.out (by omega)).mono ?_
 rintro e w1 ⟨rfl,hga,hra,hsame⟩;have hl0:Left w w1 g s:=by
  rcases HA.out with ⟨h,_⟩ | ⟨_,rfl⟩
  · rw [hsame h]; exact Left.of0 (akr _ _) _ _
  · exact Left.of2 hga _
 have az:=hid (HG.out.grown hga (by simpa using hbg));have j3:=hid hl0; have HR1:=hid hra;clear hga hra hsame hl0 acy;generalize M 0 (fill pre 252)=sm at *;go_wp2_with fail
 go_loopw [7,18] (λ_ i wr=>∃ j:Nat,j<=4/\i=.int .i64 j/\w1.grownBy wr (some g)/\af wr g 140 (au (lay (fill pre 256) 252 ((rZ sm).take j))).toArray) (λ_ i _=>4 - (intOf i).toNat)
 case atStart=>exact ⟨0,by omega,rfl,akr _ _,by simpa [Qo] using az.out⟩
 case round =>
  obtain ⟨j,hj,rfl,hgw,hbw⟩:=hrel;have nO:=hid hbw; have fU:=hid hgw; clear hbw hgw
  by_cases hlt:j < 4
  · have hlen:(lay (fill pre 256) 252 ((rZ sm).take j)).length=256:=by rw [GA _ _ _ (by rw [aku,mI,HLEN.out]; omega),HLEN.out]
    have hcell:=nO.out.cell (252+j);rw [akb,fT _ _ (by omega)] at hcell;have hfr:=nO.out.frozen (252+j);have hst:=Qn (fill pre 256) 252 ((rZ sm).take j) (sm / 256 ^ j % 256) (by rw [aku,mI,HLEN.out]; omega);rw [aku,mI,Nat.min_eq_left (by omega),<-Px sm j hlt] at hst;have HST:=hid hst; have iG:=hid (EH sm j); clear hst hlen;go_wp2_with fail
    go_roundw
    case rel =>
     refine ⟨j+1,by omega,by go_num,bI fU.out _ _,?_⟩;rw [iG.out];have h:=nO.out.aC (252+j) (.int .u8 ((sm / 256 ^ j % 256:Nat):Int));rw [PX,HST.out] at h;exact h
    case measure=>simp [intOf]; omega
  · obtain rfl:j=4:=by omega
    go_wp2;go_ret;refine ⟨rfl,j3.out.trans (Left.Za fU.out s),HR1.out.keep fU.out (by simpa using λe=>hbg e.symm),?_⟩;have h:=nO.out;rw [akk (by rw [mI]; exact akf _),Di.out] at h;exact h
theorem yZ (w:World):(zeroValue 140).run Tryz.prog w=.ok (.agg (Array.replicate 256 (.int .u8 0))) w:=by kernel_rfl
theorem LF:(Tryz.prog.info? 5).map (·.size)=some 1:=by kernel_rfl
theorem ym (N:Nat):(au (fill [] N)).toArray=Array.replicate N (.int .u8 0):=by
 simp [fill,au]
def acM (w:World) (t:TypeId) (N:Nat) (l:List Nat) (e:Ending) (w':World):Prop :=
 e=.returned (.tuple #[.slice (some ⟨w.heap.size,0,none⟩) N N,.bool true])/\w.grownBy w' none/\af w' w.heap.size t (au l).toArray
theorem oF {w W:World} {h:Nat} (hg:w.grownBy W none) (hh:w.heap.size<=h) (cs:Array Value):w.grownBy (W.setRow h cs) none :=
 ⟨hg.os,hg.tape,hg.output,by simpa [World.setRow] using hg.size,λk hk _=>(setRow_other W h k cs (by omega)).trans (hg.block k hk (by simp))⟩
theorem mO {W:World} {h:Nat} {t:TypeId} {cs:Array Value} (hb:af W h t cs) (ds:Array Value):af (W.setRow h ds) h t ds:=setRow_heap W h cs ds t (0,0) hb
theorem KS {W:World} {h g o c N b:Nat} {t:TypeId} {cs:Array Value} {l:List Nat} (hb:af W h t cs) (hs:cs.size=N) (hl:Bytes W b (some ⟨g,o,none⟩) N l) (ty:TypeId) :
 (Builtin.copy_ #[65,65] ty #[.slice (some ⟨h,0,none⟩) N N,.slice (some ⟨g,o,none⟩) N c]).run Tryz.prog W=.ok (.int .i64 N) (W.setRow h (au l).toArray):=by
 have hlen:=hl.1;have:=run_copy_row (P:=Tryz.prog) W 65 65 ty 5 h 0 N N ⟨g,o,none⟩ N c cs t (au l) Tryz.underlying65 LF hb
  (by rw [aB,hlen]; simp) (λj v hv=>by
    have hj:j < l.length:=by
     rcases Nat.lt_or_ge j l.length with h1 | h1
     · exact h1
     · rw [List.getElem?_eq_none (by rw [aB]; exact h1)] at hv; cases hv
    obtain ⟨g',o',e,_,_,hc⟩:=hl.2.2 (by omega);simp only [Option.some.injEq,Addr.mk.injEq,and_true] at e;obtain ⟨rfl,rfl⟩:=e;have e1:(⟨g,o,none⟩:Addr).add j=⟨g,o+j,none⟩:=by unfold Addr.add; split <;> simp_all
    rw [e1,hc j (by omega),<-hv,fT _ _ hj]) (by rw [aB,hlen]; omega) (fO l)
 rw [this,aB,hlen];have hd:cs.toList.drop (0+N)=[]:=List.drop_of_length_le (by simp; omega);rw [hd,List.append_nil,List.take_zero,List.nil_append]
 rfl
theorem tO (b b2:Nat) (A:Option Addr) (c:Nat) (l:List Nat) (w:World) (hl:Bytes w b2 A 256 l) :
 Calls Tryz.prog 155 #[.pointer (some ⟨b,0,none⟩),.slice A 256 c] w (acM w 140 256 l):=by
 obtain ⟨g,o,rfl,hlt,_,hc⟩:=hl.2.2 (by omega);have hz:=yZ;have hb0:=af.new w 140 (Array.replicate 256 (.int .u8 0));have hcp:=KS (c:=c) hb0 (by simp) (bP hl (aj9 w _ none));have HB:=hid (mO hb0 (au l).toArray);have HG:=hid (oF (aj9 w (.cells (Array.replicate 256 (.int .u8 0)) 140) none) (akf _) (au l).toArray);clear hc hl hb0;generalize hcs:(au l).toArray=cs at *
 have E5:=hid hcs; clear hcs;generalize hzz:Array.replicate 256 (Value.int .u8 0)=zs at *;clear hzz;go_enter Tryz.func155,Tryz.ntmps155;go_wp2;go_ret2;exact ⟨rfl,HG.out,by rw [E5.out]; exact HB.out⟩
theorem vG (b:Nat) (A:Option Addr) (n c:Nat) (w:World) (hn:n≠256) :
 Calls Tryz.prog 155 #[.pointer (some ⟨b,0,none⟩),.slice A n c] w λe w'=>e=.returned (.tuple #[.slice none 0 0,.bool false])/\w=w':=by
 have hne:(((n:Nat):Int) != 256)=true:=by simp; omega
 go_enter Tryz.func155,Tryz.ntmps155;go_wp2;go_ret2;exact ⟨rfl,rfl⟩
theorem TU (s:ByteArray):Lib.byteCells s.data.toList=au (s.data.toList.map UInt8.toNat):=by simp [Lib.byteCells,au]
theorem Fv (p g k n:Nat) (t:TypeId) (L:List Nat) (s:ByteArray) (xs:List Nat) (w:World) (hc:ny w p g k n) (hg:af w g t (au L).toArray) (ht:t≠153)
 (hs:s.data.toList.map UInt8.toNat=xs) (h4:s.size=4) (h:4<=n) (hn:k+n<=L.length) (hL:L.length<=4096) :
 Calls Tryz.prog 104 #[.pointer (some ⟨p,0,none⟩),.string s] w λe w' =>
  e=.returned (.tuple #[])/\Left w w' p g/\ny w' p g (k+4) (n - 4)/\af w' g t (au (lay L k xs)).toArray:=by
 have jG:=hc.ne hg ht;have HG:=hid hg; have HC:=hid hc; have HS:=hid hs; clear hc hg hs;have h4':(s.size:Int)=4:=by omega
 go_enter Tryz.func104,Tryz.ntmps104;go_wp2_with fail;refine (mq p g k n 4 w HC.out h (by omega)).mono ?_;rintro e w1 ⟨⟨k0,rfl,hk⟩,hgr,hc1⟩;obtain rfl:=hk (by omega);have hb1:=HG.out.grown hgr (by simpa using λe=>jG e.symm);have hcp:=λty=>Lib.run_copy_row_string (P:=Tryz.prog) w1 65 9 ty 5 g k0 4 4 s _ t Tryz.underlying65 LF hb1 (by omega) (by simp [aB]; omega)
 have abO:(au L).toArray.toList.take k0 ++ Lib.byteCells s.data.toList ++ (au L).toArray.toList.drop (k0+s.size)=au (lay L k0 xs):=by
  have hx:(au xs).length=s.size:=by rw [<-HS.out,aB,List.length_map,Array.length_toList]; rfl
  rw [PY,splice,TU,HS.out,List.append_assoc,hx]
 rw [abO] at hcp;have HB:=hid (mO hb1 (au (lay L k0 xs)).toArray);have l9:=hid hc1; have pO:=hid (Left.Za hgr g);have hset:Left w1 (w1.setRow g (au (lay L k0 xs)).toArray) p g:=⟨rfl,rfl,rfl,by simp [World.setRow],λi _ _ h2=>setRow_other w1 g i _ h2⟩;have hc2:ny (w1.setRow g (au (lay L k0 xs)).toArray) p g (k0+4) (n - 4):=by
  obtain ⟨k1,hb,hk1⟩:=hc1;exact ⟨k1,(setRow_other w1 g p _ jG).trans hb,hk1⟩
 have yX:=hid hset; have mo:=hid hc2;clear hb1 hc1 hgr hk abO hset hc2;generalize hcs:(au (lay L k0 xs)).toArray=cs at *;have E5:=hid hcs; clear hcs;go_wp2
 go_end0
 exact ⟨rfl,pO.out.trans yX.out,mo.out,by rw [E5.out]; exact HB.out⟩
def TG (w:World) (t:TypeId) (o:Option (List Nat)) (e:Ending) (w':World):Prop :=
 w.grownBy w' none/\((∃ l g,o=some l/\e=.returned (.tuple #[.slice (some ⟨g,0,none⟩) l.length l.length,.int .i64 0])/\w.heap.size<=g/\af w' g t (au l).toArray/\∀ x∈l,x < 256) \/
  (o=none/\e=.returned (.tuple #[.slice none 0 0,.int .i64 1])))
theorem Dz (w:World) (g N:Nat) (k:Nat) (hk:k=0):ny (w.alloc (.cells #[.slice (some ⟨g,0,none⟩) N N] 153)) w.heap.size g k N:=⟨0,af.new w _ _,λ_=>hk.symm⟩
theorem RH {w:World} {g base n:Nat} {e:TypeId} {xs:List Value} (h:af w g e xs.toArray) (hn:xs.length=n) (hb:base<=g) (hm:n<=maxLen):Own w base e 1 (.slice (some ⟨g,0,none⟩) n n) n xs :=
 .inr ⟨g,xs.toArray,_,rfl,hb,h,hm,by simp,by omega⟩
theorem Ui (xs:List Value) (v z:Value) (c j:Nat) (hx:xs.length=j) (hj:j < c):(xs ++ List.replicate (c - j) z).toArray.setIfInBounds j v=(xs ++ [v] ++ List.replicate (c - (j+1)) z).toArray:=by
 obtain ⟨q,hq⟩:∃ q,c - j=q+1:=⟨c - j - 1,by omega⟩;rw [hq,show c - (j+1)=q from by omega];simp only [aj3];rw [List.set_append,if_neg (by omega),hx,Nat.sub_self,List.replicate_succ]
 simp
theorem U6 (n:Nat):madeCells (Value.int .i64 0).cells n=(List.replicate n (Value.int .i64 0)).toArray:=by
 refine Array.ext (by simp [size_madeCells]) (λi h1 h2=>?_)
 simp [madeCells,Value.cells,Nat.mod_one]
theorem Xo (n:Nat) (w:World) (h:n<=4096):(Instr.makeSlice 45 (.int .i64 n) (.int .i64 n)).run Tryz.prog w=.ok (.slice (some ⟨w.heap.size,0,none⟩) n n) (w.alloc (.cells (List.replicate n (Value.int .i64 0)).toArray 3)):=by
 obtain ⟨i0,hi0,hz0,hz1,hz2⟩:=info_parts qI;have h:=run_make (P:=Tryz.prog) w 45 3 i0 _ Tryz.underlying45 hi0 hz0 .i64 .i64 n n (by omega) (Int.le_refl _) (by rw [hz2]; omega) (by omega);rw [h,hz1,Nat.mul_one,Int.toNat_natCast,U6]
theorem Pk (p g k n count width:Nat) (t:TypeId) (L:List Nat) (w:World) (hc:ny w p g k n) (hg:af w g t (au L).toArray) (ht:t≠153) (hb:∀ x∈L,x < 256)
 (h:width * count<=n) (hn:k+n<=L.length) (hL:L.length<=4096) (hcnt:count<=4096) (hw:width<=7) :
 Calls Tryz.prog 170 #[.pointer (some ⟨p,0,none⟩),.int .i64 count,.int .i64 width] w λe w' =>
  ∃ v,e=.returned v/\Own w' w.heap.size 3 1 v count (lW (eY L k width width count))/\w.grownBy w' (some p)/\ny w' p g (k+width * count) (n - width * count):=by
 have jG:=hc.ne hg ht;have hpl:p < w.heap.size:=by obtain ⟨_,h,_⟩:=hc; exact h.lt
 have HG:=hid hg; have HC:=hid hc; have rG:=hid hb; clear hc hg hb
 by_cases h0:count=0
 · subst h0;go_enter Tryz.func170,Tryz.ntmps170;go_wp2;go_ret;exact ⟨_,rfl,Own.nil _ _ _ _,akr _ _,by simpa using HC.out⟩
 · have hne:(((count:Nat):Int) == 0)=false:=by simp; omega
   have hmk:=Xo count w hcnt;go_enter Tryz.func170,Tryz.ntmps170;go_wp2_with fail
   go_loopw [8,15] (λ_ i wr=>∃ j:Nat,j<=count/\i=.int .i64 j/\Left w wr p w.heap.size/\ny wr p g (k+width * j) (n - width * j)/\af wr w.heap.size 3 (lW (eY L k width width j) ++ List.replicate (count - j) (Value.int .i64 0)).toArray) (λ_ i _=>count - (intOf i).toNat)
   case atStart =>
    refine ⟨0,by omega,rfl,Left.of0 (aj9 w _ none) _ _,HC.out.grown (aj9 w _ none) (by simp),?_⟩;exact af.new w _ _
   case round =>
    obtain ⟨j,hj,rfl,hlf,hc,hbk⟩:=hrel;have OB:=hid hlf; have HCr:=hid hc; have fD:=hid hbk;clear hlf hc hbk
    by_cases hlt:j < count
    · have hmul:width * j+width<=width * count:=by rw [<-Nat.mul_succ]; exact Nat.mul_le_mul_left _ hlt
      have KD:=hid (OB.out.blk HG.out (λe=>jG e.symm) (λe=>by have:=HG.out.lt; omega));have l7:=hid (Eh L k width width j);obtain ⟨hw1,_⟩:=gy L (k+width * j) width rG.out hw;have HW1:=hid hw1; clear hw1;have gV:=hid (Ui (lW (eY L k width width j)) (.int .i64 ((num L (k+width * j) width:Nat):Int)) (.int .i64 0) count j (by rw [qg,iW]) hlt);have hsl:(lW (eY L k width width j) ++ List.replicate (count - j) (Value.int .i64 0)).length=count:=by rw [akl,qg,iW,List.length_replicate]; omega
      have yB:=hid hsl; clear hsl;go_wp2_with fail;refine (gN p g (k+width * j) (n - width * j) width t L _ HCr.out KD.out ht rG.out (by omega) (by omega) hL).mono ?_;rintro e w2 ⟨rfl,hg2,hc2⟩;rw [HW1.out];have hb2:=fD.out.grown hg2 (by simp; omega);have hcell:=hb2.cell j;rw [akb,akj (by rw [yB.out]; exact hlt)] at hcell;have hfr:=hb2.frozen j;have HB2:=hid hb2; have mo:=hid hc2; have HL2:=hid (OB.out.trans (Left.Za hg2 w.heap.size))
      clear hg2 hc2 hb2;generalize num L (k+width * j) width=x at *;go_wp2_with fail;refine ⟨⟨j+1,by omega,by go_num,HL2.out.trans (Left.of2 (bI (akr _ _) _ _) p),?_,?_⟩,by simp [intOf]; omega⟩
      · have h:=mo.out.grown (bI (akr w2 (some w.heap.size)) j (.int .i64 (x:Int))) (by simp; omega)
        rwa [show k+width * j+width=k+width * (j+1) from by rw [Nat.mul_succ]; omega,show n - width * j - width=n - width * (j+1) from by rw [Nat.mul_succ]; omega] at h
      · have h:=HB2.out.aC j (.int .i64 (x:Int));rw [gV.out] at h;rw [l7.out,uz];exact h
    · obtain rfl:j=count:=by omega
      go_wp2;go_ret;refine ⟨_,rfl,?_,⟨OB.out.os,OB.out.tape,OB.out.output,OB.out.size,λi hi hne=>OB.out.block i hi (by simpa using hne) (by omega)⟩,HCr.out⟩;have h:=fD.out;rw [Nat.sub_self,List.replicate_zero,List.append_nil] at h;exact RH h (by rw [qg,iW]) (akf _) (by simp [maxLen]; omega)
theorem TG.some_ {w:World} {t:TypeId} {e:Ending} {w':World} {l:List Nat} (h:TG w t (some l) e w') :
 w.grownBy w' none/\∃ g,e=.returned (.tuple #[.slice (some ⟨g,0,none⟩) l.length l.length,.int .i64 0])/\w.heap.size<=g/\af w' g t (au l).toArray/\∀ x∈l,x < 256:=by
 obtain ⟨hg,⟨l',g,ho,he,rest⟩ | ⟨ho,_⟩⟩:=h
 · obtain rfl:l=l':=by injection ho
   exact ⟨hg,g,he,rest⟩
 · cases ho
def WY (w:World) (S:Option Nat) (b:Nat) (o:Option (List Nat)) (e:Ending) (w':World):Prop :=
 w.grownBy w' S/\((∃ l g,o=some l/\e=.returned (.tuple #[.slice (some ⟨g,0,none⟩) l.length l.length,.int .i64 0])/\w.heap.size<=g/\af w' g 140 (au l).toArray/\(∀ x∈l,x < 256)/\Ready w' b) \/
  (o=none/\e=.returned (.tuple #[.slice none 0 0,.int .i64 1])/\w.grownBy w' none))
def oK (w:World) (b:Nat) (S:Option Nat):Prop:=(Ready w b/\S=none)\/(mX w b/\S=some b)
theorem oK.asks {w w1:World} {b:Nat} {S:Option Nat} (h:oK w b S) (hg:w.grownBy w1 none) (g:Nat):∃ s,ad2 w1 b g s/\(∀ w2,Left w1 w2 g s->w.heap.size<=g->w.grownBy w2 S):=by
 rcases h with ⟨h,rfl⟩ | ⟨h,rfl⟩
 · exact ⟨g,.inl ⟨h.keep hg (by simp),rfl⟩,λw2 hl hge=>hl.new hg hge hge⟩
 · refine ⟨b,.inr ⟨kZ h hg (by simp),rfl⟩,λw2 hl hge=>?_⟩;exact ⟨hl.os.trans hg.os,hl.tape.trans hg.tape,hl.output.trans hg.output,akh hg.size hl.size,λk hk hne=>(hl.block k (ake hk hg.size) (by omega) (by simpa using hne)).trans (hg.block k hk (by simp))⟩
theorem oK.lt {w:World} {b:Nat} {S:Option Nat} (h:oK w b S):b < w.heap.size:=by
 rcases h with ⟨⟨_,h,_⟩,_⟩ | ⟨⟨_,h,_⟩ | ⟨_,h,_⟩,_⟩ <;> exact h.lt
theorem bW {w w':World} (h:w.grownBy w' none) (S:Option Nat):w.grownBy w' S:=⟨h.os,h.tape,h.output,h.size,λi hi _=>h.block i hi (by simp)⟩
theorem xY {w W:World} (hg:w.grownBy W none) (t:TypeId) (N:Nat) (zs:Array Value) (hz:(au (fill [] N)).toArray=zs) :
 w.grownBy ((W.alloc (.cells zs t)).alloc (.cells #[.slice (some ⟨W.heap.size,0,none⟩) N N] 153)) none /\
 ny ((W.alloc (.cells zs t)).alloc (.cells #[.slice (some ⟨W.heap.size,0,none⟩) N N] 153)) (W.heap.size+1) W.heap.size 0 N /\
 af ((W.alloc (.cells zs t)).alloc (.cells #[.slice (some ⟨W.heap.size,0,none⟩) N N] 153)) W.heap.size t (au (fill [] N)).toArray:=by
 refine ⟨(hg.trans (aj9 W _ none)).trans (aj9 _ _ none),?_,?_⟩
 · simpa using Dz (W.alloc (.cells zs t)) W.heap.size N 0 rfl
 · rw [hz];exact (af.new W _ zs).alloc _
def qb (s:List Int) (j:Nat):List Nat:=[80,83,85,80] ++ ((s.take j).flatMap λn=>be 8 n.toNat)
theorem Rb (s:List Int) (j:Nat) (hs:s.length=7) (h:j<=7):(qb s j).length=4+8 * j:=by
 rw [qb,akl,AA,aku,hs,Nat.min_eq_left h]; rfl
theorem OY (s:List Int) (j:Nat) (hs:s.length=7) (h:j < 7):qb s (j+1)=qb s j ++ be 8 (s.getD j 0).toNat:=by
 rw [qb,xV s 8 j (by omega),<-List.append_assoc]; rfl
theorem Rc (s:List Int) (hs:s.length=7):qb s 7=aX s:=by rw [qb,akk (by omega)]; rfl
theorem Vj (a0 a1 a2 a3 a4 a5 a6:Int) (j:Nat) (hj:j < 7) (w:World) :
 (Instr.index 177 (.agg #[.int .i64 a0,.int .i64 a1,.int .i64 a2,.int .i64 a3,.int .i64 a4,.int .i64 a5,.int .i64 a6]) (.int .i64 j)).run Tryz.prog w=.ok (.int .i64 ([a0,a1,a2,a3,a4,a5,a6].getD j 0)) w:=by
 obtain rfl | rfl | rfl | rfl | rfl | rfl | rfl:j=0\/j=1\/j=2\/j=3\/j=4\/j=5\/j=6:=by omega
 · kernel_rfl
 · kernel_rfl
 · kernel_rfl
 · kernel_rfl
 · kernel_rfl
 · kernel_rfl
 · kernel_rfl
theorem FW (s:List Int):eX s=qL s 1099511627776:=rfl
theorem zk (b:Nat) (S:Option Nat) (a0 a1 a2 a3 a4 a5 a6:Int) (w:World) (hT:oK w b S) :
 Calls Tryz.prog 131 #[.pointer (some ⟨b,0,none⟩),.agg #[.int .i64 a0,.int .i64 a1,.int .i64 a2,.int .i64 a3,.int .i64 a4,.int .i64 a5,.int .i64 a6]] w (WY w S b (eB [a0,a1,a2,a3,a4,a5,a6])):=by
 have HT:=hid hT; clear hT;have hz:=yZ;go_enter Tryz.func131,Tryz.ntmps131;go_wp2_with fail;generalize hs:[a0,a1,a2,a3,a4,a5,a6]=s at *;have hlen:s.length=7:=by subst hs; rfl
 have hget:∀ j,j < 7->(#[Value.int .i64 a0,.int .i64 a1,.int .i64 a2,.int .i64 a3,.int .i64 a4,.int .i64 a5,.int .i64 a6]:Array Value)[j]?=some (.int .i64 (s.getD j 0)):=by
  subst hs;intro j hj
  match j,hj with
  | 0,_ | 1,_ | 2,_ | 3,_ | 4,_ | 5,_ | 6,_=>rfl
 have HLEN:=hid hlen; have ag9:=hid hget; have HS:=hid hs; clear hlen hget hs;have hg0:=(aj9 w (.cells #[.int .i64 a0,.int .i64 a1,.int .i64 a2,.int .i64 a3,.int .i64 a4,.int .i64 a5,.int .i64 a6] 49) none).trans (aj9 _ (.cells #[.int .i64 a0,.int .i64 a1,.int .i64 a2,.int .i64 a3,.int .i64 a4,.int .i64 a5,.int .i64 a6] 177) none);have hb0:=af.new (w.alloc (.cells #[.int .i64 a0,.int .i64 a1,.int .i64 a2,.int .i64 a3,.int .i64 a4,.int .i64 a5,.int .i64 a6] 49)) 177 #[.int .i64 a0,.int .i64 a1,.int .i64 a2,.int .i64 a3,.int .i64 a4,.int .i64 a5,.int .i64 a6]
 rw [World.size_alloc] at hb0;have bz:=hid hg0; have HB0:=hid hb0; clear hg0 hb0;refine (yt (some ⟨w.heap.size+1,0,none⟩) 7 7 s 1099511627776 _ HLEN.out (λ_=>⟨_,0,rfl,λj hj=>?_⟩) (by omega)).mono ?_
 · rw [Nat.zero_add,HB0.out.cell];exact ag9.out j hj
 rintro e w1 ⟨rfl,rfl⟩
 cases hall:qL s 1099511627776 with
 | false =>
   have bD:=hid (show eB s=none by simp [eB,FW,hall]);clear hall;go_wp2;go_ret2;exact ⟨bW bz.out S,.inr ⟨by first | exact bD.out | (rw [HS.out]; exact bD.out),rfl,bz.out⟩⟩
 | true =>
   have ui:=hid (show eB s=some (frame (aX s)) by simp [eB,FW,hall]);have Io:=hid (λj hj=>FL hall j (by rw [HLEN.out]; exact hj):∀ j,j < 7->0<=s.getD j 0/\s.getD j 0<=1099511627776);clear hall;have hfz:=ym 256;have OI:=hid hfz; clear hfz;generalize hzz:Array.replicate 256 (Value.int .u8 0)=zs at *;clear hzz;have hst:=xY bz.out 140 256 zs OI.out;simp only [World.size_alloc] at hst;obtain ⟨hg1,hc1,hb1⟩:=hst
   have az:=hid hg1; have l9:=hid hc1; have HB1:=hid hb1; have yH:=hid ((HB0.out.alloc (.cells zs 140)).alloc (.cells #[.slice (some ⟨w.heap.size+1+1,0,none⟩) 256 256] 153));clear hg1 hc1 hb1;go_wp2_with fail;refine (Fv _ _ 0 256 _ _ _ [80,83,85,80] _ l9.out HB1.out (by decide) rfl rfl (by omega) (by rw [aT _ _ (by simp)]; omega) (by rw [aT _ _ (by simp)]; omega)).mono ?_;rintro e w2 ⟨rfl,hlf,hc2,hb2⟩
   rw [show lay (fill [] 256) 0 [80,83,85,80]=fill [80,83,85,80] 256 from gz [] [80,83,85,80] 256] at hb2;have vP:=hlf.blk yH.out (by omega) (by omega);have hx0:=vP.cell 0; have hx1:=vP.cell 1; have hx2:=vP.cell 2; have hx3:=vP.cell 3; have hx4:=vP.cell 4; have hx5:=vP.cell 5; have hx6:=vP.cell 6;simp only [akb,aka,akc] at hx0 hx1 hx2 hx3 hx4 hx5 hx6
   have HG2:=hid (hlf.new az.out (by omega) (by omega)); have mo:=hid hc2; have HB2:=hid hb2;clear hlf hc2 hb2 vP;clear az l9 HB1 yH bz HB0;go_wp2_with fail
   go_loopw [10,36] (λ_ i wr=>∃ j:Nat,j<=7/\i=.int .i64 j/\w.grownBy wr none/\ny wr (w.heap.size+1+1+1) (w.heap.size+1+1) (4+8 * j) (252 - 8 * j) /\
    af wr (w.heap.size+1+1) 140 (au (fill (qb s j) 256)).toArray) (λ_ i _=>7 - (intOf i).toNat)
   case atStart =>
    refine ⟨0,by omega,rfl,HG2.out,mo.out,?_⟩;exact HB2.out
   case round =>
    obtain ⟨j,hj,rfl,hg,hc,hb⟩:=hrel;have HG:=hid hg; have HC:=hid hc; have fD:=hid hb;clear hg hc hb;have hpl:=Rb s j HLEN.out hj
    by_cases hlt:j < 7
    · obtain ⟨hx0,hx1⟩:=Io.out j hlt;have Nk:=gz (qb s j) (be 8 (s.getD j 0).toNat) 256;rw [hpl,<-OY s j HLEN.out hlt] at Nk;have hfl:=aT (qb s j) 256 (by omega);have Ia:=hid Nk; have ku:=hid hfl; clear Nk hpl hfl;have hix:=Vj a0 a1 a2 a3 a4 a5 a6 j hlt wr;rw [HS.out] at hix;generalize s.getD j 0=x at *;obtain ⟨m,rfl⟩:=Int.eq_ofNat_of_zero_le hx0;rw [Int.toNat_natCast] at Ia;go_wp2_with fail;refine (iV _ _ (4+8 * j) (252 - 8 * j) 8 m _ _ _ HC.out fD.out (by decide) (by omega) (by rw [ku.out]; omega) (by rw [ku.out]; omega) (by omega)).mono ?_
      rintro e w3 ⟨rfl,hlf,hc3,hb3⟩;rw [Ia.out] at hb3;have aZ:=hid (hlf.new HG.out (by omega) (by omega)); have pQ:=hid hc3; have HB3:=hid hb3;clear hlf hc3 hb3 hix;go_wp2_with fail
      go_roundw
      case rel =>
       refine ⟨j+1,by omega,by go_num,aZ.out,?_,HB3.out⟩;have h:=pQ.out
       rwa [show 4+8 * j+8=4+8 * (j+1) from by omega,show 252 - 8 * j - 8=252 - 8 * (j+1) from by omega] at h
      case measure=>simp [intOf]; omega
    · obtain rfl:j=7:=by omega
      have hbk:=fD.out;rw [Rc s HLEN.out] at hbk;have vC:=hid hbk;obtain ⟨sb,hasks,hleft⟩:=HT.out.asks HG.out (w.heap.size+1+1);have HAS:=hid hasks; have sM:=hid hleft;have hblt:=HT.out.lt;clear hbk hasks hleft hpl;go_wp2_with fail;refine (zT b (w.heap.size+1+1) sb (aX s) _ HAS.out vC.out (by rw [mr s HLEN.out]; omega) (xW s) (by omega)).mono ?_;rintro e w3 ⟨rfl,hlf,hr3,hb3⟩;have aZ:=hid (sM.out _ hlf (by omega)); have HR3:=hid hr3; have HB3:=hid hb3
      clear hlf hr3 hb3;go_wp2;go_ret2;refine ⟨aZ.out,.inl ⟨_,w.heap.size+1+1,by first | exact ui.out | (rw [HS.out]; exact ui.out),?_,by omega,HB3.out,jY _ (xW s),HR3.out⟩⟩;rw [cz _ (by rw [mr s HLEN.out]; omega)]
      rfl
end Go.Proofs.YtinajlbijgedbaaGreat.Codec
namespace Go.Proofs.YtinajlbijgedbaaGreat.Sup
open Lib (hid)
open Go.RowKit CrcMath CodecMath Mem Crc Codec
theorem Qk (a0 a1 a2 a3 a4 a5 a6:Int) (w:World) :
 Calls Tryz.prog 89 #[.agg #[.int .i64 a0,.int .i64 a1,.int .i64 a2,.int .i64 a3,.int .i64 a4,.int .i64 a5,.int .i64 a6]] w λe w'=>e=.returned (.bool (eX [a0,a1,a2,a3,a4,a5,a6]))/\w.grownBy w' none:=by
 have bz:=hid (aj9 w (.cells #[.int .i64 a0,.int .i64 a1,.int .i64 a2,.int .i64 a3,.int .i64 a4,.int .i64 a5,.int .i64 a6] 49) none);go_enter Tryz.func89,Tryz.ntmps89;go_wp2_with fail;generalize hs:[a0,a1,a2,a3,a4,a5,a6]=s;have hlen:s.length=7:=by subst hs; rfl
 have HLEN:=hid hlen; have HS:=hid hs; clear hlen hs
 go_loopw [4,20] (λ_ i wr=>∃ j:Nat,j<=7/\i=.int .i64 j/\wr=w.alloc (.cells #[.int .i64 a0,.int .i64 a1,.int .i64 a2,.int .i64 a3,.int .i64 a4,.int .i64 a5,.int .i64 a6] 49)/\∀ q,q < j->dA (s.getD q 0) 1099511627776=true) (λ_ i _=>7 - (intOf i).toNat)
 case atStart=>exact ⟨0,by omega,rfl,rfl,λq hq=>by omega⟩
 case round =>
  obtain ⟨j,hj,rfl,rfl,hall⟩:=hrel;have Jj:=hid hall; clear hall
  by_cases hlt:j < 7
  · have hix:=Vj a0 a1 a2 a3 a4 a5 a6 j hlt (w.alloc (.cells #[.int .i64 a0,.int .i64 a1,.int .i64 a2,.int .i64 a3,.int .i64 a4,.int .i64 a5,.int .i64 a6] 49));rw [HS.out] at hix;have HX:=hid (show s.getD j 0=s.getD j 0 from rfl);generalize hx:s.getD j 0=x at hix;have HX:=hid hx; clear hx
    by_cases h0:x < 0
    · have bD:=hid (FY s j (by rw [HLEN.out]; exact hlt) (by rw [HX.out]; exact Qq (by omega)));go_wp2;go_ret;exact ⟨by rw [HS.out,bD.out]; first | done | rfl,bz.out⟩
    · by_cases h1:1099511627776 < x
      · have bD:=hid (FY s j (by rw [HLEN.out]; exact hlt) (by rw [HX.out]; exact Qq (by omega)));go_wp2;go_ret;exact ⟨by rw [HS.out,bD.out]; first | done | rfl,bz.out⟩
      · have pM:=hid (show dA (s.getD j 0) 1099511627776=true from by rw [HX.out]; exact uN (by omega));go_wp2
        go_roundw
        case rel =>
         refine ⟨j+1,by omega,by go_num,by first | exact trivial | rfl,λq hq=>?_⟩;rcases Nat.lt_or_ge q j with h | h
         · exact Jj.out q h
         · obtain rfl:q=j:=by omega
           exact pM.out
        case measure=>simp [intOf]; omega
  · obtain rfl:j=7:=by omega
    have HY:=hid (DT s 7 HLEN.out Jj.out);go_wp2;go_ret;exact ⟨by rw [HS.out,HY.out]; first | done | rfl,bz.out⟩
theorem Xt (a0 a1 a2 a3 a4 a5 a6 n:Int) (w:World) (hok:eX [a0,a1,a2,a3,a4,a5,a6]=true) :
 Calls Tryz.prog 90 #[.agg #[.int .i64 a0,.int .i64 a1,.int .i64 a2,.int .i64 a3,.int .i64 a4,.int .i64 a5,.int .i64 a6],.int .i64 n] w λe w'=>e=.returned (.bool (jg [a0,a1,a2,a3,a4,a5,a6] n))/\w.grownBy w' none:=by
 have bz:=hid (aj9 w (.cells #[.int .i64 a0,.int .i64 a1,.int .i64 a2,.int .i64 a3,.int .i64 a4,.int .i64 a5,.int .i64 a6] 49) none);have b2:0<=a2/\a2<=1099511627776:=aV hok 2 (by simp);have b3:0<=a3/\a3<=1099511627776:=aV hok 3 (by simp);have b4:0<=a4/\a4<=1099511627776:=aV hok 4 (by simp);clear hok;have hw1:IntKind.i64.wrap (2+a2)=2+a2:=IntWalk.i64_in _ (by omega);have hw2:IntKind.i64.wrap (a3+a4)=a3+a4:=IntWalk.i64_in _ (by omega)
 have hr:jg [a0,a1,a2,a3,a4,a5,a6] n=(decide (16<=a2) && (decide (a2<=1024) && (decide (2+a2<=a3) && (decide (64<=a4) && (decide (a3+a4<=n) && decide (a5 < a4)))))):=rfl;generalize jg [a0,a1,a2,a3,a4,a5,a6] n=r at *;clear b2 b3 b4
 by_cases h1:16<=a2
 · by_cases h2:a2<=1024
   · by_cases h3:2+a2<=a3
     · by_cases h4:64<=a4
       · by_cases h5:a3+a4<=n
         · have HR:=hid (show r=decide (a5 < a4) by simp [hr,h1,h2,h3,h4,h5]); clear hr;go_enter Tryz.func90,Tryz.ntmps90;go_wp2;go_ret;exact ⟨by rw [HR.out]; first | done | rfl,bz.out⟩
         · have HR:=hid (show r=false by simp [hr,h5]); clear hr;go_enter Tryz.func90,Tryz.ntmps90;go_wp2;go_ret;exact ⟨by rw [HR.out]; first | done | rfl,bz.out⟩
       · have HR:=hid (show r=false by simp [hr,h4]); clear hr;go_enter Tryz.func90,Tryz.ntmps90;go_wp2;go_ret;exact ⟨by rw [HR.out]; first | done | rfl,bz.out⟩
     · have HR:=hid (show r=false by simp [hr,h3]); clear hr;go_enter Tryz.func90,Tryz.ntmps90;go_wp2;go_ret;exact ⟨by rw [HR.out]; first | done | rfl,bz.out⟩
   · have HR:=hid (show r=false by simp [hr,h2]); clear hr;go_enter Tryz.func90,Tryz.ntmps90;go_wp2;go_ret;exact ⟨by rw [HR.out]; first | done | rfl,bz.out⟩
 · have HR:=hid (show r=false by simp [hr,h1]); clear hr;go_enter Tryz.func90,Tryz.ntmps90;go_wp2;go_ret;exact ⟨by rw [HR.out]; first | done | rfl,bz.out⟩
theorem JM (a0 a1 a2 a3 a4 a5 a6:Int) (w:World) :
 Calls Tryz.prog 132 #[.agg #[.int .i64 a0,.int .i64 a1,.int .i64 a2,.int .i64 a3,.int .i64 a4,.int .i64 a5,.int .i64 a6]] w λe w'=>e=.returned (.int .i64 (a0.tmod 2))/\w.grownBy w' none:=by
 have bz:=hid (aj9 w (.cells #[.int .i64 a0,.int .i64 a1,.int .i64 a2,.int .i64 a3,.int .i64 a4,.int .i64 a5,.int .i64 a6] 49) none);go_enter Tryz.func132,Tryz.ntmps132;go_wp2;go_ret;exact ⟨rfl,bz.out⟩
theorem uW (a0 a1 a2 a3 a4 a5 a6 n:Int) (w:World) :
 Calls Tryz.prog 47 #[.agg #[.int .i64 a0,.int .i64 a1,.int .i64 a2,.int .i64 a3,.int .i64 a4,.int .i64 a5,.int .i64 a6],.int .i64 n] w λe w'=>e=.returned (.int .i64 (dY [a0,a1,a2,a3,a4,a5,a6] n))/\w.grownBy w' none:=by
 have hb:=af.new w 49 #[.int .i64 a0,.int .i64 a1,.int .i64 a2,.int .i64 a3,.int .i64 a4,.int .i64 a5,.int .i64 a6];have bz:=hid (aj9 w (.cells #[.int .i64 a0,.int .i64 a1,.int .i64 a2,.int .i64 a3,.int .i64 a4,.int .i64 a5,.int .i64 a6] 49) none);have HB:=hid hb; clear hb
 cases hok:eX [a0,a1,a2,a3,a4,a5,a6] with
 | false =>
   have HM:=hid (show dY [a0,a1,a2,a3,a4,a5,a6] n=1 by simp [dY,aL,hok]);have aU:=hid hok; clear hok;go_enter Tryz.func47,Tryz.ntmps47;go_wp2_with fail;refine (Qk a0 a1 a2 a3 a4 a5 a6 _).mono ?_;rintro e w1 ⟨rfl,hg1⟩;have az:=hid (bz.out.trans hg1); clear hg1;rw [aU.out];go_wp2;go_ret;exact ⟨by rw [HM.out]; first | done | rfl,az.out⟩
 | true =>
   have bB:=hid (λwx=>Xt a0 a1 a2 a3 a4 a5 a6 n wx hok);have hm:dY [a0,a1,a2,a3,a4,a5,a6] n=if jg [a0,a1,a2,a3,a4,a5,a6] n then 0 else 1:=by simp [dY,aL,hok]
   have aU:=hid hok; have HM:=hid hm; clear hok hm;generalize jg [a0,a1,a2,a3,a4,a5,a6] n=r at *;go_enter Tryz.func47,Tryz.ntmps47;go_wp2_with fail;refine (Qk a0 a1 a2 a3 a4 a5 a6 _).mono ?_;rintro e w1 ⟨rfl,hg1⟩;have az:=hid (bz.out.trans hg1);have hb1:=HB.out.grown hg1 (by simp);have x0:=hb1.cell 0; have x1:=hb1.cell 1; have x2:=hb1.cell 2; have x3:=hb1.cell 3; have x4:=hb1.cell 4; have x5:=hb1.cell 5; have x6:=hb1.cell 6
   simp only [akb,aka,akc] at x0 x1 x2 x3 x4 x5 x6;clear hg1 hb1;rw [aU.out];go_wp2_with fail;refine (bB.out _).mono ?_;rintro e w2 ⟨rfl,hg2⟩;have HG2:=hid (az.out.trans hg2); clear hg2 x0 x1 x2 x3 x4 x5 x6
   cases r with
   | false =>
     go_wp2;go_ret;exact ⟨by rw [HM.out]; first | done | rfl,HG2.out⟩
   | true =>
     go_wp2;go_ret;exact ⟨by rw [HM.out]; first | done | rfl,HG2.out⟩
end Go.Proofs.YtinajlbijgedbaaGreat.Sup
namespace Go.Proofs.YtinajlbijgedbaaGreat.Codec
open Lib (hid)
open Go.RowKit CrcMath CodecMath Mem Crc
structure Rd (w W:World) (p g U k n:Nat) (t tU:TypeId) (L:List Nat) (cs:Array Value):Prop where
 grown:w.grownBy W none
 cur:ny W p g k n
 arr:af W g t (au L).toArray
 box:af W U tU cs
 hp:w.heap.size<=p
 hg:w.heap.size<=g
 hU:w.heap.size<=U
 pu:p≠U
 gu:g≠U
 pg:p≠g
theorem Rd.step {w W W1:World} {p g U k n k' n':Nat} {t tU:TypeId} {L:List Nat} {cs:Array Value} (h:Rd w W p g U k n t tU L cs) (hr:W.grownBy W1 (some p)) (hc:ny W1 p g k' n') (i:Nat) (v:Value) :
 Rd w (W1.setCell ⟨U,i,none⟩ v) p g U k' n' t tU L (cs.setIfInBounds i v) where
 grown:=bC (aI h.grown hr (λj hj=>by cases hj; exact h.hp)) h.hU v
 cur:=by obtain ⟨k0,hb,hk⟩:=hc; exact ⟨k0,hb.far h.pu v,hk⟩
 arr:=(h.arr.grown hr (by simpa using λe=>h.pg e.symm)).far h.gu v
 box:=(h.box.grown hr (by simpa using λe=>h.pu e.symm)).aC i v
 hp:=h.hp
 hg:=h.hg
 hU:=h.hU
 pu:=h.pu
 gu:=h.gu
 pg:=h.pg
theorem Rd.other {w W W1:World} {p g U k n B:Nat} {t tU tB:TypeId} {L:List Nat} {cs ds:Array Value} (_:Rd w W p g U k n t tU L cs) (hb:af W B tB ds) (hr:W.grownBy W1 (some p)) (h1:B≠p) (h2:B≠U) (i:Nat) (v:Value) :
 af (W1.setCell ⟨U,i,none⟩ v) B tB ds:=(hb.grown hr (by simpa using h1)).far h2 v
theorem Fq {w W:World} {p g k n:Nat} {t tU:TypeId} {L:List Nat} {cs:Array Value} (hg:w.grownBy W none) (hc:ny W p g k n) (hb:af W g t (au L).toArray) (hp:w.heap.size<=p) (hge:w.heap.size<=g) (jG:p≠g) :
 Rd w (W.alloc (.cells cs tU)) p g W.heap.size k n t tU L cs where
 grown:=hg.trans (aj9 W _ none)
 cur:=hc.grown (aj9 _ _ none) (by simp)
 arr:=hb.alloc _
 box:=af.new W tU cs
 hp:=hp
 hg:=hge
 hU:=hg.size
 pu:=by obtain ⟨_,h,_⟩:=hc; have:=h.lt; omega
 gu:=by have:=hb.lt; omega
 pg:=jG
theorem oK.keep {w w1:World} {b:Nat} {S:Option Nat} (h:oK w b S) (hg:w.grownBy w1 none):oK w1 b S:=by
 rcases h with ⟨h,rfl⟩ | ⟨h,rfl⟩
 · exact .inl ⟨h.keep hg (by simp),rfl⟩
 · exact .inr ⟨kZ h hg (by simp),rfl⟩
theorem oK.tab {w:World} {b:Nat} {S:Option Nat} (h:oK w b S):mX w b:=by
 rcases h with ⟨h,_⟩ | ⟨h,_⟩
 · exact .inr h
 · exact h
theorem oK.ne {w:World} {b k:Nat} {S:Option Nat} (h:oK w b S) (hk:w.heap.size<=k):some k≠S:=by
 have hl:=h.lt;rcases h with ⟨_,rfl⟩ | ⟨_,rfl⟩
 · simp
 · intro e; cases e; omega
theorem oK.up {w:World} {b:Nat} {S:Option Nat} (h:oK w b S) {w':World} (hg:w.grownBy w' S):w.grownBy w' (some b):=by
 rcases h with ⟨_,rfl⟩ | ⟨_,rfl⟩
 · exact bW hg _
 · exact hg
def ael (w:World) (b:Nat) (S:Option Nat) (v:Value) (ok:Bool) (e:Ending) (w':World):Prop:=w.grownBy w' S/\mX w' b/\e=.returned (.tuple #[v,.bool ok])/\(Ready w b\/ok=true->Ready w' b)
theorem GN {w w':World} {S:Option Nat} (h:w.grownBy w' S) {b i:Nat} (hp:w.heap.size<=b) (v:Value):w.grownBy (w'.setCell ⟨b,i,none⟩ v) S :=
 aI h (akd (akr w' _) i v) (λj hj=>by cases hj; exact hp)
theorem tH {w:World} {b g i:Nat} (h:mX w b) (hne:b≠g) (v:Value):mX (w.setCell ⟨g,i,none⟩ v) b:=kZ h (akd (akr w _) i v) (by simpa using hne)
theorem Fe {w:World} {b g:Nat} (h:mX w b) {v0 v1 v2 v3 v4 v5 v6:Value} (hne:b < g):mX (((((((w.setCell ⟨g,0,none⟩ v0).setCell ⟨g,1,none⟩ v1).setCell ⟨g,2,none⟩ v2).setCell ⟨g,3,none⟩ v3).setCell ⟨g,4,none⟩ v4).setCell ⟨g,5,none⟩ v5).setCell ⟨g,6,none⟩ v6) b :=
 tH (tH (tH (tH (tH (tH (tH h (by omega) v0) (by omega) v1) (by omega) v2) (by omega) v3) (by omega) v4) (by omega) v5) (by omega) v6
theorem nW {w:World} {b g i:Nat} (h:Ready w b) (hne:b≠g) (v:Value):Ready (w.setCell ⟨g,i,none⟩ v) b:=h.keep (akd (akr w _) i v) (by simpa using hne)
theorem wh {w:World} {b g:Nat} (h:Ready w b) {v0 v1 v2 v3 v4 v5 v6:Value} (hne:b < g):Ready (((((((w.setCell ⟨g,0,none⟩ v0).setCell ⟨g,1,none⟩ v1).setCell ⟨g,2,none⟩ v2).setCell ⟨g,3,none⟩ v3).setCell ⟨g,4,none⟩ v4).setCell ⟨g,5,none⟩ v5).setCell ⟨g,6,none⟩ v6) b :=
 nW (nW (nW (nW (nW (nW (nW h (by omega) v0) (by omega) v1) (by omega) v2) (by omega) v3) (by omega) v4) (by omega) v5) (by omega) v6
theorem AJ (b:Nat) (S:Option Nat) (A:Option Addr) (n c:Nat) (l:List Nat) (w:World) (hR:oK w b S) (hl:Bytes w b A n l) :
 Calls Tryz.prog 134 #[.pointer (some ⟨b,0,none⟩),.slice A n c] w (ael w b S (nG ((dK l).getD qw)) (dK l).isSome):=by
 have hz0:nG qw=.agg #[.int .i64 0,.int .i64 0,.int .i64 0,.int .i64 0,.int .i64 0,.int .i64 0,.int .i64 0]:=rfl;have hlen:=hl.1;have bK:=hid hl.2.1;have jR:=hid (af.new w 49 #[.int .i64 0,.int .i64 0,.int .i64 0,.int .i64 0,.int .i64 0,.int .i64 0,.int .i64 0]);have bz:=hid (aj9 w (.cells #[.int .i64 0,.int .i64 0,.int .i64 0,.int .i64 0,.int .i64 0,.int .i64 0,.int .i64 0] 49) none)
 have HLEN:=hid hlen; have j3:=hid hl; have HL:=hid (bP hl (aj9 w (.cells #[.int .i64 0,.int .i64 0,.int .i64 0,.int .i64 0,.int .i64 0,.int .i64 0,.int .i64 0] 49) none)); have HR:=hid hR; have vC:=hid hR.lt; clear hlen hl hR
 by_cases lC:n=256
 · subst lC;have Kz:=hid (show dK l=if eB (qc l)=some l then some (qc l) else none from rfl);have l7:=hid (show qc l=[wrap64 (num l 4 8),wrap64 (num l 12 8),wrap64 (num l 20 8),wrap64 (num l 28 8),wrap64 (num l 36 8),wrap64 (num l 44 8),wrap64 (num l 52 8)] from rfl);generalize dK l=r at *;clear hz0;go_enter Tryz.func134,Tryz.ntmps134;go_wp2_with fail;refine (tO b b A c l _ HL.out).mono ?_;rintro e w1 ⟨rfl,hg1,hb1⟩
   rw [World.size_alloc] at hb1 ⊢;have Cu:=jR.out.grown hg1 (by simp);have hsz1:=hg1.size;rw [World.size_alloc] at hsz1;have hgw:=bz.out.trans hg1;have hc1:=Dz w1 (w.heap.size+1) 256 0 rfl;have HB1:=hid (hb1.alloc (.cells #[.slice (some ⟨w.heap.size+1,0,none⟩) 256 256] 153)); have l9:=hid hc1;have Wz:=hid (Cu.alloc (.cells #[.slice (some ⟨w.heap.size+1,0,none⟩) 256 256] 153));have az:=hid (hgw.trans (aj9 w1 (.cells #[.slice (some ⟨w.heap.size+1,0,none⟩) 256 256] 153) none))
   have hlt1:=hb1.lt;clear hg1 hb1 Cu hgw hc1;go_wp2_with fail;refine (mq _ _ 0 256 4 _ l9.out (by omega) (by omega)).mono ?_;rintro e w2 ⟨⟨k0,rfl,_⟩,hr,hc2⟩;have hsz2:=hr.size;rw [World.size_alloc] at hsz2;have oM:=hid (Fq (tU:=49) (cs:=#[.int .i64 0,.int .i64 0,.int .i64 0,.int .i64 0,.int .i64 0,.int .i64 0,.int .i64 0]) (aI az.out hr (λj hj=>by cases hj; omega)) hc2 (HB1.out.grown hr (by simp; omega)) (by omega) (by omega) (by omega))
   have xH:=hid ((Wz.out.grown hr (by simp; omega)).alloc (.cells #[.int .i64 0,.int .i64 0,.int .i64 0,.int .i64 0,.int .i64 0,.int .i64 0,.int .i64 0] 49));clear hr hc2;generalize w1.heap.size=p at *;go_wp2_with fail;refine (gN p (w.heap.size+1) 4 252 8 140 l _ oM.out.cur oM.out.arr (by decide) bK.out (by omega) (by rw [HLEN.out]; omega) (by rw [HLEN.out]; omega)).mono ?_;rintro e w3 ⟨rfl,hr,hc⟩
   generalize wrap64 ((num l 4 8:Nat):Int)=a0 at *;have hbx:=oM.out.box.grown hr (by simpa using λe=>oM.out.pu e.symm);have hcl:=hbx.cell 0;have hfr:=hbx.frozen 0;simp only [akb,aka] at hcl;have pG:=hid (show Rd w (w3.setCell ⟨w2.heap.size,0,none⟩ (.int .i64 a0)) p (w.heap.size+1) w2.heap.size 12 244 140 49 l #[.int .i64 a0,.int .i64 0,.int .i64 0,.int .i64 0,.int .i64 0,.int .i64 0,.int .i64 0] from oM.out.step hr hc 0 (.int .i64 a0))
   have mZ:=hid (oM.out.other xH.out hr (by omega) (by omega) 0 (.int .i64 a0));clear hr hc hbx;go_wp2_with fail;clear hcl hfr;refine (gN p (w.heap.size+1) 12 244 8 140 l _ pG.out.cur pG.out.arr (by decide) bK.out (by omega) (by rw [HLEN.out]; omega) (by rw [HLEN.out]; omega)).mono ?_;rintro e w4 ⟨rfl,hr,hc⟩;generalize wrap64 ((num l 12 8:Nat):Int)=a1 at *;have hbx:=pG.out.box.grown hr (by simpa using λe=>pG.out.pu e.symm)
   have hcl:=hbx.cell 1;have hfr:=hbx.frozen 1;simp only [akb,aka,akc] at hcl;have ry:=hid (show Rd w (w4.setCell ⟨w2.heap.size,1,none⟩ (.int .i64 a1)) p (w.heap.size+1) w2.heap.size 20 236 140 49 l #[.int .i64 a0,.int .i64 a1,.int .i64 0,.int .i64 0,.int .i64 0,.int .i64 0,.int .i64 0] from pG.out.step hr hc 1 (.int .i64 a1));have mh:=hid (pG.out.other mZ.out hr (by omega) (by omega) 1 (.int .i64 a1))
   clear hr hc hbx;go_wp2_with fail;clear hcl hfr;refine (gN p (w.heap.size+1) 20 236 8 140 l _ ry.out.cur ry.out.arr (by decide) bK.out (by omega) (by rw [HLEN.out]; omega) (by rw [HLEN.out]; omega)).mono ?_;rintro e w5 ⟨rfl,hr,hc⟩;generalize wrap64 ((num l 20 8:Nat):Int)=a2 at *;have hbx:=ry.out.box.grown hr (by simpa using λe=>ry.out.pu e.symm);have hcl:=hbx.cell 2;have hfr:=hbx.frozen 2;simp only [akb,aka,akc] at hcl
   have uY:=hid (show Rd w (w5.setCell ⟨w2.heap.size,2,none⟩ (.int .i64 a2)) p (w.heap.size+1) w2.heap.size 28 228 140 49 l #[.int .i64 a0,.int .i64 a1,.int .i64 a2,.int .i64 0,.int .i64 0,.int .i64 0,.int .i64 0] from ry.out.step hr hc 2 (.int .i64 a2));have mg:=hid (ry.out.other mh.out hr (by omega) (by omega) 2 (.int .i64 a2));clear hr hc hbx;go_wp2_with fail;clear hcl hfr;refine (gN p (w.heap.size+1) 28 228 8 140 l _ uY.out.cur uY.out.arr (by decide) bK.out (by omega) (by rw [HLEN.out]; omega) (by rw [HLEN.out]; omega)).mono ?_
   rintro e w6 ⟨rfl,hr,hc⟩;generalize wrap64 ((num l 28 8:Nat):Int)=a3 at *;have hbx:=uY.out.box.grown hr (by simpa using λe=>uY.out.pu e.symm);have hcl:=hbx.cell 3;have hfr:=hbx.frozen 3;simp only [akb,aka,akc] at hcl;have oL:=hid (show Rd w (w6.setCell ⟨w2.heap.size,3,none⟩ (.int .i64 a3)) p (w.heap.size+1) w2.heap.size 36 220 140 49 l #[.int .i64 a0,.int .i64 a1,.int .i64 a2,.int .i64 a3,.int .i64 0,.int .i64 0,.int .i64 0] from uY.out.step hr hc 3 (.int .i64 a3))
   have kW:=hid (uY.out.other mg.out hr (by omega) (by omega) 3 (.int .i64 a3));clear hr hc hbx;go_wp2_with fail;clear hcl hfr;refine (gN p (w.heap.size+1) 36 220 8 140 l _ oL.out.cur oL.out.arr (by decide) bK.out (by omega) (by rw [HLEN.out]; omega) (by rw [HLEN.out]; omega)).mono ?_;rintro e w7 ⟨rfl,hr,hc⟩;generalize wrap64 ((num l 36 8:Nat):Int)=a4 at *;have hbx:=oL.out.box.grown hr (by simpa using λe=>oL.out.pu e.symm)
   have hcl:=hbx.cell 4;have hfr:=hbx.frozen 4;simp only [akb,aka,akc] at hcl;have nL:=hid (show Rd w (w7.setCell ⟨w2.heap.size,4,none⟩ (.int .i64 a4)) p (w.heap.size+1) w2.heap.size 44 212 140 49 l #[.int .i64 a0,.int .i64 a1,.int .i64 a2,.int .i64 a3,.int .i64 a4,.int .i64 0,.int .i64 0] from oL.out.step hr hc 4 (.int .i64 a4));have QS:=hid (oL.out.other kW.out hr (by omega) (by omega) 4 (.int .i64 a4))
   clear hr hc hbx;go_wp2_with fail;clear hcl hfr;refine (gN p (w.heap.size+1) 44 212 8 140 l _ nL.out.cur nL.out.arr (by decide) bK.out (by omega) (by rw [HLEN.out]; omega) (by rw [HLEN.out]; omega)).mono ?_;rintro e w8 ⟨rfl,hr,hc⟩;generalize wrap64 ((num l 44 8:Nat):Int)=a5 at *;have hbx:=nL.out.box.grown hr (by simpa using λe=>nL.out.pu e.symm);have hcl:=hbx.cell 5;have hfr:=hbx.frozen 5;simp only [akb,aka,akc] at hcl
   have Ob:=hid (show Rd w (w8.setCell ⟨w2.heap.size,5,none⟩ (.int .i64 a5)) p (w.heap.size+1) w2.heap.size 52 204 140 49 l #[.int .i64 a0,.int .i64 a1,.int .i64 a2,.int .i64 a3,.int .i64 a4,.int .i64 a5,.int .i64 0] from nL.out.step hr hc 5 (.int .i64 a5));have jv:=hid (nL.out.other QS.out hr (by omega) (by omega) 5 (.int .i64 a5));clear hr hc hbx;go_wp2_with fail;clear hcl hfr;refine (gN p (w.heap.size+1) 52 204 8 140 l _ Ob.out.cur Ob.out.arr (by decide) bK.out (by omega) (by rw [HLEN.out]; omega) (by rw [HLEN.out]; omega)).mono ?_
   rintro e w9 ⟨rfl,hr,hc⟩;generalize wrap64 ((num l 52 8:Nat):Int)=a6 at *;have hbx:=Ob.out.box.grown hr (by simpa using λe=>Ob.out.pu e.symm);have hcl:=hbx.cell 6;have hfr:=hbx.frozen 6;simp only [akb,aka,akc] at hcl;have Bg:=hid (show Rd w (w9.setCell ⟨w2.heap.size,6,none⟩ (.int .i64 a6)) p (w.heap.size+1) w2.heap.size 60 196 140 49 l #[.int .i64 a0,.int .i64 a1,.int .i64 a2,.int .i64 a3,.int .i64 a4,.int .i64 a5,.int .i64 a6] from Ob.out.step hr hc 6 (.int .i64 a6))
   have zD:=hid (Ob.out.other jv.out hr (by omega) (by omega) 6 (.int .i64 a6));clear hr hc hbx;have x0:=Bg.out.box.cell 0; have x1:=Bg.out.box.cell 1; have x2:=Bg.out.box.cell 2; have x3:=Bg.out.box.cell 3; have x4:=Bg.out.box.cell 4; have x5:=Bg.out.box.cell 5; have x6:=Bg.out.box.cell 6;simp only [akb,aka,akc] at x0 x1 x2 x3 x4 x5 x6;clear oM pG ry uY oL nL Ob Wz xH mZ mh mg kW QS jv
   go_wp2_with fail;clear hcl hfr;refine (zk b S a0 a1 a2 a3 a4 a5 a6 _ (HR.out.keep Bg.out.grown)).mono ?_;clear x0 x1 x2 x3 x4 x5 x6
   cases hW:eB [a0,a1,a2,a3,a4,a5,a6] with
   | none =>
     rintro e Jm ⟨_,⟨l,g,ho,_⟩ | ⟨_,rfl,hg⟩⟩
     · cases ho
     have gU:=hid (zD.out.grown hg (by simp)); have qO:=hid (Bg.out.grown.trans hg); have HW:=hid hW;have zF:=hid ((HR.out.keep qO.out).tab);clear hg hW;go_wp2_with fail;refine (vJ A none _ 0 c 0 _).mono ?_;rintro e PV ⟨rfl,rfl⟩;have x0:=gU.out.cell 0; have x1:=gU.out.cell 1; have x2:=gU.out.cell 2; have x3:=gU.out.cell 3; have x4:=gU.out.cell 4; have x5:=gU.out.cell 5; have x6:=gU.out.cell 6;have f0:=gU.out.frozen 0; have f1:=gU.out.frozen 1; have f2:=gU.out.frozen 2; have f3:=gU.out.frozen 3; have f4:=gU.out.frozen 4; have f5:=gU.out.frozen 5; have f6:=gU.out.frozen 6
     simp only [akb,aka,akc] at x0 x1 x2 x3 x4 x5 x6;go_wp2_with fail;refine di rfl w.heap.size 49 _ _ rfl (af.kv gU.out) Tryz.underlying49 rfl (by kernel_rfl) rfl ⟨?_,?_,?_,?_⟩
     · refine bW ?_ S
       repeat (refine bC ?_ (akf _) _)
       exact qO.out
     · exact Fe zF.out vC.out
     · rw [Kz.out,l7.out,if_neg (by rw [HW.out]; simp)]
       rfl
     · intro hc;rcases hc with hc | hc
       · exact wh (hc.keep qO.out (by simp)) vC.out
       · rw [Kz.out,l7.out,if_neg (by rw [HW.out]; simp)] at hc
         cases hc
   | some l' =>
     rintro e Jm ⟨hg,⟨l1,g3,ho,rfl,_,hb3,hlt3,hrd⟩ | ⟨ho,_⟩⟩
     case inr=>cases ho
     obtain rfl:l'=l1:=by injection ho
     have zF:=hid (show mX Jm b from .inr hrd); have gW:=hid hrd;have gU:=hid (zD.out.grown hg (HR.out.ne (akf _))); have qO:=hid ((bW Bg.out.grown S).trans hg); have HW:=hid hW; have FQ:=hid (Bg.out.box.grown hg (HR.out.ne Bg.out.hU));have HB3:=hid (rf (b:=Jm.heap.size) hb3 (by have:=hb3.lt; omega) hlt3);have kX:=hid (j3.out.keep (HR.out.up qO.out));clear ho hg hW hb3 hrd;go_wp2_with fail
     refine (vK _ _ A _ _ _ c _ l l' _ kX.out HB3.out).mono ?_;rintro e PV ⟨rfl,rfl⟩;have x0:=gU.out.cell 0; have x1:=gU.out.cell 1; have x2:=gU.out.cell 2; have x3:=gU.out.cell 3; have x4:=gU.out.cell 4; have x5:=gU.out.cell 5; have x6:=gU.out.cell 6;have f0:=gU.out.frozen 0; have f1:=gU.out.frozen 1; have f2:=gU.out.frozen 2; have f3:=gU.out.frozen 3; have f4:=gU.out.frozen 4; have f5:=gU.out.frozen 5; have f6:=gU.out.frozen 6
     simp only [akb,aka,akc] at x0 x1 x2 x3 x4 x5 x6;have y0:=FQ.out.cell 0; have y1:=FQ.out.cell 1; have y2:=FQ.out.cell 2; have y3:=FQ.out.cell 3; have y4:=FQ.out.cell 4; have y5:=FQ.out.cell 5; have y6:=FQ.out.cell 6;simp only [akb,aka,akc] at y0 y1 y2 y3 y4 y5 y6
     cases hd:decide (l=l') with
     | true =>
       have HD:=hid hd; clear hd;go_wp2_with fail;refine di rfl w.heap.size 49 _ _ rfl (af.kv gU.out) Tryz.underlying49 rfl (by kernel_rfl) rfl ⟨?_,?_,?_,?_⟩
       · repeat (refine GN ?_ (akf _) _)
         exact qO.out
       · exact Fe zF.out vC.out
       · have hl:=of_decide_eq_true HD.out;subst hl;rw [Kz.out,l7.out,if_pos HW.out]
         rfl
       · exact λ_=>wh gW.out vC.out
     | false =>
       have HD:=hid hd; clear hd;go_wp2_with fail;refine di rfl w.heap.size 49 _ _ rfl (af.kv gU.out) Tryz.underlying49 rfl (by kernel_rfl) rfl ⟨?_,?_,?_,?_⟩
       · repeat (refine GN ?_ (akf _) _)
         exact qO.out
       · exact Fe zF.out vC.out
       · have hl:=of_decide_eq_false HD.out;rw [Kz.out,l7.out,if_neg (by rw [HW.out]; simpa using λe=>hl e.symm)]
         rfl
       · exact λ_=>wh gW.out vC.out
 · have hno:=DR l (by rw [HLEN.out]; exact lC);have bD:=hid hno; clear hno;generalize dK l=r at *;have hv:nG (r.getD qw)=.agg #[.int .i64 0,.int .i64 0,.int .i64 0,.int .i64 0,.int .i64 0,.int .i64 0,.int .i64 0]:=by rw [bD.out]; exact hz0
   have HV:=hid hv; clear hv hz0;go_enter Tryz.func134,Tryz.ntmps134;go_wp2_with fail;refine (vG b A n c _ lC).mono ?_;rintro e w1 ⟨rfl,rfl⟩;go_wp2_with fail;refine di rfl w.heap.size 49 _ _ rfl (jR.out.alloc _) Tryz.underlying49 rfl (by kernel_rfl) rfl ⟨bW (bz.out.trans (aj9 _ _ none)) S,(HR.out.keep (bz.out.trans (aj9 _ _ none))).tab,?_,?_⟩
   · rw [HV.out,bD.out]
     rfl
   · intro hc;rcases hc with hc | hc
     · exact hc.keep (bz.out.trans (aj9 _ _ none)) (by simp)
     · rw [bD.out] at hc
       cases hc
end Go.Proofs.YtinajlbijgedbaaGreat.Codec
