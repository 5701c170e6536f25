/- Texts of this seat's proofs: Structs, RefSuper, Structs4, SupRefChk. -/
import Derived.Test.YtinajlbijgedbaaGreatQMem
import Derived.Test.YtinajlbijgedbaaGreatQRefBits
import Derived.Test.YtinajlbijgedbaaGreatQCodecSpec
import Derived.Laws.ResultCell
import Derived.WalkKit
import Derived.Lib.SlBytesConst
import Derived.Deep.RegionWith
namespace Go.Proofs.YtinajlbijgedbaaGreat.Mem
open Go.RowKit
section
variable {w:World} {g:Nat} {t:TypeId} {z0 z1 z2 z3 z4 z5 z6 a0 a1 a2 a3 a4 a5 a6:Value}
theorem af.set2 (h:af w g t #[z0,z1]):af ((w.setCell ⟨g,0,none⟩ a0).setCell ⟨g,1,none⟩ a1) g t #[a0,a1]:=(h.aC 0 a0).aC 1 a1
theorem af.zR (h:af w g t #[z0,z1,z2]):af (((w.setCell ⟨g,0,none⟩ a0).setCell ⟨g,1,none⟩ a1).setCell ⟨g,2,none⟩ a2) g t #[a0,a1,a2]:=((h.aC 0 a0).aC 1 a1).aC 2 a2
theorem af.Fh (h:af w g t #[z0,z1,z2,z3]):af ((((w.setCell ⟨g,0,none⟩ a0).setCell ⟨g,1,none⟩ a1).setCell ⟨g,2,none⟩ a2).setCell ⟨g,3,none⟩ a3) g t #[a0,a1,a2,a3]:=(((h.aC 0 a0).aC 1 a1).aC 2 a2).aC 3 a3
theorem af.kv (h:af w g t #[z0,z1,z2,z3,z4,z5,z6]) :
 af (((((((w.setCell ⟨g,0,none⟩ a0).setCell ⟨g,1,none⟩ a1).setCell ⟨g,2,none⟩ a2).setCell ⟨g,3,none⟩ a3).setCell ⟨g,4,none⟩ a4).setCell ⟨g,5,none⟩ a5).setCell ⟨g,6,none⟩ a6) g t #[a0,a1,a2,a3,a4,a5,a6]:=by
 have h0:af (w.setCell ⟨g,0,none⟩ a0) g t #[a0,z1,z2,z3,z4,z5,z6]:=h.aC 0 a0;have h1:af ((w.setCell ⟨g,0,none⟩ a0).setCell ⟨g,1,none⟩ a1) g t #[a0,a1,z2,z3,z4,z5,z6]:=h0.aC 1 a1;have h2:=h1.aC 2 a2;have h2:af _ g t #[a0,a1,a2,z3,z4,z5,z6]:=h2;have h3:af _ g t #[a0,a1,a2,a3,z4,z5,z6]:=h2.aC 3 a3;have h4:af _ g t #[a0,a1,a2,a3,a4,z5,z6]:=h3.aC 4 a4;have h5:af _ g t #[a0,a1,a2,a3,a4,a5,z6]:=h4.aC 5 a5
 exact h5.aC 6 a6
end
theorem di {P:Program} {fn:Func} {R:Ending->World->Prop} {a:Act} {w:World} {p u:Tmp} {ty:TypeId} (h:fn.results=#[.cell p ty,.tmp u])
 (g:Nat) (t:TypeId) (cs:Array Value) (d:TypeDesc) (hp:a.tmps.getD p undef=.pointer (some ⟨g,0,none⟩)) (hg:af w g t cs)
 (hu:P.underlying ty=some d) (hd:(match d with | .struct _ | .array _ _=>true | _=>false)=true) (hi:(P.info? ty).map (·.size)=some cs.size) (hdf:a.defers=[])
 (hR:R (.returned (.tuple #[.agg cs,a.tmps.getD u undef])) w):bodyPost P fn R .ret a w:=by
 refine bodyPost_ret (v:=.tuple #[.agg cs,a.tmps.getD u undef]) ?_ hdf hR;rw [results_cell_tmp h,hp]
 simp [asAddr,run_loadVar_row w g t ty cs (0,0) d hg hu hd hi,Result.andThen]
end Go.Proofs.YtinajlbijgedbaaGreat.Mem
set_option maxRecDepth 100000
set_option maxHeartbeats 16000000
namespace Go.Proofs.YtinajlbijgedbaaGreat.Codec
open Lib (hid)
open Go.RowKit CrcMath CodecMath Mem Crc
theorem GM {w w':World} (h:w.grownBy w' none) (row:Option Nat):w.grownBy w' row:=⟨h.os,h.tape,h.output,h.size,λi hi _=>h.block i hi (by simp)⟩
theorem bS.apart {w w':World} {v v':Value} (h:bS w w' v v') {g:Nat} (hg:g < w.heap.size) (hne:v.ownBlock≠some g):v'.ownBlock≠some g:=by
 intro e;rcases h.2 g e with h1 | h1
 · exact hne h1
 · omega
def Wrote (w:World) (o:Option (List Nat)) (e:Ending) (w':World):Prop :=
 w.grownBy w' none/\((∃ l v',o=some l/\e=.returned (.tuple #[v',.int .i64 0])/\Own w' w.heap.size 5 1 v' l.length (au l)/\∀ x∈l,x < 256)\/(o=none/\e=.returned (.tuple #[.slice none 0 0,.int .i64 1])))
theorem vY (w:World) (o:Obj) (C:Array Value) (n c:Nat) :
 (convert 65 65 (.slice (some ⟨w.heap.size+1,0,none⟩) n c)).run Tryz.prog ((w.alloc o).alloc (.cells C 5))=.ok (.slice (some ⟨w.heap.size+1,0,none⟩) n c) ((w.alloc o).alloc (.cells C 5 (C.size,C.size+1))):=by
 have h:=Lib.run_convert_bytes_const (P:=Tryz.prog) (w.alloc o) 65 5 C n c Tryz.underlying65 Tryz.underlying5
 simpa using h
theorem DY (w:World) (o:Obj) (C:Array Value) (n c:Nat) :
 (convert 65 65 (.slice (some ⟨w.heap.size+1,0,none⟩) n c)).run Tryz.prog ((w.alloc o).alloc (.cells C 5)).drew=.ok (.slice (some ⟨w.heap.size+1,0,none⟩) n c) ((w.alloc o).alloc (.cells C 5 (C.size,C.size+1))).drew :=
 vY w.drew o C n c
theorem Ce (w:World) (base n:Nat) (C:Array Value) (l:List Nat) (hC:C.toList=au l) (hn:l.length=n) (hm:n<=maxLen) (hb:base<=w.heap.size) :
 Own (w.alloc (.cells C 5 (n,n+1))) base 5 1 (.slice (some ⟨w.heap.size,0,none⟩) n n) n (au l) :=
 .inr ⟨w.heap.size,C,_,rfl,hb,heap_alloc_new w _,hm,hC,by rw [aB]; omega⟩
theorem Ps (a0 a1 a2 a3 a4 a5 a6:Int) (w:World) :
 Calls Tryz.prog 113 #[.agg #[.int .i64 a0,.int .i64 a1,.int .i64 a2,.int .i64 a3,.int .i64 a4,.int .i64 a5,.int .i64 a6]] w λe w' =>
  e=.returned (.slice (some ⟨w.heap.size+1,0,none⟩) 7 7)/\w'=(w.alloc (.cells #[.int .i64 a0,.int .i64 a1,.int .i64 a2,.int .i64 a3,.int .i64 a4,.int .i64 a5,.int .i64 a6] 49)).alloc (.cells #[.int .i64 a0,.int .i64 a1,.int .i64 a2,.int .i64 a3,.int .i64 a4,.int .i64 a5,.int .i64 a6] 3):=by
 go_enter Tryz.func113,Tryz.ntmps113;go_wp2;go_ret;exact ⟨rfl,rfl⟩
theorem qx (a0 a1 a2 a3 a4 a5 a6:Int) (w:World) :
 Calls Tryz.prog 68 #[.agg #[.int .i64 a0,.int .i64 a1,.int .i64 a2,.int .i64 a3,.int .i64 a4,.int .i64 a5,.int .i64 a6]] w (Wrote w (eB [a0,a1,a2,a3,a4,a5,a6])):=by
 have kc:=vY;go_enter Tryz.func68,Tryz.ntmps68;go_wp2_with fail;refine (Ps a0 a1 a2 a3 a4 a5 a6 _).mono ?_;rintro e w1 ⟨rfl,rfl⟩;go_wp2_with fail;generalize hs:[a0,a1,a2,a3,a4,a5,a6]=s;have hlen:s.length=7:=by subst hs; rfl
 have HLEN:=hid hlen; clear hlen;have WE:=hid hs; clear hs
 go_loopw [4,6] (λu i wr=>∃ j:Nat,j<=7/\i=.int .i64 j/\Own wr w.heap.size 5 1 u (4+8 * j) (au ([80,83,85,80] ++ (s.take j).flatMap λn=>be 8 n.toNat))/\w.grownBy wr none /\
  (∀ q,q < 7->wr.cell? ⟨w.heap.size+1+1+1,q,none⟩=some (.int .i64 (s.getD q 0)))/\u.ownBlock≠some (w.heap.size+1+1+1)/\(∀ q,q < j->dA (s.getD q 0) 1099511627776=true)) (λ_ i _=>7 - (intOf i).toNat)
 case atStart =>
  refine ⟨0,by omega,rfl,?_,?_,?_,by simp [Value.ownBlock],λq hq=>by omega⟩
  · refine Own.alloc (Own.alloc ?_ _) _;have h:=Ce (w.alloc (.cells #[.int .i64 a0,.int .i64 a1,.int .i64 a2,.int .i64 a3,.int .i64 a4,.int .i64 a5,.int .i64 a6] 49)) w.heap.size 4 #[.int .u8 80,.int .u8 83,.int .u8 85,.int .u8 80] [80,83,85,80] rfl rfl (by simp [maxLen]) (by simp)
    simpa using h
  · exact (((aj9 w _ none).trans (aj9 _ _ none)).trans (aj9 _ _ none)).trans (aj9 _ _ none)
  · intro q hq;have h:=(af.new (((w.alloc (.cells #[.int .i64 a0,.int .i64 a1,.int .i64 a2,.int .i64 a3,.int .i64 a4,.int .i64 a5,.int .i64 a6] 49)).alloc (.cells #[.int .u8 80,.int .u8 83,.int .u8 85,.int .u8 80] 5 (4,5))).alloc (.cells #[.int .i64 a0,.int .i64 a1,.int .i64 a2,.int .i64 a3,.int .i64 a4,.int .i64 a5,.int .i64 a6] 49)) 3 #[.int .i64 a0,.int .i64 a1,.int .i64 a2,.int .i64 a3,.int .i64 a4,.int .i64 a5,.int .i64 a6]).cell q
    simp only [World.size_alloc] at h;rw [h,<-WE.out]
    match q,hq with
    | 0,_ | 1,_ | 2,_ | 3,_ | 4,_ | 5,_ | 6,_=>rfl
 case round =>
  obtain ⟨j,hj,rfl,ho,hg,hc,hne,hin⟩:=hrel;have HO:=hid ho; have HG:=hid hg; have HC:=hid hc; have rF:=hid hne; have pM:=hid hin;clear ho hg hc hne hin
  by_cases hlt:j < 7
  · have hcj:=HC.out j hlt
    cases hib:dA (s.getD j 0) 1099511627776 with
    | false =>
      have hno:=Jp s j (by rw [HLEN.out]; exact hlt) hib;have bD:=hid hno; clear hno;generalize s.getD j 0=x at *;have jI:=hid hib; clear hib;go_wp2_with fail;refine (iK x _ _).mono ?_;rintro e w2 ⟨rfl,rfl⟩;rw [jI.out];go_wp2;go_ret2;exact ⟨HG.out,.inr ⟨by first | exact bD.out | (rw [WE.out]; exact bD.out),rfl⟩⟩
    | true =>
      have GH:=xV s 8 j (by rw [HLEN.out]; exact hlt);have WC:=hid GH; clear GH;have hin':∀ q,q < j+1->dA (s.getD q 0) 1099511627776=true:=by
       intro q hq
       by_cases e:q=j
       · subst e; exact hib
       · exact pM.out q (by omega)
      have OD:=hid hin'; clear hin';generalize s.getD j 0=x at *;have Bb:=gH hib;obtain ⟨hx0,hx1⟩:=Bb;have jI:=hid hib; clear hib;obtain ⟨m,rfl⟩:=Int.eq_ofNat_of_zero_le hx0;rw [Int.toNat_natCast] at WC;go_wp2_with fail;refine (iK (m:Int) _ _).mono ?_;rintro e w2 ⟨rfl,rfl⟩;rw [jI.out];go_wp2_with fail;have hsz:=HG.out.size;refine (kz w.heap.size _ _ _ m 8 _ HO.out hsz (by omega) (by omega)).mono ?_
      rintro e w2 ⟨v',rfl,ho',hg'⟩;have kr:=hid ho'; have iO:=hid hg'; clear ho' hg';have agm:w.heap.size+1+1+1 < wr.heap.size:=by have:=World.block_lt_of_cell? wr _ (HC.out 0 (by omega)); exact this
      go_wp2_with fail
      go_roundw
      case rel =>
       refine ⟨j+1,by omega,by go_num,?_,?_,?_,?_,OD.out⟩
       · rw [WC.out,<-List.append_assoc,show 4+8 * (j+1)=4+8 * j+8 from by omega];exact kr.out
       · exact aI HG.out iO.out.1 (λi hi=>(HO.out.bH i hi).1)
       · exact λq hq=>iO.out.1.cell (HC.out q hq) (λe=>rF.out e.symm)
       · exact bS.apart iO.out agm rF.out
      case measure=>simp [intOf]; omega
  · obtain rfl:j=7:=by omega
    have oz:=FV s 7 HLEN.out pM.out;have HY:=hid oz; clear oz;have ho:=HO.out;rw [akk (by rw [HLEN.out]; omega)] at ho;have Q0:=hid ho; clear ho;have hsz:=HG.out.size;go_wp2_with fail;refine (wF w.heap.size _ _ (aX s) _ Q0.out hsz (by omega) (xW s)).mono ?_;rintro e w2 ⟨v',rfl,ho',hg'⟩;have kr:=hid ho'; have iO:=hid hg'; clear ho' hg';go_wp2;go_ret2;refine ⟨aI HG.out iO.out.1 (λi hi=>(HO.out.bH i hi).1),.inl ⟨_,v',by first | exact HY.out | (rw [WE.out]; exact HY.out),rfl,?_,jY _ (xW s)⟩⟩
    rw [cz _ (by rw [mr s HLEN.out]; omega)];exact kr.out
def qw:List Int:=[0,0,0,0,0,0,0]
def nG (s:List Int):Value:=.agg (s.map λn=>Value.int .i64 n).toArray
def Told (w:World) (v:Value) (ok:Bool) (e:Ending) (w':World):Prop:=w.grownBy w' none/\e=.returned (.tuple #[v,.bool ok])
theorem Zu {W w1:World} (h:W.grownBy w1 none):(∀ b o,b < W.heap.size->w1.cell? ⟨b,o,none⟩=W.cell? ⟨b,o,none⟩)/\(∀ b o,b < W.heap.size->w1.frozen? ⟨b,o,none⟩=W.frozen? ⟨b,o,none⟩) :=
 ⟨λb o hb=>aki (h.block b hb (by simp)),λb o hb=>World.frozen?_of_block (h.block b hb (by simp))⟩
theorem bC {w w':World} (h:w.grownBy w' none) {b i:Nat} (hp:w.heap.size<=b) (v:Value):w.grownBy (w'.setCell ⟨b,i,none⟩ v) none :=
 Cw (row:=some b) (akd (GM h _) i v) (λj hj=>by cases hj; exact hp)
theorem dB {w w':World} (h:w.grownBy w' none) (q:Nat):w.grownBy (w'.drewN q) none:=h.trans (lF ⟨q,rfl⟩ none)
theorem bP {w w':World} {b n:Nat} {A:Option Addr} {l:List Nat} (h:Bytes w b A n l) (hg:w.grownBy w' none):Bytes w' b A n l:=h.keep (GM hg _)
theorem KX (b:Nat) (A:Option Addr) (n c:Nat) (l:List Nat) (w:World) (hl:Bytes w b A n l) (hn:n<=9223372036854775807) :
 Calls Tryz.prog 74 #[.slice A n c] w (Told w (nG ((dK l).getD qw)) (dK l).isSome):=by
 have xx:dK l=if eB (qc l)=some l then some (qc l) else none:=rfl;have hsn:qc l=[wrap64 (num l 4 8),wrap64 (num l 12 8),wrap64 (num l 20 8),wrap64 (num l 28 8),wrap64 (num l 36 8),wrap64 (num l 44 8),wrap64 (num l 52 8)]:=rfl;have Kz:=hid xx; have l7:=hid hsn; clear xx hsn;generalize dK l=r at *;have j3:=hid (bP hl (aj9 w (.cells #[.int .i64 0,.int .i64 0,.int .i64 0,.int .i64 0,.int .i64 0,.int .i64 0,.int .i64 0] 49) none))
 clear hl;go_enter Tryz.func74,Tryz.ntmps74;go_wp2_with fail;refine (eQ b A n c l 4 8 _ j3.out (by omega)).mono ?_;rintro e w1 ⟨rfl,rfl⟩;generalize wrap64 ((num l 4 8:Nat):Int)=a0 at *;go_wp2_with fail;refine (eQ b A n c l 12 8 _ j3.out (by omega)).mono ?_;rintro e w1 ⟨rfl,rfl⟩;generalize wrap64 ((num l 12 8:Nat):Int)=a1 at *;go_wp2_with fail;refine (eQ b A n c l 20 8 _ j3.out (by omega)).mono ?_;rintro e w1 ⟨rfl,rfl⟩
 generalize wrap64 ((num l 20 8:Nat):Int)=a2 at *;go_wp2_with fail;refine (eQ b A n c l 28 8 _ j3.out (by omega)).mono ?_;rintro e w1 ⟨rfl,rfl⟩;generalize wrap64 ((num l 28 8:Nat):Int)=a3 at *;go_wp2_with fail;refine (eQ b A n c l 36 8 _ j3.out (by omega)).mono ?_;rintro e w1 ⟨rfl,rfl⟩;generalize wrap64 ((num l 36 8:Nat):Int)=a4 at *;go_wp2_with fail;refine (eQ b A n c l 44 8 _ j3.out (by omega)).mono ?_
 rintro e w1 ⟨rfl,rfl⟩;generalize wrap64 ((num l 44 8:Nat):Int)=a5 at *;go_wp2_with fail;refine (eQ b A n c l 52 8 _ j3.out (by omega)).mono ?_;rintro e w1 ⟨rfl,rfl⟩;generalize wrap64 ((num l 52 8:Nat):Int)=a6 at *;go_wp2_with fail;refine (qx a0 a1 a2 a3 a4 a5 a6 _).mono ?_;rintro e w1 ⟨hg,⟨l',v',ho,rfl,hown,hlt⟩ | ⟨ho,rfl⟩⟩
 · have hg0:=((aj9 w (.cells #[.int .i64 0,.int .i64 0,.int .i64 0,.int .i64 0,.int .i64 0,.int .i64 0,.int .i64 0] 49) none).trans (aj9 _ _ none)).trans hg;have HG:=hid hg0;have hbk:=((af.new w 49 #[.int .i64 0,.int .i64 0,.int .i64 0,.int .i64 0,.int .i64 0,.int .i64 0,.int .i64 0]).alloc (.cells #[.int .i64 a0,.int .i64 a1,.int .i64 a2,.int .i64 a3,.int .i64 a4,.int .i64 a5,.int .i64 a6] 49)).grown hg (by simp)
   have fD:=hid hbk; clear hbk;have Ie:=hid (bP (bP j3.out (aj9 _ _ none)) hg);have HO:=hid ho;obtain ⟨hc,hf⟩:=Zu hg;clear ho hg hg0;obtain ⟨A',cap',rfl,hb',_,hcm⟩:=nZ hown hlt;have HB:=hid hb'; clear hb' hown hlt
   cases hd:decide (l'=l) with
   | true =>
     have HD:=hid hd; clear hd;go_wp2_with fail;refine (tJ w1.heap.size b A' A l'.length n cap' c l' l _ HB.out Ie.out (by simp only [maxLen] at hcm; omega) hn).mono ?_;rintro e w2 ⟨rfl,hdr⟩;obtain ⟨q,rfl⟩:=hdr;rw [HD.out];go_wp2_with fail;refine di rfl w.heap.size 49 _ _ rfl (af.kv (fD.out.drewN q)) Tryz.underlying49 rfl (by kernel_rfl) rfl ⟨?_,?_⟩
     · repeat (refine bC ?_ (akf _) _)
       exact dB HG.out q
     · have hl:=of_decide_eq_true HD.out;subst hl;rw [Kz.out,l7.out,if_pos HO.out]
       rfl
   | false =>
     have HD:=hid hd; clear hd;go_wp2_with fail;refine (tJ w1.heap.size b A' A l'.length n cap' c l' l _ HB.out Ie.out (by simp only [maxLen] at hcm; omega) hn).mono ?_;rintro e w2 ⟨rfl,hdr⟩;obtain ⟨q,rfl⟩:=hdr;rw [HD.out];go_wp2_with fail;refine di rfl w.heap.size 49 _ _ rfl (af.kv (fD.out.drewN q)) Tryz.underlying49 rfl (by kernel_rfl) rfl ⟨?_,?_⟩
     · repeat (refine bC ?_ (akf _) _)
       exact dB HG.out q
     · have hl:=of_decide_eq_false HD.out;rw [Kz.out,l7.out,if_neg (by rw [HO.out]; simpa using hl)]
       rfl
 · have hg0:=((aj9 w (.cells #[.int .i64 0,.int .i64 0,.int .i64 0,.int .i64 0,.int .i64 0,.int .i64 0,.int .i64 0] 49) none).trans (aj9 _ _ none)).trans hg;have HG:=hid hg0;have hbk:=((af.new w 49 #[.int .i64 0,.int .i64 0,.int .i64 0,.int .i64 0,.int .i64 0,.int .i64 0,.int .i64 0]).alloc (.cells #[.int .i64 a0,.int .i64 a1,.int .i64 a2,.int .i64 a3,.int .i64 a4,.int .i64 a5,.int .i64 a6] 49)).grown hg (by simp)
   have fD:=hid hbk; clear hbk;have HO:=hid ho;obtain ⟨hc,hf⟩:=Zu hg;clear ho hg hg0;go_wp2_with fail;refine di rfl w.heap.size 49 _ _ rfl (af.kv fD.out) Tryz.underlying49 rfl (by kernel_rfl) rfl ⟨?_,?_⟩
   · repeat (refine bC ?_ (akf _) _)
     exact HG.out
   · rw [Kz.out,l7.out,if_neg (by rw [HO.out]; simp)]
     rfl
end Go.Proofs.YtinajlbijgedbaaGreat.Codec
namespace Go.Proofs.YtinajlbijgedbaaGreat.Mem
open Go.RowKit
theorem mF {P:Program} {fn:Func} {R:Ending->World->Prop} {a:Act} {w:World} {p q s u:Tmp} {ty:TypeId} (h:fn.results=#[.tmp p,.tmp q,.cell s ty,.tmp u])
 (g:Nat) (t:TypeId) (cs:Array Value) (d:TypeDesc) (hp:a.tmps.getD s undef=.pointer (some ⟨g,0,none⟩)) (hg:af w g t cs)
 (hu:P.underlying ty=some d) (hd:(match d with | .struct _ | .array _ _=>true | _=>false)=true) (hi:(P.info? ty).map (·.size)=some cs.size) (hdf:a.defers=[])
 (hR:R (.returned (.tuple #[a.tmps.getD p undef,a.tmps.getD q undef,.agg cs,a.tmps.getD u undef])) w):bodyPost P fn R .ret a w:=by
 have hp':a.tmps[s]?.getD undef=.pointer (some ⟨g,0,none⟩):=by simpa using hp
 refine bodyPost_ret (v:=.tuple #[a.tmps.getD p undef,a.tmps.getD q undef,.agg cs,a.tmps.getD u undef]) ?_ hdf hR
 simp [results,h,hp',asAddr,run_loadVar_row w g t ty cs (0,0) d hg hu hd hi,Result.andThen]
end Go.Proofs.YtinajlbijgedbaaGreat.Mem
namespace Go.Proofs.YtinajlbijgedbaaGreat.Sup
open Lib (hid)
open Go.RowKit CrcMath CodecMath Mem Crc Codec
theorem lT (a0 a1 a2 a3 a4 a5 a6 n:Int) (w:World) :
 Calls Tryz.prog 22 #[.agg #[.int .i64 a0,.int .i64 a1,.int .i64 a2,.int .i64 a3,.int .i64 a4,.int .i64 a5,.int .i64 a6],.int .i64 n] w λe w'=>e=.returned (.int .i64 (dY [a0,a1,a2,a3,a4,a5,a6] n))/\w.grownBy w' none:=by
 have hb:=af.new w 49 #[.int .i64 a0,.int .i64 a1,.int .i64 a2,.int .i64 a3,.int .i64 a4,.int .i64 a5,.int .i64 a6];have bz:=hid (aj9 w (.cells #[.int .i64 a0,.int .i64 a1,.int .i64 a2,.int .i64 a3,.int .i64 a4,.int .i64 a5,.int .i64 a6] 49) none);have HB:=hid hb;have x0:=hb.cell 0; have x1:=hb.cell 1; have x2:=hb.cell 2; have x3:=hb.cell 3; have x4:=hb.cell 4; have x5:=hb.cell 5; have x6:=hb.cell 6
 simp only [akb,aka,akc] at x0 x1 x2 x3 x4 x5 x6
 cases hok:eB [a0,a1,a2,a3,a4,a5,a6] with
 | none =>
   have HM:=hid (show dY [a0,a1,a2,a3,a4,a5,a6] n=1 by simp [dY,aL,BD hok]);have aU:=hid hok; clear hok hb;go_enter Tryz.func22,Tryz.ntmps22;go_wp2_with fail;refine (qx a0 a1 a2 a3 a4 a5 a6 _).mono ?_;rintro e w1 ⟨hg1,hW⟩;rw [aU.out] at hW;rcases hW with ⟨l,v,ho,_⟩ | ⟨_,rfl⟩
   · cases ho
   have az:=hid (bz.out.trans hg1); clear hg1 x0 x1 x2 x3 x4 x5 x6;go_wp2;go_ret;exact ⟨by rw [HM.out]; first | done | rfl,az.out⟩
 | some L =>
   have oz:eX [a0,a1,a2,a3,a4,a5,a6]=true:=by
    cases hh:eX [a0,a1,a2,a3,a4,a5,a6] with
    | true=>rfl
    | false=>simp [eB,hh] at hok
   have b2:0<=a2/\a2<=1099511627776:=aV oz 2 (by simp);have b3:0<=a3/\a3<=1099511627776:=aV oz 3 (by simp);have b4:0<=a4/\a4<=1099511627776:=aV oz 4 (by simp);have hw1:IntKind.i64.wrap (2+a2)=2+a2:=IntWalk.i64_in _ (by omega);have hw2:IntKind.i64.wrap (a3+a4)=a3+a4:=IntWalk.i64_in _ (by omega);have hr:dY [a0,a1,a2,a3,a4,a5,a6] n=if (decide (16<=a2) && (decide (a2<=1024) && (decide (2+a2<=a3) && (decide (64<=a4) && (decide (a3+a4<=n) && decide (a5 < a4))))))=true then 0 else 1:=by
    show (if (eX [a0,a1,a2,a3,a4,a5,a6] && jg [a0,a1,a2,a3,a4,a5,a6] n)=true then 0 else 1)=_;rw [oz]
    rfl
   have aU:=hid hok;have fK:=hid (λwx=>qx a0 a1 a2 a3 a4 a5 a6 wx);clear hok oz b2 b3 b4 hb;generalize dY [a0,a1,a2,a3,a4,a5,a6] n=r at *;clear x0 x1 x2 x3 x4 x5 x6
   by_cases h1:16<=a2
   · by_cases h2:a2<=1024
     · by_cases h3:2+a2<=a3
       · by_cases h4:64<=a4
         · by_cases h5:a3+a4<=n
           · by_cases h6:a5 < a4
             · have HR:=hid (show r=0 by rw [hr]; simp [h1,h2,h3,h4,h5,h6]); clear hr;go_enter Tryz.func22,Tryz.ntmps22;go_wp2_with fail;refine (fK.out _).mono ?_;rintro e w1 ⟨hg1,hW⟩;rw [aU.out] at hW;rcases hW with ⟨l,v,ho,rfl,_⟩ | ⟨ho,_⟩
               case inr=>cases ho
               have az:=hid (bz.out.trans hg1);have hb1:=HB.out.grown hg1 (by simp);have y0:=hb1.cell 0; have y1:=hb1.cell 1; have y2:=hb1.cell 2; have y3:=hb1.cell 3; have y4:=hb1.cell 4; have y5:=hb1.cell 5; have y6:=hb1.cell 6;simp only [akb,aka,akc] at y0 y1 y2 y3 y4 y5 y6;clear hg1 hb1 ho;go_wp2;go_ret;exact ⟨by rw [HR.out]; first | done | rfl,az.out⟩
             · have HR:=hid (show r=1 by rw [hr]; simp [h6]); clear hr;go_enter Tryz.func22,Tryz.ntmps22;go_wp2_with fail;refine (fK.out _).mono ?_;rintro e w1 ⟨hg1,hW⟩;rw [aU.out] at hW;rcases hW with ⟨l,v,ho,rfl,_⟩ | ⟨ho,_⟩
               case inr=>cases ho
               have az:=hid (bz.out.trans hg1);have hb1:=HB.out.grown hg1 (by simp);have y0:=hb1.cell 0; have y1:=hb1.cell 1; have y2:=hb1.cell 2; have y3:=hb1.cell 3; have y4:=hb1.cell 4; have y5:=hb1.cell 5; have y6:=hb1.cell 6;simp only [akb,aka,akc] at y0 y1 y2 y3 y4 y5 y6;clear hg1 hb1 ho;go_wp2;go_ret;exact ⟨by rw [HR.out]; first | done | rfl,az.out⟩
           · have HR:=hid (show r=1 by rw [hr]; simp [h5]); clear hr;go_enter Tryz.func22,Tryz.ntmps22;go_wp2_with fail;refine (fK.out _).mono ?_;rintro e w1 ⟨hg1,hW⟩;rw [aU.out] at hW;rcases hW with ⟨l,v,ho,rfl,_⟩ | ⟨ho,_⟩
             case inr=>cases ho
             have az:=hid (bz.out.trans hg1);have hb1:=HB.out.grown hg1 (by simp);have y0:=hb1.cell 0; have y1:=hb1.cell 1; have y2:=hb1.cell 2; have y3:=hb1.cell 3; have y4:=hb1.cell 4; have y5:=hb1.cell 5; have y6:=hb1.cell 6;simp only [akb,aka,akc] at y0 y1 y2 y3 y4 y5 y6;clear hg1 hb1 ho;go_wp2;go_ret;exact ⟨by rw [HR.out]; first | done | rfl,az.out⟩
         · have HR:=hid (show r=1 by rw [hr]; simp [h4]); clear hr;go_enter Tryz.func22,Tryz.ntmps22;go_wp2_with fail;refine (fK.out _).mono ?_;rintro e w1 ⟨hg1,hW⟩;rw [aU.out] at hW;rcases hW with ⟨l,v,ho,rfl,_⟩ | ⟨ho,_⟩
           case inr=>cases ho
           have az:=hid (bz.out.trans hg1);have hb1:=HB.out.grown hg1 (by simp);have y0:=hb1.cell 0; have y1:=hb1.cell 1; have y2:=hb1.cell 2; have y3:=hb1.cell 3; have y4:=hb1.cell 4; have y5:=hb1.cell 5; have y6:=hb1.cell 6;simp only [akb,aka,akc] at y0 y1 y2 y3 y4 y5 y6;clear hg1 hb1 ho;go_wp2;go_ret;exact ⟨by rw [HR.out]; first | done | rfl,az.out⟩
       · have HR:=hid (show r=1 by rw [hr]; simp [h3]); clear hr;go_enter Tryz.func22,Tryz.ntmps22;go_wp2_with fail;refine (fK.out _).mono ?_;rintro e w1 ⟨hg1,hW⟩;rw [aU.out] at hW;rcases hW with ⟨l,v,ho,rfl,_⟩ | ⟨ho,_⟩
         case inr=>cases ho
         have az:=hid (bz.out.trans hg1);have hb1:=HB.out.grown hg1 (by simp);have y0:=hb1.cell 0; have y1:=hb1.cell 1; have y2:=hb1.cell 2; have y3:=hb1.cell 3; have y4:=hb1.cell 4; have y5:=hb1.cell 5; have y6:=hb1.cell 6;simp only [akb,aka,akc] at y0 y1 y2 y3 y4 y5 y6;clear hg1 hb1 ho;go_wp2;go_ret;exact ⟨by rw [HR.out]; first | done | rfl,az.out⟩
     · have HR:=hid (show r=1 by rw [hr]; simp [h2]); clear hr;go_enter Tryz.func22,Tryz.ntmps22;go_wp2_with fail;refine (fK.out _).mono ?_;rintro e w1 ⟨hg1,hW⟩;rw [aU.out] at hW;rcases hW with ⟨l,v,ho,rfl,_⟩ | ⟨ho,_⟩
       case inr=>cases ho
       have az:=hid (bz.out.trans hg1);have hb1:=HB.out.grown hg1 (by simp);have y0:=hb1.cell 0; have y1:=hb1.cell 1; have y2:=hb1.cell 2; have y3:=hb1.cell 3; have y4:=hb1.cell 4; have y5:=hb1.cell 5; have y6:=hb1.cell 6;simp only [akb,aka,akc] at y0 y1 y2 y3 y4 y5 y6;clear hg1 hb1 ho;go_wp2;go_ret;exact ⟨by rw [HR.out]; first | done | rfl,az.out⟩
   · have HR:=hid (show r=1 by rw [hr]; simp [h1]); clear hr;go_enter Tryz.func22,Tryz.ntmps22;go_wp2_with fail;refine (fK.out _).mono ?_;rintro e w1 ⟨hg1,hW⟩;rw [aU.out] at hW;rcases hW with ⟨l,v,ho,rfl,_⟩ | ⟨ho,_⟩
     case inr=>cases ho
     have az:=hid (bz.out.trans hg1);have hb1:=HB.out.grown hg1 (by simp);have y0:=hb1.cell 0; have y1:=hb1.cell 1; have y2:=hb1.cell 2; have y3:=hb1.cell 3; have y4:=hb1.cell 4; have y5:=hb1.cell 5; have y6:=hb1.cell 6;simp only [akb,aka,akc] at y0 y1 y2 y3 y4 y5 y6;clear hg1 hb1 ho;go_wp2;go_ret;exact ⟨by rw [HR.out]; first | done | rfl,az.out⟩
end Go.Proofs.YtinajlbijgedbaaGreat.Sup
