/- Texts of this seat's proofs: DiskNew, DiskRead, DiskWrite3. -/
import Derived.Test.YtinajlbijgedbaaGreatQDiskNow
import Derived.Test.YtinajlbijgedbaaGreatQMapIs
import Derived.Carry
import Derived.OwnWalk
import Derived.Deep.RegionHeld3
import Derived.Laws.CopyOwn
set_option maxRecDepth 100000
set_option maxHeartbeats 16000000
namespace Go.Proofs.YtinajlbijgedbaaGreat.Dsk
open Lib (hid)
open Go.RowKit Mem Crc DiskSpec
theorem Vh:(Tryz.prog.info? 141).map (λi=>(i.zero,i.size,i.bytes))=some (some (.agg (Array.replicate 256 (.int .u8 0))),256,256):=by kernel_rfl
theorem aaC (w w1:World) (n:Nat) (h1:1<=n) (h2:n<=4096) (hg:w.grownBy w1 none) (hr:w1.ownsRow w.heap.size 141 256 (.slice (some ⟨w.heap.size,0,none⟩) n n) n (madeCells (Array.replicate 256 (.int .u8 0)) (n * 256)).toList) :
 ∃ f own,Lay ((w1.alloc (.map #[] 0)).alloc (.cells #[.slice (some ⟨w.heap.size,0,none⟩) n n,.map (some w1.heap.size),.int .i64 0,.int .i64 0,.int .i64 0,.int .i64 0,.int .i64 (-1)] 106)) w.heap.size (w1.heap.size+1) w.heap.size w1.heap.size f (St.new n) own /\
  w.grownBy ((w1.alloc (.map #[] 0)).alloc (.cells #[.slice (some ⟨w.heap.size,0,none⟩) n n,.map (some w1.heap.size),.int .i64 0,.int .i64 0,.int .i64 0,.int .i64 0,.int .i64 (-1)] 106)) none:=by
 have hlt:=(hr.lt w.heap.size rfl).2;have hgg:=(hg.trans (aj9 w1 (.map #[] 0) none)).trans (aj9 _ (.cells #[.slice (some ⟨w.heap.size,0,none⟩) n n,.map (some w1.heap.size),.int .i64 0,.int .i64 0,.int .i64 0,.int .i64 0,.int .i64 (-1)] 106) none);have hb:=af.new (w1.alloc (.map #[] 0)) 106 #[.slice (some ⟨w.heap.size,0,none⟩) n n,.map (some w1.heap.size),.int .i64 0,.int .i64 0,.int .i64 0,.int .i64 0,.int .i64 (-1)]
 have hm:=(dN.made w1 Tryz.prog 3 n).of_block (w':=(w1.alloc (.map #[] 0)).alloc (.cells #[.slice (some ⟨w.heap.size,0,none⟩) n n,.map (some w1.heap.size),.int .i64 0,.int .i64 0,.int .i64 0,.int .i64 0,.int .i64 (-1)] 106)) (Below.heap_alloc _ _ _ (by simp));have hd:=(Below.heap_alloc (w1.alloc (.map #[] 0)) (.cells #[.slice (some ⟨w.heap.size,0,none⟩) n n,.map (some w1.heap.size),.int .i64 0,.int .i64 0,.int .i64 0,.int .i64 0,.int .i64 (-1)] 106) w.heap.size (by simp; omega)).trans (Below.heap_alloc w1 (.map #[] 0) w.heap.size hlt)
 rw [World.size_alloc] at hb;have hsz:((w1.alloc (.map #[] 0)).alloc (.cells #[.slice (some ⟨w.heap.size,0,none⟩) n n,.map (some w1.heap.size),.int .i64 0,.int .i64 0,.int .i64 0,.int .i64 0,.int .i64 (-1)] 106)).heap.size=w1.heap.size+2:=by simp
 obtain ⟨hlen,hrow⟩:=hr;rcases hrow with ⟨hv,_⟩ | ⟨g,cap,cur,hv,_,hh,hnc,hcm,hcs,hct⟩
 · cases hv
 · simp only [Value.slice.injEq,Option.some.injEq,Addr.mk.injEq] at hv;obtain ⟨⟨rfl,_⟩,_,rfl⟩:=hv;generalize (w1.alloc (.map #[] 0)).alloc (.cells #[.slice (some ⟨w.heap.size,0,none⟩) n n,.map (some w1.heap.size),.int .i64 0,.int .i64 0,.int .i64 0,.int .i64 0,.int .i64 (-1)] 106)=w2 at *;have hh2:w2.heap[w.heap.size]?=some (.cells cur 141 (0,0)):=hd.trans hh;have hcell:∀ q,q < n * 256->w2.cell? ⟨w.heap.size,q,none⟩=some (.int .u8 0):=λq hq=>by
    rw [cell_of_row _ _ q cur _ _ hh2];have e1:cur.toList.take (n * 256)=cur.toList:=akk (by simp; omega);rw [e1] at hct;rw [<-Array.getElem?_toList,hct]
    simp [madeCells,hq]
    rw [getElem!_pos _ _ (by rw [Array.size_replicate]; omega),Array.getElem_replicate]
   refine ⟨λ_=>none,λi=>i=w1.heap.size+1\/i=w.heap.size\/i=w1.heap.size,?_,hgg⟩;exact {
    ok:=St.ok.new h1 h2
    blk:=hb
    ag:=λi hi j v hv=>by
     have hi':i < n:=hi;have hj:j < 256:=by
      have:=(List.getElem?_eq_some_iff.1 hv).1;rw [aB] at this;exact Nat.lt_of_lt_of_eq this l6.zero.1
     rw [hcell _ (by omega)];have:(au zeros)[j]?=some v:=hv;rw [fT _ _ (by rw [l6.zero.1]; exact hj)] at this;rw [<-this];have e0:zeros.getD j 0=0:=by
      unfold zeros;rw [akg,List.getElem?_replicate]
      simp [hj]
     rw [e0]; rfl
    room:=λq hq=>by
     have hq':q < 256 * n:=hq;rw [Nat.zero_add];refine ⟨by rw [hcell q (by omega)]; rfl,?_⟩
     simp [World.frozen?,hh2]
    map:=hm
    rows:=⟨λ_ _=>rfl,λ_ hk=>absurd rfl hk,λ_ _ _ _ hv=>by cases hv⟩
    ownB:=.inl rfl
    jL:=.inr (.inl rfl)
    lq:=.inr (.inr rfl)
    bd_:=by omega
    sZ:=by omega
    sH:=by omega
    low:=λi hi=>by omega
    lt:=λi hi=>by omega }
theorem NK (n:Nat) (w:World) (h1:1<=n) (h2:n<=4096) :
 Calls Tryz.prog 13 #[.int .i64 (n:Nat)] w λe w'=>∃ b bd bm f own,e=.returned (.tuple #[.pointer (some ⟨b,0,none⟩),.int .i64 0])/\Lay w' w.heap.size b bd bm f (St.new n) own/\w.grownBy w' none:=by
 obtain ⟨i0,hi0,hz0,hz1,hz2⟩:=info_parts Vh;have hi:=hid hi0; have z0:=hid hz0; have z1:=hid hz1; have z2:=hid hz2; clear hi0 hz0 hz1 hz2;have HL:=hid (λw1=>aaC w w1 n h1 h2);have hmk:=λw=>run_makeMap (P:=Tryz.prog) 104 w
 have hd1:decide ((n:Int) < 1)=false:=by simp; omega
 have hd2:decide (4096 < (n:Int))=false:=by simp; omega
 generalize Array.replicate 256 (Value.int .u8 0)=zs at *;go_enter Tryz.func13,Tryz.ntmps13
 go_wp2_with (first
  | (at_make; refine wpList_make_full _ rfl _ _ 103 rfl w.heap.size 141 i0 _ 256 Tryz.underlying103 hi.out z0.out z1.out .i64 .i64 _ _ n rfl rfl rfl rfl (by rw [z2.out]; omega) (by unfold maxLen; omega) (akf _) ?_; intro w1 hrow hg; have AV:=hid hrow; have HG:=hid hg; clear hrow hg))
 go_ret2;obtain ⟨f,own,h5,h6⟩:=HL.out _ HG.out AV.out;exact ⟨_,_,_,f,own,rfl,h5,h6⟩
def partly (S:St) (a count j:Nat):List Nat:=S.reads a j ++ List.replicate (256 * (count - j)) 0
theorem Rz (S:St) (a count:Nat):partly S a count count=S.reads a count:=by simp [partly]
theorem K4 {S:St} (h:S.ok) (a count j:Nat) (hj:j<=count):(partly S a count j).length=256 * count:=by
 rw [partly,akl,rV h,List.length_replicate]; omega
theorem Po {S:St} (h:S.ok) (a count j:Nat) (hj:j < count):(au (partly S a count j)).take (j * 256) ++ (au (S.now (a+j)) ++ (au (partly S a count j)).drop (j * 256+256))=au (partly S a count (j+1)):=by
 have hl:=rV h a j;have e1:(au (partly S a count j)).take (j * 256)=au (S.reads a j):=by
  rw [partly,dH,List.take_left' (by rw [aB,hl]; omega)]
 have e2:(au (partly S a count j)).drop (j * 256+256)=au (List.replicate (256 * (count - (j+1))) 0):=by
  rw [partly,dH,List.drop_append,List.drop_eq_nil_of_le (by rw [aB,hl]; omega),List.nil_append,aB,hl];simp only [au,List.map_replicate,List.drop_replicate]
  congr 1
  omega
 rw [e1,e2,partly,St.reads,dH,dH,List.append_assoc]
theorem aa.XJ {w w1 w2:World} {own own':Nat->Prop} {g:Nat} (h:aa w w1 own own') (hg:w1.grownBy w2 (some g)) (hn:w.heap.size<=g):aa w w2 own own' :=
 ⟨hg.os.trans h.os,hg.tape.trans h.tape,hg.output.trans h.output,akh h.size hg.size,
  λi hi ho=>(hg.block i (ake hi h.size) (λe=>by cases e; omega)).trans (h.block i hi ho),h.fresh⟩
theorem K6 {w W:World} {h:Nat} (hg:w.grownBy W (some h)) (cs:Array Value):w.grownBy (W.setRow h cs) (some h) :=
 ⟨hg.os,hg.tape,hg.output,by simpa [World.setRow] using hg.size,λk hk hn=>(setRow_other W h k cs (λe=>hn (by rw [e]))).trans (hg.block k hk hn)⟩
theorem mO {W:World} {h:Nat} {t:TypeId} {cs:Array Value} (hb:af W h t cs) (ds:Array Value):af (W.setRow h ds) h t ds:=setRow_heap W h cs ds t (0,0) hb
theorem K8 {w:World} {B b bd bm:Nat} {S:St} {f:Nat->Option Value} {own:Nat->Prop} (h:Lay w B b bd bm f S own) (a count:Nat) (h1:1<=count) (h2:a+count<=S.n) (hf:S.f1≠1) :
 Calls Tryz.prog 154 #[.pointer (some ⟨b,0,none⟩),.int .i64 (a:Nat),.int .i64 (count:Nat)] w λe w'=>∃ g cap,e=.returned (.tuple #[.slice (some ⟨g,0,none⟩) (256 * count) cap,.int .i64 0]) /\
  w.heap.size<=g/\af w' g 5 (au (S.reads a count)).toArray/\Lay w' B b bd bm f { S with f1:=S.f1 - 1 } own/\aa w w' own own/\cap=256 * count:=by
 have htop:=h.ok.top;have HH:=hid (tZ h (a:Int) (count:Int) (by omega) (by omega));have hhas:S.has a count=true:=by simp [St.has]; omega
 have HD:=hid (Kj h);have HF:=hid (show decide (S.f1=1)=false by simp [hf]);have aU:=hid h.ok;have ajl:=hid h.low;have jB:=hid h.ownB;have bK:=hid h.lt;obtain ⟨i0,hi0,hz0,hz1,hz2⟩:=info_parts gD;have hi:=hid hi0; have z0:=hid hz0; have z1:=hid hz1; have z2:=hid hz2; clear hi0 hz0 hz1 hz2;have hw1:IntKind.i64.wrap ((count:Int) * 256)=(count:Int) * 256:=IntWalk.i64_in _ (by omega);clear h;rw [hhas] at HH
 rw [HF.out] at HD;generalize hT:({ S with f1:=S.f1 - 1 }:St)=T at *;have Hr:=hid (show T.n=S.n by rw [<-hT]);have Oh:=hid (show ∀ k,T.reads a k=S.reads a k by
  intro k; rw [<-hT]; induction k with
  | zero=>rfl
  | succ k ih=>rw [St.reads,St.reads,ih]; rfl)
 clear hT hhas;go_enter Tryz.func154,Tryz.ntmps154;go_wp2_with fail;refine HH.out.mono ?_;rintro e w' ⟨rfl,rfl⟩;go_wp2_with fail;refine HD.out.mono ?_;rintro e w1 ⟨rfl,hg1,hl1⟩;have az:=hid hg1; have H1:=hid hl1; clear hg1 hl1
 go_wp2_with (first
  | (at_make; refine wpList_make_full _ rfl _ _ 65 rfl w1.heap.size 5 i0 _ 1 Tryz.underlying65 hi.out z0.out z1.out .i64 .i64 _ _ (256 * count) rfl rfl (by omega) (by omega) (by rw [z2.out]; omega) (by unfold maxLen; omega) (akf _) ?_; intro w2 hrow hg; have AV:=hid hrow; have HG:=hid hg; clear hrow hg))
 have hs1:=az.out.size;have hs2:=HG.out.size;have Zd:af w2 w1.heap.size 5 (au (partly T a count 0)).toArray:=by
  have hr:=AV.out;have e:(madeCells (Value.int .u8 0).cells (256 * count * 1)).toList=au (partly T a count 0):=by
   rw [Nat.mul_one];have:(Value.int .u8 0).cells=#[.int .u8 0]:=rfl;rw [this,toList_madeCells_one,partly]
   simp [St.reads,au]
  rw [e] at hr;rcases hr.2 with ⟨hv,_⟩ | ⟨g,cap,cur,hv,_,hh,_,_,hcs,hct⟩
  · cases hv
  · simp only [Value.slice.injEq,Option.some.injEq,Addr.mk.injEq] at hv;obtain ⟨⟨rfl,_⟩,_,rfl⟩:=hv;rw [akk (by simp; omega)] at hct;have:cur=(au (partly T a count 0)).toArray:=by rw [<-hct]
    rw [<-this]; exact hh
 have hl2:=H1.out.grown HG.out (λ_ e=>by cases e);have HL2:=hid hl2;have aes:=hid Zd;have adh:=hid (show ¬ own w1.heap.size from λe=>by have:=H1.out.lt _ e; omega);clear Zd hl2 AV;have hcnt:(256:Nat) * count < 9223372036854775807:=by omega
 go_wp2_with fail
 go_loopw [9,10,22] (λ_ _ i wr=>∃ j:Nat,j<=count/\i=.int .i64 j/\w2.grownBy wr (some w1.heap.size)/\af wr w1.heap.size 5 (au (partly T a count j)).toArray) (λ_ _ i _=>count - (Go.RowKit.intOf i).toNat)
 case atStart=>exact ⟨0,by omega,rfl,akr _ _,aes.out⟩
 case round =>
  obtain ⟨j,hj,rfl,hgw,hbw⟩:=hrel;have fU:=hid hgw; have nO:=hid hbw; clear hgw hbw
  by_cases hlt:j < count
  · have hlr:=HL2.out.grown fU.out (λq e=>by cases e; exact adh.out);have fF:=T.jU hlr.ok (a+j);have Vn:IntKind.i64.wrap ((a:Int)+(j:Int))=(a:Int)+(j:Int):=IntWalk.i64_in _ (by omega);have XY:IntKind.i64.wrap ((j:Int) * 256)=(j:Int) * 256:=IntWalk.i64_in _ (by omega);have TA:=hid (NJ hlr (a+j) (by rw [Hr.out]; omega));have HI:=hid (show (Tryz.prog.info? 141).map (·.size)=some (au (T.now (a+j))).length by rw [aB,fF.1]; exact Dx)
    have hz:=Q9;have hsz:(Array.replicate 256 (Value.int .u8 0)).size=256:=by simp
    generalize hzz:Array.replicate 256 (Value.int .u8 0)=zs at *;clear hzz;have HS:=hid (show zs.size=(au (T.now (a+j))).toArray.size by rw [hsz,List.size_toArray,aB,fF.1]);have HO:=hid (Fa (T.now (a+j)));have zJ:=hid (show (au (T.now (a+j))).length=256 by rw [aB,fF.1]);clear hlr fF hsz;generalize hx:au (T.now (a+j))=x at *;have HX:=hid hx; clear hx;have EA:=hid (show (a:Int)+(j:Int)=((a+j:Nat):Int) by omega)
    go_wp2_with fail;rw [EA.out];refine TA.out.mono ?_;rintro e w3 ⟨rfl,hg3⟩;have aZ:=hid hg3; clear hg3
    go_wp2_with (first
     | refine nQ rfl rfl 141 (Operand.tmp 10) (Operand.tmp 29) rfl zs x.toArray rfl rfl HI.out HS.out HO.out ?_)
    have hbW:=((nO.out.grown aZ.out (by simp)).alloc (.cells x.toArray 141)).drew;have hbN:=(af.new w3 141 x.toArray).drew;have hpl:=K4 HL2.out.ok a count j hj;have hcp:=run_copy_row (P:=Tryz.prog) (w3.alloc (.cells x.toArray 141)).drew 65 65 3 5 w1.heap.size (j * 256) (256 * count - j * 256) (256 * count - j * 256) ⟨w3.heap.size,0,none⟩ 256 256
     (au (partly T a count j)).toArray 5 x Tryz.underlying65 (by kernel_rfl) hbW (by rw [zJ.out]; exact (Nat.min_eq_left (by omega)).symm)
     (λq v hv=>by
       have e1:(⟨w3.heap.size,0,none⟩:Addr).add q=⟨w3.heap.size,q,none⟩:=by unfold Addr.add; split <;> simp_all
       rw [e1,hbN.cell]
       simpa using hv) (by rw [zJ.out,List.size_toArray,aB,hpl]; omega) (by rw [<-HX.out]; exact fO _)
    have hst:=Po HL2.out.ok a count j hlt;rw [HX.out] at hst;rw [zJ.out,List.append_assoc,hst] at hcp;have fD:=hid (mO hbW (au (partly T a count (j+1))).toArray);have HGK:=hid (K6 ((((fU.out.trans (iy aZ.out (some w1.heap.size))).trans (aj9 w3 (.cells x.toArray 141) _))).trans (ah _ _)) (au (partly T a count (j+1))).toArray);have hne:¬ (256 * count=j * 256):=by omega
    have hle:(j:Int) * 256<=256 * (count:Int):=by omega
    have hnn:(0:Int)<=(j:Int) * 256:=by omega
    have htn:((j:Int) * 256).toNat=j * 256:=by omega
    clear hbW hbN hpl hst;generalize hcs:(au (partly T a count (j+1))).toArray=cs at *;have E5:=hid hcs; clear hcs;generalize hW:(w3.alloc (.cells x.toArray 141))=W at *
    go_region
    go_wp2_with fail
    go_roundw
    case rel=>exact ⟨j+1,by omega,by go_num,HGK.out,by rw [E5.out]; exact fD.out⟩
    case measure=>simp [Go.RowKit.intOf]; omega
  · obtain rfl:j=count:=by omega
    go_wp2;go_ret2;have hbe:=nO.out;rw [Rz,Oh.out] at hbe;exact ⟨_,_,rfl,hs1,hbe,HL2.out.grown fU.out (λq e=>by cases e; exact adh.out),((aa.aA az.out (λq e=>by cases e; exact jB.out)).trans (aa.none_ HG.out)).XJ fU.out hs1,rfl⟩
theorem NH {w:World} {B b bd bm:Nat} {S:St} {f:Nat->Option Value} {own:Nat->Prop} (h:Lay w B b bd bm f S own) (a count:Nat) (h1:1<=count) (h2:a+count<=S.n) (hf:S.f1≠1) :
 Calls Tryz.prog 154 #[.pointer (some ⟨b,0,none⟩),.int .i64 (a:Nat),.int .i64 (count:Nat)] w λe w'=>∃ g cap,e=.returned (.tuple #[.slice (some ⟨g,0,none⟩) (256 * count) cap,.int .i64 0]) /\
  w.heap.size<=g/\af w' g 5 (au (S.reads a count)).toArray/\Lay w' B b bd bm f { S with f1:=S.f1 - 1 } own/\aa w w' own own :=
 (K8 h a count h1 h2 hf).mono λ_ _ ⟨g,cap,k1,k2,k3,k4,k5,_⟩=>⟨g,cap,k1,k2,k3,k4,k5⟩
theorem NI {w:World} {B b bd bm:Nat} {S:St} {f:Nat->Option Value} {own:Nat->Prop} (h:Lay w B b bd bm f S own) (a count:Int)
 (h1:-9223372036854775808<=a/\a<=9223372036854775807) (h2:-9223372036854775808<=count/\count<=9223372036854775807) (hn:S.has a count=false) :
 Calls Tryz.prog 154 #[.pointer (some ⟨b,0,none⟩),.int .i64 a,.int .i64 count] w λe w'=>e=.returned (.tuple #[.slice none 0 0,.int .i64 2])/\w=w':=by
 have HH:=hid (tZ h a count h1 h2);rw [hn] at HH;clear h hn;go_enter Tryz.func154,Tryz.ntmps154;go_wp2_with fail;refine HH.out.mono ?_;rintro e w' ⟨rfl,rfl⟩;go_wp2;go_ret2;exact ⟨rfl,rfl⟩
theorem Ja {w:World} {B b bd bm:Nat} {S:St} {f:Nat->Option Value} {own:Nat->Prop} (h:Lay w B b bd bm f S own) (a count:Int)
 (h1:-9223372036854775808<=a/\a<=9223372036854775807) (h2:-9223372036854775808<=count/\count<=9223372036854775807) (hy:S.has a count=true) (hf:S.f1=1) :
 Calls Tryz.prog 154 #[.pointer (some ⟨b,0,none⟩),.int .i64 a,.int .i64 count] w λe w'=>e=.returned (.tuple #[.slice none 0 0,.int .i64 10])/\Lay w' B b bd bm f { S with f1:=S.f1 - 1 } own/\aa w w' own own:=by
 have HH:=hid (tZ h a count h1 h2);rw [hy] at HH;have HD:=hid (Kj h);have HF:=hid (show decide (S.f1=1)=true by simp [hf]);rw [HF.out] at HD;have jB:=hid h.ownB;clear h hy hf HF;generalize ({ S with f1:=S.f1 - 1 }:St)=T at *;go_enter Tryz.func154,Tryz.ntmps154;go_wp2_with fail;refine HH.out.mono ?_;rintro e w' ⟨rfl,rfl⟩;go_wp2_with fail;refine HD.out.mono ?_;rintro e w1 ⟨rfl,hg1,hl1⟩;have az:=hid hg1; have H1:=hid hl1; clear hg1 hl1
 go_wp2;go_ret2;exact ⟨rfl,H1.out,aa.aA az.out (λq e=>by cases e; exact jB.out)⟩
theorem I9 (p:Value) (a:Int) (A:Option Addr) (n c:Nat) (bq:Bool) (w:World) (hn:n<=9223372036854775807) (hb:n=0\/n % 256≠0) :
 Calls Tryz.prog 49 #[p,.int .i64 a,.slice A n c,.bool bq] w λe w'=>e=.returned (.int .i64 1)/\w=w':=by
 by_cases h0:n=0
 · subst h0;clear hb;go_enter Tryz.func49,Tryz.ntmps49;go_wp2;go_ret;exact ⟨rfl,rfl⟩
 · have h1:n % 256≠0:=by rcases hb with h | h; exact absurd h h0; exact h
   have sj:((n:Int) == 0)=false:=by simp; omega
   have zy:((n:Int).tmod 256 != 0)=true:=by rw [akm (by omega)]; simp; omega
   have hw4:IntKind.i64.wrap ((n:Int).tmod 256)=(n:Int).tmod 256:=IntWalk.i64_in _ (by rw [akm (by omega)]; omega);generalize (n:Int).tmod 256=m at *;clear hb;go_enter Tryz.func49,Tryz.ntmps49;go_wp2;go_ret;exact ⟨rfl,rfl⟩
theorem FH {w:World} {B b bd bm:Nat} {S:St} {f:Nat->Option Value} {own:Nat->Prop} (h:Lay w B b bd bm f S own) (a:Int) (A:Option Addr) (count c:Nat) (bq:Bool)
 (ha:-9223372036854775808<=a/\a<=9223372036854775807) (h1:1<=count) (h2:count<=36028797018963967) (hn:S.has a count=false) :
 Calls Tryz.prog 49 #[.pointer (some ⟨b,0,none⟩),.int .i64 a,.slice A (count * 256) c,.bool bq] w λe w'=>e=.returned (.int .i64 2)/\w=w':=by
 have HH:=hid (tZ h a (count:Int) ha (by omega));rw [hn] at HH;clear h hn;have hm1:((count * 256:Nat):Int) % 256=0:=by omega
 have hm2:((count * 256:Nat):Int) / 256=(count:Int):=by omega
 have sj:(((count * 256:Nat):Int) == 0)=false:=by simp; omega
 have hbig:count * 256<=9223372036854775807:=by omega
 generalize count * 256=n at *;have zy:(n:Int).tmod 256=0:=by rw [akm (by omega)]; exact hm1
 have si:(n:Int).tdiv 256=(count:Int):=by rw [Int.tdiv_eq_ediv_of_nonneg (by omega)]; exact hm2
 have El:IntKind.i64.wrap (count:Int)=(count:Int):=IntWalk.i64_in _ (by omega);go_enter Tryz.func49,Tryz.ntmps49;go_wp2_with fail;refine HH.out.mono ?_;rintro e w' ⟨rfl,rfl⟩;go_wp2;go_ret;exact ⟨rfl,rfl⟩
theorem G7 {w:World} {B b bd bm:Nat} {S:St} {f:Nat->Option Value} {own:Nat->Prop} (h:Lay w B b bd bm f S own) (a:Int) (A:Option Addr) (count c:Nat) (bq:Bool)
 (ha:-9223372036854775808<=a/\a<=9223372036854775807) (h1:1<=count) (h2:count<=36028797018963967) (hn:S.has a count=true) (hs:S.f2=1\/S.left=0) :
 Calls Tryz.prog 49 #[.pointer (some ⟨b,0,none⟩),.int .i64 a,.slice A (count * 256) c,.bool bq] w λe w'=>e=.returned (.int .i64 11)/\Lay w' B b bd bm f { S with f2:=S.f2 - 1 } own/\aa w w' own own:=by
 have HH:=hid (tZ h a (count:Int) ha (by omega));rw [hn] at HH;have HD:=hid (ED h);rw [show (decide (S.f2=1) || decide (S.left=0))=true by simp; exact hs] at HD;have jB:=hid h.ownB;clear h hn hs;generalize ({ S with f2:=S.f2 - 1 }:St)=T at *;have hm1:((count * 256:Nat):Int) % 256=0:=by omega
 have hm2:((count * 256:Nat):Int) / 256=(count:Int):=by omega
 have sj:(((count * 256:Nat):Int) == 0)=false:=by simp; omega
 have hbig:count * 256<=9223372036854775807:=by omega
 generalize count * 256=n at *;have zy:(n:Int).tmod 256=0:=by rw [akm (by omega)]; exact hm1
 have si:(n:Int).tdiv 256=(count:Int):=by rw [Int.tdiv_eq_ediv_of_nonneg (by omega)]; exact hm2
 have El:IntKind.i64.wrap (count:Int)=(count:Int):=IntWalk.i64_in _ (by omega);go_enter Tryz.func49,Tryz.ntmps49;go_wp2_with fail;refine HH.out.mono ?_;rintro e w' ⟨rfl,rfl⟩;go_wp2_with fail;refine HD.out.mono ?_;rintro e w1 ⟨rfl,hg1,hl1⟩;have az:=hid hg1; have H1:=hid hl1; clear hg1 hl1;go_wp2;go_ret;exact ⟨rfl,H1.out,aa.aA az.out (λq e=>by cases e; exact jB.out)⟩
end Go.Proofs.YtinajlbijgedbaaGreat.Dsk
