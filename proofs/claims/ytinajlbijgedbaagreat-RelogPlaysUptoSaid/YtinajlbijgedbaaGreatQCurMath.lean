/- Texts of this seat's proofs: CurMath, Cur. -/
import Derived.Test.YtinajlbijgedbaaGreatQCodecSpec
import Derived.Test.YtinajlbijgedbaaGreatQBytes
import Derived.Test.YtinajlbijgedbaaGreatQRefBits
import Derived.Laws.CopyOwn
namespace Go.Proofs.YtinajlbijgedbaaGreat.Codec
open Go.RowKit CrcMath CodecMath Mem Crc
def lay (L:List Nat) (k:Nat) (xs:List Nat):List Nat:=splice L k xs
theorem GA (L:List Nat) (k:Nat) (xs:List Nat) (h:k+xs.length<=L.length):(lay L k xs).length=L.length:=length_splice _ _ _ h
theorem Qo (L:List Nat) (k:Nat):lay L k []=L:=by simp [lay,splice]
theorem Qn (L:List Nat) (k:Nat) (xs:List Nat) (b:Nat) (h:k+xs.length < L.length):(lay L k xs).set (k+xs.length) b=lay L k (xs ++ [b]):=by
 have hk:(L.take k).length=k:=by rw [aku]; omega
 obtain ⟨y,hy⟩:∃ y,L.drop (k+xs.length)=y :: L.drop (k+xs.length+1):=⟨_,List.drop_eq_getElem_cons h⟩;simp only [lay,splice,akl,List.length_singleton];rw [hy,List.set_append,if_neg (by omega),hk,show k+xs.length - k=xs.length from by omega,List.set_append,if_neg (by omega),Nat.sub_self]
 simp [Nat.add_assoc]
theorem gz (pre xs:List Nat) (N:Nat):lay (fill pre N) pre.length xs=fill (pre ++ xs) N:=by
 simp only [lay,splice,fill,akl];rw [List.take_left' rfl,<-List.drop_drop,List.drop_left' rfl,List.drop_replicate,<-List.append_assoc,Nat.sub_sub]
theorem VS (pre:List Nat) (k N:Nat) (h:pre.length+k<=N):fill (pre ++ List.replicate k 0) N=fill pre N:=by
 simp only [fill,List.append_assoc,akl,List.length_replicate,List.replicate_append_replicate]
 congr 2
 omega
theorem PY (L:List Nat) (k:Nat) (xs:List Nat):au (lay L k xs)=splice (au L) k (au xs):=by
 simp [lay,splice,au,List.map_take,List.map_drop]
theorem PX (L:List Nat) (i b:Nat):(au L).toArray.setIfInBounds i (.int .u8 (b:Nat))=(au (L.set i b)).toArray:=by
 simp [au,List.map_set]
theorem Tg (k m j:Nat) (h:j < k):(be k m).take (j+1)=(be k m).take j ++ [m / 256 ^ (k - 1 - j) % 256]:=by
 have:=QF k m (k - 1 - j) (by omega)
 rwa [show k - (k - 1 - j)=j+1 from by omega,show k - (k - 1 - j+1)=j from by omega] at this
theorem aas (x:Int) (b:Nat) (hb:b < 256):bits BinOp.or IntKind.i64 (wrap64 (x * 256)) (b:Int)=wrap64 (wrap64 (256 * x)+b):=by
 have hx:(BitVec.ofInt 64 (wrap64 (x * 256))).toNat=((x * 256) % 18446744073709551616).toNat:=by
  simp only [BitVec.toNat_ofInt];unfold wrap64
  congr 1
  omega
 have hbn:(BitVec.ofInt 64 (b:Int)).toNat=b:=ofInt_u64 b (by omega);have h0:((x * 256) % 18446744073709551616).toNat % 2 ^ 8=0:=by omega
 have hk:bits BinOp.or IntKind.i64 (wrap64 (x * 256)) (b:Int)=IntKind.i64.wrap (((BitVec.ofInt 64 (wrap64 (x * 256)) ||| BitVec.ofInt 64 (b:Int)).toNat:Nat):Int):=rfl;rw [hk,BitVec.toNat_or,hx,hbn,nat_join 8 _ _ h0 (by omega),IntKind.wrap_i64];unfold wrap64;omega
end Go.Proofs.YtinajlbijgedbaaGreat.Codec
set_option maxRecDepth 100000
set_option maxHeartbeats 16000000
namespace Go.Proofs.YtinajlbijgedbaaGreat.Codec
open Lib (hid)
open Go.RowKit CrcMath CodecMath Mem Crc
structure Left (w w':World) (p g:Nat):Prop where
 os:w'.os=w.os
 tape:w'.tape=w.tape
 output:w'.output=w.output
 size:w.heap.size<=w'.heap.size
 block:∀ k,k < w.heap.size->k≠p->k≠g->w'.heap[k]?=w.heap[k]?
section
variable {w w1 w':World} {p g:Nat}
theorem Left.Za (h:w.grownBy w' (some p)) (g:Nat):Left w w' p g:=⟨h.os,h.tape,h.output,h.size,λk hk h1 _=>h.block k hk (by simpa using h1)⟩
theorem Left.of2 (h:w.grownBy w' (some g)) (p:Nat):Left w w' p g:=⟨h.os,h.tape,h.output,h.size,λk hk _ h1=>h.block k hk (by simpa using h1)⟩
theorem Left.of0 (h:w.grownBy w' none) (p g:Nat):Left w w' p g:=⟨h.os,h.tape,h.output,h.size,λk hk _ _=>h.block k hk (by simp)⟩
theorem Left.trans (h:Left w w1 p g) (k:Left w1 w' p g):Left w w' p g :=
 ⟨k.os.trans h.os,k.tape.trans h.tape,k.output.trans h.output,akh h.size k.size,λi hi h1 h2=>(k.block i (ake hi h.size) h1 h2).trans (h.block i hi h1 h2)⟩
theorem Left.new {w0:World} (h:Left w w' p g) (h0:w0.grownBy w none) (hp:w0.heap.size<=p) (hg:w0.heap.size<=g):w0.grownBy w' none :=
 ⟨h.os.trans h0.os,h.tape.trans h0.tape,h.output.trans h0.output,akh h0.size h.size,λk hk _=>(h.block k (ake hk h0.size) (by omega) (by omega)).trans (h0.block k hk (by simp))⟩
theorem Left.blk {b:Nat} {t:TypeId} {cs:Array Value} (h:Left w w' p g) (hb:af w b t cs) (h1:b≠p) (h2:b≠g):af w' b t cs:=(h.block b hb.lt h1 h2).trans hb
end
def ny (w:World) (p g k n:Nat):Prop:=∃ k0,af w p 153 #[.slice (some ⟨g,k0,none⟩) n n]/\(0 < n->k0=k)
theorem ny.grown {w w':World} {p g k n:Nat} {row:Option Nat} (h:ny w p g k n) (hg:w.grownBy w' row) (hne:some p≠row):ny w' p g k n:=by
 obtain ⟨k0,hb,hk⟩:=h;exact ⟨k0,hb.grown hg hne,hk⟩
theorem ny.ne {w:World} {p g k n:Nat} {t:TypeId} {cs:Array Value} (h:ny w p g k n) (hb:af w g t cs) (ht:t≠153):p≠g:=by
 rintro rfl;obtain ⟨k0,hb',_⟩:=h;rw [af,hb] at hb'
 injection hb' with hb'
 injection hb' with _ h1
 exact ht h1
theorem mq (p g k n cnt:Nat) (w:World) (hc:ny w p g k n) (h:cnt<=n) (hn:n<=4096) :
 Calls Tryz.prog 106 #[.pointer (some ⟨p,0,none⟩),.int .i64 cnt] w λe w' =>
  (∃ k0,e=.returned (.slice (some ⟨g,k0,none⟩) cnt cnt)/\(0 < cnt->k0=k))/\w.grownBy w' (some p)/\ny w' p g (k+cnt) (n - cnt):=by
 obtain ⟨k0,hb,hk⟩:=hc;have hcell:=hb.cell 0;have hfr:=hb.frozen 0;simp only [akb,aka] at hcell;have HB:=hid hb; have HK:=hid hk; clear hb hk;have h0:(0:Int)<=cnt:=by omega
 have h1:(cnt:Int)<=n:=by omega
 go_enter Tryz.func106,Tryz.ntmps106;go_wp2
 · obtain rfl:n=cnt:=by assumption
   go_ret;exact ⟨⟨k0,rfl,HK.out⟩,akd (akr _ _) 0 _,k0,HB.out.aC 0 _,λh=>absurd h (by omega)⟩
 · rename_i hne
   go_ret;refine ⟨⟨k0,rfl,λ_=>HK.out (by omega)⟩,akd (akr _ _) 0 _,k0+cnt,HB.out.aC 0 _,λ_=>?_⟩;rw [HK.out (by omega)]
theorem iV (p g k n width m:Nat) (t:TypeId) (L:List Nat) (w:World) (hc:ny w p g k n) (hg:af w g t (au L).toArray) (ht:t≠153)
 (h:width<=n) (hn:k+n<=L.length) (hL:L.length<=4096) (h8:width<=8) :
 Calls Tryz.prog 105 #[.pointer (some ⟨p,0,none⟩),.int .i64 width,.int .i64 m] w λe w' =>
  e=.returned (.tuple #[])/\Left w w' p g/\ny w' p g (k+width) (n - width)/\af w' g t (au (lay L k (be width m))).toArray:=by
 have jG:=hc.ne hg ht;have HG:=hid hg; have HC:=hid hc; clear hc hg;go_enter Tryz.func105,Tryz.ntmps105;go_wp2_with fail;refine (mq p g k n width w HC.out h (by omega)).mono ?_;rintro e w1 ⟨⟨k0,rfl,hk⟩,hgr,hc1⟩;have hb1:=HG.out.grown hgr (by simpa using λe=>jG e.symm);have az:=hid hb1; have l9:=hid hc1; have pO:=hid (Left.Za hgr g); have HK:=hid hk;clear hb1 hc1 hgr hk HG;go_wp2_with fail
 go_loopw [7,13] (λ_ i wr=>∃ j:Nat,j<=width/\i=.int .i64 j/\w1.grownBy wr (some g)/\af wr g t (au (lay L k ((be width m).take j))).toArray) (λ_ i _=>width - (intOf i).toNat)
 case atStart=>exact ⟨0,by omega,rfl,akr _ _,by simpa [Qo] using az.out⟩
 case round =>
  obtain ⟨j,hj,rfl,hgw,hbw⟩:=hrel;have nO:=hid hbw; have fU:=hid hgw; clear hbw hgw
  by_cases hlt:j < width
  · obtain rfl:k0=k:=HK.out (by omega);obtain ⟨q,hq⟩:∃ q,width=j+q+1:=⟨width - j - 1,by omega⟩;have hsh:(8 * ((width:Int) - 1 - (j:Int)))=((8 * q:Nat):Int):=by omega
    have hw1:(width:Int) - 1 - (j:Int)=(q:Int):=by omega
    have hlen:(lay L k0 ((be width m).take j)).length=L.length:=GA _ _ _ (by rw [aku,aY]; omega);have hcell:=nO.out.cell (k0+j);rw [akb,fT _ _ (by omega)] at hcell;have hfr:=nO.out.frozen (k0+j);have hst:=Qn L k0 ((be width m).take j) (m / 256 ^ q % 256) (by rw [aku,aY]; omega);rw [aku,aY,Nat.min_eq_left (by omega)] at hst;have hbt:=Tg width m j hlt
    rw [show width - 1 - j=q from by omega] at hbt;rw [<-hbt] at hst;have HST:=hid hst; have iG:=hid (byte_of m q); clear hst hbt hlen;go_wp2_with fail
    go_roundw
    case rel =>
     refine ⟨j+1,by omega,by go_num,bI fU.out _ _,?_⟩;rw [iG.out];have h:=nO.out.aC (k0+j) (.int .u8 ((m / 256 ^ q % 256:Nat):Int));rw [PX,HST.out] at h;exact h
    case measure=>simp [intOf]; omega
  · obtain rfl:j=width:=by omega
    go_wp2
    go_end0
    refine ⟨rfl,pO.out.trans (Left.of2 fU.out p),l9.out.grown fU.out (by simpa using jG),?_⟩;have h:=nO.out
    rwa [akk (by rw [aY]; omega)] at h
theorem gN (p g k n width:Nat) (t:TypeId) (L:List Nat) (w:World) (hc:ny w p g k n) (hg:af w g t (au L).toArray) (ht:t≠153) (hb:∀ x∈L,x < 256)
 (h:width<=n) (hn:k+n<=L.length) (hL:L.length<=4096) :
 Calls Tryz.prog 156 #[.pointer (some ⟨p,0,none⟩),.int .i64 width] w λe w' =>
  e=.returned (.int .i64 (wrap64 (num L k width)))/\w.grownBy w' (some p)/\ny w' p g (k+width) (n - width):=by
 have jG:=hc.ne hg ht;have HG:=hid hg; have HC:=hid hc; have rG:=hid hb; clear hc hg hb;go_enter Tryz.func156,Tryz.ntmps156;go_wp2_with fail;refine (mq p g k n width w HC.out h (by omega)).mono ?_;rintro e w1 ⟨⟨k0,rfl,hk⟩,hgr,hc1⟩;have hb1:=HG.out.grown hgr (by simpa using λe=>jG e.symm);have az:=hid hb1; have l9:=hid hc1; have pO:=hid hgr; have HK:=hid hk;clear hb1 hc1 hgr hk HG;go_wp2_with fail
 go_loop [5,7,12] (λs _ i=>∃ j:Nat,j<=width/\i=.int .i64 j/\s=.int .i64 (wrap64 (num L k j))) (λ_ _ i=>width - (intOf i).toNat)
 case atStart=>exact ⟨0,by omega,rfl,by simp [num,wrap64]⟩
 case round =>
  obtain ⟨j,hj,rfl,rfl⟩:=hrel
  by_cases hlt:j < width
  · obtain rfl:k0=k:=HK.out (by omega);have hcell:=az.out.cell (k0+j);rw [akb,fT _ _ (by omega)] at hcell;have hby:=getD_lt rG.out (k0+j);have hor:=aas (wrap64 (num L k0 j)) (L.getD (k0+j) 0) hby;rw [Fu] at hor;have HOR:=hid hor; clear hor;generalize L.getD (k0+j) 0=y at *;generalize wrap64 ((num L k0 j:Nat):Int)=x at *;go_wp2;refine ⟨⟨j+1,by omega,by go_num,?_⟩,by simp [intOf]; omega⟩
    rw [HOR.out]
  · obtain rfl:j=width:=by omega
    go_wp2;go_ret;exact ⟨rfl,pO.out,l9.out⟩
end Go.Proofs.YtinajlbijgedbaaGreat.Codec
