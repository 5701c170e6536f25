/- Texts of this seat's proofs: RelOpened, RelShut, RelDoes. -/
import Derived.Test.YtinajlbijgedbaaGreatQRelCalls
import Derived.Test.YtinajlbijgedbaaGreatQRefStoOpen
import Derived.Test.YtinajlbijgedbaaGreatQStoGood3
import Derived.Test.YtinajlbijgedbaaGreatQOpenOps
import Derived.Deep.RegionHeld3
import Derived.Deep.DeepCutAuto
set_option linter.unusedVariables false
namespace Go.Proofs.YtinajlbijgedbaaGreat.Both
open Go.RowKit CrcMath CodecMath Mem Crc Codec DiskSpec Dsk Sup Log RLog Sto RSto
structure Pre (W w:World) (K:Nat->Prop) (b tb g sb dm:Nat) (own:Nat->Prop) (r rg q:Nat) (ro:Nat->Prop) (s:Sto):Prop where
 gr:W.grownBy w none
 p:bf (λi=>bT ro rg q i\/K i) w W.heap.size b tb g sb dm none own s
 d:aQ (λi=>aD own tb g sb dm none i\/K i) w W.heap.size r rg q ro s
 kf:∀ i,K i->¬ aD own tb g sb dm none i/\W.heap.size<=i/\i < w.heap.size
section
variable {W w w':World} {K:Nat->Prop} {b tb g sb dm r rg q mb nb:Nat} {own ro:Nat->Prop} {s:Sto}
theorem Pre.bo (h:Pre W w K b tb g sb dm own r rg q ro s) {F0 F1:Nat->Prop} (ht:aa w w' F0 F1) (h0:∀ i,F0 i->K i)
 (hm:af w' mb 95 #[.pointer (some ⟨sb,0,none⟩),.int .i64 400,.pointer none]) (hn:af w' nb 41 #[.pointer (some ⟨q,0,none⟩),.int .i64 400,.bool false,.int .i64 0,.int .i64 0])
 (h1:w.heap.size<=mb) (h2:w.heap.size<=nb) (hne:nb≠mb):Bo W w' K ⟨b,tb,sb,dm,mb,r,q,nb⟩ ⟨g,none,own,rg,ro⟩ s s none none:=by
 have hsz:=ht.size;have hlow:=h.gr.size;have hf:∀ i,w.heap.size<=i->¬ aD own tb g sb dm none i:=λi hi e=>by have:=h.p.bO e; omega
 have hr:∀ i,w.heap.size<=i->¬ bT ro rg q i:=λi hi e=>by have:=h.d.bO e; omega
 have hzp:∀ i,ZP ⟨b,tb,sb,dm,mb,r,q,nb⟩ ⟨g,none,own,rg,ro⟩ K i->(bT ro rg q i\/K i)\/w.heap.size<=i:=λi hi=>by
  rcases hi with hi | hi | hi
  · exact .inl (.inl hi)
  · exact .inr (by have e:i=nb:=hi; omega)
  · exact .inl (.inr hi)
 have hzd:∀ i,ZD ⟨b,tb,sb,dm,mb,r,q,nb⟩ ⟨g,none,own,rg,ro⟩ K i->(aD own tb g sb dm none i\/K i)\/w.heap.size<=i:=λi hi=>by
  rcases hi with hi | hi | hi | hi
  · exact .inl (.inl hi)
  · exact .inr (by have e:i=mb:=hi; omega)
  · exact .inr (by have e:i=nb:=hi; omega)
  · exact .inl (.inr hi)
 have qj:=af.lt hm;have hnl:=af.lt hn;have hkk:∀ i,K i->¬ aD own tb g sb dm none i/\W.heap.size<=i/\i < w.heap.size:=h.kf;refine ⟨dX h.gr ht (λi hi=>(hkk i (h0 i hi)).2.1),h.p.other ht (λi e=>.inr (h0 i e)) (λi hi e=>(hkk i (h0 i e)).1 hi) hzp (λi hi=>?_),⟨?_,by show W.heap.size<=mb; omega,hm⟩,
  h.d.other ht (λi e=>.inr (h0 i e)) hzd (λi hi=>?_),⟨0,0,hn,λp e=>by cases e⟩,⟨hf _ h2,hne,by show W.heap.size<=nb; omega,hnl⟩,λi hi=>?_⟩
 · rcases hi with hi | hi | hi
   · exact ake (h.d.bO hi) hsz
   · have e:i=nb:=hi;rw [e]; exact hnl
   · exact ake (hkk i hi).2.2 hsz
 · rintro (e | e | e | e)
   · exact hf _ h1 e
   · exact hr _ h1 e
   · have e2:mb=nb:=e;exact hne e2.symm
   · have:=(hkk _ e).2.2;have e2:w.heap.size<=mb:=h1;exact absurd this (by show ¬ mb < _; omega)
 · rcases hi with hi | hi | hi | hi
   · exact ⟨ake (h.p.bO hi) hsz,h.p.il hi⟩
   · have e:i=mb:=hi;rw [e]; exact ⟨qj,by omega⟩
   · have e:i=nb:=hi;rw [e]; exact ⟨hnl,by omega⟩
   · exact ⟨ake (hkk i hi).2.2 hsz,(hkk i hi).2.1⟩
 · obtain ⟨a,c,d⟩:=hkk i hi;exact ⟨a,λe=>by have e2:i=mb:=e; omega,λe=>by have e2:i=nb:=e; omega,c,by omega⟩
structure Shut (W w:World) (K:Nat->Prop) (b:Nat) (own:Nat->Prop) (r:Nat) (ro:Nat->Prop) (N:Nat) (ag:Nat->List Nat):Prop where
 gr:W.grownBy w none
 p:dU w W.heap.size b (plain N ag) own
 d:bX w W.heap.size r (plain N ag) ro
 ap:∀ i,own i->¬ ro i
 kf:∀ i,K i->¬ own i/\¬ ro i/\W.heap.size<=i/\i < w.heap.size
theorem We {w:World} {B b:Nat} {S:St} {own:Nat->Prop} (h:dU w B b S own) {i:Nat} (hi:own i):B<=i:=by obtain ⟨_,_,_,hl⟩:=h; exact hl.low i hi
theorem BX {w:World} {B b:Nat} {S:St} {own:Nat->Prop} (h:bX w B b S own) {i:Nat} (hi:own i):B<=i:=by obtain ⟨_,_,_,_,_,hl⟩:=h; exact hl.low i hi
section
variable {N:Nat} {ag:Nat->List Nat} {x:Sb}
def Half (W w:World) (K:Nat->Prop) (b:Nat) (r:Nat) (ro:Nat->Prop) (N:Nat) (ag:Nat->List Nat) (s:Sto) (w1:World) (tb g sb dm:Nat) (own':Nat->Prop):Prop :=
 W.grownBy w1 none/\bf (λi=>ro i\/K i) w1 W.heap.size b tb g sb dm none own' s/\bX w1 W.heap.size r (plain N ag) ro/\(∀ i,aD own' tb g sb dm none i->¬ ro i) /\
  (∀ i,K i->¬ aD own' tb g sb dm none i/\¬ ro i/\W.heap.size<=i/\i < w1.heap.size)/\(∀ i,K i->w1.heap[i]?=w.heap[i]?)/\w.heap.size<=w1.heap.size
theorem abj (h:Shut W w K b own r ro N ag) (eu:gI N ag=some x.l) (bu:aL x.l (N:Int)=true) (hgn:x.gn < 1099511627776) (fG:x.ep < 1099511627776) (ho:(iC N ag x).2.1=some s) :
 Calls Tryz.prog 15 #[.pointer (some ⟨b,0,none⟩)] w λe w1=>∃ tb g sb dm own',e=.returned (.tuple #[.pointer (some ⟨sb,0,none⟩),.int .i64 0])/\Half W w K b r ro N ag s w1 tb g sb dm own':=by
 refine (AY (Z:=λi=>ro i\/K i) h.p h.gr.size x eu bu hgn fG (λi hi=>hi.elim (λe=>eP h.d e) (λe=>(h.kf i e).2.2.2))).mono ?_;rintro e w1 (⟨s',hs,tb,g,sb,dm,own',rfl,hst,ht⟩ | ⟨hs,_⟩)
 · rw [ho] at hs
   cases hs
   have hout:∀ i,i < w.heap.size->¬ own i->¬ aD own' tb g sb dm none i:=λi hi hn e=>by
    rcases ht.fresh i e with h1 | h1
    · exact hn h1
    · omega
   refine ⟨tb,g,sb,dm,own',rfl,dX h.gr ht (λi hi=>We h.p hi),hst,Du h.d ht (λi hi e=>h.ap i e hi),λi hi e=>?_,λi hi=>?_,λi hi=>ht.block i (h.kf i hi).2.2.2 (h.kf i hi).1,ht.size⟩
   · exact hout i (eP h.d e) (λe2=>h.ap i e2 e) hi
   · obtain ⟨a,c,d,f⟩:=h.kf i hi;exact ⟨hout i f a,c,d,ake f ht.size⟩
 · rw [ho] at hs; cases hs
theorem UW {w1:World} {own':Nat->Prop} (h:Half W w K b r ro N ag s w1 tb g sb dm own') (eu:gI N ag=some x.l) (bu:aL x.l (N:Int)=true) (hgn:x.gn < 1099511627776) (fG:x.ep < 1099511627776) (ho:(iC N ag x).2.1=some s) :
 Calls Tryz.prog 8 #[.pointer (some ⟨r,0,none⟩)] w1 λe w2=>∃ rg q ro',e=.returned (.tuple #[.pointer (some ⟨q,0,none⟩),.int .i64 0])/\Pre W w2 K b tb g sb dm own' r rg q ro' s/\(∀ i,K i->w2.heap[i]?=w.heap[i]?)/\w.heap.size<=w2.heap.size:=by
 obtain ⟨hg,hst,hr,hap,hk,hkb,hsz⟩:=h;refine (BP (Z:=λi=>aD own' tb g sb dm none i\/K i) hr hg.size (λi hi=>?_) x eu bu hgn fG).mono ?_
 · rcases hi with hi | hi
   · exact ⟨hst.bO hi,hap i hi,hst.il hi⟩
   · exact ⟨(hk i hi).2.2.2,(hk i hi).2.1,(hk i hi).2.2.1⟩
 rintro e w2 (⟨s',hs,rg,q,ro',rfl,hd,ht⟩ | ⟨hs,_⟩)
 · rw [ho] at hs
   cases hs
   have hZ:∀ i,(bT ro' rg q i\/K i)->(ro i\/K i)\/w1.heap.size<=i:=λi hi=>by
    rcases hi with hi | hi
    · exact (ht.fresh i hi).imp .inl id
    · exact .inl (.inr hi)
   refine ⟨rg,q,ro',rfl,⟨dX hg ht (λi hi=>BX hr hi),hst.other ht (λi e=>.inl e) (λi hi e=>hap i hi e) hZ (λi hi=>?_),hd,λi hi=>?_⟩,λi hi=>(ht.block i (hk i hi).2.2.2 (hk i hi).2.1).trans (hkb i hi),akh hsz ht.size⟩
   · rcases hi with hi | hi
     · exact hd.bO hi
     · exact ake (hk i hi).2.2.2 ht.size
   · obtain ⟨a,c,d,f⟩:=hk i hi;exact ⟨a,d,ake f ht.size⟩
 · rw [ho] at hs; cases hs
def wK (W w:World) (K:Nat->Prop) (w1:World):Prop:=W.grownBy w1 none/\(∀ i,K i->w1.heap[i]?=w.heap[i]?)/\w.heap.size<=w1.heap.size
theorem Ue (h:Shut W w K b own r ro N ag) {w1:World} {own':Nat->Prop} (ht:aa w w1 own own'):wK W w K w1/\bX w1 W.heap.size r (plain N ag) ro :=
 ⟨⟨dX h.gr ht (λi hi=>We h.p hi),λi hi=>ht.block i (h.kf i hi).2.2.2 (h.kf i hi).1,ht.size⟩,Du h.d ht (λi hi e=>h.ap i e hi)⟩
theorem Uf (h:Shut W w K b own r ro N ag) {w1 w2:World} {ro':Nat->Prop} (hn:wK W w K w1) (hr:bX w1 W.heap.size r (plain N ag) ro) (ht:aa w1 w2 ro ro'):wK W w K w2 :=
 ⟨dX hn.1 ht (λi hi=>BX hr hi),λi hi=>(ht.block i (ake (h.kf i hi).2.2.2 hn.2.2) (h.kf i hi).2.1).trans (hn.2.1 i hi),akh hn.2.2 ht.size⟩
theorem Qh (h:Shut W w K b own r ro N ag) (hn2:2<=N) (hb:gI N ag=none\/∃ x:Sb,gI N ag=some x.l/\aL x.l (N:Int)=true/\x.gn < 1099511627776/\x.ep < 1099511627776/\(iC N ag x).2.1=none) :
 ∃ z:Int,Calls Tryz.prog 15 #[.pointer (some ⟨b,0,none⟩)] w (λe w1=>e=.returned (.tuple #[.pointer none,.int .i64 z])/\wK W w K w1/\bX w1 W.heap.size r (plain N ag) ro) /\
  ∀ w1,wK W w K w1->bX w1 W.heap.size r (plain N ag) ro->Calls Tryz.prog 8 #[.pointer (some ⟨r,0,none⟩)] w1 (λe w2=>e=.returned (.tuple #[.pointer none,.int .i64 z])/\wK W w K w2):=by
 rcases hb with hb | ⟨x,hb,bu,hgn,fG,ho⟩
 · refine ⟨14,(KL h.p h.gr.size hn2 hb).mono ?_,λw1 hn hr=>(KW hr hn2 hb).mono ?_⟩
   · rintro e w1 ⟨rfl,_,ht⟩;exact ⟨rfl,Ue h ht⟩
   · rintro e w2 ⟨rfl,_,ht⟩;exact ⟨rfl,Uf h hn hr ht⟩
 · refine ⟨(iC N ag x).1,(BF h.p h.gr.size x hb bu hgn fG).mono ?_,λw1 hn hr=>(BP (Z:=λ_=>False) hr hn.1.size (λi e=>e.elim) x hb bu hgn fG).mono ?_⟩
   · rintro e w1 (⟨s',hs,_⟩ | ⟨_,rfl,own',_,ht⟩)
     · rw [ho] at hs; cases hs
     · exact ⟨rfl,Ue h ht⟩
   · rintro e w2 (⟨s',hs,_⟩ | ⟨_,rfl,own',_,ht⟩)
     · rw [ho] at hs; cases hs
     · exact ⟨rfl,Uf h hn hr ht⟩
end
end
end Go.Proofs.YtinajlbijgedbaaGreat.Both
set_option maxRecDepth 100000
set_option maxHeartbeats 16000000
namespace Go.Proofs.YtinajlbijgedbaaGreat.Both
open Lib (hid)
open Go.RowKit CrcMath CodecMath Mem Crc Codec DiskSpec Dsk Sup Log RLog Sto RSto
def BL.cs (L:BL):Array Value:=#[.pointer (some ⟨L.b,0,none⟩),.pointer (some ⟨L.r,0,none⟩),.pointer (some ⟨L.sb,0,none⟩),.pointer (some ⟨L.q,0,none⟩),.pointer (some ⟨L.mb,0,none⟩),.pointer (some ⟨L.nb,0,none⟩)]
def Live (W:World) (bb M V:Nat) (w':World):Prop:=W.grownBy w' none/\W.heap.size<=bb /\
 ((∃ cs,af w' bb 43 cs/\cs[2]?=some (.pointer none))\/∃ L M' s tg,Bo W w' (λi=>i=bb) L M' s s tg tg/\af w' bb 43 L.cs/\iB M V s)
section
variable {W w w':World} {b r bb:Nat} {own ro:Nat->Prop} {N:Nat} {ag:Nat->List Nat}
theorem JP (h:Shut W w (λi=>i=bb) b own r ro N ag) {v2 v3 v4 v5:Value} (hc:af w bb 43 #[.pointer (some ⟨b,0,none⟩),.pointer (some ⟨r,0,none⟩),v2,v3,v4,v5]) {z:Int}
 (hP:Calls Tryz.prog 15 #[.pointer (some ⟨b,0,none⟩)] w (λe w1=>e=.returned (.tuple #[.pointer none,.int .i64 z])/\wK W w (λi=>i=bb) w1/\bX w1 W.heap.size r (plain N ag) ro))
 (hD:∀ w1,wK W w (λi=>i=bb) w1->bX w1 W.heap.size r (plain N ag) ro->Calls Tryz.prog 8 #[.pointer (some ⟨r,0,none⟩)] w1 (λe w2=>e=.returned (.tuple #[.pointer none,.int .i64 z])/\wK W w (λi=>i=bb) w2)) (M V:Nat) :
 Calls Tryz.prog 46 #[.pointer (some ⟨bb,0,none⟩)] w λe w'=>e=.returned (.bool true)/\Live W bb M V w':=by
 have ZQ:=hid (h.kf bb rfl);have HC:=hid hc;have HP:=hid hP;have HD:=hid hD;have c0:w.cell? ⟨bb,0,none⟩=some (.pointer (some ⟨b,0,none⟩)):=by rw [hc.cell]; rfl
 have hzz:(z != z)=false:=by simp
 have IX:(z == z)=true:=by simp
 clear h hc hP hD;go_enter Tryz.func46,Tryz.ntmps46;go_wp2_with fail;refine HP.out.mono ?_;rintro e w1 ⟨rfl,hn1,hr1⟩;have HD1:=hid (HD.out w1 hn1 hr1);have l9:=hid (aj HC.out (hn1.2.1 bb rfl));have c1:w1.cell? ⟨bb,1,none⟩=some (.pointer (some ⟨r,0,none⟩)):=by rw [l9.out.cell]; rfl
 clear hn1 hr1 HP HD c0;go_wp2_with fail;refine HD1.out.mono ?_;rintro e w2 ⟨rfl,hn2⟩;have mo:=hid (aj HC.out (hn2.2.1 bb rfl));have HG2:=hid hn2.1;have f2:=mo.out.frozen 2; have f3:=mo.out.frozen 3;have y2:w2.cell? ⟨bb,2,none⟩=some v2:=by rw [mo.out.cell]; rfl
 have y3:w2.cell? ⟨bb,3,none⟩=some v3:=by rw [mo.out.cell]; rfl
 clear hn2 HD1 l9 c1;go_wp2_with fail;go_ret;have hb3:=(mo.out.aC 2 (.pointer none)).aC 3 (.pointer none);exact ⟨rfl,HG2.out.andThen (akd (akd (akr w2 (some bb)) 2 (.pointer none)) 3 (.pointer none)) (λj e=>by cases e; exact .inl ZQ.out.2.2.1),ZQ.out.2.2.1,.inl ⟨_,hb3,rfl⟩⟩
theorem RI (h:Shut W w (λi=>i=bb) b own r ro N ag) {v2 v3 v4 v5:Value} (hc:af w bb 43 #[.pointer (some ⟨b,0,none⟩),.pointer (some ⟨r,0,none⟩),v2,v3,v4,v5])
 {x:Sb} {s:Sto} (eu:gI N ag=some x.l) (bu:aL x.l (N:Int)=true) (hgn:x.gn < 1099511627776) (fG:x.ep < 1099511627776) (ho:(iC N ag x).2.1=some s) {M V:Nat} (hgr:iB M V s) :
 Calls Tryz.prog 46 #[.pointer (some ⟨bb,0,none⟩)] w λe w'=>e=.returned (.bool true)/\Live W bb M V w':=by
 have ZQ:=hid (h.kf bb rfl);have HC:=hid hc;have HP:=hid (abj h eu bu hgn fG ho);have HD:=hid (λ(w1:World) (tb g sb dm:Nat) (own':Nat->Prop) (hh:Half W w (λi=>i=bb) b r ro N ag s w1 tb g sb dm own')=>UW hh eu bu hgn fG ho);have pO:=hid hgr;have c0:w.cell? ⟨bb,0,none⟩=some (.pointer (some ⟨b,0,none⟩)):=by rw [hc.cell]; rfl
 clear h hc eu bu hgn fG ho hgr;go_enter Tryz.func46,Tryz.ntmps46;go_wp2_with fail;refine HP.out.mono ?_;rintro e w1 ⟨tb,g,sb,dm,own',rfl,hh⟩;have HD1:=hid (HD.out _ _ _ _ _ _ hh);have l9:=hid (aj HC.out (hh.2.2.2.2.2.1 bb rfl));have c1:w1.cell? ⟨bb,1,none⟩=some (.pointer (some ⟨r,0,none⟩)):=by rw [l9.out.cell]; rfl
 clear hh HP HD c0;go_wp2_with fail;refine HD1.out.mono ?_;rintro e w2 ⟨rg,q,ro',rfl,hpre,hk2,hs2⟩;have mo:=hid (aj HC.out (hk2 bb rfl));have Hu:=hid hpre;have f2:=mo.out.frozen 2; have f3:=mo.out.frozen 3;have y2:w2.cell? ⟨bb,2,none⟩=some v2:=by rw [mo.out.cell]; rfl
 have y3:w2.cell? ⟨bb,3,none⟩=some v3:=by rw [mo.out.cell]; rfl
 have hbl:bb < w2.heap.size:=mo.out.lt;clear hpre hk2 hs2 HD1 l9 c1;have hg3:=akd (akd (akr w2 (some bb)) 2 (.pointer (some ⟨sb,0,none⟩))) 3 (.pointer (some ⟨q,0,none⟩));have hb3:=(mo.out.aC 2 (.pointer (some ⟨sb,0,none⟩))).aC 3 (.pointer (some ⟨q,0,none⟩));have hs3:((w2.setCell ⟨bb,2,none⟩ (.pointer (some ⟨sb,0,none⟩))).setCell ⟨bb,3,none⟩ (.pointer (some ⟨q,0,none⟩))).heap.size=w2.heap.size:=by simp
 have HB3:=hid hb3; have aZ:=hid hg3; have uZ:=hid hs3;clear hg3 hb3 hs3;have mi:=hid (λwx=>IA (sb:=sb) wx 400);go_upto_region 8 with fail;clear f2 f3 y2 y3;generalize hw3:(w2.setCell ⟨bb,2,none⟩ (.pointer (some ⟨sb,0,none⟩))).setCell ⟨bb,3,none⟩ (.pointer (some ⟨q,0,none⟩))=w3 at *;clear hw3;have hga:=aj9 w3 (.cells #[.pointer (some ⟨sb,0,none⟩),.int .i64 400,.pointer none] 95) none
 have hb4:=HB3.out.grown hga (by simp);have f4:=hb4.frozen 4;have y4:(w3.alloc (.cells #[.pointer (some ⟨sb,0,none⟩),.int .i64 400,.pointer none] 95)).cell? ⟨bb,4,none⟩=some v4:=by rw [hb4.cell]; rfl
 have zy:=af.new w3 95 #[.pointer (some ⟨sb,0,none⟩),.int .i64 400,.pointer none];have hg5:=akd (aZ.out.trans (iy hga (some bb))) 4 (.pointer (some ⟨w3.heap.size,0,none⟩));have hb5:=hb4.aC 4 (.pointer (some ⟨w3.heap.size,0,none⟩));have hne:w3.heap.size≠bb:=by have:=uZ.out; omega
 have si:=zy.far (p:=⟨bb,4,none⟩) hne (.pointer (some ⟨w3.heap.size,0,none⟩));have hs5:((w3.alloc (.cells #[.pointer (some ⟨sb,0,none⟩),.int .i64 400,.pointer none] 95)).setCell ⟨bb,4,none⟩ (.pointer (some ⟨w3.heap.size,0,none⟩))).heap.size=w3.heap.size+1:=by simp
 have fP:=hid hg5; have gF:=hid hb5; have OA:=hid si; have oP:=hid hs5;clear hga hb4 zy hg5 hb5 si hs5 HB3 aZ;go_wp2_with fail;refine (mi.out _).mono ?_;rintro e w4 ⟨rfl,rfl⟩;go_upto_region 9 with fail;clear f4 y4 mi;generalize El:(w3.alloc (.cells #[.pointer (some ⟨sb,0,none⟩),.int .i64 400,.pointer none] 95)).setCell ⟨bb,4,none⟩ (.pointer (some ⟨w3.heap.size,0,none⟩))=w5 at *;clear El;generalize w3.heap.size=mb at *
 have hga:=aj9 w5 (.cells #[.pointer (some ⟨q,0,none⟩),.int .i64 400,.bool false,.int .i64 0,.int .i64 0] 41) none;have hb6:=gF.out.grown hga (by simp);have f5:=hb6.frozen 5;have y5:(w5.alloc (.cells #[.pointer (some ⟨q,0,none⟩),.int .i64 400,.bool false,.int .i64 0,.int .i64 0] 41)).cell? ⟨bb,5,none⟩=some v5:=by rw [hb6.cell]; rfl
 have J9:=af.new w5 41 #[.pointer (some ⟨q,0,none⟩),.int .i64 400,.bool false,.int .i64 0,.int .i64 0];have Nj:=OA.out.grown hga (by simp);have fZ:=akd (fP.out.trans (iy hga (some bb))) 5 (.pointer (some ⟨w5.heap.size,0,none⟩));have sD:=hb6.aC 5 (.pointer (some ⟨w5.heap.size,0,none⟩));have hne2:w5.heap.size≠bb:=by have:=uZ.out; have:=oP.out; omega
 have Qu:=J9.far (p:=⟨bb,5,none⟩) hne2 (.pointer (some ⟨w5.heap.size,0,none⟩));have Vu:=Nj.far (p:=⟨bb,5,none⟩) hne (.pointer (some ⟨w5.heap.size,0,none⟩));have y7:((w5.alloc (.cells #[.pointer (some ⟨q,0,none⟩),.int .i64 400,.bool false,.int .i64 0,.int .i64 0] 41)).setCell ⟨bb,5,none⟩ (.pointer (some ⟨w5.heap.size,0,none⟩))).cell? ⟨bb,4,none⟩=some (.pointer (some ⟨mb,0,none⟩)):=by rw [sD.cell]; rfl
 have pR:=hid (Hu.out.bo (mb:=mb) (nb:=w5.heap.size) (F0:=λi=>i=bb) (F1:=λi=>i=bb) (.aA fZ (λj e=>by cases e; rfl)) (λi e=>e) Vu Qu (by have:=uZ.out; omega) (by have:=uZ.out; have:=oP.out; omega) (by have:=oP.out; omega));have nu:=hid sD;clear hga hb6 J9 Nj fZ sD Qu Vu Hu gF fP OA;go_wp2_with fail;go_ret;exact ⟨rfl,pR.out.gr,ZQ.out.2.2.1,.inr ⟨_,_,s,none,pR.out,nu.out,pO.out⟩⟩
theorem Pp (h:Shut W w (λi=>i=bb) b own r ro N ag) {v2 v3 v4 v5:Value} (hc:af w bb 43 #[.pointer (some ⟨b,0,none⟩),.pointer (some ⟨r,0,none⟩),v2,v3,v4,v5])
 (hn2:2<=N) {M:Nat} (hl:Two (dw M) (plain N ag)) (hM:M < 1099511627776) :
 Calls Tryz.prog 46 #[.pointer (some ⟨bb,0,none⟩)] w λe w'=>e=.returned (.bool true)/\Live W bb (M+1) 1025 w':=by
 cases hb:gI N ag with
 | none =>
   obtain ⟨z,hP,hD⟩:=Qh h hn2 (.inl hb);exact JP h hc hP hD _ _
 | some t =>
   obtain ⟨x,rfl,bu⟩:=aaP hb;obtain ⟨hg,he⟩:=NY hl hb
   cases ho:(iC N ag x).2.1 with
   | none =>
     obtain ⟨z,hP,hD⟩:=Qh h hn2 (.inr ⟨x,hb,bu,by omega,by omega,ho⟩);exact JP h hc hP hD _ _
   | some s =>
     exact RI h hc hb bu (by omega) (by omega) ho ⟨(MQ hl hb bu).2 s ho,(Lv N ag x).2 s ho⟩
end
def K2 (bb xb:Nat):Nat->Prop:=λi=>i=bb\/i=xb
structure vQ (W w:World) (bb xb:Nat) (L:BL) (xs:Array Value) (M:BM) (s t:Sto) (tg tu:Option (Int × Int)):Prop where
 bo:Bo W w (K2 bb xb) L M s t tg tu
 c:af w bb 43 L.cs
 x:af w xb 47 xs
section
variable {W w w':World} {bb xb:Nat} {L:BL} {xs:Array Value} {M M':BM} {s s' t t':Sto} {tg je tu FU:Option (Int × Int)} {m V:Nat}
theorem vQ.to (h:vQ W w bb xb L xs M s t tg tu) (hb:Bo W w' (K2 bb xb) L M' s' t' je FU) (hk:∀ i,K2 bb xb i->w'.heap[i]?=w.heap[i]?):vQ W w' bb xb L xs M' s' t' je FU :=
 ⟨hb,aj h.c (hk bb (.inl rfl)),aj h.x (hk xb (.inr rfl))⟩
theorem vQ.quiet (h:vQ W w bb xb L xs M s t tg tu) (hg:w.grownBy w' none):vQ W w' bb xb L xs M s t tg tu:=⟨h.bo.quiet hg,h.c.grown hg (by simp),h.x.grown hg (by simp)⟩
theorem vQ.live (h:vQ W w bb xb L xs M s s tg tg) (hg:iB m V s):Live W bb m V w :=
 ⟨h.bo.gr,(h.bo.kf bb (.inl rfl)).2.2.2.1,.inr ⟨L,M,s,tg,h.bo.more (akr w none) (λi hi=>.inl (.inl hi)),h.c,hg⟩⟩
theorem oZ (h:Bo W w (λi=>i=bb) L M s t tg tu) (hc:af w bb 43 L.cs) (xs:Array Value):vQ W (w.alloc (.cells xs 47)) bb w.heap.size L xs M s t tg tu:=by
 have hga:=aj9 w (.cells xs 47) none;refine ⟨h.more hga (λi hi=>hi.imp id (λe=>?_)),hc.grown hga (by simp),af.new w _ _⟩;subst e;exact ⟨akf _,by simp⟩
theorem Yx (h:Bo W w (λi=>i=bb) L M s s tg tg) (hc:af w bb 43 L.cs) (hg:iB m V s) (hv:V<=549755000000) {xs xl xp xf:Int} {lf:Bool} {A:Option Addr} {n c:Nat} :
 Calls Tryz.prog 10 #[.pointer (some ⟨bb,0,none⟩),.agg #[.int .i64 0,.int .i64 xs,.int .i64 xl,.int .i64 xp,.int .i64 xf,.bool lf,.slice A n c]] w λe w'=>e=.returned (.bool true)/\Live W bb (m+1) (V+1189) w':=by
 have H0:=hid (oZ h hc #[.int .i64 0,.int .i64 xs,.int .i64 xl,.int .i64 xp,.int .i64 xf,.bool lf,.slice A n c]);have HG:=hid hg;have HV:=hid hv;obtain ⟨R,hR⟩:∃ R,qK s 400 tg (xs,xl)=R:=⟨_,rfl⟩;have HR:=hid hR;obtain ⟨z,u⟩:=R;have hzz:(z == z)=true:=by simp
 clear hR;have x0:(w.alloc (.cells #[.int .i64 0,.int .i64 xs,.int .i64 xl,.int .i64 xp,.int .i64 xf,.bool lf,.slice A n c] 47)).cell? ⟨w.heap.size,0,none⟩=some (.int .i64 0):=by rw [H0.out.x.cell]; rfl
 clear h hc hg hv;go_enter Tryz.func10,Tryz.ntmps10;go_upto_region 3 with fail;clear x0;generalize hw1:w.alloc (.cells #[.int .i64 0,.int .i64 xs,.int .i64 xl,.int .i64 xp,.int .i64 xf,.bool lf,.slice A n c] 47)=w1 at *;clear hw1;generalize hxb:w.heap.size=xb at *;clear hxb;have HD0:=hid (ah w1 none);have H1:=hid (H0.out.quiet HD0.out);have av:=hid (λ(wx:World) (M:BM) (s t:Sto) (tg tu:Option (Int × Int)) (h:vQ W wx bb xb L #[.int .i64 0,.int .i64 xs,.int .i64 xl,.int .i64 xp,.int .i64 xf,.bool lf,.slice A n c] M s t tg tu)=>(show wx.cell? ⟨bb,4,none⟩=some (.pointer (some ⟨L.mb,0,none⟩))/\wx.cell? ⟨bb,5,none⟩=some (.pointer (some ⟨L.nb,0,none⟩))/\wx.cell? ⟨xb,1,none⟩=some (.int .i64 xs)/\wx.cell? ⟨xb,2,none⟩=some (.int .i64 xl) from ⟨by rw [h.c.cell]; rfl,by rw [h.c.cell]; rfl,by rw [h.x.cell]; rfl,by rw [h.x.cell]; rfl⟩))
 have HP:=hid (show Calls Tryz.prog 20 #[.pointer (some ⟨L.mb,0,none⟩),.int .i64 xs,.int .i64 xl] w1.drew (lQ W w1.drew (K2 bb xb) L s s u tg z) from by have:=ad9 H1.out.bo xs xl; rw [HR.out] at this; exact this)
 go_region_held3 (λwx=>wx.cell? ⟨bb,4,none⟩=some (.pointer (some ⟨L.mb,0,none⟩))/\wx.cell? ⟨bb,5,none⟩=some (.pointer (some ⟨L.nb,0,none⟩))/\wx.cell? ⟨xb,1,none⟩=some (.int .i64 xs)/\wx.cell? ⟨xb,2,none⟩=some (.int .i64 xl))
  (first
    | exact av.out _ _ _ _ _ _ H1.out
    | exact av.out _ _ _ _ _ _ H3.out
    | exact av.out _ _ _ _ _ _ H4.out)
  (first
    | (go_at_call 20
       (with_reducible refine HP.out.mono ?_)
       rintro e w3 ⟨rfl,⟨M3,hb3⟩,hk3,hs3⟩;have H3:=hid (H1.out.to hb3 hk3);have vz:=hid (show Calls Tryz.prog 32 #[.pointer (some ⟨L.nb,0,none⟩),.int .i64 xs,.int .i64 xl] w3 (lQ W w3 (K2 bb xb) L s s u u z) from by have:=aek hb3 xs xl; rw [HR.out] at this; exact this);clear hb3 hk3 hs3)
    | (go_at_call 32
       (with_reducible refine vz.out.mono ?_)
       rintro e w4 ⟨rfl,⟨M4,hb4⟩,hk4,hs4⟩;have H4:=hid (H3.out.to hb4 hk4);clear hb4 hk4 hs4))
 go_wp2_with fail;go_ret;exact ⟨by first | rfl | simp,H4.out.live (HG.out.mono (by omega) (by omega))⟩
theorem VZ (h:Bo W w (λi=>i=bb) L M s s tg tg) (hc:af w bb 43 L.cs) (hg:iB m V s) (hv:V<=549755000000) {xs xl xp xf:Int} {lf:Bool} {A:Option Addr} {n c:Nat} :
 Calls Tryz.prog 10 #[.pointer (some ⟨bb,0,none⟩),.agg #[.int .i64 4,.int .i64 xs,.int .i64 xl,.int .i64 xp,.int .i64 xf,.bool lf,.slice A n c]] w λe w'=>e=.returned (.bool true)/\Live W bb (m+1) (V+1189) w':=by
 have H0:=hid (oZ h hc #[.int .i64 4,.int .i64 xs,.int .i64 xl,.int .i64 xp,.int .i64 xf,.bool lf,.slice A n c]);have HG:=hid hg;have HV:=hid hv;obtain ⟨R,hR⟩:∃ R,kH s=R:=⟨_,rfl⟩;have HR:=hid hR;obtain ⟨z,u⟩:=R;have hzz:(z == z)=true:=by simp
 clear hR;have x0:(w.alloc (.cells #[.int .i64 4,.int .i64 xs,.int .i64 xl,.int .i64 xp,.int .i64 xf,.bool lf,.slice A n c] 47)).cell? ⟨w.heap.size,0,none⟩=some (.int .i64 4):=by rw [H0.out.x.cell]; rfl
 clear h hc hg hv;go_enter Tryz.func10,Tryz.ntmps10;go_upto_region 16 with fail;clear x0;generalize hw1:w.alloc (.cells #[.int .i64 4,.int .i64 xs,.int .i64 xl,.int .i64 xp,.int .i64 xf,.bool lf,.slice A n c] 47)=w1 at *;clear hw1;generalize hxb:w.heap.size=xb at *;clear hxb;have HD0:=hid (ah w1 none);have H1:=hid (H0.out.quiet HD0.out);have av:=hid (λ(wx:World) (M:BM) (s t:Sto) (tg tu:Option (Int × Int)) (h:vQ W wx bb xb L #[.int .i64 4,.int .i64 xs,.int .i64 xl,.int .i64 xp,.int .i64 xf,.bool lf,.slice A n c] M s t tg tu)=>(show wx.cell? ⟨bb,2,none⟩=some (.pointer (some ⟨L.sb,0,none⟩))/\wx.cell? ⟨bb,3,none⟩=some (.pointer (some ⟨L.q,0,none⟩)) from ⟨by rw [h.c.cell]; rfl,by rw [h.c.cell]; rfl⟩))
 have HP:=hid (show Calls Tryz.prog 38 #[.pointer (some ⟨L.sb,0,none⟩)] w1.drew (lQ W w1.drew (K2 bb xb) L u s tg tg z) from by have:=abd H1.out.bo ; rw [HR.out] at this; exact this)
 go_region_held3 (λwx=>wx.cell? ⟨bb,2,none⟩=some (.pointer (some ⟨L.sb,0,none⟩))/\wx.cell? ⟨bb,3,none⟩=some (.pointer (some ⟨L.q,0,none⟩)))
  (first
    | exact av.out _ _ _ _ _ _ H1.out
    | exact av.out _ _ _ _ _ _ H3.out
    | exact av.out _ _ _ _ _ _ H4.out)
  (first
    | (go_at_call 38
       (with_reducible refine HP.out.mono ?_)
       rintro e w3 ⟨rfl,⟨M3,hb3⟩,hk3,hs3⟩;have H3:=hid (H1.out.to hb3 hk3);have vz:=hid (show Calls Tryz.prog 39 #[.pointer (some ⟨L.q,0,none⟩)] w3 (lQ W w3 (K2 bb xb) L u u tg tg z) from by have:=acF hb3 ; rw [HR.out] at this; exact this);clear hb3 hk3 hs3)
    | (go_at_call 39
       (with_reducible refine vz.out.mono ?_)
       rintro e w4 ⟨rfl,⟨M4,hb4⟩,hk4,hs4⟩;have H4:=hid (H3.out.to hb4 hk4);clear hb4 hk4 hs4))
 go_wp2_with fail;go_ret;exact ⟨by first | rfl | simp,H4.out.live (by have:=HG.out.sync; rw [HR.out] at this; exact this.mono (by omega) (by omega))⟩
theorem V4 (h:Bo W w (λi=>i=bb) L M s s tg tg) (hc:af w bb 43 L.cs) (hg:iB m V s) (hv:V<=549755000000) {xs xl xp xf:Int} {lf:Bool} {A:Option Addr} {n c:Nat} :
 Calls Tryz.prog 10 #[.pointer (some ⟨bb,0,none⟩),.agg #[.int .i64 5,.int .i64 xs,.int .i64 xl,.int .i64 xp,.int .i64 xf,.bool lf,.slice A n c]] w λe w'=>e=.returned (.bool true)/\Live W bb (m+1) (V+1189) w':=by
 have H0:=hid (oZ h hc #[.int .i64 5,.int .i64 xs,.int .i64 xl,.int .i64 xp,.int .i64 xf,.bool lf,.slice A n c]);have HG:=hid hg;have HV:=hid hv;obtain ⟨R,hR⟩:∃ R,kU s.S xs xl=R:=⟨_,rfl⟩;have HR:=hid hR;obtain ⟨z,u⟩:=R;have hzz:(z == z)=true:=by simp
 clear hR;have x0:(w.alloc (.cells #[.int .i64 5,.int .i64 xs,.int .i64 xl,.int .i64 xp,.int .i64 xf,.bool lf,.slice A n c] 47)).cell? ⟨w.heap.size,0,none⟩=some (.int .i64 5):=by rw [H0.out.x.cell]; rfl
 clear h hc hg hv;go_enter Tryz.func10,Tryz.ntmps10;go_upto_region 18 with fail;clear x0;generalize hw1:w.alloc (.cells #[.int .i64 5,.int .i64 xs,.int .i64 xl,.int .i64 xp,.int .i64 xf,.bool lf,.slice A n c] 47)=w1 at *;clear hw1;generalize hxb:w.heap.size=xb at *;clear hxb;have HD0:=hid (ah w1 none);have H1:=hid (H0.out.quiet HD0.out);have av:=hid (λ(wx:World) (M:BM) (s t:Sto) (tg tu:Option (Int × Int)) (h:vQ W wx bb xb L #[.int .i64 5,.int .i64 xs,.int .i64 xl,.int .i64 xp,.int .i64 xf,.bool lf,.slice A n c] M s t tg tu)=>(show wx.cell? ⟨bb,0,none⟩=some (.pointer (some ⟨L.b,0,none⟩))/\wx.cell? ⟨bb,1,none⟩=some (.pointer (some ⟨L.r,0,none⟩))/\wx.cell? ⟨xb,1,none⟩=some (.int .i64 xs)/\wx.cell? ⟨xb,2,none⟩=some (.int .i64 xl) from ⟨by rw [h.c.cell]; rfl,by rw [h.c.cell]; rfl,by rw [h.x.cell]; rfl,by rw [h.x.cell]; rfl⟩))
 have HP:=hid (show Calls Tryz.prog 40 #[.pointer (some ⟨L.b,0,none⟩),.int .i64 xs,.int .i64 xl] w1.drew (lQ W w1.drew (K2 bb xb) L (s.disk u) s tg tg z) from by have:=abf H1.out.bo xs xl; rw [HR.out] at this; exact this)
 go_region_held3 (λwx=>wx.cell? ⟨bb,0,none⟩=some (.pointer (some ⟨L.b,0,none⟩))/\wx.cell? ⟨bb,1,none⟩=some (.pointer (some ⟨L.r,0,none⟩))/\wx.cell? ⟨xb,1,none⟩=some (.int .i64 xs)/\wx.cell? ⟨xb,2,none⟩=some (.int .i64 xl))
  (first
    | exact av.out _ _ _ _ _ _ H1.out
    | exact av.out _ _ _ _ _ _ H3.out
    | exact av.out _ _ _ _ _ _ H4.out)
  (first
    | (go_at_call 40
       (with_reducible refine HP.out.mono ?_)
       rintro e w3 ⟨rfl,⟨M3,hb3⟩,hk3,hs3⟩;have H3:=hid (H1.out.to hb3 hk3);have vz:=hid (show Calls Tryz.prog 41 #[.pointer (some ⟨L.r,0,none⟩),.int .i64 xs,.int .i64 xl] w3 (lQ W w3 (K2 bb xb) L (s.disk u) (s.disk u) tg tg z) from by have:=acH hb3 xs xl; rw [HR.out] at this; exact this);clear hb3 hk3 hs3)
    | (go_at_call 41
       (with_reducible refine vz.out.mono ?_)
       rintro e w4 ⟨rfl,⟨M4,hb4⟩,hk4,hs4⟩;have H4:=hid (H3.out.to hb4 hk4);clear hb4 hk4 hs4))
 go_wp2_with fail;go_ret;exact ⟨by first | rfl | simp,H4.out.live (by have:=HG.out.fail xs xl; rw [HR.out] at this; exact this.mono (by omega) (by omega))⟩
theorem Yw (h:Bo W w (λi=>i=bb) L M s s tg tg) (hc:af w bb 43 L.cs) (hg:iB m V s) (hv:V<=549755000000) {xs xl xp xf:Int} {lf:Bool} {A:Option Addr} {n c:Nat} :
 Calls Tryz.prog 10 #[.pointer (some ⟨bb,0,none⟩),.agg #[.int .i64 6,.int .i64 xs,.int .i64 xl,.int .i64 xp,.int .i64 xf,.bool lf,.slice A n c]] w λe w'=>e=.returned (.bool true)/\Live W bb (m+1) (V+1189) w':=by
 have H0:=hid (oZ h hc #[.int .i64 6,.int .i64 xs,.int .i64 xl,.int .i64 xp,.int .i64 xf,.bool lf,.slice A n c]);have HG:=hid hg;have HV:=hid hv;obtain ⟨R,hR⟩:∃ R,oI s.S xl=R:=⟨_,rfl⟩;have HR:=hid hR;obtain ⟨z,u⟩:=R;have hzz:(z == z)=true:=by simp
 clear hR;have x0:(w.alloc (.cells #[.int .i64 6,.int .i64 xs,.int .i64 xl,.int .i64 xp,.int .i64 xf,.bool lf,.slice A n c] 47)).cell? ⟨w.heap.size,0,none⟩=some (.int .i64 6):=by rw [H0.out.x.cell]; rfl
 clear h hc hg hv;go_enter Tryz.func10,Tryz.ntmps10;go_upto_region 20 with fail;clear x0;generalize hw1:w.alloc (.cells #[.int .i64 6,.int .i64 xs,.int .i64 xl,.int .i64 xp,.int .i64 xf,.bool lf,.slice A n c] 47)=w1 at *;clear hw1;generalize hxb:w.heap.size=xb at *;clear hxb;have HD0:=hid (ah w1 none);have H1:=hid (H0.out.quiet HD0.out);have av:=hid (λ(wx:World) (M:BM) (s t:Sto) (tg tu:Option (Int × Int)) (h:vQ W wx bb xb L #[.int .i64 6,.int .i64 xs,.int .i64 xl,.int .i64 xp,.int .i64 xf,.bool lf,.slice A n c] M s t tg tu)=>(show wx.cell? ⟨bb,0,none⟩=some (.pointer (some ⟨L.b,0,none⟩))/\wx.cell? ⟨bb,1,none⟩=some (.pointer (some ⟨L.r,0,none⟩))/\wx.cell? ⟨xb,2,none⟩=some (.int .i64 xl) from ⟨by rw [h.c.cell]; rfl,by rw [h.c.cell]; rfl,by rw [h.x.cell]; rfl⟩))
 have HP:=hid (show Calls Tryz.prog 42 #[.pointer (some ⟨L.b,0,none⟩),.int .i64 xl] w1.drew (lQ W w1.drew (K2 bb xb) L (s.disk u) s tg tg z) from by have:=ad8 H1.out.bo xl; rw [HR.out] at this; exact this)
 go_region_held3 (λwx=>wx.cell? ⟨bb,0,none⟩=some (.pointer (some ⟨L.b,0,none⟩))/\wx.cell? ⟨bb,1,none⟩=some (.pointer (some ⟨L.r,0,none⟩))/\wx.cell? ⟨xb,2,none⟩=some (.int .i64 xl))
  (first
    | exact av.out _ _ _ _ _ _ H1.out
    | exact av.out _ _ _ _ _ _ H3.out
    | exact av.out _ _ _ _ _ _ H4.out)
  (first
    | (go_at_call 42
       (with_reducible refine HP.out.mono ?_)
       rintro e w3 ⟨rfl,⟨M3,hb3⟩,hk3,hs3⟩;have H3:=hid (H1.out.to hb3 hk3);have vz:=hid (show Calls Tryz.prog 43 #[.pointer (some ⟨L.r,0,none⟩),.int .i64 xl] w3 (lQ W w3 (K2 bb xb) L (s.disk u) (s.disk u) tg tg z) from by have:=aej hb3 xl; rw [HR.out] at this; exact this);clear hb3 hk3 hs3)
    | (go_at_call 43
       (with_reducible refine vz.out.mono ?_)
       rintro e w4 ⟨rfl,⟨M4,hb4⟩,hk4,hs4⟩;have H4:=hid (H3.out.to hb4 hk4);clear hb4 hk4 hs4))
 go_wp2_with fail;go_ret;exact ⟨by first | rfl | simp,H4.out.live (by have:=HG.out.cut xl; rw [HR.out] at this; exact this.mono (by omega) (by omega))⟩
theorem V3 (h:Bo W w (λi=>i=bb) L M s s tg tg) (hc:af w bb 43 L.cs) (hg:iB m V s) (hv:V<=549755000000) {xs xl xp xf:Int} {lf:Bool} {A:Option Addr} {n c:Nat} :
 Calls Tryz.prog 10 #[.pointer (some ⟨bb,0,none⟩),.agg #[.int .i64 1,.int .i64 xs,.int .i64 xl,.int .i64 xp,.int .i64 xf,.bool lf,.slice A n c]] w λe w'=>e=.returned (.bool true)/\Live W bb (m+1) (V+1189) w':=by
 have H0:=hid (oZ h hc #[.int .i64 1,.int .i64 xs,.int .i64 xl,.int .i64 xp,.int .i64 xf,.bool lf,.slice A n c]);have HG:=hid hg;have HV:=hid hv;have HP:=hid (abe H0.out.bo (λi=>hg.room hv i));have x0:(w.alloc (.cells #[.int .i64 1,.int .i64 xs,.int .i64 xl,.int .i64 xp,.int .i64 xf,.bool lf,.slice A n c] 47)).cell? ⟨w.heap.size,0,none⟩=some (.int .i64 1):=by rw [H0.out.x.cell]; rfl
 clear h hc hg hv;go_enter Tryz.func10,Tryz.ntmps10;go_upto_region 5 with fail;clear x0;generalize hw1:w.alloc (.cells #[.int .i64 1,.int .i64 xs,.int .i64 xl,.int .i64 xp,.int .i64 xf,.bool lf,.slice A n c] 47)=w1 at *;clear hw1;generalize hxb:w.heap.size=xb at *;clear hxb;have c4:w1.cell? ⟨bb,4,none⟩=some (.pointer (some ⟨L.mb,0,none⟩)):=by rw [H0.out.c.cell]; rfl
 go_wp2_with fail;refine HP.out.mono ?_;rintro e w3 ⟨dn,er,s',je,rfl,hs,⟨M3,hb3⟩,hk3,hs3⟩;have H3:=hid (H0.out.to hb3 hk3);have HS:=hid hs;have vz:=hid (acG hb3 (λi=>HG.out.room HV.out i));have c5:w3.cell? ⟨bb,5,none⟩=some (.pointer (some ⟨L.nb,0,none⟩)):=by rw [H3.out.c.cell]; rfl
 clear hb3 hk3 hs3 hs HP c4;go_wp2_with fail;refine vz.out.mono ?_;rintro e w4 ⟨dn2,er2,s2,tg2,rfl,hs2,⟨M4,hb4⟩,hk4,hs4⟩;obtain ⟨rfl,rfl,rfl,rfl⟩:=HS.out.det hs2;have H4:=hid (H3.out.to hb4 hk4);have hzz:(er == er)=true:=by simp
 have hdd:(dn == dn)=true:=by simp
 clear hb4 hk4 hs4 hs2 vz c5;go_wp2_with fail;go_ret;exact ⟨by first | rfl | simp,H4.out.live (HG.out.step HS.out)⟩
theorem PQ (h:Bo W w (λi=>i=bb) L M s s tg tg) (hc:af w bb 43 L.cs) (hg:iB m V s) (hv:V<=549755000000) {xs xl xp xf:Int} {lf:Bool} {A:Option Addr} {n c:Nat} :
 Calls Tryz.prog 10 #[.pointer (some ⟨bb,0,none⟩),.agg #[.int .i64 2,.int .i64 xs,.int .i64 xl,.int .i64 xp,.int .i64 xf,.bool lf,.slice A n c]] w λe w'=>e=.returned (.bool true)/\Live W bb (m+1) (V+1189) w':=by
 have H0:=hid (oZ h hc #[.int .i64 2,.int .i64 xs,.int .i64 xl,.int .i64 xp,.int .i64 xf,.bool lf,.slice A n c]);have HG:=hid hg;have HV:=hid hv;have HP:=hid (XD H0.out.bo);have x0:(w.alloc (.cells #[.int .i64 2,.int .i64 xs,.int .i64 xl,.int .i64 xp,.int .i64 xf,.bool lf,.slice A n c] 47)).cell? ⟨w.heap.size,0,none⟩=some (.int .i64 2):=by rw [H0.out.x.cell]; rfl
 clear h hc hg hv;go_enter Tryz.func10,Tryz.ntmps10;go_upto_region 9 with fail;clear x0;generalize hw1:w.alloc (.cells #[.int .i64 2,.int .i64 xs,.int .i64 xl,.int .i64 xp,.int .i64 xf,.bool lf,.slice A n c] 47)=w1 at *;clear hw1;generalize hxb:w.heap.size=xb at *;clear hxb;have c4:w1.cell? ⟨bb,4,none⟩=some (.pointer (some ⟨L.mb,0,none⟩)):=by rw [H0.out.c.cell]; rfl
 go_wp2_with fail;refine HP.out.mono ?_;rintro e w3 ⟨rfl,⟨M3,hb3⟩,hk3,hs3⟩;have H3:=hid (H0.out.to hb3 hk3);obtain ⟨n2,fn,⟨M4,hb4⟩,hk4⟩:=hb3.given;have H4:=hid (H3.out.to hb4 hk4);have c5:w3.cell? ⟨bb,5,none⟩=some (.pointer (some ⟨L.nb,0,none⟩)):=by rw [H3.out.c.cell]; rfl
 clear hb3 hk3 hs3 hb4 hk4 HP c4;go_wp2_with fail;go_ret;exact ⟨by first | rfl | simp,H4.out.live (HG.out.mono (by omega) (by omega))⟩
theorem V5 (h:Bo W w (λi=>i=bb) L M s s tg tg) (hc:af w bb 43 L.cs) (hg:iB m V s) (hv:V<=549755000000) {xs xl xp xf:Int} {lf:Bool} {A:Option Addr} {n c:Nat} {xk:Int} (hk:xk≠0/\xk≠1/\xk≠2/\xk≠3/\xk≠4/\xk≠5/\xk≠6/\xk≠7) :
 Calls Tryz.prog 10 #[.pointer (some ⟨bb,0,none⟩),.agg #[.int .i64 xk,.int .i64 xs,.int .i64 xl,.int .i64 xp,.int .i64 xf,.bool lf,.slice A n c]] w λe w'=>e=.returned (.bool true)/\Live W bb (m+1) (V+1189) w':=by
 have H0:=hid (oZ h hc #[.int .i64 xk,.int .i64 xs,.int .i64 xl,.int .i64 xp,.int .i64 xf,.bool lf,.slice A n c]);have HG:=hid hg;have HV:=hid hv;obtain ⟨k0,k1,k2,k3,k4,k5,k6,k7⟩:=hk;have x0:(w.alloc (.cells #[.int .i64 xk,.int .i64 xs,.int .i64 xl,.int .i64 xp,.int .i64 xf,.bool lf,.slice A n c] 47)).cell? ⟨w.heap.size,0,none⟩=some (.int .i64 xk):=by rw [H0.out.x.cell]; rfl
 clear h hc hg hv;go_enter Tryz.func10,Tryz.ntmps10;go_wp2_with fail;go_ret;exact ⟨rfl,H0.out.live (HG.out.mono (by omega) (by omega))⟩
theorem Live.mono {m' V':Nat} (h:Live W bb m V w) (h1:m<=m') (h2:V<=V'):Live W bb m' V' w:=by
 obtain ⟨a,b,c⟩:=h;refine ⟨a,b,c.imp id ?_⟩;rintro ⟨L,M',s,tg,c,d,e⟩;exact ⟨L,M',s,tg,c,d,e.mono h1 h2⟩
structure Mid (W w:World) (K:Nat->Prop) (L:BL) (M:BM) (S:St) (l:List Int):Prop where
 gr:W.grownBy w none
 p:dU w W.heap.size L.b (S.gm l) M.own
 d:bX w W.heap.size L.r S M.ro
 ap:∀ i,M.own i->¬ M.ro i
 kf:∀ i,K i->¬ M.own i/\¬ M.ro i/\W.heap.size<=i/\i < w.heap.size
theorem Mid.quiet {K:Nat->Prop} {S:St} {l:List Int} (h:Mid W w K L M S l) (hg:w.grownBy w' none):Mid W w' K L M S l:=by
 refine ⟨h.gr.trans hg,?_,eH h.d hg (λ_ e=>by cases e),h.ap,λi hi=>?_⟩
 · obtain ⟨bd,bm,f,hl⟩:=h.p;exact ⟨bd,bm,f,hl.keep hg.size (λi hi=>hg.block i (hl.lt i hi) (by simp))⟩
 · obtain ⟨a,b,c,d⟩:=h.kf i hi;exact ⟨a,b,c,ake d hg.size⟩
theorem abt {K:Nat->Prop} {l:List Int} {w1:World} (h:Bo W w K L M s s tg tg) (hd:dU w1 W.heap.size L.b (s.S.gm l) M.own) (ht:aa w w1 M.own M.own):Mid W w1 K L M s.S l/\∀ i,K i->w1.heap[i]?=w.heap[i]?:=by
 have hdl:∀ i,M.own i->PF L M i:=λi hi=>.inl (.inl (.inl hi))
 have hrl:∀ i,M.ro i->DF L M i:=λi hi=>.inl hi
 refine ⟨⟨dX h.gr ht (λi hi=>h.p.il (hdl i hi)),hd,Du h.rat ht (λi hi e=>(h.rz (hrl i hi)).1 (hdl i e)),λi hi e=>(h.rz (hrl i e)).1 (hdl i hi),λi hi=>?_⟩,λi hi=>ht.block i (h.kf i hi).2.2.2.2 (λe=>(h.kf i hi).1 (hdl i e))⟩;obtain ⟨a,b,c,d,e⟩:=h.kf i hi;exact ⟨λe=>a (hdl i e),λe=>(h.rz (hrl i e)).2.2.2 hi,d,ake e ht.size⟩
theorem Z9 {K K':Nat->Prop} {l:List Int} {S:St} {w2:World} (h:Mid W w K L M S l) (hd:bX w2 W.heap.size L.r (S.gm l) M.ro) (ht:aa w w2 M.ro M.ro) (hK:∀ i,K' i->K i):Shut W w2 K' L.b M.own L.r M.ro S.n (S.gm l).ag/\∀ i,K i->w2.heap[i]?=w.heap[i]?:=by
 refine ⟨⟨dX h.gr ht (λi hi=>BX h.d hi),?_,hd,h.ap,λi hi=>?_⟩,λi hi=>ht.block i (h.kf i hi).2.2.2 (h.kf i hi).2.1⟩
 · obtain ⟨bd,bm,f,hl⟩:=h.p;exact ⟨bd,bm,f,hl.keep ht.size (λi hi=>ht.block i (hl.lt i hi) (h.ap i hi))⟩
 · obtain ⟨a,b,c,d⟩:=h.kf i (hK i hi);exact ⟨a,b,c,ake d ht.size⟩
theorem SH (h:Bo W w (λi=>i=bb) L M s s tg tg) (hc:af w bb 43 L.cs) (hg:iB m V s) (hv:V<=549755000000) (hm:m < 1099511627776) {xs xl xp xf:Int} {lf:Bool} {A:Option Addr} {n c:Nat} {l:List Int} (hp:QK W A n l) (hn:n<=maxLen) :
 Calls Tryz.prog 10 #[.pointer (some ⟨bb,0,none⟩),.agg #[.int .i64 7,.int .i64 xs,.int .i64 xl,.int .i64 xp,.int .i64 xf,.bool lf,.slice A n c]] w λe w'=>e=.returned (.bool true)/\Live W bb (m+1) (V+1189) w':=by
 have H0:=hid (oZ h hc #[.int .i64 7,.int .i64 xs,.int .i64 xl,.int .i64 xp,.int .i64 xf,.bool lf,.slice A n c]);have HG:=hid hg;have HN:=hid (show 2<=s.S.n from by have:=Gy rfl h.p.may; omega);have HPI:=hid hp;have hnm:n<=9223372036854775807:=by have:maxLen=9223372036854775807:=rfl; omega
 have HM:=hid hm;have HV:=hid hv;have x0:(w.alloc (.cells #[.int .i64 7,.int .i64 xs,.int .i64 xl,.int .i64 xp,.int .i64 xf,.bool lf,.slice A n c] 47)).cell? ⟨w.heap.size,0,none⟩=some (.int .i64 7):=by rw [H0.out.x.cell]; rfl
 clear h hc hg hv hp hn hm;go_enter Tryz.func10,Tryz.ntmps10;go_upto_region 22 with fail;clear x0;generalize hw1:w.alloc (.cells #[.int .i64 7,.int .i64 xs,.int .i64 xl,.int .i64 xp,.int .i64 xf,.bool lf,.slice A n c] 47)=w1 at *;clear hw1;generalize hxb:w.heap.size=xb at *;clear hxb;have HD0:=hid (ah w1 none);have H1:=hid (H0.out.quiet HD0.out);have ve:=hid (λ(wx:World) (hg:W.grownBy wx none) (own:Nat->Prop) (ho:∀ i,own i->W.heap.size<=i)=>(HPI.out.picks (own:=own) (uf hg (akf _) (by simp)) ho))
 have HP:=hid (Jb H1.out.bo.p.l.s.d A n c l (ve.out _ H1.out.bo.gr _ (λi hi=>H1.out.bo.p.il (.inl (.inl (.inl hi))))) hnm (λi=>by have:=HG.out.room HV.out i; omega));have KA:=hid (show w1.drew.cell? ⟨bb,0,none⟩=some (.pointer (some ⟨L.b,0,none⟩))/\w1.drew.cell? ⟨xb,6,none⟩=some (.slice A n c) from ⟨by rw [H1.out.c.cell]; rfl,by rw [H1.out.x.cell]; rfl⟩)
 go_region_held3 (λwx=>wx.cell? ⟨bb,0,none⟩=some (.pointer (some ⟨L.b,0,none⟩))/\wx.cell? ⟨xb,6,none⟩=some (.slice A n c))
  (first
    | exact KA.out
    | exact uZ.out)
  (first
    | (go_at_call 44
       (with_reducible refine HP.out.mono ?_)
       rintro e w3 ⟨rfl,hd3,ht3⟩;have hmid:=abt H1.out.bo hd3 ht3;have ag1:=hid hmid.1;have pQ:=hid (aj H1.out.c (hmid.2 bb (.inl rfl)));have mZ:=hid (aj H1.out.x (hmid.2 xb (.inr rfl)));have uZ:=hid (show w3.cell? ⟨bb,0,none⟩=some (.pointer (some ⟨L.b,0,none⟩))/\w3.cell? ⟨xb,6,none⟩=some (.slice A n c) from ⟨by rw [pQ.out.cell]; rfl,by rw [mZ.out.cell]; rfl⟩);clear hd3 ht3 hmid))
 clear HP KA;have vz:=hid (ah w3 none);have hmd:Mid W w3.drew (K2 bb xb) L M s.S l:=ag1.out.quiet vz.out;have HMD:=hid hmd;have yG:=hid (pQ.out.grown vz.out (by simp)); have mh:=hid (mZ.out.grown vz.out (by simp));have HQ:=hid (KZ hmd.d A n c l (ve.out _ hmd.gr _ (λi hi=>BX hmd.d hi)) hnm (λi=>by have:=HG.out.room HV.out i; omega));have zH:=hid (show w3.drew.cell? ⟨bb,1,none⟩=some (.pointer (some ⟨L.r,0,none⟩))/\w3.drew.cell? ⟨xb,6,none⟩=some (.slice A n c) from ⟨by rw [yG.out.cell]; rfl,by rw [mh.out.cell]; rfl⟩)
 clear hmd;go_wp2_with fail
 go_region_held3 (λwx=>wx.cell? ⟨bb,1,none⟩=some (.pointer (some ⟨L.r,0,none⟩))/\wx.cell? ⟨xb,6,none⟩=some (.slice A n c))
  (first
    | exact zH.out
    | exact oP.out)
  (first
    | (go_at_call 45
       (with_reducible refine HQ.out.mono ?_)
       rintro e w5 ⟨rfl,hd5,dL⟩;have hsh:=Z9 (K':=λi=>i=bb) HMD.out hd5 dL (λi e=>.inl e);have HSH:=hid hsh.1;have xP:=hid (aj yG.out (hsh.2 bb (.inl rfl)));have mg:=hid (aj mh.out (hsh.2 xb (.inr rfl)));have oP:=hid (show w5.cell? ⟨bb,1,none⟩=some (.pointer (some ⟨L.r,0,none⟩))/\w5.cell? ⟨xb,6,none⟩=some (.slice A n c) from ⟨by rw [xP.out.cell]; rfl,by rw [mg.out.cell]; rfl⟩);clear hd5 dL hsh))
 have Bi:=hid (Pp HSH.out xP.out HN.out (M:=m) (HG.out.l.two.gm l) HM.out);clear HQ zH;go_wp2_with fail;refine Bi.out.mono ?_;rintro e w6 ⟨rfl,hlv⟩;have EW:=hid (hlv.mono (m':=m+1) (V':=V+1189) (akf _) (by omega));clear hlv Bi;go_wp2_with fail;go_ret;exact ⟨rfl,EW.out⟩
theorem SG (h:Bo W w (λi=>i=bb) L M s s tg tg) (hc:af w bb 43 L.cs) (hg:iB m V s) (hv:V<=549755000000) {xs xl xp xf:Int} {lf:Bool} {A:Option Addr} {n c:Nat} :
 Calls Tryz.prog 10 #[.pointer (some ⟨bb,0,none⟩),.agg #[.int .i64 3,.int .i64 xs,.int .i64 xl,.int .i64 xp,.int .i64 xf,.bool lf,.slice A n c]] w λe w'=>e=.returned (.bool true)/\Live W bb (m+1) (V+1189) w':=by
 have H0:=hid (oZ h hc #[.int .i64 3,.int .i64 xs,.int .i64 xl,.int .i64 xp,.int .i64 xf,.bool lf,.slice A n c]);have HG:=hid hg;have HV:=hid hv;obtain ⟨R1,Cv⟩:∃ R,fH s=R:=⟨_,rfl⟩;have hg1:=hg.write xp (5,jy xf);rw [Cv] at hg1;have HR1:=hid Cv;obtain ⟨z1,u1⟩:=R1;replace hg1:iB m V (bQ u1 xp (5,jy xf)).2:=hg1;have hz1:(z1 == z1)=true:=by simp
 obtain ⟨R2,hR2⟩:∃ R,bQ u1 xp (5,jy xf)=R:=⟨_,rfl⟩;rw [hR2] at hg1;have HR2:=hid hR2;obtain ⟨z2,u2⟩:=R2;have az:=hid (show iB m V u2 from hg1);have hz2:(z2 == z2)=true:=by simp
 obtain ⟨R3,GL⟩:∃ R,dh u2=R:=⟨_,rfl⟩;have hg2:=iB.xD az.out;rw [GL] at hg2;have HR3:=hid GL;obtain ⟨z3,u3⟩:=R3;have HG2:=hid (show iB (m+1) (V+1189) u3 from hg2);have hz3:(z3 == z3)=true:=by simp
 have x0:(w.alloc (.cells #[.int .i64 3,.int .i64 xs,.int .i64 xl,.int .i64 xp,.int .i64 xf,.bool lf,.slice A n c] 47)).cell? ⟨w.heap.size,0,none⟩=some (.int .i64 3):=by rw [H0.out.x.cell]; rfl
 clear h hc hg hv Cv hR2 GL hg1 hg2;go_enter Tryz.func10,Tryz.ntmps10;go_upto_region 12 with fail;clear x0;generalize hw1:w.alloc (.cells #[.int .i64 3,.int .i64 xs,.int .i64 xl,.int .i64 xp,.int .i64 xf,.bool lf,.slice A n c] 47)=w1 at *;clear hw1;generalize hxb:w.heap.size=xb at *;clear hxb;have HD0:=hid (ah w1 none);have H1:=hid (H0.out.quiet HD0.out);have HKB:=hid (λ(wx:World) (M:BM) (s t:Sto) (tg tu:Option (Int × Int)) (h:vQ W wx bb xb L #[.int .i64 3,.int .i64 xs,.int .i64 xl,.int .i64 xp,.int .i64 xf,.bool lf,.slice A n c] M s t tg tu)=>(show wx.cell? ⟨bb,2,none⟩=some (.pointer (some ⟨L.sb,0,none⟩))/\wx.cell? ⟨bb,3,none⟩=some (.pointer (some ⟨L.q,0,none⟩)) from ⟨by rw [h.c.cell]; rfl,by rw [h.c.cell]; rfl⟩))
 have WM:=hid (λ(wx:World) (M:BM) (s t:Sto) (tg tu:Option (Int × Int)) (h:vQ W wx bb xb L #[.int .i64 3,.int .i64 xs,.int .i64 xl,.int .i64 xp,.int .i64 xf,.bool lf,.slice A n c] M s t tg tu)=>(show wx.cell? ⟨bb,2,none⟩=some (.pointer (some ⟨L.sb,0,none⟩))/\wx.cell? ⟨bb,3,none⟩=some (.pointer (some ⟨L.q,0,none⟩))/\wx.cell? ⟨xb,3,none⟩=some (.int .i64 xp)/\wx.cell? ⟨xb,4,none⟩=some (.int .i64 xf) from ⟨by rw [h.c.cell]; rfl,by rw [h.c.cell]; rfl,by rw [h.x.cell]; rfl,by rw [h.x.cell]; rfl⟩))
 have HKC:=hid (λ(wx:World) (M:BM) (s t:Sto) (tg tu:Option (Int × Int)) (h:vQ W wx bb xb L #[.int .i64 3,.int .i64 xs,.int .i64 xl,.int .i64 xp,.int .i64 xf,.bool lf,.slice A n c] M s t tg tu)=>(show wx.cell? ⟨bb,2,none⟩=some (.pointer (some ⟨L.sb,0,none⟩))/\wx.cell? ⟨bb,3,none⟩=some (.pointer (some ⟨L.q,0,none⟩))/\wx.cell? ⟨xb,5,none⟩=some (.bool lf) from ⟨by rw [h.c.cell]; rfl,by rw [h.c.cell]; rfl,by rw [h.x.cell]; rfl⟩))
 have HP:=hid (show Calls Tryz.prog 16 #[.pointer (some ⟨L.sb,0,none⟩)] w1.drew (lQ W w1.drew (K2 bb xb) L u1 s tg tg z1) from by have:=aar H1.out.bo; rw [HR1.out] at this; exact this)
 go_region_held3 (λwx=>wx.cell? ⟨bb,2,none⟩=some (.pointer (some ⟨L.sb,0,none⟩))/\wx.cell? ⟨bb,3,none⟩=some (.pointer (some ⟨L.q,0,none⟩)))
  (first
    | exact HKB.out _ _ _ _ _ _ H1.out
    | exact HKB.out _ _ _ _ _ _ H3.out
    | exact HKB.out _ _ _ _ _ _ H4.out)
  (first
    | (go_at_call 16
       (with_reducible refine HP.out.mono ?_)
       rintro e w3 ⟨rfl,⟨M3,hb3⟩,hk3,hs3⟩;have H3:=hid (H1.out.to hb3 hk3);have vz:=hid (show Calls Tryz.prog 35 #[.pointer (some ⟨L.q,0,none⟩)] w3 (lQ W w3 (K2 bb xb) L u1 u1 tg tg z1) from by have:=aaL hb3; rw [HR1.out] at this; exact this);clear hb3 hk3 hs3)
    | (go_at_call 35
       (with_reducible refine vz.out.mono ?_)
       rintro e w4 ⟨rfl,⟨M4,hb4⟩,hk4,hs4⟩;have H4:=hid (H3.out.to hb4 hk4);clear hb4 hk4 hs4))
 clear HP vz H3 H1 H0 HR1 HD0;have HD4:=hid (ah w4 none);have H5:=hid (H4.out.quiet HD4.out);have Hw:=hid (λwx=>Gt xf wx);clear H4;go_wp2_with fail
 go_region_held3 (λwx=>wx.cell? ⟨bb,2,none⟩=some (.pointer (some ⟨L.sb,0,none⟩))/\wx.cell? ⟨bb,3,none⟩=some (.pointer (some ⟨L.q,0,none⟩))/\wx.cell? ⟨xb,3,none⟩=some (.int .i64 xp)/\wx.cell? ⟨xb,4,none⟩=some (.int .i64 xf))
  (first
    | exact WM.out _ _ _ _ _ _ H5.out
    | exact WM.out _ _ _ _ _ _ H6.out
    | exact WM.out _ _ _ _ _ _ H7.out
    | exact WM.out _ _ _ _ _ _ H8.out
    | exact WM.out _ _ _ _ _ _ H9.out)
  (first
    | (go_at_call 18
       (with_reducible refine (Hw.out w4.drew).mono ?_)
       rintro e w6 ⟨g6,rfl,agq,acm,ic⟩;have H6:=hid (H5.out.quiet ic);have xJ:=hid (show Calls Tryz.prog 17 #[.pointer (some ⟨L.sb,0,none⟩),.int .i64 xp,.agg #[.int .i64 5,.slice (some ⟨g6,0,none⟩) 240 240]] w6 (lQ W w6 (K2 bb xb) L u2 u1 tg tg z2) from by
        have:=aaq H6.out.bo xp acm (uF xf) (wI xf) (λe=>by have:=H5.out.bo.p.bO e; omega);rw [HR2.out] at this;exact this)
       clear agq acm ic)
    | (go_at_call 17
       (with_reducible refine xJ.out.mono ?_)
       rintro e w7 ⟨rfl,⟨M7,sD⟩,Vz,hs7⟩;have H7:=hid (H6.out.to sD Vz);clear sD Vz hs7)
    | (go_at_call 18
       (with_reducible refine (Hw.out w7).mono ?_)
       rintro e w8 ⟨g8,rfl,agp,ack,zz⟩;have H8:=hid (H7.out.quiet zz);have HDW:=hid (show Calls Tryz.prog 36 #[.pointer (some ⟨L.q,0,none⟩),.int .i64 xp,.agg #[.int .i64 5,.slice (some ⟨g8,0,none⟩) 240 240]] w8 (lQ W w8 (K2 bb xb) L u2 u2 tg tg z2) from by
        have:=aaK H8.out.bo xp ack (uF xf) (wI xf);rw [HR2.out] at this;exact this)
       clear agp ack zz)
    | (go_at_call 36
       (with_reducible refine HDW.out.mono ?_)
       rintro e w9 ⟨rfl,⟨M9,Qy⟩,hk9,hs9⟩;have H9:=hid (H8.out.to Qy hk9);clear Qy hk9 hs9))
 clear xJ HDW H8 H7 H6 H5 Hw HR2 HD4;have HD9:=hid (ah w9 none);have WX:=hid (H9.out.quiet HD9.out);clear H9
 cases lf with
 | true =>
   have x5:w9.drew.cell? ⟨xb,5,none⟩=some (.bool true):=by rw [WX.out.x.cell]; rfl
   go_wp2_with fail
   go_region
   go_wp2;go_ret;exact ⟨by first | rfl | simp,WX.out.live (az.out.mono (by omega) (by omega))⟩
 | false =>
   have ZI:=hid (show Calls Tryz.prog 19 #[.pointer (some ⟨L.sb,0,none⟩)] w9.drew (lQ W w9.drew (K2 bb xb) L u3 u2 tg tg z3) from by have:=XC WX.out.bo (λi=>az.out.room HV.out i); rw [HR3.out] at this; exact this);go_wp2_with fail
   go_region_held3 (λwx=>wx.cell? ⟨bb,2,none⟩=some (.pointer (some ⟨L.sb,0,none⟩))/\wx.cell? ⟨bb,3,none⟩=some (.pointer (some ⟨L.q,0,none⟩))/\wx.cell? ⟨xb,5,none⟩=some (.bool false))
    (first
      | exact HKC.out _ _ _ _ _ _ WX.out
      | exact HKC.out _ _ _ _ _ _ H11.out
      | exact HKC.out _ _ _ _ _ _ H12.out)
    (first
      | (go_at_call 19
         (with_reducible refine ZI.out.mono ?_)
         rintro e PV ⟨rfl,⟨M11,Yo⟩,ab0,af7⟩;have H11:=hid (WX.out.to Yo ab0);have HDC:=hid (show Calls Tryz.prog 37 #[.pointer (some ⟨L.q,0,none⟩)] PV (lQ W PV (K2 bb xb) L u3 u3 tg tg z3) from by have:=YC Yo (λi=>az.out.room HV.out i); rw [HR3.out] at this; exact this);clear Yo ab0 af7)
      | (go_at_call 37
         (with_reducible refine HDC.out.mono ?_)
         rintro e w12 ⟨rfl,⟨M12,aco⟩,abZ,af6⟩;have H12:=hid (H11.out.to aco abZ);clear aco abZ af6))
   go_wp2_with fail;go_ret;exact ⟨by first | rfl | simp,H12.out.live HG2.out⟩
end
end Go.Proofs.YtinajlbijgedbaaGreat.Both
