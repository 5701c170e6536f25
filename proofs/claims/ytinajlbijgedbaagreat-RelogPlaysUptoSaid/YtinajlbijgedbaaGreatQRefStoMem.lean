/- Texts of this seat's proofs: RefStoMem, RefStoSize, RefStoDirty, RefStoPut, RefLogImgs, RefLogOpen. -/
import Derived.Test.YtinajlbijgedbaaGreatQRefStoFind
import Derived.Test.YtinajlbijgedbaaGreatQRefLogRecord
import Derived.Test.YtinajlbijgedbaaGreatQLogImgs
import Derived.Test.YtinajlbijgedbaaGreatQRefLogNew
import Derived.Test.YtinajlbijgedbaaGreatQI64
import Derived.Test.YtinajlbijgedbaaGreatQRefPageGet
import Derived.Test.YtinajlbijgedbaaGreatQCodecPageGet
namespace Go.Proofs.YtinajlbijgedbaaGreat.RSto
open Go.RowKit CrcMath CodecMath Mem Crc Codec DiskSpec Dsk Sup Log RLog Sto
def Qc (r:Nat) (x:Sb) (lv pv:Value) (un:Bool) (ov:Value):Array Value :=
 #[.pointer (some ⟨r,0,none⟩),.int .i64 (x.gn:Nat),.int .i64 (x.ep:Nat),.int .i64 (x.pg:Nat),.int .i64 (x.st:Nat),.int .i64 (x.ln:Nat),.int .i64 (x.hd:Nat),.int .i64 (x.sq:Nat),lv,pv,.bool un,ov]
def FX (X own:Nat->Prop):Nat->Prop:=λi=>own i\/X i
structure dx (w:World) (B r q:Nat) (X own:Nat->Prop) (S:St) (x:Sb) (lv:Value) (D:aK) (un:Bool) (U:aK) (pv ov:Value):Prop where
 d:bX w B r S own
 c:af w q 54 (Qc r x lv pv un ov)
 p:jA w (FX X own) pv (rising D)
 u:jA w (FX X own) ov (rising U)
 okD:bg D
 xg:bg U
 xq:X q
 xo:∀ i,X i->i < w.heap.size/\¬ own i/\B<=i
 low:B<=w.heap.size
theorem Du {w w':World} {B r:Nat} {S:St} {own o o':Nat->Prop} (h:bX w B r S own) (ht:aa w w' o o') (hd:∀ i,own i->¬ o i):bX w' B r S own:=by
 obtain ⟨bl,c,dv,vv,vs,h⟩:=h;exact ⟨bl,c,dv,vv,vs,h.turn ht hd⟩
theorem wM {w w':World} {own own':Nat->Prop} (X:Nat->Prop) (h:aa w w' own own'):aa w w' (FX X own) (FX X own') :=
 ⟨h.os,h.tape,h.output,h.size,λi hi hn=>h.block i hi (λe=>hn (.inl e)),λi hi=>by
  rcases hi with hi | hi
  · rcases h.fresh i hi with h1 | h1
    · exact .inl (.inl h1)
    · exact .inr h1
  · exact .inl (.inr hi)⟩
theorem qD {w w':World} {own X:Nat->Prop} {g:Nat} (hx:X g) (h:w.grownBy w' (some g)):aa w w' (FX X own) (FX X own):=.aA h (λj e=>by cases e; exact .inr hx)
section
variable {w w':World} {B r q:Nat} {X own own':Nat->Prop} {S S':St} {x x':Sb} {lv lv' pv pv' ov Ba:Value} {D D' U U':aK} {un un':Bool}
theorem dx.cells (h:dx w B r q X own S x lv D un U pv ov):w.cell? ⟨q,0,none⟩=some (.pointer (some ⟨r,0,none⟩))/\w.cell? ⟨q,1,none⟩=some (.int .i64 (x.gn:Nat))/\w.cell? ⟨q,2,none⟩=some (.int .i64 (x.ep:Nat)) /\
 w.cell? ⟨q,3,none⟩=some (.int .i64 (x.pg:Nat))/\w.cell? ⟨q,4,none⟩=some (.int .i64 (x.st:Nat))/\w.cell? ⟨q,5,none⟩=some (.int .i64 (x.ln:Nat))/\w.cell? ⟨q,6,none⟩=some (.int .i64 (x.hd:Nat))/\w.cell? ⟨q,7,none⟩=some (.int .i64 (x.sq:Nat)) /\
 w.cell? ⟨q,8,none⟩=some lv/\w.cell? ⟨q,9,none⟩=some pv/\w.cell? ⟨q,10,none⟩=some (.bool un)/\w.cell? ⟨q,11,none⟩=some ov:=by
 have hb:=h.c;refine ⟨?_,?_,?_,?_,?_,?_,?_,?_,?_,?_,?_,?_⟩ <;> (rw [hb.cell]; rfl)
theorem dx.fz (h:dx w B r q X own S x lv D un U pv ov) (i:Nat):w.frozen? ⟨q,i,none⟩=false:=h.c.frozen i
theorem dx.bO (h:dx w B r q X own S x lv D un U pv ov) {i:Nat} (hi:FX X own i):i < w.heap.size:=by
 rcases hi with hi | hi
 · exact eP h.d hi
 · exact (h.xo i hi).1
theorem dx.il (h:dx w B r q X own S x lv D un U pv ov) {i:Nat} (hi:FX X own i):B<=i:=by
 rcases hi with hi | hi
 · obtain ⟨bl,c,dv,vv,vs,hR⟩:=h.d;exact hR.low i hi
 · exact (h.xo i hi).2.2
theorem dx.quiet (h:dx w B r q X own S x lv D un U pv ov) (hg:w.grownBy w' none):dx w' B r q X own S x lv D un U pv ov :=
 ⟨eH h.d hg (λ_ e=>by cases e),h.c.grown hg (by simp),h.p.turn (aa.none_ hg),h.u.turn (aa.none_ hg),h.okD,h.xg,h.xq,λi hi=>⟨ake (h.xo i hi).1 hg.size,(h.xo i hi).2⟩,akh h.low hg.size⟩
theorem dx.disk (h:dx w B r q X own S x lv D un U pv ov) (hd:bX w' B r S' own') (ht:aa w w' own own'):dx w' B r q X own' S' x lv D un U pv ov :=
 ⟨hd,aj h.c (ht.block q h.c.lt (h.xo q h.xq).2.1),h.p.turn (wM X ht),h.u.turn (wM X ht),h.okD,h.xg,h.xq,λi hi=>⟨ake (h.xo i hi).1 ht.size,λe=>by
  rcases ht.fresh i e with h1 | h1
  · exact (h.xo i hi).2.1 h1
  · have:=(h.xo i hi).1; omega,(h.xo i hi).2.2⟩,akh h.low ht.size⟩
theorem dx.beside (h:dx w B r q X own S x lv D un U pv ov) {g:Nat} (hx:X g) (hne:g≠q) (hg:w.grownBy w' (some g)):dx w' B r q X own S x lv D un U pv ov :=
 ⟨eH h.d hg (λ_ e=>by cases e; exact (h.xo g hx).2.1),h.c.grown hg (λe=>hne (by cases e; rfl)),h.p.turn (qD hx hg),h.u.turn (qD hx hg),h.okD,h.xg,h.xq,λi hi=>⟨ake (h.xo i hi).1 hg.size,(h.xo i hi).2⟩,akh h.low hg.size⟩
theorem dx.row (h:dx w B r q X own S x lv D un U pv ov) (hg:w.grownBy w' (some q)) (hc:af w' q 54 (Qc r x' lv' pv' un' Ba)) (hp:jA w (FX X own) pv' (rising D')) (hu:jA w (FX X own) Ba (rising U')) (hD:bg D') (hU:bg U') :
 dx w' B r q X own S x' lv' D' un' U' pv' Ba :=
 ⟨eH h.d hg (λ_ e=>by cases e; exact (h.xo q h.xq).2.1),hc,hp.turn (qD h.xq hg),hu.turn (qD h.xq hg),hD,hU,h.xq,λi hi=>⟨ake (h.xo i hi).1 hg.size,(h.xo i hi).2⟩,akh h.low hg.size⟩
theorem dx.sets (h:dx w B r q X own S x lv D un U pv ov) {Y:Nat->Prop} (hq:Y q) (hy:∀ i,Y i->i < w.heap.size/\¬ own i/\B<=i) (hp:jA w (FX Y own) pv (rising D)) (hu:jA w (FX Y own) ov (rising U)):dx w B r q Y own S x lv D un U pv ov :=
 ⟨h.d,h.c,hp,hu,h.okD,h.xg,hq,hy,h.low⟩
end
theorem uO (w:World) (P:Nat->Prop):jA w P (.slice none 0 0) (rising aM):=by
 have e:rising aM=[]:=by unfold rising; rw [(keys_nil bg.none_).2 rfl]; rfl
 rw [e];exact jA.nil w P
def GQ (g q:Nat):Nat->Prop:=λi=>i=g\/i=q
def bT (own:Nat->Prop) (g q:Nat):Nat->Prop:=FX (GQ g q) own
def XZ (Z:Nat->Prop) (g q:Nat):Nat->Prop:=λi=>GQ g q i\/Z i
theorem Dp {w w':World} {own own':Nat->Prop} {g g' q:Nat} (Z:Nat->Prop) (h:aa w w' (bT own g q) (bT own' g' q)):aa w w' (FX (XZ Z g q) own) (FX (XZ Z g' q) own') :=
 ⟨h.os,h.tape,h.output,h.size,λi hi hn=>h.block i hi (λe=>hn (by
  rcases e with e | e
  · exact .inl e
  · exact .inr (.inl e))),λi hi=>by
  rcases hi with hi | hi | hi
  · rcases h.fresh i (.inl hi) with (h1 | h1) | h1
    · exact .inl (.inl h1)
    · exact .inl (.inr (.inl h1))
    · exact .inr h1
  · rcases h.fresh i (.inr hi) with (h1 | h1) | h1
    · exact .inl (.inl h1)
    · exact .inl (.inr (.inl h1))
    · exact .inr h1
  · exact .inl (.inr (.inr hi))⟩
structure aQ (Z:Nat->Prop) (w:World) (B r g q:Nat) (own:Nat->Prop) (s:Sto):Prop where
 k:∃ pv ov,dx w B r q (XZ Z g q) own s.S s.x (.pointer (some ⟨g,0,none⟩)) s.D s.W.isSome (s.W.getD aM) pv ov
 l:lK w g r s.L
 ok:s.L.ok s.S.n
 may:aL s.x.l (s.S.n:Nat)=true
 ne:g≠q
 zo:∀ i,Z i->i≠g/\i≠q
section
variable {Z:Nat->Prop} {w w':World} {B r g q:Nat} {own own':Nat->Prop} {s:Sto} {S':St}
theorem aQ.la (h:aQ Z w B r g q own s):mY w B r g s.S own s.L:=by
 obtain ⟨pv,ov,hk⟩:=h.k;exact ⟨hk.d,h.l,h.ok,(hk.xo g (.inl (.inl rfl))).2.1,hk.low⟩
theorem aQ.bO (h:aQ Z w B r g q own s) {i:Nat} (hi:bT own g q i):i < w.heap.size:=by
 obtain ⟨pv,ov,hk⟩:=h.k;rcases hi with hi | hi
 · exact hk.bO (.inl hi)
 · exact hk.bO (.inr (.inl hi))
theorem aQ.il (h:aQ Z w B r g q own s) {i:Nat} (hi:bT own g q i):B<=i:=by
 obtain ⟨pv,ov,hk⟩:=h.k;rcases hi with hi | hi
 · exact hk.il (.inl hi)
 · exact hk.il (.inr (.inl hi))
theorem aQ.apart (h:aQ Z w B r g q own s) {i:Nat} (hi:bT own g q i):¬ Z i:=λhz=>by
 obtain ⟨pv,ov,hk⟩:=h.k;rcases hi with hi | hi
 · exact (hk.xo i (.inr hz)).2.1 hi
 · rcases hi with hi | hi
   · exact (h.zo i hz).1 hi
   · exact (h.zo i hz).2 hi
theorem aQ.quiet (h:aQ Z w B r g q own s) (hg:w.grownBy w' none):aQ Z w' B r g q own s:=by
 obtain ⟨pv,ov,hk⟩:=h.k;exact ⟨⟨pv,ov,hk.quiet hg⟩,af.grown h.l hg (by simp),h.ok,h.may,h.ne,h.zo⟩
theorem aQ.disk (h:aQ Z w B r g q own s) (hd:bX w' B r S' own') (ht:aa w w' own own') (hn:S'.n=s.S.n):aQ Z w' B r g q own' (s.disk S'):=by
 obtain ⟨pv,ov,hk⟩:=h.k;exact ⟨⟨pv,ov,hk.disk hd ht⟩,aj h.l (ht.block g (af.lt h.l) (hk.xo g (.inl (.inl rfl))).2.1),hn ▸ h.ok,by show aL s.x.l (S'.n:Nat)=true; rw [hn]; exact h.may,h.ne,h.zo⟩
theorem aQ.logs {M:Lg} (h:aQ Z w B r g q own s) (hl:mY w' B r g S' own' M) (ht:aa w w' (lJ own g) (lJ own' g)) (hn:S'.n=s.S.n):aQ Z w' B r g q own' { s with S:=S',L:=M }/\aa w w' (bT own g q) (bT own' g q):=by
 obtain ⟨pv,ov,hk⟩:=h.k;have hq:¬ lJ own g q:=λe=>by
  rcases e with e | e
  · exact (hk.xo q hk.xq).2.1 e
  · exact h.ne e.symm
 have GH:aa w w' (bT own g q) (bT own' g q):=⟨ht.os,ht.tape,ht.output,ht.size,λi hi hno=>ht.block i hi (λe=>hno (by
  rcases e with e | e
  · exact .inl e
  · exact .inr (.inl e))),λi hi=>by
  rcases hi with hi | hi | hi
  · rcases ht.fresh i (.inl hi) with (h1 | h1) | h1
    · exact .inl (.inl h1)
    · exact .inl (.inr (.inl h1))
    · exact .inr h1
  · exact .inl (.inr (.inl hi))
  · exact .inl (.inr (.inr hi))⟩
 refine ⟨⟨⟨pv,ov,hl.d,aj hk.c (ht.block q hk.c.lt hq),hk.p.turn (Dp Z GH),hk.u.turn (Dp Z GH),hk.okD,hk.xg,hk.xq,λi hi=>⟨ake (hk.xo i hi).1 ht.size,λe=>?_,(hk.xo i hi).2.2⟩,hl.low⟩,hl.l,hl.k,by show aL s.x.l (S'.n:Nat)=true; rw [hn]; exact h.may,h.ne,h.zo⟩,GH⟩;rcases ht.fresh i (.inl e) with h1 | h1
 · rcases h1 with h1 | h1
   · exact (hk.xo i hi).2.1 h1
   · subst h1; exact hl.far e
 · have:=(hk.xo i hi).1; omega
theorem aQ.row {pv ov pv' Ba:Value} {D':aK} {W':Option aK} (h:aQ Z w B r g q own s) (hk:dx w B r q (XZ Z g q) own s.S s.x (.pointer (some ⟨g,0,none⟩)) s.D s.W.isSome (s.W.getD aM) pv ov) (hg:w.grownBy w' (some q)) {x':Sb}
 (hc:af w' q 54 (Qc r x' (.pointer (some ⟨g,0,none⟩)) pv' W'.isSome Ba)) (hp:jA w (FX (XZ Z g q) own) pv' (rising D')) (hu:jA w (FX (XZ Z g q) own) Ba (rising (W'.getD aM))) (hD:bg D') (hU:bg (W'.getD aM)) (hm:aL x'.l (s.S.n:Nat)=true) :
 aQ Z w' B r g q own { s with x:=x',D:=D',W:=W' }/\aa w w' (bT own g q) (bT own g q) :=
 ⟨⟨⟨pv',Ba,hk.row hg hc hp hu hD hU⟩,af.grown h.l hg (λe=>h.ne (by cases e; rfl)),h.ok,hm,h.ne,h.zo⟩,qD (X:=GQ g q) (.inr rfl) hg⟩
theorem aQ.other {Z' F F':Nat->Prop} (h:aQ Z w B r g q own s) (ht:aa w w' F F') (hF:∀ i,F i->Z i) (hZ:∀ i,Z' i->Z i\/w.heap.size<=i) (hlt:∀ i,Z' i->i < w'.heap.size/\B<=i):aQ Z' w' B r g q own s:=by
 obtain ⟨pv,ov,hk⟩:=h.k;have hgl:=af.lt h.l;have Vr:=hk.c.lt;have hP:aa w w' (FX (XZ Z g q) own) (FX (XZ Z' g q) own):=⟨ht.os,ht.tape,ht.output,ht.size,λi hi hn=>ht.block i hi (λe=>hn (.inr (.inr (hF i e)))),λi hi=>by
  rcases hi with hi | hi | hi
  · exact .inl (.inl hi)
  · exact .inl (.inr (.inl hi))
  · rcases hZ i hi with h1 | h1
    · exact .inl (.inr (.inr h1))
    · exact .inr h1⟩
 refine ⟨⟨pv,ov,⟨Du hk.d ht (λi hi e=>(hk.xo i (.inr (hF i e))).2.1 hi),aj hk.c (ht.block q Vr (λe=>(h.zo q (hF q e)).2 rfl)),hk.p.turn hP,hk.u.turn hP,hk.okD,hk.xg,.inl (.inr rfl),λi hi=>?_,akh hk.low ht.size⟩⟩,
  aj h.l (ht.block g hgl (λe=>(h.zo g (hF g e)).1 rfl)),h.ok,h.may,h.ne,λi hi=>?_⟩
 · rcases hi with hi | hi
   · exact ⟨ake (hk.xo i (.inl hi)).1 ht.size,(hk.xo i (.inl hi)).2⟩
   · refine ⟨(hlt i hi).1,?_,(hlt i hi).2⟩;rcases hZ i hi with h1 | h1
     · exact (hk.xo i (.inr h1)).2.1
     · exact λe=>by have:=eP hk.d e; omega
 · rcases hZ i hi with h1 | h1
   · exact h.zo i h1
   · omega
end
def eD (Z:Nat->Prop) (w:World) (B r g q:Nat) (own:Nat->Prop) (a:Int × Sto) (e:Ending) (w':World):Prop :=
 e=.returned (.int .i64 a.1)/\∃ own',aQ Z w' B r g q own' a.2/\aa w w' (bT own g q) (bT own' g q)
set_option linter.unusedVariables false
set_option linter.unusedSimpArgs false
theorem Mh {w:World} {B r:Nat} {S:St} {own:Nat->Prop} (h:bX w B r S own):Calls Tryz.prog 23 #[.pointer (some ⟨r,0,none⟩)] w λe w'=>e=.returned (.int .i64 (S.n:Nat))/\w'=w:=by
 obtain ⟨bl,c,hc⟩:=Ms h;clear h;go_enter Tryz.func23,Tryz.ntmps23;go_wp2_with fail;go_ret;exact ⟨rfl,rfl⟩
end Go.Proofs.YtinajlbijgedbaaGreat.RSto
set_option maxRecDepth 100000
set_option maxHeartbeats 16000000
namespace Go.Proofs.YtinajlbijgedbaaGreat.RSto
open Lib (hid)
open Go.RowKit CrcMath CodecMath Mem Crc Codec DiskSpec Dsk Sup Log RLog Sto
section
variable {Z:Nat->Prop} {w w':World} {B r g q:Nat} {own own':Nat->Prop} {s:Sto}
theorem Xp (h:aQ Z w B r g q own s):Calls Tryz.prog 80 #[.pointer (some ⟨q,0,none⟩)] w λe w'=>(∃ A c,e=.returned (.slice A (keys s.D).length c))/\w.grownBy w' none:=by
 obtain ⟨i0,hi0,hz0,hz1,hz2⟩:=info_parts Codec.qI;have hi:=hid hi0; have z0:=hid hz0; have z1:=hid hz1; have z2:=hid hz2; clear hi0 hz0 hz1 hz2;obtain ⟨pv,ov,hk⟩:=h.k;obtain ⟨A,n,c,hpv,hnc,hcm,hA,him⟩:=hk.p;subst hpv;have hnl:=him.len;have hN:(rising s.D).length<=1024:=by rw [dP]; have:=List.length_filter_le (λk=>(s.D k).isSome) (List.range 1024); rw [List.length_range] at this; exact this
 have HKL:=hid (show (keys s.D).length=n from by rw [<-hnl,dP]);have hn:n<=1024:=by omega
 generalize (keys s.D).length=K at *;have jC:=hid him;have Z0:=hid (show ∀ wx,w.grownBy wx none->wx.cell? ⟨q,9,none⟩=some (.slice A n c) from λwx hg=>(hk.quiet hg).cells.2.2.2.2.2.2.2.2.2.1);clear h hk him hnl hN hcm hA;go_enter Tryz.func80,Tryz.ntmps80;go_wp2_with fail
 go_loopw [3,4] (λv i wr=>∃ j:Nat,j<=n/\i=.int .i64 j/\w.grownBy wr none/\∃ xs,Own wr w.heap.size 3 1 v j xs) (λ_ i _=>n - (Go.RowKit.intOf i).toNat)
 case atStart=>exact ⟨0,aks _,rfl,akr _ _,[],Own.nil _ _ _ _⟩
 case round =>
  obtain ⟨j,hj,rfl,hg,xs,hown⟩:=hrel;have HG:=hid hg; have HO:=hid hown;have c9:=Z0.out _ hg;have gV:=hid hg.size;obtain ⟨A3,c3,rfl,_,_,_⟩:=hown.shape;clear hg hown
  by_cases hlt:j < n
  · have hjn:(j:Int) < (n:Int):=by omega
    obtain ⟨gi,o,⟨x1,x2,x3⟩,Bx,mx,cx,rfl,hgi,hno,hx,e0,e1,e2,hmc,kT⟩:=(jC.out.turn (aa.none_ HG.out)).at_ hlt
    dsimp only at e0
    clear hno hx hmc kT e1 e2
    go_wp2_with (at_builtin
                 refine ai _ rfl (.tmp 14) (.tmp 23) _ rfl w.heap.size 3 i0 _ 1 8 Tryz.underlying45 hi.out z0.out z1.out z2.out rfl (by omega) _ j _ rfl (HO.out.alloc _)
                  _ _ 1 1 _ rfl (qz _ _) (λu hu=>by simp at hu; subst hu; rfl) (by simp only [maxLen]; omega) (by omega) (by have:=gV.out; simp; omega) ?_
                 intro v' w6 hown' dC;have Ox:=hid hown'; have iF:=hid dC; clear hown' dC)
    have HN:=hid (show w.grownBy w6 none from aI (HG.out.trans (aj9 wr _ none)) iF.out.1 (λq e=>(HO.out.bH q e).1))
    first
     | exact ⟨⟨j+1,by omega,by first | rfl | go_num,HN.out,_,Ox.out⟩,by simp [Go.RowKit.intOf]; omega⟩
     | (go_roundw
        case rel=>exact ⟨j+1,by omega,by first | rfl | go_num,HN.out,_,Ox.out⟩
        case measure=>simp [Go.RowKit.intOf]; omega)
  · obtain rfl:j=n:=by omega
    have hnb:¬ ((j:Int) < (j:Int)):=by omega
    go_wp2_with fail;go_ret;rw [HKL.out];exact ⟨⟨_,_,rfl⟩,HG.out⟩
end
theorem Dt {w:World} {P:Nat->Prop} {A:Option Addr} {n c:Nat} {l:List ax} (h:eG w P A n l) (hP:∀ i,P i->i < w.heap.size) (hnc:n<=c) (hcm:c<=maxLen) (hA:A=none->c=0) (hn:n<=1024) (x0 x1:Int) {Ab:Option Addr} {nb cb:Nat} {x2:List Nat} (hx:cO w P (.slice Ab nb cb) x2) :
 Calls Tryz.prog 29 #[.slice A n c,.agg #[.int .i64 x0,.int .i64 x1,.slice Ab nb cb]] w (aem w P l (x0,x1,x2)):=by
 obtain ⟨i0,hi0,hz0,hz1,hz2⟩:=info_parts wu;have hi:=hid hi0; have z0:=hid hz0; have z1:=hid hz1; have z2:=hid hz2; clear hi0 hz0 hz1 hz2;have hga:=aj9 w (.cells #[.int .i64 x0,.int .i64 x1,.slice Ab nb cb] 90) none;have gM:=hid hga;have fD:=hid (af.new w 90 #[.int .i64 x0,.int .i64 x1,.slice Ab nb cb]);have HI:=hid (h.turn (aa.none_ hga));have HX:=hid (hx.turn (aa.none_ hga));have HL:=hid h.len
 have CW:=hid (show ∀ i,w.heap.size<=i->¬ P i from λi h1 h2=>by have:=hP i h2; omega);have gV:=hid (show w.heap.size<=(w.alloc (.cells #[.int .i64 x0,.int .i64 x1,.slice Ab nb cb] 90)).heap.size from hga.size);have hcm':c<=9223372036854775807:=by unfold maxLen at hcm; omega
 have HA:=hid hA;clear h hx hga hP hcm hA;go_enter Tryz.func29,Tryz.ntmps29;go_wp2_with fail;generalize yh:w.alloc (.cells #[.int .i64 x0,.int .i64 x1,.slice Ab nb cb] 90)=wa at *;generalize hxb:w.heap.size=xb at *
 go_loopw [5] (λi wr=>∃ j:Nat,j<=n/\i=.int .i64 j/\wa.grownBy wr none/\∀ i a,i < j->l[i]?=some a->a.1 < x0) (λi _=>n - (Go.RowKit.intOf i).toNat)
 case atStart=>exact ⟨0,by omega,rfl,akr _ _,λi a hi=>by omega⟩
 case round =>
  obtain ⟨j,hj,rfl,hgr,hno⟩:=hrel;have bD:=hid hno; have pO:=hid hgr;have Da:=hid (HI.out.turn (aa.none_ hgr)); have QR:=hid (HX.out.turn (aa.none_ hgr)); have ig:=hid (fD.out.grown hgr (by simp));have QP:=hid (akh gV.out hgr.size);clear hno hgr;have e0:=ig.out.cell 0; have e1:=ig.out.cell 1; have e2:=ig.out.cell 2;simp only [akb,aka,akc] at e0 e1 e2
  by_cases hlt:j < n
  · obtain ⟨g,o,⟨y0,y1,y2⟩,Bv,mm,c',rfl,hgl,oD,hy,c0,c1,c2,hmc,hbd⟩:=Da.out.at_ hlt;simp only at c0 c1;have HY:=hid hy;clear hy hmc hbd c1 c2 oD
    by_cases hle:y0 < x0
    · have hgb:((j:Int) < (n:Int)):=by omega
      have hgd:decide (y0 < x0)=true:=by simpa using hle
      go_wp2_with fail
      go_quiet (fail)
      have HD1:=hid (show wr.grownBy (wr.drewN nq) none from ⟨rfl,rfl,rfl,akf _,λ_ _ _=>rfl⟩);go_wp2_with fail;have ZN:=hid (show ∀ i a,i < j+1->l[i]?=some a->a.1 < x0 from λi a hi ha=>by
       by_cases e:i=j
       · subst e;rw [HY.out] at ha
         cases ha
         exact hle
       · exact bD.out i a (by omega) ha)
      first
       | exact ⟨⟨j+1,by omega,by first | rfl | go_num,pO.out.trans HD1.out,ZN.out⟩,by simp [Go.RowKit.intOf]; omega⟩
       | (go_roundw
          case rel=>exact ⟨j+1,by omega,by first | rfl | go_num,pO.out.trans HD1.out,ZN.out⟩
          case measure=>simp [Go.RowKit.intOf]; omega)
    · by_cases heq:y0=x0
      · have ZY:=hid heq;clear heq
        by_cases hck:c=j+1
        · obtain ⟨V,hV,xA,sF,jO⟩:=Da.out;have hvl:V.length=n:=by have h9:=HL.out; rw [<-hV,List.length_map] at h9; exact h9
          have fK:=hid (show jo l (x0,x1,x2)=l.take j ++ [(x0,x1,x2)] ++ l.drop (j+1) from (tN l (x0,x1,x2) j (by rw [HL.out]; exact hj) bD.out).2 ⟨_,HY.out,ZY.out⟩);have HR3:=hid (show dM (V.drop (j+1))=[] from by rw [List.drop_of_length_le (by omega)]; rfl);have HR1:=hid (show Reads wr wr.heap.size 3 _ j (dM (V.take j)) from nA hvl sF hj);have nM:=hid (kC (V:=V.take j) (λp hp=>jO p (akq hp)))
          have CY:=hid (kC (V:=V.drop (j+1)) (λp hp=>jO p (List.mem_of_mem_drop hp)));have HV:=hid hV; have CK:=hid jO; have qm:=hid hvl;have hjc:j<=c:=by omega
          have hji:(j:Int)<=(c:Int):=by omega
          have VN:(0:Int)<=(j:Int):=by omega
          clear hV xA sF jO hvl;have hgb:((j:Int) < (n:Int)):=by omega
          have hgd:decide (y0 < x0)=false:=by simpa using hle
          go_wp2_with fail
          go_quiet (fail)
          have HD1:=hid (show wr.grownBy (wr.drewN nq) none from ⟨rfl,rfl,rfl,akf _,λ_ _ _=>rfl⟩);have gW:=hid (Reads.drewN HR1.out nq);have HZD:=hid (show xb<=(wr.drewN nq).heap.size from QP.out);generalize wr.drewN nq=wd at *;clear nq
          go_wp2_with (first
           | (at_builtin
              refine ai _ rfl (.tmp 23) (.tmp 26) _ rfl xb 90 i0 _ 3 40 Tryz.underlying52 hi.out z0.out z1.out z2.out rfl (by omega) _ 0 [] rfl (Own.nil _ _ _ _)
               _ _ j _ _ rfl gW.out nM.out (by simp only [maxLen]; omega) (by omega) HZD.out ?_
              intro v1 w1 hown1 iL;rw [Nat.zero_add,List.nil_append] at hown1;have dZ:=hid hown1; have az:=hid iL;have HB1:=hid (ig.out.grown (HD1.out.trans iL.1) (by simp));have e0:=HB1.out.cell 0; have e1:=HB1.out.cell 1; have e2:=HB1.out.cell 2;simp only [akb,aka,akc] at e0 e1 e2;clear hown1 iL)
           | (at_builtin
              refine ai _ rfl (.tmp 28) (.tmp 30) _ rfl xb 90 i0 _ 3 40 Tryz.underlying52 hi.out z0.out z1.out z2.out rfl (by omega) _ j _ rfl (dZ.out.alloc _)
               _ _ 1 1 _ rfl (gY _ _ _ _) (λu hu=>by simp at hu; rcases hu with rfl | rfl | rfl <;> rfl) (by simp only [maxLen]; omega) (by omega) (by have h9:=HZD.out; have h8:=az.out.1.size; simp at h8 ⊢; omega) ?_
              intro v2 w2 hown2 jr;have lM:=hid hown2;have HG2:=hid (az.out.trans (bS.behind (aj9 w1 _ none) jr));have HB2:=hid (ig.out.grown (HD1.out.trans HG2.out.1) (by simp));have e0:=HB2.out.cell 0; have e1:=HB2.out.cell 1; have e2:=HB2.out.cell 2;simp only [akb,aka,akc] at e0 e1 e2;clear hown2 jr))
          have c0':w2.cell? ⟨g,o+j * 3,none⟩=some (.int .i64 y0):=by
           rw [aki (a:=⟨g,o+j * 3,none⟩) ((HD1.out.trans HG2.out.1).block g hgl (by simp))]; exact c0
          have Qt:(y0 == x0)=true:=by have:=ZY.out; simpa using this
          go_quiet (fail)
          have pK:=hid (show Own (w2.drewN nq) xb 90 3 v2 (j+1) (dM (V.take j) ++ [.int .i64 x0,.int .i64 x1,.slice Ab nb cb]) from lM.out.keep (show w2.grownBy (w2.drewN nq) none from ⟨rfl,rfl,rfl,akf _,λ_ _ _=>rfl⟩) (λ_ _=>by simp));have aZ:=hid (show bS wd (w2.drewN nq) (.slice none 0 0) v2 from ⟨⟨HG2.out.1.os,HG2.out.1.tape,HG2.out.1.output,HG2.out.1.size,HG2.out.1.block⟩,HG2.out.2⟩);have HZ3:=hid (show xb<=(w2.drewN nq).heap.size from akh HZD.out aZ.out.1.size)
          have Ol:=hid (show ∀ (wx:World) (Ax:Option Addr),Reads wx wx.heap.size 3 Ax (n - (j+1)) [] from λwx Ax=>⟨by simp; try omega,λh9=>absurd h9 (by omega)⟩);have Oy:=hid (show ∀ u∈([]:List Value),u.oneCell'=true from λu hu=>by cases hu);have sQ:=hid (show j+1+(n - (j+1))<=maxLen/\(j+1+(n - (j+1))) * 40<=140737488355328 from ⟨by simp only [maxLen]; omega,by omega⟩);clear e0 e1 e2
          go_wp2_with (at_builtin
                       refine ai _ rfl (.tmp 48) (.tmp 51) _ rfl xb 90 i0 _ 3 40 Tryz.underlying52 hi.out z0.out z1.out z2.out rfl (by omega) _ (j+1) _ rfl pK.out
                        _ _ (n - (j+1)) _ [] rfl (Ol.out _ _) Oy.out sQ.out.1 sQ.out.2 HZ3.out ?_
                       intro v3 w3 hown3 oC;have lL:=hid hown3; have cB:=hid (aZ.out.trans oC); clear hown3 oC)
          have fU:=hid (show wd.grownBy w3 none from cB.out.1);go_ret;exact ⟨gM.out.trans (pO.out.trans (HD1.out.trans fU.out)),_,rfl,wN (k:=j+1) (m:=_) (bv:=.slice Ab nb cb) HV.out CK.out QR.out (HD1.out.trans fU.out) (by rw [HR3.out]; exact lL.out) (by have:=qm.out; omega) (by have:=qm.out; omega) CW.out fK.out⟩
        · obtain ⟨V,hV,xA,sF,jO⟩:=Da.out;have hvl:V.length=n:=by have h9:=HL.out; rw [<-hV,List.length_map] at h9; exact h9
          have fK:=hid (show jo l (x0,x1,x2)=l.take j ++ [(x0,x1,x2)] ++ l.drop (j+1) from (tN l (x0,x1,x2) j (by rw [HL.out]; exact hj) bD.out).2 ⟨_,HY.out,ZY.out⟩);have HR3:=hid (λwx (hg:wr.grownBy wx none)=>Ea (k:=j+1) hvl sF (by omega) (by omega) hg);have HR1:=hid (show Reads wr wr.heap.size 3 _ j (dM (V.take j)) from nA hvl sF hj);have nM:=hid (kC (V:=V.take j) (λp hp=>jO p (akq hp)))
          have CY:=hid (kC (V:=V.drop (j+1)) (λp hp=>jO p (List.mem_of_mem_drop hp)));have HV:=hid hV; have CK:=hid jO; have qm:=hid hvl;have hjc:j<=c:=by omega
          have hji:(j:Int)<=(c:Int):=by omega
          have VN:(0:Int)<=(j:Int):=by omega
          clear hV xA sF jO hvl;have hgb:((j:Int) < (n:Int)):=by omega
          have hgd:decide (y0 < x0)=false:=by simpa using hle
          go_wp2_with fail
          go_quiet (fail)
          have HD1:=hid (show wr.grownBy (wr.drewN nq) none from ⟨rfl,rfl,rfl,akf _,λ_ _ _=>rfl⟩);have gW:=hid (Reads.drewN HR1.out nq);have HZD:=hid (show xb<=(wr.drewN nq).heap.size from QP.out);generalize wr.drewN nq=wd at *;clear nq
          go_wp2_with (first
           | (at_builtin
              refine ai _ rfl (.tmp 23) (.tmp 26) _ rfl xb 90 i0 _ 3 40 Tryz.underlying52 hi.out z0.out z1.out z2.out rfl (by omega) _ 0 [] rfl (Own.nil _ _ _ _)
               _ _ j _ _ rfl gW.out nM.out (by simp only [maxLen]; omega) (by omega) HZD.out ?_
              intro v1 w1 hown1 iL;rw [Nat.zero_add,List.nil_append] at hown1;have dZ:=hid hown1; have az:=hid iL;have HB1:=hid (ig.out.grown (HD1.out.trans iL.1) (by simp));have e0:=HB1.out.cell 0; have e1:=HB1.out.cell 1; have e2:=HB1.out.cell 2;simp only [akb,aka,akc] at e0 e1 e2;clear hown1 iL)
           | (at_builtin
              refine ai _ rfl (.tmp 28) (.tmp 30) _ rfl xb 90 i0 _ 3 40 Tryz.underlying52 hi.out z0.out z1.out z2.out rfl (by omega) _ j _ rfl (dZ.out.alloc _)
               _ _ 1 1 _ rfl (gY _ _ _ _) (λu hu=>by simp at hu; rcases hu with rfl | rfl | rfl <;> rfl) (by simp only [maxLen]; omega) (by omega) (by have h9:=HZD.out; have h8:=az.out.1.size; simp at h8 ⊢; omega) ?_
              intro v2 w2 hown2 jr;have lM:=hid hown2;have HG2:=hid (az.out.trans (bS.behind (aj9 w1 _ none) jr));have HB2:=hid (ig.out.grown (HD1.out.trans HG2.out.1) (by simp));have e0:=HB2.out.cell 0; have e1:=HB2.out.cell 1; have e2:=HB2.out.cell 2;simp only [akb,aka,akc] at e0 e1 e2;clear hown2 jr))
          have c0':w2.cell? ⟨g,o+j * 3,none⟩=some (.int .i64 y0):=by
           rw [aki (a:=⟨g,o+j * 3,none⟩) ((HD1.out.trans HG2.out.1).block g hgl (by simp))]; exact c0
          have Qt:(y0 == x0)=true:=by have:=ZY.out; simpa using this
          go_quiet (fail)
          have pK:=hid (show Own (w2.drewN nq) xb 90 3 v2 (j+1) (dM (V.take j) ++ [.int .i64 x0,.int .i64 x1,.slice Ab nb cb]) from lM.out.keep (show w2.grownBy (w2.drewN nq) none from ⟨rfl,rfl,rfl,akf _,λ_ _ _=>rfl⟩) (λ_ _=>by simp));have aZ:=hid (show bS wd (w2.drewN nq) (.slice none 0 0) v2 from ⟨⟨HG2.out.1.os,HG2.out.1.tape,HG2.out.1.output,HG2.out.1.size,HG2.out.1.block⟩,HG2.out.2⟩);have HZ3:=hid (show xb<=(w2.drewN nq).heap.size from akh HZD.out aZ.out.1.size)
          have xI:=hid (HR3.out _ (HD1.out.trans (show wd.grownBy (w2.drewN nq) none from aZ.out.1)));clear e0 e1 e2
          go_wp2_with (at_builtin
                       refine ai _ rfl (.tmp 48) (.tmp 51) _ rfl xb 90 i0 _ 3 40 Tryz.underlying52 hi.out z0.out z1.out z2.out rfl (by omega) _ (j+1) _ rfl pK.out
                        _ _ (n - (j+1)) _ _ rfl (xI.out) CY.out (by simp only [maxLen]; omega) (by omega) HZ3.out ?_
                       intro v3 w3 hown3 oC;have lL:=hid hown3; have cB:=hid (aZ.out.trans oC); clear hown3 oC)
          have fU:=hid (show wd.grownBy w3 none from cB.out.1);go_ret;exact ⟨gM.out.trans (pO.out.trans (HD1.out.trans fU.out)),_,rfl,wN (k:=(j+1)) (m:=(n - (j+1))) (bv:=.slice Ab nb cb) HV.out CK.out QR.out (HD1.out.trans fU.out) lL.out (by have:=qm.out; omega) (by have:=qm.out; omega) CW.out fK.out⟩
      · have HGT:=hid (show x0 < y0 by omega);clear heq;have hck:¬ c=j:=by omega
        obtain ⟨V,hV,xA,sF,jO⟩:=Da.out;have hvl:V.length=n:=by have h9:=HL.out; rw [<-hV,List.length_map] at h9; exact h9
        have fK:=hid (show jo l (x0,x1,x2)=l.take j ++ [(x0,x1,x2)] ++ l.drop j from (tN l (x0,x1,x2) j (by rw [HL.out]; exact hj) bD.out).1 (λa ha=>by rw [HY.out] at ha; cases ha; exact HGT.out));have HR3:=hid (λwx (hg:wr.grownBy wx none)=>Ea (k:=j) hvl sF (by omega) (by omega) hg);have HR1:=hid (show Reads wr wr.heap.size 3 _ j (dM (V.take j)) from nA hvl sF hj);have nM:=hid (kC (V:=V.take j) (λp hp=>jO p (akq hp)))
        have CY:=hid (kC (V:=V.drop j) (λp hp=>jO p (List.mem_of_mem_drop hp)));have HV:=hid hV; have CK:=hid jO; have qm:=hid hvl;have hjc:j<=c:=by omega
        have hji:(j:Int)<=(c:Int):=by omega
        have VN:(0:Int)<=(j:Int):=by omega
        clear hV xA sF jO hvl;have hgb:((j:Int) < (n:Int)):=by omega
        have hgd:decide (y0 < x0)=false:=by simpa using hle
        go_wp2_with fail
        go_quiet (fail)
        have HD1:=hid (show wr.grownBy (wr.drewN nq) none from ⟨rfl,rfl,rfl,akf _,λ_ _ _=>rfl⟩);have gW:=hid (Reads.drewN HR1.out nq);have HZD:=hid (show xb<=(wr.drewN nq).heap.size from QP.out);generalize wr.drewN nq=wd at *;clear nq
        go_wp2_with (first
         | (at_builtin
            refine ai _ rfl (.tmp 23) (.tmp 26) _ rfl xb 90 i0 _ 3 40 Tryz.underlying52 hi.out z0.out z1.out z2.out rfl (by omega) _ 0 [] rfl (Own.nil _ _ _ _)
             _ _ j _ _ rfl gW.out nM.out (by simp only [maxLen]; omega) (by omega) HZD.out ?_
            intro v1 w1 hown1 iL;rw [Nat.zero_add,List.nil_append] at hown1;have dZ:=hid hown1; have az:=hid iL;have HB1:=hid (ig.out.grown (HD1.out.trans iL.1) (by simp));have e0:=HB1.out.cell 0; have e1:=HB1.out.cell 1; have e2:=HB1.out.cell 2;simp only [akb,aka,akc] at e0 e1 e2;clear hown1 iL)
         | (at_builtin
            refine ai _ rfl (.tmp 28) (.tmp 30) _ rfl xb 90 i0 _ 3 40 Tryz.underlying52 hi.out z0.out z1.out z2.out rfl (by omega) _ j _ rfl (dZ.out.alloc _)
             _ _ 1 1 _ rfl (gY _ _ _ _) (λu hu=>by simp at hu; rcases hu with rfl | rfl | rfl <;> rfl) (by simp only [maxLen]; omega) (by omega) (by have h9:=HZD.out; have h8:=az.out.1.size; simp at h8 ⊢; omega) ?_
            intro v2 w2 hown2 jr;have lM:=hid hown2;have HG2:=hid (az.out.trans (bS.behind (aj9 w1 _ none) jr));have HB2:=hid (ig.out.grown (HD1.out.trans HG2.out.1) (by simp));have e0:=HB2.out.cell 0; have e1:=HB2.out.cell 1; have e2:=HB2.out.cell 2;simp only [akb,aka,akc] at e0 e1 e2;clear hown2 jr))
        have c0':w2.cell? ⟨g,o+j * 3,none⟩=some (.int .i64 y0):=by
         rw [aki (a:=⟨g,o+j * 3,none⟩) ((HD1.out.trans HG2.out.1).block g hgl (by simp))]; exact c0
        have Qt:(y0 == x0)=false:=by have h9:x0 < y0:=HGT.out; simp; omega
        go_quiet (fail)
        have pK:=hid (show Own (w2.drewN nq) xb 90 3 v2 (j+1) (dM (V.take j) ++ [.int .i64 x0,.int .i64 x1,.slice Ab nb cb]) from lM.out.keep (show w2.grownBy (w2.drewN nq) none from ⟨rfl,rfl,rfl,akf _,λ_ _ _=>rfl⟩) (λ_ _=>by simp));have aZ:=hid (show bS wd (w2.drewN nq) (.slice none 0 0) v2 from ⟨⟨HG2.out.1.os,HG2.out.1.tape,HG2.out.1.output,HG2.out.1.size,HG2.out.1.block⟩,HG2.out.2⟩);have HZ3:=hid (show xb<=(w2.drewN nq).heap.size from akh HZD.out aZ.out.1.size)
        have xI:=hid (HR3.out _ (HD1.out.trans (show wd.grownBy (w2.drewN nq) none from aZ.out.1)));clear e0 e1 e2
        go_wp2_with (at_builtin
                     refine ai _ rfl (.tmp 48) (.tmp 51) _ rfl xb 90 i0 _ 3 40 Tryz.underlying52 hi.out z0.out z1.out z2.out rfl (by omega) _ (j+1) _ rfl pK.out
                      _ _ (n - j) _ _ rfl (xI.out) CY.out (by simp only [maxLen]; omega) (by omega) HZ3.out ?_
                     intro v3 w3 hown3 oC;have lL:=hid hown3; have cB:=hid (aZ.out.trans oC); clear hown3 oC)
        have fU:=hid (show wd.grownBy w3 none from cB.out.1);go_ret;exact ⟨gM.out.trans (pO.out.trans (HD1.out.trans fU.out)),_,rfl,wN (k:=j) (m:=(n - j)) (bv:=.slice Ab nb cb) HV.out CK.out QR.out (HD1.out.trans fU.out) lL.out (by have:=qm.out; omega) (by have:=qm.out; omega) CW.out fK.out⟩
  · obtain rfl:j=n:=by omega
    cases A with
    | none =>
      obtain rfl:c=0:=HA.out rfl;obtain rfl:j=0:=by omega
      obtain ⟨V,hV,xA,sF,jO⟩:=Da.out;have hvl:V.length=0:=by have h9:=HL.out; rw [<-hV,List.length_map] at h9; exact h9
      have fK:=hid (show jo l (x0,x1,x2)=l.take 0 ++ [(x0,x1,x2)] ++ l.drop 0 from (tN l (x0,x1,x2) 0 (by rw [HL.out]; omega) bD.out).1 (λa ha=>by rw [List.getElem?_eq_none (by rw [HL.out]; omega)] at ha; cases ha));have HR3:=hid (show dM (V.drop 0)=[] from by rw [List.drop_of_length_le (by omega)]; rfl);have HR1:=hid (show Reads wr wr.heap.size 3 _ 0 (dM (V.take 0)) from nA hvl sF hj);have nM:=hid (kC (V:=V.take 0) (λp hp=>jO p (akq hp)))
      have CY:=hid (kC (V:=V.drop 0) (λp hp=>jO p (List.mem_of_mem_drop hp)));have HV:=hid hV; have CK:=hid jO; have qm:=hid hvl;have hjc:0<=0:=by omega
      have hji:(0:Int)<=(0:Int):=by omega
      have VN:(0:Int)<=(0:Int):=by omega
      clear hV xA sF jO hvl;have hgb:¬ ((0:Int) < (0:Int)):=by omega
      go_wp2_with fail
      go_quiet (fail)
      have HD1:=hid (show wr.grownBy (wr.drewN nq) none from ⟨rfl,rfl,rfl,akf _,λ_ _ _=>rfl⟩);have gW:=hid (Reads.drewN HR1.out nq);have HZD:=hid (show xb<=(wr.drewN nq).heap.size from QP.out);generalize wr.drewN nq=wd at *;clear nq
      go_wp2_with (first
       | (at_builtin
          refine ai _ rfl (.tmp 23) (.tmp 26) _ rfl xb 90 i0 _ 3 40 Tryz.underlying52 hi.out z0.out z1.out z2.out rfl (by omega) _ 0 [] rfl (Own.nil _ _ _ _)
           _ _ 0 _ _ rfl gW.out nM.out (by simp only [maxLen]; omega) (by omega) HZD.out ?_
          intro v1 w1 hown1 iL;rw [Nat.zero_add,List.nil_append] at hown1;have dZ:=hid hown1; have az:=hid iL;have HB1:=hid (ig.out.grown (HD1.out.trans iL.1) (by simp));have e0:=HB1.out.cell 0; have e1:=HB1.out.cell 1; have e2:=HB1.out.cell 2;simp only [akb,aka,akc] at e0 e1 e2;clear hown1 iL)
       | (at_builtin
          refine ai _ rfl (.tmp 28) (.tmp 30) _ rfl xb 90 i0 _ 3 40 Tryz.underlying52 hi.out z0.out z1.out z2.out rfl (by omega) _ 0 _ rfl (dZ.out.alloc _)
           _ _ 1 1 _ rfl (gY _ _ _ _) (λu hu=>by simp at hu; rcases hu with rfl | rfl | rfl <;> rfl) (by simp only [maxLen]; omega) (by omega) (by have h9:=HZD.out; have h8:=az.out.1.size; simp at h8 ⊢; omega) ?_
          intro v2 w2 hown2 jr;have lM:=hid hown2;have HG2:=hid (az.out.trans (bS.behind (aj9 w1 _ none) jr));have HB2:=hid (ig.out.grown (HD1.out.trans HG2.out.1) (by simp));have e0:=HB2.out.cell 0; have e1:=HB2.out.cell 1; have e2:=HB2.out.cell 2;simp only [akb,aka,akc] at e0 e1 e2;clear hown2 jr))
      go_quiet (fail)
      have pK:=hid (show Own (w2.drewN nq) xb 90 3 v2 (0+1) (dM (V.take 0) ++ [.int .i64 x0,.int .i64 x1,.slice Ab nb cb]) from lM.out.keep (show w2.grownBy (w2.drewN nq) none from ⟨rfl,rfl,rfl,akf _,λ_ _ _=>rfl⟩) (λ_ _=>by simp));have aZ:=hid (show bS wd (w2.drewN nq) (.slice none 0 0) v2 from ⟨⟨HG2.out.1.os,HG2.out.1.tape,HG2.out.1.output,HG2.out.1.size,HG2.out.1.block⟩,HG2.out.2⟩);have HZ3:=hid (show xb<=(w2.drewN nq).heap.size from akh HZD.out aZ.out.1.size)
      have Ol:=hid (show ∀ (wx:World) (Ax:Option Addr),Reads wx wx.heap.size 3 Ax 0 [] from λwx Ax=>⟨by simp; try omega,λh9=>absurd h9 (by omega)⟩);have Oy:=hid (show ∀ u∈([]:List Value),u.oneCell'=true from λu hu=>by cases hu);have sQ:=hid (show 0+1+0<=maxLen/\(0+1+0) * 40<=140737488355328 from ⟨by simp only [maxLen]; omega,by omega⟩);clear e0 e1 e2
      go_wp2_with (at_builtin
                   refine ai _ rfl (.tmp 48) (.tmp 51) _ rfl xb 90 i0 _ 3 40 Tryz.underlying52 hi.out z0.out z1.out z2.out rfl (by omega) _ (0+1) _ rfl pK.out
                    _ _ 0 _ [] rfl (Ol.out _ _) Oy.out sQ.out.1 sQ.out.2 HZ3.out ?_
                   intro v3 w3 hown3 oC;have lL:=hid hown3; have cB:=hid (aZ.out.trans oC); clear hown3 oC)
      have fU:=hid (show wd.grownBy w3 none from cB.out.1);go_ret;exact ⟨gM.out.trans (pO.out.trans (HD1.out.trans fU.out)),_,rfl,wN (k:=0) (m:=_) (bv:=.slice Ab nb cb) HV.out CK.out QR.out (HD1.out.trans fU.out) (by rw [HR3.out]; exact lL.out) (by have:=qm.out; omega) (by have:=qm.out; omega) CW.out fK.out⟩
    | some ad =>
      by_cases hck:c=j
      · obtain ⟨V,hV,xA,sF,jO⟩:=Da.out;have hvl:V.length=j:=by have h9:=HL.out; rw [<-hV,List.length_map] at h9; exact h9
        have fK:=hid (show jo l (x0,x1,x2)=l.take j ++ [(x0,x1,x2)] ++ l.drop j from (tN l (x0,x1,x2) j (by rw [HL.out]; omega) bD.out).1 (λa ha=>by rw [List.getElem?_eq_none (by rw [HL.out]; omega)] at ha; cases ha));have HR3:=hid (show dM (V.drop j)=[] from by rw [List.drop_of_length_le (by omega)]; rfl);have HR1:=hid (show Reads wr wr.heap.size 3 _ j (dM (V.take j)) from nA hvl sF hj);have nM:=hid (kC (V:=V.take j) (λp hp=>jO p (akq hp)))
        have CY:=hid (kC (V:=V.drop j) (λp hp=>jO p (List.mem_of_mem_drop hp)));have HV:=hid hV; have CK:=hid jO; have qm:=hid hvl;have hjc:j<=c:=by omega
        have hji:(j:Int)<=(c:Int):=by omega
        have VN:(0:Int)<=(j:Int):=by omega
        clear hV xA sF jO hvl;have hgb:¬ ((j:Int) < (j:Int)):=by omega
        go_wp2_with fail
        go_quiet (fail)
        have HD1:=hid (show wr.grownBy (wr.drewN nq) none from ⟨rfl,rfl,rfl,akf _,λ_ _ _=>rfl⟩);have gW:=hid (Reads.drewN HR1.out nq);have HZD:=hid (show xb<=(wr.drewN nq).heap.size from QP.out);generalize wr.drewN nq=wd at *;clear nq
        go_wp2_with (first
         | (at_builtin
            refine ai _ rfl (.tmp 23) (.tmp 26) _ rfl xb 90 i0 _ 3 40 Tryz.underlying52 hi.out z0.out z1.out z2.out rfl (by omega) _ 0 [] rfl (Own.nil _ _ _ _)
             _ _ j _ _ rfl gW.out nM.out (by simp only [maxLen]; omega) (by omega) HZD.out ?_
            intro v1 w1 hown1 iL;rw [Nat.zero_add,List.nil_append] at hown1;have dZ:=hid hown1; have az:=hid iL;have HB1:=hid (ig.out.grown (HD1.out.trans iL.1) (by simp));have e0:=HB1.out.cell 0; have e1:=HB1.out.cell 1; have e2:=HB1.out.cell 2;simp only [akb,aka,akc] at e0 e1 e2;clear hown1 iL)
         | (at_builtin
            refine ai _ rfl (.tmp 28) (.tmp 30) _ rfl xb 90 i0 _ 3 40 Tryz.underlying52 hi.out z0.out z1.out z2.out rfl (by omega) _ j _ rfl (dZ.out.alloc _)
             _ _ 1 1 _ rfl (gY _ _ _ _) (λu hu=>by simp at hu; rcases hu with rfl | rfl | rfl <;> rfl) (by simp only [maxLen]; omega) (by omega) (by have h9:=HZD.out; have h8:=az.out.1.size; simp at h8 ⊢; omega) ?_
            intro v2 w2 hown2 jr;have lM:=hid hown2;have HG2:=hid (az.out.trans (bS.behind (aj9 w1 _ none) jr));have HB2:=hid (ig.out.grown (HD1.out.trans HG2.out.1) (by simp));have e0:=HB2.out.cell 0; have e1:=HB2.out.cell 1; have e2:=HB2.out.cell 2;simp only [akb,aka,akc] at e0 e1 e2;clear hown2 jr))
        go_quiet (fail)
        have pK:=hid (show Own (w2.drewN nq) xb 90 3 v2 (j+1) (dM (V.take j) ++ [.int .i64 x0,.int .i64 x1,.slice Ab nb cb]) from lM.out.keep (show w2.grownBy (w2.drewN nq) none from ⟨rfl,rfl,rfl,akf _,λ_ _ _=>rfl⟩) (λ_ _=>by simp));have aZ:=hid (show bS wd (w2.drewN nq) (.slice none 0 0) v2 from ⟨⟨HG2.out.1.os,HG2.out.1.tape,HG2.out.1.output,HG2.out.1.size,HG2.out.1.block⟩,HG2.out.2⟩);have HZ3:=hid (show xb<=(w2.drewN nq).heap.size from akh HZD.out aZ.out.1.size)
        have Ol:=hid (show ∀ (wx:World) (Ax:Option Addr),Reads wx wx.heap.size 3 Ax 0 [] from λwx Ax=>⟨by simp; try omega,λh9=>absurd h9 (by omega)⟩);have Oy:=hid (show ∀ u∈([]:List Value),u.oneCell'=true from λu hu=>by cases hu);have sQ:=hid (show j+1+0<=maxLen/\(j+1+0) * 40<=140737488355328 from ⟨by simp only [maxLen]; omega,by omega⟩);clear e0 e1 e2
        go_wp2_with (at_builtin
                     refine ai _ rfl (.tmp 48) (.tmp 51) _ rfl xb 90 i0 _ 3 40 Tryz.underlying52 hi.out z0.out z1.out z2.out rfl (by omega) _ (j+1) _ rfl pK.out
                      _ _ 0 _ [] rfl (Ol.out _ _) Oy.out sQ.out.1 sQ.out.2 HZ3.out ?_
                     intro v3 w3 hown3 oC;have lL:=hid hown3; have cB:=hid (aZ.out.trans oC); clear hown3 oC)
        have fU:=hid (show wd.grownBy w3 none from cB.out.1);go_ret;exact ⟨gM.out.trans (pO.out.trans (HD1.out.trans fU.out)),_,rfl,wN (k:=j) (m:=_) (bv:=.slice Ab nb cb) HV.out CK.out QR.out (HD1.out.trans fU.out) (by rw [HR3.out]; exact lL.out) (by have:=qm.out; omega) (by have:=qm.out; omega) CW.out fK.out⟩
      · obtain ⟨V,hV,xA,sF,jO⟩:=Da.out;have hvl:V.length=j:=by have h9:=HL.out; rw [<-hV,List.length_map] at h9; exact h9
        have fK:=hid (show jo l (x0,x1,x2)=l.take j ++ [(x0,x1,x2)] ++ l.drop j from (tN l (x0,x1,x2) j (by rw [HL.out]; omega) bD.out).1 (λa ha=>by rw [List.getElem?_eq_none (by rw [HL.out]; omega)] at ha; cases ha));have HR3:=hid (show dM (V.drop j)=[] from by rw [List.drop_of_length_le (by omega)]; rfl);have HR1:=hid (show Reads wr wr.heap.size 3 _ j (dM (V.take j)) from nA hvl sF hj);have nM:=hid (kC (V:=V.take j) (λp hp=>jO p (akq hp)))
        have CY:=hid (kC (V:=V.drop j) (λp hp=>jO p (List.mem_of_mem_drop hp)));have HV:=hid hV; have CK:=hid jO; have qm:=hid hvl;have hjc:j<=c:=by omega
        have hji:(j:Int)<=(c:Int):=by omega
        have VN:(0:Int)<=(j:Int):=by omega
        clear hV xA sF jO hvl;have hgb:¬ ((j:Int) < (j:Int)):=by omega
        go_wp2_with fail
        go_quiet (fail)
        have HD1:=hid (show wr.grownBy (wr.drewN nq) none from ⟨rfl,rfl,rfl,akf _,λ_ _ _=>rfl⟩);have gW:=hid (Reads.drewN HR1.out nq);have HZD:=hid (show xb<=(wr.drewN nq).heap.size from QP.out);generalize wr.drewN nq=wd at *;clear nq
        go_wp2_with (first
         | (at_builtin
            refine ai _ rfl (.tmp 23) (.tmp 26) _ rfl xb 90 i0 _ 3 40 Tryz.underlying52 hi.out z0.out z1.out z2.out rfl (by omega) _ 0 [] rfl (Own.nil _ _ _ _)
             _ _ j _ _ rfl gW.out nM.out (by simp only [maxLen]; omega) (by omega) HZD.out ?_
            intro v1 w1 hown1 iL;rw [Nat.zero_add,List.nil_append] at hown1;have dZ:=hid hown1; have az:=hid iL;have HB1:=hid (ig.out.grown (HD1.out.trans iL.1) (by simp));have e0:=HB1.out.cell 0; have e1:=HB1.out.cell 1; have e2:=HB1.out.cell 2;simp only [akb,aka,akc] at e0 e1 e2;clear hown1 iL)
         | (at_builtin
            refine ai _ rfl (.tmp 28) (.tmp 30) _ rfl xb 90 i0 _ 3 40 Tryz.underlying52 hi.out z0.out z1.out z2.out rfl (by omega) _ j _ rfl (dZ.out.alloc _)
             _ _ 1 1 _ rfl (gY _ _ _ _) (λu hu=>by simp at hu; rcases hu with rfl | rfl | rfl <;> rfl) (by simp only [maxLen]; omega) (by omega) (by have h9:=HZD.out; have h8:=az.out.1.size; simp at h8 ⊢; omega) ?_
            intro v2 w2 hown2 jr;have lM:=hid hown2;have HG2:=hid (az.out.trans (bS.behind (aj9 w1 _ none) jr));have HB2:=hid (ig.out.grown (HD1.out.trans HG2.out.1) (by simp));have e0:=HB2.out.cell 0; have e1:=HB2.out.cell 1; have e2:=HB2.out.cell 2;simp only [akb,aka,akc] at e0 e1 e2;clear hown2 jr))
        go_quiet (fail)
        have pK:=hid (show Own (w2.drewN nq) xb 90 3 v2 (j+1) (dM (V.take j) ++ [.int .i64 x0,.int .i64 x1,.slice Ab nb cb]) from lM.out.keep (show w2.grownBy (w2.drewN nq) none from ⟨rfl,rfl,rfl,akf _,λ_ _ _=>rfl⟩) (λ_ _=>by simp));have aZ:=hid (show bS wd (w2.drewN nq) (.slice none 0 0) v2 from ⟨⟨HG2.out.1.os,HG2.out.1.tape,HG2.out.1.output,HG2.out.1.size,HG2.out.1.block⟩,HG2.out.2⟩);have HZ3:=hid (show xb<=(w2.drewN nq).heap.size from akh HZD.out aZ.out.1.size)
        have Ol:=hid (show ∀ (wx:World) (Ax:Option Addr),Reads wx wx.heap.size 3 Ax 0 [] from λwx Ax=>⟨by simp; try omega,λh9=>absurd h9 (by omega)⟩);have Oy:=hid (show ∀ u∈([]:List Value),u.oneCell'=true from λu hu=>by cases hu);have sQ:=hid (show j+1+0<=maxLen/\(j+1+0) * 40<=140737488355328 from ⟨by simp only [maxLen]; omega,by omega⟩);clear e0 e1 e2
        go_wp2_with (at_builtin
                     refine ai _ rfl (.tmp 48) (.tmp 51) _ rfl xb 90 i0 _ 3 40 Tryz.underlying52 hi.out z0.out z1.out z2.out rfl (by omega) _ (j+1) _ rfl pK.out
                      _ _ 0 _ [] rfl (Ol.out _ _) Oy.out sQ.out.1 sQ.out.2 HZ3.out ?_
                     intro v3 w3 hown3 oC;have lL:=hid hown3; have cB:=hid (aZ.out.trans oC); clear hown3 oC)
        have fU:=hid (show wd.grownBy w3 none from cB.out.1);go_ret;exact ⟨gM.out.trans (pO.out.trans (HD1.out.trans fU.out)),_,rfl,wN (k:=j) (m:=_) (bv:=.slice Ab nb cb) HV.out CK.out QR.out (HD1.out.trans fU.out) (by rw [HR3.out]; exact lL.out) (by have:=qm.out; omega) (by have:=qm.out; omega) CW.out fK.out⟩
end Go.Proofs.YtinajlbijgedbaaGreat.RSto
namespace Go.Proofs.YtinajlbijgedbaaGreat.RLog
open Lib (hid)
open Go.RowKit CrcMath CodecMath Mem Crc Codec DiskSpec Dsk Sup Log
structure Kv (w wr:World) (B r g:Nat) (S:St) (own:Nat->Prop) (L:Lg) (ep sq:Int) (A:Option Addr) (n c sum:Nat) (pages:List Int) (va:Value) (j:Nat):Prop where
 a:mY wr B r g S own L
 t:aa w wr own own
 hd:af wr w.heap.size 130 #[.int .i64 ep,.int .i64 sq,.slice A n c,.int .u32 (sum:Nat)]
 pg:xG w wr A n pages
 ss:Own wr (w.heap.size+1) 5 1 va (256 * j) (au (dV S L j))
theorem XE {w w':World} {own own':Nat->Prop} {base k:Nat} {e:TypeId} {v:Value} {xs:List Value} (h:Own w base e 1 v k xs) (ht:aa w w' own own') (ho:∀ i,base<=i->¬ own i):Own w' base e 1 v k xs:=by
 rcases h with ⟨h1,h2 | ⟨g,cap,cur,rfl,hb,hh,h3⟩⟩ | ⟨g,cur,fz,rfl,hb,hh,h3⟩
 · exact .inl ⟨h1,.inl h2⟩
 · have hlt:g < w.heap.size:=(Array.getElem?_eq_some_iff.1 hh).1;exact .inl ⟨h1,.inr ⟨g,cap,cur,rfl,hb,(ht.block g hlt (ho g hb)).trans hh,h3⟩⟩
 · have hlt:g < w.heap.size:=(Array.getElem?_eq_some_iff.1 hh).1;exact .inr ⟨g,cur,fz,rfl,hb,(ht.block g hlt (ho g hb)).trans hh,h3⟩
section
variable {w wr w':World} {B r g:Nat} {S:St} {own:Nat->Prop} {L:Lg} {ep sq:Int} {A:Option Addr} {n c sum:Nat} {pages:List Int} {va:Value} {j:Nat}
theorem Kv.turn (h:Kv w wr B r g S own L ep sq A n c sum pages va j) (hd:bX w' B r S own) (ht:aa wr w' own own) (ho:∀ i,own i->i < w.heap.size) (hp:∀ gp o,A=some ⟨gp,o,none⟩->¬ own gp):Kv w w' B r g S own L ep sq A n c sum pages va j:=by
 refine ⟨h.a.disk hd ht rfl,h.t.trans ht,aj h.hd (ht.block _ h.hd.lt (λe=>by have:=ho _ e; omega)),?_,XE h.ss ht (λi hi he=>by have:=ho i he; omega)⟩;intro h0;obtain ⟨gp,o,e,hlt,hc⟩:=h.pg h0;refine ⟨gp,o,e,hlt,λq hq=>?_⟩;rw [aki (a:=⟨gp,o+q,none⟩) (ht.block gp (ake hlt h.t.size) (hp gp o e))];exact hc q hq
end
theorem Kv.row {w wr w':World} {B r g:Nat} {S:St} {own:Nat->Prop} {L:Lg} {ep sq:Int} {A:Option Addr} {n c sum:Nat} {pages:List Int} {va:Value} {j:Nat} (h:Kv w wr B r g S own L ep sq A n c sum pages va j) {v2:Value} (ho:∀ i,own i->i < w.heap.size) (hg:bS wr w' va v2) (hgl:g < w.heap.size)
 (h2:Own w' (w.heap.size+1) 5 1 v2 (256 * j+256) (au (dV S L j) ++ au (S.now (L.sec (1+j))))):Kv w w' B r g S own L ep sq A n c sum pages v2 (j+1):=by
 have hb:∀ q,va.ownBlock=some q->w.heap.size+1<=q:=λq e=>(h.ss.bH q e).1
 refine ⟨⟨eH h.a.d hg.1 (λq e he=>by have:=hb q e; have:=ho q he; omega),af.grown h.a.l hg.1 (λe=>by have:=hb g e.symm; omega),h.a.k,h.a.far,akh h.a.low hg.1.size⟩,?_,h.hd.grown hg.1 (λe=>by have:=hb _ e.symm; omega),h.pg.grown h.t.size hg.1 (λq e=>by have:=hb q e; omega),?_⟩
 · exact ⟨hg.1.os.trans h.t.os,hg.1.tape.trans h.t.tape,hg.1.output.trans h.t.output,akh h.t.size hg.1.size,
    λi hi hno=>(hg.1.block i (ake hi h.t.size) (λe=>by have:=hb i e.symm; omega)).trans (h.t.block i hi hno),λi hi=>.inl hi⟩
 · rw [dV,dH,Nat.mul_succ];exact h2
theorem Qg {w:World} {base k:Nat} {v:Value} {l:List Nat} (h:Own w base 5 1 v k (au l)) (hl:∀ x∈l,x < 256):∃ A cap,v=.slice A k cap/\k<=cap/\cap<=maxLen/\Bytes w w.heap.size A k l/\(0 < k->∃ ga,A=some ⟨ga,0,none⟩/\base<=ga/\ga < w.heap.size):=by
 have hlen:=h.len;rw [aB,Nat.mul_one] at hlen;obtain ⟨A,cap,rfl,h1,h2,h3⟩:=h.shape;refine ⟨A,cap,rfl,h1,h2,⟨hlen,hl,λhk=>?_⟩,λhk=>?_⟩
 · obtain ⟨ga,cap',he,hb,hlt,_,_,hc⟩:=h.reads hk
   injection he with he1 he2 Ka
   subst he1;exact ⟨ga,0,rfl,hlt,by omega,λq hq=>by rw [Nat.zero_add]; exact hc _ _ (fT _ q (by omega))⟩
 · obtain ⟨ga,cap',he,hb,hlt,_,_,hc⟩:=h.reads hk
   injection he with he1 he2 Ka
   exact ⟨ga,he1,hb,hlt⟩
theorem Fs {w:World} {base:Nat} {P:Nat->Prop} {v:Value} {l:List Nat} (h:Own w base 5 1 v l.length (au l)) (hl:∀ x∈l,x < 256) (hP:∀ i,base<=i->¬ P i):cO w P v l:=by
 obtain ⟨A,cap,rfl,h1,h2,hb,hg⟩:=Qg h hl;refine ⟨A,l.length,cap,rfl,h1,hb.1,hb.2.1,λh0=>?_⟩;obtain ⟨ga,rfl,hge,hlt⟩:=hg h0;obtain ⟨g2,o2,e,hlt2,_,hc⟩:=hb.2.2 h0;simp only [Option.some.injEq,Addr.mk.injEq,and_true] at e;obtain ⟨rfl,rfl⟩:=e;exact ⟨ga,0,rfl,hlt,hP _ hge,hc⟩
theorem DW (gs m cs k:Nat) (hj:256 * (k+1)<=m) (hm:m<=cs) (w:World) :
 (Instr.slice 65 (.slice (some ⟨gs,0,none⟩) m cs) (some (.int .i64 (256 * (k:Int)))) (some (.int .i64 (256 * (k:Int)+256))) none).run Tryz.prog w=.ok (.slice (some ⟨gs,256 * k,none⟩) 256 (cs - 256 * k)) w:=by
 rw [run_slice_lh w 65 _ m cs (by kernel_rfl) .i64 .i64 _ _ (by omega) (by omega) (by omega),P8];have e1:(256 * (k:Int)).toNat=256 * k:=by omega
 have e2:(256 * (k:Int)+256).toNat=256 * k+256:=by omega
 rw [e1,e2];show Result.ok (sliced (some ⟨gs,0,none⟩) (256 * k) (256 * k+256) cs 1) w=_;unfold sliced;rw [if_neg (by omega),show 256 * k+256 - 256 * k=256 from by omega];simp only [Option.map,Nat.mul_one]
 congr 3
 unfold Addr.add
 split <;> simp_all
theorem KO (gs m cs k:Nat) (hj:256 * (k+1)<=m) (hm:m<=cs) (w:World) :
 (Instr.sliceAt 65 (.slice (some ⟨gs,0,none⟩) m cs) (some (.int .i64 (256 * (k:Int)))) (some (.int .i64 (256 * (k:Int)+256))) none).run Tryz.prog w=.ok (.slice (some ⟨gs,256 * k,none⟩) 256 (cs - 256 * k)) w:=by
 rw [run_sliceAt_slice w 65 _ _ _ _ (by kernel_rfl)];exact DW gs m cs k hj hm w
structure RI2 (w6 wr:World) (L:Lg) (pages:List Int) (bytes:List Nat) (vo:Value) (j:Nat):Prop where
 gr:w6.grownBy wr none
 im:∃ V:List (ax × Value),gZ L.ep L.seq pages bytes j=some (V.map (·.1))/\V.length=j/\Own wr w6.heap.size 90 3 vo j (dM V)/\∀ p∈V,cO wr (λi=>i < w6.heap.size\/vo.ownBlock=some i) p.2 p.1.2.2
def Tq (w:World) (L:Lg) (pages:List Int) (sum:Nat) (bytes:List Nat) (n:Nat) (v:Value) (ok:Bool) (w':World):Prop :=
 (∃ V:List (ax × Value),mM L.ep L.seq pages sum bytes=some (V.map (·.1))/\ok=true/\V.length=n/\Own w' w.heap.size 90 3 v n (dM V)/\∀ p∈V,cO w' (λi=>i < w.heap.size\/v.ownBlock=some i) p.2 p.1.2.2) \/
   (mM L.ep L.seq pages sum bytes=none/\ok=false/\v=.slice none 0 0)
theorem Ur {w:World} {B r g:Nat} {S:St} {own:Nat->Prop} {L:Lg} (h:mY w B r g S own L) (hf:S.f1=0) (ep sq:Int) (A:Option Addr) (n c sum:Nat) (pages:List Int)
 (hpl:pages.length=n) (jG:xG w w A n pages) (hpo:∀ gp o,A=some ⟨gp,o,none⟩->¬ own gp) (hn:n<=40) (hnc:n<=c) (hsum:sum < 4294967296) :
 Calls Tryz.prog 77 #[.pointer (some ⟨g,0,none⟩),.agg #[.int .i64 ep,.int .i64 sq,.slice A n c,.int .u32 (sum:Nat)]] w λe w' =>
  ∃ v ok,e=.returned (.tuple #[v,.bool ok,.int .i64 0])/\mY w' B r g S own L/\aa w w' own own/\Tq w L pages sum (dV S L n) n v ok w':=by
 obtain ⟨i0,hi0,hz0,hz1,hz2⟩:=info_parts wu;have hi:=hid hi0; have z0:=hid hz0; have z1:=hid hz1; have z2:=hid hz2;obtain ⟨k0,hk0,hy0,hy1,hy2⟩:=info_parts gD;have hk:=hid hk0; have y0:=hid hy0; have y1:=hid hy1; have y2:=hid hy2;have hok:=h.k;have hfit:=hok.fit; have htl:=hok.tail; have htop:=(wV h.d).top; have Co:=hok.low;have hgl:g < w.heap.size:=af.lt h.l;have Ou:=hid (λi (hi:own i)=>eP h.d hi)
 have hga:=aj9 w (.cells #[.int .i64 ep,.int .i64 sq,.slice A n c,.int .u32 (sum:Nat)] 130) none;have H0:=hid (show Kv w (w.alloc (.cells #[.int .i64 ep,.int .i64 sq,.slice A n c,.int .u32 (sum:Nat)] 130)) B r g S own L ep sq A n c sum pages (.slice none 0 0) 0 from
  ⟨h.quiet hga,aa.none_ hga,af.new w _ _,jG.grown (akf _) hga (λ_ e=>by cases e),Own.nil _ _ _ _⟩)
 have HF:=hid hf; have HPO:=hid hpo; have agW:=hid hok; have Jh:=hid (wV h.d);clear h hf jG hpo hga hi0 hz0 hz1 hz2 hk0 hy0 hy1 hy2 hok;go_enter Tryz.func77,Tryz.ntmps77;go_wp2_with fail
 go_loopw [7,8,9,10] (λva i _ _ wr=>∃ j:Nat,j<=n/\i=.int .i64 j/\Kv w wr B r g S own L ep sq A n c sum pages va j) (λ_ i _ _ _=>n - (Go.RowKit.intOf i).toNat)
 case atStart=>exact ⟨0,aks _,rfl,H0.out⟩
 case round =>
  clear H0;obtain ⟨j,hj,rfl,hr⟩:=hrel;have HR:=hid hr;have d2:=hr.hd.cell 2;simp only [akb,aka,akc] at d2;clear hr
  by_cases hlt:j < n
  · have hjn:(j:Int) < (n:Int):=by omega
    have h0:(0:Int)<=(j:Int):=by omega
    have hw1:IntKind.i64.wrap ((j:Int)+1)=((j+1:Nat):Int):=kD (n:=j+1) (by omega);obtain ⟨Q,hQ⟩:∃ Q:Nat,L.tail+1+j=Q:=⟨_,rfl⟩;have hwA:IntKind.i64.wrap ((L.tail:Int)+1)=(L.tail:Int)+1:=IntWalk.i64_in _ (by omega);have hwB:IntKind.i64.wrap ((L.tail:Int)+1+(j:Int))=(Q:Int):=by rw [<-kD (n:=Q) (by omega)]; congr 1; omega
    obtain ⟨sc,hsc⟩:∃ sc:Nat,L.sec (1+j)=sc:=⟨_,rfl⟩;have X4:sc < S.n:=by rw [<-hsc]; exact Lg.LZ agW.out _
    have hse:L.st+Q % L.ln=sc:=by rw [<-hsc,<-hQ]; unfold Lg.sec; rw [show L.tail+(1+j)=L.tail+1+j by omega]
    have tC:=hid (show Calls Tryz.prog 75 #[.pointer (some ⟨g,0,none⟩),.int .i64 (Q:Nat)] wr.drew λe w'=>e=.returned (.int .i64 (sc:Nat))/\∃ m,w'=wr.drew.drewN m from by
     rw [<-hse]; exact yf (HR.out.a.quiet (ah wr none)).l Q (by omega) Co (by omega))
    have hre:=zY HF.out X4;have gW:=λ(wx:World) (hd:bX wx B r S own)=>hid (rU hd (sc:Nat) 1 (by omega) (by omega))
    simp only [hre.1,hre.2] at gW;have gW:=hid gW;have hkeep:∀ wx,lK wx g r L->wx.cell? ⟨g,0,none⟩=some (.pointer (some ⟨r,0,none⟩))/\wx.cell? ⟨g,8,none⟩=some (.int .i64 (L.tail:Nat)):=λwx hx=>⟨hx.cells.1,hx.cells.2.2.2.2.2.2.2.2.1⟩
    have av:=hid hkeep;have xS:=hid (HR.out.a.quiet (ah wr none));have ZL:=hid (show (S.now sc).length=256 from (S.jU Jh.out sc).1);clear hre hkeep hQ hse;go_wp2_with fail
    go_region_held3 (λwx=>wx.cell? ⟨g,0,none⟩=some (.pointer (some ⟨r,0,none⟩))/\wx.cell? ⟨g,8,none⟩=some (.int .i64 (L.tail:Nat)))
     (first
       | exact av.out _ xS.out.l
       | exact av.out _ HA1.out.l
       | exact av.out _ HA2.out.a.l)
     (first
       | (go_at_call 75
          (with_reducible refine tC.out.mono ?_)
          rintro e w1 ⟨rfl,m1,abG⟩;have az:=hid (show wr.drew.grownBy w1 none from by subst abG; exact ⟨rfl,rfl,rfl,akf _,λ_ _ _=>rfl⟩);have HA1:=hid (xS.out.quiet az.out);clear abG)
       | (go_at_call 73
          (with_reducible refine (gW.out _ HA1.out.d).out.mono ?_)
          rintro e w2 ⟨v2,rfl,hown,hd2,ht2⟩;have HA2:=hid (HR.out.turn hd2 ((aa.none_ ((ah wr none).trans az.out)).trans ht2) Ou.out HPO.out);rw [ZL.out] at hown;obtain ⟨g3,c3,rfl,hb3,Nt,hc3,agv,Ny⟩:=hown.reads (by omega);have HRR:=hid (BR (e:=5) (cap:=c3) (show (au (S.now sc)).length=256 by rw [aB,ZL.out]) Nt Ny);clear hown hd2 ht2 hb3 Nt Ny))
    go_wp2_with (at_builtin
                 refine ai _ rfl (.tmp 44) (.tmp 45) _ rfl (w.heap.size+1) 5 k0 _ 1 1 Tryz.underlying65 hk.out y0.out y1.out y2.out rfl (by omega) _ (256 * j) _ rfl HA2.out.ss
                  _ _ 256 c3 _ rfl HRR.out (fO _) (by simp only [maxLen]; omega) (by omega) (by have:=HA2.out.hd.lt; omega) ?_
                 intro v5 w5 hown5 hg5;have xK:=hid hown5; have fP:=hid hg5; clear hown5 hg5)
    have Cm:=xK.out;rw [<-hsc] at Cm;have HN:=hid (HA2.out.row Ou.out fP.out hgl Cm)
    first
     | exact ⟨⟨j+1,by omega,by first | rfl | go_num,HN.out⟩,by simp [Go.RowKit.intOf]; omega⟩
     | (go_roundw
        case rel=>exact ⟨j+1,by omega,by first | rfl | go_num,HN.out⟩
        case measure=>simp [Go.RowKit.intOf]; omega)
  · obtain rfl:j=n:=by omega
    have d3:=HR.out.hd.cell 3;simp only [akb,aka,akc] at d3;have Vv:=BU Jh.out L j;obtain ⟨Aa,ca,rfl,hca,hcm,hby,hga⟩:=Qg HR.out.ss Vv;have iG:=hid hby;have gM:=hid hga;have vL:=λq=>hid ((IC wr.heap.size Aa (256 * j) ca (dV S L j) (wr.drewN q) (by exact iG.out) (by omega)).mono (λe w' (h:e=.returned (.int .u32 (M 0 (dV S L j):Nat))/\wr.drewN q=w')=>(⟨h.1,h.2.symm⟩:e=.returned (.int .u32 (M 0 (dV S L j):Nat))/\w'=wr.drewN q)))
    have ig:=hid (show mM L.ep L.seq pages sum (dV S L j)=if M 0 (dV S L j)=sum then gZ L.ep L.seq pages (dV S L j) j else none from by unfold mM; rw [hpl]);obtain ⟨sm,hsm⟩:∃ sm,M 0 (dV S L j)=sm:=⟨_,rfl⟩;simp only [hsm] at vL;rw [hsm] at ig;obtain ⟨bytes,hbytes⟩:∃ bytes,dV S L j=bytes:=⟨_,rfl⟩;rw [hbytes] at ig iG Vv;have TF:=hid hbytes;have vC:=hid (show bytes.length=256 * j from by rw [<-hbytes]; exact zX Jh.out L j)
    clear hby hga hsm hbytes
    by_cases hss:sm=sum
    · subst hss;have hbb:(((sm:Nat):Int) != ((sm:Nat):Int))=false:=by simp
      rw [if_pos rfl] at ig;go_wp2_with fail
      go_quiet ((go_at_call 120; exact Calls.quiet_of_same (vL _).out))
      have iF:=hid (show wr.grownBy (wr.drewN nq) none from ⟨rfl,rfl,rfl,akf _,λ_ _ _=>rfl⟩);have Bt:=hid (HR.out.a.quiet iF.out);have rD:=hid (HR.out.t.trans (aa.none_ iF.out (own:=own)));have HD6:=hid (HR.out.hd.grown iF.out (by simp));have HI6:=hid (HR.out.pg.grown HR.out.t.size iF.out (λ_ e=>by cases e));have kY:=hid (show Bytes (wr.drewN nq) (wr.drewN nq).heap.size Aa (256 * j) bytes from iG.out)
      have Tx:=hid (show w.heap.size<=(wr.drewN nq).heap.size from HR.out.t.size);generalize wr.drewN nq=w6 at *;go_wp2_with fail
      go_loopw [11,12,13,14,15,16] (λvo i _ _ _ _ wy=>∃ k:Nat,k<=j/\i=.int .i64 k/\RI2 w6 wy L pages bytes vo k) (λ_ i _ _ _ _ _=>j - (Go.RowKit.intOf i).toNat)
      case atStart=>exact ⟨0,aks _,rfl,akr _ _,[],rfl,rfl,Own.nil _ _ _ _,by simp⟩
      case round =>
       obtain ⟨k,hkj,rfl,hr2⟩:=hrel;have HR2:=hid hr2;have hd7:=HD6.out.grown hr2.gr (by simp);have e2:=hd7.cell 2;simp only [akb,aka,akc] at e2;clear hr2 hd7
       by_cases hlt2:k < j
       · have h3:(k:Int) < (j:Int):=by omega
         have h4:(0:Int)<=(k:Int):=by omega
         obtain ⟨ga,rfl,ags,agr⟩:=gM.out (by omega);obtain ⟨gp,op,rfl,oD,hpc⟩:=HI6.out (by omega);have hpk:=hpc k hlt2;obtain ⟨pk,IZ⟩:∃ pk,pages.getD k 0=pk:=⟨_,rfl⟩;rw [IZ] at hpk;have ve:=hid IZ;have hpy:wr.cell? ⟨gp,op+k,none⟩=some (.int .i64 pk):=by
          rw [aki (a:=⟨gp,op+k,none⟩) (HR2.out.gr.block gp (ake oD Tx.out) (by simp))]; exact hpk
         have hby:=kY.out.keep (bW HR2.out.gr _);have hsc:=JE (j:=k) hby (by omega);rw [show 0+k * 256=256 * k by omega] at hsc;have xN:=hid (KY w6.heap.size (some ⟨ga,256 * k,none⟩) 256 (ca - 256 * k) (DiskSpec.sec bytes k) wr hsc (by omega) (by omega));have hs1:=DW ga (256 * j) ca k (by omega) hca;have hs2:=KO ga (256 * j) ca k (by omega) hca;have hw1:IntKind.i64.wrap (256 * (k:Int))=256 * (k:Int):=IntWalk.i64_in _ (by omega)
         have hw2:IntKind.i64.wrap (256 * (k:Int)+256)=256 * (k:Int)+256:=IntWalk.i64_in _ (by omega);have hw3:IntKind.i64.wrap ((k:Int)+1)=((k+1:Nat):Int):=kD (n:=k+1) (by omega);have HQ:=hid (Bt.out.quiet HR2.out.gr);have ZK:=hid (λ(hn:xm L.ep L.seq pk (DiskSpec.sec bytes k)=none)=>(show mM L.ep L.seq pages sm bytes=none from by
          rw [ig.out]; exact Am (by rw [ve.out]; exact hn) hlt2))
         clear hpk hpc IZ hby hsc ags agr
         cases hgi:fe (DiskSpec.sec bytes k) with
         | none =>
           rw [hgi] at xN;have HN:=hid (ZK.out (Ci hgi));clear hgi
           go_wp2_with (go_at_call 121
                        refine xN.out.mono ?_;rintro e w7 ⟨fZ,⟨_,_,_,_,_,_,ho,_⟩ | ⟨_,rfl⟩⟩
                        case inl=>cases ho
                        have KG:=hid fZ;clear fZ)
           go_quiet (fail)
           have j4:=hid (HR2.out.gr.trans KG.out);go_wp2_with fail
           go_ret3
           have EY:=(j4.out.trans (aj9 w7 (.cells #[.int .i64 0,.int .i64 0,.slice none 0 0] 90) none)).trans (show World.grownBy _ ((w7.alloc (.cells #[.int .i64 0,.int .i64 0,.slice none 0 0] 90)).drewN nq) none from ⟨rfl,rfl,rfl,akf _,λ_ _ _=>rfl⟩);exact ⟨_,false,rfl,Bt.out.quiet EY,rD.out.trans (aa.none_ EY),.inr ⟨by rw [TF.out]; exact HN.out,rfl,rfl⟩⟩
         | some p =>
           obtain ⟨e0,s0,n0,k0,b0⟩:=p;rw [hgi] at xN;have De:=hid hgi;clear hgi;have hk0:=HD6.out.grown HR2.out.gr (by simp)
           go_wp2_with (go_at_call 121
                        refine xN.out.mono ?_;rintro e w7 ⟨fZ,⟨e1,s1,n1,k1,b1,v1,ho,rfl,hl,hlt⟩ | ⟨ho,_⟩⟩
                        case inr=>cases ho
                        cases ho
                        have KG:=hid fZ;have iG:=hid hl;have ahe:=hid hlt;obtain ⟨Ab,cb,rfl,_⟩:=hl.shape;clear fZ hl hlt)
           have hal:=aj9 w7 (.cells #[.int .i64 n0,.int .i64 k0,.slice Ab b0.length cb] 90) none;have zz:=KG.out.trans hal;have j4:=hid (HR2.out.gr.trans zz);have Zr:=Bt.out.quiet j4.out;have HA8:=hid Zr;have jv:=hid (af.new w7 90 #[.int .i64 n0,.int .i64 k0,.slice Ab b0.length cb]);have x0:=jv.out.cell 0;have x1:=jv.out.cell 1;have x2:=jv.out.cell 2;have d8:=(HD6.out.grown j4.out (by simp)).cell 2
           simp only [akb,aka,akc] at x0 x1 x2 d8;have c2:=Zr.l.cells.2.2.1;have c9:=Zr.l.cells.2.2.2.2.2.2.2.2.2.1;have p8:(w7.alloc (.cells #[.int .i64 n0,.int .i64 k0,.slice Ab b0.length cb] 90)).cell? ⟨gp,op+k,none⟩=some (.int .i64 pk):=by
            rw [aki (a:=⟨gp,op+k,none⟩) (zz.block gp (ake (ake oD Tx.out) HR2.out.gr.size) (by simp))]; exact hpy
           have hix:(0:Int)<=(k:Int)/\(k:Int) < (j:Int):=⟨h4,h3⟩;clear hal zz Zr hk0 hpy e2
           by_cases hall:e0=L.ep/\s0=L.seq/\n0=pk
           · obtain ⟨rfl,rfl,rfl⟩:=hall;have hb1:((L.ep:Int) != (L.ep:Int))=false:=by simp
             have hb2:((L.seq:Int) != (L.seq:Int))=false:=by simp
             have hb3:(n0 != n0)=false:=by simp
             have Da:=hid (Aq De.out);have nO:=hid (Fs (P:=λi=>i < wr.heap.size) iG.out ahe.out (λi h1 h2=>by omega))
             go_quiet (fail)
             have HG:=hid (show w6.grownBy ((w7.alloc (.cells #[.int .i64 n0,.int .i64 k0,.slice Ab b0.length cb] 90)).drewN nq) none from j4.out.trans ⟨rfl,rfl,rfl,akf _,λ_ _ _=>rfl⟩);have hgw:=(KG.out.trans (aj9 w7 (.cells #[.int .i64 n0,.int .i64 k0,.slice Ab b0.length cb] 90) none)).trans (show World.grownBy _ ((w7.alloc (.cells #[.int .i64 n0,.int .i64 k0,.slice Ab b0.length cb] 90)).drewN nq) none from ⟨rfl,rfl,rfl,akf _,λ_ _ _=>rfl⟩)
             have ab6:=(aj9 w7 (.cells #[.int .i64 n0,.int .i64 k0,.slice Ab b0.length cb] 90) none).trans (show World.grownBy _ ((w7.alloc (.cells #[.int .i64 n0,.int .i64 k0,.slice Ab b0.length cb] 90)).drewN nq) none from ⟨rfl,rfl,rfl,akf _,λ_ _ _=>rfl⟩);have adU:=hid (nO.out.turn (aa.none_ ab6));have fU:=hid hgw;have z0':((w7.alloc (.cells #[.int .i64 n0,.int .i64 k0,.slice Ab b0.length cb] 90)).drewN nq).cell? ⟨w7.heap.size,0,none⟩=some (.int .i64 n0):=x0
             have z1':((w7.alloc (.cells #[.int .i64 n0,.int .i64 k0,.slice Ab b0.length cb] 90)).drewN nq).cell? ⟨w7.heap.size,1,none⟩=some (.int .i64 k0):=x1;have z2':((w7.alloc (.cells #[.int .i64 n0,.int .i64 k0,.slice Ab b0.length cb] 90)).drewN nq).cell? ⟨w7.heap.size,2,none⟩=some (.slice Ab b0.length cb):=x2;clear x0 x1 x2 d8 c2 c9 p8 hgw ab6;generalize (w7.alloc (.cells #[.int .i64 n0,.int .i64 k0,.slice Ab b0.length cb] 90)).drewN nq=wc at *
             obtain ⟨V,v1,v2,v3,v4⟩:=HR2.out.im;have rC:=hid v1; have CO:=hid v2; have EN:=hid (v3.keep fU.out (λ_ _=>by simp)); have CL:=hid v4;have af3:w6.heap.size<=wc.heap.size:=HG.out.size;clear v1 v2 v3 v4
             go_wp2_with (at_builtin
                          refine ai _ rfl (.tmp 101) (.tmp 103) _ rfl w6.heap.size 90 i0 _ 3 40 Tryz.underlying52 hi.out z0.out z1.out z2.out rfl (by omega) _ k _ rfl (EN.out.alloc _)
                           _ _ 1 1 _ rfl (gY _ _ _ _) (λu hu=>by simp at hu; rcases hu with rfl | rfl | rfl <;> rfl) (by simp only [maxLen]; omega) (by omega) (by simp; omega) ?_
                          intro v' w' hown' dC;have kr:=hid hown'; have iO:=hid dC; clear hown' dC)
             have HN:=hid (show RI2 w6 w' L pages bytes v' (k+1) from by
              have hal:=aj9 wc (.cells #[.int .i64 n0,.int .i64 k0,.slice Ab b0.length cb] 90) none;have hlo:∀ q,u11.ownBlock=some q->w6.heap.size<=q:=λq hq=>(EN.out.bH q hq).1
              refine ⟨aI (HG.out.trans hal) iO.out.1 (λq hq=>hlo q hq),V ++ [((n0,k0,b0),.slice Ab b0.length cb)],?_,by rw [akl,CO.out]; rfl,?_,?_⟩
              · rw [List.map_append];exact Fw rC.out (by rw [ve.out]; exact Da.out)
              · rw [Fy];exact kr.out
              · intro p hp;rcases List.mem_append.1 hp with hp | hp
                · exact (((CL.out p hp).turn (aa.none_ fU.out)).turn (aa.none_ hal)).turn (oU iO.out)
                · simp at hp
                  subst hp;have hb:cO wc (λi=>i < w6.heap.size\/u11.ownBlock=some i) (.slice Ab b0.length cb) b0:=adU.out.weak (λi hi hh=>by
                   rcases hh with hh | hh
                   · exact ake hh HR2.out.gr.size
                   · obtain ⟨V2,_,_,ho2,_⟩:=HR2.out.im;exact (ho2.bH i hh).2)
                  exact (hb.turn (aa.none_ hal)).turn (oU iO.out))
             clear kr iO rC CO EN CL HG fU adU;go_wp2_with fail
             first
              | exact ⟨⟨k+1,by omega,by first | rfl | go_num,HN.out⟩,by simp [Go.RowKit.intOf]; omega⟩
              | (go_roundw
                 case rel=>exact ⟨k+1,by omega,by first | rfl | go_num,HN.out⟩
                 case measure=>simp [Go.RowKit.intOf]; omega)
           · have HN:=hid (ZK.out (IV De.out hall));have Jj:=hid hall;clear hall;have jE:=λq=>hid (show ∃ v ok,Ending.returned (.tuple #[.slice none 0 0,.bool false,.int .i64 0])=.returned (.tuple #[v,.bool ok,.int .i64 0])/\mY ((w7.alloc (.cells #[.int .i64 n0,.int .i64 k0,.slice Ab b0.length cb] 90)).drewN q) B r g S own L/\aa w ((w7.alloc (.cells #[.int .i64 n0,.int .i64 k0,.slice Ab b0.length cb] 90)).drewN q) own own/\Tq w L pages sm (dV S L j) j v ok ((w7.alloc (.cells #[.int .i64 n0,.int .i64 k0,.slice Ab b0.length cb] 90)).drewN q) from
              ⟨_,false,rfl,Bt.out.quiet (j4.out.trans ⟨rfl,rfl,rfl,akf _,λ_ _ _=>rfl⟩),rD.out.trans (aa.none_ (j4.out.trans ⟨rfl,rfl,rfl,akf _,λ_ _ _=>rfl⟩)),.inr ⟨by rw [TF.out]; exact HN.out,rfl,rfl⟩⟩)
             by_cases h1:e0=L.ep
             · subst h1
               by_cases h2:s0=L.seq
               · subst h2;have hb1:((L.ep:Int) != (L.ep:Int))=false:=by simp
                 have hb2:((L.seq:Int) != (L.seq:Int))=false:=by simp
                 have hb3:(n0 != pk)=true:=by simpa using (λh=>Jj.out ⟨rfl,rfl,h⟩:¬ n0=pk)
                 go_quiet (fail)
                 go_wp2_with fail
                 go_ret3
                 first
                  | exact (jE _).out
                  | (obtain ⟨v9,o9,uR⟩:=(jE nq).out; cases o9; exact ⟨v9,.inl uR⟩; exact ⟨v9,.inr uR⟩)
                  | (obtain ⟨v9,o9,uR⟩:=(jE nq).out; cases o9; exact .inl ⟨v9,uR⟩; exact .inr ⟨v9,uR⟩)
               · have hb1:((L.ep:Int) != (L.ep:Int))=false:=by simp
                 have hb2:(s0 != (L.seq:Int))=true:=by simpa using h2
                 clear h2
                 go_quiet (fail)
                 go_wp2_with fail
                 go_ret3
                 first
                  | exact (jE _).out
                  | (obtain ⟨v9,o9,uR⟩:=(jE nq).out; cases o9; exact ⟨v9,.inl uR⟩; exact ⟨v9,.inr uR⟩)
                  | (obtain ⟨v9,o9,uR⟩:=(jE nq).out; cases o9; exact .inl ⟨v9,uR⟩; exact .inr ⟨v9,uR⟩)
             · have hb1:(e0 != (L.ep:Int))=true:=by simpa using h1
               clear h1
               go_quiet (fail)
               go_wp2_with fail
               go_ret3
               first
                | exact (jE _).out
                | (obtain ⟨v9,o9,uR⟩:=(jE nq).out; cases o9; exact ⟨v9,.inl uR⟩; exact ⟨v9,.inr uR⟩)
                | (obtain ⟨v9,o9,uR⟩:=(jE nq).out; cases o9; exact .inl ⟨v9,uR⟩; exact .inr ⟨v9,uR⟩)
       · obtain rfl:k=j:=by omega
         obtain ⟨V,h1,h2,h3,h4⟩:=HR2.out.im;obtain ⟨Ao,co,rfl,_,_,_⟩:=h3.shape;have HE:=hid (show Tq w L pages sm bytes k (.slice Ao k co) true wr from
          .inl ⟨V,by rw [ig.out]; exact h1,rfl,h2,h3.low Tx.out,λp hp=>(h4 p hp).weak (λi _ hi=>by
           rcases hi with hi | hi
           · exact .inl (ake hi Tx.out)
           · exact .inr hi)⟩)
         have Ih:=hid HR2.out.gr;clear h1 h2 h3 h4;go_wp2_with fail
         go_ret3
         exact ⟨_,true,rfl,Bt.out.quiet Ih.out,rD.out.trans (aa.none_ Ih.out),by rw [TF.out]; exact HE.out⟩
    · have hbb:(((sm:Nat):Int) != ((sum:Nat):Int))=true:=by simp; omega
      rw [if_neg hss] at ig;clear hss;go_wp2_with fail
      go_quiet ((go_at_call 120; exact Calls.quiet_of_same (vL _).out))
      go_wp2_with fail
      go_ret3
      exact ⟨_,false,rfl,HR.out.a.quiet ⟨rfl,rfl,rfl,akf _,λ_ _ _=>rfl⟩,HR.out.t.trans (aa.none_ ⟨rfl,rfl,rfl,akf _,λ_ _ _=>rfl⟩),.inr ⟨by rw [TF.out]; exact ig.out,rfl,rfl⟩⟩
structure qN (w wr:World) (B r g base:Nat) (S:St) (own:Nat->Prop) (sc:Array Value) (L0 Lk:Lg) (vr:Value) (k:Nat):Prop where
 q:mY wr B r g S own Lk
 t:aa w wr own own
 sm:Lk.ln=L0.ln/\Lk.ep=L0.ep/\Lk.broken=false
 kt:k<=Lk.taken
 lo:w.heap.size < g/\g < base/\base<=wr.heap.size
 bx:af wr w.heap.size 49 sc
 re:∃ R:List (Rec × Value),Own wr base 87 2 vr k (wU R)/\R.length=k/\(∀ p∈R,kg wr (λi=>i < w.heap.size\/i=g\/vr.ownBlock=some i) p.2 p.1.2) /\
  bF S L0.ln L0=(R.map (·.1) ++ (bF S (L0.ln - k) Lk).1,(bF S (L0.ln - k) Lk).2)
section
variable {w wr w':World} {B r g base:Nat} {S:St} {own:Nat->Prop} {sc:Array Value} {L0 Lk:Lg} {vr:Value} {k:Nat}
theorem qN.turn (h:qN w wr B r g base S own sc L0 Lk vr k) (ho:∀ i,own i->i < w.heap.size) (hd:bX w' B r S own) (ht:aa wr w' own own):qN w w' B r g base S own sc L0 Lk vr k:=by
 obtain ⟨R,h1,h2,h3,h4⟩:=h.re;have hlo:=h.lo;refine ⟨h.q.disk hd ht rfl,h.t.trans ht,h.sm,h.kt,⟨h.lo.1,h.lo.2.1,akh h.lo.2.2 ht.size⟩,aj h.bx (ht.block _ h.bx.lt (λe=>by have:=ho _ e; omega)),R,
  gT h1 (λq hv=>ht.block q (h1.bH q hv).2 (λhi=>by have:=ho _ hi; have:=(h1.bH q hv).1; omega)),h2,λp hp=>(h3 p hp).turn ?_,h4⟩
 exact ⟨ht.os,ht.tape,ht.output,ht.size,λi hi hn=>ht.block i hi (λh5=>hn (.inl (ho _ h5))),λi hi=>.inl hi⟩
theorem qN.quiet (h:qN w wr B r g base S own sc L0 Lk vr k) (ho:∀ i,own i->i < w.heap.size) (hg:wr.grownBy w' none):qN w w' B r g base S own sc L0 Lk vr k :=
 h.turn ho (h.q.quiet hg).d (aa.none_ hg)
def QL (w:World) (B r:Nat) (S:St) (own:Nat->Prop) (L0:Lg) (e:Ending) (w':World):Prop :=
 ∃ g A n c,e=.returned (.tuple #[.pointer (some ⟨g,0,none⟩),.slice A n c,.int .i64 0])/\n<=c/\w.heap.size<=g/\mY w' B r g S own (bF S L0.ln L0).2/\nI w' (λi=>i < w.heap.size\/i=g) A n (bF S L0.ln L0).1/\aa w w' own own
theorem qN.stop (h:qN w wr B r g base S own sc L0 Lk vr k) (he:bF S (L0.ln - k) Lk=([],Lk)):QL w B r S own L0 (.returned (.tuple #[.pointer (some ⟨g,0,none⟩),vr,.int .i64 0])) wr:=by
 obtain ⟨R,h1,h2,h3,h4⟩:=h.re;obtain ⟨A,c,rfl,hc,_,_⟩:=h1.shape;have hlo:=h.lo;rw [he] at h4;refine ⟨g,A,k,c,rfl,hc,by omega,by rw [h4]; exact h.q,?_,h.t⟩;rw [h4,List.append_nil];refine D7 h1 h2 (λi hb _ hi=>by omega) (λp hp=>(h3 p hp).weak (λi _ hi=>?_));rcases hi with hi | hi
 · exact .inl hi
 · exact .inr (.inl hi)
theorem qN.next {w3 w5 w6:World} (h:qN w wr B r g base S own sc L0 Lk vr k) (ho:∀ i,own i->i < w.heap.size) {R:List (Rec × Value)} (r1:Own wr base 87 2 vr k (wU R)) (r2:R.length=k)
 (r3:∀ p∈R,kg wr (λi=>i < w.heap.size\/i=g\/vr.ownBlock=some i) p.2 p.1.2) (r4:bF S L0.ln L0=(R.map (·.1) ++ (bF S (L0.ln - k) Lk).1,(bF S (L0.ln - k) Lk).2)) {l:List ax} {vi:Value}
 (him:kg wr (λi=>i < w.heap.size\/i=g\/vr.ownBlock=some i) vi l) (hr0:Lk.room≠0) (hfr:ji S Lk=some l) (h3:wr.grownBy w3 none) {v':Value}
 (hown:Own w5 base 87 2 v' (k+1) (wU R ++ [.int .i64 (Lk.seq:Nat),vi])) (hgr:bS w3 w5 vr v')
 (GJ:lK w6 g r (Lk.pass (1+l.length))) (ic:w5.grownBy w6 (some g)) (mf:Lk.seq<=1099511627775):qN w w6 B r g base S own sc L0 (Lk.pass (1+l.length)) v' (k+1):=by
 have hlo:=h.lo;have hvb:∀ q,vr.ownBlock=some q->base<=q:=λq hq=>(r1.bH q hq).1
 have hrm:=AB hfr;have hkt:=h.kt;have hroom:Lk.room=Lk.ln - Lk.taken:=by
  unfold Lg.room;rw [h.sm.2.2]; rfl
 have hq3:=h.q.quiet h3;have Eo:mY w5 B r g S own Lk:=⟨eH hq3.d hgr.1 (λq e he=>by have:=hvb q e; have:=ho _ he; omega),af.grown hq3.l hgr.1 (λe=>by have:=hvb g e.symm; omega),hq3.k,hq3.far,akh hq3.low hgr.1.size⟩;have hq6:=Eo.row ic GJ (Eo.k.pass hrm mf);have dL:aa w w5 own own:=⟨hgr.1.os.trans (h3.os.trans h.t.os),hgr.1.tape.trans (h3.tape.trans h.t.tape),hgr.1.output.trans (h3.output.trans h.t.output),akh h.t.size (akh h3.size hgr.1.size),
  λi hi hno=>((hgr.1.block i (ake hi (akh h.t.size h3.size)) (λe=>by have:=hvb i e.symm; omega)).trans (h3.block i (ake hi h.t.size) (by simp))).trans (h.t.block i hi hno),λi hi=>.inl hi⟩
 have hP:aa wr w6 (λi=>(i < w.heap.size\/i=g)\/vr.ownBlock=some i) (λi=>(i < w.heap.size\/i=g)\/v'.ownBlock=some i) :=
  ((aa.none_ h3).trans (oU hgr)).trans (aa.aA ic (λq e=>by cases e; exact .inl (.inr rfl)))
 have hw:∀ {v:Value} {y:List ax},kg wr (λi=>i < w.heap.size\/i=g\/vr.ownBlock=some i) v y->kg w6 (λi=>i < w.heap.size\/i=g\/v'.ownBlock=some i) v y:=fun {v y} hv =>
  ((hv.weak (Q:=λi=>(i < w.heap.size\/i=g)\/vr.ownBlock=some i) (λi _ hi=>by rcases hi with (hi | hi) | hi; exact .inl hi; exact .inr (.inl hi); exact .inr (.inr hi))).turn hP).weak (λi _ hi=>by rcases hi with hi | hi | hi; exact .inl (.inl hi); exact .inl (.inr hi); exact .inr hi)
 refine ⟨hq6,kG dL ic (by omega),h.sm,?_,⟨hlo.1,hlo.2.1,akh hlo.2.2 (akh h3.size (akh hgr.1.size ic.size))⟩,?_,R ++ [(((Lk.seq:Int),l),vi)],?_,by rw [akl,r2]; rfl,?_,?_⟩
 · show k+1<=Lk.taken+(1+l.length);omega
 · exact ((h.bx.grown h3 (by simp)).grown hgr.1 (λe=>by have:=hvb _ e.symm; omega)).grown ic (by simp; omega)
 · rw [Mr];exact hown.keep ic (λq e1 e2=>by
    cases e2
    have:=(hown.bH g e1).1;omega)
 · intro p hp;rcases List.mem_append.1 hp with hp | hp
   · exact hw (r3 p hp)
   · simp at hp
     subst hp;exact hw him
 · have hln:=h.sm.1;have htk:=h.q.k.taken;rw [r4,show L0.ln - k=(L0.ln - (k+1))+1 from by omega,xe hr0 hfr,List.map_append]
   simp
end
theorem aag {w:World} {B r:Nat} {S:St} {own:Nat->Prop} (h:bX w B r S own) (hB:B<=w.heap.size) (hf:S.f1=0) (gn pg:Int) (ep st ln hd sq:Nat) (hm:aL [gn,(ep:Int),pg,(st:Int),(ln:Int),(hd:Int),(sq:Int)] (S.n:Nat)=true) :
 Calls Tryz.prog 28 #[.pointer (some ⟨r,0,none⟩),.agg #[.int .i64 gn,.int .i64 (ep:Nat),.int .i64 pg,.int .i64 (st:Nat),.int .i64 (ln:Nat),.int .i64 (hd:Nat),.int .i64 (sq:Nat)]] w (QL w B r S own (Lg.new gn ep pg st ln hd sq)):=by
 obtain ⟨i0,hi0,hz0,hz1,hz2⟩:=info_parts D9;have hi:=hid hi0; have z0':=hid hz0; have z1':=hid hz1; have z2':=hid hz2;have hga:=aj9 w (.cells #[.int .i64 gn,.int .i64 (ep:Nat),.int .i64 pg,.int .i64 (st:Nat),.int .i64 (ln:Nat),.int .i64 (hd:Nat),.int .i64 (sq:Nat)] 49) none;have hd1:=eH h hga (λj e=>by cases e);have nJ:=hid (Me hd1 gn pg ep st ln hd sq (by unfold dY; rw [hm]; rfl))
 have HO:=hid (λi (hi:own i)=>eP h hi);have HF:=hid hf;have aU:=hid (zt hm).1;have Jh:=hid (wV h);have hb:=af.new w 49 #[.int .i64 gn,.int .i64 (ep:Nat),.int .i64 pg,.int .i64 (st:Nat),.int .i64 (ln:Nat),.int .i64 (hd:Nat),.int .i64 (sq:Nat)];have x0:=hb.cell 0; have x1:=hb.cell 1; have x2:=hb.cell 2; have x3:=hb.cell 3; have x4:=hb.cell 4; have x5:=hb.cell 5; have x6:=hb.cell 6;simp only [akb,aka,akc] at x0 x1 x2 x3 x4 x5 x6
 have ads:=hid (show w.heap.size < (w.alloc (.cells #[.int .i64 gn,.int .i64 (ep:Nat),.int .i64 pg,.int .i64 (st:Nat),.int .i64 (ln:Nat),.int .i64 (hd:Nat),.int .i64 (sq:Nat)] 49)).heap.size from by simp);have jR:=hid hb; have bz:=hid hga; have HD1:=hid hd1;clear h hf hm hga hb hi0 hz0 hz1 hz2 hd1;go_enter Tryz.func28,Tryz.ntmps28;go_wp2_with fail;refine nJ.out.mono ?_;rintro e w1 ⟨g,rfl,hge,hla,hg1⟩
 generalize hL0:Lg.new gn ep pg st ln hd sq=L0 at *;have HS:=hid (show L0.ln=ln/\L0.ep=ep/\L0.broken=false/\L0.seq=sq from by subst hL0; exact ⟨rfl,rfl,rfl,rfl⟩);clear hL0;have H1:=hid (show qN w w1 B r g w1.heap.size S own #[.int .i64 gn,.int .i64 (ep:Nat),.int .i64 pg,.int .i64 (st:Nat),.int .i64 (ln:Nat),.int .i64 (hd:Nat),.int .i64 (sq:Nat)] L0 L0 (.slice none 0 0) 0 from
  ⟨⟨eH HD1.out hg1 (λj e=>by cases e),hla,aU.out,λe=>by have:=HO.out _ e; have:=bz.out.size; omega,akh hB (bz.out.trans hg1).size⟩,aa.none_ (bz.out.trans hg1),⟨rfl,rfl,HS.out.2.2.1⟩,aks _,⟨ake ads.out hge,af.lt hla,akf _⟩,jR.out.grown hg1 (by simp),[],Own.nil _ _ _ _,rfl,by simp,by simp⟩)
 clear hge hla hg1 nJ bz jR HD1 ads x0 x1 x2 x3 x4 x5 x6;generalize hbs:w1.heap.size=base at *;clear hbs;go_wp2_with fail
 go_loopw [8,9,10,11,12,13,14,15] (λv _ _ _ _ _ _ _ wr=>∃ (k:Nat) (Lk:Lg),Lk.seq=L0.seq+k/\qN w wr B r g base S own #[.int .i64 gn,.int .i64 (ep:Nat),.int .i64 pg,.int .i64 (st:Nat),.int .i64 (ln:Nat),.int .i64 (hd:Nat),.int .i64 (sq:Nat)] L0 Lk v k) (λv _ _ _ _ _ _ _ _=>match v with | .slice _ n _=>L0.ln - n | _=>0)
 case atStart=>exact ⟨0,L0,rfl,H1.out⟩
 case round =>
  clear H1;obtain ⟨k,Lk,hks,hoa⟩:=hrel;have HA:=hid hoa;have hkk:=hoa.q.k;have htk:=hkk.taken; have hfit:=hkk.fit; have hkt:=hoa.kt; have htl:=hkk.tail; have Co:=hkk.low;have hln:Lk.ln=ln:=hoa.sm.1.trans HS.out.1;have EZ:=hid (show Lk.ep=ep from hoa.sm.2.1.trans HS.out.2.1);have htop:=Jh.out.top;have hroom:Lk.room=Lk.ln - Lk.taken:=by unfold Lg.room; rw [hoa.sm.2.2]; rfl
  have bB:=hid hroom;have HKS:=hid hks; have HKK:=hid hkk;have zJ:=hid hln;have hlb:ln<=4096:=by omega
  have aiZ:Lk.taken<=ln:=by omega
  clear hoa hkk hks;obtain ⟨R,r1,_⟩:=HA.out.re;obtain ⟨A0,c0,rfl,_,_,_⟩:=r1.shape;clear r1;have y10:=HA.out.q.l.cells.2.2.2.2.2.2.2.2.2.2.1;have s4:=HA.out.bx.cell 4;simp only [akb,aka,akc] at s4;clear hln hroom;go_wp2_with fail
  go_quiet (fail)
  have HA1:=hid (HA.out.quiet HO.out (show wr.grownBy (wr.drewN nq) none from ⟨rfl,rfl,rfl,akf _,λ_ _ _=>rfl⟩));clear HA y10 s4;generalize wr.drewN nq=wa at *
  by_cases h0:Lk.room=0
  · have Zt:¬ ((Lk.taken:Int) < (ln:Int)):=by have:=bB.out; have:=zJ.out; omega
    have HE:=hid (HA1.out.stop (rY h0));go_wp2_with fail
    go_ret3
    exact HE.out
  · have Zt:(Lk.taken:Int) < (ln:Int):=by have:=bB.out; have:=zJ.out; omega
    have y8:=HA1.out.q.l.cells.2.2.2.2.2.2.2.2.1;obtain ⟨sc,hsc⟩:∃ sc:Nat,Lk.sec 0=sc:=⟨_,rfl⟩;have X4:sc < S.n:=by rw [<-hsc]; exact Lg.LZ HKK.out _
    have hse:Lk.st+Lk.tail % Lk.ln=sc:=by rw [<-hsc]; rfl
    have tC:=hid (show Calls Tryz.prog 75 #[.pointer (some ⟨g,0,none⟩),.int .i64 (Lk.tail:Nat)] wa λe w'=>e=.returned (.int .i64 (sc:Nat))/\∃ m,w'=wa.drewN m from by
     rw [<-hse]; exact yf HA1.out.q.l Lk.tail (by omega) Co (by omega))
    have hre:=zY HF.out X4;have gW:=λ(wx:World) (hd:bX wx B r S own)=>hid (rU hd (sc:Nat) 1 (by omega) (by omega))
    simp only [hre.1,hre.2] at gW;have gW:=hid gW;have HNS:=hid (S.jU Jh.out sc);have ZC:=hid hsc;clear hre hse hsc
    go_wp2_with (first
     | (go_at_call 75
        (with_reducible refine tC.out.mono ?_)
        rintro e w2 ⟨rfl,m2,abF⟩;have HG2:=hid (show wa.grownBy w2 none from by subst abF; exact ⟨rfl,rfl,rfl,akf _,λ_ _ _=>rfl⟩);have HA2:=hid (HA1.out.quiet HO.out HG2.out);clear abF)
     | (go_at_call 73
        (with_reducible refine (gW.out _ HA2.out.q.d).out.mono ?_)
        rintro e w3 ⟨v3,rfl,hown,hd3,ht3⟩;have pV:=hid (HA2.out.turn HO.out hd3 ht3);rw [HNS.out.1] at hown;obtain ⟨A3,c3,rfl,hby,_,_⟩:=nZ hown HNS.out.2;have Df:=hid (Mk _ A3 256 c3 (S.now sc) w3 hby (by omega));clear hown hd3 ht3 hby))
    clear HA1 tC gW HA2 HG2
    cases hh:eU (S.now sc) with
    | none =>
      have HE:=λwx hx=>hid ((hx:qN w wx B r g base S own #[.int .i64 gn,.int .i64 (ep:Nat),.int .i64 pg,.int .i64 (st:Nat),.int .i64 (ln:Nat),.int .i64 (hd:Nat),.int .i64 (sq:Nat)] L0 Lk (.slice A0 k c0) k).stop (om (sG (by rw [ZC.out]; exact hh))))
      have HE:=hid HE;rw [hh] at Df;clear hh;refine Df.out.mono ?_;rintro e w4 ⟨hg4,⟨_,_,_,_,_,ho,_⟩ | ⟨_,rfl⟩⟩
      case inl=>cases ho
      have OW:=hid ((pV.out.quiet HO.out hg4).quiet HO.out (aj9 w4 (.cells #[.int .i64 0,.int .i64 0,.slice none 0 0,.int .u32 0] 130) none));clear hg4;go_wp2_with fail
      go_region
      have WU:=hid (HE.out _ (OW.out.quiet HO.out (ah _ none)));go_wp2_with fail
      go_ret3
      exact WU.out.out
    | some p =>
      obtain ⟨e1,s1,pages,sum⟩:=p;have hw:=kR (GK hh);obtain ⟨_,_,hp1,Nh,_⟩:=iM hw.2;rw [hh] at Df;have HH:=hid (show eU (S.now (Lk.sec 0))=some (e1,s1,pages,sum) from by rw [ZC.out]; exact hh);clear hh hw;refine Df.out.mono ?_;rintro e w4 ⟨hg4,⟨e1',s1',p1,m1,v,ho,rfl,hown,Ng,hsm⟩ | ⟨ho,_⟩⟩
      case inr=>cases ho
      cases ho
      obtain ⟨n,hn⟩:∃ n,pages.length=n:=⟨_,rfl⟩;rw [hn] at hown hp1 Nh;have HN:=hid hn;obtain ⟨gp,cp,rfl,oD,hcp,hin⟩:=Eg (b:=w.heap.size) hown Ng pV.out.bx.lt hp1;have hga:=aj9 w4 (.cells #[.int .i64 e1,.int .i64 s1,.slice (some ⟨gp,0,none⟩) n cp,.int .u32 (sum:Nat)] 130) none;have sU:=hid ((pV.out.quiet HO.out hg4).quiet HO.out hga);have pM:=hid (kN hin hga (.inl rfl));have Ij:=hid (show w.heap.size<=gp from by have:=pV.out.bx.lt; omega)
      have zK:=hid (af.new w4 130 #[.int .i64 e1,.int .i64 s1,.slice (some ⟨gp,0,none⟩) n cp,.int .u32 (sum:Nat)]);have Ht:=hid hsm;have aji:=hid (show base<=w4.heap.size from by have:=pV.out.lo.2.2; have:=hg4.size; omega);clear hg4 hown Ng hsm hga hin hn oD Df pV;go_upto_region 10 with fail;generalize w4.alloc (.cells #[.int .i64 e1,.int .i64 s1,.slice (some ⟨gp,0,none⟩) n cp,.int .u32 (sum:Nat)] 130)=w5 at *
      generalize w4.heap.size=hb at *;have z0:=zK.out.cell 0; have z1:=zK.out.cell 1; have z2:=zK.out.cell 2; have z3:=zK.out.cell 3;have u1:=sU.out.bx.cell 1; have u4:=sU.out.bx.cell 4;simp only [akb,aka,akc] at z0 z1 z2 z3 u1 u4;have y9:=sU.out.q.l.cells.2.2.2.2.2.2.2.2.2.1;have y10:=sU.out.q.l.cells.2.2.2.2.2.2.2.2.2.2.1
      by_cases hy:e1=(Lk.ep:Int)/\s1=(Lk.seq:Int)/\1+pages.length<=Lk.room
      · obtain ⟨rfl,rfl,hr3⟩:=hy;have Q6:=hid (uU HH.out ⟨rfl,rfl,hr3⟩);have hq1:((Lk.ep:Int) != (ep:Int))=false:=by have:=EZ.out; simp; omega
        have hq2:((Lk.seq:Int) != (Lk.seq:Int))=false:=by simp
        have hq3:¬ ((ln:Int) - (Lk.taken:Int) < 1+(n:Int)):=by have h3:=HN.out; have h4:=bB.out; have h5:=zJ.out; omega
        have HR3:=hid hr3;have HZ:=hid z3;clear hr3;go_wp2_with fail
        go_quiet (fail)
        have Bt:=hid (sU.out.quiet HO.out (show w5.grownBy (w5.drewN nq) none from ⟨rfl,rfl,rfl,akf _,λ_ _ _=>rfl⟩));have adC:=hid (show Ints (w5.drewN nq) w.heap.size (some ⟨gp,0,none⟩) n pages from pM.out);have OE:=hid (show af (w5.drewN nq) hb 130 #[.int .i64 (Lk.ep:Nat),.int .i64 (Lk.seq:Nat),.slice (some ⟨gp,0,none⟩) n cp,.int .u32 (sum:Nat)] from zK.out);clear sU pM zK z0 z1 z2 z3 u1 u4 y9 y10
        generalize w5.drewN nq=w6 at *;have z0:=OE.out.cell 0; have z1:=OE.out.cell 1; have z2:=OE.out.cell 2; have z3:=OE.out.cell 3;simp only [akb,aka,akc] at z0 z1 z2 z3;have jC:=hid (Ur Bt.out.q HF.out (Lk.ep:Int) (Lk.seq:Int) (some ⟨gp,0,none⟩) n cp sum pages HN.out (λh0=>by
         obtain ⟨gq,oq,e,hlt,_,hc⟩:=adC.out.2.2 h0;exact ⟨gq,oq,e,hlt,hc⟩) (λgq o e he=>by cases e; have:=HO.out _ he; have:=Ij.out; omega) Nh hcp Ht.out)
        go_wp2_with fail;refine jC.out.mono ?_;rintro e w7 ⟨vi,ok,rfl,Zf,J8,hsi⟩;have OV:=hid (Bt.out.turn HO.out Zf.d J8);have QV:=hid hsi;have CQ:=hid J8;clear Zf J8 hsi;rcases QV.out with ⟨V,hbr,rfl,hVl,hVo,jO⟩ | ⟨hbr,rfl,rfl⟩
        · have hlen:(V.map (·.1)).length=n:=by rw [List.length_map,hVl]
          have Di:=hid (show ji S Lk=some (V.map (·.1)) from by rw [Q6.out,HN.out]; exact hbr);obtain ⟨A2,c2,rfl,hc2,_,_⟩:=hVo.shape;have HIV:=hid (show kg w7 (λi=>i < w.heap.size\/i=g\/(Value.slice A0 k c0).ownBlock=some i) (.slice A2 n c2) (V.map (·.1)) from by
           have hlo:=Bt.out.lo;have hsz:=Bt.out.t.size;obtain ⟨R6,q6,_⟩:=Bt.out.re;have hlt:∀ i,(i < w.heap.size\/i=g\/(Value.slice A0 k c0).ownBlock=some i)->i < w6.heap.size:=λi hi=>by
            rcases hi with hi | hi | hi
            · omega
            · omega
            · exact (q6.bH i hi).2
           exact ⟨A2,n,c2,rfl,hc2,uy hVo hVl (λi hb _ hp=>by have:=hlt i hp; omega) (λp hp=>(jO p hp).weak (λi _ hi=>.inl (hlt i hi)))⟩)
          obtain ⟨l,hl⟩:∃ l,V.map (·.1)=l:=⟨_,rfl⟩;rw [hl] at Di HIV hlen;clear hl hbr hVl hVo jO QV Bt adC OE jC;have y9:=OV.out.q.l.cells.2.2.2.2.2.2.2.2.2.1;obtain ⟨R,r1,r2,r3,r4⟩:=OV.out.re;have HR1:=hid r1; have HR2:=hid r2; have agR:=hid r3; have HR4:=hid r4;have hkl:k < L0.ln:=by have h1:=HS.out.1; have h2:=zJ.out; have h3:=HR3.out; have h4:=bB.out; omega
          have gV:=hid (show base<=w7.heap.size from OV.out.lo.2.2);clear r1 r2 r3 r4
          go_wp2_with (at_builtin
                       refine ai _ rfl (.tmp 92) (.tmp 99) _ rfl base 87 i0 _ 2 32 Tryz.underlying83 hi.out z0'.out z1'.out z2'.out rfl (by omega) _ k _ rfl (HR1.out.alloc _)
                        _ _ 1 1 _ rfl (zi _ w7.heap.size rfl _ _) (λu hu=>by simp at hu; rcases hu with rfl | rfl <;> rfl) (by simp only [maxLen]; omega) (by omega) (by have:=gV.out; simp; omega) ?_
                       intro v' w8 hown' dC;have HO8:=hid hown'; have j4:=hid dC;clear hown' dC)
          have hal:=aj9 w7 (.cells #[.int .i64 (Lk.seq:Nat),.slice A2 n c2] 87) none;have OT:=hid hal;have hvb:∀ q,(Value.slice A0 k c0).ownBlock=some q->base<=q:=λq hq=>(HR1.out.bH q hq).1
          have hl8:lK w8 g r Lk:=af.grown (af.grown OV.out.q.l hal (by simp)) j4.out.1 (λe=>by have:=hvb g e.symm; have:=OV.out.lo.2.1; omega);have hseq:Lk.seq<=1099511627775:=(FE Di.out).2.2;have CR:=hid hseq;have ES:=hid (BK hl8 (1+n) (by omega) Co (by omega) (by omega) (by omega) (by omega));have hcast:((1:Int)+(n:Int))=((1+n:Nat):Int):=by omega
          clear hl8 hal
          go_wp2_with (go_at_call 78
                       (try rw [hcast])
                       refine ES.out.mono ?_;rintro e w9 ⟨rfl,kP,qY⟩;have sO:=hid kP; have EY:=hid qY;clear kP qY)
          have CX:=hid (OV.out.next HO.out HR1.out HR2.out agR.out HR4.out HIV.out h0 Di.out OT.out HO8.out j4.out (by rw [hlen]; exact sO.out) EY.out CR.out);rw [hlen] at CX;have ng:=hid (show (Lk.pass (1+n)).seq=L0.seq+(k+1) from by show Lk.seq+1=_; have:=HKS.out; omega);obtain ⟨R9,q9,_⟩:=CX.out.re;obtain ⟨A9,c9,rfl,_,_,_⟩:=q9.shape;clear q9
          go_roundw
          case rel=>exact ⟨k+1,_,ng.out,CX.out⟩
          case measure=>simp; omega
        · have HE:=hid (OV.out.stop (om (by rw [Q6.out,HN.out]; exact hbr)));go_wp2_with fail
          go_ret3
          exact HE.out
      · have HE:=hid (λwx (hx:qN w wx B r g base S own #[.int .i64 gn,.int .i64 (ep:Nat),.int .i64 pg,.int .i64 (st:Nat),.int .i64 (ln:Nat),.int .i64 (hd:Nat),.int .i64 (sq:Nat)] L0 Lk (.slice A0 k c0) k)=>hid (hx.stop (om (xB HH.out hy))));have HY:=hid hy;clear hy
        by_cases he:e1=(ep:Int)
        · by_cases hs:s1=(Lk.seq:Int)
          · have hq:(ln:Int) - (Lk.taken:Int) < 1+(n:Int):=by have h1:=HY.out; have h2:=EZ.out; have h3:=HN.out; have h4:=bB.out; have h5:=zJ.out; rcases Nat.lt_or_ge Lk.room (1+pages.length) with h6 | h6; omega; exact absurd ⟨by rw [h2]; exact he,hs,h6⟩ h1
            have hq1:(e1 != (ep:Int))=false:=by simpa using he
            have hq2:(s1 != (Lk.seq:Int))=false:=by simpa using hs
            clear HY;go_wp2_with fail
            go_region
            have WT:=hid (HE.out _ (sU.out.quiet HO.out (ah _ none)));go_wp2_with fail
            go_ret3
            exact WT.out.out
          · have hq1:(e1 != (ep:Int))=false:=by simpa using he
            have hq2:(s1 != (Lk.seq:Int))=true:=by simpa using hs
            clear HY;go_wp2_with fail
            go_region
            have WT:=hid (HE.out _ (sU.out.quiet HO.out (ah _ none)));go_wp2_with fail
            go_ret3
            exact WT.out.out
        · have hq1:(e1 != (ep:Int))=true:=by simpa using he
          clear HY;go_wp2_with fail
          go_region
          have WT:=hid (HE.out _ (sU.out.quiet HO.out (ah _ none)));go_wp2_with fail
          go_ret3
          exact WT.out.out
end Go.Proofs.YtinajlbijgedbaaGreat.RLog
