/- Texts of this seat's proofs: RelCalls, RelLowF, RelVer, RelVerO, RelGrow, RelUse, RelLaw, RelFirst. -/
import Derived.Test.YtinajlbijgedbaaGreatQRefStoSwitch
import Derived.Test.YtinajlbijgedbaaGreatQRefStoIdle
import Derived.Test.YtinajlbijgedbaaGreatQStoCopy
import Derived.Test.YtinajlbijgedbaaGreatQStoUse
import Derived.Test.YtinajlbijgedbaaGreatQStoLatest
import Derived.Test.YtinajlbijgedbaaGreatQStoSmall
import Derived.Test.YtinajlbijgedbaaGreatQCodecSpec
set_option linter.unusedVariables false
namespace Go.Proofs.YtinajlbijgedbaaGreat.Both
open Go.RowKit CrcMath CodecMath Mem Crc Codec DiskSpec Dsk Sup Log Sto RSto
section
variable {W w w':World} {K K':Nat->Prop} {L:BL} {M:BM} {s s' t t':Sto} {tg je tu FU:Option (Int × Int)}
def lQ (W w:World) (K:Nat->Prop) (L:BL) (s t:Sto) (tg tu:Option (Int × Int)) (z:Int) (e:Ending) (w':World):Prop :=
 e=.returned (.int .i64 z)/\(∃ M,Bo W w' K L M s t tg tu)/\(∀ i,K i->w'.heap[i]?=w.heap[i]?)/\w.heap.size<=w'.heap.size
theorem ad9 (h:Bo W w K L M s t tg tu) (a c:Int):Calls Tryz.prog 20 #[.pointer (some ⟨L.mb,0,none⟩),.int .i64 a,.int .i64 c] w (lQ W w K L s t (qK s 400 tg (a,c)).2 tu (qK s 400 tg (a,c)).1):=by
 refine (JH h.p h.m a c).mono ?_;rintro e w' ⟨rfl,h1,h2,h3⟩;have:=h.prog h1 h2 (nS h3);exact ⟨rfl,⟨_,this.1⟩,this.2,h3.size⟩
theorem aek (h:Bo W w K L M s t tg tu) (a c:Int):Calls Tryz.prog 32 #[.pointer (some ⟨L.nb,0,none⟩),.int .i64 a,.int .i64 c] w (lQ W w K L s t tg (qK t 400 tu (a,c)).2 (qK t 400 tu (a,c)).1):=by
 refine (aa6 h.d h.n (.inr (.inr (.inl rfl))) a c).mono ?_;rintro e w' ⟨rfl,h1,h2,h3⟩;have:=h.SI h1 h2 (nS h3);exact ⟨rfl,⟨_,this.1⟩,this.2,h3.size⟩
def Zy (w:World) (K:Nat->Prop) (s:Sto) (tg:Option (Int × Int)) (P:World->Sto->Option (Int × Int)->Prop) (e:Ending) (w':World):Prop :=
 ∃ dn er s' je,e=.returned (.tuple #[.bool dn,.int .i64 er])/\jk s tg dn er s' je/\P w' s' je/\(∀ i,K i->w'.heap[i]?=w.heap[i]?)/\w.heap.size<=w'.heap.size
theorem abe (h:Bo W w K L M s t tg tu) (hv:∀ i,(s.S.ae i).length < 549755600000):Calls Tryz.prog 21 #[.pointer (some ⟨L.mb,0,none⟩)] w (Zy w K s tg (λw' s' je=>∃ M,Bo W w' K L M s' t je tu)):=by
 refine (Gd h.p h.m (λi=>by have:=hv i; omega)).mono ?_;rintro e w' ⟨dn,er,own',g',s',je,rfl,hs,h1,h2,h3⟩;have:=h.prog h1 h2 h3;exact ⟨dn,er,s',je,rfl,hs,⟨_,this.1⟩,this.2,h3.size⟩
theorem acG (h:Bo W w K L M s t tg tu) (hv:∀ i,(t.S.ae i).length < 549755600000):Calls Tryz.prog 33 #[.pointer (some ⟨L.nb,0,none⟩)] w (Zy w K t tu (λw' t' FU=>∃ M,Bo W w' K L M s t' tg FU)):=by
 refine (aae h.d h.n (.inr (.inr (.inl rfl))) (λi=>by have:=hv i; omega)).mono ?_;rintro e w' ⟨dn,er,own',g',s',je,rfl,hs,h1,h2,h3⟩;have:=h.SI h1 h2 h3;exact ⟨dn,er,s',je,rfl,hs,⟨_,this.1⟩,this.2,h3.size⟩
theorem XD (h:Bo W w K L M s t tg tu):Calls Tryz.prog 34 #[.pointer (some ⟨L.mb,0,none⟩)] w λe w'=>e=.returned (.tuple #[])/\(∃ M,Bo W w' K L M s t none tu)/\(∀ i,K i->w'.heap[i]?=w.heap[i]?)/\w.heap.size<=w'.heap.size:=by
 refine (Gf h.m).mono ?_;rintro e w' ⟨rfl,h1,h2⟩;have:=h.prog (h.p.mover h.m h2) h1 (nS h2);exact ⟨rfl,⟨_,this.1⟩,this.2,h2.size⟩
theorem Bo.given (h:Bo W w K L M s t tg tu):w.cell? ⟨L.nb,2,none⟩=some (.bool tu.isSome)/\w.frozen? ⟨L.nb,2,none⟩=false/\(∃ M,Bo W (w.setCell ⟨L.nb,2,none⟩ (.bool false)) K L M s t tg none)/\(∀ i,K i->(w.setCell ⟨L.nb,2,none⟩ (.bool false)).heap[i]?=w.heap[i]?):=by
 obtain ⟨st,ln,hb,hp⟩:=h.n;have hg:=akd (akr w (some L.nb)) 2 (.bool false);have hd:aQ (ZD L M K) (w.setCell ⟨L.nb,2,none⟩ (.bool false)) W.heap.size L.r M.rg L.q M.ro t:=h.d.mover (.inr (.inr (.inl rfl))) hg;have:=h.SI (FU:=none) hd ⟨st,ln,hb.aC 2 _,λp e=>by cases e⟩ (nS hg);exact ⟨by rw [hb.cell]; rfl,hb.frozen 2,⟨_,this.1⟩,this.2⟩
theorem aar (h:Bo W w K L M s t tg tu):Calls Tryz.prog 16 #[.pointer (some ⟨L.sb,0,none⟩)] w (lQ W w K L (fH s).2 t tg tu (fH s).1):=by
 refine (Js h.p).mono ?_;rintro e w' ⟨rfl,mQ,h1,h2⟩;have:=h.Gr h1 h2;exact ⟨rfl,⟨_,this.1⟩,this.2,h2.size⟩
theorem aaL (h:Bo W w K L M s t tg tu):Calls Tryz.prog 35 #[.pointer (some ⟨L.q,0,none⟩)] w (lQ W w K L s (fH t).2 tg tu (fH t).1):=by
 refine (Xq h.d).mono ?_;rintro e w' ⟨rfl,own',h1,h2⟩;have:=h.G6 h1 h2;exact ⟨rfl,⟨_,this.1⟩,this.2,h2.size⟩
theorem aaq (h:Bo W w K L M s t tg tu) (p:Int) {g:Nat} {b:List Nat} (hb:af w g 5 (au b).toArray) (hl:b.length=240) (hlt:∀ x∈b,x < 256) (hg:¬ PF L M g) :
 Calls Tryz.prog 17 #[.pointer (some ⟨L.sb,0,none⟩),.int .i64 p,.agg #[.int .i64 5,.slice (some ⟨g,0,none⟩) 240 240]] w (lQ W w K L (bQ s p (5,b)).2 t tg tu (bQ s p (5,b)).1):=by
 have hd:=lG (own:=PF L M) hb hlt hg;rw [hl] at hd;have hv:rA w (PF L M) (.agg #[.int .i64 5,.slice (some ⟨g,0,none⟩) 240 240]) (5,b):=⟨_,rfl,_,_,_,rfl,akf _,hd⟩;have key:Calls Tryz.prog 17 #[.pointer (some ⟨L.sb,0,none⟩),.int .i64 p,.agg #[.int .i64 5,.slice (some ⟨g,0,none⟩) 240 240]] w (uX (ZP L M K) w W.heap.size L.b L.tb M.g L.sb L.dm M.wm M.own (bQ s p (5,b))):=by
  cases hW:s.W with
  | none=>exact xX h.p p hv (.inl hW)
  | some U =>
    cases hp:s.has p with
    | false=>exact xX h.p p hv (.inr hp)
    | true=>exact Jr h.p p hv hW hp
 refine key.mono ?_;rintro e w' ⟨rfl,own',h1,h2⟩;have:=h.Gr h1 h2;exact ⟨rfl,⟨_,this.1⟩,this.2,h2.size⟩
theorem aaK (h:Bo W w K L M s t tg tu) (p:Int) {g:Nat} {b:List Nat} (hb:af w g 5 (au b).toArray) (hl:b.length=240) (hlt:∀ x∈b,x < 256) :
 Calls Tryz.prog 36 #[.pointer (some ⟨L.q,0,none⟩),.int .i64 p,.agg #[.int .i64 5,.slice (some ⟨g,0,none⟩) 240 240]] w (lQ W w K L s (bQ t p (5,b)).2 tg tu (bQ t p (5,b)).1):=by
 have hd:=lG (own:=λ_=>False) hb hlt (λe=>e);rw [hl] at hd;have hv:cO w (λ_=>False) (.slice (some ⟨g,0,none⟩) 240 240) b:=⟨_,_,_,rfl,akf _,hd⟩;have key:Calls Tryz.prog 36 #[.pointer (some ⟨L.q,0,none⟩),.int .i64 p,.agg #[.int .i64 5,.slice (some ⟨g,0,none⟩) 240 240]] w (eD (ZD L M K) w W.heap.size L.r M.rg L.q M.ro (bQ t p (5,b))):=by
  cases hW:t.W with
  | none=>exact yN h.d p hv (.inl hW)
  | some U =>
    cases hp:t.has p with
    | false=>exact yN h.d p hv (.inr (.inl hp))
    | true =>
      cases ho:bA p 5 b with
      | false=>exact yN h.d p hv (.inr (.inr ho))
      | true=>exact Ma h.d p hv hW hp ho
 refine key.mono ?_;rintro e w' ⟨rfl,own',h1,h2⟩;have:=h.G6 h1 h2;exact ⟨rfl,⟨_,this.1⟩,this.2,h2.size⟩
theorem XC (h:Bo W w K L M s t tg tu) (hv:∀ i,(s.S.ae i).length < 549755600000):Calls Tryz.prog 19 #[.pointer (some ⟨L.sb,0,none⟩)] w (lQ W w K L (dh s).2 t tg tu (dh s).1):=by
 refine (F4 h.p hv).mono ?_;rintro e w' ⟨rfl,own',h1,h2⟩;have:=h.Gr h1 h2;exact ⟨rfl,⟨_,this.1⟩,this.2,h2.size⟩
theorem YC (h:Bo W w K L M s t tg tu) (hv:∀ i,(t.S.ae i).length < 549755600000):Calls Tryz.prog 37 #[.pointer (some ⟨L.q,0,none⟩)] w (lQ W w K L s (dh t).2 tg tu (dh t).1):=by
 refine (Un h.d hv).mono ?_;rintro e w' ⟨rfl,own',h1,h2⟩;have:=h.G6 h1 h2;exact ⟨rfl,⟨_,this.1⟩,this.2,h2.size⟩
theorem abd (h:Bo W w K L M s t tg tu):Calls Tryz.prog 38 #[.pointer (some ⟨L.sb,0,none⟩)] w (lQ W w K L (kH s).2 t tg tu (kH s).1):=by
 refine (Xd h.p).mono ?_;rintro e w' ⟨rfl,own',h1,h2⟩;have:=h.Gr h1 h2;exact ⟨rfl,⟨_,this.1⟩,this.2,h2.size⟩
theorem acF (h:Bo W w K L M s t tg tu):Calls Tryz.prog 39 #[.pointer (some ⟨L.q,0,none⟩)] w (lQ W w K L s (kH t).2 tg tu (kH t).1):=by
 refine (aad h.d).mono ?_;rintro e w' ⟨rfl,own',h1,h2⟩;have:=h.G6 h1 h2;exact ⟨rfl,⟨_,this.1⟩,this.2,h2.size⟩
theorem QC (S:St) (k n:Int):(kU S k n).2.n=S.n:=by unfold kU; (repeat' split) <;> rfl
theorem Wi (S:St) (n:Int):(oI S n).2.n=S.n:=by unfold oI; (repeat' split) <;> rfl
theorem UR (h:Bo W w K L M s t tg tu) {T:St} {own':Nat->Prop} (hd:dU w' W.heap.size L.b T own') (ht:aa w w' M.own own') (hn:T.n=s.S.n):(∃ M,Bo W w' K L M (s.disk T) t tg tu)/\(∀ i,K i->w'.heap[i]?=w.heap[i]?)/\w.heap.size<=w'.heap.size:=by
 have:=h.Gr (h.p.disk hd ht hn) (Dr ht);exact ⟨⟨_,this.1⟩,this.2,ht.size⟩
theorem Wh (h:Bo W w K L M s t tg tu) {T:St} {own':Nat->Prop} (hd:bX w' W.heap.size L.r T own') (ht:aa w w' M.ro own') (hn:T.n=t.S.n):(∃ M,Bo W w' K L M s (t.disk T) tg tu)/\(∀ i,K i->w'.heap[i]?=w.heap[i]?)/\w.heap.size<=w'.heap.size:=by
 have:=h.G6 (h.d.disk hd ht hn) (wM _ ht);exact ⟨⟨_,this.1⟩,this.2,ht.size⟩
theorem Bo.rat (h:Bo W w K L M s t tg tu):bX w W.heap.size L.r t.S M.ro:=h.d.la.d
theorem abf (h:Bo W w K L M s t tg tu) (k n:Int):Calls Tryz.prog 40 #[.pointer (some ⟨L.b,0,none⟩),.int .i64 k,.int .i64 n] w (lQ W w K L (s.disk (kU s.S k n).2) t tg tu (kU s.S k n).1):=by
 refine (La h.p.l.s.d k n).mono ?_;rintro e w' ⟨rfl,h1,h2⟩;exact ⟨rfl,UR h h1 h2 (QC _ _ _)⟩
theorem acH (h:Bo W w K L M s t tg tu) (k n:Int):Calls Tryz.prog 41 #[.pointer (some ⟨L.r,0,none⟩),.int .i64 k,.int .i64 n] w (lQ W w K L s (t.disk (kU t.S k n).2) tg tu (kU t.S k n).1):=by
 refine (Mm h.rat k n).mono ?_;rintro e w' ⟨rfl,h1,h2⟩;exact ⟨rfl,Wh h h1 h2 (QC _ _ _)⟩
theorem ad8 (h:Bo W w K L M s t tg tu) (n:Int):Calls Tryz.prog 42 #[.pointer (some ⟨L.b,0,none⟩),.int .i64 n] w (lQ W w K L (s.disk (oI s.S n).2) t tg tu (oI s.S n).1):=by
 refine (NL h.p.l.s.d n).mono ?_;rintro e w' ⟨rfl,h1,h2⟩;exact ⟨rfl,UR h h1 h2 (Wi _ _)⟩
theorem aej (h:Bo W w K L M s t tg tu) (n:Int):Calls Tryz.prog 43 #[.pointer (some ⟨L.r,0,none⟩),.int .i64 n] w (lQ W w K L s (t.disk (oI t.S n).2) tg tu (oI t.S n).1):=by
 refine (Pj h.rat n).mono ?_;rintro e w' ⟨rfl,h1,h2⟩;exact ⟨rfl,Wh h h1 h2 (Wi _ _)⟩
end
end Go.Proofs.YtinajlbijgedbaaGreat.Both
namespace Go.Proofs.YtinajlbijgedbaaGreat.Sto
open Go.RowKit CrcMath CodecMath Mem Crc Codec DiskSpec Dsk Sup Log
attribute [local irreducible] aF aR dK frame cZ aX Two bR eF ay
section
variable {M:Nat} {S:St}
theorem aaz (n:Nat):Two (dw M) (St.new n):=by
 unfold Two;exact λi hi=>⟨λt ht=>(by rw [show (St.new n).ag i=DiskSpec.zeros from rfl,LH] at ht; exact nomatch ht),λv hv=>nomatch hv⟩
theorem Bz {c:Prop} [Decidable c] {a b:Int × St} (ha:Two (dw M) a.2) (hb:Two (dw M) b.2):Two (dw M) (if c then a else b).2:=by
 split
 · exact ha
 · exact hb
theorem MP (h:Two (dw M) S):∀ n,Two (dw M) (bM n S).2
 | 0=>h
 | n+1=>by
   have h1:=MP h n;have h2:Two (dw M) (aF (bM n S).2 false (2+(n:Int)) iw).2:=h1.far false _ (by omega);rw [bM];exact Bz h2 h1
theorem XP (h:Two (dw M) S) {a0 a1 a2 a3 a4 a5 a6:Int} (h0:a0+1<=(M:Int)) (h1:a1<=(M:Int)):Two (dw M) (jN S a0 a1 a2 a3 a4 a5 a6).2:=by
 have g0:a0<=(M:Int):=by omega
 have k1:=tT (l:=[a0,a1,a2,a3,a4,a5,a6]) h g0 h1 rfl;have k2:=tT (l:=[a0+1,a1,a2,a3,a4,a5,a6]) k1 h0 h1 rfl;unfold jN;exact Bz k2 k1
theorem RP (h:Two (dw (M+2)) S) (pg st ln:Int):Two (dw (M+2)) (iT S pg st ln).2:=by
 have h1:=MP h pg.toNat;have h2:=h1.flush;have g0:(1:Int)+1<=((M+2:Nat):Int):=by omega
 have g1:(1:Int)<=((M+2:Nat):Int):=by omega
 have h3:=XP (a2:=pg) (a3:=st) (a4:=ln) (a5:=0) (a6:=1) h2 g0 g1;have h4:Two (dw (M+2)) (nE (bM pg.toNat S).2 pg st ln).2:=by
  unfold nE;exact Bz h3 h2
 unfold iT;exact Bz (Bz h4 h1) h
end
end Go.Proofs.YtinajlbijgedbaaGreat.Sto
namespace Go.Proofs.YtinajlbijgedbaaGreat.Sto
open Go.RowKit CrcMath CodecMath Mem Crc Codec DiskSpec Dsk Sup Log
structure dD (V:Nat) (s:Sto):Prop where
 ae:∀ i,(s.S.ae i).length<=V
 d:bg s.D
 u:∀ U,s.W=some U->bg U
attribute [local irreducible] aF aR dK frame cZ aX Two bR eF ay
section
variable {V V':Nat} {S:St} {s s':Sto}
theorem dD.mono (h:dD V s) (hm:V<=V'):dD V' s:=⟨λi=>akh (h.ae i) hm,h.d,h.u⟩
theorem dD.disk (h:dD V s) {T:St} (ht:∀ i,(T.ae i).length<=V):dD V (s.disk T):=⟨ht,h.d,h.u⟩
theorem uo {c:Prop} [Decidable c] {a b:Int × Sto} {Pr:Sto->Prop} (ha:Pr a.2) (hb:Pr b.2):Pr (if c then a else b).2:=by
 split
 · exact ha
 · exact hb
theorem Wm {Pr:Sto->Prop} (s:Sto) (h0:Pr s) (h1:∀ T,Pr (s.disk T)) (h2:∀ T,Pr { s with S:=T,L:=s.L.drop,x:=s.past,D:=aM }):Pr (bG s).2:=by
 have kS:∀ R:Int × St,Pr (if R.1=0 then ((0:Int),({ s with S:=R.2,L:=s.L.drop,x:=s.past,D:=aM }:Sto)) else (R.1,s.disk R.2)).2:=λR=>uo (h2 _) (h1 _)
 have kS2:∀ T,Pr (jZ s T).2:=λT=>by unfold jZ; exact kS _
 have kB:∀ R:Int × St,Pr (if R.1=0 then jZ s R.2 else (R.1,s.disk R.2)).2:=λR=>uo (kS2 _) (h1 _)
 have kB2:∀ T,Pr (iU s T).2:=λT=>by unfold iU; exact kB _
 have kF:∀ R:Int × St,Pr (if R.1=0 then iU s R.2 else (R.1,s.disk R.2)).2:=λR=>uo (kB2 _) (h1 _)
 unfold bG;exact uo h0 (uo h0 (kF _))
theorem acI (s:Sto):(bG s).2.D=s.D\/(bG s).2.D=aM:=Wm (Pr:=λt=>t.D=s.D\/t.D=aM) s (.inl rfl) (λT=>.inl rfl) (λT=>.inr rfl)
theorem agG (s:Sto):(bG s).2.W=s.W:=Wm (Pr:=λt=>t.W=s.W) s rfl (λT=>rfl) (λT=>rfl)
theorem dD.ky (h:dD V s):dD (V+1025) (bG s).2:=by
 refine ⟨λi=>?_,?_,λU hU=>h.u U ((agG s).symm.trans hU)⟩
 · have h1:=AL h.d i;have h2:=h.ae i;omega
 · rcases acI s with h1 | h1
   · rw [h1]; exact h.d
   · rw [h1]; exact bg.none_
theorem dD.checkpoint (h:dD V s):dD (V+1025) (bZ s).2:=by
 unfold bZ
 split
 · exact h.mono (by omega)
 · exact h.ky
theorem dD.log (h:dD V s) {l:List ax} (hl:∀ x∈l,bU x=true):dD (V+82) (fB s l).2 :=
 ⟨λi=>by
  have h1:=xE (S:=s.S) (L:=s.L) hl i;have h2:=h.ae i;show ((aN s.S s.L l).2.1.ae i).length<=_;omega,h.d,h.u⟩
theorem dD.append (h:dD V s) {l:List ax} (hl:∀ x∈l,bU x=true):dD (V+1189) (bN s l).2:=by
 have h1:=h.log hl;have h2:=h1.ky;have h4:=h2.log hl;have key:∀ R C E:Int × Sto,dD (V+82) R.2->dD (V+82+1025) C.2->dD (V+82+1025+82) E.2 ->
  dD (V+1189) (if R.1=15 then (if C.1=12 then ((11:Int),C.2) else if C.1=0 then E else C) else R).2:=λR C E k1 k2 k3 =>
  uo (uo (k2.mono (by omega)) (uo (k3.mono (by omega)) (k2.mono (by omega)))) (k1.mono (by omega))
 unfold bN iI;exact key _ _ _ h1 h2 h4
theorem dD.xD (h:dD V s):dD (V+1189) (dh s).2:=by
 have h0:=h.mono (V':=V+1189) (by omega);unfold dh
 split
 · exact h0
 · rename_i U hW
   have hU:=h.u U hW;have h1:=h.append (kJ hU);have key:∀ R:Int × Sto,dD (V+1189) R.2->dD (V+1189) (uD U R).2:=λR hR=>by
    unfold uD;exact uo ⟨hR.ae,hR.d.over hU,λ_ e=>nomatch e⟩ ⟨hR.ae,hR.d,λ_ e=>nomatch e⟩
   exact uo ⟨h0.ae,h0.d,λ_ e=>nomatch e⟩ (key _ h1)
theorem abr (S:St) (a0 a1 a2 a3 a4 a5 a6:Int) (l:List Int) (e:l=[a0,a1,a2,a3,a4,a5,a6]) (i:Nat):((ay S l).2.ae i).length<=(S.ae i).length+1:=by
 subst e;exact zU S a0 a1 a2 a3 a4 a5 a6 i
theorem abq (h:dD V s) (q:Int × Int) (i:Nat):((ay s.S (fV s q)).2.ae i).length<=V+1025:=by
 have h2:(s.S.ae i).length+1<=V+1025:=by have:=h.ae i; omega
 exact akh (abr s.S _ _ _ _ _ _ _ (fV s q) rfl i) h2
theorem dD.step {tg je:Option (Int × Int)} {dn:Bool} {er:Int} (h:dD V s) (hs:jk s tg dn er s' je):dD (V+1025) s':=by
 have h0:=h.mono (V':=V+1025) (by omega);have hsv:∀ q i,((ay s.S (fV s q)).2.ae i).length<=V+1025:=λq i=>abq h q i
 have key:∀ (T:St) (x':Sb),(∀ i,(T.ae i).length<=V+1025)->dD (V+1025) { s with S:=T,x:=x',L:=x'.log }:=λT x' hT=>⟨hT,h.d,h.u⟩
 have af0:∀ (T:St),(∀ i,(T.ae i).length<=V+1025)->dD (V+1025) (s.disk T):=λT hT=>⟨hT,h.d,h.u⟩
 cases hs with
 | idle=>exact h0
 | ky q hk=>exact h.checkpoint
 | busy q hk hw=>exact h0
 | fail q hk hw hz=>exact af0 _ (hsv q)
 | done q x' hk hw hz hx=>exact key _ _ (hsv q)
end
end Go.Proofs.YtinajlbijgedbaaGreat.Sto
namespace Go.Proofs.YtinajlbijgedbaaGreat.Sto
open Go.RowKit CrcMath CodecMath Mem Crc Codec DiskSpec Dsk Sup Log
attribute [local irreducible] aF aR dK frame cZ aX bR eF ay
section
theorem Y8 {c:Prop} [Decidable c] {V:Nat} {a b:Int × Option Sto × St} (ha:(∀ i,(a.2.2.ae i).length<=V)/\∀ s,a.2.1=some s->dD V s) (hb:(∀ i,(b.2.2.ae i).length<=V)/\∀ s,b.2.1=some s->dD V s) :
 (∀ i,((if c then a else b).2.2.ae i).length<=V)/\∀ s,(if c then a else b).2.1=some s->dD V s:=by
 split
 · exact ha
 · exact hb
theorem aa2 {V:Nat} {x:Sb} {R T:Int × St} (h1:∀ i,(R.2.ae i).length<=V) (h2:∀ i,(T.2.ae i).length<=V) :
 (∀ i,((if R.1=0 then (if T.1=0 then ((0:Int),some (⟨T.2,x.next.log,x.next,aM,none⟩:Sto),T.2) else (T.1,none,T.2)) else (R.1,none,R.2)).2.2.ae i).length<=V) /\
   ∀ s,(if R.1=0 then (if T.1=0 then ((0:Int),some (⟨T.2,x.next.log,x.next,aM,none⟩:Sto),T.2) else (T.1,none,T.2)) else (R.1,none,R.2)).2.1=some s->dD V s :=
 Y8 (Y8 ⟨h2,λs hs=>by cases hs; exact ⟨h2,bg.none_,λ_ e=>nomatch e⟩⟩ ⟨h2,λs hs=>by cases hs⟩) ⟨h1,λs hs=>by cases hs⟩
theorem afX {V:Nat} {x:Sb} {R:Int × St} (h1:∀ i,(R.2.ae i).length<=V) (h2:∀ i,((ay R.2 x.next.l).2.ae i).length<=V) :
 (∀ i,((iJ x R).2.2.ae i).length<=V)/\∀ s,(iJ x R).2.1=some s->dD V s:=aa2 h1 h2
theorem Lv (N:Nat) (ag:Nat->List Nat) (x:Sb) :
 (∀ i,((iC N ag x).2.2.ae i).length<=1025)/\∀ s,(iC N ag x).2.1=some s->dD 1025 s:=by
 have hD:bg (aG (bF (plain N ag) x.log.ln x.log).1):=J4 λr hr y hy=>(Af (plain N ag) x.log.ln x.log r hr).2 y hy
 have h1:∀ i,((bn (plain N ag) (aG (bF (plain N ag) x.log.ln x.log).1)).2.ae i).length<=1024:=λi=>by
  have h:=ql (S:=plain N ag) hD i;have h0:((plain N ag).ae i).length=0:=rfl;rw [h0] at h;exact akh h (by omega)
 have key:∀ R:Int × St,(∀ i,(R.2.ae i).length<=1024)->(∀ i,((iJ x R).2.2.ae i).length<=1025)/\∀ s,(iJ x R).2.1=some s->dD 1025 s:=λR hR =>
  afX (λi=>Nat.le_succ_of_le (hR i)) λi=>akh (F9 R.2 x.next i) (Nat.succ_le_succ (hR i))
 unfold iC;exact key _ h1
end
end Go.Proofs.YtinajlbijgedbaaGreat.Sto
namespace Go.Proofs.YtinajlbijgedbaaGreat.Sto
open Go.RowKit CrcMath CodecMath Mem Crc Codec DiskSpec Dsk Sup Log
attribute [local irreducible] aF aR dK frame cZ aX Two bR eF ay
section
variable {M V:Nat} {s s':Sto}
theorem dD.NZ (h:dD V s):dD V (fH s).2:=by
 unfold fH
 split
 · exact h
 · exact ⟨h.ae,h.d,λU hU=>by cases hU; exact bg.none_⟩
theorem dD.write (h:dD V s) (p:Int) (q:Pg):dD V (bQ s p q).2:=by
 unfold bQ
 cases hW:s.W with
 | none=>exact h
 | some U =>
   show dD V (if s.has p=false then ((2:Int),s) else if bA p q.1 q.2=false then (1,s) else if U p.toNat=none/\(keys U).length=40 then (16,s) else (0,{ s with W:=some (upd U p.toNat (some q)) })).2
   by_cases h1:s.has p=false
   · rw [if_pos h1]; exact h
   · rw [if_neg h1]
     by_cases h2:bA p q.1 q.2=false
     · rw [if_pos h2]; exact h
     · rw [if_neg h2]
       by_cases h3:U p.toNat=none/\(keys U).length=40
       · rw [if_pos h3]; exact h
       · rw [if_neg h3];refine ⟨h.ae,h.d,λX hX=>?_⟩
         cases hX
         have hp:0<=p:=by
          have h4:s.has p=true:=by simpa using h1
          simp [Sto.has] at h4
          exact h4.1
         refine (h.u U hW).upd ?_;rw [show ((p.toNat:Nat):Int)=p by omega]
         simpa using h2
theorem dD.sync (h:dD V s):dD V (kH s).2:=by
 unfold kH
 split
 · exact h
 · exact h.disk (λi=>akh (jP _ i) (h.ae i))
theorem VW (S:St) (k n:Int):(kU S k n).2.ag=S.ag/\(kU S k n).2.ae=S.ae:=by
 unfold kU
 (repeat' split) <;> exact ⟨rfl,rfl⟩
theorem YD (S:St) (n:Int):(oI S n).2.ag=S.ag/\(oI S n).2.ae=S.ae:=by
 unfold oI
 (repeat' split) <;> exact ⟨rfl,rfl⟩
structure iB (M V:Nat) (s:Sto):Prop where
 l:dJ M s
 v:dD V s
theorem iB.mono {M' V':Nat} (h:iB M V s) (h1:M<=M') (h2:V<=V'):iB M' V' s:=⟨h.l.mono h1,h.v.mono h2⟩
theorem iB.step {tg je:Option (Int × Int)} {dn:Bool} {er:Int} (h:iB M V s) (hs:jk s tg dn er s' je):iB (M+1) (V+1189) s':=⟨h.l.step hs,(h.v.step hs).mono (by omega)⟩
theorem iB.write (h:iB M V s) (p:Int) (q:Pg):iB M V (bQ (fH s).2 p q).2:=⟨h.l.NZ.write p q,h.v.NZ.write p q⟩
theorem iB.xD (h:iB M V s):iB (M+1) (V+1189) (dh s).2:=⟨h.l.xD,h.v.xD⟩
theorem iB.sync (h:iB M V s):iB M V (kH s).2:=⟨h.l.sync,h.v.sync⟩
theorem iB.fail (h:iB M V s) (k n:Int):iB M V (s.disk (kU s.S k n).2):=by
 obtain ⟨h1,h2⟩:=VW s.S k n;exact ⟨h.l.disk (h.l.two.same h1 h2),h.v.disk (λi=>by rw [h2]; exact h.v.ae i)⟩
theorem iB.cut (h:iB M V s) (n:Int):iB M V (s.disk (oI s.S n).2):=by
 obtain ⟨h1,h2⟩:=YD s.S n;exact ⟨h.l.disk (h.l.two.same h1 h2),h.v.disk (λi=>by rw [h2]; exact h.v.ae i)⟩
theorem iB.room (h:iB M V s) (hv:V<=549755000000) (i:Nat):(s.S.ae i).length < 549755600000:=by have:=h.v.ae i; omega
end
end Go.Proofs.YtinajlbijgedbaaGreat.Sto
namespace Go.Proofs.YtinajlbijgedbaaGreat.Sto
open Go.RowKit Go.Maps Go.Shelf CrcMath CodecMath Mem Crc Codec DiskSpec Dsk Sup Log
theorem NR {s s':Sto} {U:aK} (hW:s.W=some U) (hk:keys U≠[]) (e:dh s=(0,s')):keys s'.D≠[]:=by
 unfold dh at e;rw [hW] at e;simp only at e;rw [if_neg hk] at e;generalize bN s (rising U)=r at e;unfold uD at e
 by_cases h0:r.1=0
 · rw [if_pos h0] at e;have e2:=(Prod.mk.inj e).2;rw [<-e2];exact JO hk
 · rw [if_neg h0] at e;exact absurd (Prod.mk.inj e).1 h0
structure Hq (N pg:Nat) (q:Int × Int) (st ln:Nat):Prop where
 e1:q.1=(st:Int)
 e2:q.2=(ln:Int)
 k1:2+pg<=st
 k2:64<=ln
 k3:st+ln<=N
theorem abu {s:Sto} {q:Int × Int} {N:Nat} (h:aL (fV s q) (N:Int)=true):∃ st ln,Hq N s.x.pg q st ln:=by
 obtain ⟨a,c⟩:=q;have ho:=iR h;have k3:=(aV ho 3 (by simp [fV])).1; have k4:=(aV ho 4 (by simp [fV])).1
 simp [fV] at k3 k4
 obtain ⟨st,rfl⟩:∃ st:Nat,a=(st:Int):=⟨a.toNat,by omega⟩;obtain ⟨ln,rfl⟩:∃ ln:Nat,c=(ln:Int):=⟨c.toNat,by omega⟩;have e:fV s ((st:Int),(ln:Int))=(s.x.moved st ln).l:=IP s.x st ln;rw [e] at h;have hf:=jq h;exact ⟨st,ln,rfl,rfl,hf.2.2.1,hf.2.2.2.1,hf.2.2.2.2.1⟩
theorem XK (s:Sto) {q:Int × Int} {st ln N pg:Nat} (h:Hq N pg q st ln):fV s q=(s.x.moved st ln).l:=by
 obtain ⟨a,c⟩:=q;have e1:=h.e1; have e2:=h.e2;simp only at e1 e2;subst e1 e2;exact IP s.x st ln
section
variable {W w w':World} {N pg b tb g sb dm mb:Nat} {wm:Option Nat} {own own':Nat->Prop} {s s':Sto} {C:aK} {o:Option aK} {n:Int} {tg:Option (Int × Int)}
theorem LC {U:aK} (h:lZ W w N pg b tb g sb dm wm own s C (some U)) (hk:keys U≠[]) (hgn:s.x.gn < 1099511627776) (he:s.x.ep<=4294967295) (hs:s.L.seq<=1099511627775) (hv:∀ i,(s.S.ae i).length < 549755600000) :
 Calls Tryz.prog 19 #[.pointer (some ⟨sb,0,none⟩)] w λe w'=>e=.returned (.int .i64 0)/\∃ own' s',lZ W w' N pg b tb g sb dm none own' s' (over C U) none/\AU s s' /\
  aa w w' (aD own tb g sb dm wm) (aD own' tb g sb dm none)/\keys s'.D≠[]:=by
 obtain ⟨ls,sure,hg⟩:=h.gd;obtain ⟨s',ls',zQ,e1,hg',hC',hW',hn⟩:=hg.xD h.w h.sees hgn he hs;have h1:=F4 h.at_ hv;have hkd:=NR h.w hk e1;rw [e1] at h1;refine h1.mono ?_;rintro e w1 ⟨rfl,own',h2,ht⟩;exact ⟨rfl,own',s',⟨h2,h.out ht,⟨ls',zQ,hg'⟩,hW',hC'⟩,hn,ht,hkd⟩
theorem zO (h:lZ W w N pg b tb g sb dm wm own s C o) (hlo:W.heap.size<=mb) {P':Nat->Prop} (ht:aa w w' (λi=>aD own tb g sb dm wm i\/i=mb) P'):W.grownBy w' none :=
 dX h.gr ht (λi hi=>by
  rcases hi with hi | hi
  · exact h.at_.il hi
  · rw [hi]; exact hlo)
theorem Z6 (h:lZ W w N pg b tb g sb dm wm own s C o) (hm:dI w (aD own tb g sb dm wm) W.heap.size mb sb (N:Int) tg) (a c:Int) :
 Calls Tryz.prog 20 #[.pointer (some ⟨mb,0,none⟩),.int .i64 a,.int .i64 c] w λe w'=>lZ W w' N pg b tb g sb dm wm own s C o/\w.grownBy w' (some mb) /\
  ((e=.returned (.int .i64 0)/\tg=none/\dI w' (aD own tb g sb dm wm) W.heap.size mb sb (N:Int) (some (a,c))/\∃ st ln,Hq N pg (a,c) st ln) \/
    (∃ z:Int,z≠0/\e=.returned (.int .i64 z)/\dI w' (aD own tb g sb dm wm) W.heap.size mb sb (N:Int) tg)):=by
 refine (Qe h.at_ hm a c).mono ?_;rintro e w1 ⟨rfl,h1,hm1,hg⟩;have hu:lZ W w1 N pg b tb g sb dm wm own s C o:=⟨h1,zO h hm.2.1 (nS hg),h.gd,h.w,h.sees⟩;refine ⟨hu,hg,?_⟩
 cases tg with
 | some p=>exact .inr ⟨17,by decide,rfl,hm1⟩
 | none =>
   have hA:qK s (N:Int) none (a,c)=if aL (fV s (a,c)) (N:Int) then (0,some (a,c)) else (1,none):=rfl
   cases hmb:aL (fV s (a,c)) (N:Int) with
   | true =>
     rw [hmb] at hA;rw [hA] at hm1 ⊢;have hf:=abu hmb;rw [h.pg_] at hf;exact .inl ⟨rfl,rfl,hm1,hf⟩
   | false =>
     rw [hmb] at hA;rw [hA] at hm1 ⊢;exact .inr ⟨1,by decide,rfl,hm1⟩
inductive Tp (s s':Sto):Option (Int × Int)->Bool->Int->Option (Int × Int)->Prop
 | idle:s'=s->Tp s s' none false 18 none
 | home (q:Int × Int):keys s.D≠[]->keys s'.D=[]->s'.x.st=s.x.st/\s'.x.ln=s.x.ln->Tp s s' (some q) false 0 (some q)
 | done (q:Int × Int):keys s.D=[]->(s'.x.st:Int)=q.1/\(s'.x.ln:Int)=q.2->Tp s s' (some q) true 0 none
structure ahi (s s':Sto):Prop where
 gn:s'.x.gn<=s.x.gn+1
 ep:s'.x.ep<=s.x.ep+1
 sq:s'.L.seq<=s.L.seq+1
 ae:∀ i,(s'.S.ae i).length<=(s.S.ae i).length+1
 one:1<=s'.L.seq
theorem LA (h:lZ W w N pg b tb g sb dm none own s C none) (hm:dI w (aD own tb g sb dm none) W.heap.size mb sb n tg) (hq:∀ q,tg=some q->∃ st ln,Hq N pg q st ln)
 (hgn:s.x.gn < 1099511627776) (fG:s.x.ep < 1099511627776) (mf:1<=s.L.seq/\s.L.seq<=1099511627776) (hv:∀ i,(s.S.ae i).length < 549755600000) :
 Calls Tryz.prog 21 #[.pointer (some ⟨mb,0,none⟩)] w λe w'=>∃ dn er own' g' s' je,e=.returned (.tuple #[.bool dn,.int .i64 er])/\lZ W w' N pg b tb g' sb dm none own' s' C none /\
  dI w' (aD own' tb g' sb dm none) W.heap.size mb sb n je/\aa w w' (λi=>aD own tb g sb dm none i\/i=mb) (λi=>aD own' tb g' sb dm none i\/i=mb)/\ahi s s'/\Tp s s' tg dn er je:=by
 have hc:=Xv h.at_ hm (λi=>by have:=hv i; omega);unfold Stepped at hc;refine hc.mono ?_;rintro e w1 ⟨dn,er,Ac,g1,s1,tg1,rfl,hR,h1,hm1,ht⟩;have hout:=zO h hm.2.1 ht;obtain ⟨ls,sure,hg⟩:=h.gd;refine ⟨dn,er,Ac,g1,s1,tg1,rfl,?_⟩
 cases hR with
 | idle=>exact ⟨⟨h1,hout,⟨ls,sure,hg⟩,h.w,h.sees⟩,hm1,ht,⟨Nat.le_succ _,Nat.le_succ _,Nat.le_succ _,λ_=>Nat.le_succ _,mf.1⟩,.idle rfl⟩
 | ky q hk =>
   obtain ⟨s',ls',zQ,e1,hg',hC',hW',hn,hkd,hx,hsame⟩:=hg.checkpoint h.w h.sees hgn mf.2;rw [e1] at h1 ⊢;exact ⟨⟨h1,hout,⟨ls',zQ,hg'⟩,hW',hC'⟩,hm1,ht,⟨hn.gn.2,by rw [hn.ep]; exact Nat.le_succ _,hn.seq.2,hn.ae,by have:=hn.seq.1; show 1<=s'.L.seq; omega⟩,.home q hk hkd hn.pl⟩
 | busy q hk hW=>rw [h.w] at hW; cases hW
 | fail q hk hW hne =>
   obtain ⟨st,ln,hf⟩:=hq q rfl;obtain ⟨T,e1,hg1,hs1,hv1⟩:=hg.switch hk hf.k1 hf.k2 hf.k3 hgn fG h.sees;rw [XK s hf,e1] at hne;exact absurd rfl hne
 | done q x' hk hW he hx =>
   obtain ⟨st,ln,hf⟩:=hq q rfl;obtain ⟨T,e1,hg1,hs1,hv1⟩:=hg.switch hk hf.k1 hf.k2 hf.k3 hgn fG h.sees;rw [XK s hf] at hx;have Bb:=Sb.Li hx;subst Bb;rw [XK s hf,e1] at h1 ⊢;exact ⟨⟨h1,hout,⟨[],0,hg1⟩,h.w,hs1⟩,hm1,ht,⟨akf _,akf _,by show 1<=_; omega,λi=>by show (T.ae i).length<=_; rw [hv1]; exact Nat.le_succ _,akf _⟩,.done q hk ⟨hf.e1.symm,hf.e2.symm⟩⟩
end
end Go.Proofs.YtinajlbijgedbaaGreat.Sto
set_option maxRecDepth 100000
set_option maxHeartbeats 16000000
namespace Go.Proofs.YtinajlbijgedbaaGreat.Sto
open Lib (hid)
open Go.RowKit Go.Maps Go.Shelf CrcMath CodecMath Mem Crc Codec DiskSpec Dsk Sup Log
theorem Gt (f:Int) (w:World) :
 Calls Tryz.prog 18 #[.int .i64 f] w λe w' =>
  ∃ g,e=.returned (.agg #[.int .i64 5,.slice (some ⟨g,0,none⟩) 240 240])/\w.heap.size<=g/\af w' g 5 (au (jy f)).toArray/\w.grownBy w' none:=by
 have hfb:f % 256=((o7 f 0:Nat):Int):=by unfold o7; omega
 have hmk:=U5;rw [Te (o7 f 0)] at hmk;have hb2:=af.new w 72 #[.int .i64 0,.slice none 0 0];have hg2:=aj9 w (.cells #[.int .i64 0,.slice none 0 0] 72) none;have hs2:(w.alloc (.cells #[.int .i64 0,.slice none 0 0] 72)).heap.size=w.heap.size+1:=by simp
 have HB2:=hid hb2;have HG:=hid hg2;clear hb2 hg2;go_enter Tryz.func18,Tryz.ntmps18;go_wp2;generalize w.alloc (.cells #[.int .i64 0,.slice none 0 0] 72)=w2 at *;have hb3:=af.new w2 5 (au (jH (o7 f 0) 0)).toArray;rw [hs2] at hb3;have HB3:=hid hb3;have aZ:=hid (aj9 w2 (.cells (au (jH (o7 f 0) 0)).toArray 5) none);have HS2:=hid hs2;clear hb3 hs2
 go_loopw [4] (λi wr=>∃ j:Nat,j<=240/\i=.int .i64 j/\w2.grownBy wr none/\af wr (w.heap.size+1) 5 (au (jH (o7 f 0) j)).toArray) (λi _=>240 - (Go.RowKit.intOf i).toNat)
 case atStart=>exact ⟨0,by omega,rfl,aZ.out,HB3.out⟩
 case round =>
  clear HB3 aZ hmk;obtain ⟨j,hj,rfl,hgr,hbr⟩:=hrel;have hx2:=HB2.out.grown hgr (by simp);have pO:=hid hgr; have ig:=hid hbr; have xH:=hid hx2
  by_cases hlt:j < 240
  · have hjn:(j:Int) < 240:=by omega
    have hc:=hbr.cell j;rw [VU _ hlt] at hc;have hf:=hbr.frozen j;have jJ:=hid (show af (wr.setCell ⟨w.heap.size+1,j,none⟩ (.int .u8 ((o7 f 0:Nat):Int))) (w.heap.size+1) 5 (au (jH (o7 f 0) (j+1))).toArray from by
     rw [<-PO _ hlt];exact hbr.aC j _)
    have cB:=hid (hgr.andThen (akd (akr wr (some (w.heap.size+1))) j (.int .u8 ((o7 f 0:Nat):Int))) (λq hq=>.inl (by have:=HS2.out; cases hq; omega)));clear hgr hbr hx2;go_wp2
    go_roundw
    case rel=>exact ⟨j+1,by omega,by first | rfl | simp,cB.out,jJ.out⟩
    case measure=>simp [Go.RowKit.intOf]; omega
  · have vN:j=240:=by omega
    have hjn:¬ ((j:Int) < 240):=by omega
    have HBF:=hid (show af wr (w.heap.size+1) 5 (au (jy f)).toArray from by rw [<-SF,<-vN]; exact hbr);have r0:=hx2.cell 0; have r1:=hx2.cell 1; have f0:=hx2.frozen 0; have f1:=hx2.frozen 1;simp only [akb,aka,akc] at r0 r1;have jR:=hid (show af ((wr.setCell ⟨w.heap.size,0,none⟩ (.int .i64 5)).setCell ⟨w.heap.size,1,none⟩ (.slice (some ⟨w.heap.size+1,0,none⟩) 240 240)) w.heap.size 72 #[.int .i64 5,.slice (some ⟨w.heap.size+1,0,none⟩) 240 240] from (hx2.aC 0 (.int .i64 5)).aC 1 (.slice (some ⟨w.heap.size+1,0,none⟩) 240 240))
    have hgs:=akd (akd (akr wr (some w.heap.size)) 0 (.int .i64 5)) 1 (.slice (some ⟨w.heap.size+1,0,none⟩) 240 240);have iG:=hid (HBF.out.grown hgs (by simp));have Ii:=hid ((HG.out.trans hgr).andThen hgs (λq hq=>.inl (by cases hq; omega)));clear hgr hbr hx2 hgs;go_wp2;refine qG rfl w.heap.size 72 #[.int .i64 5,.slice (some ⟨w.heap.size+1,0,none⟩) 240 240] _ rfl jR.out Tryz.underlying72 rfl (by kernel_rfl) rfl ?_
    exact ⟨_,rfl,by omega,iG.out,Ii.out⟩
theorem zh:aL (aW 1 16 18 64).l ((400:Nat):Int)=true:=zq (x:=aW 1 16 18 64) (by decide) (by decide) (by decide) (by decide) (by decide) (by decide) (by decide)
theorem I6 (W:World):Calls Tryz.prog 4 #[] W λe w'=>∃ b tb g sb dm own s,e=.returned (.tuple #[.pointer (some ⟨b,0,none⟩),.pointer (some ⟨sb,0,none⟩)])/\TI W w' 400 16 b tb g sb dm own s aM (aW 2 16 18 64):=by
 have HN:=hid (show Calls Tryz.prog 13 #[.int .i64 400] W λe w'=>∃ b bd bm f own,e=.returned (.tuple #[.pointer (some ⟨b,0,none⟩),.int .i64 0])/\Lay w' W.heap.size b bd bm f (St.new 400) own/\W.grownBy w' none from NK 400 _ (by omega) (by omega));go_enter Tryz.func4,Tryz.ntmps4;go_wp2_with fail;refine HN.out.mono ?_;rintro e w1 ⟨b,bd,bm,f,own,rfl,hl,hg1⟩;have hf:Calls Tryz.prog 14 #[.pointer (some ⟨b,0,none⟩),.int .i64 16,.int .i64 18,.int .i64 64] w1 λe w'=>e=.returned (.int .i64 0)/\∃ own' dF,Fmt W w' 400 16 18 64 b own' dF :=
  Ra (W:=W) (pg:=16) (st:=18) (ln:=64) (N:=400) ⟨bd,bm,f,hl⟩ hg1 (by omega) zh
 have HF:=hid hf;clear hl hg1 hf HN;go_wp2_with fail;refine HF.out.mono ?_;rintro e w2 ⟨rfl,bV,dF,hfm⟩;have HO:=hid (LB hfm (by omega));clear hfm HF;go_wp2_with fail;refine HO.out.mono ?_;rintro e w3 ⟨tb,g,sb,dm,fQ,s3,rfl,hb3⟩;have HB3:=hid hb3;clear hb3 HO;go_wp2_with fail;go_ret2;exact ⟨b,tb,g,sb,dm,fQ,s3,rfl,HB3.out⟩
theorem UQ {w:World} {g:Nat} {f:Int} (hb:af w g 5 (au (jy f)).toArray) {F:Nat->Prop} (hn:¬ F g):rA w F (.agg #[.int .i64 5,.slice (some ⟨g,0,none⟩) 240 240]) ((5:Int),jy f):=by
 have hd:=lG (own:=F) hb (wI f) hn;rw [uF] at hd;exact ⟨_,rfl,_,_,_,rfl,akf _,hd⟩
theorem PD (w:World):Calls Tryz.prog 6 #[] w λe w'=>e=.returned (.bool true)/\w.grownBy w' none:=by
 have Q7:=hid (I6 w);go_enter Tryz.func6,Tryz.ntmps6;go_wp2_with fail;refine Q7.out.mono ?_;rintro e w1 ⟨b,tb,g,sb,dm,own,s,rfl,hb1⟩;have HB1:=hid hb1;have Bj:=hid (Pe w1 400);clear hb1 Q7;go_wp2_with fail;refine Bj.out.mono ?_;rintro e w2 ⟨rfl,rfl⟩;have mi:=hid (Rp HB1.out.u 400);clear Bj;go_wp2_with fail;refine mi.out.mono ?_;rintro e w2 ⟨mb,rfl,hu2,hm2,hg2⟩;have HU2:=hid hu2; have Bl:=hid hm2;have HBG:=hid (TS hu2)
 have QQ:=hid HB1.out.xs;have WK:=hid HB1.out.ls;have oO:=hid HB1.out.ae;clear hu2 hm2 hg2 mi HB1;go_wp2_with fail;refine HBG.out.mono ?_;rintro e w3 ⟨rfl,wm3,hu3,ht3⟩;have HU3:=hid hu3;have qo:=hid (Bl.out.turn ht3);have ZI:=hid (Gt 7 w3);clear hu3 ht3 HBG HU2 Bl;go_wp2_with fail;refine ZI.out.mono ?_;rintro e w4 ⟨gp,rfl,oD,hbp,hg4⟩;have HU4:=hid (HU3.out.quiet hg4);have vg:=hid (qo.out.quiet hg4)
 have hval:=UQ (F:=aD own tb g sb dm wm3) hbp (λe=>by have:=HU3.out.bO e; omega);have Zk:(keys aM).length < 40:=by rw [(keys_nil bg.none_).2 rfl]; simp
 have yz:=hid (show Calls Tryz.prog 17 #[.pointer (some ⟨sb,0,none⟩),.int .i64 3,.agg #[.int .i64 5,.slice (some ⟨gp,0,none⟩) 240 240]] w4 _ from TR HU4.out (k:=3) (by omega) hval (abk 3 (by omega) 7) Zk);clear oD hbp hg4 hval Zk ZI HU3 qo;go_wp2_with fail;refine yz.out.mono ?_;rintro e w5 ⟨rfl,ik,hu5,dL⟩;have Og:=hid hu5;have OA:=hid (vg.out.turn dL);clear hu5 dL yz HU4 vg;have hkn:keys (upd aM 3 (some ((5:Int),jy 7)))≠[]:=λe=>by
  have:3∈keys (upd aM 3 (some ((5:Int),jy 7))):=mem_keys.2 ⟨by omega,by rw [upd_same]; rfl⟩;rw [e] at this; cases this
 have HCM:=hid (LC Og.out hkn (by show s.x.gn < _; rw [QQ.out]; show 2+1 < _; omega) (by show s.x.ep<=_; rw [QQ.out]; show 1+1<=_; omega) (by show s.L.seq<=_; rw [WK.out]; show 1<=_; omega) (λi=>by show (s.S.ae i).length < _; rw [oO.out i]; simp));clear hkn;go_wp2_with fail;refine HCM.out.mono ?_;rintro e w6 ⟨rfl,oh,s6,hu6,J9,qh,kQ⟩;have Ky:=hid hu6;have CZ:=hid (OA.out.turn qh);have l8:=hid kQ;have EL:=hid (show s6.x.gn<=4/\s6.x.ep<=2/\(1<=s6.L.seq/\s6.L.seq<=2)/\∀ i,(s6.S.ae i).length<=1 from by
  have h1:=J9.gn.2; have h2:=J9.ep; have h5:=J9.seq;have h3:s6.x.gn<=s.x.gn+1:=h1;have h4:s6.x.ep=s.x.ep:=h2;have h6:s.L.seq<=s6.L.seq/\s6.L.seq<=s.L.seq+1:=h5;rw [QQ.out] at h3 h4;rw [WK.out] at h6;have h7:(aW 2 16 18 64).next.gn=3:=rfl;have h8:(aW 2 16 18 64).next.ep=2:=rfl;have h9:(aW 2 16 18 64).next.log.seq=1:=rfl;refine ⟨by omega,by omega,by omega,λi=>?_⟩;have h10:(s6.S.ae i).length<=(s.S.ae i).length+1:=J9.ae i
  rw [oO.out i] at h10
  simpa using h10)
 clear hu6 J9 qh kQ HCM Og OA QQ WK oO;have HAS:=hid (show Calls Tryz.prog 20 #[.pointer (some ⟨mb,0,none⟩),.int .i64 100,.int .i64 70] w6 _ from Z6 (N:=400) Ky.out CZ.out 100 70);have bu:aL (fV s6 ((100:Int),(70:Int))) ((400:Nat):Int)=true:=by
  have h1:=EL.out;have e:fV s6 (((100:Nat):Int),((70:Nat):Int))=(s6.x.moved 100 70).l:=IP s6.x 100 70;have jG:=Ky.out.pg_;show aL (fV s6 (((100:Nat):Int),((70:Nat):Int))) ((400:Nat):Int)=true;rw [e];exact zq (x:=s6.x.moved 100 70) (show 16<=s6.x.pg/\s6.x.pg<=1024 by omega) (show 2+s6.x.pg<=100 by omega) (show 64<=70 by omega) (show 100+70<=400 by omega) (show 0 < 70 by omega) ⟨show s6.x.gn+1<=_ by omega,show s6.x.ep+1<=_ by omega,show 1<=1099511627776 by omega⟩ (by omega)
 have HAK:=hid (Qe Ky.out.at_ CZ.out 100 70);have hae:qK s6 ((400:Nat):Int) none (100,70)=(0,some (100,70)):=by
  show (if aL (fV s6 ((100:Int),(70:Int))) ((400:Nat):Int) then ((0:Int),some ((100:Int),(70:Int))) else (1,none))=_;rw [bu]; rfl
 have hak:=HAK.out;rw [show (400:Int)=((400:Nat):Int) from rfl,hae] at hak;have HAQ:=hid hak;clear bu hae hak HAK HAS;go_wp2_with fail;refine HAQ.out.mono ?_;rintro e w7 ⟨rfl,h7,Vu,fZ⟩;have HU7:=hid (show lZ w w7 400 16 b tb g sb dm none oh s6 _ none from ⟨h7,zO Ky.out CZ.out.2.1 (nS fZ),Ky.out.gd,Ky.out.w,Ky.out.sees⟩);have HM7:=hid Vu;clear h7 Vu fZ HAQ Ky CZ;have hgo:∀ q:Int × Int,some ((100:Int),(70:Int))=some q->∃ st ln,Hq 400 16 q st ln:=λq e=>by
  cases e
  exact ⟨100,70,rfl,rfl,by omega,by omega,by omega⟩
 have KA:=hid (LA HU7.out HM7.out hgo (by have:=EL.out; omega) (by have:=EL.out; omega) (by have:=EL.out; omega) (λi=>by have:=EL.out.2.2.2 i; omega));go_wp2_with fail;refine KA.out.mono ?_;rintro e w8 ⟨dn,er,abg,g8,s8,tg8,rfl,Zb,hm8,Zc,Qx,hw8⟩;have af2:dn=false/\er=0/\tg8=some (100,70)/\keys s8.D=[]:=by
  cases hw8 with
  | home q h1 h2 h3=>exact ⟨rfl,rfl,rfl,h2⟩
  | done q h1 h2=>exact absurd h1 l8.out
 obtain ⟨rfl,rfl,rfl,Cq⟩:=af2;have Bh:=hid Zb; have HM8:=hid hm8; have HK8:=hid Cq;have jv:=hid (show s8.x.gn<=5/\s8.x.ep<=3/\s8.L.seq<=3/\∀ i,(s8.S.ae i).length<=2 from by
  have h1:=EL.out;have h2:=Qx.gn; have h3:=Qx.ep; have h4:=Qx.sq;refine ⟨by omega,by omega,by omega,λi=>?_⟩;have:=Qx.ae i; have:=h1.2.2.2 i;omega)
 have ZG:=hid Qx.one;clear Zb hm8 Zc Qx hw8 Cq KA HU7 HM7;have HS2:=hid (LA Bh.out HM8.out hgo (by have:=jv.out; omega) (by have:=jv.out; omega) ⟨ZG.out,by have:=jv.out; omega⟩ (λi=>by have:=jv.out.2.2.2 i; omega));clear hgo;go_wp2_with fail;refine HS2.out.mono ?_;rintro e w9 ⟨dn,er,aiT,g9,s9,tg9,rfl,hu9,hm9,Em,vO,hw9⟩;have af1:dn=true/\er=0/\tg9=none/\(s9.x.st:Int)=100/\(s9.x.ln:Int)=70:=by
  cases hw9 with
  | home q h1 h2 h3=>exact absurd HK8.out h1
  | done q h1 h2=>exact ⟨rfl,rfl,rfl,h2.1,h2.2⟩
 obtain ⟨rfl,rfl,rfl,abL,abW⟩:=af1;have hb3:(((s9.x.st:Nat):Int) == 100)=true:=by rw [abL]; rfl
 have hb4:(((s9.x.ln:Nat):Int) == 70)=true:=by rw [abW]; rfl
 clear abL abW;have HU9:=hid hu9; have HM9:=hid hm9;have QU:=hid (BB HU9.out.at_);clear hu9 hm9 Em vO hw9 HS2 Bh HM8;go_wp2_with fail;refine QU.out.mono ?_;rintro e Jm ⟨rfl,I4⟩;have hga:=aj9 Jm (.cells #[.int .i64 (s9.x.gn:Nat),.int .i64 (s9.x.ep:Nat),.int .i64 (s9.x.pg:Nat),.int .i64 (s9.x.st:Nat),.int .i64 (s9.x.ln:Nat),.int .i64 (s9.x.hd:Nat),.int .i64 (s9.x.sq:Nat)] 49) none;have ag2:=hid ((HM9.out.quiet I4).quiet hga)
 have qO:=hid ((HU9.out.gr.trans I4).trans hga);have rG:=hid (zW ag2.out);have hbx:=af.new Jm 49 #[.int .i64 (s9.x.gn:Nat),.int .i64 (s9.x.ep:Nat),.int .i64 (s9.x.pg:Nat),.int .i64 (s9.x.st:Nat),.int .i64 (s9.x.ln:Nat),.int .i64 (s9.x.hd:Nat),.int .i64 (s9.x.sq:Nat)];have x3:=hbx.cell 3; have x4:=hbx.cell 4;simp only [akb,aka,akc] at x3 x4;clear I4 hga hbx QU HU9 HM9
 go_wp2_with fail;refine rG.out.mono ?_;rintro e PV ⟨rfl,rfl⟩;go_wp2_with fail;go_ret;exact ⟨by simp,qO.out⟩
end Go.Proofs.YtinajlbijgedbaaGreat.Sto
namespace Go.Proofs.YtinajlbijgedbaaGreat.Sto
open Lib (hid)
open Go.RowKit CrcMath CodecMath Mem Crc Codec DiskSpec Dsk Sup Log
section
theorem RJ {N pg st ln:Nat} {dF:Nat->List Nat} (hN:N<=4096) (hs:pY N (plain N dF) (aW 2 pg st ln).l) (hz:∀ i,2<=i->dF i=DiskSpec.zeros) (hok:(plain N dF).ok) :
 ∃ d3,iC N dF (aW 2 pg st ln)=(0,some ⟨plain N d3,(aW 2 pg st ln).next.log,(aW 2 pg st ln).next,aM,none⟩,plain N d3):=by
 have h1:=Ev hs hz hok;obtain ⟨S2,d3,h2,h3,_,_⟩:=JQ (pg:=pg) (ls:=[]) (M:=(aW 2 pg st ln).log) (Ey hz) hs rfl hN ⟨by simp,λl hl=>by cases hl⟩ (by show 2 < _; omega) (by show 1 < _; omega);refine ⟨d3,?_⟩;have key:∀ (x:Sb) (R:Int × St),R=(0,S2)->ay S2 x.next.l=(0,plain N d3)->iJ x R=(0,some ⟨plain N d3,x.next.log,x.next,aM,none⟩,plain N d3):=λx R e e2=>by
  subst e;have e3:(ay ((0:Int),S2).2 x.next.l).1=0:=congrArg Prod.fst e2;rw [MC rfl e3];have e4:(ay ((0:Int),S2).2 x.next.l).2=plain N d3:=congrArg Prod.snd e2;rw [e4]
 have h4:bn (plain N dF) (aG (bF (plain N dF) (aW 2 pg st ln).log.ln (aW 2 pg st ln).log).1)=(0,S2):=by
  rw [h1];exact h2
 unfold iC;exact key _ _ h4 h3
theorem acB:∃ dF:Nat->List Nat,iT (St.new 400) ((16:Nat):Int) ((18:Nat):Int) ((64:Nat):Int)=(0,plain 400 dF)/\gI 400 dF=some (aW 2 16 18 64).l/\Two (dw 2) (plain 400 dF) /\
 ((plain 400 dF).ok->∃ d3,iC 400 dF (aW 2 16 18 64)=(0,some ⟨plain 400 d3,(aW 2 16 18 64).next.log,(aW 2 16 18 64).next,aM,none⟩,plain 400 d3)):=by
 obtain ⟨dF,h1,h2,h3⟩:=Ew (pg:=16) (st:=18) (ln:=64) (N:=400) (by omega) zh;have h4:iT (St.new 400) ((16:Nat):Int) ((18:Nat):Int) ((64:Nat):Int)=(0,plain 400 dF):=h1;have h5:=RP (M:=0) (S:=St.new 400) (aaz 400) ((16:Nat):Int) ((18:Nat):Int) ((64:Nat):Int);rw [h4] at h5;exact ⟨dF,h4,h2.Jd,h5,λhok=>RJ (by omega) h2 h3 hok⟩
theorem GU (W:World) {dF:Nat->List Nat} (h1:iT (St.new 400) ((16:Nat):Int) ((18:Nat):Int) ((64:Nat):Int)=(0,plain 400 dF)) (hb:gI 400 dF=some (aW 2 16 18 64).l)
 {d3:Nat->List Nat} (hop:(plain 400 dF).ok->iC 400 dF (aW 2 16 18 64)=(0,some ⟨plain 400 d3,(aW 2 16 18 64).next.log,(aW 2 16 18 64).next,aM,none⟩,plain 400 d3)) :
 Calls Tryz.prog 4 #[] W λe w'=>∃ b tb g sb dm own,e=.returned (.tuple #[.pointer (some ⟨b,0,none⟩),.pointer (some ⟨sb,0,none⟩)]) /\
  DD w' W.heap.size b tb g sb dm none own ⟨plain 400 d3,(aW 2 16 18 64).next.log,(aW 2 16 18 64).next,aM,none⟩/\W.grownBy w' none:=by
 have HN:=hid (show Calls Tryz.prog 13 #[.int .i64 400] W λe w'=>∃ b bd bm f own,e=.returned (.tuple #[.pointer (some ⟨b,0,none⟩),.int .i64 0])/\Lay w' W.heap.size b bd bm f (St.new 400) own/\W.grownBy w' none from NK 400 _ (by omega) (by omega));have H1:=hid h1; have HB:=hid hb; have Bi:=hid hop;clear h1 hb hop;go_enter Tryz.func4,Tryz.ntmps4;go_wp2_with fail;refine HN.out.mono ?_;rintro e w1 ⟨b,bd,bm,f,own,rfl,hl,hg1⟩
 have hlow:∀ i,own i->W.heap.size<=i:=hl.low;have hf:=GV (B:=W.heap.size) (b:=b) ⟨bd,bm,f,hl⟩ hg1.size ((16:Nat):Int) ((18:Nat):Int) ((64:Nat):Int) zh (λi=>by show ([]:List (List Nat)).length < _; simp);rw [H1.out] at hf;have HF:=hid hf;have qp:=hid hlow; have az:=hid hg1;clear hl hg1 hf HN hlow;go_wp2_with fail;refine HF.out.mono ?_;rintro e w2 ⟨rfl,bV,hd2,ht2⟩;have hok:(plain 400 dF).ok:=by obtain ⟨_,_,_,hl⟩:=hd2; exact hl.ok
 have hg2:W.grownBy w2 none:=dX az.out ht2 qp.out;have Zi:∀ i,bV i->W.heap.size<=i:=by obtain ⟨_,_,_,hl⟩:=hd2; exact hl.low
 have ho:=BF hd2 hg2.size (aW 2 16 18 64) HB.out (I7 (by omega) zh) (by show 2 < _; omega) (by show 1 < _; omega);rw [Bi.out hok] at ho;have HO:=hid ho;have HG2:=hid hg2; have ag4:=hid Zi;clear hd2 ht2 hok hg2 ho HF Zi;go_wp2_with fail;refine HO.out.mono ?_;rintro e w3 (⟨s,hs,tb,g,sb,dm,fQ,rfl,hst,ht3⟩ | ⟨hs,_⟩)
 · cases hs
   have HST:=hid hst;have aZ:=hid (dX HG2.out ht3 ag4.out);clear hst ht3 HO;go_wp2_with fail;go_ret2;exact ⟨b,tb,g,sb,dm,fQ,rfl,HST.out,aZ.out⟩
 · cases hs
end
end Go.Proofs.YtinajlbijgedbaaGreat.Sto
