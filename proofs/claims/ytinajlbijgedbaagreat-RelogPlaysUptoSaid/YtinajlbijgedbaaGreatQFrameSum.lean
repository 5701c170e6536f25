/- Texts of this seat's proofs: FrameSum, SupHist, StoGood, StoGood2. -/
import Derived.Test.YtinajlbijgedbaaGreatQCodecSpec
import Derived.KernelRfl
namespace Go.Proofs.YtinajlbijgedbaaGreat.Codec
open Go.RowKit CrcMath CodecMath
end Go.Proofs.YtinajlbijgedbaaGreat.Codec
namespace Go.Proofs.YtinajlbijgedbaaGreat.Sup
open Go.RowKit CrcMath CodecMath Codec DiskSpec Dsk
theorem Cb {s:List Int} (h:0<=gen s):(placeOf s:Int)=gen s % 2:=by
 unfold placeOf;rw [Int.tmod_eq_emod_of_nonneg h];omega
theorem aaQ {n:Nat} {ag:Nat->List Nat} {s:List Int} (hl:s.length=7) (hm:aL s n=true) (hd:ag (placeOf s)=frame (aX s)) (ho:∀ p,sound n ((1 - placeOf s:Nat):Int) (ag (1 - placeOf s))=some p->gen p < gen s):gI n ag=some s:=by
 have hg:=tQ hl hm;obtain ⟨hp,hp2⟩:=ll hg.1;have hs:=Fg (n:=n) (i:=(placeOf s:Int)) hl hm hp;unfold gI mW;rcases (by omega:placeOf s=0\/placeOf s=1) with e | e
 · rw [e] at hd hs ho;rw [hd,show sound n 0 (frame (aX s))=some s from hs]
   cases ho':sound n 1 (ag 1) with
   | none=>rfl
   | some p =>
     have:=ho p ho';show (if gen s < gen p then some p else some s)=some s;rw [if_neg (by omega)]
 · rw [e] at hd hs ho;rw [hd,show sound n 1 (frame (aX s))=some s from hs]
   cases ho':sound n 0 (ag 0) with
   | none=>rfl
   | some p =>
     have:=ho p ho';show (if gen p < gen s then some s else some p)=some s;rw [if_pos this]
end Go.Proofs.YtinajlbijgedbaaGreat.Sup
namespace Go.Proofs.YtinajlbijgedbaaGreat.Sto
open Go.RowKit CrcMath CodecMath Codec DiskSpec Dsk Sup Log
structure iN (S:St):Prop where
 c:Log.Calm S
 f3:S.f3=0
theorem Eb (n:Nat) (ag:Nat->List Nat):iN (plain n ag):=⟨⟨rfl,rfl,rfl⟩,rfl⟩
theorem Jk {S:St} (h:Log.Calm S) {a:Nat} (ha:a < S.n) {l:List Nat} (hl:l.length=256):aF S false (a:Nat) l=(0,S.add a l):=by
 obtain ⟨n,ag,ae,f1,f2,f3,left⟩:=S;obtain ⟨h1,h2,h3⟩:=h;simp only at h1 h2 h3 ha;subst h1 h2 h3;unfold aF;rw [if_neg (by omega),hl];rw [if_neg (by simp [St.has]; omega),if_neg (by simp)];have fF:sec l 0=l:=by
  show (l.drop (256 * 0)).take 256=l;rw [Nat.mul_zero,List.drop_zero,List.take_of_length_le (by omega)]
 show (0,St.done (St.add _ (a+0) (sec l 0)))=_;rw [fF,Nat.add_zero]
 rfl
theorem uC {S:St} (h:iN S):aR S=(0,S.flush):=by
 obtain ⟨n,ag,ae,f1,f2,f3,left⟩:=S;obtain ⟨⟨h1,h2,h3⟩,h4⟩:=h;simp only at h1 h2 h3 h4;subst h1 h2 h3 h4
 rfl
theorem iN.flush {S:St} (h:iN S):iN S.flush:=⟨⟨h.c.f1,h.c.f2,h.c.left⟩,h.f3⟩
theorem iN.add {S:St} (h:iN S) (a:Nat) (l:List Nat):iN (S.add a l):=⟨⟨h.c.f1,h.c.f2,h.c.left⟩,h.f3⟩
theorem Ez {S:St} (h:iN S):S.flush=plain S.n S.now:=by
 obtain ⟨n,ag,ae,f1,f2,f3,left⟩:=S;obtain ⟨⟨h1,h2,h3⟩,h4⟩:=h;simp only at h1 h2 h3 h4;subst h1 h2 h3 h4
 rfl
def St.sup (S:St) (a:Nat) (l:List Nat):St:={ S with ag:=upd S.ag a l }
theorem F7 {S:St} (h:iN S) {s:List Int} (hl:s.length=7) (hm:aL s S.n=true) (hv:S.ae (placeOf s)=[]):ay S s=(0,St.sup S (placeOf s) (frame (aX s))):=by
 have hg:=tQ hl hm;obtain ⟨hp,hp2⟩:=ll hg.1;have hn:=Gy hl hm;have hlen:=vX hl (kI hm);unfold ay;rw [hm,if_pos rfl,hp];generalize frame (aX s)=l at *;generalize placeOf s=a at *;obtain ⟨n,ag,ae,f1,f2,f3,left⟩:=S;obtain ⟨⟨h1,h2,h3⟩,h4⟩:=h;simp only at h1 h2 h3 h4 hv hn;subst h1 h2 h3 h4;unfold aF;rw [if_neg (by omega),hlen];rw [if_neg (by simp [St.has]; omega),if_neg (by simp)];have fF:sec l 0=l:=by
  show (l.drop (256 * 0)).take 256=l;rw [Nat.mul_zero,List.drop_zero,List.take_of_length_le (by omega)]
 show (0,St.done (St.settle (St.add _ (a+0) (sec l 0)) (a+0)))=_;rw [fF,Nat.add_zero]
 congr 1
 have e1:upd (upd ae a (ae a ++ [l])) a []=ae:=by
  funext i; unfold upd; split
  · rename_i e; subst e; exact hv.symm
  · rfl
 have e2:St.now { n:=n,ag:=ag,ae:=upd ae a (ae a ++ [l]),f1:=0,f2:=0 - 1,f3:=0,left:=-1 } a=l:=by simp [St.now,upd]
 show ({ n:=n,ag:=upd ag a (St.now { n:=n,ag:=ag,ae:=upd ae a (ae a ++ [l]),f1:=0,f2:=0 - 1,f3:=0,left:=-1 } a),ae:=upd (upd ae a (ae a ++ [l])) a [],f1:=0,f2:=0 - 1,f3:=0,left:=tick (-1) }:St)=_;rw [e1,e2]
 rfl
theorem iN.sup {S:St} (h:iN S) (a:Nat) (l:List Nat):iN (St.sup S a l):=⟨⟨h.c.f1,h.c.f2,h.c.left⟩,h.f3⟩
theorem aan (S:St) (L:Lg) (l:List Nat):(bL S L l).2.f3=S.f3:=by
 have hw:∀ (S:St) (a:Int) (l:List Nat),(aF S false a l).2.f3=S.f3:=λS a l=>by
  unfold aF
  split
  · rfl
  · split
    · rfl
    · split
      · rfl
      · exact (BZ _ _ _ _).2.2.2.2.1
 unfold bL
 split
 · exact hw _ _ _
 · split
   · exact hw _ _ _
   · rw [hw,hw]
theorem Tm (S:St) (L:Lg) (l:List ax):(aN S L l).2.1.f3=S.f3:=by
 unfold aN
 split
 · rfl
 · split
   · rfl
   · split
     · rfl
     · split <;> exact aan _ _ _
def pF (k:Nat) (q:Pg):List Nat:=frame (cZ (k:Int) q.1 q.2)
def acQ (k:Nat) (c:List Nat):Prop:=c=DiskSpec.zeros\/∃ q:Pg,bA (k:Int) q.1 q.2=true/\c=pF k q
theorem aap {k:Nat} {q:Pg} (h:bA (k:Int) q.1 q.2=true):(pF k q).length=256:=cz _ (by rw [uM _ _ _ (dQ h).2.2.1]; omega)
def iq (D:aK):St->List Nat->St
 | S,[]=>S
 | S,k :: r=>iq D (S.add (2+k) (pF k ((D k).getD (0,[])))) r
theorem yQ {D:aK} (hD:bg D):∀ {ks:List Nat} {S:St},Log.Calm S->(∀ k∈ks,2+k < S.n/\(D k).isSome=true)->aO S (ks.map λk=>iY k ((D k).getD (0,[])))=(0,iq D S ks)
 | [],S,_,_=>rfl
 | k :: r,S,hc,h=>by
   obtain ⟨h1,h2⟩:=h k (List.mem_cons_self ..);obtain ⟨q,hq⟩:=Option.isSome_iff_exists.1 h2;have hw:bJ S (iY k ((D k).getD (0,[])))=(0,S.add (2+k) (pF k ((D k).getD (0,[])))):=by
    show aF S false (2+(k:Int)) (pF k ((D k).getD (0,[])))=_;rw [show (2:Int)+(k:Int)=((2+k:Nat):Int) by omega];exact Jk hc h1 (by rw [hq]; exact aap (hD k q hq))
   show (if (bJ S (iY k ((D k).getD (0,[])))).1=0 then aO (bJ S (iY k ((D k).getD (0,[])))).2 _ else _)=(0,iq D S (k :: r));rw [hw,if_pos rfl];exact yQ hD ⟨hc.f1,hc.f2,hc.left⟩ (λj hj=>h j (List.mem_cons_of_mem _ hj))
theorem wJ {D:aK}:∀ {ks:List Nat} {S:St},iN S->iN (iq D S ks)
 | [],_,h=>h
 | k :: r,S,h=>wJ (ks:=r) (S:=S.add (2+k) (pF k ((D k).getD (0,[])))) (h.add _ _)
theorem oJ {D:aK}:∀ {ks:List Nat} {S:St},(iq D S ks).n=S.n/\(iq D S ks).ag=S.ag
 | [],_=>⟨rfl,rfl⟩
 | k :: r,S=>oJ (ks:=r) (S:=S.add (2+k) (pF k ((D k).getD (0,[]))))
theorem qM {D:aK}:∀ {ks:List Nat} {S:St} {p:Nat},(∀ k∈ks,p≠2+k)->(iq D S ks).ae p=S.ae p
 | [],_,_,_=>rfl
 | k :: r,S,p,h=>by
   show (iq D (S.add (2+k) _) r).ae p=_;rw [qM (λj hj=>h j (List.mem_cons_of_mem _ hj))];exact upd_ne _ _ (h k (List.mem_cons_self ..))
theorem aaS (S:St) (a:Nat) (l:List Nat):(S.add a l).now a=l:=by simp [St.now,St.add,upd]
theorem FM {D:aK}:∀ {ks:List Nat} {S:St} {k:Nat},k∈ks->(iq D S ks).now (2+k)=pF k ((D k).getD (0,[]))
 | j :: r,S,k,h=>by
   show (iq D (S.add (2+j) _) r).now (2+k)=_
   by_cases hr:k∈r
   · exact FM hr
   · have hj:k=j:=by
      rcases List.mem_cons.1 h with h | h
      · exact h
      · exact absurd h hr
     subst hj;have e:(iq D (S.add (2+k) (pF k ((D k).getD (0,[])))) r).now (2+k)=(S.add (2+k) (pF k ((D k).getD (0,[])))).now (2+k):=zm oJ.2 (qM (λi hi e=>hr (by rw [show k=i by omega]; exact hi)));rw [e,aaS]
theorem CF {D:aK}:∀ {ks:List Nat} {S:St} {p:Nat} {c:List Nat},iQ (iq D S ks) p c->iQ S p c\/∃ k,k∈ks/\p=2+k/\c=pF k ((D k).getD (0,[]))
 | [],_,_,_,h=>.inl h
 | k :: r,S,p,c,h=>by
   rcases CF (ks:=r) h with h | ⟨j,hj,h1,h2⟩
   · by_cases e:p=2+k
     · subst e;rcases DC (S:=S) (T:=S.add (2+k) (pF k ((D k).getD (0,[])))) rfl (upd_same _ _ _) h with h | h
       · exact .inl h
       · exact .inr ⟨k,List.mem_cons_self ..,rfl,h⟩
     · exact .inl (lH (S:=S) (T:=S.add (2+k) (pF k ((D k).getD (0,[])))) rfl (upd_ne _ _ e) h)
   · exact .inr ⟨j,List.mem_cons_of_mem _ hj,h1,h2⟩
structure jl (N pg ep:Nat) (S:St):Prop where
 n:S.n=N
 q:iN S
 v0:S.ae 0=[]
 v1:S.ae 1=[]
 homes:∀ k,k < pg->∀ c,iQ S (2+k) c->acQ k c
 far:∀ i,2+pg<=i->∀ c,iQ S i c->Old (ep+1) 0 c
theorem jl.vp {N pg ep:Nat} {S:St} (h:jl N pg ep S) (s:List Int) (hs:0<=gen s):S.ae (placeOf s)=[]:=by
 obtain ⟨_,h2⟩:=ll hs;rcases (by omega:placeOf s=0\/placeOf s=1) with e | e
 · rw [e]; exact h.v0
 · rw [e]; exact h.v1
theorem jl.flush {N pg ep:Nat} {S:St} (h:jl N pg ep S):jl N pg ep S.flush :=
 ⟨h.n,h.q.flush,rfl,rfl,λk hk c hc=>by rw [sI (S:=S) rfl (λ_=>rfl) hc]; exact h.homes k hk _ (AQ S _),λi hi c hc=>by rw [sI (S:=S) rfl (λ_=>rfl) hc]; exact h.far i hi _ (AQ S _)⟩
theorem jl.later {N pg ep:Nat} {S:St} (h:jl N pg ep S):jl N pg (ep+1) S :=
 ⟨h.n,h.q,h.v0,h.v1,h.homes,λi hi c hc=>(h.far i hi c hc).more (.inl (by omega))⟩
theorem FJ {S:St} {a p:Nat} {l c:List Nat} (hp:p≠a) (h:iQ (St.sup S a l) p c):iQ S p c:=by
 unfold iQ at *;have e:(St.sup S a l).ag p=S.ag p:=upd_ne _ _ hp;rw [e] at h;exact h
theorem IL {S:St} {a p:Nat} {l:List Nat} (hp:p≠a):(St.sup S a l).now p=S.now p:=by
 unfold St.now;have e:(St.sup S a l).ag p=S.ag p:=upd_ne _ _ hp;rw [e]; rfl
theorem jl.sup {N pg ep:Nat} {S:St} (h:jl N pg ep S) {a:Nat} (ha:a < 2) (l:List Nat):jl N pg ep (St.sup S a l) :=
 ⟨h.n,h.q.sup a l,h.v0,h.v1,λk hk c hc=>h.homes k hk c (FJ (by omega) hc),λi hi c hc=>h.far i hi c (FJ (by omega) hc)⟩
theorem jl.iq {N pg ep:Nat} {S:St} (h:jl N pg ep S) {D:aK} (hD:bg D) {ks:List Nat} (hk:∀ k∈ks,k < pg/\(D k).isSome=true):jl N pg ep (iq D S ks):=by
 refine ⟨oJ.1.trans h.n,wJ h.q,(qM (λk _=>by omega)).trans h.v0,(qM (λk _=>by omega)).trans h.v1,λk hkp c hc=>?_,λi hi c hc=>?_⟩
 · rcases CF hc with hc | ⟨j,hj,h1,h2⟩
   · exact h.homes k hkp c hc
   · obtain rfl:k=j:=by omega
     obtain ⟨q,hq⟩:=Option.isSome_iff_exists.1 (hk k hj).2;rw [hq] at h2;exact .inr ⟨q,hD k q hq,h2⟩
 · rcases CF hc with hc | ⟨j,hj,h1,h2⟩
   · exact h.far i hi c hc
   · have:=(hk j hj).1; omega
theorem jl.put {N pg ep:Nat} {S T:St} (h:jl N pg ep S) {L:Lg} {l:List ax} (hp:Put S T L (bR L.ep L.seq l) (1+l.length)) (hc:Log.Calm T) (h3:T.f3=S.f3) (hlo:2+pg<=L.st) (fG:L.ep=ep)
 (hok:∀ x∈l,bU x=true) (h1:1<=l.length) (gB:l.length<=40) (he:L.ep<=4294967295) (hs:L.seq<=1099511627775):jl N pg ep T:=by
 have fF:∀ i,2+pg<=L.sec i:=λi=>by unfold Lg.sec; omega
 refine ⟨hp.n.trans h.n,⟨hc,h3.trans h.q.f3⟩,(hp.far 0 (λi _ e=>by have:=fF i; omega)).trans h.v0,(hp.far 1 (λi _ e=>by have:=fF i; omega)).trans h.v1,λk hkp c hcc=>?_,λi hi c hcc=>?_⟩
 · exact h.homes k hkp c (lH hp.ag (hp.far _ (λi _ e=>by have:=fF i; omega)) hcc)
 · by_cases hx:∃ j,j < 1+l.length/\i=L.sec j
   · obtain ⟨j,hj,rfl⟩:=hx;rcases DC hp.ag (hp.at_ j hj) hcc with hcc | hcc
     · exact h.far _ hi c hcc
     · subst hcc fG;exact (IJ hok h1 gB he hs hj).more (.inl (by omega))
   · exact h.far i hi c (lH hp.ag (hp.far i (λj hj e=>hx ⟨j,hj,e⟩)) hcc)
structure pY (N:Nat) (S:St) (s:List Int):Prop where
 len:s.length=7
 may:aL s N=true
 at_:S.ag (placeOf s)=frame (aX s)
 less:∀ p,sound N ((1 - placeOf s:Nat):Int) (S.ag (1 - placeOf s))=some p->gen p < gen s
theorem pY.same {N:Nat} {S T:St} {s:List Int} (h:pY N S s) (h0:T.ag 0=S.ag 0) (h1:T.ag 1=S.ag 1):pY N T s:=by
 obtain ⟨_,h2⟩:=ll (tQ h.len h.may).1;refine ⟨h.len,h.may,?_,λp hp=>h.less p ?_⟩
 · rcases (by omega:placeOf s=0\/placeOf s=1) with e | e
   · rw [e,h0,<-h.at_,e]
   · rw [e,h1,<-h.at_,e]
 · rw [<-hp];rcases (by omega:1 - placeOf s=0\/1 - placeOf s=1) with e | e
   · rw [e,h0]
   · rw [e,h1]
theorem pY.Jd {N:Nat} {S:St} {s:List Int} (h:pY N S s):gI N S.ag=some s:=aaQ h.len h.may h.at_ h.less
theorem pY.next {N:Nat} {S:St} {s t:List Int} (h:pY N S s) (hl:t.length=7) (hm:aL t N=true) (hg:gen t=gen s+1):pY N (St.sup S (placeOf t) (frame (aX t))) t:=by
 have hs:=tQ h.len h.may;obtain ⟨p1,p2⟩:=ll hs.1;obtain ⟨q1,q2⟩:=ll (tQ hl hm).1;have e1:=Cb hs.1;have e2:=Cb (tQ hl hm).1;have hne:1 - placeOf t=placeOf s:=by omega
 refine ⟨hl,hm,upd_same _ _ _,λp hp=>?_⟩;have hd:(St.sup S (placeOf t) (frame (aX t))).ag (1 - placeOf t)=S.ag (1 - placeOf t):=upd_ne _ _ (by omega);rw [hd,hne,h.at_,Fg h.len h.may p1] at hp
 cases hp
 omega
theorem jq {x:Sb} {N:Nat} (h:aL x.l (N:Int)=true):16<=x.pg/\x.pg<=1024/\2+x.pg<=x.st/\64<=x.ln/\x.st+x.ln<=N/\x.hd < x.ln/\x.gn<=1099511627776/\x.ep<=1099511627776/\x.sq<=1099511627776:=by
 have ho:=iR h;have k0:=(aV ho 0 (by simp [Sb.l])).2; have k1:=(aV ho 1 (by simp [Sb.l])).2; have k6:=(aV ho 6 (by simp [Sb.l])).2;have hr:jg x.l N=true:=by
  unfold aL at h;rw [Bool.and_eq_true] at h;exact h.2
 simp [Sb.l] at k0 k1 k6
 simp [jg,Sb.l] at hr
 omega
theorem zq {x:Sb} {N:Nat} (h1:16<=x.pg/\x.pg<=1024) (h2:2+x.pg<=x.st) (h3:64<=x.ln) (h4:x.st+x.ln<=N) (h5:x.hd < x.ln) (h6:x.gn<=1099511627776/\x.ep<=1099511627776/\x.sq<=1099511627776) (hN:N<=4096):aL x.l (N:Int)=true:=by
 have hok:eX x.l=true:=DT _ 7 rfl (λj hj=>by
  have:j=0\/j=1\/j=2\/j=3\/j=4\/j=5\/j=6:=by omega
  rcases this with rfl | rfl | rfl | rfl | rfl | rfl | rfl <;> (refine uN ?_; simp [Sb.l]; omega))
 unfold aL;rw [hok]
 simp [jg,Sb.l]
 omega
theorem wE (x:Sb):gen x.l=(x.gn:Int):=rfl
theorem Mf {S T:St} {B L:Lg} {ls:List (List ax)} {sure:Nat} (h:Ring S B ls none sure L) (h1:∀ o c,o < B.ln->iQ T (B.sec o) c->iQ S (B.sec o) c) (h2:∀ o,o < B.ln->T.now (B.sec o)=S.now (B.sec o)):Ring T B ls none sure L :=
 have ha:=h.all
 { h with
  now:=λo ho=>(h2 o (by omega)).trans (h.now o ho)
  yU:=λo c ho hc=>h.yU o c ho (h1 o c (by omega) hc)
  held:=λo c ho hc=>h.held o c ho (h1 o c (by have:=vW ls sure; omega) hc)
  rest:=λo c ho ho2 hc=>h.rest o c ho ho2 (h1 o c ho2 hc) }
theorem wS (L:Lg) (o:Nat):L.st<=L.sec o:=by unfold Lg.sec; omega
theorem Rn {S:St} {B L:Lg} {ls:List (List ax)} {sure:Nat} (h:Ring S B ls none sure L):Ring S.flush B ls none ls.length L:=h.flush rfl (λ_=>rfl)
theorem Uu {S:St} {B L:Lg} {ls:List (List ax)} {sure pg:Nat} (h:Ring S B ls none sure L) (hst:2+pg<=B.st) {D:aK} {ks:List Nat} (hk:∀ k∈ks,k < pg):Ring (iq D S ks) B ls none sure L:=by
 have hf:∀ o,(iq D S ks).ae (B.sec o)=S.ae (B.sec o):=λo=>qM (λk hk2 e=>by have:=hk k hk2; have:=wS B o; omega)
 exact Mf h (λo c _ hc=>lH oJ.2 (hf o) hc) (λo _=>zm oJ.2 (hf o))
theorem Xu {S:St} {B L:Lg} {ls:List (List ax)} {sure:Nat} (h:Ring S B ls none sure L) (hst:2<=B.st) {a:Nat} (ha:a < 2) (l:List Nat):Ring (St.sup S a l) B ls none sure L :=
 Mf h (λo c _ hc=>FJ (by have:=wS B o; omega) hc) (λo _=>IL (by have:=wS B o; omega))
theorem Gz:∀ {l:List ax} {seen:List Int},(∀ x∈l,bU x=true)->(oo l).Nodup->(∀ x∈l,x.1 ∉ seen)->eF seen l=true
 | [],_,_,_,_=>rfl
 | x :: r,seen,h1,h2,h3=>by
   have h2':(x.1 :: oo r).Nodup:=h2;rw [List.nodup_cons] at h2';rw [eF,h1 x (List.mem_cons_self ..),Bool.true_and,Bool.and_eq_true];refine ⟨?_,Gz (λy hy=>h1 y (List.mem_cons_of_mem _ hy)) h2'.2 (λy hy e=>?_)⟩
   · have:=h3 x (List.mem_cons_self ..)
     simpa using this
   · rcases List.mem_cons.1 e with e | e
     · exact h2'.1 (by rw [<-e]; exact List.mem_map.2 ⟨y,hy,rfl⟩)
     · exact h3 y (List.mem_cons_of_mem _ hy) e
theorem RN (U:aK):oo (rising U)=(keys U).map λk=>((k:Nat):Int):=by
 unfold oo rising;rw [List.map_map]; rfl
theorem Ga {U:aK} (h:bg U):eF [] (rising U)=true:=by
 refine Gz (kJ h) ?_ (λx _=>by simp);rw [RN];have:=R4 U;rw [List.Nodup,List.pairwise_map];exact this.imp (λh e=>h (by omega))
theorem Rm {U:aK} {y:ax} (hy:y∈rising U):∃ k,y.1=(k:Nat)/\(U k).isSome=true:=by
 obtain ⟨k,hk,rfl⟩:=List.mem_map.1 hy;exact ⟨k,rfl,(mem_keys.1 hk).2⟩
theorem Ca (U:aK) (j:Nat):∀ (ks:List Nat) (D:aK),bE D (ks.map λk=>iY k ((U k).getD (0,[]))) j=if j∈ks then some ((U j).getD (0,[])) else D j
 | [],D=>by simp [bE]
 | k :: r,D=>by
   show bE (upd D ((k:Nat):Int).toNat (some ((U k).getD (0,[])))) (r.map _) j=_;rw [Ca U j r];have e:((k:Nat):Int).toNat=k:=by omega
   rw [e]
   by_cases h1:j∈r
   · rw [if_pos h1,if_pos (List.mem_cons_of_mem _ h1)]
   · rw [if_neg h1]
     by_cases h2:j=k
     · subst h2;rw [upd_same,if_pos (List.mem_cons_self ..)]
     · rw [upd_ne _ _ h2,if_neg (by simp [h1,h2])]
theorem zl {D U:aK} (h:bg U):bE D (rising U)=over D U:=by
 funext j
 have h1:bE D (rising U) j=if j∈keys U then some ((U j).getD (0,[])) else D j:=Ca U j (keys U) D;rw [h1];unfold over
 cases hj:U j with
 | some q =>
   have:j∈keys U:=mem_keys.2 ⟨h.lt hj,by rw [hj]; rfl⟩;rw [if_pos this]; rfl
 | none =>
   have:j ∉ keys U:=λhm=>by
    have:=(mem_keys.1 hm).2;rw [hj] at this; cases this
   rw [if_neg this]
theorem Py (q:Int) (ls:List (List ax)) (l:List ax):aG (gK q (ls ++ [l]))=bE (aG (gK q ls)) l:=by
 rw [D8];unfold aG;rw [List.foldl_append]
 rfl
theorem UT {D U:aK} {k:Nat} (h:(over D U k).isSome=true):(U k).isSome=true\/(D k).isSome=true:=by
 unfold over at h
 cases hu:U k with
 | some q=>exact .inl rfl
 | none=>rw [hu] at h; exact .inr h
theorem JO {D U:aK} (h:keys U≠[]):keys (over D U)≠[]:=λhx=>by
 obtain ⟨k,hk⟩:∃ k,k∈keys U:=by
  cases Vx:keys U with
  | nil=>exact absurd Vx h
  | cons a r=>exact ⟨a,List.mem_cons_self ..⟩
 have h2:=mem_keys.1 hk;have:k∈keys (over D U):=mem_keys.2 ⟨h2.1,by
  unfold over;obtain ⟨q,hq⟩:=Option.isSome_iff_exists.1 h2.2;rw [hq]; rfl⟩
 rw [hx] at this
 cases this
structure Hm (pg:Nat) (U:aK):Prop where
 ok:bg U
 lt:∀ k,(U k).isSome=true->k < pg
 most:(keys U).length<=40
structure GoodS (N pg:Nat) (s:Sto) (ls:List (List ax)) (sure:Nat):Prop where
 d:jl N pg s.x.ep s.S
 A8:s.x.pg=pg
 top:N<=4096
 sup:pY N s.S s.x.l
 ring:Ring s.S s.x.log ls none sure s.L
 sound:s.L.broken=false
 ok:s.L.ok N
 Cy:bg s.D
 NG:∀ k,(s.D k).isSome=true->k < pg
 V6:s.D=aG (gK (s.x.sq:Int) ls)
 emp:keys s.D=[]->ls=[]
 nums:∀ l∈ls,∀ y∈l,y.1 < (pg:Int)
 w:∀ U,s.W=some U->Hm pg U
section
variable {N pg:Nat} {s:Sto} {ls:List (List ax)} {sure:Nat}
theorem GoodS.may (h:GoodS N pg s ls sure):aL s.x.l (N:Int)=true:=h.sup.may
theorem GoodS.room (h:GoodS N pg s ls sure):s.L.room=s.x.ln - total ls:=by
 unfold Lg.room;rw [h.sound,h.ring.ln,h.ring.taken]
 rfl
theorem GoodS.idle (h:GoodS N pg s ls sure):GoodS N pg s.idle ls sure:={ h with w:=λU hU=>by cases hU }
theorem GoodS.begun (h:GoodS N pg s ls sure) {U:aK} (hU:Hm pg U):GoodS N pg { s with W:=some U } ls sure:={ h with w:=λV hV=>by cases hV; exact hU }
theorem GoodS.flush (h:GoodS N pg s ls sure):GoodS N pg { s with S:=s.S.flush } ls ls.length :=
 { h with
  d:=h.d.flush
  sup:=h.sup.same (St.nD h.d.v0) (St.nD h.d.v1)
  ring:=Rn h.ring }
theorem GoodS.home (h:GoodS N pg s ls sure):bn s.S s.D=(0,(iq s.D s.S (keys s.D)).flush)/\GoodS N pg { s with S:=(iq s.D s.S (keys s.D)).flush } ls ls.length:=by
 have hm:=jq h.may;have hp:=h.A8;have hks:∀ k∈keys s.D,k < pg/\(s.D k).isSome=true:=λk hk=>⟨h.NG k (mem_keys.1 hk).2,(mem_keys.1 hk).2⟩
 have hd:=h.d.iq h.Cy hks;have hq:iN (iq s.D s.S (keys s.D)):=wJ h.d.q;have e:aO s.S (rising s.D)=(0,iq s.D s.S (keys s.D)):=yQ h.Cy h.d.q.c (λk hk=>⟨by have:=(hks k hk).1; have:=h.d.n; omega,(hks k hk).2⟩);have hs:=h.sup.same (T:=iq s.D s.S (keys s.D)) (by rw [oJ.2]) (by rw [oJ.2]);have hr:=Uu (D:=s.D) h.ring (show 2+pg<=s.x.st by omega) (λk hk=>(hks k hk).1);generalize iq s.D s.S (keys s.D)=T at *
 have hg:GoodS N pg { s with S:=T } ls sure:={ h with d:=hd,sup:=hs,ring:=hr };refine ⟨?_,hg.flush⟩;have key:∀ (T:St) (R:Int × St),R=(0,T)->(if R.1=0 then aR R.2 else R)=aR T:=by rintro T R rfl; rfl
 unfold bn;exact (key _ _ e).trans (uC hq)
theorem GoodS.ky (h:GoodS N pg s ls sure) (hgn:s.x.gn < 1099511627776) (mf:s.L.seq<=1099511627776) (hk:¬ (keys s.D=[]/\0 < s.L.room)) :
 ∃ T,bG s=(0,{ s with S:=T,L:=s.L.drop,x:=s.past,D:=aM })/\GoodS N pg { s with S:=T,L:=s.L.drop,x:=s.past,D:=aM } [] 0 /\
  T.ae=(λ_=>[])/\∀ k,k < pg->T.now (2+k)=(match s.D k with | some q=>pF k q | none=>s.S.now (2+k)):=by
 have hm:=jq h.may;have hp:=h.A8;have h1:=h.flush;obtain ⟨e2,h2⟩:=h1.home
 dsimp only at e2 h2
 have hhome:∀ k,k < pg->(iq s.D s.S.flush (keys s.D)).now (2+k)=(match s.D k with | some q=>pF k q | none=>s.S.now (2+k)):=λk hk2=>by
  cases hq:s.D k with
  | some q =>
    have hmk:k∈keys s.D:=mem_keys.2 ⟨h.Cy.lt hq,by rw [hq]; rfl⟩;rw [FM hmk,hq]; rfl
  | none =>
    have hmk:k ∉ keys s.D:=λhx=>by
     have:=(mem_keys.1 hx).2;rw [hq] at this; cases this
    exact (zm (S:=s.S.flush) oJ.2 (qM (p:=2+k) (λj hj e=>hmk (by rw [show k=j by omega]; exact hj)))).trans (St.nD (S:=s.S.flush) rfl)
 generalize iq s.D s.S.flush (keys s.D)=T0 at *;have htl:=h.ok.tail;have hln:s.L.ln=s.x.ln:=h.ring.ln;have bu:aL s.past.l (N:Int)=true:=zq (x:=s.past) ⟨hm.1,hm.2.1⟩ hm.2.2.1 hm.2.2.2.1 hm.2.2.2.2.1 (show s.L.tail < s.x.ln by omega) ⟨(show s.x.gn+1<=_ by omega),hm.2.2.2.2.2.2.2.1,mf⟩ h.top;have hg0:0<=gen s.past.l:=by rw [wE]; omega
 have hpl:=(ll hg0).2;have e3:=F7 h2.d.q (s:=s.past.l) rfl (by have:=h2.d.n; rw [this]; exact bu) rfl;refine ⟨St.sup T0.flush (placeOf s.past.l) (frame (aX s.past.l)),?_,?_,rfl,λk hk2=>?_⟩
 · unfold bG;rw [if_neg hk,if_neg (by omega),uC h.d.q,if_pos rfl];unfold iU;rw [e2,if_pos rfl];unfold jZ
   dsimp only
   rw [e3,if_pos rfl]
 · have hr:=Xu h2.ring (show 2<=s.x.st by omega) hpl (frame (aX s.past.l));exact {
    d:=h2.d.sup hpl _
    A8:=h.A8
    top:=h.top
    sup:=h2.sup.next rfl bu (by rw [wE,wE]; show ((s.x.gn+1:Nat):Int)=(s.x.gn:Int)+1; omega)
    ring:=hr.drop (λ_ _ hc=>hc) (C:=s.past.log) ⟨rfl,rfl,show s.L.tail < s.x.ln by omega⟩ rfl rfl rfl rfl rfl
    sound:=rfl
    ok:=⟨h.ok.fit,h.ok.low,h.ok.tail,Nat.zero_le _,h.ok.ep,h.ok.seq⟩
    Cy:=bg.none_
    NG:=λk hk=>by cases hk
    V6:=rfl
    emp:=λ_=>rfl
    nums:=λl hl=>by cases hl
    w:=h.w }
 · rw [IL (by omega)];exact hhome k hk2
theorem GoodS.log (h:GoodS N pg s ls sure) {U:aK} (hU:Hm pg U) (hne:keys U≠[]) (he:s.x.ep<=4294967295) (hs:s.L.seq<=1099511627775) (hr:1+(keys U).length<=s.L.room) :
 ∃ T,fB s (rising U)=(0,{ s with S:=T,L:=s.L.pass (1+(keys U).length) })/\GoodS N pg { s with S:=T,L:=s.L.pass (1+(keys U).length),D:=over s.D U } (ls ++ [rising U]) sure/\(∀ k,k < pg->T.now (2+k)=s.S.now (2+k))/\∀ i,(T.ae i).length<=(s.S.ae i).length+1:=by
 have hm:=jq h.may;have hp:=h.A8;have hlen:=dP U;have h1:1<=(rising U).length:=by
  rw [hlen]
  cases Vx:keys U with
  | nil=>exact absurd Vx hne
  | cons a r=>simp
 have hmw:=Ga hU.ok;have fG:s.L.ep=s.x.ep:=h.ring.ep;have hst:s.L.st=s.x.st:=h.ring.st;have hok:s.L.ok s.S.n:=by rw [h.d.n]; exact h.ok
 have gB:(rising U).length<=40:=by rw [hlen]; exact hU.most
 obtain ⟨T,e,hput,hcalm⟩:=PT h.d.q.c hok gB h1 hmw (by rw [hlen]; omega);have hring:=(h.ring.append hok (rising U)).2;have hf3:=Tm s.S s.L (rising U);rw [e] at hring hf3
 dsimp only at hring hf3
 rcases hring with ⟨_,_,hring⟩ | ⟨hx,_⟩
 · rw [hlen] at e hring hput;have hdg:=h.d.put (by rw [hlen]; exact hput) hcalm hf3 (show 2+pg<=s.L.st by omega) fG (kJ hU.ok) h1 gB (by omega) hs;have hroom:=h.room;generalize (keys U).length=m at *;refine ⟨T,?_,?_,λk hk=>?_,λi=>hput.lens i⟩
   · unfold fB;rw [e]
   · exact {
      d:=hdg
      A8:=h.A8
      top:=h.top
      sup:=h.sup.same (by rw [hput.ag]) (by rw [hput.ag])
      ring:=hring
      sound:=h.sound
      ok:=by
       have hl2:=h.ok.low;have hl3:=Iz s.L;have h6:s.L.ln=s.x.ln:=h.ring.ln;have h7:s.L.taken=total ls:=h.ring.taken;exact ⟨h.ok.fit,h.ok.low,Nat.mod_lt _ (by omega),(show s.L.taken+(1+m)<=s.L.ln by omega),h.ok.ep,(show s.L.seq+1<=_ by omega)⟩
      Cy:=h.Cy.over hU.ok
      NG:=λk hk=>by
       rcases UT hk with hk | hk
       · exact hU.lt k hk
       · exact h.NG k hk
      V6:=by rw [Py,zl hU.ok,<-h.V6]
      emp:=λhx=>absurd hx (JO hne)
      nums:=λl hl y hy=>by
       rcases List.mem_append.1 hl with hl | hl
       · exact h.nums l hl y hy
       · rw [List.mem_singleton] at hl;rw [hl] at hy;obtain ⟨k,e1,e2⟩:=Rm hy;have:=hU.lt k e2;omega
      w:=h.w }
   · exact hput.same (λi _ e=>by have:=wS s.L i; omega)
 · exact absurd rfl hx
def lI (pg:Nat) (s:Sto) (C:aK):Prop:=∀ k,k < pg->match s.D k with | some q=>C k=some q | none=>(C k=none/\s.S.now (2+k)=DiskSpec.zeros)\/∃ q,C k=some q/\bA (k:Int) q.1 q.2=true/\s.S.now (2+k)=pF k q
end
end Go.Proofs.YtinajlbijgedbaaGreat.Sto
