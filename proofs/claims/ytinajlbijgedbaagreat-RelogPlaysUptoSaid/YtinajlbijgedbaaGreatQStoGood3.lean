/- Texts of this seat's proofs: StoGood3, StoGood4, StoOpenAny, StoOpenNone. -/
import Derived.Test.YtinajlbijgedbaaGreatQFrameSum
import Derived.Test.YtinajlbijgedbaaGreatQStoLatest
namespace Go.Proofs.YtinajlbijgedbaaGreat.Sto
open Go.RowKit CrcMath CodecMath Codec DiskSpec Dsk Sup Log
section
variable {N pg:Nat} {s s':Sto} {ls:List (List ax)} {sure:Nat} {C:aK}
structure AU (s s':Sto):Prop where
 ep:s'.x.ep=s.x.ep
 gn:s.x.gn<=s'.x.gn/\s'.x.gn<=s.x.gn+1
 seq:s.L.seq<=s'.L.seq/\s'.L.seq<=s.L.seq+1
 pl:s'.x.st=s.x.st/\s'.x.ln=s.x.ln
 ae:∀ i,(s'.S.ae i).length<=(s.S.ae i).length+1
theorem AU.refl (s:Sto):AU s s:=⟨rfl,⟨akf _,Nat.le_succ _⟩,⟨akf _,Nat.le_succ _⟩,⟨rfl,rfl⟩,λ_=>Nat.le_succ _⟩
theorem AU.aea (s:Sto):AU s s.idle:=⟨rfl,⟨akf _,Nat.le_succ _⟩,⟨akf _,Nat.le_succ _⟩,⟨rfl,rfl⟩,λ_=>Nat.le_succ _⟩
theorem lI.ky (h:GoodS N pg s ls sure) (hC:lI pg s C) {T:St} (hT:∀ k,k < pg->T.now (2+k)=(match s.D k with | some q=>pF k q | none=>s.S.now (2+k))) {L:Lg} {x:Sb} {W:Option aK}:lI pg ⟨T,L,x,aM,W⟩ C:=λk hk=>by
 have h1:=hC k hk;have h2:=hT k hk;show (C k=none/\T.now (2+k)=_)\/∃ q,C k=some q/\bA (k:Int) q.1 q.2=true/\T.now (2+k)=pF k q
 cases hq:s.D k with
 | some q =>
   rw [hq] at h1 h2;exact .inr ⟨q,h1,h.Cy k q hq,h2⟩
 | none =>
   rw [hq] at h1 h2;simp only at h1 h2;rw [h2];exact h1
theorem lI.log (hC:lI pg s C) {U:aK} {T:St} (hT:∀ k,k < pg->T.now (2+k)=s.S.now (2+k)) {L:Lg} {x:Sb} {W:Option aK}:lI pg ⟨T,L,x,over s.D U,W⟩ (over C U):=λk hk=>by
 have h1:=hC k hk;have h2:=hT k hk;show match over s.D U k with | some q=>over C U k=some q | none=>(over C U k=none/\T.now (2+k)=_)\/∃ q,over C U k=some q/\bA (k:Int) q.1 q.2=true/\T.now (2+k)=pF k q
 unfold over
 cases hu:U k with
 | some q=>rfl
 | none =>
   simp only
   cases hq:s.D k with
   | some q=>rw [hq] at h1; exact h1
   | none =>
     rw [hq] at h1;rw [h2];exact h1
theorem UU {D U:aK} (h:bg U) (hk:keys U=[]):over D U=D:=by
 have:=(keys_nil h).1 hk;subst this
 rfl
theorem GoodS.xD (h:GoodS N pg s ls sure) {U:aK} (hW:s.W=some U) (hC:lI pg s C) (hgn:s.x.gn < 1099511627776) (he:s.x.ep<=4294967295) (hs:s.L.seq<=1099511627775) :
 ∃ s' ls' zQ,dh s=(0,s')/\GoodS N pg s' ls' zQ/\lI pg s' (over C U)/\s'.W=none/\AU s s':=by
 have hU:=h.w U hW
 by_cases hk:keys U=[]
 · refine ⟨s.idle,ls,sure,?_,h.idle,?_,rfl,AU.aea s⟩
   · unfold dh;rw [hW];simp only;rw [if_pos hk]
   · rw [UU hU.ok hk]; exact hC
 · have hE:dh s=uD U (bN s (rising U)):=by
    unfold dh;rw [hW];simp only;rw [if_neg hk]
   rw [hE];have hm:=jq h.may;have hlen:=dP U;have gB:(rising U).length<=40:=by rw [hlen]; exact hU.most
   have h1:1<=(rising U).length:=by
    rw [hlen]
    cases Vx:keys U with
    | nil=>exact absurd Vx hk
    | cons a r=>simp
   have hdone:∀ (T:St) (L:Lg) (x:Sb) (D:aK) (W:Option aK),uD U (0,⟨T,L,x,D,W⟩)=(0,⟨T,L,x,over D U,none⟩):=λ_ _ _ _ _=>rfl
   have hap:∀ (r:Int × Sto),fB s (rising U)=r->r.1=0->bN s (rising U)=r:=λr e e0=>by
    unfold bN;rw [e,if_neg (by omega)]
   have agx:∀ (r1 r2 r3:Int × Sto),fB s (rising U)=r1->r1.1=15->bG r1.2=r2->r2.1=0->fB r2.2 (rising U)=r3->bN s (rising U)=r3:=λr1 r2 r3 e1 e15 e2 e0 e3=>by
    unfold bN;rw [e1,if_pos e15,e2];unfold iI;rw [if_neg (by omega),if_pos e0,e3]
   by_cases hr:1+(keys U).length<=s.L.room
   · obtain ⟨T,e,hg,hn,hv⟩:=h.log hU hk he hs hr;refine ⟨_,_,_,?_,hg.idle,lI.log hC hn,rfl,⟨rfl,⟨akf _,Nat.le_succ _⟩,⟨Nat.le_succ _,akf _⟩,⟨rfl,rfl⟩,hv⟩⟩;rw [hap _ e rfl]
     rfl
   · have hnr:=h.room;have hkd:¬ (keys s.D=[]/\0 < s.L.room):=λ⟨hd,_⟩=>by
      have:=h.emp hd;subst this;have:total ([]:List (List ax))=0:=rfl;have:=hU.most;omega
     obtain ⟨T2,e2,hg2,hv2,hn2⟩:=h.ky hgn (by omega) hkd;have hC2:=lI.ky h hC hn2 (L:=s.L.drop) (x:=s.past) (W:=s.W);have abP:=hg2.room;have h41:=hU.most;have hfull:fB s (rising U)=(15,s):=by
      unfold fB;rw [EJ gB h1 (Ga hU.ok) (.inl (by rw [hlen]; omega))]
     generalize hs2:({ s with S:=T2,L:=s.L.drop,x:=s.past,D:=aM }:Sto)=s2 at *;have z1:s2.x=s.past:=by rw [<-hs2]
     have z2:s2.L.seq=s.L.seq:=by rw [<-hs2]; rfl
     have z3:s2.S=T2:=by rw [<-hs2]
     obtain ⟨T,e,hg,hn,hv⟩:=hg2.log hU hk (by rw [z1]; exact he) (by omega) (by
      rw [abP,z1];show 1+(keys U).length<=s.x.ln - 0;omega)
     refine ⟨_,_,_,?_,hg.idle,lI.log hC2 hn,rfl,⟨?_,?_,?_,?_,λi=>?_⟩⟩
     · rw [agx _ _ _ hfull rfl e2 rfl e]
       rfl
     · show s2.x.ep=_;rw [z1]; rfl
     · show s.x.gn<=s2.x.gn/\s2.x.gn<=_;rw [z1];exact ⟨Nat.le_succ _,akf _⟩
     · show s.L.seq<=s2.L.seq+1/\s2.L.seq+1<=_;omega
     · show s2.x.st=_/\s2.x.ln=_;rw [z1];exact ⟨rfl,rfl⟩
     · have:=hv i;rw [z3,hv2] at this;simp only [List.length_nil] at this;show (T.ae i).length<=_;omega
theorem GoodS.checkpoint (h:GoodS N pg s ls sure) (hW:s.W=none) (hC:lI pg s C) (hgn:s.x.gn < 1099511627776) (hs:s.L.seq<=1099511627776) :
 ∃ s' ls' zQ,bZ s=(0,s')/\GoodS N pg s' ls' zQ/\lI pg s' C/\s'.W=none/\AU s s'/\keys s'.D=[] /\
  s'.x.gn=s.x.gn+(if keys s.D=[] then 0 else 1)/\(keys s.D=[]->s'=s):=by
 have hE:bZ s=bG s:=by
  unfold bZ;rw [hW];exact if_neg (by simp)
 rw [hE];have hm:=jq h.may
 by_cases hk:keys s.D=[]/\0 < s.L.room
 · refine ⟨s,ls,sure,?_,h,hC,hW,AU.refl s,hk.1,by rw [if_pos hk.1]; rfl,λ_=>rfl⟩;unfold bG;rw [if_pos hk]
 · have hkd:keys s.D≠[]:=λhd=>hk ⟨hd,by
    have h1:=h.room;have:=h.emp hd;subst this;have:total ([]:List (List ax))=0:=rfl;omega⟩
   obtain ⟨T2,e2,hg2,hv2,hn2⟩:=h.ky hgn hs hk;have hC2:=lI.ky h hC hn2 (L:=s.L.drop) (x:=s.past) (W:=s.W);generalize hs2:({ s with S:=T2,L:=s.L.drop,x:=s.past,D:=aM }:Sto)=s2 at *;have z1:s2.x=s.past:=by rw [<-hs2]
   have z2:s2.L.seq=s.L.seq:=by rw [<-hs2]; rfl
   have z3:s2.S=T2:=by rw [<-hs2]
   have z4:s2.W=s.W:=by rw [<-hs2]
   have z5:s2.D=aM:=by rw [<-hs2]
   have z6:s2.x.gn=s.x.gn+1:=by rw [z1]; rfl
   refine ⟨s2,_,_,e2,hg2,hC2,z4.trans hW,⟨by rw [z1]; rfl,by omega,by omega,by rw [z1]; exact ⟨rfl,rfl⟩,λi=>?_⟩,by rw [z5]; exact (keys_nil bg.none_).2 rfl,by rw [if_neg hkd]; exact z6,λhd=>absurd hd hkd⟩;rw [z3,hv2];exact aks _
end
structure QJ (N n:Nat) (T:St):Prop where
 n:T.n=N
 q:iN T
 ag:T.ag=λ_=>DiskSpec.zeros
 ae:∀ i,∀ c∈T.ae i,c=DiskSpec.zeros
theorem PU {N:Nat}:∀ n,2+n<=N->(bM n (plain N λ_=>DiskSpec.zeros)).1=0/\QJ N n (bM n (plain N λ_=>DiskSpec.zeros)).2
 | 0,_=>⟨rfl,⟨rfl,Eb _ _,rfl,λ_ c hc=>by cases hc⟩⟩
 | n+1,h=>by
   obtain ⟨h1,h2⟩:=PU (N:=N) n (by omega);rw [bM,if_pos h1];generalize (bM n (plain N λ_=>DiskSpec.zeros)).2=T at *;have hw:aF T false (2+(n:Int)) iw=(0,T.add (2+n) iw):=by
    rw [show (2:Int)+(n:Int)=((2+n:Nat):Int) by omega];exact Jk h2.q.c (by have:=h2.n; omega) List.length_replicate
   rw [hw];refine ⟨rfl,⟨h2.n,h2.q.add _ _,h2.ag,λi c hc=>?_⟩⟩;have hc':c∈upd T.ae (2+n) (T.ae (2+n) ++ [iw]) i:=hc;unfold upd at hc'
   split at hc'
   · rcases List.mem_append.1 hc' with h3 | h3
     · exact h2.ae _ c h3
     · rw [List.mem_singleton] at h3; exact h3
   · exact h2.ae i c hc'
theorem TN {N n:Nat} {T:St} (h:QJ N n T):T.now=λ_=>DiskSpec.zeros:=by
 funext i
 rcases AQ T i with hc | hc
 · rw [hc,h.ag]
 · exact h.ae i _ hc
def aW (g pg st ln:Nat):Sb:=⟨g,1,pg,st,ln,0,1⟩
theorem I7 {pg st ln N:Nat} (hN:N<=4096) (h:aL (aW 1 pg st ln).l (N:Int)=true):aL (aW 2 pg st ln).l (N:Int)=true:=by
 have hm:=jq h;exact zq (x:=aW 2 pg st ln) ⟨hm.1,hm.2.1⟩ hm.2.2.1 hm.2.2.2.1 hm.2.2.2.2.1 hm.2.2.2.2.2.1 ⟨by show 2<=_; omega,by show 1<=_; omega,by show 1<=_; omega⟩ hN
theorem Ew {pg st ln N:Nat} (hN:N<=4096) (h:aL (aW 1 pg st ln).l (N:Int)=true) :
 ∃ dF,iT (plain N λ_=>DiskSpec.zeros) (pg:Nat) (st:Nat) (ln:Nat)=(0,plain N dF)/\pY N (plain N dF) (aW 2 pg st ln).l/\∀ i,2<=i->dF i=DiskSpec.zeros:=by
 have hm:=jq h;have h2:=I7 hN h;obtain ⟨w1,w2⟩:=PU (N:=N) pg (by
  have h3:2+pg<=st:=hm.2.2.1;have h4:st+ln<=N:=hm.2.2.2.2.1;omega)
 have hfl:aR (bM pg (plain N λ_=>DiskSpec.zeros)).2=(0,plain N λ_=>DiskSpec.zeros):=by
  rw [uC w2.q,Ez w2.q,w2.n,TN w2]
 have hs1:=zZ (n:=N) (ag:=λ_=>DiskSpec.zeros) (s:=(aW 1 pg st ln).l) rfl h;have hs2:=zZ (n:=N) (ag:=upd (λ_=>DiskSpec.zeros) (placeOf (aW 1 pg st ln).l) (frame (aX (aW 1 pg st ln).l))) (s:=(aW 2 pg st ln).l) rfl h2;have p1:placeOf (aW 1 pg st ln).l=1:=rfl;have p2:placeOf (aW 2 pg st ln).l=0:=by show (((2:Nat):Int).tmod 2).toNat=0; decide
 refine ⟨upd (upd (λ_=>DiskSpec.zeros) (placeOf (aW 1 pg st ln).l) (frame (aX (aW 1 pg st ln).l))) (placeOf (aW 2 pg st ln).l) (frame (aX (aW 2 pg st ln).l)),?_,⟨rfl,h2,upd_same _ _ _,λp hp=>?_⟩,λi hi=>?_⟩
 · have hb:jN (plain N λ_=>DiskSpec.zeros) 1 1 (pg:Nat) (st:Nat) (ln:Nat) 0 1=ay (plain N (upd (λ_=>DiskSpec.zeros) (placeOf (aW 1 pg st ln).l) (frame (aX (aW 1 pg st ln).l)))) (aW 2 pg st ln).l:=by
    unfold jN;rw [show ay (plain N λ_=>DiskSpec.zeros) [1,1,(pg:Int),(st:Int),(ln:Int),0,1]=_ from hs1,if_pos rfl]
    rfl
   unfold iT;rw [show aL [1,1,(pg:Int),(st:Int),(ln:Int),0,1] ((plain N λ_=>DiskSpec.zeros).n:Nat)=true from h,if_pos rfl,show ((pg:Int)).toNat=pg by omega,if_pos w1];unfold nE;rw [hfl,if_pos rfl,hb];exact hs2
 · rw [p2,p1] at hp;have e:(plain N (upd (upd (λ_=>DiskSpec.zeros) 1 (frame (aX (aW 1 pg st ln).l))) 0 (frame (aX (aW 2 pg st ln).l)))).ag (1 - 0)=frame (aX (aW 1 pg st ln).l):=rfl;have e2:sound (N:Int) ((1 - 0:Nat):Int) (frame (aX (aW 1 pg st ln).l))=some (aW 1 pg st ln).l:=Fg rfl h (by show ((1:Nat):Int).tmod 2=((1 - 0:Nat):Int); decide);rw [e,e2] at hp
   cases hp
   show (1:Int) < 2;omega
 · rw [p1,p2,upd_ne _ _ (by omega),upd_ne _ _ (by omega)]
section
variable {N pg:Nat} {s s':Sto} {ls:List (List ax)} {sure:Nat} {C:aK}
theorem J4 {R:List Rec} (h:∀ r∈R,∀ y∈r.2,bU y=true):bg (aG R):=by
 unfold aG;have key:∀ (R:List Rec) (D:aK),bg D->(∀ r∈R,∀ y∈r.2,bU y=true)->bg (R.foldl (λD r=>bE D r.2) D):=by
  intro R
  induction R with
  | nil=>intro D h _; exact h
  | cons r R ih=>intro D hD hr; exact ih _ (Gn hD (hr r (akw ..))) (λq hq=>hr q (aky _ hq))
 exact key R _ bg.none_ h
theorem Gp {pg:Nat}:∀ {l:List ax} {D:aK},(∀ k,(D k).isSome=true->k < pg)->(∀ y∈l,0<=y.1/\y.1 < (pg:Int))->∀ k,(bE D l k).isSome=true->k < pg
 | [],D,h,_=>h
 | x :: r,D,h,hx=>by
   refine Gp (D:=upd D x.1.toNat (some (x.2.1,x.2.2))) (λk hk=>?_) (λy hy=>hx y (aky _ hy))
   by_cases e:k=x.1.toNat
   · have:=hx x (akw ..); omega
   · rw [upd_ne _ _ e] at hk; exact h k hk
theorem Ve {pg:Nat} {R:List Rec} (h:∀ r∈R,∀ y∈r.2,0<=y.1/\y.1 < (pg:Int)):∀ k,(aG R k).isSome=true->k < pg:=by
 unfold aG;have key:∀ (R:List Rec) (D:aK),(∀ k,(D k).isSome=true->k < pg)->(∀ r∈R,∀ y∈r.2,0<=y.1/\y.1 < (pg:Int))->∀ k,(R.foldl (λD r=>bE D r.2) D k).isSome=true->k < pg:=by
  intro R
  induction R with
  | nil=>intro D h _; exact h
  | cons r R ih=>intro D hD hr; exact ih _ (Gp hD (hr r (akw ..))) (λq hq=>hr q (aky _ hq))
 exact key R _ (λk hk=>by cases hk) h
theorem vZ {r:Rec}:∀ {q:Int} {ls:List (List ax)},r∈gK q ls->r.2∈ls
 | _,[],h=>by cases h
 | q,l :: ls,h=>by
   rcases List.mem_cons.1 h with h | h
   · rw [h]; exact akw ..
   · exact aky _ (vZ h)
def Zz (pg:Nat) (ls:List (List ax)):Prop:=ls.length<=4096/\∀ l∈ls,l.length<=40/\∀ y∈l,bU y=true/\y.1 < (pg:Int)
theorem JQ {ag:Nat->List Nat} {x:Sb} {ls:List (List ax)} {M:Lg} (hd:jl N pg x.ep (plain N ag)) (hs:pY N (plain N ag) x.l) (jG:x.pg=pg) (htop:N<=4096) (hR:Zz pg ls) (hgn:x.gn < 1099511627776) (fG:x.ep < 1099511627776) :
 ∃ S2 d3,bn (plain N ag) (aG (gK (x.sq:Int) ls))=(0,S2)/\ay S2 x.next.l=(0,plain N d3)/\GoodS N pg ⟨plain N d3,x.next.log,x.next,aM,none⟩ [] 0 /\
  ∀ C,lI pg ⟨plain N ag,M,x,aG (gK (x.sq:Int) ls),none⟩ C->lI pg ⟨plain N d3,x.next.log,x.next,aM,none⟩ C:=by
 have hm:=jq hs.may;have Sj:bg (aG (gK (x.sq:Int) ls)):=J4 (λr hr y hy=>((hR.2 _ (vZ hr)).2 y hy).1);have age:∀ k,(aG (gK (x.sq:Int) ls) k).isSome=true->k < pg:=Ve (λr hr y hy=>by
  have h1:=(hR.2 _ (vZ hr)).2 y hy;have h2:=(eO h1.1).2.1;exact ⟨h2.1,h1.2⟩)
 generalize aG (gK (x.sq:Int) ls)=D at *;have hks:∀ k∈keys D,k < pg/\(D k).isSome=true:=λk hk=>⟨age k (mem_keys.1 hk).2,(mem_keys.1 hk).2⟩
 have sw:=hd.iq Sj hks;have e:aO (plain N ag) (rising D)=(0,iq D (plain N ag) (keys D)):=yQ Sj hd.q.c (λk hk=>⟨by have:=(hks k hk).1; show 2+k < N; omega,(hks k hk).2⟩);have hq:iN (iq D (plain N ag) (keys D)):=wJ hd.q;have hsa:=hs.same (T:=iq D (plain N ag) (keys D)) (by rw [oJ.2]) (by rw [oJ.2]);have hhome:∀ k,k < pg->(iq D (plain N ag) (keys D)).now (2+k)=(match D k with | some q=>pF k q | none=>(plain N ag).now (2+k)):=λk hk2=>by
  cases hq:D k with
  | some q =>
    have hmk:k∈keys D:=mem_keys.2 ⟨Sj.lt hq,by rw [hq]; rfl⟩;rw [FM hmk,hq]; rfl
  | none =>
    have hmk:k ∉ keys D:=λhx=>by
     have:=(mem_keys.1 hx).2;rw [hq] at this; cases this
    exact zm oJ.2 (qM (p:=2+k) (λj hj e=>hmk (by rw [show k=j by omega]; exact hj)))
 generalize iq D (plain N ag) (keys D)=T0 at *;have hbr:bn (plain N ag) D=(0,T0.flush):=by
  have key:∀ (T:St) (R:Int × St),R=(0,T)->(if R.1=0 then aR R.2 else R)=aR T:=by rintro T R rfl; rfl
  unfold bn;exact (key _ _ e).trans (uC hq)
 have hfl:T0.flush=plain N T0.now:=by rw [Ez hq,sw.n]
 have bu:aL x.next.l (N:Int)=true:=zq (x:=x.next) ⟨hm.1,hm.2.1⟩ hm.2.2.1 hm.2.2.2.1 hm.2.2.2.2.1 (show 0 < x.ln by omega) ⟨(show x.gn+1<=_ by omega),(show x.ep+1<=_ by omega),(show 1<=_ by omega)⟩ htop;have hsv:=zZ (n:=N) (ag:=T0.now) (s:=x.next.l) rfl bu;have hg0:0<=gen x.next.l:=by rw [wE]; omega
 have hpl:=(ll hg0).2;have hdf:=sw.flush;have hsf:pY N T0.flush x.l:=hsa.same (St.nD sw.v0) (St.nD sw.v1);have hsn:=hsf.next (t:=x.next.l) rfl bu (by rw [wE,wE]; show ((x.gn+1:Nat):Int)=(x.gn:Int)+1; omega);have heq:St.sup T0.flush (placeOf x.next.l) (frame (aX x.next.l))=plain N (upd T0.now (placeOf x.next.l) (frame (aX x.next.l))):=by rw [hfl]; rfl
 rw [heq] at hsn;have hd0:=hdf.sup hpl (frame (aX x.next.l));rw [heq] at hd0;have hdn:=hd0.later;refine ⟨T0.flush,_,hbr,by rw [hfl]; exact hsv,?_,λC hC k hk=>?_⟩
 · exact {
    d:=hdn
    A8:=jG
    top:=htop
    sup:=hsn
    ring:=Ring.new (B:=x.next.log) ⟨rfl,rfl,show 0 < x.ln by omega⟩ (λo c _ hc=>(hd0.far _ (by have:=wS x.next.log o; have h9:x.next.log.st=x.st:=rfl; omega) c hc).more (.inr ⟨rfl,aks _⟩)) rfl rfl rfl rfl rfl rfl rfl
    sound:=rfl
    ok:=⟨hm.2.2.2.2.1,show 1<=x.ln by omega,show 0 < x.ln by omega,aks _,show x.ep+1<=_ by omega,show 1<=2199023255552 by omega⟩
    Cy:=bg.none_
    NG:=λk hk=>by cases hk
    V6:=rfl
    emp:=λ_=>rfl
    nums:=λl hl=>by cases hl
    w:=λU hU=>by cases hU }
 · have h1:=hC k hk;have h2:=hhome k hk;have h3:(plain N (upd T0.now (placeOf x.next.l) (frame (aX x.next.l)))).now (2+k)=T0.now (2+k):=upd_ne _ _ (by omega);show (C k=none/\_=_)\/∃ q,C k=some q/\_/\_=_;rw [h3];show (C k=none/\T0.now (2+k)=DiskSpec.zeros)\/∃ q,C k=some q/\bA (k:Int) q.1 q.2=true/\T0.now (2+k)=pF k q
   cases hq2:D k with
   | some q =>
     simp only [hq2] at h1 h2;exact .inr ⟨q,h1,Sj k q hq2,h2⟩
   | none =>
     simp only [hq2] at h1 h2;rw [h2];exact h1
theorem Ey {dF:Nat->List Nat} (h:∀ i,2<=i->dF i=DiskSpec.zeros):jl N pg 1 (plain N dF):=by
 have hc:∀ p c,2<=p->iQ (plain N dF) p c->c=DiskSpec.zeros:=λp c hp hc=>by
  rcases hc with hc | hc
  · rw [hc]; exact h p hp
  · cases hc
 refine ⟨rfl,Eb _ _,rfl,rfl,λk _ c hcc=>.inl (hc _ _ (by omega) hcc),λi hi c hcc=>?_⟩;rw [hc i c (by omega) hcc];exact JS _ _
theorem Ev {pg st ln:Nat} {dF:Nat->List Nat} (hs:pY N (plain N dF) (aW 2 pg st ln).l) (h:∀ i,2<=i->dF i=DiskSpec.zeros) (hok:(plain N dF).ok) :
 bF (plain N dF) (aW 2 pg st ln).log.ln (aW 2 pg st ln).log=(gK ((aW 2 pg st ln).sq:Int) [],(aW 2 pg st ln).log):=by
 have hm:=jq hs.may;refine JR hok (ls:=[]) (L:=(aW 2 pg st ln).log) trivial (aks _) (.inr (VQ ?_));have h1:(plain N dF).now ((aW 2 pg st ln).log.sec 0)=DiskSpec.zeros:=h _ (by
  have h2:=wS (aW 2 pg st ln).log 0;have h3:(aW 2 pg st ln).log.st=st:=rfl;have h4:2+pg<=st:=hm.2.2.1;omega)
 show Old _ _ ((plain N dF).now ((aW 2 pg st ln).log.sec 0));rw [h1];exact JS _ _
theorem PM {dF:Nat->List Nat} (h:∀ i,2<=i->dF i=DiskSpec.zeros) (M:Lg) (x:Sb):lI pg ⟨plain N dF,M,x,aG (gK (x.sq:Int) []),none⟩ aM:=λk _=>.inl ⟨rfl,h _ (by omega)⟩
end
end Go.Proofs.YtinajlbijgedbaaGreat.Sto
set_option maxRecDepth 100000
set_option maxHeartbeats 16000000
namespace Go.Proofs.YtinajlbijgedbaaGreat.Sto
open Lib (hid)
open Go.RowKit Go.Maps Go.Shelf CrcMath CodecMath Mem Crc Codec DiskSpec Dsk Sup Log
set_option linter.unusedVariables false
set_option linter.unusedSimpArgs false
def iJ (x:Sb) (R:Int × St):Int × Option Sto × St :=
 if R.1=0 then (if (ay R.2 x.next.l).1=0 then (0,some ⟨(ay R.2 x.next.l).2,x.next.log,x.next,aM,none⟩,(ay R.2 x.next.l).2) else ((ay R.2 x.next.l).1,none,(ay R.2 x.next.l).2)) else (R.1,none,R.2)
def iC (N:Nat) (ag:Nat->List Nat) (x:Sb):Int × Option Sto × St:=iJ x (bn (plain N ag) (aG (bF (plain N ag) x.log.ln x.log).1))
theorem ME {x:Sb} {R:Int × St} (h:R.1≠0):iJ x R=(R.1,none,R.2):=by unfold iJ; rw [if_neg h]
theorem UX {x:Sb} {R:Int × St} (h:R.1=0) (h2:(ay R.2 x.next.l).1≠0):iJ x R=((ay R.2 x.next.l).1,none,(ay R.2 x.next.l).2):=by unfold iJ; rw [if_pos h,if_neg h2]
theorem MC {x:Sb} {R:Int × St} (h:R.1=0) (h2:(ay R.2 x.next.l).1=0):iJ x R=(0,some ⟨(ay R.2 x.next.l).2,x.next.log,x.next,aM,none⟩,(ay R.2 x.next.l).2):=by unfold iJ; rw [if_pos h,if_pos h2]
def Od (Z:Nat->Prop) (w:World) (B b:Nat) (own:Nat->Prop) (a:Int × Option Sto × St) (e:Ending) (w':World):Prop :=
 (∃ s,a.2.1=some s/\FO Z w B b own s e w')\/(a.2.1=none/\e=.returned (.tuple #[.pointer none,.int .i64 a.1])/\∃ own',dU w' B b a.2.2 own'/\aa w w' own own')
abbrev aaT:=Od (λ_=>False)
section
variable {Z:Nat->Prop} {w w' w1:World} {B b:Nat} {own:Nat->Prop}
theorem NC {tb g sb dm:Nat} {wm:Option Nat} {own':Nat->Prop} (ht:aa w w' own (aD own' tb g sb dm wm)):aa w w' own own' :=
 ⟨ht.os,ht.tape,ht.output,ht.size,ht.block,λi hi=>ht.fresh i (.inl (.inl (.inl hi)))⟩
theorem AY {N:Nat} {ag:Nat->List Nat} (h:dU w B b (plain N ag) own) (hB:B<=w.heap.size) (x:Sb) (eu:gI N ag=some x.l) (bu:aL x.l (N:Int)=true) (hgn:x.gn < 1099511627776) (fG:x.ep < 1099511627776) (hz:∀ i,Z i->i < w.heap.size) :
 Calls Tryz.prog 15 #[.pointer (some ⟨b,0,none⟩)] w (Od Z w B b own (iC N ag x)):=by
 have hld:=BG h hB x eu bu hgn fG hz;have Hz:=hid (show iC N ag x=iJ x (bn (plain N ag) (aG (bF (plain N ag) x.log.ln x.log).1)) from rfl);generalize iC N ag x=E at *;generalize (bF (plain N ag) x.log.ln x.log).2=M at hld;generalize (bF (plain N ag) x.log.ln x.log).1=R at hld Hz;have dO:=hid hld;have yF:=hid (show x.gn<=1099511627776/\x.ep<=1099511627776 from ⟨by omega,by omega⟩);clear hld h hB eu bu hgn fG
 go_enter Tryz.func15,Tryz.ntmps15;go_wp2_with fail;refine dO.out.mono ?_;rintro e w1 ⟨tb,gl,sb,dm,rfl,h1,ht1⟩;have hb:=BH h1 (λi=>by show ([]:List (List Nat)).length < _; simp);unfold xU at hb
 dsimp only at hb
 have xQ:=hid (λi=>ql (S:=plain N ag) h1.d.ok i);generalize bn (plain N ag) (aG R)=RR at *;obtain ⟨e1,S2⟩:=RR
 dsimp only at hb xQ
 have HB:=hid hb;have HT1:=hid ht1;clear h1 ht1 hb dO
 by_cases he1:e1=0
 · subst he1;go_wp2_with fail;refine HB.out.mono ?_;rintro e w2 ⟨rfl,bV,h2,ht2⟩;have HT2:=hid (HT1.out.trans ht2);obtain ⟨_,_,c2,c3,c4,c5,c6,c7,c8,_,_,_⟩:=h2.cells;have c2':w2.cell? ⟨sb,2,none⟩=some (.int .i64 (x.gn:Nat)):=c2;have c3':w2.cell? ⟨sb,3,none⟩=some (.int .i64 (x.ep:Nat)):=c3;have c4':w2.cell? ⟨sb,4,none⟩=some (.int .i64 (x.pg:Nat)):=c4;have c5':w2.cell? ⟨sb,5,none⟩=some (.int .i64 (x.st:Nat)):=c5
   have c6':w2.cell? ⟨sb,6,none⟩=some (.int .i64 (x.ln:Nat)):=c6;have Zw:w2.cell? ⟨sb,7,none⟩=some (.int .i64 (x.hd:Nat)):=c7;have Wq:w2.cell? ⟨sb,8,none⟩=some (.int .i64 (x.sq:Nat)):=c8;have H2:=hid h2;have KC:=hid (vE x yF.out.1 yF.out.2 w2);clear h2 ht2 HB HT1 c2 c3 c4 c5 c6 c7 c8;go_wp2_with fail;refine KC.out.mono ?_;rintro e w3 ⟨rfl,hg3⟩;have hrt:=yM (H2.out.quiet hg3) (((x.gn:Nat):Int)+1) (((x.ep:Nat):Int)+1) ((x.pg:Nat):Int) ((x.st:Nat):Int) ((x.ln:Nat):Int) 0 1 (λi=>by
    have h9:=xQ.out i;have h8:((plain N ag).ae i).length=0:=rfl;show (S2.ae i).length < _;have h7:(S2.ae i).length<=((plain N ag).ae i).length+1024:=h9;omega)
   unfold mP at hrt;rw [UZ] at hrt;rw [show (Sto.disk (⟨plain N ag,M,x,aG R,none⟩:Sto) (0,S2).2).S=S2 from rfl] at hrt;have aU:=hid (λh=>Hz.out.trans (MC (x:=x) (R:=(0,S2)) rfl h));have HBAD:=hid (λh=>Hz.out.trans (UX (x:=x) (R:=(0,S2)) rfl h));have HT3:=hid (HT2.out.trans (aa.none_ hg3));clear Hz
   dsimp only at aU HBAD
   generalize ay S2 x.next.l=VV at *;obtain ⟨e2,S3⟩:=VV
   dsimp only at hrt aU HBAD
   have Om:=hid hrt;clear hrt hg3 KC c2' c3' c4' c5' c6' Zw Wq H2 HT2
   by_cases he2:e2=0
   · subst he2;have HE:=hid (aU.out rfl);clear aU HBAD;go_wp2_with fail;refine Om.out.mono ?_;rintro e w4 ⟨rfl,iE,g4,jF,h4⟩;rcases h4 with ⟨_,x',hx',h4⟩ | ⟨hne,_⟩
     · have Bb:=Sb.Li hx';subst Bb;obtain ⟨_,_,_,_,_,_,_,_,_,_,z10,_⟩:=h4.cells;obtain ⟨w7,hrun,hd7,fZ⟩:=h4.d.clear 0;have h7:=h4.cleared fZ hd7;have H7:=hid h7;have sK:=hid (HT3.out.trans jF);clear h4 h7 hd7 fZ jF hx';go_wp2_with fail;go_ret2;rw [HE.out];exact .inl ⟨_,rfl,tb,g4,sb,dm,iE,rfl,H7.out.1,sK.out.trans H7.out.2⟩
     · exact absurd rfl hne
   · have HE:=hid (HBAD.out he2);have qZ:(e2 == 0)=false:=by simpa using he2
     have HE2:=hid he2;clear aU HBAD he2;go_wp2_with fail;refine Om.out.mono ?_;rintro e w4 ⟨rfl,iE,g4,jF,h4⟩;rcases h4 with ⟨he,_⟩ | ⟨_,rfl,h4⟩
     · exact absurd he HE2.out
     · have HQ:=hid (show dU w4 B b S3 iE/\aa w w4 own iE from ⟨h4.l.s.d,NC (HT3.out.trans jF)⟩);clear h4 jF HE2;go_wp2_with fail;go_ret2;rw [HE.out];exact .inr ⟨rfl,rfl,iE,HQ.out.1,HQ.out.2⟩
 · have qZ:(e1 == 0)=false:=by simpa using he1
   have HE:=hid (Hz.out.trans (ME (x:=x) (R:=(e1,S2)) he1));clear Hz he1;go_wp2_with fail;refine HB.out.mono ?_;rintro e w2 ⟨rfl,bV,h2,ht2⟩;have HQ:=hid (show dU w2 B b S2 bV/\aa w w2 own bV from ⟨h2.l.s.d,NC (HT1.out.trans ht2)⟩);clear h2 ht2 HB;go_wp2_with fail;go_ret2;rw [HE.out];exact .inr ⟨rfl,rfl,bV,HQ.out.1,HQ.out.2⟩
theorem BF {N:Nat} {ag:Nat->List Nat} (h:dU w B b (plain N ag) own) (hB:B<=w.heap.size) (x:Sb) (eu:gI N ag=some x.l) (bu:aL x.l (N:Int)=true) (hgn:x.gn < 1099511627776) (fG:x.ep < 1099511627776) :
 Calls Tryz.prog 15 #[.pointer (some ⟨b,0,none⟩)] w (aaT w B b own (iC N ag x)) :=
 AY h hB x eu bu hgn fG (λ_ e=>e.elim)
end
section
variable {Z:Nat->Prop} {w w' w1:World} {B b:Nat} {own:Nat->Prop}
theorem T9:nG jm=.agg #[.int .i64 0,.int .i64 0,.int .i64 0,.int .i64 0,.int .i64 0,.int .i64 0,.int .i64 0]:=rfl
theorem KM {N:Nat} {ag:Nat->List Nat} (h:dU w B b (plain N ag) own) (hB:B<=w.heap.size) (hn2:2<=N) (eu:gI N ag=none) :
 Calls Tryz.prog 53 #[.pointer (some ⟨b,0,none⟩)] w (λe w'=>e=.returned (.tuple #[.pointer none,.int .i64 14])/\dU w' B b (plain N ag) own/\aa w w' own own):=by
 have hown:∀ i,own i->i < w.heap.size:=λi hi=>by obtain ⟨_,_,_,hd⟩:=h; exact hd.lt i hi
 have hs1:=Iw h hB;have hld:=MW hs1;rw [(kK hn2).1,(kK hn2).2,uw hn2,eu] at hld;simp only [Option.isSome_none,Option.getD_none,T9,Bool.false_eq_true,if_false] at hld;have dO:=hid hld;have HOWN:=hid hown;have Nr:=aj9 w (.cells jW 192) none;have uj:=hid Nr;have hsz0:(w.alloc (.cells jW 192)).heap.size=w.heap.size+1:=by simp
 have nJ:=hid (IM w);clear hs1 hld h hown eu Nr hn2;generalize w.alloc (.cells jW 192)=wz at *;go_enter Tryz.func53,Tryz.ntmps53;go_wp2_with fail;refine nJ.out.mono ?_;rintro e w1 ⟨rfl,rfl⟩;clear nJ;go_wp2_with fail;refine dO.out.mono ?_;rintro e w2 ⟨rfl,hs2,ht2,_⟩;have tV:=aj9 w2 (.cells #[.int .i64 0,.int .i64 0,.int .i64 0,.int .i64 0,.int .i64 0,.int .i64 0,.int .i64 0] 49) none
 have HQ:=hid (show dU (w2.alloc (.cells #[.int .i64 0,.int .i64 0,.int .i64 0,.int .i64 0,.int .i64 0,.int .i64 0,.int .i64 0] 49)) B b (plain N ag) own/\aa w (w2.alloc (.cells #[.int .i64 0,.int .i64 0,.int .i64 0,.int .i64 0,.int .i64 0,.int .i64 0,.int .i64 0] 49)) own own from by
  refine ⟨(hs2.quiet tV).d,aa.trans ⟨ht2.os.trans uj.out.os,ht2.tape.trans uj.out.tape,ht2.output.trans uj.out.output,akh uj.out.size ht2.size,λi hi hn=>?_,λi hi=>.inl hi⟩ (aa.none_ tV)⟩;exact (ht2.block i (ake hi uj.out.size) (λe=>by
   rcases e with e | e
   · exact hn e
   · omega)).trans (uj.out.block i hi (by simp)))
 clear hs2 ht2 dO tV;go_wp2_with fail;go_ret2;exact ⟨rfl,HQ.out.1,HQ.out.2⟩
theorem KL {N:Nat} {ag:Nat->List Nat} (h:dU w B b (plain N ag) own) (hB:B<=w.heap.size) (hn2:2<=N) (eu:gI N ag=none) :
 Calls Tryz.prog 15 #[.pointer (some ⟨b,0,none⟩)] w (λe w'=>e=.returned (.tuple #[.pointer none,.int .i64 14])/\dU w' B b (plain N ag) own/\aa w w' own own):=by
 have HL:=hid (KM h hB hn2 eu);clear h hB hn2 eu;go_enter Tryz.func15,Tryz.ntmps15;go_wp2_with fail;refine HL.out.mono ?_;rintro e w1 ⟨rfl,h1,h2⟩;have HQ:=hid (And.intro h1 h2);clear h1 h2 HL;go_wp2_with fail;go_ret2;exact ⟨rfl,HQ.out.1,HQ.out.2⟩
end
end Go.Proofs.YtinajlbijgedbaaGreat.Sto
