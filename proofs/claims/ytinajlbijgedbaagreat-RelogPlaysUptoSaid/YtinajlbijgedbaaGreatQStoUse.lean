/- Texts of this seat's proofs: StoUse, StoLives, StoBools, StoFar, StoOld, StoGens, RelMem, RelAsk, RelLow, RelDet. -/
import Derived.Test.YtinajlbijgedbaaGreatQStoLatest
import Derived.Test.YtinajlbijgedbaaGreatQStoCopy
import Derived.Test.YtinajlbijgedbaaGreatQStoGood3
import Derived.Test.YtinajlbijgedbaaGreatQOpenOps
import Derived.Test.YtinajlbijgedbaaGreatQCodecBits
import Derived.Test.YtinajlbijgedbaaGreatQCodecSpec
import Derived.Deep.RegionHeld3
namespace Go.Proofs.YtinajlbijgedbaaGreat.Sto
open Go.RowKit Go.Maps Go.Shelf CrcMath CodecMath Mem Crc Codec DiskSpec Dsk Sup Log
theorem GZ (U:aK) (k:Nat) (v:Option Pg):∀ (R:List Nat),R.Nodup->(R.filter λj=>(upd U k v j).isSome).length<=(R.filter λj=>(U j).isSome).length+1
 | [],_=>by simp
 | a :: r,h=>by
   rw [List.nodup_cons] at h;have ih:=GZ U k v r h.2
   by_cases e:a=k
   · subst e;have hr:(r.filter λj=>(upd U a v j).isSome)=r.filter λj=>(U j).isSome:=by
      refine List.filter_congr λj hj=>?_
      rw [upd_ne _ _ (λe=>h.1 (by rw [<-e]; exact hj))]
     simp only [List.filter_cons];rw [hr]
     split <;> split <;> (try simp only [List.length_cons]) <;> omega
   · have ha:upd U k v a=U a:=upd_ne _ _ e;simp only [List.filter_cons,ha]
     split <;> (try simp only [List.length_cons]) <;> omega
theorem XV (U:aK) (k:Nat) (v:Option Pg):(keys (upd U k v)).length<=(keys U).length+1:=GZ U k v _ List.nodup_range
theorem Hm.none_ (pg:Nat):Hm pg aM:=⟨bg.none_,λk hk=>(by cases hk),by rw [(keys_nil bg.none_).2 rfl]; exact aks _⟩
theorem Hm.put {pg:Nat} {U:aK} (h:Hm pg U) {k:Nat} {q:Pg} (hk:k < pg) (hq:bA (k:Int) q.1 q.2=true) (hl:(keys U).length < 40):Hm pg (upd U k (some q)):=by
 refine ⟨h.ok.upd hq,λj hj=>?_,akh (XV U k (some q)) (by omega)⟩
 by_cases e:j=k
 · omega
 · rw [upd_ne _ _ e] at hj; exact h.lt j hj
structure lZ (W wr:World) (N pg b tb g sb dm:Nat) (wm:Option Nat) (own:Nat->Prop) (s:Sto) (C:aK) (o:Option aK):Prop where
 at_:DD wr W.heap.size b tb g sb dm wm own s
 gr:W.grownBy wr none
 gd:∃ ls sure,GoodS N pg s ls sure
 w:s.W=o
 sees:lI pg s C
theorem dX {W w w':World} {P P':Nat->Prop} (hg:W.grownBy w none) (ht:aa w w' P P') (hP:∀ i,P i->W.heap.size<=i):W.grownBy w' none :=
 ⟨ht.os.trans hg.os,ht.tape.trans hg.tape,ht.output.trans hg.output,akh hg.size ht.size,λi hi _=>(ht.block i (ake hi hg.size) (λh=>by have:=hP i h; omega)).trans (hg.block i hi (by simp))⟩
section
variable {W w w':World} {N pg b tb g sb dm:Nat} {wm:Option Nat} {own own':Nat->Prop} {s s':Sto} {C:aK} {o:Option aK}
theorem lZ.quiet (h:lZ W w N pg b tb g sb dm wm own s C o) (hg:w.grownBy w' none):lZ W w' N pg b tb g sb dm wm own s C o:=⟨h.at_.quiet hg,h.gr.trans hg,h.gd,h.w,h.sees⟩
theorem lZ.bO (h:lZ W w N pg b tb g sb dm wm own s C o) {i:Nat} (hi:aD own tb g sb dm wm i):i < w.heap.size:=h.at_.bO hi
theorem lZ.out (h:lZ W w N pg b tb g sb dm wm own s C o) {P':Nat->Prop} (ht:aa w w' (aD own tb g sb dm wm) P'):W.grownBy w' none:=dX h.gr ht (λ_ hi=>h.at_.il hi)
theorem lZ.pg_ (h:lZ W w N pg b tb g sb dm wm own s C o):s.x.pg=pg:=by obtain ⟨ls,sure,hg⟩:=h.gd; exact hg.A8
theorem lZ.acr (h:lZ W w N pg b tb g sb dm wm own s C o) {k:Nat} (hk:k < pg):s.has (k:Int)=true:=by
 have:=h.pg_
 simp [Sto.has]
 omega
theorem TS (h:lZ W w N pg b tb g sb dm wm own s C none):Calls Tryz.prog 16 #[.pointer (some ⟨sb,0,none⟩)] w λe w' =>
 e=.returned (.int .i64 0)/\∃ mQ,lZ W w' N pg b tb g sb dm mQ own { s with W:=some aM } C (some aM)/\aa w w' (aD own tb g sb dm wm) (aD own tb g sb dm mQ):=by
 have hb:fH s=(0,{ s with W:=some aM }):=by
  unfold fH;rw [h.w]
  rfl
 have h1:=Js h.at_;rw [hb] at h1;refine h1.mono ?_;rintro e w1 ⟨rfl,mQ,h2,ht⟩;obtain ⟨ls,sure,hg⟩:=h.gd;exact ⟨rfl,mQ,⟨h2,h.out ht,⟨ls,sure,hg.begun (Hm.none_ pg)⟩,rfl,h.sees⟩,ht⟩
theorem TR {U:aK} (h:lZ W w N pg b tb g sb dm wm own s C (some U)) {k:Nat} (hk:k < pg) {v:Value} {q:Pg} (hv:rA w (aD own tb g sb dm wm) v q) (hq:bA (k:Int) q.1 q.2=true) (hl:(keys U).length < 40) :
 Calls Tryz.prog 17 #[.pointer (some ⟨sb,0,none⟩),.int .i64 (k:Nat),v] w λe w'=>e=.returned (.int .i64 0)/\∃ own',lZ W w' N pg b tb g sb dm wm own' { s with W:=some (upd U k (some q)) } C (some (upd U k (some q))) /\
  aa w w' (aD own tb g sb dm wm) (aD own' tb g sb dm wm):=by
 have hb:bQ s (k:Int) q=(0,{ s with W:=some (upd U k (some q)) }):=by
  have hw:=h.w;unfold bQ;rw [hw];simp only;rw [if_neg (by rw [h.acr hk]; simp),if_neg (by rw [hq]; simp),if_neg (by omega),show (k:Int).toNat=k by omega]
 have h1:=Jr h.at_ (k:Int) hv h.w (h.acr hk);rw [hb] at h1;refine h1.mono ?_;rintro e w1 ⟨rfl,own',h2,ht⟩;obtain ⟨ls,sure,hg⟩:=h.gd;exact ⟨rfl,own',⟨h2,h.out ht,⟨ls,sure,hg.begun ((hg.w U h.w).put hk hq hl)⟩,rfl,h.sees⟩,ht⟩
structure Fmt (W w:World) (N pg st ln b:Nat) (own:Nat->Prop) (dF:Nat->List Nat):Prop where
 at_:dU w W.heap.size b (plain N dF) own
 gr:W.grownBy w none
 sup:pY N (plain N dF) (aW 2 pg st ln).l
 z:∀ i,2<=i->dF i=DiskSpec.zeros
theorem Ra {st ln:Nat} (h:dU w W.heap.size b (St.new N) own) (hg:W.grownBy w none) (hN:N<=4096) (hm:aL (aW 1 pg st ln).l (N:Int)=true) :
 Calls Tryz.prog 14 #[.pointer (some ⟨b,0,none⟩),.int .i64 (pg:Nat),.int .i64 (st:Nat),.int .i64 (ln:Nat)] w λe w'=>e=.returned (.int .i64 0)/\∃ own' dF,Fmt W w' N pg st ln b own' dF:=by
 have hlow:∀ i,own i->W.heap.size<=i:=λi hi=>by obtain ⟨_,_,_,hd⟩:=h; exact hd.low i hi
 obtain ⟨dF,e1,hs,hz⟩:=Ew hN hm;have h1:=GV h hg.size (pg:Nat) (st:Nat) (ln:Nat) hm (λi=>by show ([]:List (List Nat)).length < _; simp);rw [show iT (St.new N) (pg:Nat) (st:Nat) (ln:Nat)=(0,plain N dF) from e1] at h1;refine h1.mono ?_;rintro e w1 ⟨rfl,own',hd,ht⟩;exact ⟨rfl,own',dF,hd,dX hg ht hlow,hs,hz⟩
structure TI (W w:World) (N pg b tb g sb dm:Nat) (own:Nat->Prop) (s:Sto) (C:aK) (x:Sb):Prop where
 u:lZ W w N pg b tb g sb dm none own s C none
 xs:s.x=x.next
 ls:s.L=x.next.log
 ds:s.D=aM
 ae:∀ i,s.S.ae i=[]
theorem Xc {ag:Nat->List Nat} (h:dU w W.heap.size b (plain N ag) own) (hg:W.grownBy w none) (x:Sb) {ls:List (List ax)} {M:Lg} (hd:jl N pg x.ep (plain N ag)) (hs:pY N (plain N ag) x.l) (jG:x.pg=pg) (htop:N<=4096) (hR:Zz pg ls)
 (hgn:x.gn < 1099511627776) (fG:x.ep < 1099511627776) (mf:x.sq<=1099511000000) (hO:bF (plain N ag) x.log.ln x.log=(gK (x.sq:Int) ls,M)) {C:aK} (hC:lI pg ⟨plain N ag,M,x,aG (gK (x.sq:Int) ls),none⟩ C) :
 Calls Tryz.prog 15 #[.pointer (some ⟨b,0,none⟩)] w λe w'=>∃ tb g sb dm own' s',e=.returned (.tuple #[.pointer (some ⟨sb,0,none⟩),.int .i64 0])/\TI W w' N pg b tb g sb dm own' s' C x/\aa w w' own (aD own' tb g sb dm none):=by
 have hlow:∀ i,own i->W.heap.size<=i:=λi hi=>by obtain ⟨_,_,_,hd⟩:=h; exact hd.low i hi
 obtain ⟨S2,d3,hbr,hsv,hgd,aed⟩:=JQ (M:=M) hd hs jG htop hR hgn fG;refine (Xf h hg.size x hs.Jd hs.may hgn fG mf hO (by rw [Gl]; have:=hR.1; omega) (λr hr=>?_) hbr hsv).mono ?_
 · have h9:=hR.2 _ (vZ hr);exact ⟨h9.1,λy hy=>(h9.2 y hy).1⟩
 · rintro e w1 ⟨tb,g,sb,dm,own',rfl,h2,ht⟩;exact ⟨tb,g,sb,dm,own',_,rfl,⟨⟨h2,dX hg ht hlow,⟨[],0,hgd⟩,rfl,aed C hC⟩,rfl,rfl,rfl,λ_=>rfl⟩,ht⟩
theorem LB {st ln:Nat} {dF:Nat->List Nat} (h:Fmt W w N pg st ln b own dF) (hN:N<=4096) :
 Calls Tryz.prog 15 #[.pointer (some ⟨b,0,none⟩)] w λe w'=>∃ tb g sb dm own' s',e=.returned (.tuple #[.pointer (some ⟨sb,0,none⟩),.int .i64 0])/\TI W w' N pg b tb g sb dm own' s' aM (aW 2 pg st ln):=by
 have hok:(plain N dF).ok:=by obtain ⟨_,_,_,hd⟩:=h.at_; exact hd.ok
 refine (Xc h.at_ h.gr (aW 2 pg st ln) (ls:=[]) (M:=(aW 2 pg st ln).log) (Ey h.z) h.sup rfl hN ⟨by simp,λl hl=>by cases hl⟩ (by show 2 < _; omega) (by show 1 < _; omega) (by show 1<=_; omega) (Ev h.sup h.z hok) (PM h.z _ _)).mono ?_;rintro e w1 ⟨tb,g,sb,dm,own',s',rfl,hb,_⟩;exact ⟨tb,g,sb,dm,own',s',rfl,hb⟩
end
section
variable {w w':World} {F F':Nat->Prop} {xb gp:Nat} {k:Int} {l:List Nat}
end
theorem abk (k:Nat) (hk:k < 1024) (f:Int):bA (k:Int) (5:Int) (jy f)=true:=by
 unfold bA;rw [uF]
 simp [dA]
 refine ⟨by omega,λx hx=>?_⟩;have:=wI f x hx;omega
section
variable {lv:Value} {w w':World} {P:Nat->Prop} {q:Nat} {t:TypeId} {cs:Array Value}
variable {B b tb g sb dm:Nat} {wm:Option Nat} {own:Nat->Prop} {s:Sto}
end
section
variable {W w w':World} {N pg b tb g sb dm:Nat} {wm:Option Nat} {own own':Nat->Prop} {s s':Sto} {C:aK} {o:Option aK} {q:Nat}
end
section
variable {W w w':World} {N pg ep b tb g sb dm:Nat} {own own':Nat->Prop} {s:Sto} {S T:St} {C:aK}
end
def Sb.moved (x:Sb) (st ln:Nat):Sb:={ x with gn:=x.gn+1,ep:=x.ep+1,st:=st,ln:=ln,hd:=0,sq:=1 }
theorem IP (x:Sb) (st ln:Nat):[((x.gn:Nat):Int)+1,((x.ep:Nat):Int)+1,((x.pg:Nat):Int),((st:Nat):Int),((ln:Nat):Int),0,1]=(x.moved st ln).l:=by simp [Sb.l,Sb.moved]
section
variable {N pg:Nat} {s:Sto} {ls:List (List ax)} {sure:Nat} {C:aK}
theorem GoodS.switch (h:GoodS N pg s ls sure) (hk:keys s.D=[]) {st ln:Nat} (h1:2+pg<=st) (h2:64<=ln) (h3:st+ln<=N) (hgn:s.x.gn < 1099511627776) (fG:s.x.ep < 1099511627776) (hC:lI pg s C) :
 ∃ T,ay s.S (s.x.moved st ln).l=(0,T)/\GoodS N pg { s with S:=T,x:=s.x.moved st ln,L:=(s.x.moved st ln).log } [] 0/\lI pg { s with S:=T,x:=s.x.moved st ln,L:=(s.x.moved st ln).log } C/\T.ae=s.S.ae:=by
 have hm:=jq h.may;have hp:=h.A8;have hD:s.D=aM:=(keys_nil h.Cy).1 hk;have bu:aL (s.x.moved st ln).l (N:Int)=true:=zq (x:=s.x.moved st ln) ⟨hm.1,hm.2.1⟩ (show 2+s.x.pg<=st by omega) h2 h3 (show 0 < ln by omega) ⟨(show s.x.gn+1<=_ by omega),(show s.x.ep+1<=_ by omega),(show 1<=_ by omega)⟩ h.top;have hg0:0<=gen (s.x.moved st ln).l:=by rw [wE]; omega
 have hpl:=(ll hg0).2;have e1:=F7 h.d.q (s:=(s.x.moved st ln).l) rfl (by have:=h.d.n; rw [this]; exact bu) (h.d.vp _ hg0);have hd0:=h.d.sup hpl (frame (aX (s.x.moved st ln).l));have hdn:=hd0.later;have hsn:=h.sup.next (t:=(s.x.moved st ln).l) rfl bu (by rw [wE,wE]; show ((s.x.gn+1:Nat):Int)=(s.x.gn:Int)+1; omega);refine ⟨_,e1,?_,λk hk2=>?_,rfl⟩
 · exact {
    d:=hdn
    A8:=h.A8
    top:=h.top
    sup:=hsn
    ring:=Ring.new (B:=(s.x.moved st ln).log) ⟨rfl,rfl,show 0 < ln by omega⟩ (λo c _ hc=>(hd0.far _ (by have:=wS (s.x.moved st ln).log o; have h9:(s.x.moved st ln).log.st=st:=rfl; omega) c hc).more (.inr ⟨rfl,aks _⟩)) rfl rfl rfl rfl rfl rfl rfl
    sound:=rfl
    ok:=⟨h3,show 1<=ln by omega,show 0 < ln by omega,aks _,show s.x.ep+1<=_ by omega,show 1<=2199023255552 by omega⟩
    Cy:=h.Cy
    NG:=h.NG
    V6:=hD
    emp:=λ_=>rfl
    nums:=λl hl=>by cases hl
    w:=h.w }
 · have h4:=hC k hk2;have h5:(St.sup s.S (placeOf (s.x.moved st ln).l) (frame (aX (s.x.moved st ln).l))).now (2+k)=s.S.now (2+k):=IL (by omega);show match s.D k with | some q=>C k=some q | none=>(C k=none/\(St.sup s.S (placeOf (s.x.moved st ln).l) (frame (aX (s.x.moved st ln).l))).now (2+k)=DiskSpec.zeros)\/∃ q,C k=some q/\bA (k:Int) q.1 q.2=true/\(St.sup s.S (placeOf (s.x.moved st ln).l) (frame (aX (s.x.moved st ln).l))).now (2+k)=pF k q
   rw [h5];exact h4
end
section
variable {W w w':World} {N pg b tb g sb dm:Nat} {wm:Option Nat} {own own':Nat->Prop} {s s':Sto} {C:aK} {o:Option aK}
section
variable {F F':Nat->Prop} {wb:Nat} {a0 a1 a2 a3 a4 a5 a6:Int}
end
def Tu (cs:Array Value):Prop:=∀ (i:Nat) (x:Int),cs[i]?≠some (.int .u8 x)
theorem Wd {P:Nat->Prop} {q:Nat} {t:TypeId} {cs:Array Value} {A:Option Addr} {n:Nat} {l:List Nat} (h:Dsk.Data w P A n l) (hg:w.grownBy w' (some q)) (hb:af w q t cs) (hc:Tu cs):Dsk.Data w' P A n l:=by
 refine ⟨h.1,h.2.1,λhn=>?_⟩;obtain ⟨g,o,e,hlt,hno,hcell⟩:=h.2.2 hn;have hne:g≠q:=λe2=>by
  subst e2;have h1:=hcell 0 hn;rw [af.cell hb] at h1;exact hc _ _ h1
 refine ⟨g,o,e,ake hlt hg.size,hno,λj hj=>?_⟩;rw [aki (a:=⟨g,o+j,none⟩) (hg.block g hlt (λe2=>hne (by cases e2; rfl)))];exact hcell j hj
theorem JK {P:Nat->Prop} {q:Nat} {t:TypeId} {cs:Array Value} {bm:Nat} {D:aK} (h:dE w P bm D) (hg:w.grownBy w' (some q)) (hb:af w q t cs) (hc:Tu cs) (hne:bm≠q):dE w' P bm D:=by
 obtain ⟨f,h1,h2⟩:=h.m;refine ⟨⟨f,h1.of_block (hg.block bm h1.lt (λe=>hne (by cases e; rfl))),λk=>?_⟩,h.ok⟩;rcases h2 k with a | ⟨p,v,a,b,bv,e,A,n,c,e2,hnc,hd⟩
 · exact .inl a
 · exact .inr ⟨p,v,a,b,bv,e,A,n,c,e2,hnc,Wd hd hg hb hc⟩
end
end Go.Proofs.YtinajlbijgedbaaGreat.Sto
set_option maxRecDepth 100000
set_option maxHeartbeats 16000000
namespace Go.Proofs.YtinajlbijgedbaaGreat.Sto
open Lib (hid)
open Go.RowKit Go.Maps Go.Shelf CrcMath CodecMath Mem Crc Codec DiskSpec Dsk Sup Log
def dI (w:World) (F:Nat->Prop) (B mb sb:Nat) (n:Int) (tg:Option (Int × Int)):Prop :=
 ¬ F mb/\B<=mb/\match tg with
  | none=>af w mb 95 #[.pointer (some ⟨sb,0,none⟩),.int .i64 n,.pointer none]
  | some q=>∃ g,af w mb 95 #[.pointer (some ⟨sb,0,none⟩),.int .i64 n,.pointer (some ⟨g,0,none⟩)]/\af w g 118 #[.int .i64 q.1,.int .i64 q.2]/\¬ F g/\g≠mb
section
variable {Z:Nat->Prop} {w w':World} {F F':Nat->Prop} {B mb sb:Nat} {n:Int} {tg:Option (Int × Int)}
theorem Fb (ht:aa w w' F F') {i:Nat} (hi:i < w.heap.size) (hn:¬ F i):¬ F' i:=λe=>by
 rcases ht.fresh i e with h1 | h1
 · exact hn h1
 · omega
theorem dI.turn (h:dI w F B mb sb n tg) (ht:aa w w' F F'):dI w' F' B mb sb n tg:=by
 obtain ⟨h1,h0,h2⟩:=h
 cases tg with
 | none=>exact ⟨Fb ht (af.lt h2) h1,h0,aj h2 (ht.block mb (af.lt h2) h1)⟩
 | some q =>
   obtain ⟨g,h3,h4,h5,h6⟩:=h2;exact ⟨Fb ht h3.lt h1,h0,g,aj h3 (ht.block mb h3.lt h1),aj h4 (ht.block g h4.lt h5),Fb ht h4.lt h5,h6⟩
theorem dI.quiet (h:dI w F B mb sb n tg) (hg:w.grownBy w' none):dI w' F B mb sb n tg:=h.turn (aa.none_ hg)
theorem dI.blk (h:dI w F B mb sb n tg):∃ p:Option Addr,af w mb 95 #[.pointer (some ⟨sb,0,none⟩),.int .i64 n,.pointer p]/\p.isSome=tg.isSome:=by
 obtain ⟨_,_,h2⟩:=h
 cases tg with
 | none=>exact ⟨none,h2,rfl⟩
 | some q =>
   obtain ⟨g,h3,_⟩:=h2;exact ⟨some ⟨g,0,none⟩,h3,rfl⟩
theorem zW (h:dI w F B mb sb n tg):Calls Tryz.prog 12 #[.pointer (some ⟨mb,0,none⟩)] w λe w'=>e=.returned (.bool tg.isSome)/\w'=w:=by
 obtain ⟨p,hb,hp⟩:=h.blk;have c2:=hb.cell 2;simp only [akb,aka,akc] at c2;clear h hb
 cases p with
 | none =>
   rw [<-hp];clear hp;go_enter Tryz.func12,Tryz.ntmps12;go_wp2;go_ret;exact ⟨rfl,rfl⟩
 | some a =>
   rw [<-hp];clear hp;go_enter Tryz.func12,Tryz.ntmps12;go_wp2;go_ret;exact ⟨rfl,rfl⟩
theorem Gf (h:dI w F B mb sb n tg):Calls Tryz.prog 34 #[.pointer (some ⟨mb,0,none⟩)] w λe w'=>e=.returned (.tuple #[])/\dI w' F B mb sb n none/\w.grownBy w' (some mb):=by
 obtain ⟨p,hb,_⟩:=h.blk;have c2:=hb.cell 2; have f2:=hb.frozen 2;simp only [akb,aka,akc] at c2;have hgs:=akd (akr w (some mb)) 2 (.pointer none);have HR:=hid (show dI (w.setCell ⟨mb,2,none⟩ (.pointer none)) F B mb sb n none/\w.grownBy (w.setCell ⟨mb,2,none⟩ (.pointer none)) (some mb) from ⟨⟨h.1,h.2.1,hb.aC 2 (.pointer none)⟩,hgs⟩)
 clear h hb hgs;go_enter Tryz.func34,Tryz.ntmps34;go_wp2
 go_end0
 exact ⟨rfl,HR.out.1,HR.out.2⟩
theorem IA (w:World) (n:Int):Calls Tryz.prog 9 #[.pointer (some ⟨sb,0,none⟩),.int .i64 n] w λe w'=>e=.returned (.pointer (some ⟨w.heap.size,0,none⟩))/\w'=w.alloc (.cells #[.pointer (some ⟨sb,0,none⟩),.int .i64 n,.pointer none] 95):=by
 go_enter Tryz.func9,Tryz.ntmps9;go_wp2;go_ret;exact ⟨rfl,rfl⟩
theorem Rp {W:World} {N pg b tb g dm:Nat} {wm:Option Nat} {own:Nat->Prop} {s:Sto} {C:aK} {o:Option aK} (h:lZ W w N pg b tb g sb dm wm own s C o) (n:Int) :
 Calls Tryz.prog 9 #[.pointer (some ⟨sb,0,none⟩),.int .i64 n] w λe w'=>∃ mb,e=.returned (.pointer (some ⟨mb,0,none⟩))/\lZ W w' N pg b tb g sb dm wm own s C o/\dI w' (aD own tb g sb dm wm) W.heap.size mb sb n none/\w.grownBy w' none:=by
 refine (IA w n).mono ?_;rintro e w1 ⟨rfl,rfl⟩;have hg:=aj9 w (.cells #[.pointer (some ⟨sb,0,none⟩),.int .i64 n,.pointer none] 95) none;exact ⟨_,rfl,h.quiet hg,⟨λe=>by have:=h.bO e; omega,h.gr.size,af.new w _ _⟩,hg⟩
theorem Pe (w:World) (n:Int):Calls Tryz.prog 9 #[.pointer none,.int .i64 n] w λe w'=>e=.returned (.pointer none)/\w'=w:=by
 go_enter Tryz.func9,Tryz.ntmps9;go_wp2;go_ret;exact ⟨rfl,rfl⟩
end
def fV (s:Sto) (q:Int × Int):List Int:=[((s.x.gn:Nat):Int)+1,((s.x.ep:Nat):Int)+1,((s.x.pg:Nat):Int),q.1,q.2,0,1]
def qK (s:Sto) (n:Int) (tg:Option (Int × Int)) (q:Int × Int):Int × Option (Int × Int) :=
 match tg with
 | some p=>(17,some p)
 | none=>if aL (fV s q) n then (0,some q) else (1,none)
inductive jk (s:Sto):Option (Int × Int)->Bool->Int->Sto->Option (Int × Int)->Prop
 | idle:jk s none false 18 s none
 | ky (q:Int × Int):keys s.D≠[]->jk s (some q) false (bZ s).1 (bZ s).2 (some q)
 | busy (q:Int × Int):keys s.D=[]->s.W.isSome=true->jk s (some q) false 17 s (some q)
 | fail (q:Int × Int):keys s.D=[]->s.W=none->(ay s.S (fV s q)).1≠0->jk s (some q) false (ay s.S (fV s q)).1 (s.disk (ay s.S (fV s q)).2) (some q)
 | done (q:Int × Int) (x':Sb):keys s.D=[]->s.W=none->(ay s.S (fV s q)).1=0->x'.l=fV s q->jk s (some q) true 0 { s with S:=(ay s.S (fV s q)).2,x:=x',L:=x'.log } none
theorem MK (a:Value) (n:Int) (c:Value) (ha:∀ x,a≠.int .u8 x) (hc:∀ x,c≠.int .u8 x):Tu #[a,.int .i64 n,c]:=λi x h=>by
 have h2:=(Array.getElem?_eq_some_iff.1 h).1
 simp at h2
 have:i=0\/i=1\/i=2:=by omega
 rcases this with rfl | rfl | rfl <;> simp at h
 · exact ha x h
 · exact hc x h
section
variable {Z:Nat->Prop} {lv:Value} {w w':World} {B b tb g sb dm mb:Nat} {wm:Option Nat} {own own':Nat->Prop} {s:Sto} {n:Int} {tg:Option (Int × Int)}
theorem aS.abo {q:Nat} {t:TypeId} {cs:Array Value} (ha:aS Z lv w B b tb g sb dm wm own s) (hg:w.grownBy w' (some q)) (hb:af w q t cs) (hc:Tu cs) (hq:¬ aD own tb g sb dm wm q):aS Z lv w' B b tb g sb dm wm own s :=
 ⟨ha.l.far hg (λj e ho=>hq (.inl (by cases e; exact ho))),ha.r.keep hg (λe=>hq (.inl (.inl (.inr (by cases e; rfl))))),ha.c.grown hg (λe=>hq (.inr (.inl (by cases e; rfl)))),JK ha.d hg hb hc (λe=>hq (.inr (.inr (.inl e.symm)))),
  λU hU=>by
   obtain ⟨m,e,hm⟩:=ha.u U hU;exact ⟨m,e,JK hm hg hb hc (λe2=>hq (.inr (.inr (.inr (by rw [e,e2])))))⟩,ha.n,ha.may,ha.rX,ha.qX,ha.vM,ha.low,λi hi=>ake (ha.z i hi) hg.size⟩
theorem aS.mover (h:aS Z lv w B b tb g sb dm wm own s) (hm:dI w (FZ Z (aD own tb g sb dm wm)) B mb sb n tg) (hg:w.grownBy w' (some mb)):aS Z lv w' B b tb g sb dm wm own s:=by
 obtain ⟨p,hb,_⟩:=hm.blk;exact h.abo hg hb (MK _ _ _ (λx e=>by cases e) (λx e=>by cases e)) (λe=>hm.1 (.inl e))
theorem wL {F F':Nat->Prop} (ht:aa w w' F F'):aa w w' (λi=>F i\/i=mb) (λi=>F' i\/i=mb) :=
 ⟨ht.os,ht.tape,ht.output,ht.size,λi hi hn=>ht.block i hi (λe=>hn (.inl e)),λi hi=>by
  rcases hi with hi | hi
  · rcases ht.fresh i hi with h1 | h1
    · exact .inl (.inl h1)
    · exact .inr h1
  · exact .inl (.inr hi)⟩
theorem nS {F:Nat->Prop} (hg:w.grownBy w' (some mb)):aa w w' (λi=>F i\/i=mb) (λi=>F i\/i=mb):=.aA hg (λj e=>by cases e; exact .inr rfl)
theorem BB (h:bf Z w B b tb g sb dm wm own s):Calls Tryz.prog 11 #[.pointer (some ⟨sb,0,none⟩)] w λe w' =>
 e=.returned (.agg #[.int .i64 (s.x.gn:Nat),.int .i64 (s.x.ep:Nat),.int .i64 (s.x.pg:Nat),.int .i64 (s.x.st:Nat),.int .i64 (s.x.ln:Nat),.int .i64 (s.x.hd:Nat),.int .i64 (s.x.sq:Nat)])/\w.grownBy w' none:=Uc h
theorem Uv (x:Sb) (hg:x.gn<=1099511627776) (he:x.ep<=1099511627776) (st ln:Int) (w:World) :
 Calls Tryz.prog 64 #[.agg #[.int .i64 (x.gn:Nat),.int .i64 (x.ep:Nat),.int .i64 (x.pg:Nat),.int .i64 (x.st:Nat),.int .i64 (x.ln:Nat),.int .i64 (x.hd:Nat),.int .i64 (x.sq:Nat)],.int .i64 st,.int .i64 ln] w λe w'=>e=.returned (.agg #[.int .i64 (((x.gn:Nat):Int)+1),.int .i64 (((x.ep:Nat):Int)+1),.int .i64 (x.pg:Nat),.int .i64 st,.int .i64 ln,.int .i64 0,.int .i64 1])/\w.grownBy w' none:=by
 have hw1:IntKind.i64.wrap (((x.gn:Nat):Int)+1)=((x.gn:Nat):Int)+1:=IntWalk.i64_in _ (by omega);have hw2:IntKind.i64.wrap (((x.ep:Nat):Int)+1)=((x.ep:Nat):Int)+1:=IntWalk.i64_in _ (by omega);have hbn:=af.new (w.alloc (.cells #[.int .i64 (((x.gn:Nat):Int)+1),.int .i64 (((x.ep:Nat):Int)+1),.int .i64 (x.pg:Nat),.int .i64 st,.int .i64 ln,.int .i64 0,.int .i64 1] 49)) 49 #[.int .i64 (((x.gn:Nat):Int)+1),.int .i64 (((x.ep:Nat):Int)+1),.int .i64 (x.pg:Nat),.int .i64 st,.int .i64 ln,.int .i64 0,.int .i64 1]
 rw [show (w.alloc (.cells #[.int .i64 (((x.gn:Nat):Int)+1),.int .i64 (((x.ep:Nat):Int)+1),.int .i64 (x.pg:Nat),.int .i64 st,.int .i64 ln,.int .i64 0,.int .i64 1] 49)).heap.size=w.heap.size+1 from by simp] at hbn;have nP:=hid hbn;clear hbn;go_enter Tryz.func64,Tryz.ntmps64;go_wp2;refine qG rfl (w.heap.size+1) 49 #[.int .i64 (((x.gn:Nat):Int)+1),.int .i64 (((x.ep:Nat):Int)+1),.int .i64 (x.pg:Nat),.int .i64 st,.int .i64 ln,.int .i64 0,.int .i64 1] _ rfl nP.out Tryz.underlying49 rfl (by kernel_rfl) rfl ?_
 exact ⟨rfl,(aj9 w _ none).trans (aj9 _ _ none)⟩
theorem JH (h:bf Z w B b tb g sb dm wm own s) (hm:dI w (FZ Z (aD own tb g sb dm wm)) B mb sb n tg) (st ln:Int) :
 Calls Tryz.prog 20 #[.pointer (some ⟨mb,0,none⟩),.int .i64 st,.int .i64 ln] w λe w'=>e=.returned (.int .i64 (qK s n tg (st,ln)).1)/\bf Z w' B b tb g sb dm wm own s /\
  dI w' (FZ Z (aD own tb g sb dm wm)) B mb sb n (qK s n tg (st,ln)).2/\w.grownBy w' (some mb):=by
 have HB:=hid (zW hm)
 cases tg with
 | some p =>
   have HH:=hid h; have HM:=hid hm;clear h hm;go_enter Tryz.func20,Tryz.ntmps20;go_wp2_with fail;refine HB.out.mono ?_;rintro e w1 ⟨rfl,rfl⟩;simp only [Option.isSome_some];go_wp2_with fail;go_ret;exact ⟨rfl,HH.out,HM.out,akr w1 _⟩
 | none =>
   obtain ⟨R,hR⟩:∃ r,qK s n none (st,ln)=r:=⟨_,rfl⟩;rw [hR];have HA:=hid (show (if aL (fV s (st,ln)) n then ((0:Int),some (st,ln)) else (1,none))=R from hR);have HC:=hid (show dY [((s.x.gn:Nat):Int)+1,((s.x.ep:Nat):Int)+1,((s.x.pg:Nat):Int),st,ln,0,1] n=if aL (fV s (st,ln)) n then 0 else 1 from rfl);clear hR;have bu:=iR h.may;have hgx:=(aV bu 0 (by simp [Sb.l])).2;have hex:=(aV bu 1 (by simp [Sb.l])).2
   simp [Sb.l] at hgx hex
   have bz:=hid (ah w none);have HH:=hid (h.quiet bz.out); have HM:=hid (hm.quiet bz.out);have QU:=hid (BB HH.out);have HMV:=hid (λwx=>Uv s.x (by omega) (by omega) st ln wx);have fM:=hid (λwx=>uW (((s.x.gn:Nat):Int)+1) (((s.x.ep:Nat):Int)+1) ((s.x.pg:Nat):Int) st ln 0 1 n wx);have av:=hid (show ∀ wx,w.drew.grownBy wx none->wx.cell? ⟨mb,0,none⟩=some (.pointer (some ⟨sb,0,none⟩))/\wx.cell? ⟨mb,1,none⟩=some (.int .i64 n) from λwx hg=>by
    obtain ⟨p,hb,_⟩:=HM.out.blk;have hb2:=hb.grown hg (by simp);exact ⟨by rw [hb2.cell]; rfl,by rw [hb2.cell]; rfl⟩)
   have fA:=hid (akr w.drew none);clear h hm bu hgx hex;go_enter Tryz.func20,Tryz.ntmps20;go_wp2_with fail;refine HB.out.mono ?_;rintro e w1 ⟨rfl,rfl⟩;simp only [Option.isSome_none];go_wp2_with fail
   go_region_held3 (λwx=>wx.cell? ⟨mb,0,none⟩=some (.pointer (some ⟨sb,0,none⟩))/\wx.cell? ⟨mb,1,none⟩=some (.int .i64 n))
    (first
      | exact av.out _ fA.out
      | exact av.out _ HR1.out
      | exact av.out _ HR2.out
      | exact av.out _ HR3.out)
    (first
      | (go_at_call 11
         (with_reducible refine QU.out.mono ?_)
         rintro e w2 ⟨rfl,hg2⟩;have HR1:=hid hg2;clear hg2)
      | (go_at_call 64
         (with_reducible refine (HMV.out _).mono ?_)
         rintro e w3 ⟨rfl,hg3⟩;have HR2:=hid (HR1.out.trans hg3);clear hg3)
      | (go_at_call 47
         (with_reducible refine (fM.out _).mono ?_)
         rintro e w4 ⟨rfl,hg4⟩;have HR3:=hid (HR2.out.trans hg4);clear hg4))
   rw [HC.out];clear HC
   cases hmb:aL (fV s (st,ln)) n with
   | false =>
     rw [hmb] at HA;have HA2:=hid (show (1,none)=R from HA.out);simp only [Bool.false_eq_true,if_false];go_wp2_with fail;go_ret;rw [<-HA2.out];exact ⟨rfl,HH.out.quiet HR3.out,HM.out.quiet HR3.out,iy (bz.out.trans HR3.out) _⟩
   | true =>
     rw [hmb] at HA;have HA2:=hid (show (0,some (st,ln))=R from HA.out);simp only [if_true];have hM4:=HM.out.quiet HR3.out;obtain ⟨hnf,hlo,hb4⟩:=hM4;have hga:=aj9 w4 (.cells #[.int .i64 st,.int .i64 ln] 118) none;have hb5:=af.grown hb4 hga (by simp);have c2:=hb5.cell 2; have f2:=hb5.frozen 2;simp only [akb,aka,akc] at c2;have hgs:=akd (akr (w4.alloc (.cells #[.int .i64 st,.int .i64 ln] 118)) (some mb)) 2 (.pointer (some ⟨w4.heap.size,0,none⟩))
     have hbp:=af.new w4 118 #[.int .i64 st,.int .i64 ln];have hlt:mb < w4.heap.size:=af.lt hb4;have hH4:=HH.out.quiet HR3.out;have hH5:=hH4.quiet hga;have HE:=hid (show bf Z ((w4.alloc (.cells #[.int .i64 st,.int .i64 ln] 118)).setCell ⟨mb,2,none⟩ (.pointer (some ⟨w4.heap.size,0,none⟩))) B b tb g sb dm wm own s /\
      dI ((w4.alloc (.cells #[.int .i64 st,.int .i64 ln] 118)).setCell ⟨mb,2,none⟩ (.pointer (some ⟨w4.heap.size,0,none⟩))) (FZ Z (aD own tb g sb dm wm)) B mb sb n (some (st,ln)) /\
      w1.grownBy ((w4.alloc (.cells #[.int .i64 st,.int .i64 ln] 118)).setCell ⟨mb,2,none⟩ (.pointer (some ⟨w4.heap.size,0,none⟩))) (some mb) from
      ⟨hH5.abo hgs hb5 (MK _ _ _ (λx e=>by cases e) (λx e=>by cases e)) (λe=>hnf (.inl e)),
       ⟨hnf,hlo,w4.heap.size,hb5.aC 2 _,hbp.grown hgs (λe=>by cases e; omega),λe=>by have:=hH4.Y7 e; omega,by omega⟩,
       (iy ((bz.out.trans HR3.out).trans hga) (some mb)).trans hgs⟩)
     clear hnf hlo hb4 hga hb5 hgs hbp hlt hH4 hH5;go_wp2_with fail;go_ret;rw [<-HA2.out];exact ⟨rfl,HE.out.1,HE.out.2.1,HE.out.2.2⟩
theorem KN (h:bf Z w B b tb g sb dm wm own s):Calls Tryz.prog 65 #[.pointer (some ⟨sb,0,none⟩)] w λe w'=>(∃ A c,e=.returned (.slice A (keys s.D).length c))/\w.grownBy w' none:=by
 have h0:=Ud h;generalize keys s.D=ks at *;refine h0.mono ?_;rintro e w1 ⟨v,rfl,hr,hg⟩;obtain ⟨A,c,rfl⟩:∃ A c,v=.slice A ks.length c:=by
  rcases hr.2 with ⟨hv,hz⟩ | ⟨g,cap,cur,hv,_⟩
  · exact ⟨none,0,by rw [hv,hz]⟩
  · exact ⟨_,_,hv⟩
 exact ⟨⟨A,c,rfl⟩,hg⟩
def N7 (Z:Nat->Prop) (w:World) (B b tb g sb dm:Nat) (wm:Option Nat) (own:Nat->Prop) (s:Sto) (mb:Nat) (n:Int) (tg:Option (Int × Int)) (e:Ending) (w':World):Prop :=
 ∃ dn er own' g' s' je,e=.returned (.tuple #[.bool dn,.int .i64 er])/\jk s tg dn er s' je/\bf Z w' B b tb g' sb dm wm own' s'/\dI w' (FZ Z (aD own' tb g' sb dm wm)) B mb sb n je /\
  aa w w' (λi=>aD own tb g sb dm wm i\/i=mb) (λi=>aD own' tb g' sb dm wm i\/i=mb)
theorem Gd (h:bf Z w B b tb g sb dm wm own s) (hm:dI w (FZ Z (aD own tb g sb dm wm)) B mb sb n tg) (hroom:∀ i,(s.S.ae i).length < 549755700000) :
 Calls Tryz.prog 21 #[.pointer (some ⟨mb,0,none⟩)] w (N7 Z w B b tb g sb dm wm own s mb n tg):=by
 have HB:=hid (zW hm);unfold N7
 cases tg with
 | none =>
   have HH:=hid h; have HM:=hid hm;clear h hm hroom;go_enter Tryz.func21,Tryz.ntmps21;go_wp2_with fail;refine HB.out.mono ?_;rintro e w1 ⟨rfl,rfl⟩;simp only [Option.isSome_none];go_wp2_with fail;go_ret2;exact ⟨false,18,own,g,s,none,rfl,.idle,HH.out,HM.out,aa.none_ (akr w1 none)⟩
 | some q =>
   obtain ⟨a,c⟩:=q;have HD:=hid (KN h);have HH:=hid h; have HM:=hid hm; have bB:=hid hroom;have jf:=hid (show ∀ wx,w.grownBy wx none->wx.cell? ⟨mb,0,none⟩=some (.pointer (some ⟨sb,0,none⟩)) from λwx hg=>by
    obtain ⟨p,hb,_⟩:=HM.out.blk;rw [(hb.grown hg (by simp)).cell]; rfl)
   have ng:=hid (show (keys s.D).length=0↔keys s.D=[] from List.length_eq_zero_iff);have c0:=jf.out w (akr w none);clear h hm hroom;generalize hK:(keys s.D).length=K at *;go_enter Tryz.func21,Tryz.ntmps21;go_wp2_with fail;refine HB.out.mono ?_;rintro e w1 ⟨rfl,rfl⟩;simp only [Option.isSome_some];go_wp2_with fail;refine HD.out.mono ?_;rintro e w2 ⟨⟨Ad,cd,rfl⟩,hg2⟩;have HG2:=hid hg2;have yD:=hid (HH.out.quiet hg2); have Bl:=hid (HM.out.quiet hg2)
   clear hg2 HD HB c0
   by_cases hk0:K=0
   · have hki:¬ ((0:Int) < (K:Int)):=by omega
     have xL:=hid (ng.out.1 hk0);have aZ:=hid (ah w2 none);have Dc:=hid (yD.out.quiet aZ.out); have qo:=hid (Bl.out.quiet aZ.out);obtain ⟨X9,hlo3,gq,hb3,hp3,X7,abV⟩:=qo.out;have pQ:=hid (show ∀ wx,w2.drew.grownBy wx none->wx.cell? ⟨mb,0,none⟩=some (.pointer (some ⟨sb,0,none⟩))/\wx.cell? ⟨mb,2,none⟩=some (.pointer (some ⟨gq,0,none⟩))/\wx.cell? ⟨gq,0,none⟩=some (.int .i64 a)/\wx.cell? ⟨gq,1,none⟩=some (.int .i64 c) from λwx hg=>by
      have hb4:=hb3.grown hg (by simp);have Vs:=hp3.grown hg (by simp);exact ⟨by rw [hb4.cell]; rfl,by rw [hb4.cell]; rfl,by rw [Vs.cell]; rfl,by rw [Vs.cell]; rfl⟩)
     have Q4:=hid (show ∀ (wx:World) (P':Nat->Prop),aa w2.drew wx (aD own tb g sb dm wm) P'->wx.cell? ⟨mb,0,none⟩=some (.pointer (some ⟨sb,0,none⟩))/\wx.cell? ⟨mb,2,none⟩=some (.pointer (some ⟨gq,0,none⟩))/\wx.cell? ⟨gq,0,none⟩=some (.int .i64 a)/\wx.cell? ⟨gq,1,none⟩=some (.int .i64 c) from λwx P' ht=>by
      have hb4:=aj hb3 (ht.block mb hb3.lt (λe=>X9 (.inl e)));have Vs:=aj hp3 (ht.block gq hp3.lt (λe=>X7 (.inl e)));exact ⟨by rw [hb4.cell]; rfl,by rw [hb4.cell]; rfl,by rw [Vs.cell]; rfl,by rw [Vs.cell]; rfl⟩)
     have adq:=hid (show dI w2.drew (FZ Z (aD own tb g sb dm wm)) B mb sb n (some (a,c)) from ⟨X9,hlo3,gq,hb3,hp3,X7,abV⟩);have HT3:=hid (aa.none_ (own:=λi=>aD own tb g sb dm wm i\/i=mb) (HG2.out.trans aZ.out));clear X9 hlo3 hb3 hp3 X7 abV qo Bl yD
     by_cases hW:s.W.isSome=true
     · have EO:=hid (F3 Dc.out a c (.inl hW));have HWW:=hid hW;clear hW;go_wp2_with fail
       go_region_held3 (λwx=>wx.cell? ⟨mb,0,none⟩=some (.pointer (some ⟨sb,0,none⟩))/\wx.cell? ⟨mb,2,none⟩=some (.pointer (some ⟨gq,0,none⟩))/\wx.cell? ⟨gq,0,none⟩=some (.int .i64 a)/\wx.cell? ⟨gq,1,none⟩=some (.int .i64 c))
        (first
          | exact pQ.out _ (akr _ _))
        (first
          | (go_at_call 67
             (with_reducible refine EO.out.mono ?_)
             rintro e w4 ⟨rfl,rfl⟩))
       go_wp2_with fail;go_ret2;exact ⟨false,17,own,g,s,some (a,c),rfl,.busy _ xL.out HWW.out,Dc.out,adq.out,HT3.out⟩
     · rw [Bool.not_eq_true] at hW;have CJ:=hid (show s.W=none from by cases hx:s.W with | none=>rfl | some U=>rw [hx] at hW; cases hW);have hsw:=Rf Dc.out a c hW xL.out (λi=>by have:=bB.out i; omega);unfold mP at hsw;obtain ⟨R0,hR0⟩:∃ r,ay s.S (fV s (a,c))=r:=⟨_,rfl⟩;have fA:=hid hR0;unfold fV at hR0;rw [hR0] at hsw;obtain ⟨er,T⟩:=R0
       dsimp only at hsw
       have EO:=hid hsw;clear hW hsw hR0;go_wp2_with fail
       go_region_held3 (λwx=>wx.cell? ⟨mb,0,none⟩=some (.pointer (some ⟨sb,0,none⟩))/\wx.cell? ⟨mb,2,none⟩=some (.pointer (some ⟨gq,0,none⟩))/\wx.cell? ⟨gq,0,none⟩=some (.int .i64 a)/\wx.cell? ⟨gq,1,none⟩=some (.int .i64 c))
        (first
          | exact pQ.out _ (akr _ _)
          | exact Bn.out)
        (first
          | (go_at_call 67
             (with_reducible refine EO.out.mono ?_)
             rintro e w4 ⟨rfl,iE,g4,jF,h4⟩;have sK:=hid jF;have H4:=hid h4;have vg:=hid (adq.out.turn (jb jF));have Bn:=hid (Q4.out _ _ jF);clear jF h4))
       have fJ:=hid (HT3.out.trans (wL sK.out));rcases H4.out with ⟨he,x',hx',h5⟩ | ⟨he,hgg,h5⟩
       · have qZ:(er == 0)=true:=by rw [he]; rfl
         have HX:=hid hx';have oP:=hid h5;have ZZ:=hid (Gf vg.out);have HE:=hid he;subst he;clear hx' h5 H4;go_wp2_with fail;refine ZZ.out.mono ?_;rintro e w5 ⟨rfl,si,hg5⟩;have CS:=hid (oP.out.mover vg.out hg5);have CZ:=hid si;have rD:=hid (fJ.out.trans (nS hg5));clear si hg5 ZZ;go_wp2_with fail;go_ret2;have hR:(ay s.S (fV s (a,c))).2=T:=by rw [fA.out]
         have hS:=jk.done (a,c) x' xL.out CJ.out (by rw [fA.out]) HX.out;rw [hR] at hS;exact ⟨true,0,iE,g4,_,none,rfl,hS,CS.out,CZ.out,rD.out⟩
       · have qZ:(er == 0)=false:=by simpa using he
         have HE:=hid he;have oP:=hid h5;have ZW:=hid hgg;clear hgg;have Cv:(ay s.S (fV s (a,c))).1=er:=by rw [fA.out]
         have hR:(ay s.S (fV s (a,c))).2=T:=by rw [fA.out]
         have hS:=jk.fail (a,c) xL.out CJ.out (by rw [Cv]; exact HE.out);rw [hR,Cv] at hS;have HSF:=hid hS;clear he h5 H4 hK hk0 hki ng jf hR Cv hS xL fA CJ;go_wp2_with fail;go_ret2;exact ⟨false,er,iE,g4,_,some (a,c),rfl,HSF.out,ZW.out ▸ oP.out,vg.out,fJ.out⟩
   · have hki:(0:Int) < (K:Int):=by omega
     have xL:=hid (show keys s.D≠[] from λe=>hk0 (ng.out.2 e));have hcp:=Ir yD.out bB.out;unfold uX at hcp;obtain ⟨R0,hR0⟩:∃ r,bZ s=r:=⟨_,rfl⟩;have HS:=hid (jk.ky (a,c) xL.out);rw [hR0] at hcp HS;clear hR0;obtain ⟨er,s3⟩:=R0
     dsimp only at hcp HS
     have Il:=hid hcp;clear hcp;have c0:=jf.out w2 HG2.out;go_wp2_with fail;refine Il.out.mono ?_;rintro e w3 ⟨rfl,fQ,h3,ht3⟩;have Dc:=hid h3;have HT3:=hid ((aa.none_ (own:=λi=>aD own tb g sb dm wm i\/i=mb) HG2.out).trans (wL ht3));have qo:=hid (Bl.out.turn (jb ht3));clear h3 ht3 Il c0;go_wp2_with fail;go_ret2;exact ⟨false,er,fQ,g,s3,some (a,c),rfl,HS.out,Dc.out,qo.out,HT3.out⟩
theorem dI.weak {F G:Nat->Prop} (h:dI w F B mb sb n tg) (hG:∀ i,G i->F i):dI w G B mb sb n tg:=by
 obtain ⟨h1,h0,h2⟩:=h;refine ⟨λe=>h1 (hG _ e),h0,?_⟩
 cases tg with
 | none=>exact h2
 | some q =>
   obtain ⟨g,h3,h4,h5,h6⟩:=h2;exact ⟨g,h3,h4,λe=>h5 (hG _ e),h6⟩
theorem U4 {F:Nat->Prop} (h:dI w F B mb sb n tg):dI w (FZ (λ_=>False) F) B mb sb n tg:=h.weak (λi hi=>hi.elim id False.elim)
theorem U3 {F:Nat->Prop} (h:dI w (FZ (λ_=>False) F) B mb sb n tg):dI w F B mb sb n tg:=h.weak (λi hi=>.inl hi)
theorem Qe (h:DD w B b tb g sb dm wm own s) (hm:dI w (aD own tb g sb dm wm) B mb sb n tg) (st ln:Int) :
 Calls Tryz.prog 20 #[.pointer (some ⟨mb,0,none⟩),.int .i64 st,.int .i64 ln] w λe w'=>e=.returned (.int .i64 (qK s n tg (st,ln)).1)/\DD w' B b tb g sb dm wm own s /\
  dI w' (aD own tb g sb dm wm) B mb sb n (qK s n tg (st,ln)).2/\w.grownBy w' (some mb) :=
 (JH h (U4 hm) st ln).mono (λe w' h=>⟨h.1,h.2.1,U3 h.2.2.1,h.2.2.2⟩)
def Stepped (w:World) (B b tb g sb dm:Nat) (wm:Option Nat) (own:Nat->Prop) (s:Sto) (mb:Nat) (n:Int) (tg:Option (Int × Int)) (e:Ending) (w':World):Prop :=
 ∃ dn er own' g' s' je,e=.returned (.tuple #[.bool dn,.int .i64 er])/\jk s tg dn er s' je/\DD w' B b tb g' sb dm wm own' s'/\dI w' (aD own' tb g' sb dm wm) B mb sb n je /\
  aa w w' (λi=>aD own tb g sb dm wm i\/i=mb) (λi=>aD own' tb g' sb dm wm i\/i=mb)
theorem Xv (h:DD w B b tb g sb dm wm own s) (hm:dI w (aD own tb g sb dm wm) B mb sb n tg) (hroom:∀ i,(s.S.ae i).length < 549755700000) :
 Calls Tryz.prog 21 #[.pointer (some ⟨mb,0,none⟩)] w (Stepped w B b tb g sb dm wm own s mb n tg) :=
 (Gd h (U4 hm) hroom).mono (λe w' ⟨dn,er,own',g',s',je,h1,h2,h3,h4,h5⟩=>⟨dn,er,own',g',s',je,h1,h2,h3,U3 h4,h5⟩)
end
end Go.Proofs.YtinajlbijgedbaaGreat.Sto
namespace Go.Proofs.YtinajlbijgedbaaGreat.Sto
open Go.RowKit CrcMath CodecMath Mem Crc Codec DiskSpec Dsk Sup Log
set_option linter.unusedVariables false
attribute [local irreducible] aF aR dK frame cZ aX Two bR eF
section
variable {M:Nat} {S:St} {s s':Sto} {N:Nat} {ag:Nat->List Nat} {x:Sb}
theorem XI {a b:Option (List Int)} {t:List Int} (h:newer a b=some t):a=some t\/b=some t:=by
 unfold newer at h
 split at h
 · exact .inl h
 · exact .inr h
 · split at h
   · exact .inr h
   · exact .inl h
theorem QE {n:Int} {l0 l1:List Nat} {t:List Int} (h:mW n l0 l1=some t):sound n 0 l0=some t\/sound n 1 l1=some t:=XI h
theorem NY (h:Two (dw M) (plain N ag)) (hb:gI N ag=some x.l):x.gn<=M/\x.ep<=M:=by
 unfold Two at h;have h0:=(h 0 (by omega)).1;have h1:=(h 1 (by omega)).1;have key:∀ i l,dw M l->sound (N:Int) i l=some x.l->x.gn<=M/\x.ep<=M:=λi l hl hs=>by
  rw [nT] at hs;have h2:=hl x.l (Option.filter_eq_some_iff.1 hs).1
  simp [Sb.l] at h2
  exact h2
 unfold gI at hb;rcases QE hb with h2 | h2
 · exact key _ _ h0 h2
 · exact key _ _ h1 h2
theorem Va (hm:aL x.l (N:Int)=true):2<=x.log.st:=by
 have h2:jg x.l (N:Int)=true:=by
  unfold aL at hm;exact (Bool.and_eq_true_iff.1 hm).2
 unfold jg at h2
 simp [Sb.l] at h2
 show 2<=x.st;omega
theorem Ul {l:List Int} (h:(ay S l).1=0):aL l S.n=true:=by
 unfold ay at h
 split at h
 · assumption
 · cases h
theorem dJ.step {tg je:Option (Int × Int)} {dn:Bool} {er:Int} (h:dJ M s) (hs:jk s tg dn er s' je):dJ (M+1) s':=by
 have h0:=h.mono (Nat.le_succ M);have hg:((s.x.gn:Nat):Int)+1<=((M+1:Nat):Int):=by have:=h.gn; omega
 have he:((s.x.ep:Nat):Int)+1<=((M+1:Nat):Int):=by have:=h.ep; omega
 cases hs with
 | idle=>exact h0
 | ky q hk=>exact h.checkpoint
 | busy q hk hw=>exact h0
 | fail q hk hw hz=>exact h0.disk (tT h0.two hg he rfl)
 | done q x' hk hw hz hx =>
   have h1:Two (dw (M+1)) (ay s.S (fV s q)).2:=tT h0.two hg he rfl;have hm:=Ul hz;rw [<-hx] at hm;have h2:=Va hm;have hgx:((x'.gn:Nat):Int)=((s.x.gn:Nat):Int)+1:=by
    have:=congrArg (λl=>l.getD 0 0) hx;exact this
   have hex:((x'.ep:Nat):Int)=((s.x.ep:Nat):Int)+1:=by
    have:=congrArg (λl=>l.getD 1 0) hx;exact this
   have h3:x'.gn<=M+1:=by omega
   have h4:x'.ep<=M+1:=by omega
   have key:∀ T:St,Two (dw (M+1)) T->dJ (M+1) { s with S:=T,x:=x',L:=x'.log }:=λT hT=>⟨hT,h3,h4,h2⟩
   exact key _ h1
theorem Qi {c:Prop} [Decidable c] {a b:Int × Option Sto × St} (ha:Two (dw M) a.2.2/\∀ s,a.2.1=some s->dJ M s) (hb:Two (dw M) b.2.2/\∀ s,b.2.1=some s->dJ M s) :
 Two (dw M) (if c then a else b).2.2/\∀ s,(if c then a else b).2.1=some s->dJ M s:=by
 split
 · exact ha
 · exact hb
theorem U7 (hg:x.gn<=M) (he:x.ep<=M) (hst:2<=x.log.st) {R V:Int × St} (h1:Two (dw (M+1)) R.2) (h2:Two (dw (M+1)) V.2) :
 Two (dw (M+1)) (if R.1=0 then (if V.1=0 then ((0:Int),some (⟨V.2,x.next.log,x.next,aM,none⟩:Sto),V.2) else (V.1,none,V.2)) else (R.1,none,R.2)).2.2 /\
  ∀ s,(if R.1=0 then (if V.1=0 then ((0:Int),some (⟨V.2,x.next.log,x.next,aM,none⟩:Sto),V.2) else (V.1,none,V.2)) else (R.1,none,R.2)).2.1=some s->dJ (M+1) s :=
 Qi (Qi ⟨h2,λs hs=>by cases hs; exact ⟨h2,Nat.succ_le_succ hg,Nat.succ_le_succ he,hst⟩⟩ ⟨h2,λs hs=>by cases hs⟩) ⟨h1,λs hs=>by cases hs⟩
theorem U8 (hg:x.gn<=M) (he:x.ep<=M) (hst:2<=x.log.st) {R:Int × St} (h1:Two (dw (M+1)) R.2) (h2:Two (dw (M+1)) (ay R.2 x.next.l).2) :
 Two (dw (M+1)) (iJ x R).2.2/\∀ s,(iJ x R).2.1=some s->dJ (M+1) s:=U7 hg he hst h1 h2
theorem MQ (h:Two (dw M) (plain N ag)) (hb:gI N ag=some x.l) (hm:aL x.l (N:Int)=true):Two (dw (M+1)) (iC N ag x).2.2/\∀ s,(iC N ag x).2.1=some s->dJ (M+1) s:=by
 have hl:=NY h hb;have hst:=Va hm;have h0:=h.mono (Q':=dw (M+1)) λ_ hv=>hv.mono (Nat.le_succ M)
 have h1:=JX h0 (aG (bF (plain N ag) x.log.ln x.log).1);have hg:(((x.gn+1:Nat)):Int)<=((M+1:Nat):Int):=by have:=hl.1; omega
 have he:(((x.ep+1:Nat)):Int)<=((M+1:Nat):Int):=by have:=hl.2; omega
 have h2:=tT (l:=x.next.l) h1 hg he rfl;have h3:=U8 (x:=x) hl.1 hl.2 hst h1 h2;unfold iC;exact h3
end
theorem aa4 {x y:Sb} (h:x.l=y.l):x=y:=by
 obtain ⟨a0,a1,a2,a3,a4,a5,a6⟩:=x;obtain ⟨b0,b1,b2,b3,b4,b5,b6⟩:=y;simp only [Sb.l,List.cons.injEq,and_true] at h;obtain ⟨h0,h1,h2,h3,h4,h5,h6⟩:=h
 congr <;> omega
theorem jk.det {s s1 s2:Sto} {tg t1 t2:Option (Int × Int)} {d1 d2:Bool} {e1 e2:Int} (h1:jk s tg d1 e1 s1 t1) (h2:jk s tg d2 e2 s2 t2):d1=d2/\e1=e2/\s1=s2/\t1=t2:=by
 cases h1 with
 | idle=>cases h2; exact ⟨rfl,rfl,rfl,rfl⟩
 | ky q hk =>
   cases h2 with
   | ky _ _=>exact ⟨rfl,rfl,rfl,rfl⟩
   | busy _ h _=>exact absurd h hk
   | fail _ h _ _=>exact absurd h hk
   | done _ _ h _ _ _=>exact absurd h hk
 | busy q hk hw =>
   cases h2 with
   | ky _ h=>exact absurd hk h
   | busy _ _ _=>exact ⟨rfl,rfl,rfl,rfl⟩
   | fail _ _ h _=>rw [h] at hw; cases hw
   | done _ _ _ h _ _=>rw [h] at hw; cases hw
 | fail q hk hw he =>
   cases h2 with
   | ky _ h=>exact absurd hk h
   | busy _ _ h=>rw [hw] at h; cases h
   | fail _ _ _ _=>exact ⟨rfl,rfl,rfl,rfl⟩
   | done _ _ _ _ h _=>exact absurd h he
 | done q x hk hw he hx =>
   cases h2 with
   | ky _ h=>exact absurd hk h
   | busy _ _ h=>rw [hw] at h; cases h
   | fail _ _ _ h=>exact absurd he h
   | done _ y _ _ _ hy =>
     have e:=aa4 (hx.trans hy.symm);subst e;exact ⟨rfl,rfl,rfl,rfl⟩
theorem aaP {N:Nat} {ag:Nat->List Nat} {t:List Int} (h:gI N ag=some t):∃ x:Sb,t=x.l/\aL x.l (N:Int)=true:=by
 have key:∀ i v,sound (N:Int) i v=some t->∃ x:Sb,t=x.l/\aL x.l (N:Int)=true:=λi v hs=>by
  rw [nT,Option.filter_eq_some_iff] at hs;obtain ⟨h1,h2⟩:=hs;have hm:aL t (N:Int)=true:=by
   unfold jX at h2;rw [Bool.and_eq_true] at h2;exact h2.1
  have hl:=(nz h1).2
  match t,hl with
  | [a0,a1,a2,a3,a4,a5,a6],_ =>
    obtain ⟨x,hx⟩:=ML hm;exact ⟨x,hx.symm,by rw [hx]; exact hm⟩
 rcases QE h with h1 | h1
 · exact key _ _ h1
 · exact key _ _ h1
end Go.Proofs.YtinajlbijgedbaaGreat.Sto
