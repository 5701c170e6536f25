/- Texts of this seat's proofs: RefStoFind, RefImgsW. -/
import Derived.Test.YtinajlbijgedbaaGreatQCodecSpec
import Derived.Test.YtinajlbijgedbaaGreatQSupSave
import Derived.Test.YtinajlbijgedbaaGreatQRefLog
import Derived.Test.YtinajlbijgedbaaGreatQLogImgs
set_option maxRecDepth 100000
set_option maxHeartbeats 16000000
namespace Go.Proofs.YtinajlbijgedbaaGreat.RSto
open Lib (hid)
open Go.RowKit CrcMath CodecMath Mem Crc Codec DiskSpec Dsk Sup Log Sto
set_option linter.unusedVariables false
set_option linter.unusedSimpArgs false
theorem NF {l:List ax} {p:Int}:∀ {j:Nat},(∀ i a,i < j->l[i]?=some a->a.1≠p)->∀ {a},l[j]?=some a->a.1=p->nK l p=some a:=by
 induction l with
 | nil=>intro j _ a h; simp at h
 | cons b r ih =>
   intro j hlt a ha he
   cases j with
   | zero =>
     simp at ha
     subst ha;rw [nK,List.find?_cons_of_pos (by simpa using he)]
   | succ j =>
     have hb:=hlt 0 b (by omega) rfl;rw [nK,List.find?_cons_of_neg (by simpa using hb)];exact ih (j:=j) (λi a hi h=>hlt (i+1) a (by omega) h) (by simpa using ha) he
theorem SE {l:List ax} {p:Int} (h:∀ i a,i < l.length->l[i]?=some a->a.1≠p):nK l p=none:=by
 rw [nK,List.find?_eq_none];intro a ha;obtain ⟨i,hi,e⟩:=List.getElem_of_mem ha;have:=h i a hi (by rw [akj hi,e])
 simpa using this
def aen (w:World) (P:Nat->Prop) (l:List ax) (p:Int) (e:Ending) (w':World):Prop :=
 w.grownBy w' none/\((∃ x bv,nK l p=some x/\e=.returned (.tuple #[.agg #[.int .i64 x.2.1,bv],.bool true])/\cO w' P bv x.2.2)\/(nK l p=none/\e=.returned (.tuple #[.agg #[.int .i64 0,.slice none 0 0],.bool false])))
theorem Xx {w:World} {P:Nat->Prop} {A:Option Addr} {n c:Nat} {l:List ax} (h:eG w P A n l) (hP:∀ i,P i->i < w.heap.size) (hn:n<=1099511627776) (p:Int) :
 Calls Tryz.prog 83 #[.slice A n c,.int .i64 p] w (aen w P l p):=by
 have H:=hid h;have HP:=hid hP;have hga:=aj9 w (.cells #[.int .i64 0,.slice none 0 0] 72) none;have HG:=hid hga;have hb:=af.new w 72 #[.int .i64 0,.slice none 0 0];have fD:=hid hb;have HI:=hid ((h.weak (Q:=λi=>P i\/i=w.heap.size) (λi hi hq=>by rcases hq with hq | hq; exact hq; omega)).turn (P':=λi=>P i\/i=w.heap.size) (aa.none_ hga));have HL:=hid h.len;clear h hP hga hb;go_enter Tryz.func83,Tryz.ntmps83
 go_wp2_with fail;generalize yh:w.alloc (.cells #[.int .i64 0,.slice none 0 0] 72)=wa at *;generalize hx:w.heap.size=xb at *
 go_loopw [6] (λi wr=>∃ j:Nat,j<=n/\i=.int .i64 j/\wr=wa/\∀ i a,i < j->l[i]?=some a->a.1≠p) (λi _=>n - (Go.RowKit.intOf i).toNat)
 case atStart=>exact ⟨0,by omega,rfl,rfl,λi a hi=>by omega⟩
 case round =>
  obtain ⟨j,hj,rfl,rfl,hno⟩:=hrel;have bD:=hid hno; clear hno
  by_cases hlt:j < n
  · obtain ⟨g,o,x,Bv,m,c',rfl,hgl,oD,hx,c0,c1,c2,hmc,hbd⟩:=HI.out.at_ hlt;have HX:=hid hx; have Io:=hid hbd;clear hx hbd;obtain ⟨x0,x1,x2⟩:=x;simp only at c0 c1
    by_cases he:x0=p
    · subst he;have f0:=fD.out.frozen 0; have f1:=fD.out.frozen 1;have e0:=fD.out.cell 0; have e1:=fD.out.cell 1;simp only [akb,aka,akc] at e0 e1;have Bb:(x0 == x0)=true:=by simp
      go_wp2_with fail;have hbs:=af.set2 (a0:=.int .i64 x1) (a1:=.slice Bv m c') fD.out;have hgs:wr.grownBy ((wr.setCell ⟨xb,0,none⟩ (.int .i64 x1)).setCell ⟨xb,1,none⟩ (.slice Bv m c')) (some xb):=akd (akd (akr wr (some xb)) 0 _) 1 _;have hgw:w.grownBy ((wr.setCell ⟨xb,0,none⟩ (.int .i64 x1)).setCell ⟨xb,1,none⟩ (.slice Bv m c')) none:=aI HG.out hgs (λq e=>by cases e; omega)
      refine di rfl xb 72 _ _ rfl hbs Tryz.underlying72 rfl (by kernel_rfl) rfl ⟨hgw,.inl ⟨_,.slice Bv m c',NF bD.out HX.out rfl,rfl,?_⟩⟩;exact (cO.turn (P':=λi=>P i\/i=xb) ⟨Bv,m,c',rfl,hmc,Io.out⟩ (aa.aA hgs (λq e=>by cases e; exact .inr rfl))).weak (λi _ hp=>.inl hp)
    · have Bb:(x0 == p)=false:=by simpa using he
      go_wp2_with fail
      go_roundw
      case rel =>
       refine ⟨j+1,by omega,by go_num,by first | exact rfl | trivial,?_⟩;intro i a hi ha
       by_cases e:i=j
       · subst e;rw [HX.out] at ha
         injection ha with ha
         subst ha;exact he
       · exact bD.out i a (by omega) ha
      case measure=>simp [Go.RowKit.intOf]; omega
  · have hjn:j=n:=by omega
    subst hjn;have f0:=fD.out.frozen 0; have f1:=fD.out.frozen 1;have e0:=fD.out.cell 0; have e1:=fD.out.cell 1;simp only [akb,aka,akc] at e0 e1;go_wp2_with fail;have hbs:=af.set2 (a0:=.int .i64 0) (a1:=.slice none 0 0) fD.out;have hgs:wr.grownBy ((wr.setCell ⟨xb,0,none⟩ (.int .i64 0)).setCell ⟨xb,1,none⟩ (.slice none 0 0)) (some xb):=akd (akd (akr wr (some xb)) 0 _) 1 _
    have hgw:w.grownBy ((wr.setCell ⟨xb,0,none⟩ (.int .i64 0)).setCell ⟨xb,1,none⟩ (.slice none 0 0)) none:=aI HG.out hgs (λq e=>by cases e; omega);refine di rfl xb 72 _ _ rfl hbs Tryz.underlying72 rfl (by kernel_rfl) rfl ⟨hgw,.inr ⟨SE (λi a hi ha=>bD.out i a (by have:=HL.out; omega) ha),rfl⟩⟩
end Go.Proofs.YtinajlbijgedbaaGreat.RSto
namespace Go.Proofs.YtinajlbijgedbaaGreat.RSto
open Go.RowKit CrcMath CodecMath Mem Crc Codec DiskSpec Dsk Sup Log RLog Sto
theorem Dy (V W:List (ax × Value)):dM (V ++ W)=dM V ++ dM W:=by simp [dM]
theorem XW {V:List (ax × Value)} {k i:Nat} {u:Value} (h:(dM (V.take k))[i]?=some u):(dM V)[i]?=some u:=by
 have e:dM V=dM (V.take k) ++ dM (V.drop k):=by rw [<-Dy,List.take_append_drop]
 have hl:i < (dM (V.take k)).length:=by
  rcases Nat.lt_or_ge i (dM (V.take k)).length with h1 | h1
  · exact h1
  · rw [List.getElem?_eq_none h1] at h; cases h
 rw [e,List.getElem?_append_left hl];exact h
theorem XX {V:List (ax × Value)} {k i:Nat} {u:Value} (hk:k<=V.length) (h:(dM (V.drop k))[i]?=some u):(dM V)[k * 3+i]?=some u:=by
 have e:dM V=dM (V.take k) ++ dM (V.drop k):=by rw [<-Dy,List.take_append_drop]
 have hl:(dM (V.take k)).length=k * 3:=by rw [IW,aku]; omega
 rw [e,akv (by omega),hl,show k * 3+i - k * 3=i from by omega];exact h
theorem kC {w:World} {P:Nat->Prop} {V:List (ax × Value)} (h:∀ p∈V,cO w P p.2 p.1.2.2):∀ u∈dM V,u.oneCell'=true:=by
 intro u hu;obtain ⟨p,hp,hu⟩:=List.mem_flatMap.1 hu;obtain ⟨A,n,c,e,_⟩:=h p hp
 simp at hu
 rcases hu with rfl | rfl | rfl
 · rfl
 · rfl
 · rw [e]; rfl
theorem Ru {w:World} {g o:Nat} {V:List (ax × Value)} {k:Nat} (hk:k<=V.length) (hg:g < w.heap.size) (hc:∀ j u,(dM V)[j]?=some u->w.cell? ⟨g,o+j,none⟩=some u):Reads w w.heap.size 3 (some ⟨g,o,none⟩) k (dM (V.take k)):=by
 refine ⟨by rw [IW,aku]; omega,λ_=>⟨_,rfl,hg,λj u hu=>?_⟩⟩;have e1:(⟨g,o,none⟩:Addr).add j=⟨g,o+j,none⟩:=by unfold Addr.add; split <;> simp_all
 rw [e1];exact hc j u (XW hu)
theorem Rv {w:World} {g o:Nat} {V:List (ax × Value)} {k m:Nat} (hk:k<=V.length) (hm:m=V.length - k) (hg:g < w.heap.size) (hc:∀ j u,(dM V)[j]?=some u->w.cell? ⟨g,o+j,none⟩=some u):Reads w w.heap.size 3 (some ⟨g,o+k * 3,none⟩) m (dM (V.drop k)):=by
 refine ⟨by rw [IW,List.length_drop]; omega,λ_=>⟨_,rfl,hg,λj u hu=>?_⟩⟩;have e1:(⟨g,o+k * 3,none⟩:Addr).add j=⟨g,o+(k * 3+j),none⟩:=by unfold Addr.add; split <;> simp_all [Nat.add_assoc]
 rw [e1];exact hc _ u (XX hk hu)
def jA (w:World) (P:Nat->Prop) (v:Value) (l:List ax):Prop:=∃ A n c,v=.slice A n c/\n<=c/\c<=maxLen/\(A=none->c=0)/\eG w P A n l
section
variable {w w':World} {P P' Q:Nat->Prop} {v:Value} {l:List ax}
theorem jA.turn (h:jA w P v l) (ht:aa w w' P P'):jA w' P' v l:=by
 obtain ⟨A,n,c,h1,h2,h3,h4,h5⟩:=h;exact ⟨A,n,c,h1,h2,h3,h4,h5.turn ht⟩
theorem jA.weak (h:jA w P v l) (hq:∀ i,i < w.heap.size->Q i->P i):jA w Q v l:=by
 obtain ⟨A,n,c,h1,h2,h3,h4,h5⟩:=h;exact ⟨A,n,c,h1,h2,h3,h4,h5.weak hq⟩
theorem jA.nil (w:World) (P:Nat->Prop):jA w P (.slice none 0 0) []:=⟨none,0,0,rfl,akf _,by simp [maxLen],λ_=>rfl,eG.nil _ _ _⟩
def aem (w:World) (P:Nat->Prop) (l:List ax) (x:ax) (e:Ending) (w':World):Prop:=w.grownBy w' none/\∃ v,e=.returned v/\jA w' P v (jo l x)
theorem wN {wr:World} {base j k m:Nat} {V:List (ax × Value)} {x:ax} {bv:Value} (hV:V.map (·.1)=l) (hb:∀ p∈V,cO wr P p.2 p.1.2.2) (hx:cO wr P bv x.2.2) (hg:wr.grownBy w' none)
 (hown:Own w' base 90 3 v (j+1+m) (dM (V.take j) ++ [.int .i64 x.1,.int .i64 x.2.1,bv] ++ dM (V.drop k))) (hj:j<=V.length) (hm:m=V.length - k) (hP:∀ i,base<=i->¬ P i) (hp:jo l x=l.take j ++ [x] ++ l.drop k):jA w' P v (jo l x):=by
 obtain ⟨A,cap,rfl,h1,h2,h3⟩:=hown.shape;refine ⟨A,j+1+m,cap,rfl,h1,h2,λe=>(h3 e).2,?_⟩;have e:dM (V.take j) ++ [.int .i64 x.1,.int .i64 x.2.1,bv] ++ dM (V.drop k)=dM (V.take j ++ [(x,bv)] ++ V.drop k):=by rw [Dy,Dy]; rfl
 rw [e] at hown;have h:=uy (P:=P) hown (by simp; omega) (λi h4 _=>hP i h4) (λp hp=>by
  rcases List.mem_append.1 hp with hp | hp
  · rcases List.mem_append.1 hp with hp | hp
    · exact (hb p (akq hp)).turn (aa.none_ hg)
    · simp at hp; subst hp; exact hx.turn (aa.none_ hg)
  · exact (hb p (List.mem_of_mem_drop hp)).turn (aa.none_ hg))
 rw [hp,<-hV]
 simpa using h
end
theorem nA {w:World} {P:Nat->Prop} {V:List (ax × Value)} {A:Option Addr} {n j:Nat} (hV:V.length=n) (hc:0 < n->∃ g o,A=some ⟨g,o,none⟩/\g < w.heap.size/\¬ P g/\∀ j u,(dM V)[j]?=some u->w.cell? ⟨g,o+j,none⟩=some u) (hj:j<=n):Reads w w.heap.size 3 A j (dM (V.take j)):=by
 by_cases h0:j=0
 · subst h0;exact ⟨rfl,λh=>absurd h (by omega)⟩
 · obtain ⟨g,o,rfl,h1,_,h3⟩:=hc (by omega);exact Ru (by omega) h1 h3
theorem Ea {w:World} {P:Nat->Prop} {V:List (ax × Value)} {g o n k:Nat} (hV:V.length=n) (hc:0 < n->∃ g' o',(some ⟨g,o,none⟩:Option Addr)=some ⟨g',o',none⟩/\g' < w.heap.size/\¬ P g'/\∀ j u,(dM V)[j]?=some u->w.cell? ⟨g',o'+j,none⟩=some u) (h0:0 < n) (hk:k<=n) {wx:World} (hg:w.grownBy wx none):Reads wx wx.heap.size 3 (some ⟨g,o+k * 3,none⟩) (n - k) (dM (V.drop k)):=by
 obtain ⟨g',o',e,h1,_,h3⟩:=hc h0
 injection e with e
 injection e with e1 e2 _
 subst e1 e2;refine Rv (by omega) (by omega) (ake h1 hg.size) (λj u hu=>?_);rw [aki (a:=⟨g,o+j,none⟩) (hg.block g h1 (by simp))];exact h3 j u hu
end Go.Proofs.YtinajlbijgedbaaGreat.RSto
