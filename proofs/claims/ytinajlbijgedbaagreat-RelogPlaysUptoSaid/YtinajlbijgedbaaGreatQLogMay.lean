/- Texts of this seat's proofs: LogMay, LogRecord, LogWrite, LogAppend, LogRead, StoMem. -/
import Derived.Test.YtinajlbijgedbaaGreatQLogSmall
import Derived.Test.YtinajlbijgedbaaGreatQCodecPage
import Derived.Test.YtinajlbijgedbaaGreatQCodecSpec
import Derived.Deep.RegionHeld3
import Derived.ArgAppend
import Derived.Deep.DeepCutAuto
set_option maxRecDepth 100000
set_option maxHeartbeats 16000000
namespace Go.Proofs.YtinajlbijgedbaaGreat.Log
open Lib (hid)
open Go.RowKit CrcMath CodecMath Mem Crc Codec DiskSpec Dsk Sup
theorem Xa (w:World):(zeroValue 217).run Tryz.prog w=.ok (.agg (Array.replicate 1024 (.bool false))) w:=by kernel_rfl
structure pE (w wr:World) (g b tb:Nat) (L:Lg) (A:Option Addr) (n:Nat) (l:List ax) (j:Nat):Prop where
 gr:w.grownBy wr (some tb)
 t:mX wr tb
 r:(Ready w tb\/0 < j)->Ready wr tb
 lb:dS wr g L b tb
 im:eG wr (From (·=tb) w.heap.size) A n l
 sn:∃ cs,af wr w.heap.size 217 cs/\∀ k:Nat,k < 1024->cs[k]?=some (.bool ((iZ l j).contains (k:Int)))
 ne:g≠tb
 lt:tb < w.heap.size
theorem pE.quiet {w wr w':World} {g b tb:Nat} {L:Lg} {A:Option Addr} {n:Nat} {l:List ax} {j:Nat} (h:pE w wr g b tb L A n l j) (hg:wr.grownBy w' none):pE w w' g b tb L A n l j :=
 ⟨h.gr.trans (bW hg (some tb)),kZ h.t hg (by simp),λhr=>(h.r hr).keep hg (by simp),h.lb.grown hg (by simp),h.im.turn (aa.none_ hg),by
  obtain ⟨cs,h1,h2⟩:=h.sn;exact ⟨cs,h1.grown hg (by simp),h2⟩,h.ne,h.lt⟩
theorem pE.table {w wr w':World} {g b tb:Nat} {L:Lg} {A:Option Addr} {n:Nat} {l:List ax} {j:Nat} (h:pE w wr g b tb L A n l j) (hg:wr.grownBy w' (some tb)) (hr:Ready w' tb):pE w w' g b tb L A n l j :=
 ⟨h.gr.trans hg,.inr hr,λ_=>hr,h.lb.grown hg (by simpa using h.ne),h.im.turn (aa.aA hg (λ_ e=>by cases e; exact .inl rfl)),by
  obtain ⟨cs,h1,h2⟩:=h.sn;exact ⟨cs,h1.grown hg (by have:=h.lt; simp; omega),h2⟩,h.ne,h.lt⟩
theorem pE.cell {w wr:World} {g b tb:Nat} {L:Lg} {A:Option Addr} {n:Nat} {l:List ax} {j:Nat} (h:pE w wr g b tb L A n l j) (k:Nat) (hk:k < 1024) :
 wr.cell? ⟨w.heap.size,k,none⟩=some (.bool ((iZ l j).contains (k:Int)))/\wr.frozen? ⟨w.heap.size,k,none⟩=false:=by
 obtain ⟨cs,h1,h2⟩:=h.sn;exact ⟨by rw [h1.cell]; exact h2 k hk,h1.frozen k⟩
theorem pE.see {w wr:World} {g b tb:Nat} {L:Lg} {A:Option Addr} {n:Nat} {l:List ax} {j:Nat} (h:pE w wr g b tb L A n l j) (k:Nat) {x:ax} (hx:l[j]?=some x) (hxk:x.1=(k:Int)) (hk:k < 1024) (hr:Ready wr tb) (hg0:g < w.heap.size) :
 pE w (wr.setCell ⟨w.heap.size,k,none⟩ (.bool true)) g b tb L A n l (j+1):=by
 obtain ⟨cs,h1,h2⟩:=h.sn;have hg:wr.grownBy (wr.setCell ⟨w.heap.size,k,none⟩ (.bool true)) (some w.heap.size):=akd (akr wr _) k _;have hlt:=h.lt;have hr':Ready (wr.setCell ⟨w.heap.size,k,none⟩ (.bool true)) tb:=hr.keep hg (by simp; omega);refine ⟨aI h.gr hg (λ_ e=>by cases e; exact akf _),.inr hr',λ_=>hr',h.lb.grown hg (by simp; omega),h.im.turn (aa.aA hg (λ_ e=>by cases e; exact .inr (akf _))),⟨_,h1.aC k _,λq hq=>?_⟩,h.ne,hlt⟩
 · rw [DX l hx,hxk];have hks:k < cs.size:=by
    rcases Nat.lt_or_ge k cs.size with h3 | h3
    · exact h3
    · have:=h2 k hk; rw [Array.getElem?_eq_none h3] at this; cases this
   by_cases e:k=q
   · subst e;rw [Array.getElem?_setIfInBounds_self_of_lt hks]
     simp
   · rw [akn e,h2 q hq]
     simp
     intro hh;omega
theorem aaB {w:World} {g b tb:Nat} {L:Lg} (A:Option Addr) (n c:Nat) (l:List ax) (hlb:dS w g L b tb) (ht:mX w tb) (him:eG w (·=tb) A n l) (hne:g≠tb) (hn:n<=1099511627776) :
 Calls Tryz.prog 141 #[.pointer (some ⟨g,0,none⟩),.slice A n c] w λe w'=>e=.returned (.bool (eF [] l))/\w.grownBy w' (some tb)/\mX w' tb/\(Ready w tb->Ready w' tb)/\(eF [] l=true->0 < n->Ready w' tb):=by
 have hz:=Xa;have hlen:=him.len;have agj:=hlb.lt;have H0:=hid (show pE w (w.alloc (.cells (Array.replicate 1024 (.bool false)) 217)) g b tb L A n l 0 from by
  have hg:=aj9 w (.cells (Array.replicate 1024 (.bool false)) 217) none;refine ⟨bW hg _,kZ ht hg (by simp),λhr=>?_,hlb.grown hg (by simp),(him.from_ _ (akf _)).turn (aa.none_ hg),⟨_,af.new w _ _,λk hk=>?_⟩,hne,rM ht⟩
  · rcases hr with hr | hr
    · exact hr.keep hg (by simp)
    · omega
  · rw [Array.getElem?_replicate,if_pos hk]; rfl)
 have HLEN:=hid hlen;clear hlb ht him hlen;generalize Array.replicate 1024 (Value.bool false)=zs at *;go_enter Tryz.func141,Tryz.ntmps141;go_wp2_with fail
 go_loopw [12] (λi wr=>∃ j:Nat,j<=n/\i=.int .i64 j/\pE w wr g b tb L A n l j/\eF [] l=eF (iZ l j) (l.drop j)) (λi _=>n - (Go.RowKit.intOf i).toNat)
 case atStart=>exact ⟨0,aks _,rfl,H0.out,rfl⟩
 case round =>
  clear H0 hz;obtain ⟨j,hj,rfl,hm,hmw⟩:=hrel;have HM:=hid hm;have yC:=hid hmw;clear hm hmw
  by_cases hlt:j < n
  · have hjn:(j:Int) < (n:Int):=by omega
    obtain ⟨gi,o,⟨x1,x2,x3⟩,Bx,mx,cx,rfl,hgi,hno,hx,e0,e1,e2,hmc,kT⟩:=HM.out.im.at_ hlt
    dsimp only at e0 e1 e2 kT
    have hstep:=JV l hx;have HX:=hid hx;have WJ:=hid (HM.out.quiet (aj9 wr (.cells #[.int .i64 x1,.int .i64 x2,.slice Bx mx cx] 90) none));have zM:=hid (pz (b:=tb) (Dsk.Data.turn kT (aa.none_ (aj9 wr (.cells #[.int .i64 x1,.int .i64 x2,.slice Bx mx cx] 90) none))) (.inl rfl));have jR:=hid (af.new wr 90 #[.int .i64 x1,.int .i64 x2,.slice Bx mx cx]);clear hno hx hmc kT
    have HGL:=hid (show g < w.heap.size from agj);go_wp2_with fail;generalize wr.alloc (.cells #[.int .i64 x1,.int .i64 x2,.slice Bx mx cx] 90)=wq at WJ zM jR ⊢;have hkeep:∀ wx,wq.grownBy wx (some tb)->wx.cell? ⟨g,1,none⟩=some (.pointer (some ⟨tb,0,none⟩))/\wx.cell? ⟨wr.heap.size,0,none⟩=some (.int .i64 x1)/\wx.cell? ⟨wr.heap.size,1,none⟩=some (.int .i64 x2)/\wx.cell? ⟨wr.heap.size,2,none⟩=some (.slice Bx mx cx):=by
     intro wx hg;have hb:=jR.out.grown hg (by have:=HM.out.lt; have:=HM.out.gr.size; simp; omega);have hl:=(WJ.out.lb.grown hg (by simpa using HM.out.ne)).cells;exact ⟨hl.2.1,by rw [hb.cell]; rfl,by rw [hb.cell]; rfl,by rw [hb.cell]; rfl⟩
    have av:=hid hkeep;have HD0:=hid (ah wq (some tb));have HST:=hid hstep;have pJ:=hid (λwx (hg:wq.grownBy wx none)=>vF tb tb (some tb) x1 x2 Bx mx cx x3 wx (.inr ⟨kZ WJ.out.t hg (by simp),rfl⟩) (zM.out.keep (bW hg _)));clear hkeep hstep e0 e1 e2 hjn
    cases yj:bU (x1,x2,x3) with
    | false =>
      have bD:=hid (show eF [] l=false by rw [yC.out,HST.out,yj]; rfl);have xJ:=hid (show ed x1 x2 x3=none by rw [ed,show bA x1 x2 x3=false from yj]; rfl);clear yj
      go_region_held3 (λwx=>wx.cell? ⟨g,1,none⟩=some (.pointer (some ⟨tb,0,none⟩))/\wx.cell? ⟨wr.heap.size,0,none⟩=some (.int .i64 x1)/\wx.cell? ⟨wr.heap.size,1,none⟩=some (.int .i64 x2)/\wx.cell? ⟨wr.heap.size,2,none⟩=some (.slice Bx mx cx))
       (first
         | exact av.out _ HD0.out
         | exact av.out _ az.out)
       (first
         | (go_at_call 59
            refine (pJ.out _ (ah wq none)).mono ?_;rintro e w3 ⟨hg3,⟨_,_,ho,_⟩ | ⟨_,rfl,hgn⟩⟩
            case inl=>rw [xJ.out] at ho; cases ho
            have OH:=hid ((ah wq none).trans hgn);have az:=hid (bW OH.out (some tb));clear hg3 hgn))
      go_wp2_with fail;go_ret;have hq:=WJ.out.quiet OH.out;exact ⟨by rw [bD.out]; rfl,hq.gr,hq.t,λhr=>hq.r (.inl hr),λh=>by rw [bD.out] at h; cases h⟩
    | true =>
      obtain ⟨_,⟨hx0,hx1⟩,_,_⟩:=eO yj
      dsimp only at hx0 hx1
      have xJ:=hid (show ed x1 x2 x3=some (frame (cZ x1 x2 x3)) by rw [ed,show bA x1 x2 x3=true from yj]; rfl);obtain ⟨k,rfl⟩:=Int.eq_ofNat_of_zero_le hx0;have hk:k < 1024:=by omega
      have HIO:=hid yj;clear yj hx0 hx1
      go_region_held3 (λwx=>wx.cell? ⟨g,1,none⟩=some (.pointer (some ⟨tb,0,none⟩))/\wx.cell? ⟨wr.heap.size,0,none⟩=some (.int .i64 (k:Nat))/\wx.cell? ⟨wr.heap.size,1,none⟩=some (.int .i64 x2)/\wx.cell? ⟨wr.heap.size,2,none⟩=some (.slice Bx mx cx))
       (first
         | exact av.out _ HD0.out
         | exact av.out _ az.out)
       (first
         | (go_at_call 59
            refine (pJ.out _ (ah wq none)).mono ?_;rintro e w3 ⟨hg3,⟨lp,gp,ho,rfl,_,_,_,hr3⟩ | ⟨ho,_⟩⟩
            case inr=>rw [xJ.out] at ho; cases ho
            have az:=hid (HD0.out.trans hg3);have HR3:=hid hr3;clear hg3 ho hr3))
      have qo:=hid (WJ.out.table az.out HR3.out);obtain ⟨hsc,hsf⟩:=qo.out.cell k hk;obtain ⟨_,y0,_,_⟩:=av.out _ az.out
      cases hse:(iZ l j).contains (k:Int) with
      | true =>
        rw [hse] at hsc;have bD:=hid (show eF [] l=false by rw [yC.out,HST.out,HIO.out]; simp only [hse]; rfl);clear hse;go_wp2_with fail;go_ret;exact ⟨by rw [bD.out]; rfl,qo.out.gr,qo.out.t,λhr=>HR3.out,λ_ _=>HR3.out⟩
      | false =>
        rw [hse] at hsc;have HYS:=hid (show eF [] l=eF (iZ l (j+1)) (l.drop (j+1)) by rw [yC.out,HST.out,HIO.out]; simp only [hse]; rfl);clear hse;have vg:=hid (qo.out.see k HX.out rfl hk HR3.out HGL.out);go_wp2_with fail
        go_roundw
        case rel=>exact ⟨j+1,by omega,by go_num,vg.out,HYS.out⟩
        case measure=>simp [Go.RowKit.intOf]; omega
  · obtain rfl:j=n:=by omega
    go_wp2;go_ret;have he:=MM l;rw [HLEN.out,<-yC.out] at he;exact ⟨by rw [he]; rfl,HM.out.gr,HM.out.t,λhr=>HM.out.r (.inl hr),λ_ h0=>HM.out.r (.inr h0)⟩
section
variable {P:Program} (w:World)
theorem DJ {ops:Array Oper} {rest:List Oper} {o:Oper} {a:Act} {Q:Exit->Act->World->Prop} (hgd:o.guard=none) (s x:Operand) (t:TypeId)
 (ho:o.op=.call { callee:=.builtin .append,args:=#[s,x],argTypes:=#[t,t] })
 (e:TypeId) (i:TypeInfo) (z:Value) (size bytes:Nat) (ht:P.underlying t=some (.slice e)) (hi:P.info? e=some i) (hz:i.zero=some z)
 (hsize:i.size=size) (hby:i.bytes=bytes) (hzs:z.cells.size=size) (hsz:0 < size)
 (b:Addr) (n cap:Nat) (olds:List Value) (hs:a.eval s=.slice (some b) n cap) (hol:olds.length=n * size) (hoc:∀ j u,olds[j]?=some u->w.cell? (b.add j)=some u)
 (ad:Addr) (m c:Nat) (news:List Value) (hx:a.eval x=.slice (some ad) m c) (hnl:news.length=m * size) (hnc:∀ j u,news[j]?=some u->w.cell? (ad.add j)=some u)
 (hcap:cap < n+m) (h63:n+m<=maxLen) (hbytes:(n+m) * bytes<=140737488355328)
 (h:∀ v' w',w'.ownsRow w.heap.size e size v' (n+m) (olds ++ news)->w.grownBy w' none->wpList P ops Q rest (a.put o.dst v') w'):wpList P ops Q (o :: rest) a w:=by
 refine wpList_plain hgd λK hK=>?_
 obtain ⟨v',w',hrun,h2,h3⟩:=run_append_arg_grows (P:=P) w t o.type e i z size bytes ht hi hz hsize hby hzs hsz b n cap olds hol hoc ad m c news hnl hnc hcap h63 hbytes;unfold Oper.wp execOp;simp only [ho,resolve,invoke,builtin,Sem.run_bind,Sem.run_pure,Result.andThen_ok,List.map_toArray,List.map_cons,List.map_nil,hs,hx,hrun];exact hK _ _ (h v' w' h2 h3)
end
theorem addr_add (g j:Nat):(⟨g,0,none⟩:Addr).add j=⟨g,j,none⟩:=by unfold Addr.add; split <;> simp_all
def aeo (w:World) (l:List Nat) (e:Ending) (w':World):Prop :=
 w.grownBy w' none/\∃ g cap,e=.returned (.tuple #[.slice (some ⟨g,0,none⟩) l.length cap,.int .i64 0])/\w.heap.size<=g/\g < w'.heap.size/\l.length<=cap/\cap<=maxLen/\∀ j u,(au l)[j]?=some u->w'.cell? ⟨g,j,none⟩=some u
theorem JC {l:List ax} (h:∀ x∈l,bU x=true) {j:Nat} {x:ax} (hx:l[j]?=some x):bU x=true:=h x (akx hx)
structure uG (w wr:World) (g b tb:Nat) (L:Lg) (A:Option Addr) (n:Nat) (l:List ax) (vn vs:Value) (j:Nat):Prop where
 gr:w.grownBy wr none
 r:Ready wr tb
 lb:dS wr g L b tb
 im:eG wr (From (·=tb) w.heap.size) A n l
 nn:Own wr w.heap.size 3 1 vn j (lW (oo (l.take j)))
 ss:Own wr w.heap.size 5 1 vs (256 * j) (au (eT L.ep L.seq (l.take j)))
 ne:∀ q,vn.ownBlock=some q->vs.ownBlock≠some q
 lo:g < w.heap.size/\tb < w.heap.size
section
variable {w wr w':World} {g b tb:Nat} {L:Lg} {A:Option Addr} {n:Nat} {l:List ax} {vn vs:Value} {j:Nat}
theorem uG.quiet (h:uG w wr g b tb L A n l vn vs j) (hg:wr.grownBy w' none):uG w w' g b tb L A n l vn vs j :=
 ⟨h.gr.trans hg,h.r.keep hg (by simp),h.lb.grown hg (by simp),h.im.turn (aa.none_ hg),h.nn.keep hg (λ_ _=>by simp),h.ss.keep hg (λ_ _=>by simp),h.ne,h.lo⟩
theorem uG.rows (h:uG w wr g b tb L A n l vn vs j) {row:Option Nat} (hg:wr.grownBy w' row) (hr:∀ q,row=some q->w.heap.size<=q):w.grownBy w' none/\Ready w' tb/\dS w' g L b tb/\eG w' (From (·=tb) w.heap.size) A n l:=by
 have hlo:=h.lo;refine ⟨aI h.gr hg hr,h.r.keep hg ?_,h.lb.grown hg ?_,h.im.turn (aa.aA hg (λq e=>.inr (hr q e)))⟩
 · intro e;have:=hr tb e.symm;omega
 · intro e;have:=hr g e.symm;omega
end
theorem JJ {w:World} {gp n:Nat} {t:TypeId} {l:List Nat} (h:af w gp t (au l).toArray) (hl:l.length=n):Reads w w.heap.size 1 (some ⟨gp,0,none⟩) n (au l):=by
 refine ⟨by rw [aB,hl,Nat.mul_one],λ_=>⟨_,rfl,h.lt,λj u hu=>?_⟩⟩;rw [addr_add,h.cell,akb];exact hu
theorem uG.next {w w3 w4 w5:World} {g b tb:Nat} {L:Lg} {A:Option Addr} {n:Nat} {l:List ax} {vn vs v1 v2:Value} {j:Nat} (h:uG w w3 g b tb L A n l vn vs j) {x:ax} (hx:l[j]?=some x) {o:Obj}
 (h1:Own w4 w.heap.size 3 1 v1 (j+1) (lW (oo (l.take j)) ++ [.int .i64 x.1])) (g1:bS (w3.alloc o) w4 vn v1)
 (h2:Own w5 w.heap.size 5 1 v2 (256 * j+256) (au (eT L.ep L.seq (l.take j)) ++ au (lu L.ep L.seq x))) (g2:bS w4 w5 vs v2):uG w w5 g b tb L A n l v1 v2 (j+1):=by
 have hq:=h.quiet (aj9 w3 o none);obtain ⟨a1,a2,a3,a4⟩:=hq.rows g1.1 (λq e=>(h.nn.bH q e).1);have hss:=hq.ss.keep g1.1 (λq e1 e2=>hq.ne q e2 e1);have hlo:=h.lo;have hb:∀ q,vs.ownBlock=some q->w.heap.size<=q:=λq e=>(h.ss.bH q e).1
 refine ⟨aI a1 g2.1 hb,a2.keep g2.1 (λe=>by have:=hb tb e.symm; omega),a3.grown g2.1 (λe=>by have:=hb g e.symm; omega),a4.turn (aa.aA g2.1 (λq e=>.inr (hb q e))),?_,?_,?_,hlo⟩
 · rw [MI l hx,uz];refine h1.keep g2.1 (λq e1 e2=>?_);rcases g1.2 q e1 with h3 | h3
   · exact h.ne q h3 e2
   · have:=(hq.ss.bH q e2).2;omega
 · rw [Ap _ _ l hx,dH,Nat.mul_succ];exact h2
 · intro q e1 e2;have h4:=(h1.bH q e1).2;rcases g2.2 q e2 with h3 | h3
   · rcases g1.2 q e1 with h5 | h5
     · exact h.ne q h5 h3
     · have:=(hq.ss.bH q h3).2;omega
   · omega
theorem Cf {w:World} {base n b:Nat} {v:Value} {l:List Nat} (h:Own w base 5 1 v n (au l)) (hl:∀ x∈l,x < 256) (hb:b < base) (h0:0 < n) :
 ∃ g cap,v=.slice (some ⟨g,0,none⟩) n cap/\base<=g/\g < w.heap.size/\n<=cap/\cap<=maxLen/\(∀ j u,(au l)[j]?=some u->w.cell? ⟨g,j,none⟩=some u)/\Bytes w b (some ⟨g,0,none⟩) n l:=by
 obtain ⟨g,cap,hv,h1,h2,h3,h4,h5⟩:=h.reads h0;have hlen:=h.len;rw [aB,Nat.mul_one] at hlen;refine ⟨g,cap,hv,h1,h2,h3,h4,h5,hlen,hl,λ_=>⟨g,0,rfl,h2,by omega,λj hj=>?_⟩⟩;rw [Nat.zero_add];exact h5 _ _ (fT l j (by omega))
theorem RV {w:World} {g b tb:Nat} {L:Lg} (A:Option Addr) (n c:Nat) (l:List ax) (hlb:dS w g L b tb) (hR:Ready w tb) (him:eG w (·=tb) A n l)
 (hok:∀ x∈l,bU x=true) (h1:1<=n) (gB:n<=40) (fG:L.ep<=4294967295) (mf:L.seq<=1099511627775) :
 Calls Tryz.prog 142 #[.pointer (some ⟨g,0,none⟩),.slice A n c] w (aeo w (bR L.ep L.seq l)):=by
 have HLEN:=hid him.len;obtain ⟨i0,hi0,hz0,hz1,hz2⟩:=info_parts Codec.qI;obtain ⟨k0,hk0,hy0,hy1,hy2⟩:=info_parts gD;have hi:=hid hi0; have z0:=hid hz0; have z1:=hid hz1; have z2:=hid hz2;have hk:=hid hk0; have y0:=hid hy0; have y1:=hid hy1; have y2:=hid hy2;have H0:=hid (show uG w w g b tb L A n l (.slice none 0 0) (.slice none 0 0) 0 from
  ⟨akr w none,hR,hlb,him.from_ _ (akf _),Own.nil _ _ _ _,Own.nil _ _ _ _,λq h=>by simp [Value.ownBlock] at h,hlb.lt,by obtain ⟨_,h,_⟩:=hR; exact h.lt⟩)
 have aU:=hid hok; have EZ:=hid fG; have CR:=hid mf;clear hlb hR him hok hi0 hz0 hz1 hz2 hk0 hy0 hy1 hy2 fG mf;go_enter Tryz.func142,Tryz.ntmps142;go_wp2_with fail
 go_loopw [6,7,16] (λvn vs i wr=>∃ j:Nat,j<=n/\i=.int .i64 j/\uG w wr g b tb L A n l vn vs j) (λ_ _ i _=>n - (Go.RowKit.intOf i).toNat)
 case atStart=>exact ⟨0,aks _,rfl,H0.out⟩
 case round =>
  clear H0;obtain ⟨j,hj,rfl,hr⟩:=hrel;have HR:=hid hr;clear hr
  by_cases hlt:j < n
  · have hjn:(j:Int) < (n:Int):=by omega
    obtain ⟨gi,o,⟨x1,x2,x3⟩,Bx,mx,cx,rfl,hgi,hno,hx,e0,e1,e2,hmc,kT⟩:=HR.out.im.at_ hlt
    dsimp only at e0 e1 e2 kT
    have hxo:=JC aU.out hx;have HX:=hid hx;have WO:=hid (zw hxo EZ.out CR.out);have HIL:=hid (xu (ep:=L.ep) (sq:=L.seq) hxo);have hx1:=(eO hxo).2.1
    dsimp only at hx1
    have hga:=aj9 wr (.cells #[.int .i64 x1,.int .i64 x2,.slice Bx mx cx] 90) none;have rE:=hid (HR.out.quiet hga);have zM:=hid (pz (b:=tb) (Dsk.Data.turn kT (aa.none_ hga)) (.inl rfl));have jR:=hid (af.new wr 90 #[.int .i64 x1,.int .i64 x2,.slice Bx mx cx]);clear hno hx hmc kT hxo hga;go_wp2_with fail;generalize wr.alloc (.cells #[.int .i64 x1,.int .i64 x2,.slice Bx mx cx] 90)=wq at rE zM jR ⊢
    have hkeep:∀ wx,wq.grownBy wx none->wx.cell? ⟨g,1,none⟩=some (.pointer (some ⟨tb,0,none⟩))/\wx.cell? ⟨g,3,none⟩=some (.int .i64 (L.ep:Nat))/\wx.cell? ⟨g,10,none⟩=some (.int .i64 (L.seq:Nat))/\wx.cell? ⟨wr.heap.size,0,none⟩=some (.int .i64 x1)/\wx.cell? ⟨wr.heap.size,1,none⟩=some (.int .i64 x2)/\wx.cell? ⟨wr.heap.size,2,none⟩=some (.slice Bx mx cx):=by
     intro wx hg;have hb:=jR.out.grown hg (by simp);obtain ⟨_,c1,c3,_,_,_,c10,_,_⟩:=(rE.out.lb.grown hg (by simp)).cells;exact ⟨c1,c3,c10,by rw [hb.cell]; rfl,by rw [hb.cell]; rfl,by rw [hb.cell]; rfl⟩
    have av:=hid hkeep;have HD0:=hid (ah wq none);have pJ:=hid (λwx (hg:wq.grownBy wx none)=>yn tb tb (L.ep:Nat) (L.seq:Nat) x1 x2 Bx mx cx x3 wx (rE.out.r.keep hg (by simp)) (zM.out.keep (bW hg _)));clear hkeep e0 e1 e2
    go_region_held3 (λwx=>wx.cell? ⟨g,1,none⟩=some (.pointer (some ⟨tb,0,none⟩))/\wx.cell? ⟨g,3,none⟩=some (.int .i64 (L.ep:Nat))/\wx.cell? ⟨g,10,none⟩=some (.int .i64 (L.seq:Nat))/\wx.cell? ⟨wr.heap.size,0,none⟩=some (.int .i64 x1)/\wx.cell? ⟨wr.heap.size,1,none⟩=some (.int .i64 x2)/\wx.cell? ⟨wr.heap.size,2,none⟩=some (.slice Bx mx cx))
     (first
       | exact av.out _ HD0.out
       | exact av.out _ az.out)
     (first
       | (go_at_call 164
          refine (pJ.out _ HD0.out).mono ?_;rintro e w3 ⟨hg3,⟨lp,gp,ho,rfl,oD,hbp,hlp⟩ | ⟨ho,_⟩⟩
          case inr=>rw [WO.out] at ho; cases ho
          have az:=hid (HD0.out.trans hg3);have hle:=WO.out.symm.trans ho
          injection hle with hle
          have sM:=hid hle;have OP:=hid hbp;have Ij:=hid oD;have HLP:=hid hlp;clear hg3 ho hbp oD hle hlp))
    have j6:lp.length=256:=by rw [<-sM.out]; exact HIL.out
    have Lr:=hid j6;rw [j6];have HR3:=hid (rE.out.quiet az.out);obtain ⟨_,_,_,q0,_,_⟩:=av.out _ az.out;clear j6 av pJ zM;have rG:=hid (show ∀ (o:Obj) (w4:World) (v1:Value),bS (w3.alloc o) w4 u6 v1->af w4 gp 140 (au lp).toArray from λo w4 v1 hg=>(OP.out.alloc o).grown hg.1 (λe=>by have:=(rE.out.nn.bH gp e.symm).2; have:=Ij.out; simp at this; omega))
    go_wp2_with (first
     | (at_builtin
        refine ai _ rfl (.tmp 41) (.tmp 44) _ rfl w.heap.size 3 i0 _ 1 8 Tryz.underlying45 hi.out z0.out z1.out z2.out rfl (by omega) _ j _ rfl (HR3.out.nn.alloc _)
         _ _ 1 1 _ rfl (qz _ _) (λu hu=>by simp at hu; subst hu; rfl) (by simp only [maxLen]; omega) (by omega) (by have:=HR3.out.gr.size; simp; omega) ?_
        intro v1 w4 hown1 iL;have dZ:=hid hown1; have cB:=hid iL; clear hown1 iL)
     | (at_builtin
        refine ai _ rfl (.tmp 46) (.tmp 47) _ rfl w.heap.size 5 k0 _ 1 1 Tryz.underlying65 hk.out y0.out y1.out y2.out rfl (by omega) _ (256 * j) _ rfl ((HR3.out.ss.alloc _).keep cB.out.1 (λq hq e=>HR3.out.ne q e hq))
         _ _ 256 256 _ rfl (JJ (rG.out _ _ _ cB.out) Lr.out) (fO _) (by simp only [maxLen]; omega) (by omega) (by have:=HR3.out.gr.size; have:=cB.out.1.size; simp at this; omega) ?_
        intro v2 w5 hown2 jr;have lM:=hid hown2; have fP:=hid jr; clear hown2 jr))
    have ho2:=lM.out;rw [<-sM.out] at ho2;have HN:=hid (HR3.out.next HX.out dZ.out cB.out ho2 fP.out);clear ho2 dZ lM cB fP HR3 rE
    go_roundw
    case rel=>exact ⟨j+1,by omega,by go_num,HN.out⟩
    case measure=>simp [Go.RowKit.intOf]; omega
  · obtain rfl:j=n:=by omega
    have hln:=HLEN.out;have htk:l.take j=l:=akk (by omega);have hnn:=HR.out.nn;have hss:=HR.out.ss;rw [htk] at hnn hss;obtain ⟨An,cn,rfl,hin,_,_⟩:=wZ hnn (λy hy=>by
     obtain ⟨x,hx,rfl⟩:=List.mem_map.1 hy;have:=(eO (aU.out x hx)).2.1;omega)
    obtain ⟨gs,cs,rfl,hgs,hgl,hsc,hcm,hcl,hby⟩:=Cf hss (Fx _ _ aU.out) HR.out.lo.2 (by omega);have pM:=hid hin; have iG:=hid hby;have HLS:=hid (uP L.ep L.seq aU.out);have HHL:=hid (q8 (ep:=L.ep) (sq:=L.seq) (l:=l) (by omega));have WR:=hid (Av (ep:=L.ep) (sq:=L.seq) aU.out (by omega) (by omega) EZ.out (by have:=CR.out; omega) _ rfl);have hm:=Jf 0 (eT L.ep L.seq l);have Q3:=hid hm;have hkeep:∀ wx,wr.grownBy wx none->wx.cell? ⟨g,1,none⟩=some (.pointer (some ⟨tb,0,none⟩))/\wx.cell? ⟨g,3,none⟩=some (.int .i64 (L.ep:Nat))/\wx.cell? ⟨g,10,none⟩=some (.int .i64 (L.seq:Nat)):=by
     intro wx hg;obtain ⟨_,c1,c3,_,_,_,c10,_,_⟩:=(HR.out.lb.grown hg (by simp)).cells;exact ⟨c1,c3,c10⟩
    have av:=hid hkeep;have HD0:=hid (ah wr none);have vL:=hid (λwx (hg:wr.grownBy wx none)=>Jq tb (some ⟨gs,0,none⟩) (256 * j) cs (eT L.ep L.seq l) wx (HR.out.r.keep hg (by simp)) (iG.out.keep (bW hg _)) (by omega));have WI:=hid (λwx (hg:wr.grownBy wx none)=>zB tb wr.heap.size (L.ep:Nat) (L.seq:Nat) An j cn (oo l) (M 0 (eT L.ep L.seq l)) wx (HR.out.r.keep hg (by simp)) (kN pM.out hg (.inl rfl)) (by omega) Q3.out)
    have HCL:=hid hcl;have Ii:=hid hgl;clear hm hkeep hin hby hnn hss htk hln hcl;go_wp2_with fail
    go_region_held3 (λwx=>wx.cell? ⟨g,1,none⟩=some (.pointer (some ⟨tb,0,none⟩))/\wx.cell? ⟨g,3,none⟩=some (.int .i64 (L.ep:Nat))/\wx.cell? ⟨g,10,none⟩=some (.int .i64 (L.seq:Nat)))
     (first
       | exact av.out _ HD0.out
       | exact av.out _ az.out)
     (first
       | (go_at_call 140
          refine (vL.out _ HD0.out).mono ?_;rintro e w2 ⟨rfl,rfl⟩)
       | (go_at_call 165
          refine (WI.out _ HD0.out).mono ?_;rintro e w3 ⟨hg3,⟨lp,gp,ho,rfl,oD,hbp,hlp⟩ | ⟨ho,_⟩⟩
          case inr=>rw [WR.out] at ho; cases ho
          have az:=hid (HD0.out.trans hg3);have hle:=WR.out.symm.trans ho
          injection hle with hle
          have sM:=hid hle;have OP:=hid hbp;clear hg3 ho hbp oD hle hlp))
    have j6:lp.length=256:=by rw [<-sM.out]; exact HHL.out
    have Lr:=hid j6;rw [j6];have pQ:=hid (λq u (hu:(au (eT L.ep L.seq l))[q]?=some u)=>(aki (a:=⟨gs,q,none⟩) (az.out.block gs Ii.out (by simp))).trans (HCL.out q u hu));clear j6 av vL WI
    go_wp2_with (at_builtin
                 refine DJ _ rfl (.tmp 78) (.tmp 79) _ rfl 5 k0 _ 1 1 Tryz.underlying65 hk.out y0.out y1.out y2.out rfl (by omega) ⟨gp,0,none⟩ 256 256 (au lp) rfl (by rw [aB,Lr.out])
                  (λq u hu=>by rw [addr_add,OP.out.cell,akb]; exact hu)
                  ⟨gs,0,none⟩ (256 * j) cs (au (eT L.ep L.seq l)) rfl (by rw [aB,HLS.out,HLEN.out,Nat.mul_one]) (λq u hu=>by rw [addr_add]; exact pQ.out q u hu) (by omega) (by simp only [maxLen]; omega) (by omega) ?_
                 intro v5 w5 hown5 hg5;have xK:=hid hown5; have fP:=hid hg5; clear hown5 hg5)
    obtain ⟨g5,cap5,rfl,ai6,agf⟩:=xK.out.form (by omega);have hsz:=(HR.out.gr.trans az.out).size;obtain ⟨A6,cap6,he6,hc6,Nj,_⟩:=(Own.of xK.out).shape;obtain ⟨rfl,rfl⟩:some ⟨g5,0,none⟩=A6/\cap5=cap6:=by simpa using he6
    have hlr:(bR L.ep L.seq l).length=256+256 * j:=by rw [tL aU.out (by rw [HLEN.out]; omega),HLEN.out]; omega
    have Zb:au (bR L.ep L.seq l)=au lp ++ au (eT L.ep L.seq l):=by rw [<-sM.out,<-dH]; rfl
    have hcells:=xK.out.cells (g:=g5) rfl;go_ret2;refine ⟨(HR.out.gr.trans az.out).trans fP.out,g5,cap5,by rw [hlr]; rfl,by omega,agf,by rw [hlr]; exact hc6,Nj,λq u hu=>?_⟩;rw [Zb] at hu;have:=hcells q u hu
    rwa [addr_add] at this
theorem jD (S:St) (bq:Bool) (a:Int) (l:List Nat):(aF S bq a l).2.n=S.n:=by
 unfold aF
 split
 · rfl
 · split
   · rfl
   · split
     · rfl
     · exact wW _ _ _ _ _
theorem aal (S:St) (bq:Bool) (i:Nat) (v:List Nat) (k:Nat):((S.put bq i v).ae k).length<=(S.ae k).length+1:=by
 have h1:∀ T:St,((T.add i v).ae k).length<=(T.ae k).length+1:=λT=>by
  show (upd T.ae i (T.ae i ++ [v]) k).length<=_;unfold upd
  split
  · rename_i e; subst e; simp
  · omega
 have h2:∀ T:St,((T.settle i).ae k).length<=(T.ae k).length:=λT=>by
  show (upd T.ae i [] k).length<=_;unfold upd
  split
  · simp
  · omega
 unfold St.put
 split
 · exact akh (h2 _) (h1 S)
 · exact h1 S
theorem qH (S:St) (bq:Bool) (a:Nat) (l:List Nat) (k:Nat):∀ j,((S.puts bq a l j).ae k).length<=(S.ae k).length+j
 | 0=>akf _
 | j+1=>by
   have h1:=qH S bq a l k j;have h2:=aal (S.puts bq a l j) bq (a+j) (sec l j) k;rw [St.puts];omega
theorem oQ (S:St) (bq:Bool) (a:Int) (l:List Nat) (k:Nat):((aF S bq a l).2.ae k).length<=(S.ae k).length+l.length / 256:=by
 unfold aF
 split
 · exact Nat.le_add_right _ _
 · split
   · exact Nat.le_add_right _ _
   · split
     · exact Nat.le_add_right _ _
     · exact qH { S with f2:=S.f2 - 1 } bq a.toNat l k _
theorem Kl {w:World} {own:Nat->Prop} {g n:Nat} {l:List Nat} (h:Dsk.Data w own (some ⟨g,0,none⟩) n l) (a:Nat) (ha:a<=n):Dsk.Data w own (some ⟨g,0,none⟩) a (l.take a):=by
 refine ⟨by rw [aku,h.1]; omega,λx hx=>h.2.1 x (akq hx),λh0=>?_⟩;obtain ⟨g',o,e,hlt,hno,hc⟩:=h.2.2 (by omega);refine ⟨g',o,e,hlt,hno,λj hj=>?_⟩;rw [hc j (by omega)]
 simp [akg,List.getElem?_take_of_lt hj]
theorem Km {w:World} {own:Nat->Prop} {g n:Nat} {l:List Nat} (h:Dsk.Data w own (some ⟨g,0,none⟩) n l) (a:Nat) (ha:a<=n):Dsk.Data w own (some ⟨g,a,none⟩) (n - a) (l.drop a):=by
 refine ⟨by rw [List.length_drop,h.1],λx hx=>h.2.1 x (List.mem_of_mem_drop hx),λh0=>?_⟩;obtain ⟨g',o,e,hlt,hno,hc⟩:=h.2.2 (by omega);simp only [Option.some.injEq,Addr.mk.injEq,and_true] at e;obtain ⟨rfl,rfl⟩:=e;refine ⟨g,a,rfl,hlt,hno,λj hj=>?_⟩;have:=hc (a+j) (by omega);rw [Nat.zero_add] at this;rw [this]
 simp [akg,List.getElem?_drop]
theorem U9 {w:World} {B b tb g:Nat} {S:St} {own:Nat->Prop} {L:Lg} (h:gG w B b tb g S own L) (gr n cap:Nat) (l:List Nat) (hd:Dsk.Data w own (some ⟨gr,0,none⟩) n l)
 (hn:256<=n) (hn2:n<=65536) (hcap:n<=cap) (hcm:cap<=maxLen) (hroom:∀ i,(S.ae i).length < 549755813000) :
 Calls Tryz.prog 143 #[.pointer (some ⟨g,0,none⟩),.slice (some ⟨gr,0,none⟩) n cap] w λe w'=>e=.returned (.int .i64 (bL S L l).1)/\∃ own',gG w' B b tb g (bL S L l).2 own' L/\aa w w' own own':=by
 have hlen:=hd.1;have htop:=h.s.ok.top;have hk:=h.k;have hfit:=hk.fit; have hlow:=hk.low; have htl:=hk.tail;unfold maxLen at hcm;obtain ⟨c0,_,_,c5,c6,c9,_,_,_⟩:=h.l.cells;have CV:=hid (show bL S L l=bL S L l from rfl);have haa:L.ahead n<=n/\1<=L.ahead n:=by unfold Lg.ahead; omega
 have HAA:=hid (show L.ahead n=min n ((L.ln - L.tail) * 256) from rfl);go_enter Tryz.func143,Tryz.ntmps143;go_upto_region 2 with fail
 go_cut [5] (λs5 wx=>s5=.int .i64 (L.ahead n:Nat)/\∃ m,wx=w.drewN m)
 case first =>
  clear haa;have hw1:IntKind.i64.wrap ((L.ln:Int) - (L.tail:Int))=(L.ln:Int) - (L.tail:Int):=IntWalk.i64_in _ (by omega);have hw2:IntKind.i64.wrap (((L.ln:Int) - (L.tail:Int)) * 256)=((L.ln:Int) - (L.tail:Int)) * 256:=IntWalk.i64_in _ (by omega);go_wp2_with fail
  go_quiet (fail)
  go_wp2_with fail;go_meet;exact ⟨by rw [HAA.out]; congr 1; omega,_,rfl⟩
 case rest =>
  obtain ⟨rfl,m,rfl⟩:=hcut;have Aw:((L.st+L.tail:Nat):Int)=(L.st:Int)+(L.tail:Int):=by omega
  have hp1:(aF S false ((L.st:Int)+(L.tail:Int)) (l.take (L.ahead n))).1≠0->bL S L l=aF S false ((L.st:Int)+(L.tail:Int)) (l.take (L.ahead n)):=λh0=>by
   unfold bL;rw [hlen,Aw,if_pos h0]
  have hp2:(aF S false ((L.st:Int)+(L.tail:Int)) (l.take (L.ahead n))).1=0->L.ahead n=n->bL S L l=(0,(aF S false ((L.st:Int)+(L.tail:Int)) (l.take (L.ahead n))).2):=λh0 h1=>by
   unfold bL;rw [hlen,Aw,if_neg (by rw [h0]; simp),if_pos h1]
  have hp3:(aF S false ((L.st:Int)+(L.tail:Int)) (l.take (L.ahead n))).1=0->L.ahead n≠n->bL S L l=aF (aF S false ((L.st:Int)+(L.tail:Int)) (l.take (L.ahead n))).2 false (L.st:Int) (l.drop (L.ahead n)):=λh0 h1=>by
   unfold bL;rw [hlen,Aw,if_neg (by rw [h0]; simp),if_neg h1]
  have hn1:=jD S false ((L.st:Int)+(L.tail:Int)) (l.take (L.ahead n));have hv1:∀ i,((aF S false ((L.st:Int)+(L.tail:Int)) (l.take (L.ahead n))).2.ae i).length < 549755813888 :=λi=>by
   have h1:=oQ S false ((L.st:Int)+(L.tail:Int)) (l.take (L.ahead n)) i;have h2:=hroom i;rw [aku,hlen] at h1;omega
  have Hy:=hid hp1; have QX:=hid hp2; have QW:=hid hp3; have nM:=hid hn1; have rC:=hid hv1;have hg1:=dB (akr w none) m;have H1:=hid (h.quiet hg1);have HT1:=hid (aa.none_ (own:=own) hg1);have xO:=hid (Dsk.Data.turn hd HT1.out);have HHA:=hid haa;clear Aw hp1 hp2 hp3 hn1 hv1 CV HAA hg1 h hd c0 c5 c6 c9 haa;generalize hah:L.ahead n=a at *;clear hah;have aiR:1<=a:=HHA.out.2;have acs:a<=n:=HHA.out.1
  generalize w.drewN m=w1 at *;have hkeep:∀ wx (S':St) (own':Nat->Prop),gG wx B b tb g S' own' L->wx.cell? ⟨g,0,none⟩=some (.pointer (some ⟨b,0,none⟩))/\wx.cell? ⟨g,5,none⟩=some (.int .i64 (L.st:Nat))/\wx.cell? ⟨g,9,none⟩=some (.int .i64 (L.tail:Nat)):=by
   intro wx S' own' hx;obtain ⟨c0,_,_,c5,_,c9,_,_,_⟩:=hx.l.cells;exact ⟨c0,c5,c9⟩
  have av:=hid hkeep;have xS:=hid (H1.out.quiet (ah w1 none));have HW1:=hid (lY xS.out.s.d ((L.st:Int)+(L.tail:Int)) (some ⟨gr,0,none⟩) a cap (l.take a) false (by omega) (Kl (Dsk.Data.turn xO.out (aa.none_ (ah w1 none))) a acs) (by omega) (by omega) (λi=>Nat.lt_trans (hroom i) (by omega)) xS.out.s.s);have agz:(a:Int)<=(n:Int):=by omega
  have agC:(a:Int)<=(cap:Int):=by omega
  have agD:(0:Int)<=(a:Int):=by omega
  have aiU:IntKind.i64.wrap ((L.st:Int)+(L.tail:Int))=(L.st:Int)+(L.tail:Int):=IntWalk.i64_in _ (by omega);clear hkeep hroom;go_wp2_with fail
  go_region_held3 (λwx=>wx.cell? ⟨g,0,none⟩=some (.pointer (some ⟨b,0,none⟩))/\wx.cell? ⟨g,5,none⟩=some (.int .i64 (L.st:Nat))/\wx.cell? ⟨g,9,none⟩=some (.int .i64 (L.tail:Nat)))
   (first
     | exact av.out _ _ _ xS.out
     | exact av.out _ _ _ HA2.out)
   (first
     | (go_at_call 49
        (with_reducible refine HW1.out.mono ?_)
        rintro e w2 ⟨rfl,bV,hd2,ht2⟩;have HA2:=hid (xS.out.disk hd2 ht2 nM.out);have HT2:=hid ((HT1.out.drew).trans ht2);have HDB:=hid (Dsk.Data.turn (Dsk.Data.turn xO.out (aa.none_ (ah w1 none))) ht2);clear hd2 ht2))
  clear HW1;generalize (aF S false ((L.st:Int)+(L.tail:Int)) (l.take a))=R1 at *;obtain ⟨E1,S1⟩:=R1
  dsimp only at *
  by_cases hE:E1=0
  · subst hE
    by_cases han:a=n
    · subst han;have HP:=hid (QX.out rfl rfl);go_wp2_with fail;go_ret;rw [HP.out];exact ⟨rfl,bV,HA2.out,HT2.out⟩
    · have HP:=hid (QW.out rfl han);have agy:¬ ((a:Int)=(n:Int)):=by omega
      have ajb:((a:Int) == (n:Int))=false:=by simp; omega
      have hcC:¬ (cap=a):=by omega
      have pV:=hid (HA2.out.quiet (ah w2 none));have HW2:=hid (lY pV.out.s.d (L.st:Int) (some ⟨gr,a,none⟩) (n - a) (cap - a) (l.drop a) false (by omega) (Km (Dsk.Data.turn HDB.out (aa.none_ (ah w2 none))) a acs) (by omega) (by omega) rC.out pV.out.s.s);go_wp2_with fail
      go_region_held3 (λwx=>wx.cell? ⟨g,0,none⟩=some (.pointer (some ⟨b,0,none⟩))/\wx.cell? ⟨g,5,none⟩=some (.int .i64 (L.st:Nat))/\wx.cell? ⟨g,9,none⟩=some (.int .i64 (L.tail:Nat)))
       (first
         | exact av.out _ _ _ pV.out
         | exact av.out _ _ _ OW.out)
       (first
         | (go_at_call 49
            (with_reducible refine HW2.out.mono ?_)
            rintro e w4 ⟨rfl,iE,hd4,jF⟩;have OW:=hid (pV.out.disk hd4 jF (jD _ _ _ _));have sK:=hid ((HT2.out.drew).trans jF);clear hd4 jF))
      go_wp2_with fail;go_ret;rw [HP.out];exact ⟨rfl,iE,OW.out,sK.out⟩
  · have HP:=hid (Hy.out hE);go_wp2_with fail;go_ret;rw [HP.out];exact ⟨rfl,bV,HA2.out,HT2.out⟩
theorem LQ (n:Nat) (w:World) (h1:n<=1099511627776):Calls Tryz.prog 138 #[.int .i64 (n:Nat)] w λe w'=>e=.returned (.int .i64 (1+(n:Int)))/\w'=w :=
 (wR n w h1).mono λe w' ⟨he,hw⟩=>⟨by rw [he]; congr 2,hw⟩
theorem XT {w:World} {g b tb:Nat} {L:Lg} (h:dS w g L b tb) :
 Calls Tryz.prog 145 #[.pointer (some ⟨g,0,none⟩)] w λe w'=>e=.returned (.tuple #[])/\dS w' g L.drop b tb/\w.grownBy w' (some g):=by
 have f11:=h.fz 11; have f12:=h.fz 12;obtain ⟨_,_,_,_,_,_,_,c11,c12⟩:=h.cells;have H:=hid h; clear h;go_enter Tryz.func145,Tryz.ntmps145;go_wp2
 go_end0
 exact ⟨rfl,H.out.drop,akd (akd (akr w _) 11 _) 12 _⟩
theorem MS {w:World} {g b tb:Nat} {L:Lg} (h:dS w g L b tb) (k:Nat) (hk:k<=1099511627776) (h1:1<=L.ln) (htl:L.tail<=1099511627776) (htk:L.taken<=1099511627776) (mf:L.seq<=2199023255552) :
 Calls Tryz.prog 137 #[.pointer (some ⟨g,0,none⟩),.int .i64 (k:Nat)] w λe w'=>e=.returned (.tuple #[])/\dS w' g (L.pass k) b tb/\w.grownBy w' (some g):=by
 have HP:=hid (JY h k hk htl h1);have H:=hid h; clear h;go_enter Tryz.func137,Tryz.ntmps137;go_wp2_with fail;refine HP.out.mono ?_;rintro e w1 ⟨rfl,m,rfl⟩;have H1:=hid (show dS (w.drewN m) g L b tb from H.out.drewN m);have HG:=hid (bW (dB (akr w none) m) (some g));clear HP H;generalize w.drewN m=w1 at *;have f9:=H1.out.fz 9; have f10:=H1.out.fz 10; have f11:=H1.out.fz 11;obtain ⟨_,_,_,_,_,c9,c10,c11,_⟩:=H1.out.cells
 have hw1:IntKind.i64.wrap ((L.taken:Int)+(k:Int))=(L.taken:Int)+(k:Int):=IntWalk.i64_in _ (by omega);have hw2:IntKind.i64.wrap ((L.seq:Int)+1)=(L.seq:Int)+1:=IntWalk.i64_in _ (by omega);have aet:=hid (H1.out.pass k (p:=((L.tail+k) % L.ln:Nat)) (t:=(L.taken:Int)+(k:Int)) (q:=(L.seq:Int)+1) rfl (by omega) (by omega));go_wp2
 go_end0
 exact ⟨rfl,aet.out,akd (akd (akd HG.out 9 _) 11 _) 10 _⟩
theorem UF (S:St) (L:Lg) (l:List Nat):(bL S L l).2.n=S.n:=by
 unfold bL
 split
 · exact jD _ _ _ _
 · split
   · exact jD _ _ _ _
   · rw [jD,jD]
theorem Lg.ok.pass {L:Lg} {n:Nat} (h:L.ok n) {k:Nat} (hk:k<=L.room) (hb:L.seq<=1099511627775):(L.pass k).ok n:=by
 have h1:=h.taken; have h2:=h.low;refine ⟨h.fit,h.low,Nat.mod_lt _ (by omega),?_,h.ep,?_⟩
 · show L.taken+k<=L.ln;unfold Lg.room at hk
   split at hk <;> omega
 · show L.seq+1<=_;omega
theorem Lg.ok.fail {L:Lg} {n:Nat} (h:L.ok n) (hb:L.seq<=1099511627775):L.fail.ok n:=⟨h.fit,h.low,h.tail,h.taken,h.ep,by show L.seq+1<=_; omega⟩
theorem Lg.ok.drop {L:Lg} {n:Nat} (h:L.ok n):L.drop.ok n:=⟨h.fit,h.low,h.tail,aks _,h.ep,h.seq⟩
theorem TW {w w':World} {own own':Nat->Prop} {tb g:Nat} (h:aa w w' own own'):aa w w' (fC own tb g) (fC own' tb g):=nR (qP h tb) g
def rH (w:World) (B b tb g:Nat) (S:St) (own:Nat->Prop) (L:Lg) (l:List ax) (e:Ending) (w':World):Prop :=
 e=.returned (.int .i64 (aN S L l).1)/\(∃ own',gG w' B b tb g (aN S L l).2.1 own' (aN S L l).2.2/\aa w w' (fC own tb g) (fC own' tb g))/\((Ready w tb\/(aN S L l).1=0)->Ready w' tb)
theorem RY {w:World} {B b tb g:Nat} {S:St} {own:Nat->Prop} {L:Lg} (h:gG w B b tb g S own L) (A:Option Addr) (n c:Nat) (l:List ax) (him:eG w (·=tb) A n l) (hnm:n<=1099511627776) (hroom:∀ i,(S.ae i).length < 549755813000) :
 Calls Tryz.prog 109 #[.pointer (some ⟨g,0,none⟩),.slice A n c] w (rH w B b tb g S own L l):=by
 have hlen:=him.len;have hk:=h.k;have hfit:=hk.fit; have htl:=hk.tail; have htk:=hk.taken; have htop:=h.s.ok.top; have abN:=hk.seq; have Co:=hk.low;have H:=hid h; have HK:=hid hk; have bB:=hid hroom; have jC:=hid him; have HLEN:=hid hlen;clear h hk hroom him hlen
 by_cases gB:40 < n
 · have HA:=hid (show aN S L l=(16,S,L) by unfold aN; rw [if_pos (by rw [HLEN.out]; exact gB)]);have Yr:(40:Int) < (n:Int):=by omega
   go_enter Tryz.func109,Tryz.ntmps109;go_wp2_with fail;go_ret;unfold rH;rw [HA.out];exact ⟨rfl,⟨own,H.out,aa.refl _ _⟩,λhr=>hr.resolve_right (by simp)⟩
 have Yr:¬ ((40:Int) < (n:Int)):=by omega
 by_cases h0:n=0
 · subst h0;have HA:=hid (show aN S L l=(1,S,L) by unfold aN; rw [if_neg (by rw [HLEN.out]; exact gB),if_pos (.inl HLEN.out)]);go_enter Tryz.func109,Tryz.ntmps109;go_wp2_with fail;go_ret;unfold rH;rw [HA.out];exact ⟨rfl,⟨own,H.out,aa.refl _ _⟩,λhr=>hr.resolve_right (by simp)⟩
 have Zt:¬ ((n:Int)=0):=by omega
 have h0B:((n:Int) == 0)=false:=by simp; omega
 have gX:=hid (aaB A n c l H.out.l H.out.s.t jC.out H.out.ne hnm)
 cases hmw:eF [] l with
 | false =>
   have HA:=hid (show aN S L l=(1,S,L) by unfold aN; rw [if_neg (by rw [HLEN.out]; exact gB),if_pos (.inr hmw)]);have yC:=hid hmw; clear hmw;go_enter Tryz.func109,Tryz.ntmps109;go_wp2_with fail;refine gX.out.mono ?_;rintro e w1 ⟨rfl,hg,ht,hr,_⟩;rw [yC.out];have HH:=hid (H.out.table hg ht); have HT:=hid (Jn (own:=own) (g:=g) hg); have HR:=hid hr;clear hg ht hr;go_wp2_with fail;go_ret;unfold rH;rw [HA.out]
   exact ⟨rfl,⟨own,HH.out,HT.out⟩,λhr=>HR.out (hr.resolve_right (by simp))⟩
 | true =>
   have aU:=hid (wP hmw);have yC:=hid hmw; clear hmw;go_enter Tryz.func109,Tryz.ntmps109;go_wp2_with fail;refine gX.out.mono ?_;rintro e w1 ⟨rfl,hg,ht,_,hr⟩;rw [yC.out];have HH:=hid (H.out.table hg ht); have HT:=hid (Jn (own:=own) (g:=g) hg); have HR:=hid (hr yC.out (by omega));have HI1:=hid (jC.out.turn (aa.aA (own:=(·=tb)) hg (λ_ e=>by cases e; rfl)));clear hg ht hr gX jC;go_wp2_with fail;refine (LQ n _ hnm).mono ?_
   rintro e w2 ⟨rfl,rfl⟩;go_wp2_with fail;refine (Ai HH.out.l htk (by omega)).mono ?_;rintro e w2 ⟨rfl,m,rfl⟩;have hg2:=dB (akr w2 none) m;have yD:=hid (HH.out.quiet hg2); have HT2:=hid (HT.out.trans (aa.none_ hg2)); have HR2:=hid (HR.out.keep hg2 (by simp)); have HI2:=hid (HI1.out.turn (aa.none_ hg2));clear hg2 HH HT HR HI1 H;generalize w2.drewN m=w3 at *;obtain ⟨_,_,c3,_,_,_,c10,_,_⟩:=yD.out.l.cells
   by_cases hc:L.room < 1+n\/4294967295 < L.ep\/1099511627775 < L.seq
   · have HA:=hid (show aN S L l=(15,S,L) by
      unfold aN;rw [if_neg (by rw [HLEN.out]; exact gB),if_neg (by rw [HLEN.out,yC.out]; simpa using h0),if_pos (by rw [HLEN.out]; exact hc)])
     have HC:=hid hc; clear hc;have hend:rH w B b tb g S own L l (.returned (.int .i64 15)) w3:=by
      unfold rH;rw [HA.out];exact ⟨rfl,⟨own,yD.out,HT2.out⟩,λ_=>HR2.out⟩
     have jE:=hid hend; clear hend
     by_cases hc1:L.room < 1+n
     · have NA:(L.room:Int) < 1+(n:Int):=by omega
       go_wp2_with fail;go_ret;exact jE.out
     · have NA:¬ ((L.room:Int) < 1+(n:Int)):=by omega
       by_cases hc2:4294967295 < L.ep
       · have Nz:(4294967295:Int) < (L.ep:Int):=by omega
         go_wp2_with fail;go_ret;exact jE.out
       · have Nz:¬ ((4294967295:Int) < (L.ep:Int)):=by omega
         have hc3:1099511627775 < L.seq:=by
          rcases HC.out with h | h | h
          · omega
          · omega
          · exact h
         have Yj:(1099511627775:Int) < (L.seq:Int):=by omega
         go_wp2_with fail;go_ret;exact jE.out
   · have NA:¬ ((L.room:Int) < 1+(n:Int)):=by omega
     have Nz:¬ ((4294967295:Int) < (L.ep:Int)):=by omega
     have Yj:¬ ((1099511627775:Int) < (L.seq:Int)):=by omega
     have hap:aN S L l=if (bL S L (bR L.ep L.seq l)).1=0 then (0,(bL S L (bR L.ep L.seq l)).2,L.pass (1+n)) else ((bL S L (bR L.ep L.seq l)).1,(bL S L (bR L.ep L.seq l)).2,L.fail):=by
      unfold aN;rw [if_neg (by rw [HLEN.out]; exact gB),if_neg (by rw [HLEN.out,yC.out]; simpa using h0),if_neg (by rw [HLEN.out]; exact hc),HLEN.out]
     have hpn:=UF S L (bR L.ep L.seq l);have hlr:(bR L.ep L.seq l).length=256 * (1+n):=by rw [tL aU.out (by rw [HLEN.out]; omega),HLEN.out]
     have sS:=hid hap; have HPN:=hid hpn; have C8:=hid hlr;have tF:=hid (HK.out.pass (k:=1+n) (by omega) (by omega));have Q4:=hid (HK.out.fail (by omega));have FT:=hid (RV A n c l yD.out.l HR2.out HI2.out aU.out (by omega) (by omega) (by omega) (by omega));have bK:=hid (Qf (ep:=L.ep) (sq:=L.seq) aU.out);clear hap hpn hlr;go_wp2_with fail;refine FT.out.mono ?_;rintro e w4 ⟨hg4,gr,cap,rfl,hge,hgl,hlc,hcm,hcl⟩
     have Q5:=hid (yD.out.quiet hg4); have sK:=hid (HT2.out.trans (aa.none_ hg4)); have HR4:=hid (HR2.out.keep hg4 (by simp));have KF:=hid (show ¬ own gr from λho=>by have:=yD.out.s.kL ho; omega);have HD4:=hid (show Dsk.Data w4 own (some ⟨gr,0,none⟩) (bR L.ep L.seq l).length (bR L.ep L.seq l) from
      ⟨rfl,bK.out,λ_=>⟨gr,0,rfl,hgl,KF.out,λj hj=>by rw [Nat.zero_add]; exact hcl _ _ (fT _ j hj)⟩⟩)
     rw [C8.out] at HD4 hlc;have HW:=hid (U9 Q5.out gr (256 * (1+n)) cap (bR L.ep L.seq l) HD4.out (by omega) (by omega) hlc hcm bB.out);rw [C8.out];clear hg4 hge hgl hlc hcm hcl FT yD HT2 HR2 HI2 HD4 KF c3 c10;go_wp2_with fail;refine HW.out.mono ?_;rintro e w5 ⟨rfl,ik,ha5,dL⟩;have Db:=hid ha5; have fJ:=hid (sK.out.trans (TW dL));have ZF:=hid (show Ready w5 tb from by
      obtain ⟨cs,hb,hr⟩:=HR4.out;exact ⟨cs,aj hb (dL.block tb hb.lt Q5.out.s.n),hr⟩)
     clear ha5 dL HW HR4 sK;generalize bL S L (bR L.ep L.seq l)=R at *;obtain ⟨E,S5⟩:=R
     dsimp only at *
     by_cases hE:E=0
     · subst hE;have HA:=hid (show aN S L l=(0,S5,L.pass (1+n)) by rw [sS.out,if_pos rfl]);go_wp2_with fail;refine (LQ n _ hnm).mono ?_;rintro e w6 ⟨rfl,rfl⟩;have ES:=hid (MS Db.out.l (1+n) (by omega) (by omega) (by omega) (by omega) abN);rw [show (1:Int)+(n:Int)=((1+n:Nat):Int) from by omega];go_wp2_with fail;refine ES.out.mono ?_;rintro e w7 ⟨rfl,Vw,fZ⟩;have HH7:=hid (Db.out.log fZ Vw (by rw [HPN.out]; exact tF.out)); have CQ:=hid (fJ.out.trans (yL (tb:=tb) (own:=ik) fZ)); have HR7:=hid (ZF.out.keep fZ (by have:=Db.out.ne; simp; omega))
       clear Vw fZ ES Db fJ ZF;go_wp2_with fail;go_ret;unfold rH;rw [HA.out];exact ⟨rfl,⟨ik,HH7.out,CQ.out⟩,λ_=>HR7.out⟩
     · have HA:=hid (show aN S L l=(E,S5,L.fail) by rw [sS.out,if_neg hE]);obtain ⟨_,_,_,_,_,_,c10,_,c12⟩:=Db.out.l.cells;have f10:=Db.out.l.fz 10; have f12:=Db.out.l.fz 12;have hw2:IntKind.i64.wrap ((L.seq:Int)+1)=(L.seq:Int)+1:=IntWalk.i64_in _ (by omega);have ku:=hid (Db.out.l.fail (q:=(L.seq:Int)+1) (by omega));have fZ:w5.grownBy ((w5.setCell ⟨g,10,none⟩ (.int .i64 ((L.seq:Int)+1))).setCell ⟨g,12,none⟩ (.bool true)) (some g):=akd (akd (akr w5 _) 10 _) 12 _
       have HH7:=hid (Db.out.log fZ ku.out (by rw [HPN.out]; exact Q4.out)); have CQ:=hid (fJ.out.trans (yL (tb:=tb) (own:=ik) fZ)); have HR7:=hid (ZF.out.keep fZ (by have:=Db.out.ne; simp; omega));clear fZ ku Db fJ ZF;go_wp2_with fail;go_ret;unfold rH;rw [HA.out];exact ⟨rfl,⟨ik,HH7.out,CQ.out⟩,λ_=>HR7.out⟩
theorem zY {S:St} (h:S.f1=0) {a:Nat} (ha:a < S.n):aH S (a:Nat) 1=(0,S)/\dz S (a:Nat) 1=S.now a:=by
 have h1:S.has (a:Nat) 1=true:=by simp [St.has]; omega
 constructor
 · unfold aH;rw [if_neg (by rw [h1]; simp),if_neg (by omega)]
   congr 1
   cases S
   simp at h
   simp [h]
 · unfold dz;rw [if_neg (by rw [h1]; simp),if_neg (by omega)];show St.reads _ a 1=_
   simp [St.reads]
def Quiet (w w':World) (B b tb g:Nat) (S:St) (own:Nat->Prop) (L:Lg):Prop:=gG w' B b tb g S own L/\aa w w' own own
theorem Quiet.ready {w w':World} {B b tb g:Nat} {S:St} {own:Nat->Prop} {L:Lg} (h:gG w B b tb g S own L) (hq:Quiet w w' B b tb g S own L) (hr:Ready w tb):Ready w' tb:=by
 obtain ⟨cs,hb,hr⟩:=hr;exact ⟨cs,aj hb (hq.2.block tb hb.lt h.s.n),hr⟩
theorem gG.far {w w':World} {B b tb g:Nat} {S:St} {own:Nat->Prop} {L:Lg} (h:gG w B b tb g S own L) {row:Option Nat} (hg:w.grownBy w' row) (hr:∀ q,row=some q->¬ fC own tb g q):gG w' B b tb g S own L :=
 ⟨⟨iA h.s.d hg (λj e ho=>hr j e (.inl (.inl ho))),kZ h.s.t hg (λe=>hr tb e.symm (.inl (.inr rfl))),h.s.n,akh h.s.s hg.size⟩,h.l.grown hg (λe=>hr g e.symm (.inr rfl)),h.o,h.k⟩
theorem Quiet.far {w w2 w3:World} {B b tb g:Nat} {S:St} {own:Nat->Prop} {L:Lg} (h:gG w B b tb g S own L) (hq:Quiet w w2 B b tb g S own L) {row:Option Nat} (hg:w2.grownBy w3 row) (hr:∀ q,row=some q->w.heap.size<=q):Quiet w w3 B b tb g S own L :=
 ⟨hq.1.far hg (λq e ho=>by have:=hr q e; have:=h.kL ho; omega),
  ⟨hg.os.trans hq.2.os,hg.tape.trans hq.2.tape,hg.output.trans hq.2.output,akh hq.2.size hg.size,
   λi hi hno=>(hg.block i (ake hi hq.2.size) (λe=>by have:=hr i e.symm; omega)).trans (hq.2.block i hi hno),λi hi=>.inl hi⟩⟩
theorem Pn {w:World} {g b tb:Nat} {L:Lg} (h:dS w g L b tb) (k:Nat) (hk:k<=1099511627776) (ht:L.tail<=1099511627776) (h1:1<=L.ln) :
 Calls Tryz.prog 162 #[.pointer (some ⟨g,0,none⟩),.int .i64 (k:Nat)] w λe w'=>e=.returned (.int .i64 ((L.tail+k) % L.ln:Nat))/\w.grownBy w' none :=
 (JY h k hk ht h1).mono λe w' ⟨he,m,hw⟩=>⟨he,by subst hw; exact dB (akr w none) m⟩
theorem Rk {w:World} {g b tb:Nat} {L:Lg} (h:dS w g L b tb) (hk:L.taken<=L.ln) (hl:L.ln<=1099511627776) :
 Calls Tryz.prog 135 #[.pointer (some ⟨g,0,none⟩)] w λe w'=>e=.returned (.int .i64 (L.room:Nat))/\w.grownBy w' none :=
 (Ai h hk hl).mono λe w' ⟨he,m,hw⟩=>⟨he,by subst hw; exact dB (akr w none) m⟩
theorem MR {w:World} {B b tb g:Nat} {S:St} {own:Nat->Prop} {L:Lg} (h:gG w B b tb g S own L) (hf:S.f1=0) (k:Nat) (hk:k<=1099511627776) :
 Calls Tryz.prog 158 #[.pointer (some ⟨g,0,none⟩),.int .i64 (k:Nat)] w λe w'=>∃ gs cap,e=.returned (.tuple #[.slice (some ⟨gs,0,none⟩) 256 cap,.int .i64 0])/\w.heap.size<=gs/\af w' gs 5 (au (S.now (L.sec k))).toArray/\Quiet w w' B b tb g S own L:=by
 have htop:=h.s.ok.top;have hfit:=h.k.fit; have htl:=h.k.tail; have hln:=h.k.low;have hkeep:∀ wx (hx:gG wx B b tb g S own L),wx.cell? ⟨g,0,none⟩=some (.pointer (some ⟨b,0,none⟩))/\wx.cell? ⟨g,5,none⟩=some (.int .i64 (L.st:Nat)):=by
  intro wx hx;obtain ⟨c0,_,_,c5,_⟩:=hx.l.cells;exact ⟨c0,c5⟩
 have av:=hid hkeep;have H:=hid h;have xS:=hid (h.quiet (ah w none));have vR:=hid (λwx (hx:gG wx B b tb g S own L)=>Pn hx.l k hk (by omega) hln);have hsl:=Lg.LZ h.k k;have hmod:=Nat.mod_lt (L.tail+k) (show 0 < L.ln by omega);have tC:=hid (show (L.st:Int)+(((L.tail+k) % L.ln:Nat):Int)=(L.sec k:Nat) from by unfold Lg.sec; omega);obtain ⟨hre,hrl⟩:=zY hf hsl;have HLEN:=hid (S.jU h.s.ok (L.sec k)).1;have hrd:∀ wx (hx:gG wx B b tb g S own L),Calls Tryz.prog 154 #[.pointer (some ⟨b,0,none⟩),.int .i64 ((L.st:Int)+(((L.tail+k) % L.ln:Nat):Int)),.int .i64 1] wx λe w'=>∃ gs cap,e=.returned (.tuple #[.slice (some ⟨gs,0,none⟩) 256 cap,.int .i64 0])/\wx.heap.size<=gs/\af w' gs 5 (au (S.now (L.sec k))).toArray/\dU w' B b S own/\aa wx w' own own:=λwx hx=>by
  rw [tC.out];refine (vH hx.s.d (L.sec k:Nat) 1 (by omega) (by omega)).mono ?_;rintro e w' ⟨v,rfl,hg,hd,ht⟩;rw [hre] at hd;rw [hre];rw [hrl] at hg;rcases hg with ⟨_,hg⟩ | ⟨gs,cap,rfl,h1,h2⟩
  · have:=HLEN.out;rw [hg] at this
    cases this
  · rw [HLEN.out];exact ⟨gs,cap,rfl,h1,h2,hd,ht⟩
 have gW:=hid hrd;have hw1:IntKind.i64.wrap ((L.st:Int)+(((L.tail+k) % L.ln:Nat):Int))=(L.st:Int)+(((L.tail+k) % L.ln:Nat):Int):=IntWalk.i64_in _ (by omega);clear hkeep h hsl hre hrl hrd;generalize (((L.tail+k) % L.ln:Nat))=q at *;go_enter Tryz.func158,Tryz.ntmps158;go_wp2_with fail
 go_region_held3 (λwx=>wx.cell? ⟨g,0,none⟩=some (.pointer (some ⟨b,0,none⟩))/\wx.cell? ⟨g,5,none⟩=some (.int .i64 (L.st:Nat)))
  (first
    | exact av.out _ xS.out
    | exact av.out _ HA1.out
    | exact av.out _ HA2.out)
  (first
    | (go_at_call 162
       (with_reducible refine (vR.out _ xS.out).mono ?_)
       rintro e w1 ⟨rfl,hg1⟩;have az:=hid ((ah w none).trans hg1);have HA1:=hid (xS.out.quiet hg1);clear hg1)
    | (go_at_call 154
       (with_reducible refine (gW.out _ HA1.out).mono ?_)
       rintro e w2 ⟨gs,cap,rfl,hgs,hbs,hd2,ht2⟩;have HA2:=hid (HA1.out.disk hd2 ht2 rfl);have HT2:=hid ((aa.none_ az.out).trans ht2);have rG:=hid hbs;have Ii:=hid hgs;clear hd2 ht2 hbs hgs))
 go_wp2_with fail;go_ret2;exact ⟨gs,cap,rfl,akh az.out.size Ii.out,rG.out,HA2.out,HT2.out⟩
theorem IQ {w:World} {B b tb g:Nat} {S:St} {own:Nat->Prop} {L:Lg} (h:gG w B b tb g S own L) (hf:S.f1=0) (n:Nat) (hn:n<=4096) :
 Calls Tryz.prog 160 #[.pointer (some ⟨g,0,none⟩),.int .i64 (n:Nat)] w λe w'=>∃ v,e=.returned (.tuple #[v,.int .i64 0])/\Own w' w.heap.size 5 1 v (256 * n) (au (dV S L n))/\Quiet w w' B b tb g S own L:=by
 obtain ⟨k0,hk0,hy0,hy1,hy2⟩:=info_parts gD;have hk:=hid hk0; have y0:=hid hy0; have y1:=hid hy1; have y2:=hid hy2;have H:=hid h;have gW:=hid (λwx (hx:gG wx B b tb g S own L) (k:Nat) (hk:k<=1099511627776)=>MR hx hf k hk);have HLS:=hid (λk=>(S.jU h.s.ok (L.sec k)).1);clear h hk0 hy0 hy1 hy2;go_enter Tryz.func160,Tryz.ntmps160;go_wp2_with fail
 go_loopw [6,11] (λv i wr=>∃ j:Nat,j<=n/\i=.int .i64 j/\Own wr w.heap.size 5 1 v (256 * j) (au (dV S L j))/\Quiet w wr B b tb g S own L) (λ_ i _=>n - (Go.RowKit.intOf i).toNat)
 case atStart=>exact ⟨0,aks _,rfl,Own.nil _ _ _ _,H.out,aa.refl _ _⟩
 case round =>
  obtain ⟨j,hj,rfl,ho,hq⟩:=hrel;have HO:=hid ho; have HQ:=hid hq;clear ho hq
  by_cases hlt:j < n
  · have hjn:(j:Int) < (n:Int):=by omega
    go_wp2_with fail;refine (wR j _ (by omega)).mono ?_;rintro e w1 ⟨rfl,rfl⟩;go_wp2_with fail;refine (gW.out _ HQ.out.1 (1+j) (by omega)).mono ?_;rintro e w2 ⟨gs,cap,rfl,hgs,hbs,hq2⟩;have HQ2:=hid (show Quiet w w2 B b tb g S own L from ⟨hq2.1,HQ.out.2.trans hq2.2⟩);have lM:=hid (gT HO.out (λq hq=>hq2.2.block q (HO.out.bH q hq).2 (λho=>by have:=H.out.s.kL ho; have:=(HO.out.bH q hq).1; omega)));have rG:=hid hbs
    have vS:=hid (show ∀ q,u6.ownBlock=some q->w.heap.size<=q from λq hq=>(HO.out.bH q hq).1);have hsz:=HQ2.out.2.size;clear hgs hbs hq2
    go_wp2_with (at_builtin
                 refine ai _ rfl (.tmp 24) (.tmp 25) _ rfl w.heap.size 5 k0 _ 1 1 Tryz.underlying65 hk.out y0.out y1.out y2.out rfl (by omega) _ (256 * j) _ rfl lM.out
                  _ _ 256 cap _ rfl (JJ rG.out (HLS.out _)) (fO _) (by simp only [maxLen]; omega) (by omega) (by omega) ?_
                 intro v' w3 hown' dC;have pK:=hid hown'; have aZ:=hid dC; clear hown' dC)
    have HQ3:=hid (Quiet.far H.out HQ2.out aZ.out.1 vS.out)
    go_roundw
    case rel=>exact ⟨j+1,by omega,by go_num,by rw [dV,dH]; exact pK.out,HQ3.out⟩
    case measure=>simp [Go.RowKit.intOf]; omega
  · obtain rfl:j=n:=by omega
    go_wp2_with fail;go_ret2;exact ⟨_,rfl,HO.out,HQ.out⟩
end Go.Proofs.YtinajlbijgedbaaGreat.Log
namespace Go.Proofs.YtinajlbijgedbaaGreat.Sto
open Go.RowKit Go.Maps Go.ChangeMaps Go.MapKept CrcMath CodecMath Mem Crc Codec DiskSpec Dsk Sup Log
def rA (w:World) (P:Nat->Prop) (v:Value) (p:Pg):Prop:=∃ bv,v=.agg #[.int .i64 p.1,bv]/\cO w P bv p.2
section
variable {w w':World} {P P' Q:Nat->Prop} {v:Value} {p:Pg} {bm:Nat} {D:aK}
theorem rA.turn (h:rA w P v p) (ht:aa w w' P P'):rA w' P' v p:=by
 obtain ⟨bv,e,hb⟩:=h;exact ⟨bv,e,hb.turn ht⟩
theorem rA.weak (h:rA w P v p) (hq:∀ i,i < w.heap.size->Q i->P i):rA w Q v p:=by
 obtain ⟨bv,e,hb⟩:=h;exact ⟨bv,e,hb.weak hq⟩
def FN (w:World) (P:Nat->Prop) (f:Nat->Option Value) (D:aK):Prop :=
 ∀ k,(D k=none/\f k=none)\/∃ p v,D k=some p/\f k=some v/\rA w P v p
theorem FN.turn {f:Nat->Option Value} (h:FN w P f D) (ht:aa w w' P P'):FN w' P' f D:=λk=>by
 rcases h k with h1 | ⟨p,v,h1,h2,h3⟩
 · exact .inl h1
 · exact .inr ⟨p,v,h1,h2,h3.turn ht⟩
theorem FN.weak {f:Nat->Option Value} (h:FN w P f D) (hq:∀ i,i < w.heap.size->Q i->P i):FN w Q f D:=λk=>by
 rcases h k with h1 | ⟨p,v,h1,h2,h3⟩
 · exact .inl h1
 · exact .inr ⟨p,v,h1,h2,h3.weak hq⟩
structure dE (w:World) (P:Nat->Prop) (bm:Nat) (D:aK):Prop where
 m:∃ f,dN Tryz.prog 3 w bm 1024 f/\FN w P f D
 ok:bg D
theorem dE.lt (h:dE w P bm D):bm < w.heap.size:=by obtain ⟨f,h1,_⟩:=h.m; exact h1.lt
theorem dE.turn (h:dE w P bm D) (ht:aa w w' P P') (hb:w'.heap[bm]?=w.heap[bm]?):dE w' P' bm D:=by
 obtain ⟨f,h1,h2⟩:=h.m;exact ⟨⟨f,h1.of_block hb,h2.turn ht⟩,h.ok⟩
theorem dE.weak (h:dE w P bm D) (hq:∀ i,i < w.heap.size->Q i->P i):dE w Q bm D:=by
 obtain ⟨f,h1,h2⟩:=h.m;exact ⟨⟨f,h1,h2.weak hq⟩,h.ok⟩
theorem dE.made (w:World) (P:Nat->Prop):dE (w.alloc (.map #[] 0)) P w.heap.size aM :=
 ⟨⟨_,dN.made w _ _ 1024,λ_=>.inl ⟨rfl,rfl⟩⟩,bg.none_⟩
theorem dE.size (h:dE w P bm D) (ty:TypeId):(Builtin.len_ #[100] ty #[.map (some bm)]).run Tryz.prog w=.ok (.int .i64 ((keys D).length:Nat)) w:=by
 obtain ⟨f,⟨E,h1,h2,h3⟩,hv⟩:=h.m;have ht:=h1.tidy (int_keyed Tryz.underlying3);have hp:=dN.keys_perm ht h2 h3;have hl:=hp.length_eq;rw [Jz,List.length_map] at hl;have e:((List.range 1024).filter λk=>(f k).isSome)=keys D:=by
  unfold keys;refine List.filter_congr λk _=>?_
  rcases hv k with ⟨a,b⟩ | ⟨p,v,a,b,_⟩ <;> simp [a,b]
 rw [e] at hl;rw [<-hl];exact h1.len Tryz.underlying100 ty
theorem TL (w:World):(zeroValue 72).run Tryz.prog w=.ok (.agg #[.int .i64 0,.slice none 0 0]) w:=by kernel_rfl
theorem aaE (k:Nat) (hk:k < 9223372036854775808):keyOf Tryz.prog 3 (.int .i64 (k:Nat))=some (eZ k) :=
 keyOf_int_mk Tryz.underlying3 (by simp [Lit.wf,IntKind.min,IntKind.max,IntKind.signed,IntKind.bits]; omega)
theorem dE.abv (h:dE w P bm D) (k:Nat) (hk:k < 9223372036854775808):∃ v,(Instr.lookup 100 (.map (some bm)) (.int .i64 (k:Nat)) true).run Tryz.prog w=.ok (.tuple #[v,.bool (D k).isSome]) w /\
 ((D k=none/\v=.agg #[.int .i64 0,.slice none 0 0])\/∃ p,D k=some p/\rA w P v p):=by
 obtain ⟨f,⟨E,g1,g2,g3⟩,h2⟩:=h.m;obtain ⟨v,ps,hr,hv⟩:=g1.look_ok (int_keyed Tryz.underlying3) Tryz.underlying100 (TL w) (zd:=.held (.agg #[.int .i64 0,.slice none 0 0])) (zp:=[]) rfl (aaE k hk);rw [g2] at hv;rcases h2 k with ⟨a,b⟩ | ⟨q,u,a,b,hu⟩
 · rw [b] at hv
   simp [su] at hv
   have hh:Maps.has E (eZ k)=false:=has_false_of_atKey (λz=>by rw [g2,b]);rw [hh] at hr;exact ⟨v,by rw [a]; exact hr,.inl ⟨a,hv.1⟩⟩
 · rw [b] at hv
   simp [su] at hv
   have hh:Maps.has E (eZ k)=true:=has_true_of_atKey (y:=.held u) (λz=>by rw [g2,b]);rw [hh] at hr;exact ⟨v,by rw [a]; exact hr,.inr ⟨q,a,by rw [hv.1]; exact hu⟩⟩
theorem dE.store (h:dE w P bm D) {k:Nat} {p:Pg} {v:Value} (hv:rA w P v p) (hok:bA (k:Int) p.1 p.2=true) (hbm:P bm) :
 ∃ w',(Instr.mapUpdate 100 (.map (some bm)) (.int .i64 (k:Nat)) v).run Tryz.prog w=.ok () w'/\dE w' P bm (upd D k (some p))/\w.grownBy w' (some bm):=by
 obtain ⟨f,h1,h2⟩:=h.m;have hlt:k < 1024:=by have:=(dQ hok).2.1; omega
 obtain ⟨w',hr,h3,hg⟩:=h1.store (t:=100) (E:=72) Tryz.underlying3 Tryz.underlying100 k hlt (by omega) (by simp [maxLen]) v;have ht:aa w w' P P:=.aA hg (λj e=>by cases e; exact hbm);refine ⟨w',hr,⟨⟨_,h3,λj=>?_⟩,h.ok.upd hok⟩,hg⟩
 by_cases e:j=k
 · subst e;exact .inr ⟨p,v,upd_same _ _ _,if_pos rfl,hv.turn ht⟩
 · rcases h2 j with ⟨a,b⟩ | ⟨q,u,a,b,hu⟩
   · exact .inl ⟨by rw [upd_ne _ _ e]; exact a,by simp only [if_neg e]; exact b⟩
   · exact .inr ⟨q,u,by rw [upd_ne _ _ e]; exact a,by simp only [if_neg e]; exact b,hu.turn ht⟩
theorem dE.clear (h:dE w P bm D) (ty:TypeId):∃ w',(Builtin.clear_ #[100] ty #[.map (some bm)]).run Tryz.prog w=.ok (.tuple #[]) w'/\dE w' P bm aM/\w.grownBy w' (some bm):=by
 obtain ⟨f,h1,h2⟩:=h.m;obtain ⟨w',hr,h3,hg⟩:=h1.clear Tryz.underlying100 ty;exact ⟨w',hr,⟨⟨_,h3,λk=>.inl ⟨rfl,rfl⟩⟩,bg.none_⟩,hg⟩
end
def pW (b tb:Nat) (lv:Value) (dm:Nat) (wm:Option Nat) (x:Sb):Array Value :=
 #[.pointer (some ⟨b,0,none⟩),.pointer (some ⟨tb,0,none⟩),.int .i64 (x.gn:Nat),.int .i64 (x.ep:Nat),.int .i64 (x.pg:Nat),.int .i64 (x.st:Nat),.int .i64 (x.ln:Nat),.int .i64 (x.hd:Nat),.int .i64 (x.sq:Nat),
  lv,.map (some dm),.map wm]
def aD (own:Nat->Prop) (tb g sb dm:Nat) (wm:Option Nat):Nat->Prop:=λi=>fC own tb g i\/i=sb\/i=dm\/wm=some i
def FZ (Z F:Nat->Prop):Nat->Prop:=λi=>F i\/Z i
theorem jb {Z F F':Nat->Prop} {w w':World} (h:aa w w' F F'):aa w w' (FZ Z F) (FZ Z F') :=
 ⟨h.os,h.tape,h.output,h.size,λi hi hn=>h.block i hi (λe=>hn (.inl e)),λi hi=>by
  rcases hi with hi | hi
  · exact (h.fresh i hi).imp .inl id
  · exact .inl (.inr hi)⟩
structure aS (Z:Nat->Prop) (lv:Value) (w:World) (B b tb g sb dm:Nat) (wm:Option Nat) (own:Nat->Prop) (s:Sto):Prop where
 l:gG w B b tb g s.S own s.L
 r:Ready w tb
 c:af w sb 102 (pW b tb lv dm wm s.x)
 d:dE w (FZ Z (aD own tb g sb dm wm)) dm s.D
 u:∀ U,s.W=some U->∃ m,wm=some m/\dE w (FZ Z (aD own tb g sb dm wm)) m U
 n:s.W=none->wm=none
 may:aL s.x.l (s.S.n:Nat)=true
 rX:¬ fC own tb g sb
 qX:¬ fC own tb g dm/\dm≠sb
 vM:∀ m,wm=some m->¬ fC own tb g m/\m≠sb/\m≠dm
 low:B<=tb/\B<=g/\B<=sb/\B<=dm/\∀ m,wm=some m->B<=m
 z:∀ i,Z i->i < w.heap.size
abbrev bf (Z:Nat->Prop) (w:World) (B b tb g sb dm:Nat) (wm:Option Nat) (own:Nat->Prop) (s:Sto):Prop:=aS Z (.pointer (some ⟨g,0,none⟩)) w B b tb g sb dm wm own s
abbrev DD (w:World) (B b tb g sb dm:Nat) (wm:Option Nat) (own:Nat->Prop) (s:Sto):Prop:=bf (λ_=>False) w B b tb g sb dm wm own s
section
variable {Z:Nat->Prop} {lv:Value} {w w':World} {B b tb g sb dm:Nat} {wm:Option Nat} {own:Nat->Prop} {s:Sto}
theorem aS.cells (h:aS Z lv w B b tb g sb dm wm own s):w.cell? ⟨sb,0,none⟩=some (.pointer (some ⟨b,0,none⟩))/\w.cell? ⟨sb,1,none⟩=some (.pointer (some ⟨tb,0,none⟩)) /\
 w.cell? ⟨sb,2,none⟩=some (.int .i64 (s.x.gn:Nat))/\w.cell? ⟨sb,3,none⟩=some (.int .i64 (s.x.ep:Nat))/\w.cell? ⟨sb,4,none⟩=some (.int .i64 (s.x.pg:Nat))/\w.cell? ⟨sb,5,none⟩=some (.int .i64 (s.x.st:Nat)) /\
 w.cell? ⟨sb,6,none⟩=some (.int .i64 (s.x.ln:Nat))/\w.cell? ⟨sb,7,none⟩=some (.int .i64 (s.x.hd:Nat))/\w.cell? ⟨sb,8,none⟩=some (.int .i64 (s.x.sq:Nat)) /\
 w.cell? ⟨sb,9,none⟩=some lv/\w.cell? ⟨sb,10,none⟩=some (.map (some dm))/\w.cell? ⟨sb,11,none⟩=some (.map wm):=by
 have hb:=h.c;refine ⟨?_,?_,?_,?_,?_,?_,?_,?_,?_,?_,?_,?_⟩ <;> (rw [hb.cell]; rfl)
theorem aS.fz (h:aS Z lv w B b tb g sb dm wm own s) (i:Nat):w.frozen? ⟨sb,i,none⟩=false:=h.c.frozen i
theorem aS.bO (h:aS Z lv w B b tb g sb dm wm own s) {i:Nat} (hi:aD own tb g sb dm wm i):i < w.heap.size:=by
 rcases hi with hi | hi | hi | hi
 · exact h.l.kL hi
 · rw [hi]; exact h.c.lt
 · rw [hi]; exact h.d.lt
 · cases hw:s.W with
   | none=>rw [h.n hw] at hi; cases hi
   | some U =>
     obtain ⟨m,e,hm⟩:=h.u U hw;rw [e] at hi; cases hi;exact hm.lt
theorem aS.Y7 (h:aS Z lv w B b tb g sb dm wm own s) {i:Nat} (hi:FZ Z (aD own tb g sb dm wm) i):i < w.heap.size:=hi.elim (λh1=>h.bO h1) (h.z i)
theorem aS.il (h:aS Z lv w B b tb g sb dm wm own s) {i:Nat} (hi:aD own tb g sb dm wm i):B<=i:=by
 obtain ⟨l1,l2,l3,l4,l5⟩:=h.low;rcases hi with ((hi | hi) | hi) | hi | hi | hi
 · exact h.l.s.low hi
 · rw [hi]; exact l1
 · rw [hi]; exact l2
 · rw [hi]; exact l3
 · rw [hi]; exact l4
 · exact l5 i hi
theorem oG {own own':Nat->Prop} {w w':World} {tb g sb dm:Nat} {wm:Option Nat} (ht:aa w w' (fC own tb g) (fC own' tb g)):aa w w' (aD own tb g sb dm wm) (aD own' tb g sb dm wm) :=
 ⟨ht.os,ht.tape,ht.output,ht.size,λi hi hn=>ht.block i hi (λe=>hn (.inl e)),λi hi=>by
  rcases hi with hi | hi
  · rcases ht.fresh i hi with h1 | h1
    · exact .inl (.inl h1)
    · exact .inr h1
  · exact .inl (.inr hi)⟩
theorem aS.logs (h:aS Z lv w B b tb g sb dm wm own s) {T:St} {M:Lg} {own':Nat->Prop} (hl:gG w' B b tb g T own' M) (ht:aa w w' (fC own tb g) (fC own' tb g)) (hr:Ready w' tb) (hn:T.n=s.S.n) :
 aS Z lv w' B b tb g sb dm wm own' { s with S:=T,L:=M }:=by
 have hb:∀ i,i < w.heap.size->¬ fC own tb g i->w'.heap[i]?=w.heap[i]?:=λi hi hn=>ht.block i hi hn
 have hno:∀ i,i < w.heap.size->¬ fC own tb g i->¬ fC own' tb g i:=λi hi hn hp=>by
  rcases ht.fresh i hp with h4 | h4
  · exact hn h4
  · omega
 refine ⟨hl,hr,aj h.c (hb sb h.c.lt h.rX),h.d.turn (jb (oG ht)) (hb dm h.d.lt h.qX.1),λU hU=>?_,h.n,by show aL s.x.l (T.n:Nat)=true; rw [hn]; exact h.may,hno sb h.c.lt h.rX,⟨hno dm h.d.lt h.qX.1,h.qX.2⟩,λm hm=>?_,h.low,λi hi=>ake (h.z i hi) ht.size⟩
 · obtain ⟨m,e,hm⟩:=h.u U hU;exact ⟨m,e,hm.turn (jb (oG ht)) (hb m hm.lt (h.vM m e).1)⟩
 · exact ⟨hno m (h.bO (.inr (.inr (.inr hm)))) (h.vM m hm).1,(h.vM m hm).2⟩
theorem aS.quiet (h:aS Z lv w B b tb g sb dm wm own s) (hg:w.grownBy w' none):aS Z lv w' B b tb g sb dm wm own s :=
 h.logs (h.l.quiet hg) (aa.none_ hg) (h.r.keep hg (by simp)) rfl
theorem aS.other {Z' F F':Nat->Prop} (h:aS Z lv w B b tb g sb dm wm own s) (ht:aa w w' F F') (hF:∀ i,F i->Z i) (hd:∀ i,aD own tb g sb dm wm i->¬ F i) (hZ:∀ i,Z' i->Z i\/w.heap.size<=i) (hlt:∀ i,Z' i->i < w'.heap.size):aS Z' lv w' B b tb g sb dm wm own s:=by
 have hP:aa w w' (FZ Z (aD own tb g sb dm wm)) (FZ Z' (aD own tb g sb dm wm)):=⟨ht.os,ht.tape,ht.output,ht.size,λi hi hn=>ht.block i hi (λe=>hn (.inr (hF i e))),λi hi=>by
  rcases hi with hi | hi
  · exact .inl (.inl hi)
  · exact (hZ i hi).imp .inr id⟩
 have hk:∀ i,aD own tb g sb dm wm i->w'.heap[i]?=w.heap[i]?:=λi hi=>ht.block i (h.bO hi) (hd i hi)
 refine ⟨?_,?_,aj h.c (hk sb (.inr (.inl rfl))),h.d.turn hP (hk dm (.inr (.inr (.inl rfl)))),λU hU=>?_,h.n,h.may,h.rX,h.qX,h.vM,h.low,hlt⟩
 · obtain ⟨⟨⟨bd,bm,f,hdl⟩,ht2,hn,hs⟩,hl,ho,hkk⟩:=h.l;exact ⟨⟨⟨bd,bm,f,hdl.keep ht.size (λi hi=>hk i (.inl (.inl (.inl hi))))⟩,BA ht2 (hk tb (.inl (.inl (.inr rfl)))),hn,akh hs ht.size⟩,hl.block (hk g (.inl (.inr rfl))),ho,hkk⟩
 · obtain ⟨cs,hb,hr⟩:=h.r;exact ⟨cs,aj hb (hk tb (.inl (.inl (.inr rfl)))),hr⟩
 · obtain ⟨m,e,hm⟩:=h.u U hU;exact ⟨m,e,hm.turn hP (hk m (.inr (.inr (.inr e))))⟩
theorem aS.disk (h:aS Z lv w B b tb g sb dm wm own s) {T:St} {own':Nat->Prop} (hd:dU w' B b T own') (ht:aa w w' own own') (hn:T.n=s.S.n):aS Z lv w' B b tb g sb dm wm own' (s.disk T) :=
 h.logs (h.l.disk hd ht hn) (nR (qP ht tb) g) (by
  obtain ⟨cs,hb,hr⟩:=h.r;exact ⟨cs,aj hb (ht.block tb hb.lt h.l.s.n),hr⟩) hn
theorem aS.za (hg:w.grownBy w' (some sb)):aa w w' (aD own tb g sb dm wm) (aD own tb g sb dm wm):=.aA hg (λj e=>by cases e; exact .inr (.inl rfl))
theorem aS.ad5 (h:aS Z lv w B b tb g sb dm wm own s) (hg:w.grownBy w' (some sb)) {x':Sb} (hc:af w' sb 102 (pW b tb lv dm wm x')) (hm:aL x'.l (s.S.n:Nat)=true):aS Z lv w' B b tb g sb dm wm own { s with x:=x' } where
 l:=h.l.far hg (λq e=>(by cases e; exact h.rX))
 r:=h.r.keep hg (λe=>(by cases e; exact h.rX (.inl (.inr rfl))))
 c:=hc
 d:=h.d.turn (jb (aS.za hg)) (hg.block dm h.d.lt (λe=>by cases e; exact h.qX.2 rfl))
 u:=λU hU=>by
  obtain ⟨m,e,hm⟩:=h.u U hU;exact ⟨m,e,hm.turn (jb (aS.za hg)) (hg.block m hm.lt (λe2=>(h.vM m e).2.1 (by cases e2; rfl)))⟩
 n:=h.n
 may:=hm
 rX:=h.rX
 qX:=h.qX
 vM:=h.vM
 low:=h.low
 z:=λi hi=>ake (h.z i hi) hg.size
theorem aS.begun (h:aS Z lv w B b tb g sb dm none own s) :
 aS Z lv ((w.alloc (.map #[] 0)).setCell ⟨sb,11,none⟩ (.map (some w.heap.size))) B b tb g sb dm (some w.heap.size) own { s with W:=some aM } /\
 aa w ((w.alloc (.map #[] 0)).setCell ⟨sb,11,none⟩ (.map (some w.heap.size))) (aD own tb g sb dm none) (aD own tb g sb dm (some w.heap.size)):=by
 have hga:=aj9 w (.map #[] 0) none;have h1:=h.quiet hga;have hg:=akd (akr (w.alloc (.map #[] 0)) (some sb)) 11 (.map (some w.heap.size));have hw:∀ i,i < w.heap.size->aD own tb g sb dm (some w.heap.size) i->aD own tb g sb dm none i:=λi hi hf=>by
  rcases hf with hf | hf | hf | hf
  · exact .inl hf
  · exact .inr (.inl hf)
  · exact .inr (.inr (.inl hf))
  · cases hf; omega
 have hwz:∀ i,i < w.heap.size->FZ Z (aD own tb g sb dm (some w.heap.size)) i->FZ Z (aD own tb g sb dm none) i:=λi hi hf=>hf.imp (hw i hi) id
 have ht:aa (w.alloc (.map #[] 0)) ((w.alloc (.map #[] 0)).setCell ⟨sb,11,none⟩ (.map (some w.heap.size))) (aD own tb g sb dm (some w.heap.size)) (aD own tb g sb dm (some w.heap.size)):=aS.za hg;have hsb:=h.c.lt;have hlow:=h.il (i:=sb) (.inr (.inl rfl));have hm0:∀ i,aD own tb g sb dm none i->i≠w.heap.size:=λi hi e=>by have:=h.bO hi; omega
 refine ⟨⟨h1.l.far hg (λq e=>(by cases e; exact h.rX)),h1.r.keep hg (λe=>(by cases e; exact h.rX (.inl (.inr rfl)))),h1.c.aC 11 _,?_,λU hU=>?_,λe=>(by cases e),h.may,h.rX,h.qX,λm e=>?_,⟨h.low.1,h.low.2.1,h.low.2.2.1,h.low.2.2.2.1,λm e=>(by cases e; omega)⟩,λi hi=>ake (h1.z i hi) hg.size⟩,?_⟩
 · exact ((h.d.weak hwz).turn (aa.none_ hga) (hga.block dm h.d.lt (by simp))).turn (jb ht) (hg.block dm (ake h.d.lt hga.size) (λe=>by cases e; exact h.qX.2 rfl))
 · cases hU
   exact ⟨_,rfl,(dE.made w _).turn (jb ht) (hg.block _ (by simp) (λe=>by cases e; omega))⟩
 · cases e
   exact ⟨λho=>hm0 _ (.inl ho) rfl,λe=>by omega,λe=>by have:=h.d.lt; omega⟩
 · refine ⟨hg.os.trans hga.os,hg.tape.trans hga.tape,hg.output.trans hga.output,akh hga.size hg.size,λi hi hn=>?_,λi hi=>?_⟩
   · exact (hg.block i (ake hi hga.size) (λe=>by cases e; exact hn (.inr (.inl rfl)))).trans (hga.block i hi (by simp))
   · by_cases hi2:i < w.heap.size
     · exact .inl (hw i hi2 hi)
     · exact .inr (by omega)
theorem aS.Dv (h:aS Z lv w B b tb g sb dm wm own s) :
 aS Z lv (w.setCell ⟨sb,11,none⟩ (.map none)) B b tb g sb dm none own s.idle/\aa w (w.setCell ⟨sb,11,none⟩ (.map none)) (aD own tb g sb dm wm) (aD own tb g sb dm none):=by
 have hg:=akd (akr w (some sb)) 11 (.map none);have hw:∀ i,aD own tb g sb dm none i->aD own tb g sb dm wm i:=λi hf=>by
  rcases hf with hf | hf | hf | hf
  · exact .inl hf
  · exact .inr (.inl hf)
  · exact .inr (.inr (.inl hf))
  · cases hf
 have ht:aa w (w.setCell ⟨sb,11,none⟩ (.map none)) (aD own tb g sb dm none) (aD own tb g sb dm none):=aS.za hg;refine ⟨⟨h.l.far hg (λq e=>(by cases e; exact h.rX)),h.r.keep hg (λe=>(by cases e; exact h.rX (.inl (.inr rfl)))),h.c.aC 11 _,?_,λU hU=>(by cases hU),λ_=>rfl,h.may,h.rX,h.qX,λm e=>(by cases e),⟨h.low.1,h.low.2.1,h.low.2.2.1,h.low.2.2.2.1,λm e=>(by cases e)⟩,λi hi=>ake (h.z i hi) hg.size⟩,?_⟩
 · exact (h.d.weak (Q:=FZ Z (aD own tb g sb dm none)) (λi _ hi=>hi.imp (hw i) id)).turn (jb ht) (hg.block dm h.d.lt (λe=>by cases e; exact h.qX.2 rfl))
 · refine ⟨hg.os,hg.tape,hg.output,hg.size,λi hi hn=>?_,λi hi=>.inl (hw i hi)⟩;exact hg.block i hi (λe=>by cases e; exact hn (.inr (.inl rfl)))
end
end Go.Proofs.YtinajlbijgedbaaGreat.Sto
