/- Texts of this seat's proofs: LogSmall, SupBoth, SupLoad, SupLoad2. -/
import Derived.Test.YtinajlbijgedbaaGreatQSupSave
import Derived.Test.YtinajlbijgedbaaGreatQCodecBits
import Derived.Deep.QuietTactic
import Derived.BigQuiet
set_option maxRecDepth 100000
set_option maxHeartbeats 16000000
namespace Go.Proofs.YtinajlbijgedbaaGreat.Log
open Lib (hid)
open Go.RowKit CrcMath CodecMath Mem Crc Codec DiskSpec Dsk Sup
theorem wR (n:Nat) (w:World) (h1:n<=1099511627776):Calls Tryz.prog 138 #[.int .i64 (n:Nat)] w λe w'=>e=.returned (.int .i64 (1+n:Nat))/\w'=w:=by
 go_enter Tryz.func138,Tryz.ntmps138;go_wp2;go_ret;exact ⟨zg (by omega),rfl⟩
theorem Ai {w:World} {g b tb:Nat} {L:Lg} (h:dS w g L b tb) (hk:L.taken<=L.ln) (hl:L.ln<=1099511627776) :
 Calls Tryz.prog 135 #[.pointer (some ⟨g,0,none⟩)] w λe w'=>e=.returned (.int .i64 (L.room:Nat))/\∃ m,w'=w.drewN m:=by
 obtain ⟨_,_,_,_,x6,_,_,uI,x12⟩:=h.cells
 cases hb:L.broken with
 | true =>
   rw [hb] at x12;have HR:=hid (show L.room=0 by simp [Lg.room,hb]);clear hb;go_enter Tryz.func135,Tryz.ntmps135;go_wp2;go_ret;exact ⟨by rw [HR.out]; rfl,0,rfl⟩
 | false =>
   rw [hb] at x12;have HR:=hid (show L.room=L.ln - L.taken by simp [Lg.room,hb]);clear hb;go_enter Tryz.func135,Tryz.ntmps135;go_wp2_with fail
   go_quiet (fail)
   go_wp2;go_ret;exact ⟨by rw [HR.out]; exact zg (by omega),_,rfl⟩
theorem XQ {w:World} {g b tb:Nat} {L:Lg} (h:dS w g L b tb) :
 Calls Tryz.prog 144 #[.pointer (some ⟨g,0,none⟩)] w λe w'=>e=.returned (.tuple #[.int .i64 (L.tail:Nat),.int .i64 (L.seq:Nat)])/\∃ m,w'=w.drewN m:=by
 obtain ⟨_,_,_,_,_,x9,x10,_,_⟩:=h.cells;go_enter Tryz.func144,Tryz.ntmps144;go_wp2_with fail
 go_quiet (fail)
 go_wp2;go_ret2;exact ⟨rfl,_,rfl⟩
theorem JY {w:World} {g b tb:Nat} {L:Lg} (h:dS w g L b tb) (k:Nat) (hk:k<=1099511627776) (ht:L.tail<=1099511627776) (h1:1<=L.ln) :
 Calls Tryz.prog 162 #[.pointer (some ⟨g,0,none⟩),.int .i64 (k:Nat)] w λe w'=>e=.returned (.int .i64 ((L.tail+k) % L.ln:Nat))/\∃ m,w'=w.drewN m:=by
 obtain ⟨_,_,_,_,x6,x9,_,_,_⟩:=h.cells;have hw1:IntKind.i64.wrap ((L.tail:Int)+(k:Int))=(L.tail:Int)+(k:Int):=IntWalk.i64_in _ (by omega);have hne:¬ ((L.ln:Int)=0):=by omega
 have hnb:((L.ln:Int) == 0)=false:=by simp; omega
 have HV:=hid (show ((L.tail:Int)+(k:Int)).tmod (L.ln:Int)=(((L.tail+k) % L.ln:Nat):Int) from by
  rw [akm (by omega)]; simp)
 have HW:=hid (show IntKind.i64.wrap ((((L.tail+k) % L.ln:Nat)):Int)=(((L.tail+k) % L.ln:Nat):Int) from IntWalk.i64_in _ (by have:=Nat.mod_lt (L.tail+k) (show 0 < L.ln by omega); have:=Nat.mod_le (L.tail+k) L.ln; omega));go_enter Tryz.func162,Tryz.ntmps162;go_wp2_with fail
 go_quiet (fail)
 go_wp2;go_ret;exact ⟨zg (by first | exact HV.out | (rw [HV.out,HW.out]) | (simp [HV.out])),_,rfl⟩
end Go.Proofs.YtinajlbijgedbaaGreat.Log
namespace Go.Proofs.YtinajlbijgedbaaGreat.Sup
open Lib (hid)
open Go.RowKit CrcMath CodecMath Mem Crc Codec DiskSpec Dsk
def jN (S:St):Int:=if (aH (aH S 0 1).2 1 1).1=0 then (aH S 0 1).1 else (aH (aH S 0 1).2 1 1).1
theorem nC (S:St) (a c:Int):(aH S a c).2.n=S.n:=by unfold aH; split; rfl; split <;> rfl
theorem qU {S:St} (h:2<=S.n) (a:Nat) (ha:a < 2):(aH S a 1).1=0\/(aH S a 1).1=10:=by
 have:S.has a 1=true:=by simp [St.has]; omega
 unfold aH;rw [if_neg (by rw [this]; simp)]
 split
 · exact .inr rfl
 · exact .inl rfl
theorem Ku {S:St} (h:2<=S.n):jN S=if (aH S 0 1).1≠0\/(aH (aH S 0 1).2 1 1).1≠0 then 10 else 0:=by
 have h0:=qU h 0 (by omega);have h1:=qU (S:=(aH S 0 1).2) (by rw [nC]; exact h) 1 (by omega);unfold jN;rcases h0 with h0 | h0 <;> rcases h1 with h1 | h1 <;> rw [show ((0:Nat):Int)=0 from rfl] at h0 <;> rw [show ((1:Nat):Int)=1 from rfl] at h1 <;> rw [h0,h1] <;> simp
theorem jM {w:World} {base:Nat} {v:Value} {l:List Nat} (h:iD w base v l):∃ A n c,v=.slice A n c:=by
 rcases h with ⟨rfl,_⟩ | ⟨g,cap,rfl,_⟩
 · exact ⟨_,_,_,rfl⟩
 · exact ⟨_,_,_,rfl⟩
theorem Sz {w w':World} {base:Nat} {v:Value} {l:List Nat} {row:Option Nat} (h:iD w base v l) (hg:w.grownBy w' row) (hr:∀ g,base<=g->g < w.heap.size->row≠some g):iD w' base v l:=by
 rcases h with h | ⟨g,cap,hv,hb,hbk⟩
 · exact .inl h
 · exact .inr ⟨g,cap,hv,hb,hbk.grown hg (λe=>hr g hb hbk.lt e.symm)⟩
theorem VO {w w':World} {base:Nat} {v:Value} {l:List Nat} {o o':Nat->Prop} (h:iD w base v l) (ht:aa w w' o o') (hn:∀ g,base<=g->¬ o g):iD w' base v l:=by
 rcases h with h | ⟨g,cap,hv,hb,hbk⟩
 · exact .inl h
 · exact .inr ⟨g,cap,hv,hb,aj hbk (ht.block g hbk.lt (hn g hb))⟩
theorem Ay {w:World} {base base':Nat} {v:Value} {l:List Nat} (h:iD w base v l) (hb:base'<=base):iD w base' v l:=by
 rcases h with h | ⟨g,cap,hv,hbb,hbk⟩
 · exact .inl h
 · exact .inr ⟨g,cap,hv,akh hb hbb,hbk⟩
structure RB (w wr:World) (own:Nat->Prop) (B b:Nat) (S:St) (c0 c1:Value):Prop where
 d:dU wr B b S own
 t:aa w wr own own
 r:af wr w.heap.size 195 #[.slice none 0 0,.slice none 0 0]
 a:af wr (w.heap.size+1) 195 #[c0,c1]
 l:∀ i,own i->i < w.heap.size
theorem RB.read {w wr w':World} {own:Nat->Prop} {B b:Nat} {S S':St} {c0 c1:Value} (h:RB w wr own B b S c0 c1) (hd:dU w' B b S' own) (ht:aa wr w' own own):RB w w' own B b S' c0 c1 :=
 ⟨hd,h.t.trans ht,aj h.r (ht.block _ h.r.lt (λho=>by have:=h.l _ ho; omega)),aj h.a (ht.block _ h.a.lt (λho=>by have:=h.l _ ho; omega)),h.l⟩
theorem RB.aC {w wr:World} {own:Nat->Prop} {B b:Nat} {S:St} {c0 c1:Value} (h:RB w wr own B b S c0 c1) (j:Nat) (v:Value) {d0 d1:Value} (he:(#[c0,c1]:Array Value).setIfInBounds j v=#[d0,d1]):RB w (wr.setCell ⟨w.heap.size+1,j,none⟩ v) own B b S d0 d1:=by
 have hg:wr.grownBy (wr.setCell ⟨w.heap.size+1,j,none⟩ v) (some (w.heap.size+1)):=akd (akr wr _) j v;refine ⟨iA h.d hg (λi e=>by cases e; exact λho=>by have:=h.l _ ho; omega),kG h.t hg (by omega),h.r.grown hg (by simp),?_,h.l⟩;rw [<-he];exact h.a.aC j v
theorem qJ {wr:World} {base g j:Nat} {v u:Value} {l:List Nat} (h:iD wr base v l) (hg:g < base):iD (wr.setCell ⟨g,j,none⟩ u) base v l :=
 Sz h (akd (akr wr (some g)) j u) (λk hk _ e=>by cases e; omega)
theorem BV {w:World} {B b:Nat} {S:St} {own:Nat->Prop} (h:dU w B b S own) (hn:2<=S.n) :
 Calls Tryz.prog 133 #[.pointer (some ⟨b,0,none⟩)] w λe w'=>∃ v0 v1,e=.returned (.tuple #[.agg #[v0,v1],.int .i64 (jN S)])/\iD w' w.heap.size v0 (dz S 0 1)/\iD w' w.heap.size v1 (dz (aH S 0 1).2 1 1)/\dU w' B b (mH S) own/\aa w w' own own:=by
 have hl:∀ i,own i->i < w.heap.size:=by obtain ⟨_,_,_,hd⟩:=h; exact hd.lt
 have hr0:∀ wx,dU wx B b S own->Calls Tryz.prog 154 #[.pointer (some ⟨b,0,none⟩),.int .i64 0,.int .i64 1] wx λe w'=>∃ v,e=.returned (.tuple #[v,.int .i64 (aH S 0 1).1])/\iD w' wx.heap.size v (dz S 0 1)/\dU w' B b (aH S 0 1).2 own/\aa wx w' own own:=λwx hx=>vH hx 0 1 (by omega) (by omega)
 have hr1:∀ wx,dU wx B b (aH S 0 1).2 own->Calls Tryz.prog 154 #[.pointer (some ⟨b,0,none⟩),.int .i64 1,.int .i64 1] wx λe w'=>∃ v,e=.returned (.tuple #[v,.int .i64 (aH (aH S 0 1).2 1 1).1])/\iD w' wx.heap.size v (dz (aH S 0 1).2 1 1)/\dU w' B b (mH S) own/\aa wx w' own own:=λwx hx=>vH hx 1 1 (by omega) (by omega)
 have h0:(aH S 0 1).1=0\/(aH S 0 1).1=10:=qU hn 0 (by omega);have h1:(aH (aH S 0 1).2 1 1).1=0\/(aH (aH S 0 1).2 1 1).1=10:=qU (S:=(aH S 0 1).2) (by rw [nC]; exact hn) 1 (by omega);have hE:jN S=if (aH (aH S 0 1).2 1 1).1=0 then (aH S 0 1).1 else (aH (aH S 0 1).2 1 1).1:=rfl;have HL:=hid hl; have fA:=hid hr0; have HR1:=hid hr1;have akz:=hid (show RB w ((w.alloc (.cells #[.slice none 0 0,.slice none 0 0] 195)).alloc (.cells #[.slice none 0 0,.slice none 0 0] 195)) own B b S (.slice none 0 0) (.slice none 0 0) from
  ⟨iA h ((aj9 w _ none).trans (aj9 _ _ none)) (λ_ e=>by cases e),aa.none_ ((aj9 w _ none).trans (aj9 _ _ none)),(af.new w _ _).alloc _,by simpa using af.new (w.alloc (.cells #[.slice none 0 0,.slice none 0 0] 195)) 195 #[.slice none 0 0,.slice none 0 0],hl⟩)
 clear hl hr0 hr1 h;generalize jN S=EE at *;generalize (aH (aH S 0 1).2 1 1).1=E1 at *;generalize mH S=S2 at *;generalize dz (aH S 0 1).2 1 1=L1 at *;generalize (aH S 0 1).2=S1 at *;generalize (aH S 0 1).1=E0 at *;generalize dz S 0 1=L0 at *;have HE:=hid hE; have H0:=hid h0; have H1:=hid h1;clear hE h0 h1 hn;go_enter Tryz.func133,Tryz.ntmps133;go_wp2_with fail
 go_loopw [5,6,7,8,9] (λer _ _ _ i wr =>
  (i=.int .i64 0/\er=.int .i64 0/\RB w wr own B b S (.slice none 0 0) (.slice none 0 0)) \/
  (i=.int .i64 1/\er=.int .i64 E0/\∃ v0,iD wr (w.heap.size+2) v0 L0/\RB w wr own B b S1 v0 (.slice none 0 0)) \/
  (i=.int .i64 2/\er=.int .i64 EE/\∃ v0 v1,iD wr (w.heap.size+2) v0 L0/\iD wr (w.heap.size+2) v1 L1/\RB w wr own B b S2 v0 v1)) (λ_ _ _ _ i _=>2 - (Go.RowKit.intOf i).toNat)
 case atStart=>exact .inl ⟨rfl,rfl,akz.out⟩
 case round =>
  clear akz;rcases hrel with ⟨rfl,rfl,hrb⟩ | ⟨rfl,rfl,v0,hg0,hrb⟩ | ⟨rfl,rfl,v0,v1,hg0,hg1,hrb⟩
  · have akz:=hid hrb;have hsz:=hrb.a.lt;clear hrb;go_wp2_with fail;refine (fA.out _ akz.out.d).mono ?_;rintro e w1 ⟨v,rfl,hgv,hd,ht⟩;have Ar:=akz.out.read hd ht;have FC:=Ay (base':=w.heap.size+2) hgv (by omega);obtain ⟨A,n,c,rfl⟩:=jM FC;have hcl:=Ar.a.cell 0;have hfr:=Ar.a.frozen 0;simp only [akb,aka] at hcl;have Ot:=hid (Ar.aC 0 (.slice A n c) (d0:=.slice A n c) (d1:=.slice none 0 0) rfl)
    have yE:=hid (qJ (g:=w.heap.size+1) (j:=0) (u:=.slice A n c) FC (by omega));clear hgv hd ht Ar FC hsz akz;rcases H0.out with hE0 | hE0
    · subst hE0;go_wp2_with fail
      go_roundw
      case rel=>exact .inr (.inl ⟨rfl,rfl,_,yE.out,Ot.out⟩)
      case measure=>simp [Go.RowKit.intOf]
    · subst hE0;go_wp2_with fail
      go_roundw
      case rel=>exact .inr (.inl ⟨rfl,rfl,_,yE.out,Ot.out⟩)
      case measure=>simp [Go.RowKit.intOf]
  · have akz:=hid hrb;have hsz:=hrb.a.lt;obtain ⟨A0,n0,c0,rfl⟩:=jM hg0;have gM:=hid hg0;clear hrb hg0;go_wp2_with fail;refine (HR1.out _ akz.out.d).mono ?_;rintro e w1 ⟨v,rfl,hgv,hd,ht⟩;have Ar:=akz.out.read hd ht;have FC:=Ay (base':=w.heap.size+2) hgv (by omega);have ab5:=VO gM.out ht (λg hg ho=>by have:=akz.out.l g ho; omega);obtain ⟨A,n,c,rfl⟩:=jM FC;have hcl:=Ar.a.cell 1;have hfr:=Ar.a.frozen 1
    simp only [akb,aka,akc] at hcl;have Ot:=hid (Ar.aC 1 (.slice A n c) (d0:=.slice A0 n0 c0) (d1:=.slice A n c) rfl);have yE:=hid (qJ (g:=w.heap.size+1) (j:=1) (u:=.slice A n c) FC (by omega));have bz:=hid (qJ (g:=w.heap.size+1) (j:=1) (u:=.slice A n c) ab5 (by omega));clear hgv hd ht Ar FC ab5 hsz akz gM;rcases H1.out with hE1 | hE1
    · have Q8:=hid (show EE=E0 by rw [HE.out,if_pos hE1]);subst hE1;go_wp2_with fail
      go_roundw
      case rel=>exact .inr (.inr ⟨rfl,by rw [Q8.out],_,_,bz.out,yE.out,Ot.out⟩)
      case measure=>simp [Go.RowKit.intOf]
    · have Q8:=hid (show EE=10 by rw [HE.out,if_neg (by rw [hE1]; omega),hE1]);subst hE1;go_wp2_with fail
      go_roundw
      case rel=>exact .inr (.inr ⟨rfl,by rw [Q8.out],_,_,bz.out,yE.out,Ot.out⟩)
      case measure=>simp [Go.RowKit.intOf]
  · obtain ⟨A0,n0,c0,rfl⟩:=jM hg0;obtain ⟨A1,n1,c1,rfl⟩:=jM hg1;have akz:=hid hrb; have bz:=hid hg0; have az:=hid hg1;have x0:=hrb.a.cell 0; have x1:=hrb.a.cell 1;have y0:=hrb.r.cell 0; have y1:=hrb.r.cell 1;have z0:=hrb.r.frozen 0; have z1:=hrb.r.frozen 1;simp only [akb,aka,akc] at x0 x1 y0 y1;clear hrb hg0 hg1;go_wp2_with fail;refine di rfl w.heap.size 195 _ _ rfl (af.set2 akz.out.r) Tryz.underlying195 rfl (by kernel_rfl) rfl ⟨_,_,rfl,?_,?_,?_,?_⟩
    · exact Ay (qJ (qJ bz.out (by omega)) (by omega)) (by omega)
    · exact Ay (qJ (qJ az.out (by omega)) (by omega)) (by omega)
    · have hg:∀ (wx:World) (j:Nat) (u:Value),dU wx B b S2 own->dU (wx.setCell ⟨w.heap.size,j,none⟩ u) B b S2 own:=λwx j u hx =>
       iA hx (akd (akr wx (some w.heap.size)) j u) (λi e=>by cases e; exact λho=>by have:=HL.out _ ho; omega)
      exact hg _ _ _ (hg _ _ _ akz.out.d)
    · have hg:∀ (wx:World) (j:Nat) (u:Value),aa w wx own own->aa w (wx.setCell ⟨w.heap.size,j,none⟩ u) own own:=λwx j u hx =>
       kG hx (akd (akr wx (some w.heap.size)) j u) (akf _)
      exact hg _ _ _ (hg _ _ _ akz.out.t)
def seen (n:Int) (l0 l1:List Nat):Nat->Option (List Int)
 | 0=>none
 | j+1=>newer (seen n l0 l1 j) (sound n j (if j=0 then l0 else l1))
theorem mG (a:Option (List Int)):newer a none=a:=by cases a <;> rfl
theorem MJ {a b:Option (List Int)} (h:(newer a b).isSome=true):a.isSome=true\/b.isSome=true:=by
 cases a <;> cases b <;> simp [newer] at *
theorem Ah (s:List Int):newer none (some s)=some s:=rfl
theorem U0 (u s:List Int):newer (some u) (some s)=if gen u < gen s then some s else some u:=rfl
theorem LU (n:Int) (l0 l1:List Nat):seen n l0 l1 2=mW n l0 l1:=by
 show newer (newer none (sound n 0 l0)) (sound n 1 l1)=newer (sound n 0 l0) (sound n 1 l1)
 cases sound n 0 l0 <;> rfl
theorem BJ (n:Int) (l0 l1:List Nat) (j:Nat):seen n l0 l1 (j+1)=newer (seen n l0 l1 j) (sound n j (if j=0 then l0 else l1)):=rfl
theorem zS (n:Int) (l0 l1:List Nat):∀ (j:Nat) (s:List Int),seen n l0 l1 j=some s->s.length=7:=by
 intro j
 induction j with
 | zero=>intro s h; cases h
 | succ j ih =>
   intro s h;rw [BJ] at h
   cases hq:sound n j (if j=0 then l0 else l1) with
   | none=>rw [hq,mG] at h; exact ih s h
   | some q =>
     rw [hq] at h
     cases hp:seen n l0 l1 j with
     | none=>rw [hp,Ah] at h; cases h; exact (Jw hq).1
     | some p =>
       rw [hp,U0] at h
       split at h
       · cases h; exact (Jw hq).1
       · cases h; exact ih _ hp
theorem Dw {s:List Int} (h:s.length=7):∃ a0 a1 a2 a3 a4 a5 a6,s=[a0,a1,a2,a3,a4,a5,a6]:=by
 match s,h with
 | [a0,a1,a2,a3,a4,a5,a6],_=>exact ⟨a0,a1,a2,a3,a4,a5,a6,rfl⟩
def Hf (s:List Int):Array Value:=(s.map λn=>Value.int .i64 n).toArray
theorem qR {S:St} (h:S.ok) (a c:Int):∀ x∈dz S a c,x < 256:=by
 unfold dz
 split
 · simp
 · split
   · simp
   · exact Mq h _ _
theorem Fp {S:St} (h:S.ok) (a c:Int):(aH S a c).2.ok:=by
 unfold aH
 split
 · exact h
 · split <;> exact { h with f1:=by have:=h.f1; show S.f1 - 1<=_; omega }
theorem abz (A0 A1:Option Addr) (n0 c0 n1 c1 j:Nat) (hj:j < 2) (w:World) :
 (Instr.index 195 (.agg #[.slice A0 n0 c0,.slice A1 n1 c1]) (.int .i64 j)).run Tryz.prog w=.ok (if j=0 then .slice A0 n0 c0 else .slice A1 n1 c1) w:=by
 obtain rfl | rfl:j=0\/j=1:=by omega
 · kernel_rfl
 · kernel_rfl
theorem Ta {w:World} {base tb n c:Nat} {A:Option Addr} {l:List Nat} (h:iD w base (.slice A n c) l) (hx:∀ x∈l,x < 256) (htb:tb < base):Bytes w tb A n l:=by
 rcases h with ⟨h,rfl⟩ | ⟨g,cap,h,hb,hbk⟩
 · cases h; exact Bytes.none_ _ _ _
 · cases h; exact rf (b:=tb) hbk (by omega) hx
structure LD (w wr:World) (own:Nat->Prop) (B b tb:Nat) (S:St) (v0 v1:Value) (l0 l1:List Nat) (T:Nat) (c:Bool):Prop where
 s:gQ wr B b tb S own
 t:aa w wr (With own tb) (With own tb)
 r:af wr w.heap.size 49 #[.int .i64 0,.int .i64 0,.int .i64 0,.int .i64 0,.int .i64 0,.int .i64 0,.int .i64 0]
 g0:iD wr (w.heap.size+1) v0 l0
 g1:iD wr (w.heap.size+1) v1 l1
 b0:∀ g,v0.ownBlock=some g->g < T
 b1:∀ g,v1.ownBlock=some g->g < T
 y:c=true->Ready wr tb
section
variable {w wr w':World} {own:Nat->Prop} {B b tb T:Nat} {S:St} {v0 v1:Value} {l0 l1:List Nat} {c:Bool}
theorem tX {base:Nat} {v:Value} {l:List Nat} {row:Option Nat} (h:iD wr base v l) (hg:wr.grownBy w' row) (hr:∀ g,v.ownBlock=some g->base<=g->row≠some g):iD w' base v l:=by
 rcases h with h | ⟨g,cap,hv,hb,hbk⟩
 · exact .inl h
 · exact .inr ⟨g,cap,hv,hb,hbk.grown hg (λe=>hr g (by rw [hv]; rfl) hb e.symm)⟩
theorem LD.quiet (h:LD w wr own B b tb S v0 v1 l0 l1 T c) (hg:wr.grownBy w' none):LD w w' own B b tb S v0 v1 l0 l1 T c :=
 ⟨h.s.quiet hg,h.t.trans (aa.none_ hg),h.r.grown hg (by simp),tX h.g0 hg (λ_ _ _=>by simp),tX h.g1 hg (λ_ _ _=>by simp),h.b0,h.b1,λhc=>(h.y hc).keep hg (by simp)⟩
theorem LD.table (h:LD w wr own B b tb S v0 v1 l0 l1 T c) (hg:wr.grownBy w' (some tb)) (ht:mX w' tb) (hlt:tb < w.heap.size) {c':Bool} (hy:c'=true->Ready w' tb):LD w w' own B b tb S v0 v1 l0 l1 T c' :=
 ⟨h.s.table hg ht,h.t.trans (zP hg),h.r.grown hg (by simp; omega),tX h.g0 hg (λg _ hb e=>by cases e; omega),tX h.g1 hg (λg _ hb e=>by cases e; omega),h.b0,h.b1,hy⟩
theorem LD.aC (h:LD w wr own B b tb S v0 v1 l0 l1 T c) (hl:∀ i,own i->i < w.heap.size) (hlt:tb < w.heap.size) (hT:w.heap.size+1<=T) (i:Nat) (v:Value):LD w (wr.setCell ⟨T+1,i,none⟩ v) own B b tb S v0 v1 l0 l1 T c:=by
 have hg:wr.grownBy (wr.setCell ⟨T+1,i,none⟩ v) (some (T+1)):=akd (akr wr _) i v;exact ⟨h.s.far hg (λho=>by have:=hl _ ho; omega) (by omega),kG h.t hg (by omega),h.r.grown hg (by simp; omega),tX h.g0 hg (λg hv _ e=>by cases e; have:=h.b0 _ hv; omega),tX h.g1 hg (λg hv _ e=>by cases e; have:=h.b1 _ hv; omega),h.b0,h.b1,λhc=>(h.y hc).keep hg (by simp; omega)⟩
theorem tY (hl:∀ i,own i->i < w.heap.size) (hlt:tb < w.heap.size) (h:gQ wr B b tb S own/\aa w wr (With own tb) (With own tb)) (i:Nat) (v:Value) :
 gQ (wr.setCell ⟨w.heap.size,i,none⟩ v) B b tb S own/\aa w (wr.setCell ⟨w.heap.size,i,none⟩ v) (With own tb) (With own tb):=by
 have hg:wr.grownBy (wr.setCell ⟨w.heap.size,i,none⟩ v) (some w.heap.size):=akd (akr wr _) i v;exact ⟨h.1.far hg (λho=>by have:=hl _ ho; omega) (by omega),kG h.2 hg (akf _)⟩
theorem mK (hl:∀ i,own i->i < w.heap.size) (hlt:tb < w.heap.size) (h:gQ wr B b tb S own/\aa w wr (With own tb) (With own tb)) {a0 a1 a2 a3 a4 a5 a6:Value} :
 gQ (((((((wr.setCell ⟨w.heap.size,0,none⟩ a0).setCell ⟨w.heap.size,1,none⟩ a1).setCell ⟨w.heap.size,2,none⟩ a2).setCell ⟨w.heap.size,3,none⟩ a3).setCell ⟨w.heap.size,4,none⟩ a4).setCell ⟨w.heap.size,5,none⟩ a5).setCell ⟨w.heap.size,6,none⟩ a6) B b tb S own /\
 aa w (((((((wr.setCell ⟨w.heap.size,0,none⟩ a0).setCell ⟨w.heap.size,1,none⟩ a1).setCell ⟨w.heap.size,2,none⟩ a2).setCell ⟨w.heap.size,3,none⟩ a3).setCell ⟨w.heap.size,4,none⟩ a4).setCell ⟨w.heap.size,5,none⟩ a5).setCell ⟨w.heap.size,6,none⟩ a6) (With own tb) (With own tb) :=
 tY hl hlt (tY hl hlt (tY hl hlt (tY hl hlt (tY hl hlt (tY hl hlt (tY hl hlt h 0 a0) 1 a1) 2 a2) 3 a3) 4 a4) 5 a5) 6 a6
theorem LD.kv (h:LD w wr own B b tb S v0 v1 l0 l1 T c) (hl:∀ i,own i->i < w.heap.size) (hlt:tb < w.heap.size) (hT:w.heap.size+1<=T) {a0 a1 a2 a3 a4 a5 a6:Value} :
 LD w (((((((wr.setCell ⟨T+1,0,none⟩ a0).setCell ⟨T+1,1,none⟩ a1).setCell ⟨T+1,2,none⟩ a2).setCell ⟨T+1,3,none⟩ a3).setCell ⟨T+1,4,none⟩ a4).setCell ⟨T+1,5,none⟩ a5).setCell ⟨T+1,6,none⟩ a6) own B b tb S v0 v1 l0 l1 T c :=
 (((((((h.aC hl hlt hT 0 a0).aC hl hlt hT 1 a1).aC hl hlt hT 2 a2).aC hl hlt hT 3 a3).aC hl hlt hT 4 a4).aC hl hlt hT 5 a5).aC hl hlt hT 6 a6)
end
theorem RZ {w:World} {B b tb:Nat} {S:St} {own:Nat->Prop} (h:gQ w B b tb S own) (h2:S.n < 2) :
 Calls Tryz.prog 97 #[.pointer (some ⟨b,0,none⟩),.pointer (some ⟨tb,0,none⟩)] w λe w' =>
  e=.returned (.tuple #[nG (iX S),.int .i64 (gP S)])/\gQ w' B b tb (loadT S) own/\aa w w' (With own tb) (With own tb)/\(gP S=0->Ready w' tb):=by
 have hg0:=aj9 w (.cells #[.int .i64 0,.int .i64 0,.int .i64 0,.int .i64 0,.int .i64 0,.int .i64 0,.int .i64 0] 49) none;have hl:∀ i,own i->i < w.heap.size:=λi hi=>h.kL hi
 have hlt:=rM h.t;have HL:=hid hl; have bK:=hid hlt;have hR:=af.new w 49 #[.int .i64 0,.int .i64 0,.int .i64 0,.int .i64 0,.int .i64 0,.int .i64 0,.int .i64 0];have H0:=hid (h.quiet hg0);have HT0:=hid (aa.none_ (own:=With own tb) hg0);have gV:=hid (h.quiet hg0).size;have HR:=hid hR;clear hg0 hl hlt;have HE:=hid (show gP S=1 by unfold gP; rw [if_pos h2]);have HV:=hid (show iX S=jm by unfold iX; rw [if_pos h2])
 have yA:=hid (show loadT S=S by unfold loadT; rw [if_pos h2]);have x0:=hR.cell 0; have x1:=hR.cell 1; have x2:=hR.cell 2; have x3:=hR.cell 3; have x4:=hR.cell 4; have x5:=hR.cell 5; have x6:=hR.cell 6;simp only [akb,aka,akc] at x0 x1 x2 x3 x4 x5 x6;have f0:=hR.frozen 0; have f1:=hR.frozen 1; have f2:=hR.frozen 2; have f3:=hR.frozen 3; have f4:=hR.frozen 4; have f5:=hR.frozen 5; have f6:=hR.frozen 6
 have hd2:decide ((S.n:Int) < 2)=true:=by simp; omega
 clear h hR h2;generalize (S.n:Int)=n at *;go_enter Tryz.func97,Tryz.ntmps97;go_wp2_with fail;refine gV.out.mono ?_;rintro e w1 ⟨rfl,rfl⟩;go_wp2_with fail;refine di rfl w.heap.size 49 _ _ rfl HR.out Tryz.underlying49 rfl (by kernel_rfl) rfl ⟨?_,?_⟩
 · rw [HE.out,HV.out]; first | done | rfl
 · refine ⟨?_,HT0.out,λhc=>?_⟩
   · first | exact H0.out | (rw [yA.out]; exact H0.out)
   · rw [HE.out] at hc; cases hc
theorem XU {w:World} {B b tb:Nat} {S:St} {own:Nat->Prop} (h:gQ w B b tb S own) (h2:¬ S.n < 2) (hbad:(aH S 0 1).1≠0\/(aH (aH S 0 1).2 1 1).1≠0) :
 Calls Tryz.prog 97 #[.pointer (some ⟨b,0,none⟩),.pointer (some ⟨tb,0,none⟩)] w λe w' =>
  e=.returned (.tuple #[nG (iX S),.int .i64 (gP S)])/\gQ w' B b tb (loadT S) own/\aa w w' (With own tb) (With own tb)/\(gP S=0->Ready w' tb):=by
 have hg0:=aj9 w (.cells #[.int .i64 0,.int .i64 0,.int .i64 0,.int .i64 0,.int .i64 0,.int .i64 0,.int .i64 0] 49) none;have hl:∀ i,own i->i < w.heap.size:=λi hi=>h.kL hi
 have hlt:=rM h.t;have HL:=hid hl; have bK:=hid hlt;have hR:=af.new w 49 #[.int .i64 0,.int .i64 0,.int .i64 0,.int .i64 0,.int .i64 0,.int .i64 0,.int .i64 0];have H0:=hid (h.quiet hg0);have HT0:=hid (aa.none_ (own:=With own tb) hg0);have gV:=hid (h.quiet hg0).size;have HR:=hid hR;clear hg0 hl hlt;have hn2:2<=S.n:=by omega
 have hd2:decide ((S.n:Int) < 2)=false:=by simp; omega
 have HB:=hid (BV H0.out.d hn2);have hbe:=Ku hn2;have vU:=hid (show gP S=if (aH S 0 1).1≠0\/(aH (aH S 0 1).2 1 1).1≠0 then 10 else if (mW S.n (dz S 0 1) (dz (aH S 0 1).2 1 1)).isSome then 0 else 14 by unfold gP; rw [if_neg h2]);have oO:=hid (show iX S=if (aH S 0 1).1≠0\/(aH (aH S 0 1).2 1 1).1≠0 then jm else (mW S.n (dz S 0 1) (dz (aH S 0 1).2 1 1)).getD jm by unfold iX; rw [if_neg h2]);have yA:=hid (show loadT S=mH S by unfold loadT; rw [if_neg h2])
 have hb0:=qR h.ok 0 1;have hb1:=qR (Fp h.ok 0 1) 1 1;have EU:=hid (show (mH S).n=S.n by unfold mH; rw [nC,nC]);have j3:=hid hb0; have Ie:=hid hb1;clear hb0 hb1 hn2 h2 h;generalize jN S=EE at *;generalize gP S=LE at *;generalize iX S=LV at *;generalize loadT S=LT at *;generalize mH S=S2 at *;generalize dz S 0 1=l0 at *;generalize dz (aH S 0 1).2 1 1=l1 at *;rw [if_pos hbad] at hbe vU oO;clear hbad
 subst hbe;generalize hnn:(S.n:Int)=n at *;clear hnn;go_enter Tryz.func97,Tryz.ntmps97;go_wp2_with fail;refine gV.out.mono ?_;rintro e w1 ⟨rfl,rfl⟩;go_wp2_with fail;refine HB.out.mono ?_;rintro e w3 ⟨v0,v1,rfl,hv0,hv1,hd,ht⟩;obtain ⟨A0,n0,c0,rfl⟩:=jM hv0;obtain ⟨A1,n1,c1,rfl⟩:=jM hv1;clear hv0 hv1;obtain YO:=yA.out;subst YO;have GL:af w3 w.heap.size 49 #[.int .i64 0,.int .i64 0,.int .i64 0,.int .i64 0,.int .i64 0,.int .i64 0,.int .i64 0]:=aj HR.out (ht.block _ HR.out.lt (λho=>by have:=HL.out _ ho; omega))
 have H3:=hid (H0.out.disk hd ht); have HT3:=hid (HT0.out.trans (qP ht tb));have HR3:=hid (GL.alloc (.cells #[.slice A0 n0 c0,.slice A1 n1 c1] 195));clear hR hd ht GL;have x0:=HR3.out.cell 0; have x1:=HR3.out.cell 1; have x2:=HR3.out.cell 2; have x3:=HR3.out.cell 3; have x4:=HR3.out.cell 4; have x5:=HR3.out.cell 5; have x6:=HR3.out.cell 6;simp only [akb,aka,akc] at x0 x1 x2 x3 x4 x5 x6
 have f0:=HR3.out.frozen 0; have f1:=HR3.out.frozen 1; have f2:=HR3.out.frozen 2; have f3:=HR3.out.frozen 3; have f4:=HR3.out.frozen 4; have f5:=HR3.out.frozen 5; have f6:=HR3.out.frozen 6;go_wp2_with fail;refine di rfl w.heap.size 49 _ _ rfl (af.kv HR3.out) Tryz.underlying49 rfl (by kernel_rfl) rfl ⟨?_,?_⟩
 · rw [vU.out,oO.out]; first | done | rfl
 · refine ⟨?_,?_,λhc=>?_⟩
   · first | exact (mK HL.out bK.out ⟨H3.out.quiet (aj9 _ _ none),HT3.out.trans (aa.none_ (aj9 _ _ none))⟩).1 | (rw [yA.out]; exact (mK HL.out bK.out ⟨H3.out.quiet (aj9 _ _ none),HT3.out.trans (aa.none_ (aj9 _ _ none))⟩).1)
   · exact (mK HL.out bK.out ⟨H3.out.quiet (aj9 _ _ none),HT3.out.trans (aa.none_ (aj9 _ _ none))⟩).2
   · rw [vU.out] at hc; cases hc
theorem Vd {w:World} {B b tb:Nat} {S:St} {own:Nat->Prop} (h:gQ w B b tb S own) (h2:¬ S.n < 2) (hbad:¬ ((aH S 0 1).1≠0\/(aH (aH S 0 1).2 1 1).1≠0)) :
 Calls Tryz.prog 97 #[.pointer (some ⟨b,0,none⟩),.pointer (some ⟨tb,0,none⟩)] w λe w' =>
  e=.returned (.tuple #[nG (iX S),.int .i64 (gP S)])/\gQ w' B b tb (loadT S) own/\aa w w' (With own tb) (With own tb)/\(gP S=0->Ready w' tb):=by
 have hg0:=aj9 w (.cells #[.int .i64 0,.int .i64 0,.int .i64 0,.int .i64 0,.int .i64 0,.int .i64 0,.int .i64 0] 49) none;have hl:∀ i,own i->i < w.heap.size:=λi hi=>h.kL hi
 have hlt:=rM h.t;have HL:=hid hl; have bK:=hid hlt;have hR:=af.new w 49 #[.int .i64 0,.int .i64 0,.int .i64 0,.int .i64 0,.int .i64 0,.int .i64 0,.int .i64 0];have H0:=hid (h.quiet hg0);have HT0:=hid (aa.none_ (own:=With own tb) hg0);have gV:=hid (h.quiet hg0).size;have HR:=hid hR;clear hg0 hl hlt;have hn2:2<=S.n:=by omega
 have hd2:decide ((S.n:Int) < 2)=false:=by simp; omega
 have HB:=hid (BV H0.out.d hn2);have hbe:=Ku hn2;have vU:=hid (show gP S=if (aH S 0 1).1≠0\/(aH (aH S 0 1).2 1 1).1≠0 then 10 else if (mW S.n (dz S 0 1) (dz (aH S 0 1).2 1 1)).isSome then 0 else 14 by unfold gP; rw [if_neg h2]);have oO:=hid (show iX S=if (aH S 0 1).1≠0\/(aH (aH S 0 1).2 1 1).1≠0 then jm else (mW S.n (dz S 0 1) (dz (aH S 0 1).2 1 1)).getD jm by unfold iX; rw [if_neg h2]);have yA:=hid (show loadT S=mH S by unfold loadT; rw [if_neg h2])
 have hb0:=qR h.ok 0 1;have hb1:=qR (Fp h.ok 0 1) 1 1;have EU:=hid (show (mH S).n=S.n by unfold mH; rw [nC,nC]);have j3:=hid hb0; have Ie:=hid hb1;clear hb0 hb1 hn2 h2 h;generalize jN S=EE at *;generalize gP S=LE at *;generalize iX S=LV at *;generalize loadT S=LT at *;generalize mH S=S2 at *;generalize dz S 0 1=l0 at *;generalize dz (aH S 0 1).2 1 1=l1 at *;rw [if_neg hbad] at hbe vU oO;clear hbad
 subst hbe;generalize hnn:(S.n:Int)=n at *;have Bj:=hid (show (S2.n:Int)=n by rw [EU.out]; exact hnn);clear hnn;go_enter Tryz.func97,Tryz.ntmps97;go_wp2_with fail;refine gV.out.mono ?_;rintro e w1 ⟨rfl,rfl⟩;go_wp2_with fail;refine HB.out.mono ?_;rintro e w3 ⟨v0,v1,rfl,hv0,hv1,hd,ht⟩;obtain ⟨A0,n0,c0,rfl⟩:=jM hv0;obtain ⟨A1,n1,c1,rfl⟩:=jM hv1;obtain YO:=yA.out;subst YO;have GL:af w3 w.heap.size 49 #[.int .i64 0,.int .i64 0,.int .i64 0,.int .i64 0,.int .i64 0,.int .i64 0,.int .i64 0]:=aj HR.out (ht.block _ HR.out.lt (λho=>by have:=HL.out _ ho; omega))
 have xw:=ht.size;rw [World.size_alloc] at xw hv0 hv1;have hown:∀ v l,iD w3 (w.heap.size+1) v l->∀ g,v.ownBlock=some g->g < w3.heap.size:=by
  intro v l hg g hv;rcases hg with ⟨rfl,_⟩ | ⟨g',cap,rfl,_,hbk⟩
  · cases hv
  · have:=hbk.lt
    simp [Value.ownBlock] at hv
    omega
 have Sn:LD w w3 own B b tb LT (.slice A0 n0 c0) (.slice A1 n1 c1) l0 l1 w3.heap.size false :=
  ⟨H0.out.disk hd ht,HT0.out.trans (qP ht tb),GL,hv0,hv1,hown _ _ hv0,hown _ _ hv1,λhc=>by cases hc⟩
 have dO:=hid ((Sn.quiet (aj9 w3 (.cells #[.slice A0 n0 c0,.slice A1 n1 c1] 195) none)).quiet (aj9 _ (.cells #[.int .i64 0,.int .i64 0,.int .i64 0,.int .i64 0,.int .i64 0,.int .i64 0,.int .i64 0] 49) none));have HX:=hid (show af ((w3.alloc (.cells #[.slice A0 n0 c0,.slice A1 n1 c1] 195)).alloc (.cells #[.int .i64 0,.int .i64 0,.int .i64 0,.int .i64 0,.int .i64 0,.int .i64 0,.int .i64 0] 49)) (w3.heap.size+1) 49 (Hf ((seen n l0 l1 0).getD qw)) from (show af ((w3.alloc (.cells #[.slice A0 n0 c0,.slice A1 n1 c1] 195)).alloc (.cells #[.int .i64 0,.int .i64 0,.int .i64 0,.int .i64 0,.int .i64 0,.int .i64 0,.int .i64 0] 49)) (w3.heap.size+1) 49 #[.int .i64 0,.int .i64 0,.int .i64 0,.int .i64 0,.int .i64 0,.int .i64 0,.int .i64 0] by simpa using af.new (w3.alloc (.cells #[.slice A0 n0 c0,.slice A1 n1 c1] 195)) 49 #[.int .i64 0,.int .i64 0,.int .i64 0,.int .i64 0,.int .i64 0,.int .i64 0,.int .i64 0]))
 have YP:=hid xw;have adW:=hid (LU n l0 l1);clear hR hd ht GL hv0 hv1 hown Sn xw gV HB;go_wp2_with fail;generalize hTT:w3.heap.size=T at *;clear hTT
 go_loopw [9,10,11,12,13,14,37] (λfo _ _ _ _ _ i wr=>∃ j:Nat,j<=2/\i=.int .i64 j/\fo=.bool (seen n l0 l1 j).isSome/\LD w wr own B b tb LT (.slice A0 n0 c0) (.slice A1 n1 c1) l0 l1 T (seen n l0 l1 j).isSome/\af wr (T+1) 49 (Hf ((seen n l0 l1 j).getD qw))) (λ_ _ _ _ _ _ i _=>2 - (Go.RowKit.intOf i).toNat)
 case atStart=>exact ⟨0,by omega,rfl,rfl,dO.out,HX.out⟩
 case round =>
  clear dO HX;obtain ⟨j,hj,rfl,rfl,hld,hx⟩:=hrel
  by_cases hlt:j < 2
  · have hstep:=BJ n l0 l1 j;have GI:=zS n l0 l1 j;have hpick:∃ A m c l,(Instr.index 195 (.agg #[.slice A0 n0 c0,.slice A1 n1 c1]) (.int .i64 j)).run Tryz.prog wr=.ok (.slice A m c) wr/\iD wr (w.heap.size+1) (.slice A m c) l/\(∀ x∈l,x < 256)/\(if j=0 then l0 else l1)=l:=by
     have hi:=abz A0 A1 n0 c0 n1 c1 j hlt wr
     by_cases hj0:j=0
     · rw [if_pos hj0] at hi ⊢;exact ⟨_,_,_,_,hi,hld.g0,j3.out,rfl⟩
     · rw [if_neg hj0] at hi ⊢;exact ⟨_,_,_,_,hi,hld.g1,Ie.out,rfl⟩
    obtain ⟨A,m,c,l,hix,hgv,j6,hif⟩:=hpick;rw [hif] at hstep;have hby:=Ta (tb:=tb) hgv j6 (by have:=bK.out; omega);have gJ:=hid hstep; have iG:=hid hby; have dO:=hid hld; have HX:=hid hx; have yB:=hid GI;clear hstep hgv j6 hif hby hld hx GI;generalize ho1:seen n l0 l1 (j+1)=o' at *;have dZ:=hid ho1; clear ho1;generalize seen n l0 l1 j=o at *;go_wp2_with fail;clear hix;refine (AJ tb (some tb) A m c l _ (.inr ⟨dO.out.s.t,rfl⟩) iG.out).mono ?_
    rintro e w5 ⟨hg5,dL,rfl,hy5⟩;have AX:=hid (dO.out.table hg5 dL bK.out (c':=o'.isSome) (λhc=>by
     rw [gJ.out] at hc;rcases MJ hc with h1 | h1
     · exact hy5 (.inl (dO.out.y h1))
     · refine hy5 (.inr ?_);rw [nT] at h1
       cases hq:dK l with
       | none=>rw [hq] at h1; cases h1
       | some _=>rfl))
    have mg:=hid (HX.out.grown hg5 (by have:=bK.out; have:=YP.out; simp; omega));clear hg5 dL hy5 iG dO HX
    cases xx:dK l with
    | none =>
      have HO:=hid (show o'=o by rw [gJ.out,LM xx,mG]);rw [show nG ((none:Option (List Int)).getD qw)=.agg #[.int .i64 0,.int .i64 0,.int .i64 0,.int .i64 0,.int .i64 0,.int .i64 0,.int .i64 0] from rfl,show (none:Option (List Int)).isSome=false from rfl];clear xx gJ;have hga:=aj9 w5 (.cells #[.int .i64 0,.int .i64 0,.int .i64 0,.int .i64 0,.int .i64 0,.int .i64 0,.int .i64 0] 49) none
      have sN:=hid (AX.out.quiet hga); have kW:=hid (mg.out.grown hga (by simp));clear hga AX mg;go_wp2_with fail
      go_quiet (fail)
      go_wp2
      go_roundw
      case rel=>exact ⟨j+1,by omega,by go_num,by rw [dZ.out,HO.out],(by rw [dZ.out]; exact sN.out.quiet (dB (akr _ _) _)),by rw [dZ.out,HO.out]; exact kW.out.drewN _⟩
      case measure=>simp [Go.RowKit.intOf]; omega
    | some uu =>
      obtain ⟨u0,u1,u2,u3,u4,u5,u6,rfl⟩:=Dw (nz xx).2;rw [show nG ((some [u0,u1,u2,u3,u4,u5,u6]).getD qw)=.agg #[.int .i64 u0,.int .i64 u1,.int .i64 u2,.int .i64 u3,.int .i64 u4,.int .i64 u5,.int .i64 u6] from rfl,show (some ([u0,u1,u2,u3,u4,u5,u6]:List Int)).isSome=true from rfl];have hso:=Jv (n:=n) (i:=(j:Int)) xx;have vP:=aj9 w5 (.cells #[.int .i64 u0,.int .i64 u1,.int .i64 u2,.int .i64 u3,.int .i64 u4,.int .i64 u5,.int .i64 u6] 49) none
      have sN:=hid (AX.out.quiet vP); have kW:=hid (mg.out.grown vP (by simp));have hbu:=af.new w5 49 #[.int .i64 u0,.int .i64 u1,.int .i64 u2,.int .i64 u3,.int .i64 u4,.int .i64 u5,.int .i64 u6];have hkeep:∀ wx,(w5.alloc (.cells #[.int .i64 u0,.int .i64 u1,.int .i64 u2,.int .i64 u3,.int .i64 u4,.int .i64 u5,.int .i64 u6] 49)).grownBy wx none->wx.cell? ⟨w5.heap.size,0,none⟩=some (.int .i64 u0)/\wx.cell? ⟨w5.heap.size,1,none⟩=some (.int .i64 u1)/\wx.cell? ⟨w5.heap.size,2,none⟩=some (.int .i64 u2)/\wx.cell? ⟨w5.heap.size,3,none⟩=some (.int .i64 u3)/\wx.cell? ⟨w5.heap.size,4,none⟩=some (.int .i64 u4)/\wx.cell? ⟨w5.heap.size,5,none⟩=some (.int .i64 u5)/\wx.cell? ⟨w5.heap.size,6,none⟩=some (.int .i64 u6):=by
       intro wx hg;have hb:=hbu.grown hg (by simp);exact ⟨by rw [hb.cell]; rfl,by rw [hb.cell]; rfl,by rw [hb.cell]; rfl,by rw [hb.cell]; rfl,by rw [hb.cell]; rfl,by rw [hb.cell]; rfl,by rw [hb.cell]; rfl⟩
      have av:=hid hkeep; have HBU:=hid hbu;have gV:=hid (λwx (hg:(w5.alloc (.cells #[.int .i64 u0,.int .i64 u1,.int .i64 u2,.int .i64 u3,.int .i64 u4,.int .i64 u5,.int .i64 u6] 49)).grownBy wx none)=>(sN.out.s.quiet hg).size);have HD0:=hid (ah (w5.alloc (.cells #[.int .i64 u0,.int .i64 u1,.int .i64 u2,.int .i64 u3,.int .i64 u4,.int .i64 u5,.int .i64 u6] 49)) none);have fM:=hid (λwx=>uW u0 u1 u2 u3 u4 u5 u6 n wx)
      have vR:=hid (λwx=>JM u0 u1 u2 u3 u4 u5 u6 wx);have hck:dY [u0,u1,u2,u3,u4,u5,u6] n=if aL [u0,u1,u2,u3,u4,u5,u6] n then 0 else 1:=rfl;rw [Bj.out] at gV;clear hkeep hbu vP xx AX mg
      cases hm:aL [u0,u1,u2,u3,u4,u5,u6] n with
      | false =>
        rw [hm,if_neg (by simp)] at hck;rw [hck] at fM;have hss:jX n (j:Int) [u0,u1,u2,u3,u4,u5,u6]=false:=by simp [jX,hm]
        rw [hss] at hso;have HO:=hid (show o'=o by rw [gJ.out,hso]; exact mG o);have hq1:decide ((1:Int)=0)=false:=by decide
        have hq2:((1:Int) == 0)=false:=by decide
        have hq3:¬ ((1:Int)=0):=by decide
        clear hck hm hss hso gJ vR;go_wp2_with fail;refine wp_region_noPanic ?_;refine wp_region_held_drew (S:=λwx=>wx.cell? ⟨w5.heap.size,0,none⟩=some (.int .i64 u0)/\wx.cell? ⟨w5.heap.size,1,none⟩=some (.int .i64 u1)/\wx.cell? ⟨w5.heap.size,2,none⟩=some (.int .i64 u2)/\wx.cell? ⟨w5.heap.size,3,none⟩=some (.int .i64 u3)/\wx.cell? ⟨w5.heap.size,4,none⟩=some (.int .i64 u4)/\wx.cell? ⟨w5.heap.size,5,none⟩=some (.int .i64 u5)/\wx.cell? ⟨w5.heap.size,6,none⟩=some (.int .i64 u6)) (by kernel_rfl) (av.out _ HD0.out) (λhHeld=>?_)
        refine wpAnyH_take (i:=0) (v:=.bool true) rfl (by kernel_rfl) (by kernel_rfl) (by kernel_rfl) (λ_ _ _ h=>h) (Or.inl ⟨by rfl,?_⟩) (by assumption) ?_
        · intro w1 hSw; (try dsimp only at hSw); go_simp
        simp only [Act.put,aj6,aj4,aj3,aj7,aj8];refine wpAnyH_take (i:=1) (v:=.bool true) rfl (by kernel_rfl) (by kernel_rfl) (by kernel_rfl) (λ_ _ _ h=>h) (Or.inl ⟨by rfl,?_⟩) (by assumption) ?_
        · intro w1 hSw; (try dsimp only at hSw); go_simp
        simp only [Act.put,aj6,aj5,aj4,aj3,aj7,aj8];refine wpAnyH_take (i:=2) (v:=.agg #[.int .i64 u0,.int .i64 u1,.int .i64 u2,.int .i64 u3,.int .i64 u4,.int .i64 u5,.int .i64 u6]) rfl (by kernel_rfl) (by kernel_rfl) (by kernel_rfl) (λ_ _ _ h=>h) (Or.inl ⟨by rfl,?_⟩) (by assumption) ?_
        · intro w1 hSw; (try dsimp only at hSw); go_simp
        simp only [Act.put,aj6,aj5,aj4,aj3,aj7,aj8];refine wpAnyH_take (i:=3) (v:=.pointer (some ⟨b,0,none⟩)) rfl (by kernel_rfl) (by kernel_rfl) (by kernel_rfl) (λ_ _ _ h=>h) (Or.inl ⟨by rfl,?_⟩) (by assumption) ?_
        · intro w1 hSw; (try dsimp only at hSw); go_simp
        simp only [Act.put,aj6,aj5,aj4,aj3,aj7,aj8];refine wpAnyH_ready (rs:=[4]) (by kernel_rfl) (by simp) ?_;refine AllReadyH.cons rfl (λK hK=>?_) AllReadyH.nil
        go_simp
        go_at_call 48
        refine (gV.out _ HD0.out).mono ?_;rintro e w6 ⟨rfl,rfl⟩;refine hK.out _ _ (av.out _ HD0.out) (λhHeld=>?_);clear hK K;refine wpAnyH_ready (rs:=[5]) (by kernel_rfl) (by simp) ?_;refine AllReadyH.cons rfl (λK hK=>?_) AllReadyH.nil
        go_simp
        go_at_call 47
        refine (fM.out _).mono ?_;rintro e w7 ⟨rfl,hg⟩;have az:=hid (HD0.out.trans hg);clear hg;refine hK.out _ _ (av.out _ az.out) (λhHeld=>?_);clear hK K;refine wpAnyH_take (i:=6) (v:=.bool false) rfl (by kernel_rfl) (by kernel_rfl) (by kernel_rfl) (λ_ _ _ h=>h) (Or.inl ⟨by rfl,?_⟩) (by assumption) ?_
        · intro w1 hSw; (try dsimp only at hSw); go_simp
        simp only [Act.put,aj6,aj5,aj4,aj3,aj7,aj8];refine wpAnyH_take (i:=7) (v:=.bool false) rfl (by kernel_rfl) (by kernel_rfl) (by kernel_rfl) (λ_ _ _ h=>h) (Or.inl ⟨by rfl,?_⟩) (by assumption) ?_
        · intro w1 hSw; (try dsimp only at hSw); go_simp
        simp only [Act.put,aj6,aj5,aj4,aj3,aj7,aj8];refine wpAnyH_take (i:=8) (v:=.bool false) rfl (by kernel_rfl) (by kernel_rfl) (by kernel_rfl) (λ_ _ _ h=>h) (Or.inl ⟨by rfl,?_⟩) (by assumption) ?_
        · intro w1 hSw; (try dsimp only at hSw); go_simp
        simp only [Act.put,aj6,aj5,aj4,aj3,aj7,aj8];refine wpAnyH_take (i:=9) (v:=undef) rfl (by kernel_rfl) (by kernel_rfl) (by kernel_rfl) (λ_ _ _ h=>h) (Or.inr ⟨by rfl,rfl⟩) (by assumption) ?_;simp only [Act.put,aj6,aj5,aj4,aj3,aj7,aj8]
        refine wpAnyH_take (i:=10) (v:=undef) rfl (by kernel_rfl) (by kernel_rfl) (by kernel_rfl) (λ_ _ _ h=>h) (Or.inr ⟨by rfl,rfl⟩) (by assumption) ?_;simp only [Act.put,aj6,aj5,aj4,aj3,aj7,aj8];refine wpAnyH_take (i:=11) (v:=undef) rfl (by kernel_rfl) (by kernel_rfl) (by kernel_rfl) (λ_ _ _ h=>h) (Or.inr ⟨by rfl,rfl⟩) (by assumption) ?_
        simp only [Act.put,aj6,aj5,aj4,aj3,aj7,aj8];refine wpAnyH_take (i:=12) (v:=undef) rfl (by kernel_rfl) (by kernel_rfl) (by kernel_rfl) (λ_ _ _ h=>h) (Or.inr ⟨by rfl,rfl⟩) (by assumption) ?_;simp only [Act.put,aj6,aj5,aj4,aj3,aj7,aj8]
        refine wpAnyH_take (i:=13) (v:=.bool false) rfl (by kernel_rfl) (by kernel_rfl) (by kernel_rfl) (λ_ _ _ h=>h) (Or.inl ⟨by rfl,?_⟩) (by assumption) ?_
        · intro w1 hSw; (try dsimp only at hSw); go_simp
        simp only [Act.put,aj6,aj5,aj4,aj3,aj7,aj8];refine wpAnyH_take (i:=14) (v:=.bool false) rfl (by kernel_rfl) (by kernel_rfl) (by kernel_rfl) (λ_ _ _ h=>h) (Or.inl ⟨by rfl,?_⟩) (by assumption) ?_
        · intro w1 hSw; (try dsimp only at hSw); go_simp
        simp only [Act.put,aj6,aj5,aj4,aj3,aj7,aj8];refine wpAnyH_done (by kernel_rfl) ?_ _;refine NoPanic.normal ?_;go_wp2
        go_roundw
        case rel=>exact ⟨j+1,by omega,by go_num,by rw [dZ.out,HO.out],(by rw [dZ.out]; exact sN.out.quiet az.out),by rw [dZ.out,HO.out]; exact kW.out.grown az.out (by simp)⟩
        case measure=>simp [Go.RowKit.intOf]; omega
      | true =>
        rw [hm,if_pos rfl] at hck;rw [hck] at fM;have hss:jX n (j:Int) [u0,u1,u2,u3,u4,u5,u6]=decide (u0.tmod 2=j):=by rw [jX,hm]; rfl
        rw [hss] at hso;have EP:=hid hso;clear hck hm hss hso;generalize hpq:u0.tmod 2=pq at *;go_wp2_with fail
        go_region_held3 (λwx=>wx.cell? ⟨w5.heap.size,0,none⟩=some (.int .i64 u0)/\wx.cell? ⟨w5.heap.size,1,none⟩=some (.int .i64 u1)/\wx.cell? ⟨w5.heap.size,2,none⟩=some (.int .i64 u2)/\wx.cell? ⟨w5.heap.size,3,none⟩=some (.int .i64 u3)/\wx.cell? ⟨w5.heap.size,4,none⟩=some (.int .i64 u4)/\wx.cell? ⟨w5.heap.size,5,none⟩=some (.int .i64 u5)/\wx.cell? ⟨w5.heap.size,6,none⟩=some (.int .i64 u6))
         (first
           | exact av.out _ HD0.out
           | exact av.out _ az.out
           | exact av.out _ HG2.out)
         (first
           | (go_at_call 48
              refine (gV.out _ HD0.out).mono ?_;rintro e w6 ⟨rfl,rfl⟩)
           | (go_at_call 47
              refine (fM.out _).mono ?_;rintro e w7 ⟨rfl,hg⟩;have az:=hid (HD0.out.trans hg);clear hg)
           | (go_at_call 132
              refine (vR.out _).mono ?_;rintro e w8 ⟨rfl,hg⟩;have HG2:=hid (az.out.trans hg);clear hg))
        have C9:=hid (sN.out.quiet HG2.out); have Qs:=kW.out.grown HG2.out (by simp);have jv:=hid Qs;obtain ⟨y0,y1,y2,y3,y4,y5,y6⟩:=av.out _ HG2.out;clear av fM vR gV
        by_cases Bc:pq=(j:Int)
        · have HO:=hid (show o'=newer o (some [u0,u1,u2,u3,u4,u5,u6]) by rw [gJ.out,EP.out,Bc]; simp);subst Bc;clear EP gJ
          cases o with
          | none =>
            rw [Ah] at HO;have df:af w8 (T+1) 49 #[.int .i64 0,.int .i64 0,.int .i64 0,.int .i64 0,.int .i64 0,.int .i64 0,.int .i64 0]:=Qs;have x0:=df.cell 0; have x1:=df.cell 1; have x2:=df.cell 2; have x3:=df.cell 3; have x4:=df.cell 4; have x5:=df.cell 5; have x6:=df.cell 6;have f0:=df.frozen 0; have f1:=df.frozen 1; have f2:=df.frozen 2; have f3:=df.frozen 3; have f4:=df.frozen 4; have f5:=df.frozen 5; have f6:=df.frozen 6
            simp only [akb,aka,akc] at x0 x1 x2 x3 x4 x5 x6;have zD:=hid df;clear Qs df;go_wp2
            go_roundw
            case rel=>exact ⟨j+1,by omega,by go_num,by rw [dZ.out,HO.out]; rfl,(by rw [dZ.out]; exact C9.out.kv HL.out bK.out YP.out),by rw [dZ.out,HO.out]; exact af.kv zD.out⟩
            case measure=>simp [Go.RowKit.intOf]; omega
          | some pp =>
            obtain ⟨p0,p1,p2,p3,p4,p5,p6,rfl⟩:=Dw (yB.out pp rfl);have df:af w8 (T+1) 49 #[.int .i64 p0,.int .i64 p1,.int .i64 p2,.int .i64 p3,.int .i64 p4,.int .i64 p5,.int .i64 p6]:=Qs;have x0:=df.cell 0; have x1:=df.cell 1; have x2:=df.cell 2; have x3:=df.cell 3; have x4:=df.cell 4; have x5:=df.cell 5; have x6:=df.cell 6;have f0:=df.frozen 0; have f1:=df.frozen 1; have f2:=df.frozen 2; have f3:=df.frozen 3; have f4:=df.frozen 4; have f5:=df.frozen 5; have f6:=df.frozen 6
            simp only [akb,aka,akc] at x0 x1 x2 x3 x4 x5 x6;have zD:=hid df;have hnew:newer (some [p0,p1,p2,p3,p4,p5,p6]) (some [u0,u1,u2,u3,u4,u5,u6])=if p0 < u0 then some [u0,u1,u2,u3,u4,u5,u6] else some [p0,p1,p2,p3,p4,p5,p6]:=rfl;rw [hnew] at HO;clear Qs df hnew
            by_cases hgt:p0 < u0
            · rw [if_pos hgt] at HO;have hdg:decide (p0 < u0)=true:=decide_eq_true hgt;go_wp2
              go_roundw
              case rel=>exact ⟨j+1,by omega,by go_num,by rw [dZ.out,HO.out]; rfl,(by rw [dZ.out]; exact C9.out.kv HL.out bK.out YP.out),by rw [dZ.out,HO.out]; exact af.kv zD.out⟩
              case measure=>simp [Go.RowKit.intOf]; omega
            · rw [if_neg hgt] at HO;have hdg:decide (p0 < u0)=false:=decide_eq_false hgt;go_wp2
              go_roundw
              case rel=>exact ⟨j+1,by omega,by go_num,by rw [dZ.out,HO.out]; rfl,(by rw [dZ.out]; exact C9.out),by rw [dZ.out,HO.out]; exact zD.out⟩
              case measure=>simp [Go.RowKit.intOf]; omega
        · have HO:=hid (show o'=o by rw [gJ.out,EP.out,decide_eq_false Bc]; exact mG o);have hdj:decide (pq=(j:Int))=false:=decide_eq_false Bc;clear EP gJ Qs;go_wp2
          go_roundw
          case rel=>exact ⟨j+1,by omega,by go_num,by rw [dZ.out,HO.out],(by rw [dZ.out]; exact C9.out),by rw [dZ.out,HO.out]; exact jv.out⟩
          case measure=>simp [Go.RowKit.intOf]; omega
  · obtain rfl:j=2:=by omega
    rw [adW.out] at hx hld ⊢;have wB:=zS n l0 l1 2;rw [adW.out] at wB;have dO:=hid hld;have x0:=hld.r.cell 0; have x1:=hld.r.cell 1; have x2:=hld.r.cell 2; have x3:=hld.r.cell 3; have x4:=hld.r.cell 4; have x5:=hld.r.cell 5; have x6:=hld.r.cell 6;have f0:=hld.r.frozen 0; have f1:=hld.r.frozen 1; have f2:=hld.r.frozen 2; have f3:=hld.r.frozen 3; have f4:=hld.r.frozen 4; have f5:=hld.r.frozen 5; have f6:=hld.r.frozen 6
    simp only [akb,aka,akc] at x0 x1 x2 x3 x4 x5 x6;clear hld;generalize mW n l0 l1=Jd at *
    cases Jd with
    | none =>
      have HE:=hid (show LE=14 from vU.out); have HV:=hid (show LV=jm from oO.out);clear vU oO wB hx;go_wp2_with fail;refine di rfl w.heap.size 49 _ _ rfl (af.kv dO.out.r) Tryz.underlying49 rfl (by kernel_rfl) rfl ⟨?_,?_⟩
      · rw [HE.out,HV.out]; first | done | rfl
      · refine ⟨?_,?_,λhc=>by rw [HE.out] at hc; cases hc⟩
        · first | exact (mK HL.out bK.out ⟨dO.out.s,dO.out.t⟩).1 | (rw [yA.out]; exact (mK HL.out bK.out ⟨dO.out.s,dO.out.t⟩).1)
        · exact (mK HL.out bK.out ⟨dO.out.s,dO.out.t⟩).2
    | some pp =>
      obtain ⟨p0,p1,p2,p3,p4,p5,p6,rfl⟩:=Dw (wB pp rfl);have HE:=hid (show LE=0 from vU.out); have HV:=hid (show LV=[p0,p1,p2,p3,p4,p5,p6] from oO.out);have hx':af wr (T+1) 49 #[.int .i64 p0,.int .i64 p1,.int .i64 p2,.int .i64 p3,.int .i64 p4,.int .i64 p5,.int .i64 p6]:=hx;have y0:=hx'.cell 0; have y1:=hx'.cell 1; have y2:=hx'.cell 2; have y3:=hx'.cell 3; have y4:=hx'.cell 4; have y5:=hx'.cell 5; have y6:=hx'.cell 6
      simp only [akb,aka,akc] at y0 y1 y2 y3 y4 y5 y6;clear vU oO wB hx hx';go_wp2_with fail;refine di rfl w.heap.size 49 _ _ rfl (af.kv dO.out.r) Tryz.underlying49 rfl (by kernel_rfl) rfl ⟨?_,?_⟩
      · rw [HE.out,HV.out]; first | done | rfl
      · refine ⟨?_,?_,λ_=>wh (dO.out.y rfl) bK.out⟩
        · first | exact (mK HL.out bK.out ⟨dO.out.s,dO.out.t⟩).1 | (rw [yA.out]; exact (mK HL.out bK.out ⟨dO.out.s,dO.out.t⟩).1)
        · exact (mK HL.out bK.out ⟨dO.out.s,dO.out.t⟩).2
theorem MW {w:World} {B b tb:Nat} {S:St} {own:Nat->Prop} (h:gQ w B b tb S own) :
 Calls Tryz.prog 97 #[.pointer (some ⟨b,0,none⟩),.pointer (some ⟨tb,0,none⟩)] w λe w' =>
  e=.returned (.tuple #[nG (iX S),.int .i64 (gP S)])/\gQ w' B b tb (loadT S) own/\aa w w' (With own tb) (With own tb)/\(gP S=0->Ready w' tb):=by
 by_cases h2:S.n < 2
 · exact RZ h h2
 · by_cases hbad:(aH S 0 1).1≠0\/(aH (aH S 0 1).2 1 1).1≠0
   · exact XU h h2 hbad
   · exact Vd h h2 hbad
end Go.Proofs.YtinajlbijgedbaaGreat.Sup
