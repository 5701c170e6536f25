/- Texts of this seat's proofs: SupSave, LogMem. -/
import Derived.Test.YtinajlbijgedbaaGreatQCodecBits
import Derived.Test.YtinajlbijgedbaaGreatQRefNew
import Derived.Test.YtinajlbijgedbaaGreatQCodecSpec
import Derived.Deep.RegionHeld3
set_option maxRecDepth 100000
set_option maxHeartbeats 16000000
namespace Go.Proofs.YtinajlbijgedbaaGreat.Sup
open Lib (hid)
open Go.RowKit CrcMath CodecMath Mem Crc Codec DiskSpec Dsk
def With (own:Nat->Prop) (tb:Nat):Nat->Prop:=λi=>own i\/i=tb
section
variable {w w' w1:World} {own own':Nat->Prop} {tb B b:Nat} {S S':St}
theorem qP (h:aa w w' own own') (tb:Nat):aa w w' (With own tb) (With own' tb) :=
 ⟨h.os,h.tape,h.output,h.size,λi hi hn=>h.block i hi (λe=>hn (.inl e)),λi hi=>by
  rcases hi with hi | rfl
  · rcases h.fresh i hi with h1 | h1
    · exact .inl (.inl h1)
    · exact .inr h1
  · exact .inl (.inr rfl)⟩
theorem zP (h:w.grownBy w' (some tb)):aa w w' (With own tb) (With own tb):=.aA h (λj e=>by cases e; exact .inr rfl)
theorem kG {g:Nat} {o o':Nat->Prop} (h:aa w w1 o o') (hg:w1.grownBy w' (some g)) (hge:w.heap.size<=g):aa w w' o o' :=
 ⟨hg.os.trans h.os,hg.tape.trans h.tape,hg.output.trans h.output,akh h.size hg.size,
  λi hi hn=>(hg.block i (ake hi h.size) (by simp; omega)).trans (h.block i hi hn),h.fresh⟩
theorem iA (h:dU w B b S own) {row:Option Nat} (hg:w.grownBy w' row) (hr:∀ j,row=some j->¬ own j):dU w' B b S own:=by
 obtain ⟨bd,bm,f,h⟩:=h;exact ⟨bd,bm,f,h.grown hg hr⟩
theorem BA (h:mX w tb) (hk:w'.heap[tb]?=w.heap[tb]?):mX w' tb:=by
 rcases h with ⟨cs,hb,hf⟩ | ⟨cs,hb,hf⟩
 · exact .inl ⟨cs,aj hb hk,hf⟩
 · exact .inr ⟨cs,aj hb hk,hf⟩
theorem rM (h:mX w tb):tb < w.heap.size:=by
 rcases h with ⟨_,h,_⟩ | ⟨_,h,_⟩ <;> exact h.lt
structure gQ (w:World) (B b tb:Nat) (S:St) (own:Nat->Prop):Prop where
 d:dU w B b S own
 t:mX w tb
 n:¬ own tb
 s:B<=w.heap.size
theorem gQ.quiet (h:gQ w B b tb S own) (hg:w.grownBy w' none):gQ w' B b tb S own :=
 ⟨iA h.d hg (λ_ e=>by cases e),kZ h.t hg (by simp),h.n,akh h.s hg.size⟩
theorem gQ.table (h:gQ w B b tb S own) (hg:w.grownBy w' (some tb)) (ht:mX w' tb):gQ w' B b tb S own :=
 ⟨iA h.d hg (λj e=>by cases e; exact h.n),ht,h.n,akh h.s hg.size⟩
theorem gQ.disk (h:gQ w B b tb S own) (hd:dU w' B b S' own') (ht:aa w w' own own'):gQ w' B b tb S' own' :=
 ⟨hd,BA h.t (ht.block tb (rM h.t) h.n),λho=>by
  rcases ht.fresh tb ho with h1 | h1
  · exact h.n h1
  · have:=rM h.t; omega,akh h.s ht.size⟩
theorem gQ.far (h:gQ w B b tb S own) {g:Nat} (hg:w.grownBy w' (some g)) (h1:¬ own g) (h2:tb≠g):gQ w' B b tb S own :=
 ⟨iA h.d hg (λj e=>by cases e; exact h1),kZ h.t hg (by simpa using h2),h.n,akh h.s hg.size⟩
theorem gQ.kL (h:gQ w B b tb S own) {i:Nat} (hi:own i):i < w.heap.size:=by
 obtain ⟨_,_,_,hd⟩:=h.d;exact hd.lt i hi
theorem gQ.low (h:gQ w B b tb S own) {i:Nat} (hi:own i):B<=i:=by
 obtain ⟨_,_,_,hd⟩:=h.d;exact hd.low i hi
theorem gQ.ok (h:gQ w B b tb S own):S.ok:=by
 obtain ⟨_,_,_,hd⟩:=h.d;exact hd.ok
theorem gQ.size (h:gQ w B b tb S own):Calls Tryz.prog 48 #[.pointer (some ⟨b,0,none⟩)] w λe w'=>e=.returned (.int .i64 (S.n:Nat))/\w=w':=by
 obtain ⟨_,_,_,hd⟩:=h.d;exact Cz hd
theorem lG {g:Nat} {t:TypeId} {l:List Nat} (h:af w g t (au l).toArray) (hl:∀ x∈l,x < 256) (hn:¬ own g):Dsk.Data w own (some ⟨g,0,none⟩) l.length l:=by
 refine ⟨rfl,hl,λ_=>⟨g,0,rfl,h.lt,hn,λj hj=>?_⟩⟩;rw [Nat.zero_add,h.cell,akb,fT l j hj]
end
theorem ad3 (a:Int):-1<=a.tmod 2/\a.tmod 2<=1:=by
 rcases Int.le_total 0 a with h | h
 · rw [akm h]; omega
 · have:a.tmod 2=-((-a).tmod 2):=by rw [Int.neg_tmod,Int.neg_neg]
   rw [this,akm (by omega)]; omega
theorem F8 {w:World} {B b tb:Nat} {S:St} {own:Nat->Prop} (h:gQ w B b tb S own) (a0 a1 a2 a3 a4 a5 a6:Int) (hroom:∀ i,(S.ae i).length < 549755813888) :
 Calls Tryz.prog 96 #[.pointer (some ⟨b,0,none⟩),.pointer (some ⟨tb,0,none⟩),.agg #[.int .i64 a0,.int .i64 a1,.int .i64 a2,.int .i64 a3,.int .i64 a4,.int .i64 a5,.int .i64 a6]] w λe w' =>
  e=.returned (.int .i64 (ay S [a0,a1,a2,a3,a4,a5,a6]).1)/\∃ own',gQ w' B b tb (ay S [a0,a1,a2,a3,a4,a5,a6]).2 own'/\aa w w' (With own tb) (With own' tb)/\(Ready w tb\/(ay S [a0,a1,a2,a3,a4,a5,a6]).1=0->Ready w' tb):=by
 have hbk:=af.new w 49 #[.int .i64 a0,.int .i64 a1,.int .i64 a2,.int .i64 a3,.int .i64 a4,.int .i64 a5,.int .i64 a6];have hg0:=aj9 w (.cells #[.int .i64 a0,.int .i64 a1,.int .i64 a2,.int .i64 a3,.int .i64 a4,.int .i64 a5,.int .i64 a6] 49) none;have bB:=hid hroom;have H0:=hid h;have hkeep:∀ wx,(w.alloc (.cells #[.int .i64 a0,.int .i64 a1,.int .i64 a2,.int .i64 a3,.int .i64 a4,.int .i64 a5,.int .i64 a6] 49)).grownBy wx none ->
  wx.cell? ⟨w.heap.size,0,none⟩=some (.int .i64 a0)/\wx.cell? ⟨w.heap.size,1,none⟩=some (.int .i64 a1)/\wx.cell? ⟨w.heap.size,2,none⟩=some (.int .i64 a2)/\wx.cell? ⟨w.heap.size,3,none⟩=some (.int .i64 a3)/\wx.cell? ⟨w.heap.size,4,none⟩=some (.int .i64 a4)/\wx.cell? ⟨w.heap.size,5,none⟩=some (.int .i64 a5)/\wx.cell? ⟨w.heap.size,6,none⟩=some (.int .i64 a6):=by
  intro wx hg;have hb:=hbk.grown hg (by simp);exact ⟨by rw [hb.cell]; rfl,by rw [hb.cell]; rfl,by rw [hb.cell]; rfl,by rw [hb.cell]; rfl,by rw [hb.cell]; rfl,by rw [hb.cell]; rfl,by rw [hb.cell]; rfl⟩
 have av:=hid hkeep;have gV:=hid (λwx (hg:(w.alloc (.cells #[.int .i64 a0,.int .i64 a1,.int .i64 a2,.int .i64 a3,.int .i64 a4,.int .i64 a5,.int .i64 a6] 49)).grownBy wx none)=>(h.quiet (hg0.trans hg)).size);have HD0:=hid (ah (w.alloc (.cells #[.int .i64 a0,.int .i64 a1,.int .i64 a2,.int .i64 a3,.int .i64 a4,.int .i64 a5,.int .i64 a6] 49)) none);have bz:=hid hg0;have fM:=hid (λwx=>uW a0 a1 a2 a3 a4 a5 a6 (S.n:Int) wx)
 have fw:=hid (show ay S [a0,a1,a2,a3,a4,a5,a6]=if aL [a0,a1,a2,a3,a4,a5,a6] S.n then aF S true (a0.tmod 2) (frame (aX [a0,a1,a2,a3,a4,a5,a6])) else (1,S) from rfl);have hck:dY [a0,a1,a2,a3,a4,a5,a6] (S.n:Int)=if aL [a0,a1,a2,a3,a4,a5,a6] S.n then 0 else 1:=rfl;clear hbk hg0 hkeep h hroom
 cases hm:aL [a0,a1,a2,a3,a4,a5,a6] S.n with
 | false =>
   rw [hm] at fw hck;rw [hck] at fM;rw [fw.out];clear hck hm fw;generalize hn:(S.n:Int)=n at *;go_enter Tryz.func96,Tryz.ntmps96;go_wp2_with fail
   go_region_held3 (λwx=>wx.cell? ⟨w.heap.size,0,none⟩=some (.int .i64 a0)/\wx.cell? ⟨w.heap.size,1,none⟩=some (.int .i64 a1)/\wx.cell? ⟨w.heap.size,2,none⟩=some (.int .i64 a2)/\wx.cell? ⟨w.heap.size,3,none⟩=some (.int .i64 a3)/\wx.cell? ⟨w.heap.size,4,none⟩=some (.int .i64 a4)/\wx.cell? ⟨w.heap.size,5,none⟩=some (.int .i64 a5)/\wx.cell? ⟨w.heap.size,6,none⟩=some (.int .i64 a6))
    (first
      | exact av.out _ HD0.out
      | exact av.out _ az.out)
    (first
      | (go_at_call 48
         refine (gV.out _ HD0.out).mono ?_;rintro e w1 ⟨rfl,rfl⟩)
      | (go_at_call 47
         refine (fM.out _).mono ?_;rintro e w2 ⟨rfl,hg⟩;have az:=hid (HD0.out.trans hg);clear hg))
   go_wp2;go_ret;refine ⟨rfl,own,H0.out.quiet (bz.out.trans az.out),aa.none_ (bz.out.trans az.out),λhc=>?_⟩;exact Ready.keep hc (bz.out.trans az.out) (by simp)
 | true =>
   have HM:=hid hm;rw [hm] at fw hck;rw [hck] at fM;rw [fw.out];clear hck hm fw;rw [if_pos rfl] at *;generalize hn:(S.n:Int)=n at *;have hlen:=vX (s:=[a0,a1,a2,a3,a4,a5,a6]) rfl (kI HM.out);have HLEN:=hid hlen;have HN:=hid hn;have HW:=hid (kI HM.out);clear hlen hn;generalize frame (aX [a0,a1,a2,a3,a4,a5,a6])=L at *;go_enter Tryz.func96,Tryz.ntmps96;go_wp2_with fail
   go_region_held3 (λwx=>wx.cell? ⟨w.heap.size,0,none⟩=some (.int .i64 a0)/\wx.cell? ⟨w.heap.size,1,none⟩=some (.int .i64 a1)/\wx.cell? ⟨w.heap.size,2,none⟩=some (.int .i64 a2)/\wx.cell? ⟨w.heap.size,3,none⟩=some (.int .i64 a3)/\wx.cell? ⟨w.heap.size,4,none⟩=some (.int .i64 a4)/\wx.cell? ⟨w.heap.size,5,none⟩=some (.int .i64 a5)/\wx.cell? ⟨w.heap.size,6,none⟩=some (.int .i64 a6))
    (first
      | exact av.out _ HD0.out
      | exact av.out _ az.out)
    (first
      | (go_at_call 48
         refine (gV.out _ HD0.out).mono ?_;rintro e w1 ⟨rfl,rfl⟩)
      | (go_at_call 47
         refine (fM.out _).mono ?_;rintro e w2 ⟨rfl,hg⟩;have az:=hid (HD0.out.trans hg);clear hg))
   obtain ⟨x0,x1,x2,x3,x4,x5,x6⟩:=av.out _ az.out;have hlt1:w.heap.size < w2.heap.size:=by have:=az.out.size; simp at this; omega
   have Ji:=hid (bz.out.trans az.out);have H1:=hid (H0.out.quiet Ji.out);go_wp2_with fail;refine (zk tb (some tb) a0 a1 a2 a3 a4 a5 a6 _ (.inr ⟨H1.out.t,rfl⟩)).mono ?_;rintro e w3 ⟨hg3,⟨l,g,ho,rfl,hge,hb3,hl3,hr3⟩ | ⟨ho,_⟩⟩
   case inr=>rw [HW.out] at ho; cases ho
   rw [HW.out] at ho;obtain rfl:L=l:=by injection ho
   clear ho;have hne:w.heap.size≠tb:=λe=>by have:=rM H0.out.t; omega
   obtain ⟨y0,y1,y2,y3,y4,y5,y6⟩:w3.cell? ⟨w.heap.size,0,none⟩=some (.int .i64 a0)/\w3.cell? ⟨w.heap.size,1,none⟩=some (.int .i64 a1)/\w3.cell? ⟨w.heap.size,2,none⟩=some (.int .i64 a2)/\w3.cell? ⟨w.heap.size,3,none⟩=some (.int .i64 a3)/\w3.cell? ⟨w.heap.size,4,none⟩=some (.int .i64 a4)/\w3.cell? ⟨w.heap.size,5,none⟩=some (.int .i64 a5)/\w3.cell? ⟨w.heap.size,6,none⟩=some (.int .i64 a6):=by
    have hk:∀ o,w3.cell? ⟨w.heap.size,o,none⟩=w2.cell? ⟨w.heap.size,o,none⟩:=λo=>aki (hg3.block _ hlt1 (by simpa using hne))
    exact ⟨(hk 0).trans x0,(hk 1).trans x1,(hk 2).trans x2,(hk 3).trans x3,(hk 4).trans x4,(hk 5).trans x5,(hk 6).trans x6⟩
   have HT3:=hid ((zP (own:=own) (bW Ji.out (some tb))).trans (zP hg3));have H3:=hid (H1.out.table hg3 (.inr hr3));have HB3:=hid hb3; have kX:=hid hl3; have yF:=hid hge; have agQ:=hid hr3;clear x0 x1 x2 x3 x4 x5 x6 hg3 hb3 hl3 hr3 hge;rw [HLEN.out];go_wp2_with fail;refine (JM a0 a1 a2 a3 a4 a5 a6 _).mono ?_;rintro e w4 ⟨rfl,hg4⟩;have hb4:=HB3.out.grown hg4 (by simp);have hno:¬ own g:=λho=>by have:=H1.out.kL ho; have:=yF.out; omega
   have xO:=hid (lG hb4 kX.out hno);have H4:=hid (H3.out.quiet hg4);have sK:=hid (HT3.out.trans (aa.none_ hg4)); have agP:=hid (agQ.out.keep hg4 (by simp));rw [HLEN.out] at xO;clear hg4 hb4 hno y0 y1 y2 y3 y4 y5 y6;go_wp2_with fail;refine (lY H4.out.d (a0.tmod 2) _ 256 256 L true (by have:=ad3 a0; omega) xO.out (by omega) (by omega) bB.out H4.out.s).mono ?_;rintro e w5 ⟨rfl,own',hd5,dL⟩;have H5:=hid (H4.out.disk hd5 dL)
   have fJ:=hid (sK.out.trans (qP dL tb));have agO:=hid (show Ready w5 tb from by
    obtain ⟨cs,hb,hr⟩:=agP.out;exact ⟨cs,aj hb (dL.block tb hb.lt H4.out.n),hr⟩)
   clear hd5 dL;go_wp2;go_ret;exact ⟨rfl,own',H5.out,fJ.out,λ_=>agO.out⟩
theorem L9 {w:World} {B b tb:Nat} {S:St} {own:Nat->Prop} (h:gQ w B b tb S own) (a0 a1 a2 a3 a4 a5 a6:Int) (hroom:∀ i,(S.ae i).length < 549755813888) :
 Calls Tryz.prog 96 #[.pointer (some ⟨b,0,none⟩),.pointer (some ⟨tb,0,none⟩),.agg #[.int .i64 a0,.int .i64 a1,.int .i64 a2,.int .i64 a3,.int .i64 a4,.int .i64 a5,.int .i64 a6]] w λe w' =>
  e=.returned (.int .i64 (ay S [a0,a1,a2,a3,a4,a5,a6]).1)/\∃ own',gQ w' B b tb (ay S [a0,a1,a2,a3,a4,a5,a6]).2 own'/\aa w w' (With own tb) (With own' tb) :=
 (F8 h a0 a1 a2 a3 a4 a5 a6 hroom).mono λ_ _ ⟨h1,own',h2,h3,_⟩=>⟨h1,own',h2,h3⟩
end Go.Proofs.YtinajlbijgedbaaGreat.Sup
namespace Go.Proofs.YtinajlbijgedbaaGreat.Log
open Go.RowKit CrcMath CodecMath Mem Crc Codec DiskSpec Dsk Sup
def Lg.cs (L:Lg) (b tb:Nat):Array Value :=
 #[.pointer (some ⟨b,0,none⟩),.pointer (some ⟨tb,0,none⟩),.int .i64 L.g,.int .i64 (L.ep:Nat),.int .i64 L.pg,.int .i64 (L.st:Nat),.int .i64 (L.ln:Nat),.int .i64 (L.hd:Nat),.int .i64 (L.sq:Nat),
  .int .i64 (L.tail:Nat),.int .i64 (L.seq:Nat),.int .i64 (L.taken:Nat),.bool L.broken]
def dS (w:World) (g:Nat) (L:Lg) (b tb:Nat):Prop:=af w g 202 (L.cs b tb)
section
variable {w w':World} {g b tb:Nat} {L:Lg}
theorem dS.cells (h:dS w g L b tb) :
 w.cell? ⟨g,0,none⟩=some (.pointer (some ⟨b,0,none⟩))/\w.cell? ⟨g,1,none⟩=some (.pointer (some ⟨tb,0,none⟩))/\w.cell? ⟨g,3,none⟩=some (.int .i64 (L.ep:Nat)) /\
 w.cell? ⟨g,5,none⟩=some (.int .i64 (L.st:Nat))/\w.cell? ⟨g,6,none⟩=some (.int .i64 (L.ln:Nat)) /\
 w.cell? ⟨g,9,none⟩=some (.int .i64 (L.tail:Nat))/\w.cell? ⟨g,10,none⟩=some (.int .i64 (L.seq:Nat))/\w.cell? ⟨g,11,none⟩=some (.int .i64 (L.taken:Nat))/\w.cell? ⟨g,12,none⟩=some (.bool L.broken) :=
 ⟨af.cell h 0,af.cell h 1,af.cell h 3,af.cell h 5,af.cell h 6,af.cell h 9,af.cell h 10,af.cell h 11,af.cell h 12⟩
theorem dS.fz (h:dS w g L b tb) (i:Nat):w.frozen? ⟨g,i,none⟩=false:=af.frozen h i
theorem dS.lt (h:dS w g L b tb):g < w.heap.size:=af.lt h
theorem dS.grown (h:dS w g L b tb) {row:Option Nat} (hg:w.grownBy w' row) (hr:some g≠row):dS w' g L b tb:=af.grown h hg hr
theorem dS.drewN (h:dS w g L b tb) (n:Nat):dS (w.drewN n) g L b tb:=h
theorem dS.block (h:dS w g L b tb) (hk:w'.heap[g]?=w.heap[g]?):dS w' g L b tb:=hk.trans h
theorem dS.pass (h:dS w g L b tb) (k:Nat) {p t q:Int} (hp:p=((L.tail+k) % L.ln:Nat)) (ht:t=(L.taken+k:Nat)) (hq:q=(L.seq+1:Nat)) :
 dS (((w.setCell ⟨g,9,none⟩ (.int .i64 p)).setCell ⟨g,11,none⟩ (.int .i64 t)).setCell ⟨g,10,none⟩ (.int .i64 q)) g (L.pass k) b tb:=by
 subst hp ht hq;exact ((af.aC h 9 _).aC 11 _).aC 10 _
theorem dS.drop (h:dS w g L b tb):dS ((w.setCell ⟨g,11,none⟩ (.int .i64 0)).setCell ⟨g,12,none⟩ (.bool false)) g L.drop b tb:=(af.aC h 11 _).aC 12 _
theorem dS.fail (h:dS w g L b tb) {q:Int} (hq:q=(L.seq+1:Nat)):dS ((w.setCell ⟨g,10,none⟩ (.int .i64 q)).setCell ⟨g,12,none⟩ (.bool true)) g L.fail b tb:=by
 subst hq;exact (af.aC h 10 _).aC 12 _
end
theorem pz {w:World} {P:Nat->Prop} {A:Option Addr} {n:Nat} {l:List Nat} (h:Dsk.Data w P A n l) {b:Nat} (hb:P b):Bytes w b A n l:=by
 refine ⟨h.1,h.2.1,λhn=>?_⟩;obtain ⟨g,o,e,hlt,hno,hc⟩:=h.2.2 hn;exact ⟨g,o,e,hlt,λe2=>hno (e2 ▸ hb),hc⟩
theorem V9 {w:World} {P Q:Nat->Prop} {A:Option Addr} {n:Nat} {l:List Nat} (h:Dsk.Data w P A n l) (hq:∀ i,i < w.heap.size->Q i->P i):Dsk.Data w Q A n l:=by
 refine ⟨h.1,h.2.1,λhn=>?_⟩;obtain ⟨g,o,e,hlt,hno,hc⟩:=h.2.2 hn;exact ⟨g,o,e,hlt,λe2=>hno (hq g hlt e2),hc⟩
def cO (w:World) (P:Nat->Prop) (v:Value) (l:List Nat):Prop:=∃ A n c,v=.slice A n c/\n<=c/\Dsk.Data w P A n l
theorem cO.turn {w w':World} {P P':Nat->Prop} {v:Value} {l:List Nat} (h:cO w P v l) (ht:aa w w' P P'):cO w' P' v l:=by
 obtain ⟨A,n,c,h1,h2,h4⟩:=h;exact ⟨A,n,c,h1,h2,Dsk.Data.turn h4 ht⟩
theorem cO.weak {w:World} {P Q:Nat->Prop} {v:Value} {l:List Nat} (h:cO w P v l) (hq:∀ i,i < w.heap.size->Q i->P i):cO w Q v l:=by
 obtain ⟨A,n,c,h1,h2,h4⟩:=h;exact ⟨A,n,c,h1,h2,V9 h4 hq⟩
def dM (V:List (ax × Value)):List Value:=V.flatMap λp=>[.int .i64 p.1.1,.int .i64 p.1.2.1,p.2]
theorem Fy (V:List (ax × Value)) (p:ax × Value):dM (V ++ [p])=dM V ++ [.int .i64 p.1.1,.int .i64 p.1.2.1,p.2]:=by simp [dM]
theorem IW (V:List (ax × Value)):(dM V).length=3 * V.length:=by
 induction V with
 | nil=>rfl
 | cons a V ih =>
   have e:dM (a :: V)=[.int .i64 a.1.1,.int .i64 a.1.2.1,a.2] ++ dM V:=rfl;rw [e,akl,ih,List.length_cons,List.length_cons,List.length_cons,List.length_cons,List.length_nil];omega
theorem Vl:∀ (V:List (ax × Value)) (j:Nat) (p:ax × Value),V[j]?=some p->(dM V)[j * 3]?=some (.int .i64 p.1.1)/\(dM V)[j * 3+1]?=some (.int .i64 p.1.2.1)/\(dM V)[j * 3+2]?=some p.2
 | [],j,p,h=>by simp at h
 | a :: V,0,p,h=>by
   simp at h
   subst h;exact ⟨rfl,rfl,rfl⟩
 | a :: V,j+1,p,h=>by
   have e:dM (a :: V)=[.int .i64 a.1.1,.int .i64 a.1.2.1,a.2] ++ dM V:=rfl;have hl:([.int .i64 a.1.1,.int .i64 a.1.2.1,a.2]:List Value).length=3:=rfl;obtain ⟨h1,h2,h3⟩:=Vl V j p (by simpa using h);rw [e];refine ⟨?_,?_,?_⟩
   · rw [akv (by rw [hl]; omega),hl,show (j+1) * 3 - 3=j * 3 from by omega]; exact h1
   · rw [akv (by rw [hl]; omega),hl,show (j+1) * 3+1 - 3=j * 3+1 from by omega]; exact h2
   · rw [akv (by rw [hl]; omega),hl,show (j+1) * 3+2 - 3=j * 3+2 from by omega]; exact h3
def eG (w:World) (P:Nat->Prop) (A:Option Addr) (n:Nat) (l:List ax):Prop :=
 ∃ V:List (ax × Value),V.map (·.1)=l/\l.length=n/\(0 < n->∃ g o,A=some ⟨g,o,none⟩/\g < w.heap.size/\¬ P g/\∀ j u,(dM V)[j]?=some u->w.cell? ⟨g,o+j,none⟩=some u)/\∀ p∈V,cO w P p.2 p.1.2.2
section
variable {w w':World} {P P' Q:Nat->Prop} {A:Option Addr} {n:Nat} {l:List ax}
theorem eG.nil (w:World) (P:Nat->Prop) (A:Option Addr):eG w P A 0 []:=⟨[],rfl,rfl,λh=>by omega,by simp⟩
theorem eG.len (h:eG w P A n l):l.length=n:=by obtain ⟨_,_,h,_⟩:=h; exact h
theorem eG.turn (h:eG w P A n l) (ht:aa w w' P P'):eG w' P' A n l:=by
 obtain ⟨V,h1,h2,h3,h4⟩:=h;refine ⟨V,h1,h2,λhn=>?_,λp hp=>(h4 p hp).turn ht⟩;obtain ⟨g,o,e,hlt,hno,hc⟩:=h3 hn;refine ⟨g,o,e,ake hlt ht.size,λh5=>?_,λj u hu=>?_⟩
 · rcases ht.fresh g h5 with h6 | h6
   · exact hno h6
   · omega
 · rw [aki (a:=⟨g,o+j,none⟩) (ht.block g hlt hno)];exact hc j u hu
theorem eG.weak (h:eG w P A n l) (hq:∀ i,i < w.heap.size->Q i->P i):eG w Q A n l:=by
 obtain ⟨V,h1,h2,h3,h4⟩:=h;refine ⟨V,h1,h2,λhn=>?_,λp hp=>(h4 p hp).weak hq⟩;obtain ⟨g,o,e,hlt,hno,hc⟩:=h3 hn;exact ⟨g,o,e,hlt,λh5=>hno (hq g hlt h5),hc⟩
theorem eG.at_ (h:eG w P A n l) {j:Nat} (hj:j < n):∃ g o x B m c,A=some ⟨g,o,none⟩/\g < w.heap.size/\¬ P g/\l[j]?=some x/\w.cell? ⟨g,o+j * 3,none⟩=some (.int .i64 x.1)/\w.cell? ⟨g,o+j * 3+1,none⟩=some (.int .i64 x.2.1) /\
 w.cell? ⟨g,o+j * 3+2,none⟩=some (.slice B m c)/\m<=c/\Dsk.Data w P B m x.2.2:=by
 obtain ⟨V,h1,h2,h3,h4⟩:=h;obtain ⟨g,o,e,hlt,hno,hc⟩:=h3 (by omega);have hjV:j < V.length:=by rw [<-h1] at h2; simp at h2; omega
 obtain ⟨c0,c1,c2⟩:=Vl V j V[j] (akj hjV);obtain ⟨B,m,c,e2,hm,hd⟩:=h4 V[j] (List.getElem_mem hjV);refine ⟨g,o,V[j].1,B,m,c,e,hlt,hno,?_,hc _ _ c0,hc _ _ c1,?_,hm,hd⟩
 · rw [<-h1,List.getElem?_map,akj hjV]; rfl
 · rw [<-e2]; exact hc _ _ c2
end
def From (P:Nat->Prop) (B:Nat):Nat->Prop:=λi=>P i\/B<=i
theorem eG.from_ {w:World} {P:Nat->Prop} {A:Option Addr} {n:Nat} {l:List ax} (h:eG w P A n l) (B:Nat) (hB:w.heap.size<=B):eG w (From P B) A n l :=
 h.weak (λi hi hq=>by
  rcases hq with hq | hq
  · exact hq
  · omega)
theorem uy {w:World} {base n:Nat} {P:Nat->Prop} {A:Option Addr} {m c:Nat} {V:List (ax × Value)} (h:Own w base 90 3 (.slice A m c) n (dM V)) (hV:V.length=n) (hb:∀ i,base<=i->i < w.heap.size->¬ P i) (hl:∀ p∈V,cO w P p.2 p.1.2.2) :
 eG w P A n (V.map (·.1)):=by
 refine ⟨V,rfl,by simpa using hV,λhn=>?_,hl⟩;obtain ⟨g,cap,e,hg,hlt,_,_,hc⟩:=h.reads hn;have hA:A=some ⟨g,0,none⟩:=by injection e
 exact ⟨g,0,hA,hlt,hb g hg hlt,λj u hu=>by rw [Nat.zero_add]; exact hc j u hu⟩
theorem wu:(Tryz.prog.info? 90).map (λi=>(i.zero,i.size,i.bytes))=some (some (.agg #[.int .i64 0,.int .i64 0,.slice none 0 0]),3,40):=by kernel_rfl
theorem gY (w:World) (a0 a1 a2:Value):Reads (w.alloc (.cells #[a0,a1,a2] 90)) (w.heap.size+1) 3 (some ⟨w.heap.size,0,none⟩) 1 [a0,a1,a2]:=by
 refine ⟨rfl,λ_=>⟨_,rfl,by simp,λj u hu=>?_⟩⟩;have hb:=(af.new w 90 #[a0,a1,a2]).cell j;have e1:(⟨w.heap.size,0,none⟩:Addr).add j=⟨w.heap.size,j,none⟩:=by unfold Addr.add; split <;> simp_all
 rw [e1,hb]
 simpa using hu
def fC (own:Nat->Prop) (tb g:Nat):Nat->Prop:=λi=>With own tb i\/i=g
structure gG (w:World) (B b tb g:Nat) (S:St) (own:Nat->Prop) (L:Lg):Prop where
 s:gQ w B b tb S own
 l:dS w g L b tb
 o:¬ With own tb g
 k:L.ok S.n
section
variable {w w' w1:World} {B b tb g:Nat} {S S':St} {own own':Nat->Prop} {L L':Lg}
theorem nR (h:aa w w' (With own tb) (With own' tb)) (g:Nat):aa w w' (fC own tb g) (fC own' tb g) :=
 ⟨h.os,h.tape,h.output,h.size,λi hi hn=>h.block i hi (λe=>hn (.inl e)),λi hi=>by
  rcases hi with hi | rfl
  · rcases h.fresh i hi with h1 | h1
    · exact .inl (.inl h1)
    · exact .inr h1
  · exact .inl (.inr rfl)⟩
theorem yL (h:w.grownBy w' (some g)):aa w w' (fC own tb g) (fC own tb g):=.aA h (λj e=>by cases e; exact .inr rfl)
theorem Jn (h:w.grownBy w' (some tb)):aa w w' (fC own tb g) (fC own tb g):=.aA h (λj e=>by cases e; exact .inl (.inr rfl))
theorem gG.ne (h:gG w B b tb g S own L):g≠tb:=λe=>h.o (.inr e)
theorem gG.quiet (h:gG w B b tb g S own L) (hg:w.grownBy w' none):gG w' B b tb g S own L:=⟨h.s.quiet hg,h.l.grown hg (by simp),h.o,h.k⟩
theorem gG.table (h:gG w B b tb g S own L) (hg:w.grownBy w' (some tb)) (ht:mX w' tb):gG w' B b tb g S own L:=⟨h.s.table hg ht,h.l.grown hg (by simpa using h.ne),h.o,h.k⟩
theorem gG.disk (h:gG w B b tb g S own L) (hd:dU w' B b S' own') (ht:aa w w' own own') (hn:S'.n=S.n):gG w' B b tb g S' own' L :=
 ⟨h.s.disk hd ht,h.l.block (ht.block g h.l.lt (λe=>h.o (.inl e))),λho=>by
  rcases ho with ho | ho
  · rcases ht.fresh g ho with h1 | h1
    · exact h.o (.inl h1)
    · have:=h.l.lt; omega
  · exact h.ne ho,hn ▸ h.k⟩
theorem gG.log (h:gG w B b tb g S own L) (hg:w.grownBy w' (some g)) (hl:dS w' g L' b tb) (hk:L'.ok S.n):gG w' B b tb g S own L' :=
 ⟨h.s.far hg (λe=>h.o (.inl e)) (λe=>h.ne e.symm),hl,h.o,hk⟩
theorem gG.kL (h:gG w B b tb g S own L) {i:Nat} (hi:fC own tb g i):i < w.heap.size:=by
 rcases hi with (hi | rfl) | rfl
 · exact h.s.kL hi
 · exact rM h.s.t
 · exact h.l.lt
end
end Go.Proofs.YtinajlbijgedbaaGreat.Log
