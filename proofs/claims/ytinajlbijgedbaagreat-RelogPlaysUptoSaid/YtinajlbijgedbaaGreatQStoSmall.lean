/- Texts of this seat's proofs: StoSmall, StoSmall2, StoBegin, StoSave, StoKeys, StoRising, StoBring, StoCkpt, StoLog. -/
import Derived.Test.YtinajlbijgedbaaGreatQLogMay
import Derived.Test.YtinajlbijgedbaaGreatQStructs
import Derived.Test.YtinajlbijgedbaaGreatQDiskNow
import Derived.Test.YtinajlbijgedbaaGreatQSupSave
import Derived.Test.YtinajlbijgedbaaGreatQDiskLaid
import Derived.Shelf.Bytes.SlClone
import Derived.Deep.QuietTactic
import Derived.BigQuiet
import Derived.Deep.RegionHeld3
set_option maxRecDepth 100000
set_option maxHeartbeats 16000000
namespace Go.Proofs.YtinajlbijgedbaaGreat.Sto
open Lib (hid)
open Go.RowKit Go.Shelf CrcMath CodecMath Mem Crc Codec DiskSpec Dsk Sup Log
theorem Ni (p:Int) (w:World) (h:-9223372036854775808<=p/\p<=9223372036854775800):Calls Tryz.prog 50 #[.int .i64 p] w λe w'=>e=.returned (.int .i64 (2+p))/\w'=w:=by
 have hw:IntKind.i64.wrap (2+p)=2+p:=IntWalk.i64_in _ (by omega);go_enter Tryz.func50,Tryz.ntmps50;go_wp2;go_ret;exact ⟨rfl,rfl⟩
theorem abp (w:World):(binOp .neq 100 (.map none) (.map none)).run Tryz.prog w=.ok (.bool false) w:=by kernel_rfl
theorem aax (m:Nat) (w:World):(binOp .neq 100 (.map (some m)) (.map none)).run Tryz.prog w=.ok (.bool true) w:=by kernel_rfl
section
variable {Z:Nat->Prop} {w:World} {B b tb g sb dm:Nat} {wm:Option Nat} {own:Nat->Prop} {s:Sto}
theorem ma (h:bf Z w B b tb g sb dm wm own s):Calls Tryz.prog 57 #[.pointer (some ⟨sb,0,none⟩)] w λe w'=>e=.returned (.bool s.W.isSome)/\w'=w:=by
 obtain ⟨_,_,_,_,_,_,_,_,_,_,_,c11⟩:=h.cells
 cases hW:s.W with
 | none =>
   have hn:=h.n hW;subst hn;have hq:=abp w;clear hW h;go_enter Tryz.func57,Tryz.ntmps57;go_wp2;go_ret;exact ⟨rfl,rfl⟩
 | some U =>
   obtain ⟨m,e,_⟩:=h.u U hW;subst e;have hq:=aax m w;clear hW h;go_enter Tryz.func57,Tryz.ntmps57;go_wp2;go_ret;exact ⟨rfl,rfl⟩
theorem P7 (h:bf Z w B b tb g sb dm wm own s) (p:Int):Calls Tryz.prog 58 #[.pointer (some ⟨sb,0,none⟩),.int .i64 p] w λe w'=>e=.returned (.bool (s.has p))/\w'=w:=by
 obtain ⟨_,_,_,_,c4,_⟩:=h.cells;have HH:=hid (show s.has p=(decide (0<=p) && decide (p < (s.x.pg:Int))) from rfl);clear h
 by_cases h0:0<=p
 · by_cases h1:p < (s.x.pg:Int)
   · have HR:=hid (show s.has p=true by rw [HH.out]; simp [h0,h1]);go_enter Tryz.func58,Tryz.ntmps58;go_wp2;go_ret;exact ⟨by rw [HR.out]; rfl,rfl⟩
   · have HR:=hid (show s.has p=false by rw [HH.out]; simp [h1]);go_enter Tryz.func58,Tryz.ntmps58;go_wp2;go_ret;exact ⟨by rw [HR.out]; rfl,rfl⟩
 · have HR:=hid (show s.has p=false by rw [HH.out]; simp [h0]);go_enter Tryz.func58,Tryz.ntmps58;go_wp2;go_ret;exact ⟨by rw [HR.out]; rfl,rfl⟩
end
theorem NN {w:World} {base n:Nat} {own:Nat->Prop} {v:Value} {l:List Nat} (h:Own w base 5 1 v n (au l)) (ho:∀ i,own i->i < base) (hl:∀ x∈l,x < 256) :
 ∃ A c,v=.slice A n c/\n<=c/\Dsk.Data w own A n l:=by
 have hn:l.length=n:=by have:=h.len; rw [aB] at this; omega
 obtain ⟨A,c,rfl,h1,_,_⟩:=h.shape;refine ⟨A,c,rfl,h1,hn,hl,λhp=>?_⟩;obtain ⟨g,cap,e,hb,hlt,_,_,hc⟩:=h.reads hp;simp only [Value.slice.injEq] at e;obtain ⟨rfl,_,_⟩:=e;refine ⟨g,0,rfl,hlt,λe=>by have:=ho g e; omega,λj hj=>?_⟩;rw [Nat.zero_add];exact hc j _ (fT l j (by omega))
theorem aaJ (A:Addr) (n c:Nat) (w:World):(binOp .eql 65 (.slice (some A) n c) (.slice none 0 0)).run Tryz.prog w=.ok (.bool false) w:=by kernel_rfl
theorem Wl {w:World} {P:Nat->Prop} {v:Value} {l:List Nat} (h:cO w P v l) (hn:0 < l.length) (hm:l.length<=1099511627776) :
 Calls Tryz.prog 108 #[v] w λe w'=>∃ v',e=.returned v'/\cO w' (λi=>i < w.heap.size) v' l/\w.grownBy w' none:=by
 obtain ⟨A,n,c,rfl,hc,hd⟩:=h;have hlen:=hd.1;obtain ⟨g,o,rfl,hg,_,hcells⟩:=hd.2.2 (by omega);obtain ⟨i0,hi0,hz0,hz1,hz2⟩:=info_parts gD;have hi:=hid hi0; have z0:=hid hz0; have z1:=hid hz1; have z2:=hid hz2;have bK:=hid hd.2.1;have hq:=aaJ ⟨g,o,none⟩ n c w;have hr:Reads (w.alloc (.cells #[] 5)) (w.heap.size+1) 1 (some ⟨g,o,none⟩) n (au l):=⟨by rw [aB]; omega,λ_=>⟨⟨g,o,none⟩,rfl,by show g < w.heap.size+1; omega,λj u hu=>by
  have hj:j < l.length:=by have:=(List.getElem?_eq_some_iff.1 hu).1; rwa [aB] at this
  rw [fT l j hj] at hu
  cases hu
  rw [Addr.add_mid];rw [aki (a:=⟨g,o+j,none⟩) (Below.heap_alloc w _ _ hg)];exact hcells j (by omega)⟩⟩
 have hown:Own (w.alloc (.cells #[] 5)) w.heap.size 5 1 (.slice (some ⟨w.heap.size,0,none⟩) 0 0) 0 []:=by
  refine .inl ⟨rfl,.inr ⟨w.heap.size,0,#[],rfl,akf _,?_,?_⟩⟩
  · exact heap_alloc_new w _
  · simp [maxLen]
 have HR:=hid hr; have HO:=hid hown; have HLEN:=hid hlen;clear hr hown hi0 hz0 hz1 hz2 hd hcells;go_enter Tryz.func108,Tryz.ntmps108
 go_wp2_with (at_builtin
              refine ai _ rfl (.tmp 5) (.tmp 6) _ rfl w.heap.size 5 i0 _ 1 1 Tryz.underlying65 hi.out z0.out z1.out z2.out rfl (by omega) _ 0 _ rfl HO.out
               _ _ n _ _ rfl HR.out (λu hu=>fO l u hu) (by simp only [maxLen]; omega) (by omega) (by simp) ?_
              intro v' w' hown' dC;have kr:=hid hown'; have iO:=hid dC; clear hown' dC)
 go_ret;have ho:=kr.out;rw [Nat.zero_add,List.nil_append] at ho;obtain ⟨A',c',e,hc',hd'⟩:=NN (own:=λi=>i < w.heap.size) ho (λ_ hi=>hi) bK.out;refine ⟨_,rfl,⟨A',n,c',e,hc',by have:=HLEN.out; exact hd'⟩,?_⟩;exact (aj9 w _ none).andThen iO.out.1 (λj hj=>by cases hj; exact .inl (akf _))
theorem SV {w:World} {P:Nat->Prop} {v:Value} {p:Pg} (h:rA w P v p) (hn:0 < p.2.length) (hm:p.2.length<=1099511627776) :
 Calls Tryz.prog 60 #[v] w λe w'=>∃ v',e=.returned v'/\rA w' (λi=>i < w.heap.size) v' p/\w.grownBy w' none:=by
 obtain ⟨bv,rfl,hb⟩:=h;obtain ⟨k,l⟩:=p
 dsimp only at *
 have bz:=hid ((aj9 w (.cells #[.int .i64 k,bv] 72) none).trans (aj9 _ (.cells #[.int .i64 0,.slice none 0 0] 72) none));have HB0:=hid ((af.new w 72 #[.int .i64 k,bv]).alloc (.cells #[.int .i64 0,.slice none 0 0] 72));have fA:=hid (show af ((w.alloc (.cells #[.int .i64 k,bv] 72)).alloc (.cells #[.int .i64 0,.slice none 0 0] 72)) (w.heap.size+1) 72 #[.int .i64 0,.slice none 0 0] from by
  have:=af.new (w.alloc (.cells #[.int .i64 k,bv] 72)) 72 #[.int .i64 0,.slice none 0 0]
  rwa [show (w.alloc (.cells #[.int .i64 k,bv] 72)).heap.size=w.heap.size+1 from by simp] at this)
 have hb2:=hb.turn (aa.none_ bz.out);have HC:=hid (Wl hb2 hn hm);obtain ⟨A,n,c,rfl,_,_⟩:=hb;clear hb2;go_enter Tryz.func60,Tryz.ntmps60;go_wp2_with fail;refine HC.out.mono ?_;rintro e w1 ⟨v',rfl,hb',hg1⟩;have HB1:=hid (HB0.out.grown hg1 (by simp)); have HR1:=hid (fA.out.grown hg1 (by simp));have az:=hid (bz.out.trans hg1);have xQ:=hid (show cO w1 (λi=>i < w.heap.size+2) v' l from by
  rw [show ((w.alloc (.cells #[.int .i64 k,.slice A n c] 72)).alloc (.cells #[.int .i64 0,.slice none 0 0] 72)).heap.size=w.heap.size+2 from by simp] at hb';exact hb')
 have hne:w.heap.size≠w.heap.size+1:=by omega
 clear hb' hg1 HC HB0 fA;obtain ⟨A',n',c',rfl,_,_⟩:=xQ.out;have b0:=HB1.out.cell 0; have b1:=HB1.out.cell 1; have fb1:=HB1.out.frozen 1;simp only [akb,aka,akc] at b0 b1;go_upto_region 2 with fail;have HB2:=hid (show af (w1.setCell ⟨w.heap.size,1,none⟩ (.slice A' n' c')) w.heap.size 72 #[.int .i64 k,.slice A' n' c'] from HB1.out.aC 1 (.slice A' n' c'))
 have HR2:=hid (HR1.out.far (p:=⟨w.heap.size,1,none⟩) hne.symm (.slice A' n' c'));have hs:=akd (akr w1 (some w.heap.size)) 1 (.slice A' n' c');have HG2:=hid (show w.grownBy (w1.setCell ⟨w.heap.size,1,none⟩ (.slice A' n' c')) none from az.out.andThen hs (λj e=>by cases e; exact .inl (akf _)));have ahd:=hid (show cO (w1.setCell ⟨w.heap.size,1,none⟩ (.slice A' n' c')) (λi=>i < w.heap.size+2) (.slice A' n' c') l from
  xQ.out.turn (.aA hs (λj e=>by cases e; show w.heap.size < w.heap.size+2; omega)))
 clear b0 b1 fb1 hs HB1 HR1 xQ az;generalize w1.setCell ⟨w.heap.size,1,none⟩ (.slice A' n' c')=w2 at *;have b0:=HB2.out.cell 0; have b1:=HB2.out.cell 1;have r0:=HR2.out.cell 0; have r1:=HR2.out.cell 1; have fr0:=HR2.out.frozen 0; have fr1:=HR2.out.frozen 1;simp only [akb,aka,akc] at b0 b1 r0 r1;go_wp2;have hs1:=akd (akr w2 (some (w.heap.size+1))) 0 (.int .i64 k)
 have hs2:=akd hs1 1 (.slice A' n' c');refine qG rfl (w.heap.size+1) 72 #[.int .i64 k,.slice A' n' c'] _ rfl (af.set2 HR2.out) Tryz.underlying72 rfl (by kernel_rfl) rfl ?_;refine ⟨_,rfl,⟨_,rfl,?_⟩,?_⟩
 · exact (ahd.out.turn (.aA hs2 (λj e=>by cases e; show w.heap.size+1 < w.heap.size+2; omega))).weak (λi _ hi=>by show i < w.heap.size+2; omega)
 · exact HG2.out.andThen hs2 (λj e=>by cases e; exact .inl (by omega))
section
variable {Z:Nat->Prop} {w:World} {B b tb g sb dm:Nat} {wm:Option Nat} {own:Nat->Prop} {s:Sto}
theorem O1 (h:bf Z w B b tb g sb dm wm own s):Calls Tryz.prog 16 #[.pointer (some ⟨sb,0,none⟩)] w λe w' =>
 e=.returned (.int .i64 (fH s).1)/\∃ mQ,bf Z w' B b tb g sb dm mQ own (fH s).2/\aa w w' (aD own tb g sb dm wm) (aD own tb g sb dm mQ)/\w.grownBy w' (some sb):=by
 have HU:=hid (ma h)
 cases hW:s.W with
 | some U =>
   have HE:=hid (show fH s=(17,s) by unfold fH; rw [hW]; rfl);rw [hW] at HU;have H:=hid h;clear hW h;go_enter Tryz.func16,Tryz.ntmps16;go_wp2_with fail;refine HU.out.mono ?_;rintro e w1 ⟨rfl,rfl⟩;go_wp2;go_ret;rw [HE.out];exact ⟨rfl,wm,H.out,aa.refl _ _,akr _ _⟩
 | none =>
   have HE:=hid (show fH s=(0,{ s with W:=some aM }) by unfold fH; rw [hW]; rfl);rw [hW] at HU;obtain rfl:=h.n hW;have h1:=h.quiet (aj9 w (.map #[] 0) none);obtain ⟨_,_,_,_,_,_,_,_,_,_,_,c11⟩:=h1.cells;have f11:=h1.fz 11;have H:=hid h.begun;have hmk:=λw=>run_makeMap (P:=Tryz.prog) 100 w
   clear hW h h1;go_enter Tryz.func16,Tryz.ntmps16;go_wp2_with fail;refine HU.out.mono ?_;rintro e w1 ⟨rfl,rfl⟩;go_wp2;go_ret;rw [HE.out];exact ⟨rfl,_,H.out.1,H.out.2,akd (aj9 _ _ (some sb)) 11 _⟩
theorem Js (h:bf Z w B b tb g sb dm wm own s):Calls Tryz.prog 16 #[.pointer (some ⟨sb,0,none⟩)] w λe w' =>
 e=.returned (.int .i64 (fH s).1)/\∃ mQ,bf Z w' B b tb g sb dm mQ own (fH s).2/\aa w w' (aD own tb g sb dm wm) (aD own tb g sb dm mQ):=by
 refine (O1 h).mono ?_;rintro e w1 ⟨h1,mQ,h2,h3,_⟩;exact ⟨h1,mQ,h2,h3⟩
theorem Uc (h:bf Z w B b tb g sb dm wm own s):Calls Tryz.prog 11 #[.pointer (some ⟨sb,0,none⟩)] w λe w' =>
 e=.returned (.agg s.x.vs.toArray)/\w.grownBy w' none:=by
 have h1:=h.quiet (aj9 w (.cells #[.int .i64 0,.int .i64 0,.int .i64 0,.int .i64 0,.int .i64 0,.int .i64 0,.int .i64 0] 49) none);obtain ⟨_,_,c2,c3,c4,c5,c6,c7,c8,_,_,_⟩:=h1.cells;clear h h1;go_enter Tryz.func11,Tryz.ntmps11;go_wp2;refine qG rfl w.heap.size 49 s.x.vs.toArray _ rfl (af.new _ _ _) Tryz.underlying49 rfl (by kernel_rfl) rfl ?_;exact ⟨rfl,aj9 w _ none⟩
end
theorem ze (S:St) (l:List Int):(ay S l).2.n=S.n:=by
 unfold ay
 split
 · unfold aF
   split
   · rfl
   · split
     · rfl
     · split
       · rfl
       · exact wW _ _ _ _ _
 · rfl
theorem xZ {S:St} {l:List Int} (h:(ay S l).1=0):aL l (S.n:Nat)=true:=by
 unfold ay at h
 split at h
 · assumption
 · cases h
theorem ML {a0 a1 a2 a3 a4 a5 a6:Int} {n:Int} (h:aL [a0,a1,a2,a3,a4,a5,a6] n=true):∃ x:Sb,x.l=[a0,a1,a2,a3,a4,a5,a6]:=by
 have ho:=iR h;have k0:=(aV ho 0 (by simp)).1; have k1:=(aV ho 1 (by simp)).1; have k2:=(aV ho 2 (by simp)).1; have k3:=(aV ho 3 (by simp)).1;have k4:=(aV ho 4 (by simp)).1; have k5:=(aV ho 5 (by simp)).1; have k6:=(aV ho 6 (by simp)).1
 simp at k0 k1 k2 k3 k4 k5 k6
 refine ⟨⟨a0.toNat,a1.toNat,a2.toNat,a3.toNat,a4.toNat,a5.toNat,a6.toNat⟩,?_⟩;show [((a0.toNat:Nat):Int),((a1.toNat:Nat):Int),((a2.toNat:Nat):Int),((a3.toNat:Nat):Int),((a4.toNat:Nat):Int),((a5.toNat:Nat):Int),((a6.toNat:Nat):Int)]=_;rw [Int.toNat_of_nonneg k0,Int.toNat_of_nonneg k1,Int.toNat_of_nonneg k2,Int.toNat_of_nonneg k3,Int.toNat_of_nonneg k4,Int.toNat_of_nonneg k5,Int.toNat_of_nonneg k6]
theorem gG.sat {w w':World} {B b tb g:Nat} {S T:St} {own own':Nat->Prop} {L:Lg} (h:gG w B b tb g S own L) (hs:gQ w' B b tb T own') (ht:aa w w' (With own tb) (With own' tb)) (hn:T.n=S.n):gG w' B b tb g T own' L :=
 ⟨hs,h.l.block (ht.block g h.l.lt h.o),λho=>by
  rcases ht.fresh g ho with h1 | h1
  · exact h.o h1
  · have:=h.l.lt; omega,hn ▸ h.k⟩
section
variable {Z:Nat->Prop} {lv:Value} {w w':World} {B b tb g sb dm:Nat} {wm:Option Nat} {own own':Nat->Prop} {s:Sto}
theorem aS.sat (h:aS Z lv w B b tb g sb dm wm own s) {T:St} (hs:gQ w' B b tb T own') (ht:aa w w' (With own tb) (With own' tb)) (hr:Ready w' tb) (hn:T.n=s.S.n):aS Z lv w' B b tb g sb dm wm own' (s.disk T) :=
 h.logs (gG.sat h.l hs ht hn) (nR ht g) hr hn
def Ho (Z:Nat->Prop) (lv:Value) (w:World) (B b tb g sb dm:Nat) (wm:Option Nat) (own:Nat->Prop) (s:Sto) (l:List Int) (e:Ending) (w':World):Prop :=
 e=.returned (.int .i64 (ay s.S l).1)/\∃ own',aa w w' (aD own tb g sb dm wm) (aD own' tb g sb dm wm) /\
  (((ay s.S l).1=0/\∃ x',x'.l=l/\aS Z lv w' B b tb g sb dm wm own' { s with S:=(ay s.S l).2,x:=x' })\/((ay s.S l).1≠0/\aS Z lv w' B b tb g sb dm wm own' (s.disk (ay s.S l).2)))
theorem Xe {x':Sb} {a0 a1 a2 a3 a4 a5 a6:Int} (hx:x'.l=[a0,a1,a2,a3,a4,a5,a6]) {x:Sb} (h:af w sb 102 (pW b tb lv dm wm x)) :
 af (((((((w.setCell ⟨sb,2,none⟩ (.int .i64 a0)).setCell ⟨sb,3,none⟩ (.int .i64 a1)).setCell ⟨sb,4,none⟩ (.int .i64 a2)).setCell ⟨sb,5,none⟩ (.int .i64 a3)).setCell ⟨sb,6,none⟩ (.int .i64 a4)).setCell ⟨sb,7,none⟩ (.int .i64 a5)).setCell ⟨sb,8,none⟩ (.int .i64 a6)) sb 102 (pW b tb lv dm wm x')/\w.grownBy (((((((w.setCell ⟨sb,2,none⟩ (.int .i64 a0)).setCell ⟨sb,3,none⟩ (.int .i64 a1)).setCell ⟨sb,4,none⟩ (.int .i64 a2)).setCell ⟨sb,5,none⟩ (.int .i64 a3)).setCell ⟨sb,6,none⟩ (.int .i64 a4)).setCell ⟨sb,7,none⟩ (.int .i64 a5)).setCell ⟨sb,8,none⟩ (.int .i64 a6)) (some sb):=by
 unfold Sb.l at hx
 injection hx with e0 hx; injection hx with e1 hx; injection hx with e2 hx; injection hx with e3 hx; injection hx with e4 hx; injection hx with e5 hx; injection hx with e6 _
 subst e0 e1 e2 e3 e4 e5 e6;refine ⟨?_,?_⟩
 · obtain ⟨n0,n1,n2,n3,n4,n5,n6⟩:=x';have h0:af (w.setCell ⟨sb,2,none⟩ (.int .i64 (n0:Nat))) sb 102 (pW b tb lv dm wm { x with gn:=n0 }):=h.aC 2 (.int .i64 (n0:Nat));have h1:af ((w.setCell ⟨sb,2,none⟩ (.int .i64 (n0:Nat))).setCell ⟨sb,3,none⟩ (.int .i64 (n1:Nat))) sb 102 (pW b tb lv dm wm { x with gn:=n0,ep:=n1 }):=h0.aC 3 (.int .i64 (n1:Nat));have h2:af (((w.setCell ⟨sb,2,none⟩ (.int .i64 (n0:Nat))).setCell ⟨sb,3,none⟩ (.int .i64 (n1:Nat))).setCell ⟨sb,4,none⟩ (.int .i64 (n2:Nat))) sb 102 (pW b tb lv dm wm { x with gn:=n0,ep:=n1,pg:=n2 }):=h1.aC 4 (.int .i64 (n2:Nat))
   have h3:af ((((w.setCell ⟨sb,2,none⟩ (.int .i64 (n0:Nat))).setCell ⟨sb,3,none⟩ (.int .i64 (n1:Nat))).setCell ⟨sb,4,none⟩ (.int .i64 (n2:Nat))).setCell ⟨sb,5,none⟩ (.int .i64 (n3:Nat))) sb 102 (pW b tb lv dm wm { x with gn:=n0,ep:=n1,pg:=n2,st:=n3 }):=h2.aC 5 (.int .i64 (n3:Nat));have h4:af (((((w.setCell ⟨sb,2,none⟩ (.int .i64 (n0:Nat))).setCell ⟨sb,3,none⟩ (.int .i64 (n1:Nat))).setCell ⟨sb,4,none⟩ (.int .i64 (n2:Nat))).setCell ⟨sb,5,none⟩ (.int .i64 (n3:Nat))).setCell ⟨sb,6,none⟩ (.int .i64 (n4:Nat))) sb 102 (pW b tb lv dm wm { x with gn:=n0,ep:=n1,pg:=n2,st:=n3,ln:=n4 }):=h3.aC 6 (.int .i64 (n4:Nat))
   have h5:af ((((((w.setCell ⟨sb,2,none⟩ (.int .i64 (n0:Nat))).setCell ⟨sb,3,none⟩ (.int .i64 (n1:Nat))).setCell ⟨sb,4,none⟩ (.int .i64 (n2:Nat))).setCell ⟨sb,5,none⟩ (.int .i64 (n3:Nat))).setCell ⟨sb,6,none⟩ (.int .i64 (n4:Nat))).setCell ⟨sb,7,none⟩ (.int .i64 (n5:Nat))) sb 102 (pW b tb lv dm wm { x with gn:=n0,ep:=n1,pg:=n2,st:=n3,ln:=n4,hd:=n5 }):=h4.aC 7 (.int .i64 (n5:Nat));have h6:af (((((((w.setCell ⟨sb,2,none⟩ (.int .i64 (n0:Nat))).setCell ⟨sb,3,none⟩ (.int .i64 (n1:Nat))).setCell ⟨sb,4,none⟩ (.int .i64 (n2:Nat))).setCell ⟨sb,5,none⟩ (.int .i64 (n3:Nat))).setCell ⟨sb,6,none⟩ (.int .i64 (n4:Nat))).setCell ⟨sb,7,none⟩ (.int .i64 (n5:Nat))).setCell ⟨sb,8,none⟩ (.int .i64 (n6:Nat))) sb 102 (pW b tb lv dm wm ⟨n0,n1,n2,n3,n4,n5,n6⟩):=h5.aC 8 (.int .i64 (n6:Nat))
   exact h6
 · have g0:=akd (akr w (some sb)) 2 (.int .i64 (x'.gn:Nat));have g1:=akd g0 3 (.int .i64 (x'.ep:Nat));have g2:=akd g1 4 (.int .i64 (x'.pg:Nat));have g3:=akd g2 5 (.int .i64 (x'.st:Nat));have g4:=akd g3 6 (.int .i64 (x'.ln:Nat));have g5:=akd g4 7 (.int .i64 (x'.hd:Nat));exact akd g5 8 (.int .i64 (x'.sq:Nat))
theorem LJ (h:aS Z lv w B b tb g sb dm wm own s) (a0 a1 a2 a3 a4 a5 a6:Int) (hroom:∀ i,(s.S.ae i).length < 549755813888) :
 Calls Tryz.prog 101 #[.pointer (some ⟨sb,0,none⟩),.agg #[.int .i64 a0,.int .i64 a1,.int .i64 a2,.int .i64 a3,.int .i64 a4,.int .i64 a5,.int .i64 a6]] w (Ho Z lv w B b tb g sb dm wm own s [a0,a1,a2,a3,a4,a5,a6]):=by
 have hga:=aj9 w (.cells #[.int .i64 a0,.int .i64 a1,.int .i64 a2,.int .i64 a3,.int .i64 a4,.int .i64 a5,.int .i64 a6] 49) none;have h0:=h.quiet hga;have hb0:=af.new w 49 #[.int .i64 a0,.int .i64 a1,.int .i64 a2,.int .i64 a3,.int .i64 a4,.int .i64 a5,.int .i64 a6];have gM:=hid hga; have HB0:=hid hb0;have av:=hid (show ∀ wx,(w.alloc (.cells #[.int .i64 a0,.int .i64 a1,.int .i64 a2,.int .i64 a3,.int .i64 a4,.int .i64 a5,.int .i64 a6] 49)).grownBy wx none->wx.cell? ⟨sb,0,none⟩=some (.pointer (some ⟨b,0,none⟩))/\wx.cell? ⟨sb,1,none⟩=some (.pointer (some ⟨tb,0,none⟩))/\wx.cell? ⟨w.heap.size,0,none⟩=some (.int .i64 a0)/\wx.cell? ⟨w.heap.size,1,none⟩=some (.int .i64 a1)/\wx.cell? ⟨w.heap.size,2,none⟩=some (.int .i64 a2)/\wx.cell? ⟨w.heap.size,3,none⟩=some (.int .i64 a3)/\wx.cell? ⟨w.heap.size,4,none⟩=some (.int .i64 a4)/\wx.cell? ⟨w.heap.size,5,none⟩=some (.int .i64 a5)/\wx.cell? ⟨w.heap.size,6,none⟩=some (.int .i64 a6) from λwx hg=>by
  have hb:=hb0.grown hg (by simp);have hc:=(h0.quiet hg).cells;exact ⟨hc.1,hc.2.1,by rw [hb.cell]; rfl,by rw [hb.cell]; rfl,by rw [hb.cell]; rfl,by rw [hb.cell]; rfl,by rw [hb.cell]; rfl,by rw [hb.cell]; rfl,by rw [hb.cell]; rfl⟩)
 have fw:=hid (λwx (hg:(w.alloc (.cells #[.int .i64 a0,.int .i64 a1,.int .i64 a2,.int .i64 a3,.int .i64 a4,.int .i64 a5,.int .i64 a6] 49)).grownBy wx none)=>F8 (h0.quiet hg).l.s a0 a1 a2 a3 a4 a5 a6 hroom);have HD0:=hid (ah (w.alloc (.cells #[.int .i64 a0,.int .i64 a1,.int .i64 a2,.int .i64 a3,.int .i64 a4,.int .i64 a5,.int .i64 a6] 49)) none);have H0:=hid h0;have hne:=ze s.S [a0,a1,a2,a3,a4,a5,a6]
 have gX:=hid (λe=>xZ (S:=s.S) (l:=[a0,a1,a2,a3,a4,a5,a6]) e);have WS:=hid (show ¬ With own tb w.heap.size from λho=>by have:=h.bO (.inl (.inl ho)); omega);have HDM:=hid (show w.heap.size≠sb from λe=>by have:=h.c.lt; omega);unfold Ho;clear hga h0 hb0 h hroom;generalize ay s.S [a0,a1,a2,a3,a4,a5,a6]=R at *;obtain ⟨er,T⟩:=R
 dsimp only at *
 have rF:=hid hne;clear hne
 by_cases he:er=0
 · subst he;obtain ⟨x',hx'⟩:=ML (gX.out rfl);have HX:=hid hx';clear hx';go_enter Tryz.func101,Tryz.ntmps101;go_wp2_with fail
   go_region_held3 (λwx=>wx.cell? ⟨sb,0,none⟩=some (.pointer (some ⟨b,0,none⟩))/\wx.cell? ⟨sb,1,none⟩=some (.pointer (some ⟨tb,0,none⟩))/\wx.cell? ⟨w.heap.size,0,none⟩=some (.int .i64 a0)/\wx.cell? ⟨w.heap.size,1,none⟩=some (.int .i64 a1)/\wx.cell? ⟨w.heap.size,2,none⟩=some (.int .i64 a2)/\wx.cell? ⟨w.heap.size,3,none⟩=some (.int .i64 a3)/\wx.cell? ⟨w.heap.size,4,none⟩=some (.int .i64 a4)/\wx.cell? ⟨w.heap.size,5,none⟩=some (.int .i64 a5)/\wx.cell? ⟨w.heap.size,6,none⟩=some (.int .i64 a6))
    (first
      | exact av.out _ HD0.out
      | exact nk.out)
    (first
      | (go_at_call 96
         (with_reducible refine (fw.out _ HD0.out).mono ?_)
         rintro e w2 ⟨rfl,own',hs2,ht2,hr2⟩;have HT2:=hid ht2;have H2:=hid ((H0.out.quiet HD0.out).sat hs2 ht2 (hr2 (.inl (H0.out.quiet HD0.out).r)) rF.out);have HB2:=hid (aj HB0.out (ht2.block w.heap.size HB0.out.lt WS.out));have nk:=hid (show w2.cell? ⟨sb,0,none⟩=some (.pointer (some ⟨b,0,none⟩))/\w2.cell? ⟨sb,1,none⟩=some (.pointer (some ⟨tb,0,none⟩))/\w2.cell? ⟨w.heap.size,0,none⟩=some (.int .i64 a0)/\w2.cell? ⟨w.heap.size,1,none⟩=some (.int .i64 a1)/\w2.cell? ⟨w.heap.size,2,none⟩=some (.int .i64 a2)/\w2.cell? ⟨w.heap.size,3,none⟩=some (.int .i64 a3)/\w2.cell? ⟨w.heap.size,4,none⟩=some (.int .i64 a4)/\w2.cell? ⟨w.heap.size,5,none⟩=some (.int .i64 a5)/\w2.cell? ⟨w.heap.size,6,none⟩=some (.int .i64 a6) from by
          have hb:=HB2.out;have hc:=H2.out.cells;exact ⟨hc.1,hc.2.1,by rw [hb.cell]; rfl,by rw [hb.cell]; rfl,by rw [hb.cell]; rfl,by rw [hb.cell]; rfl,by rw [hb.cell]; rfl,by rw [hb.cell]; rfl,by rw [hb.cell]; rfl⟩)
         clear hs2 ht2 hr2))
   have y0:=HB2.out.cell 0; have y1:=HB2.out.cell 1; have y2:=HB2.out.cell 2; have y3:=HB2.out.cell 3; have y4:=HB2.out.cell 4; have y5:=HB2.out.cell 5; have y6:=HB2.out.cell 6;simp only [akb,aka,akc] at y0 y1 y2 y3 y4 y5 y6;obtain ⟨_,_,c2,c3,c4,c5,c6,c7,c8,_,_,_⟩:=H2.out.cells;have f2:=H2.out.fz 2; have f3:=H2.out.fz 3; have f4:=H2.out.fz 4; have f5:=H2.out.fz 5; have f6:=H2.out.fz 6; have f7:=H2.out.fz 7; have f8:=H2.out.fz 8
   go_wp2;go_ret;have hq:=Xe HX.out H2.out.c;have hm:=gX.out (by trivial);rw [<-HX.out,<-rF.out] at hm;have h3:=H2.out.ad5 hq.2 hq.1 hm;refine ⟨rfl,own',?_,.inl ⟨by trivial,x',HX.out,h3⟩⟩;exact ((aa.none_ (gM.out.trans HD0.out)).trans (oG (nR HT2.out g))).trans (aS.za hq.2)
 · have qZ:(er == 0)=false:=by simpa using he
   have HE:=hid he;clear he;go_enter Tryz.func101,Tryz.ntmps101;go_wp2_with fail
   go_region_held3 (λwx=>wx.cell? ⟨sb,0,none⟩=some (.pointer (some ⟨b,0,none⟩))/\wx.cell? ⟨sb,1,none⟩=some (.pointer (some ⟨tb,0,none⟩))/\wx.cell? ⟨w.heap.size,0,none⟩=some (.int .i64 a0)/\wx.cell? ⟨w.heap.size,1,none⟩=some (.int .i64 a1)/\wx.cell? ⟨w.heap.size,2,none⟩=some (.int .i64 a2)/\wx.cell? ⟨w.heap.size,3,none⟩=some (.int .i64 a3)/\wx.cell? ⟨w.heap.size,4,none⟩=some (.int .i64 a4)/\wx.cell? ⟨w.heap.size,5,none⟩=some (.int .i64 a5)/\wx.cell? ⟨w.heap.size,6,none⟩=some (.int .i64 a6))
    (first
      | exact av.out _ HD0.out
      | exact nk.out)
    (first
      | (go_at_call 96
         (with_reducible refine (fw.out _ HD0.out).mono ?_)
         rintro e w2 ⟨rfl,own',hs2,ht2,hr2⟩;have HT2:=hid ht2;have H2:=hid ((H0.out.quiet HD0.out).sat hs2 ht2 (hr2 (.inl (H0.out.quiet HD0.out).r)) rF.out);have HB2:=hid (aj HB0.out (ht2.block w.heap.size HB0.out.lt WS.out));have nk:=hid (show w2.cell? ⟨sb,0,none⟩=some (.pointer (some ⟨b,0,none⟩))/\w2.cell? ⟨sb,1,none⟩=some (.pointer (some ⟨tb,0,none⟩))/\w2.cell? ⟨w.heap.size,0,none⟩=some (.int .i64 a0)/\w2.cell? ⟨w.heap.size,1,none⟩=some (.int .i64 a1)/\w2.cell? ⟨w.heap.size,2,none⟩=some (.int .i64 a2)/\w2.cell? ⟨w.heap.size,3,none⟩=some (.int .i64 a3)/\w2.cell? ⟨w.heap.size,4,none⟩=some (.int .i64 a4)/\w2.cell? ⟨w.heap.size,5,none⟩=some (.int .i64 a5)/\w2.cell? ⟨w.heap.size,6,none⟩=some (.int .i64 a6) from by
          have hb:=HB2.out;have hc:=H2.out.cells;exact ⟨hc.1,hc.2.1,by rw [hb.cell]; rfl,by rw [hb.cell]; rfl,by rw [hb.cell]; rfl,by rw [hb.cell]; rfl,by rw [hb.cell]; rfl,by rw [hb.cell]; rfl,by rw [hb.cell]; rfl⟩)
         clear hs2 ht2 hr2))
   go_wp2;go_ret;exact ⟨rfl,own',(aa.none_ (gM.out.trans HD0.out)).trans (oG (nR HT2.out g)),.inr ⟨HE.out,H2.out⟩⟩
end
end Go.Proofs.YtinajlbijgedbaaGreat.Sto
namespace Go.Proofs.YtinajlbijgedbaaGreat.Sto
open Lib (hid)
open Go.RowKit Go.Maps Go.Sort Go.Shelf CrcMath CodecMath Mem Crc Codec DiskSpec Dsk Sup Log
def CG:Shelf.Ren where
 f:=fun | 7=>112 | 10=>148 | n=>n
 t:=fun | 23=>100 | 26=>3 | 3=>72 | 28=>161 | 0=>0 | 27=>160 | 33=>110 | 4=>4 | n=>n
 g:=λn=>n
theorem Oc:SlLaysZI.n7 Tryz.prog CG where
 mixed:=rfl
 f7:=⟨_,of_decide_eq_true (by kernel_rfl),Tryz.func112.trans (congrArg some rfl)⟩
 f10:=⟨_,of_decide_eq_true (by kernel_rfl),Tryz.func148.trans (congrArg some rfl)⟩
 t0:=Tryz.underlying0
 a0:=Tryz.isAgg0
 z0:=Tryz.sizeOf0
 v0:=Tryz.zeroValue0
 t4:=Tryz.underlying4
 a4:=Tryz.isAgg4
 z4:=Tryz.sizeOf4
 v4:=Tryz.zeroValue4
 t23:=Tryz.underlying100
 a23:=Tryz.isAgg100
 z23:=Tryz.sizeOf100
 v23:=Tryz.zeroValue100
 t26:=Tryz.underlying3
 a26:=Tryz.isAgg3
 z26:=Tryz.sizeOf3
 v26:=Tryz.zeroValue3
 t27:=Tryz.underlying160
 a27:=Tryz.isAgg160
 z27:=Tryz.sizeOf160
 v27:=Tryz.zeroValue160
 t28:=Tryz.underlying161
 a28:=Tryz.isAgg161
 z28:=Tryz.sizeOf161
 v28:=Tryz.zeroValue161
 t33:=Tryz.underlying110
 a33:=Tryz.isAgg110
 z33:=Tryz.sizeOf110
 v33:=Tryz.zeroValue110
theorem PE (D:aK):((keys D).map λk=>((k:Nat):Int)).mergeSort (λx y=>decide (x<=y))=(keys D).map λk=>((k:Nat):Int):=by
 refine List.mergeSort_of_pairwise ?_;rw [List.pairwise_map];have:(keys D).Pairwise (· < ·):=List.Pairwise.filter _ List.pairwise_lt_range;exact this.imp (λh=>by simp; omega)
theorem J5 (mb:Option Nat) (w:World):Calls Tryz.prog 112 #[.map mb] w λe w'=>e=.returned (.func (.func 148) #[] #[.pointer (some ⟨w.heap.size,0,none⟩)])/\w'=w.alloc (.cells #[.map mb] 100) :=
 (callsIn_wide (n:=5)).1 (AnyZI.keys_in Oc Fence.wide 5 trivial rfl mb w)
theorem DV {w:World} {P:Nat->Prop} {bm:Nat} {D:aK} (h:dE w P bm D) :
 Calls Tryz.prog 111 #[.func (.func 148) #[] #[.pointer (some ⟨w.heap.size,0,none⟩)]] (w.alloc (.cells #[.map (some bm)] 100)) λe w' =>
  ∃ v,e=.returned v/\w'.ownsRow w.heap.size 3 1 v (keys D).length (ou (keys D))/\w.grownBy w' none:=by
 obtain ⟨f,⟨E,hown,ha,he⟩,hv⟩:=h.m;have htd:=hown.tidy (int_keyed Tryz.underlying3);have hsz:=dN.size_le htd ha he;have hperm:=dN.keys_perm htd ha he;have hfe:((List.range 1024).filter λk=>(f k).isSome)=keys D:=by
  unfold keys;refine List.filter_congr λk _=>?_
  rcases hv k with ⟨a,b⟩ | ⟨p,v,a,b,_⟩ <;> simp [a,b]
 rw [hfe] at hperm;have hbl:=hown.lt;have hseq:SeqGives Fence.wide 2 Tryz.prog 148 #[.pointer (some ⟨w.heap.size,0,none⟩)] encZ (λss=>ss.Perm (intKeys E)) (Maps.size E) (w.alloc (.cells #[.map (some bm)] 100)) :=
  AnyZI.keys_gives (ρ:=CG) { Oc with } Fence.wide _ trivial rfl (by omega) w.heap.size bm (Maps.size E) E _ (by simp) (by simp) (by
   obtain ⟨es,clock,hb,Ft,hs,hD⟩:=hown;exact ⟨es,clock,(Below.heap_alloc _ _ bm hbl).trans hb,Ft,hs,hD⟩)
 have cS:=AnyZI.sorted_in E8 Fence.wide 5 trivial trivial trivial trivial rfl (by omega) (EF _) (enters_of Tryz.func147 (by kernel_rfl) rfl) 148 #[.pointer (some ⟨w.heap.size,0,none⟩)] trivial
  (enters_of Tryz.func148 (by kernel_rfl) rfl) _ _ (by unfold maxLen; omega) (by omega) _ hseq
 change CallsIn _ _ Tryz.prog 111 _ _ _ at cS
 refine ((callsIn_wide (n:=5)).1 cS).mono ?_;rintro e w' ⟨v,ss,rfl,hS,hrow,hnil,hb⟩;have e1:(ss.mergeSort λx y=>decide (x<=y)).map encZ=ou (keys D):=by
  rw [Jy (hS.trans hperm),PE,List.map_map]; rfl
 have e2:ss.length=(keys D).length:=by rw [(hS.trans hperm).length_eq,List.length_map]
 rw [e1,e2] at hrow;exact ⟨v,rfl,ownsRow_base_a hrow (by simp),zA (((Below.refl _ w).alloc (akf _) _).trans (hb.mono (by simp)))⟩
theorem Ud {Z:Nat->Prop} {w:World} {B b tb g sb dm:Nat} {wm:Option Nat} {own:Nat->Prop} {s:Sto} (h:bf Z w B b tb g sb dm wm own s):Calls Tryz.prog 65 #[.pointer (some ⟨sb,0,none⟩)] w λe w' =>
 ∃ v,e=.returned v/\w'.ownsRow w.heap.size 3 1 v (keys s.D).length (ou (keys s.D))/\w.grownBy w' none:=by
 obtain ⟨_,_,_,_,_,_,_,_,_,_,c10,_⟩:=h.cells;have HK:=hid (J5 (some dm) w);have HS:=hid (DV h.d);clear h;go_enter Tryz.func65,Tryz.ntmps65;go_wp2_with fail;refine HK.out.mono ?_;rintro e w1 ⟨rfl,rfl⟩;go_wp2_with fail;refine HS.out.mono ?_;rintro e w2 ⟨v,rfl,hrow,hg⟩;go_wp2;go_ret;exact ⟨v,rfl,hrow,hg⟩
end Go.Proofs.YtinajlbijgedbaaGreat.Sto
namespace Go.Proofs.YtinajlbijgedbaaGreat.Sto
open Lib (hid)
open Go.RowKit Go.Maps Go.Shelf CrcMath CodecMath Mem Crc Codec DiskSpec Dsk Sup Log
theorem dE.quiet {w w':World} {P:Nat->Prop} {bm:Nat} {D:aK} (h:dE w P bm D) (hg:w.grownBy w' none):dE w' P bm D:=h.turn (aa.none_ hg) (hg.block bm h.lt (by simp))
theorem dE.abw {w w':World} {P:Nat->Prop} {bm:Nat} {D:aK} (h:dE w P bm D) (hb:w'.heap[bm]?=w.heap[bm]?) {k:Nat} {p:Pg} (hp:D k=some p):∃ v,(Instr.lookup 100 (.map (some bm)) (.int .i64 (k:Nat)) false).run Tryz.prog w'=.ok v w'/\rA w P v p:=by
 obtain ⟨f,h1,h2⟩:=h.m;have hlt:=h.ok.lt hp;have hr:=(h1.of_block hb).look (t:=100) (E:=72) Tryz.underlying3 Tryz.underlying100 (TL w') k (by omega);rcases h2 k with ⟨a,_⟩ | ⟨q,v,a,b,hv⟩
 · rw [hp] at a; cases a
 · rw [hp] at a; cases a;rw [b] at hr;exact ⟨v,hr,hv⟩
theorem Ut {D:aK} {j:Nat} (hj:j < (keys D).length):∃ k p,(keys D)[j]?=some k/\D k=some p/\(rising D)[j]?=some (iY k p):=by
 have h1:(keys D)[j]?=some ((keys D)[j]):=akj hj;obtain ⟨p,hp⟩:=Option.isSome_iff_exists.1 (mem_keys.1 (List.getElem_mem hj)).2;refine ⟨_,p,h1,hp,?_⟩;unfold rising;rw [List.getElem?_map,h1];show some (iY _ ((D (keys D)[j]).getD (0,[])))=_;rw [hp]; rfl
structure Tt (w wr:World) (P:Nat->Prop) (D:aK) (va:Value) (j:Nat):Prop where
 gr:w.grownBy wr none
 im:∃ V:List (ax × Value),V.map (·.1)=(rising D).take j/\V.length=j/\Own wr w.heap.size 90 3 va j (dM V)/\∀ p∈V,cO w P p.2 p.1.2.2
theorem DZ {w:World} {P:Nat->Prop} {bm:Nat} {D:aK} (h:dE w P bm D) (hP:∀ i,P i->i < w.heap.size) :
 Calls Tryz.prog 100 #[.map (some bm)] w λe w'=>∃ A c,e=.returned (.slice A (rising D).length c)/\(rising D).length<=c/\c<=maxLen/\eG w' P A (rising D).length (rising D)/\w.grownBy w' none:=by
 obtain ⟨i0,hi0,hz0,hz1,hz2⟩:=info_parts wu;have hi:=hid hi0; have z0:=hid hz0; have z1:=hid hz1; have z2:=hid hz2;have HK:=hid (J5 (some bm) w);have HS:=hid (DV h);have HP:=hid hP;have H:=hid h;have aU:=hid h.ok;have hbm:=h.lt;have hN:(keys D).length<=1024:=by have:=List.length_filter_le (λk=>(D k).isSome) (List.range 1024); rw [List.length_range] at this; exact this
 rw [dP];have HRL:=hid (dP D);clear h hP hi0 hz0 hz1 hz2;go_enter Tryz.func100,Tryz.ntmps100;go_wp2_with fail;refine HK.out.mono ?_;rintro e w1 ⟨rfl,rfl⟩;go_wp2_with fail;refine HS.out.mono ?_;rintro e w2 ⟨vk,rfl,hrow,hg2⟩;have H2:=hid (H.out.quiet hg2);have HG2:=hid hg2;have AV:=hid (Own.of hrow);obtain ⟨Ak,ck,rfl,hck,hcm,_⟩:=(Own.of hrow).shape;have hs2:=hg2.size;clear hrow hg2 HK HS;have fA:=hid (show Tt w2 w2 P D (.slice none 0 0) 0 from ⟨akr _ _,[],rfl,rfl,Own.nil _ _ _ _,by simp⟩)
 generalize VL:(keys D).length=N at *;have Bj:=hid VL;clear VL;go_wp2_with fail
 go_loopw [3,5,10] (λva _ i wr=>∃ j:Nat,j<=N/\i=.int .i64 j/\Tt w2 wr P D va j) (λ_ _ i _=>N - (Go.RowKit.intOf i).toNat)
 case atStart=>exact ⟨0,aks _,rfl,fA.out⟩
 case round =>
  clear fA;obtain ⟨j,hj,rfl,hr⟩:=hrel;have HR:=hid hr;clear hr
  by_cases hlt:j < N
  · have hjn:(j:Int) < (N:Int):=by omega
    obtain ⟨k,p,hk,hp,hrj⟩:=Ut (D:=D) (show j < (keys D).length by have:=Bj.out; omega);obtain ⟨gk,ck',ek,hgk,agn,_,_,acf⟩:=AV.out.reads (by omega);have hAk:Ak=some ⟨gk,0,none⟩:=by injection ek
    subst hAk;have ace:=acf j (.int .i64 (k:Nat)) (by rw [ou,List.getElem?_map,hk]; rfl);have hcell:wr.cell? ⟨gk,j,none⟩=some (.int .i64 (k:Nat)):=by
     rw [aki (a:=⟨gk,j,none⟩) (HR.out.gr.block gk agn (by simp))]; exact ace
    have hk10:k < 1024:=aU.out.lt hp;obtain ⟨v,hrun,bv,hv,hbv⟩:=H2.out.abw (w':=wr) (HR.out.gr.block bm H2.out.lt (by simp)) hp;subst hv;obtain ⟨k0,body⟩:=p
    dsimp only at *
    obtain ⟨V,hv1,hv2,hv3,hv4⟩:=HR.out.im;have HB:=hid hbv;obtain ⟨Ab,nb,cb,rfl,_,_⟩:=hbv;have HRJ:=hid hrj;have rC:=hid hv1; have CO:=hid hv2; have EN:=hid hv3; have CL:=hid hv4;have xx:=HR.out.gr.size;clear hrj hv1 hv2 hv3 hv4 acf ace ek hp hk
    go_wp2_with (at_builtin
                 refine ai _ rfl (.tmp 14) (.tmp 20) _ rfl w2.heap.size 90 i0 _ 3 40 Tryz.underlying52 hi.out z0.out z1.out z2.out rfl (by omega) _ j _ rfl (EN.out.alloc _)
                  _ _ 1 1 _ rfl (gY _ _ _ _) (λu hu=>by simp at hu; rcases hu with rfl | rfl | rfl <;> rfl) (by simp only [maxLen]; omega) (by omega) (by simp; omega) ?_
                 intro v' w6 hown' dC;have Ox:=hid hown'; have iF:=hid dC; clear hown' dC)
    have OT:=hid (HR.out.gr.trans (aj9 wr (.cells #[.int .i64 (k:Nat),.int .i64 k0,.slice Ab nb cb] 90) none));have hlo:∀ q,u3.ownBlock=some q->w2.heap.size<=q:=λq hq=>(EN.out.bH q hq).1
    have HN:=hid (show Tt w2 w6 P D v' (j+1) from by
     refine ⟨aI OT.out iF.out.1 (λq hq=>hlo q hq),V ++ [(iY k (k0,body),.slice Ab nb cb)],?_,by simp [CO.out],?_,?_⟩
     · rw [List.map_append,rC.out,List.take_add_one,HRJ.out]
       rfl
     · rw [Fy];exact Ox.out
     · intro p hp;rcases List.mem_append.1 hp with hp | hp
       · exact CL.out p hp
       · simp at hp
         subst hp;exact HB.out)
    clear OT Ox iF;refine ⟨⟨j+1,by omega,by go_num,HN.out⟩,?_⟩
    simp [Go.RowKit.intOf]; omega
  · have vN:j=(keys D).length:=by have:=Bj.out; omega
    subst vN;have hnb:¬ (((keys D).length:Int) < (N:Int)):=by omega
    obtain ⟨V,hv1,hv2,hv3,hv4⟩:=HR.out.im;obtain ⟨Ao,co,rfl,hjc,hcm2,_⟩:=hv3.shape;have hI:=uy (P:=P) hv3 hv2 (λi h1 h2 h3=>by have:=HP.out i h3; omega) (λp hp=>(hv4 p hp).turn (aa.none_ HR.out.gr));rw [hv1,akk (by have:=HRL.out; have:=Bj.out; omega)] at hI;have HI:=hid hI;clear hv1 hv2 hv3 hv4 hI;go_wp2_with fail;go_ret;exact ⟨Ao,co,rfl,hjc,hcm2,HI.out,HG2.out.trans HR.out.gr⟩
end Go.Proofs.YtinajlbijgedbaaGreat.Sto
namespace Go.Proofs.YtinajlbijgedbaaGreat.Sto
open Lib (hid)
open Go.RowKit Go.Shelf CrcMath CodecMath Mem Crc Codec DiskSpec Dsk Sup Log
theorem uJ (S:St) (bq:Bool) (a:Int) (l:List Nat):(aF S bq a l).2.n=S.n:=by
 unfold aF
 split
 · rfl
 · split
   · rfl
   · split
     · rfl
     · exact wW _ _ _ _ _
theorem uk (S:St) (bq:Bool) (a:Int) {l:List Nat} (hl:l.length=256) (i:Nat):((aF S bq a l).2.ae i).length<=(S.ae i).length+1:=by
 unfold aF
 split
 · exact Nat.le_succ _
 · split
   · exact Nat.le_succ _
   · split
     · exact Nat.le_succ _
     · rw [hl];exact Log.qH ({ S with f2:=S.f2 - 1 }:St) bq a.toNat l i 1
theorem Fz:∀ (l:List ax) (S:St),(aO S l).2.n=S.n
 | [],_=>rfl
 | x :: r,S=>by
   show (if (bJ S x).1=0 then aO (bJ S x).2 r else bJ S x).2.n=S.n
   split
   · rw [Fz r]; exact uJ _ _ _ _
   · exact uJ _ _ _ _
theorem nY {x:ax} (h:bU x=true):(frame (cZ x.1 x.2.1 x.2.2)).length=256:=cz _ (by rw [uM _ _ _ (eO h).2.2.1]; omega)
theorem Mx {x:ax} (h:bU x=true):∀ y∈frame (cZ x.1 x.2.1 x.2.2),y < 256:=jY _ (wY _ _ _ (eO h).2.2.2)
theorem XA {w:World} {tb:Nat} {P:Nat->Prop} {x:ax} (hx:bU x=true) {A:Option Addr} {n c:Nat} (hR:Ready w tb) (hd:Dsk.Data w P A n x.2.2) (hP:P tb) :
 Calls Tryz.prog 59 #[.pointer (some ⟨tb,0,none⟩),.agg #[.int .i64 x.1,.int .i64 x.2.1,.slice A n c]] w λe w'=>∃ g,e=.returned (.tuple #[.slice (some ⟨g,0,none⟩) 256 256,.int .i64 0])/\w.heap.size<=g /\
  af w' g 140 (au (frame (cZ x.1 x.2.1 x.2.2))).toArray/\w.grownBy w' none:=by
 refine (vF tb tb none x.1 x.2.1 A n c x.2.2 w (oV hR) (pz hd hP)).mono ?_;have hw:ed x.1 x.2.1 x.2.2=some (frame (cZ x.1 x.2.1 x.2.2)):=by rw [ed,show bA x.1 x.2.1 x.2.2=true from hx]; rfl
 rw [hw];have hlen:=nY hx;rintro e w' ⟨hg,⟨l,g,ho,rfl,h1,h2,h3,h4⟩ | ⟨ho,_⟩⟩
 · injection ho with ho
   subst ho;rw [hlen];exact ⟨g,rfl,h1,h2,hg⟩
 · cases ho
structure DI (Z:Nat->Prop) (lv:Value) (w wr:World) (B b tb g sb dm:Nat) (wm:Option Nat) (own own':Nat->Prop) (s:Sto) (A:Option Addr) (n j:Nat):Prop where
 st:aS Z lv wr B b tb g sb dm wm own' (s.disk (aO s.S ((rising s.D).take j)).2)
 im:eG wr (FZ Z (aD own' tb g sb dm wm)) A n (rising s.D)
 tu:aa w wr (aD own tb g sb dm wm) (aD own' tb g sb dm wm)
 ok:(aO s.S ((rising s.D).take j)).1=0
 ae:∀ i,((aO s.S ((rising s.D).take j)).2.ae i).length<=(s.S.ae i).length+j
section
variable {Z:Nat->Prop} {lv:Value} {w w' wr:World} {B b tb g sb dm:Nat} {wm:Option Nat} {own own' bV:Nat->Prop} {s:Sto} {A:Option Addr} {n j:Nat}
theorem DI.quiet (h:DI Z lv w wr B b tb g sb dm wm own own' s A n j) (hg:wr.grownBy w' none):DI Z lv w w' B b tb g sb dm wm own own' s A n j :=
 ⟨h.st.quiet hg,h.im.turn (aa.none_ hg),h.tu.trans (aa.none_ hg),h.ok,h.ae⟩
theorem Dr (ht:aa w w' own own'):aa w w' (aD own tb g sb dm wm) (aD own' tb g sb dm wm):=oG (nR (qP ht tb) g)
theorem oH (S:St):(aR S).2.n=S.n:=by unfold aR; split <;> rfl
theorem yO {D:aK} {j:Nat} {x:ax} (hx:(rising D)[j]?=some x):(rising D).take (j+1)=(rising D).take j ++ [x]:=by
 rw [List.take_add_one,hx]; rfl
theorem Hg {S:St} {D:aK} {j:Nat} {x:ax} (hx:(rising D)[j]?=some x) (h0:(aO S ((rising D).take j)).1=0) (h1:(bJ (aO S ((rising D).take j)).2 x).1≠0):bn S D=bJ (aO S ((rising D).take j)).2 x:=by
 have h2:aO S ((rising D).take (j+1))=bJ (aO S ((rising D).take j)).2 x:=by rw [yO hx,uB x _ _ h0]
 have h3:aO S (rising D)=bJ (aO S ((rising D).take j)).2 x:=by
  rw [<-h2,<-List.take_append_drop (j+1) (rising D),Er _ _ _ (by rw [h2]; exact h1)];rw [List.take_append_drop]
 unfold bn;rw [h3,if_neg h1]
theorem Kt {S:St} {D:aK} {j:Nat} (hj:(rising D).length<=j) (h0:(aO S ((rising D).take j)).1=0):bn S D=aR (aO S ((rising D).take j)).2:=by
 rw [akk hj] at h0 ⊢;unfold bn;rw [if_pos h0]
def xU (Z:Nat->Prop) (lv:Value) (w:World) (B b tb g sb dm:Nat) (wm:Option Nat) (own:Nat->Prop) (s:Sto) (e:Ending) (w':World):Prop :=
 e=.returned (.int .i64 (bn s.S s.D).1)/\∃ own',aS Z lv w' B b tb g sb dm wm own' (s.disk (bn s.S s.D).2)/\aa w w' (aD own tb g sb dm wm) (aD own' tb g sb dm wm)
theorem BH (h:aS Z lv w B b tb g sb dm wm own s) (hroom:∀ i,(s.S.ae i).length < 549755800000) :
 Calls Tryz.prog 54 #[.pointer (some ⟨sb,0,none⟩)] w (xU Z lv w B b tb g sb dm wm own s):=by
 obtain ⟨_,_,_,_,_,_,_,_,_,_,c10,_⟩:=h.cells;have WH:=hid (DZ h.d (λi hi=>h.Y7 hi));have H:=hid h;have bB:=hid hroom;have aU:=hid (kJ h.d.ok);have hN:(rising s.D).length<=1024:=by rw [dP]; have:=List.length_filter_le (λk=>(s.D k).isSome) (List.range 1024); rw [List.length_range] at this; exact this
 clear h hroom;go_enter Tryz.func54,Tryz.ntmps54;go_wp2_with fail;refine WH.out.mono ?_;rintro e w1 ⟨A,c,rfl,hnc,hcm,him,hg1⟩;have H0:=hid (show DI Z lv w w1 B b tb g sb dm wm own own s A (rising s.D).length 0 from ⟨H.out.quiet hg1,him,aa.none_ hg1,rfl,λi=>akf _⟩);clear him hg1 WH c10;generalize VL:(rising s.D).length=N at *;have Bj:=hid VL;clear VL;go_wp2_with fail
 go_loopw [4,5,6,7,14] (λ_ _ _ _ i wr=>∃ j:Nat,j<=N/\i=.int .i64 j/\∃ own',DI Z lv w wr B b tb g sb dm wm own own' s A N j) (λ_ _ _ _ i _=>N - (Go.RowKit.intOf i).toNat)
 case atStart=>exact ⟨0,aks _,rfl,own,H0.out⟩
 case round =>
  clear H0;obtain ⟨j,hj,rfl,own',hr⟩:=hrel;have HR:=hid hr;clear hr
  by_cases hlt:j < N
  · have hjn:(j:Int) < (N:Int):=by omega
    obtain ⟨gi,o,⟨x1,x2,x3⟩,Bx,mx,cx,rfl,hgi,hno,hx,e0,e1,e2,hmc,kT⟩:=HR.out.im.at_ hlt
    dsimp only at e0 e1 e2 kT
    have hxo:=aU.out _ (akx hx);have HX:=hid hx;have hx1:=(eO hxo).2.1
    dsimp only at hx1
    have yx:=hid hxo;have hga:=aj9 wr (.cells #[.int .i64 x1,.int .i64 x2,.slice Bx mx cx] 90) none;have rE:=hid (HR.out.quiet hga);have zM:=hid (Dsk.Data.turn kT (aa.none_ hga));have jR:=hid (af.new wr 90 #[.int .i64 x1,.int .i64 x2,.slice Bx mx cx]);have Ig:=hid (show ¬ aD own' tb g sb dm wm wr.heap.size from λhi=>by have:=HR.out.st.bO hi; omega);clear hno hx hmc kT hxo hga;go_wp2_with fail
    generalize wr.alloc (.cells #[.int .i64 x1,.int .i64 x2,.slice Bx mx cx] 90)=wq at rE zM jR ⊢;have hkeep:∀ (wx:World) (bV:Nat->Prop) (T:Sto),aS Z lv wx B b tb g sb dm wm bV T->af wx wr.heap.size 90 #[.int .i64 x1,.int .i64 x2,.slice Bx mx cx]->wx.cell? ⟨sb,0,none⟩=some (.pointer (some ⟨b,0,none⟩))/\wx.cell? ⟨sb,1,none⟩=some (.pointer (some ⟨tb,0,none⟩))/\wx.cell? ⟨wr.heap.size,0,none⟩=some (.int .i64 x1)/\wx.cell? ⟨wr.heap.size,1,none⟩=some (.int .i64 x2)/\wx.cell? ⟨wr.heap.size,2,none⟩=some (.slice Bx mx cx):=by
     intro wx bV T hs hb;obtain ⟨c0,c1,_⟩:=hs.cells;exact ⟨c0,c1,by rw [hb.cell]; rfl,by rw [hb.cell]; rfl,by rw [hb.cell]; rfl⟩
    have av:=hid hkeep;have HD0:=hid (ah wq none);have HB0:=hid (jR.out.grown HD0.out (by simp));have CU:=hid (rE.out.quiet HD0.out);have pJ:=hid (XA (w:=wq.drew) (tb:=tb) (P:=FZ Z (aD own' tb g sb dm wm)) (x:=(x1,x2,x3)) yx.out (A:=Bx) (n:=mx) (c:=cx) CU.out.st.r (Dsk.Data.turn zM.out (aa.none_ HD0.out)) (.inl (.inl (.inl (.inr rfl)))));clear hkeep e0 e1 e2
    go_region_held3 (λwx=>wx.cell? ⟨sb,0,none⟩=some (.pointer (some ⟨b,0,none⟩))/\wx.cell? ⟨sb,1,none⟩=some (.pointer (some ⟨tb,0,none⟩))/\wx.cell? ⟨wr.heap.size,0,none⟩=some (.int .i64 x1)/\wx.cell? ⟨wr.heap.size,1,none⟩=some (.int .i64 x2)/\wx.cell? ⟨wr.heap.size,2,none⟩=some (.slice Bx mx cx))
     (first
       | exact av.out _ _ _ CU.out.st HB0.out
       | exact av.out _ _ _ uZ.out.st HB3.out)
     (first
       | (go_at_call 59
          (with_reducible refine pJ.out.mono ?_)
          rintro e w3 ⟨gp,rfl,oD,hbp,hg3⟩;have OP:=hid hbp;have Ij:=hid oD;have uZ:=hid (CU.out.quiet hg3);have HB3:=hid (HB0.out.grown hg3 (by simp));clear hg3 hbp oD))
    have HNG:=hid (show ¬ own' gp from λhi=>by have:=CU.out.st.l.s.kL hi; have:=Ij.out; omega);clear pJ CU HB0 rE zM jR HD0;have HD4:=hid (ah w3 none);have zH:=hid (uZ.out.quiet HD4.out);have jJ:=hid (HB3.out.grown HD4.out (by simp));have CL:=hid (show ∀ i,((aO s.S ((rising s.D).take j)).2.ae i).length < 549755813888 from λi=>by have:=HR.out.ae i; have:=bB.out i; omega);have hfl:=nY yx.out;have sw:=lG (own:=own') (OP.out.grown HD4.out (by simp)) (Mx yx.out) HNG.out
    rw [hfl] at sw;have hd4:dU w3.drew B b (aO s.S ((rising s.D).take j)).2 own':=zH.out.st.l.s.d;have yz:=hid (lY hd4 (2+x1) (some ⟨gp,0,none⟩) 256 256 _ false (by omega) sw (by omega) (by omega) CL.out zH.out.st.l.s.s);have ZU:=hid (λwx=>Ni x1 wx (by omega));have mi:=hid (uJ (aO s.S ((rising s.D).take j)).2 false (2+x1) (frame (cZ x1 x2 x3)));have EM:=hid (λi=>uk (aO s.S ((rising s.D).take j)).2 false (2+x1) hfl i)
    clear hfl sw hd4;go_wp2_with fail
    go_region_held3 (λwx=>wx.cell? ⟨sb,0,none⟩=some (.pointer (some ⟨b,0,none⟩))/\wx.cell? ⟨sb,1,none⟩=some (.pointer (some ⟨tb,0,none⟩))/\wx.cell? ⟨wr.heap.size,0,none⟩=some (.int .i64 x1)/\wx.cell? ⟨wr.heap.size,1,none⟩=some (.int .i64 x2)/\wx.cell? ⟨wr.heap.size,2,none⟩=some (.slice Bx mx cx))
     (first
       | exact av.out _ _ _ zH.out.st jJ.out
       | exact av.out _ _ _ oP.out gF.out)
     (first
       | (go_at_call 50
          (with_reducible refine (ZU.out _).mono ?_)
          rintro e w4 ⟨rfl,rfl⟩)
       | (go_at_call 49
          (with_reducible refine yz.out.mono ?_)
          rintro e w5 ⟨rfl,ik,hd5,dL⟩;have fJ:=hid dL;have oP:=hid (zH.out.st.disk hd5 dL mi.out);have gF:=hid (aj jJ.out (dL.block wr.heap.size jJ.out.lt (λho=>Ig.out (.inl (.inl (.inl ho))))));clear hd5 dL))
    clear yz ZU av;have WQ:=hid (zH.out.im.turn (jb (Dr fJ.out)));have Og:=hid (zH.out.tu.trans (Dr fJ.out))
    by_cases hE:(aF (aO s.S ((rising s.D).take j)).2 false (2+x1) (frame (cZ x1 x2 x3))).1=0
    · have ET:=hid (show DI Z lv w w5 B b tb g sb dm wm own ik s (some ⟨gi,o,none⟩) N (j+1) from by
       have hh:aO s.S ((rising s.D).take (j+1))=bJ (aO s.S ((rising s.D).take j)).2 (x1,x2,x3):=by rw [yO HX.out,uB _ _ _ HR.out.ok]
       refine ⟨?_,WQ.out,Og.out,by rw [hh]; exact hE,λi=>?_⟩
       · rw [hh]; exact oP.out
       · rw [hh];have h1:=EM.out i;have h2:=HR.out.ae i;show ((aF (aO s.S ((rising s.D).take j)).2 false (2+x1) (frame (cZ x1 x2 x3))).2.ae i).length<=_;omega)
      rw [hE];clear WQ Og oP gF mi EM CL zH jJ HD4 fJ hE;go_wp2_with fail;refine ⟨⟨j+1,by omega,by go_num,ik,ET.out⟩,?_⟩
      simp [Go.RowKit.intOf]; omega
    · have rG:=hid (Hg (S:=s.S) HX.out HR.out.ok hE);have HQ:=hid (show xU Z lv w B b tb g sb dm wm own s (.returned (.int .i64 (aF (aO s.S ((rising s.D).take j)).2 false (2+x1) (frame (cZ x1 x2 x3))).1)) w5 from by
       refine ⟨by rw [rG.out]; rfl,ik,?_,Og.out⟩;rw [rG.out]; exact oP.out)
      clear WQ Og oP gF mi EM CL zH jJ HD4 fJ rG;generalize (aF (aO s.S ((rising s.D).take j)).2 false (2+x1) (frame (cZ x1 x2 x3))).1=er at *;have qZ:(er == 0)=false:=by simpa using hE
      go_wp2_with fail;go_ret;exact HQ.out
  · have vN:j=N:=by omega
    subst vN;have hnb:¬ ((j:Int) < (j:Int)):=by omega
    have WW:=hid (Kt (S:=s.S) (D:=s.D) (by rw [Bj.out]; omega) HR.out.ok);obtain ⟨c0,_⟩:=HR.out.st.cells;have hd4:dU wr B b (aO s.S ((rising s.D).take j)).2 own':=HR.out.st.l.s.d;have ku:=hid (o8 hd4);clear hd4;go_wp2_with fail;refine ku.out.mono ?_;rintro e w5 ⟨rfl,hd5,dL⟩;have HQ:=hid (show xU Z lv w B b tb g sb dm wm own s (.returned (.int .i64 (aR (aO s.S ((rising s.D).take j)).2).1)) w5 from by
     refine ⟨by rw [WW.out],own',?_,HR.out.tu.trans (Dr dL)⟩;rw [WW.out];exact HR.out.st.disk hd5 dL (oH _))
    clear ku WW hd5 dL;go_wp2_with fail;go_ret;exact HQ.out
end
theorem jP (S:St) (i:Nat):((aR S).2.ae i).length<=(S.ae i).length:=by
 unfold aR
 split
 · exact akf _
 · exact aks _
theorem Ep:∀ (l:List ax) (S:St) (_:∀ x∈l,bU x=true) (i:Nat),((aO S l).2.ae i).length<=(S.ae i).length+l.length
 | [],S,_,i=>akf _
 | x :: r,S,h,i=>by
   have h1:=uk S false (2+x.1) (nY (h x (akw ..))) i;have h2:=Ep r (bJ S x).2 (λy hy=>h y (aky _ hy)) i;show ((if (bJ S x).1=0 then aO (bJ S x).2 r else bJ S x).2.ae i).length<=_;have h3:((bJ S x).2.ae i).length<=(S.ae i).length+1:=h1;rw [List.length_cons]
   split <;> omega
theorem ql {S:St} {D:aK} (h:bg D) (i:Nat):((bn S D).2.ae i).length<=(S.ae i).length+1024:=by
 have h1:=Ep (rising D) S (kJ h) i;have hN:(rising D).length<=1024:=by rw [dP]; have:=List.length_filter_le (λk=>(D k).isSome) (List.range 1024); rw [List.length_range] at this; exact this
 unfold bn
 split
 · have:=jP (aO S (rising D)).2 i; omega
 · omega
theorem Sb.Li {x y:Sb} (h:x.l=y.l):x=y:=by
 obtain ⟨a0,a1,a2,a3,a4,a5,a6⟩:=x;obtain ⟨b0,b1,b2,b3,b4,b5,b6⟩:=y;simp only [Sb.l,List.cons.injEq,and_true] at h;obtain ⟨h0,h1,h2,h3,h4,h5,h6⟩:=h;have e0:a0=b0:=by omega
 have e1:a1=b1:=by omega
 have e2:a2=b2:=by omega
 have e3:a3=b3:=by omega
 have e4:a4=b4:=by omega
 have e5:a5=b5:=by omega
 have e6:a6=b6:=by omega
 subst e0 e1 e2 e3 e4 e5 e6
 rfl
section
variable {Z:Nat->Prop} {w w' wr:World} {B b tb g sb dm:Nat} {wm:Option Nat} {own own' bV:Nat->Prop} {s:Sto}
def uX (Z:Nat->Prop) (w:World) (B b tb g sb dm:Nat) (wm:Option Nat) (own:Nat->Prop) (r:Int × Sto) (e:Ending) (w':World):Prop :=
 e=.returned (.int .i64 r.1)/\∃ own',bf Z w' B b tb g sb dm wm own' r.2/\aa w w' (aD own tb g sb dm wm) (aD own' tb g sb dm wm)
theorem aS.logged (h:bf Z w B b tb g sb dm wm own s) (hg:w.grownBy w' (some g)) {M:Lg} (hl:dS w' g M b tb) (hk:M.ok s.S.n):bf Z w' B b tb g sb dm wm own { s with L:=M }/\aa w w' (fC own tb g) (fC own tb g) :=
 have ht:aa w w' (fC own tb g) (fC own tb g):=.aA hg (λj e=>by cases e; exact .inr rfl)
 ⟨h.logs (h.l.log hg hl hk) ht (h.r.keep hg (λe=>h.l.ne (by cases e; rfl))) rfl,ht⟩
theorem aS.cleared (h:bf Z w B b tb g sb dm wm own s) (hg:w.grownBy w' (some dm)) {D:aK} (hd:dE w' (FZ Z (aD own tb g sb dm wm)) dm D):bf Z w' B b tb g sb dm wm own { s with D:=D }/\aa w w' (aD own tb g sb dm wm) (aD own tb g sb dm wm):=by
 have ht:aa w w' (aD own tb g sb dm wm) (aD own tb g sb dm wm):=.aA hg (λj e=>by cases e; exact .inr (.inr (.inl rfl)));refine ⟨⟨h.l.far hg (λq e=>(by cases e; exact h.qX.1)),h.r.keep hg (λe=>(by cases e; exact h.qX.1 (.inl (.inr rfl)))),h.c.grown hg (λe=>h.qX.2 (by cases e; rfl)),hd,λU hU=>?_,h.n,h.may,h.rX,h.qX,h.vM,h.low,λi hi=>ake (h.z i hi) hg.size⟩,ht⟩;obtain ⟨m,e,hm⟩:=h.u U hU
 exact ⟨m,e,hm.turn (jb ht) (hg.block m hm.lt (λe2=>(h.vM m e).2.2 (by cases e2; rfl)))⟩
theorem LK (h:bf Z w B b tb g sb dm wm own s) (hroom:∀ i,(s.S.ae i).length < 549755700000) :
 Calls Tryz.prog 110 #[.pointer (some ⟨sb,0,none⟩)] w (uX Z w B b tb g sb dm wm own (bG s)):=by
 have H:=hid h; have bB:=hid hroom;obtain ⟨_,_,_,_,_,_,_,_,_,c9,c10,_⟩:=h.cells;have hsz:=λty=>h.d.size ty
 have zI:=hid (Ai h.l.l h.l.k.taken (by have:=h.l.k.fit; have:=h.l.s.ok.top; omega));have ng:=hid (show (keys s.D).length=0↔keys s.D=[] from List.length_eq_zero_iff);obtain ⟨R0,hR0⟩:∃ r,bG s=r:=⟨_,rfl⟩;rw [hR0];have fA:=hid hR0.symm;clear h hroom hR0;go_enter Tryz.func110,Tryz.ntmps110;go_upto_region 1 with fail
 go_cut [20] (λs5 wx=>s5=.bool (decide (keys s.D=[]/\0 < s.L.room))/\∃ m,wx=w.drewN m)
 case first =>
  generalize hK:(keys s.D).length=K at *
  by_cases hk:K=0
  · have hki:((K:Int) == 0)=true:=by simp; omega
    have hkj:(K:Int)=0:=by omega
    have HK:=hid (ng.out.1 hk);clear hK;go_wp2_with fail;refine zI.out.mono ?_;rintro e w1 ⟨rfl,m,rfl⟩;go_wp2_with fail;go_meet;refine ⟨?_,m,rfl⟩
    simp [HK.out]
  · have hki:((K:Int) == 0)=false:=by simp; omega
    have hkj:¬ ((K:Int)=0):=by omega
    have HK:=hid (show ¬ (keys s.D=[]) from λe=>hk (ng.out.2 e));clear hK;go_wp2_with fail;go_meet;refine ⟨?_,0,rfl⟩
    simp [HK.out]
 case rest =>
  obtain ⟨rfl,m,rfl⟩:=hcut;have hg1:=dB (akr w none) m;have H1:=hid (H.out.quiet hg1);have HT1:=hid (aa.none_ (own:=aD own tb g sb dm wm) hg1);clear hg1 c9 c10 hsz zI ng;generalize w.drewN m=w1 at *
  by_cases hq:keys s.D=[]/\0 < s.L.room
  · have uS:decide (keys s.D=[]/\0 < s.L.room)=true:=by simpa using hq
    have HE:=hid (show bG s=(0,s) from by unfold bG; rw [if_pos hq]);rw [uS];clear uS hq;go_wp2_with fail;go_ret;rw [fA.out.trans HE.out];exact ⟨rfl,own,H1.out,HT1.out⟩
  · have uS:decide (keys s.D=[]/\0 < s.L.room)=false:=by simpa using hq
    have HQ:=hid hq;rw [uS];clear uS hq;obtain ⟨c0,_,c2,_⟩:=H1.out.cells
    by_cases hgn:s.x.gn=1099511627776
    · have hgb:(((s.x.gn:Nat):Int) == 1099511627776)=true:=by simp; omega
      have hgj:((s.x.gn:Nat):Int)=1099511627776:=by omega
      have HE:=hid (show bG s=(15,s) from by unfold bG; rw [if_neg HQ.out,if_pos hgn]);clear hgn;go_wp2_with fail;go_ret;rw [fA.out.trans HE.out];exact ⟨rfl,own,H1.out,HT1.out⟩
    · have hgb:(((s.x.gn:Nat):Int) == 1099511627776)=false:=by simp; omega
      have hgj:¬ (((s.x.gn:Nat):Int)=1099511627776):=by omega
      have HE:=hid (show bG s=if (aR s.S).1=0 then iU s (aR s.S).2 else ((aR s.S).1,s.disk (aR s.S).2) from by unfold bG; rw [if_neg HQ.out,if_neg hgn]);have bu:=iR H.out.may;have hgx:=(aV bu 0 (by simp [Sb.l])).2
      simp [Sb.l] at hgx
      have ku:=hid (o8 H1.out.l.s.d);have sP:=hid (oH s.S);have Dh:=hid (λi=>jP s.S i);have lN:=hid (fA.out.trans HE.out);clear hgn HE bu;generalize aR s.S=R at *;obtain ⟨e1,T⟩:=R
      dsimp only at *
      go_wp2_with fail;refine ku.out.mono ?_;rintro e w2 ⟨rfl,hd2,ht2⟩;have H2:=hid (H1.out.disk hd2 ht2 sP.out);have HT2:=hid (HT1.out.trans (Dr (tb:=tb) (g:=g) (sb:=sb) (dm:=dm) (wm:=wm) ht2));clear ku hd2 ht2
      by_cases he1:e1=0
      · subst he1;have hbr:Calls Tryz.prog 54 #[.pointer (some ⟨sb,0,none⟩)] w2 (λe w'=>e=.returned (.int .i64 (bn T s.D).1)/\∃ own',bf Z w' B b tb g sb dm wm own' (s.disk (bn T s.D).2)/\aa w2 w' (aD own tb g sb dm wm) (aD own' tb g sb dm wm)) :=
         BH H2.out (λi=>by have h1:=Dh.out i; have h2:=bB.out i; show (T.ae i).length < _; omega)
        have ig:=hid hbr;have HE2:=hid (show R0=if (bn T s.D).1=0 then jZ s (bn T s.D).2 else ((bn T s.D).1,s.disk (bn T s.D).2) from lN.out.trans (if_pos rfl));have xQ:=hid (λi=>ql (S:=T) H.out.d.ok i);clear hbr lN;generalize bn T s.D=R at *;obtain ⟨e2,T2⟩:=R
        dsimp only at *
        go_wp2_with fail;refine ig.out.mono ?_;rintro e w3 ⟨rfl,fQ,h3,ht3⟩;have H3:=hid h3;have HT3:=hid (HT2.out.trans ht3);clear h3 ht3 ig
        by_cases he2:e2=0
        · subst he2;have j5:=hid (show R0=jZ s T2 from HE2.out.trans (if_pos rfl));clear HE2;obtain ⟨_,_,d2,d3,d4,d5,d6,d7,d8,_,_,_⟩:=H3.out.cells;have hw1:IntKind.i64.wrap (((s.disk T2).x.gn:Nat)+1:Int)=(((s.disk T2).x.gn:Nat):Int)+1:=IntWalk.i64_in _ (by show -9223372036854775808<=((s.x.gn:Nat):Int)+1/\((s.x.gn:Nat):Int)+1<=9223372036854775807; omega);have hbn:=af.new w3 49 #[.int .i64 ((s.disk T2).x.gn:Nat),.int .i64 ((s.disk T2).x.ep:Nat),.int .i64 ((s.disk T2).x.pg:Nat),.int .i64 ((s.disk T2).x.st:Nat),.int .i64 ((s.disk T2).x.ln:Nat),.int .i64 ((s.disk T2).x.hd:Nat),.int .i64 ((s.disk T2).x.sq:Nat)]
          have x0:=hbn.cell 0;have f0:=hbn.frozen 0;simp only [akb,aka] at x0;have hga:=aj9 w3 (.cells #[.int .i64 ((((s.disk T2).x.gn:Nat):Int)+1),.int .i64 ((s.disk T2).x.ep:Nat),.int .i64 ((s.disk T2).x.pg:Nat),.int .i64 ((s.disk T2).x.st:Nat),.int .i64 ((s.disk T2).x.ln:Nat),.int .i64 ((s.disk T2).x.hd:Nat),.int .i64 ((s.disk T2).x.sq:Nat)] 49) none
          have gM:=hid hga;have hB:=H3.out.quiet hga;obtain ⟨_,_,_,_,_,_,_,_,_,y9,_,_⟩:=hB.cells;have nP:=hid (af.new w3 49 #[.int .i64 ((((s.disk T2).x.gn:Nat):Int)+1),.int .i64 ((s.disk T2).x.ep:Nat),.int .i64 ((s.disk T2).x.pg:Nat),.int .i64 ((s.disk T2).x.st:Nat),.int .i64 ((s.disk T2).x.ln:Nat),.int .i64 ((s.disk T2).x.hd:Nat),.int .i64 ((s.disk T2).x.sq:Nat)]);have CP:=hid (XQ hB.l.l);clear hga hbn hB
          go_wp2_with fail;refine CP.out.mono ?_;rintro e w4 ⟨rfl,m,rfl⟩;have Ns:=dB (akr (w3.alloc (.cells #[.int .i64 ((((s.disk T2).x.gn:Nat):Int)+1),.int .i64 ((s.disk T2).x.ep:Nat),.int .i64 ((s.disk T2).x.pg:Nat),.int .i64 ((s.disk T2).x.st:Nat),.int .i64 ((s.disk T2).x.ln:Nat),.int .i64 ((s.disk T2).x.hd:Nat),.int .i64 ((s.disk T2).x.sq:Nat)] 49)) none) m;have hbC:=nP.out.grown Ns (by simp)
          have VA:=(akd (akd (bW Ns (some w3.heap.size)) 5 (.int .i64 ((s.L.tail:Nat):Int))) 6 (.int .i64 ((s.L.seq:Nat):Int)));have Dg:=hid (aI gM.out VA (λj e=>by cases e; exact akf _));have y0:=hbC.cell 0; have y1:=hbC.cell 1; have y2:=hbC.cell 2; have y3:=hbC.cell 3; have y4:=hbC.cell 4;have f5:=hbC.frozen 5; have f6:=hbC.frozen 6;simp only [akb,aka,akc] at y0 y1 y2 y3 y4
          clear Ns hbC VA CP x0 f0 y9;go_wp2_with fail;have hpl:[(((s.disk T2).x.gn:Nat):Int)+1,(((s.disk T2).x.ep:Nat):Int),(((s.disk T2).x.pg:Nat):Int),(((s.disk T2).x.st:Nat):Int),(((s.disk T2).x.ln:Nat):Int),((s.L.tail:Nat):Int),((s.L.seq:Nat):Int)]=s.past.l:=by simp [Sb.l,Sto.past,Sto.disk]
          have hsv:∀ wx,w3.grownBy wx none->Calls Tryz.prog 101 #[.pointer (some ⟨sb,0,none⟩),.agg #[.int .i64 ((((s.disk T2).x.gn:Nat):Int)+1),.int .i64 ((s.disk T2).x.ep:Nat),.int .i64 ((s.disk T2).x.pg:Nat),.int .i64 ((s.disk T2).x.st:Nat),.int .i64 ((s.disk T2).x.ln:Nat),.int .i64 ((s.L.tail:Nat):Int),.int .i64 ((s.L.seq:Nat):Int)]] wx (λe w'=>e=.returned (.int .i64 (ay T2 s.past.l).1)/\∃ own',aa wx w' (aD fQ tb g sb dm wm) (aD own' tb g sb dm wm) /\
           (((ay T2 s.past.l).1=0/\∃ x',x'.l=s.past.l/\bf Z w' B b tb g sb dm wm own' { s.disk T2 with S:=(ay T2 s.past.l).2,x:=x' })\/((ay T2 s.past.l).1≠0/\bf Z w' B b tb g sb dm wm own' (s.disk (ay T2 s.past.l).2)))):=λwx hg=>by
           have:=LJ (H3.out.quiet hg) ((((s.disk T2).x.gn:Nat):Int)+1) (((s.disk T2).x.ep:Nat):Int) (((s.disk T2).x.pg:Nat):Int) (((s.disk T2).x.st:Nat):Int) (((s.disk T2).x.ln:Nat):Int) ((s.L.tail:Nat):Int) ((s.L.seq:Nat):Int) (λi=>by have h1:=xQ.out i; have h2:=Dh.out i; have h3:=bB.out i; show (T2.ae i).length < _; omega);unfold Ho at this;rw [hpl] at this;exact this
          have fw:=hid hsv;have vV:=hid (show R0=if (ay T2 s.past.l).1=0 then (0,{ s with S:=(ay T2 s.past.l).2,L:=s.L.drop,x:=s.past,D:=aM }) else ((ay T2 s.past.l).1,s.disk (ay T2 s.past.l).2) from j5.out);clear hpl hsv j5;generalize ay T2 s.past.l=R at *;obtain ⟨e3,T3⟩:=R
          dsimp only at fw vV
          go_wp2_with fail;refine (fw.out _ Dg.out).mono ?_;rintro e w5 ⟨rfl,ik,dL,h5⟩;have fJ:=hid (HT3.out.trans ((aa.none_ Dg.out).trans dL));clear dL fw y0 y1 y2 y3 y4 f5 f6 d2 d3 d4 d5 d6 d7 d8;rcases h5 with ⟨Ka,x',hx',h5⟩ | ⟨Ka,h5⟩
          · subst Ka;have Bb:=Sb.Li hx';subst Bb;have WU:=hid (vV.out.trans (if_pos rfl));have H5:=hid h5;obtain ⟨_,_,_,_,_,_,_,_,_,z9,_,_⟩:=h5.cells;have HDR:=hid (XT h5.l.l);clear h5 hx';go_wp2_with fail;refine HDR.out.mono ?_;rintro e w6 ⟨rfl,GJ,ic⟩;have h6:=H5.out.logged ic GJ H5.out.l.k.drop;have rD:=hid (fJ.out.trans (oG h6.2));obtain ⟨_,_,_,_,_,_,_,_,_,_,z10,_⟩:=h6.1.cells;obtain ⟨w7,hrun,hd7,fZ⟩:=h6.1.d.clear 0
            have h7:=h6.1.cleared fZ hd7;have H7:=hid h7;clear h6 h7 hd7 fZ GJ ic HDR;go_wp2_with fail;go_ret;rw [WU.out];exact ⟨rfl,ik,H7.out.1,rD.out.trans H7.out.2⟩
          · have qZ:(e3 == 0)=false:=by simpa using Ka
            have WU:=hid (vV.out.trans (if_neg Ka));have H5:=hid h5;clear Ka h5;go_wp2_with fail;go_ret;rw [WU.out];exact ⟨rfl,ik,H5.out,fJ.out⟩
        · have qZ:(e2 == 0)=false:=by simpa using he2
          have j5:=hid (HE2.out.trans (if_neg he2));clear HE2 he2;go_wp2_with fail;go_ret;rw [j5.out];exact ⟨rfl,fQ,H3.out,HT3.out⟩
      · have qZ:(e1 == 0)=false:=by simpa using he1
        have j5:=hid (lN.out.trans (if_neg he1));clear lN he1;go_wp2_with fail;go_ret;rw [j5.out];exact ⟨rfl,own,H2.out,HT2.out⟩
end
theorem aam (S:St) (L:Lg) (l:List Nat):(bL S L l).2.n=S.n:=by
 unfold bL
 split
 · exact Log.jD _ _ _ _
 · split
   · exact Log.jD _ _ _ _
   · rw [Log.jD,Log.jD]
theorem Hl (S:St) (L:Lg) (l:List ax):(aN S L l).2.1.n=S.n:=by
 unfold aN
 split
 · rfl
 · split
   · rfl
   · split
     · rfl
     · split <;> exact aam _ _ _
theorem UE (S:St) (L:Lg) (l:List Nat) (i:Nat):((bL S L l).2.ae i).length<=(S.ae i).length+2 * (l.length / 256):=by
 have h1:=Log.oQ S false (L.st+L.tail:Nat) (l.take (L.ahead l.length)) i;have h2:(l.take (L.ahead l.length)).length / 256<=l.length / 256:=Nat.div_le_div_right (by rw [aku]; omega);have h3:=Log.oQ (aF S false (L.st+L.tail:Nat) (l.take (L.ahead l.length))).2 false (L.st:Nat) (l.drop (L.ahead l.length)) i;have h4:(l.drop (L.ahead l.length)).length / 256<=l.length / 256:=Nat.div_le_div_right (by rw [List.length_drop]; omega)
 unfold bL
 split
 · omega
 · split
   · show ((aF S false (L.st+L.tail:Nat) (l.take (L.ahead l.length))).2.ae i).length<=_;omega
   · omega
theorem xE {S:St} {L:Lg} {l:List ax} (hok:∀ x∈l,bU x=true) (i:Nat):((aN S L l).2.1.ae i).length<=(S.ae i).length+82:=by
 unfold aN
 split
 · exact Nat.le_add_right _ _
 · rename_i h1
   have h2:=UE S L (bR L.ep L.seq l) i;rw [tL hok (by omega)] at h2;have h3:256 * (1+l.length) / 256=1+l.length:=by omega
   rw [h3] at h2
   split
   · exact Nat.le_add_right _ _
   · split
     · exact Nat.le_add_right _ _
     · split
       · show ((bL S L (bR L.ep L.seq l)).2.ae i).length<=_; omega
       · show ((bL S L (bR L.ep L.seq l)).2.ae i).length<=_; omega
theorem F9 (S:St) (x:Sb) (i:Nat):((ay S x.l).2.ae i).length<=(S.ae i).length+1:=by
 unfold ay
 split
 · have h:=Log.oQ S true ((x.l.getD 0 0).tmod 2) (frame (aX x.l)) i;rw [cz _ (by rw [mr _ rfl]; omega)] at h;exact h
 · exact Nat.le_succ _
theorem Ww {a b c d:Nat} (h1:b<=a) (h2:c<=b+1024) (h3:d<=c+1):d<=a+1025/\c<=a+1025/\b<=a+1025:=by omega
theorem YF (s:Sto) (T:St):(jZ s T).2.S=(ay T s.past.l).2:=by
 have h:∀ R:Int × St,(if R.1=0 then ((0,{ s with S:=R.2,L:=s.L.drop,x:=s.past,D:=aM }):Int × Sto) else (R.1,s.disk R.2)).2.S=R.2:=λR=>by split <;> rfl
 rw [jZ]; exact h (ay T s.past.l)
theorem Wp (s:Sto) (T:St):(iU s T).2.S=(ay (bn T s.D).2 s.past.l).2\/(iU s T).2.S=(bn T s.D).2:=by
 by_cases h:(bn T s.D).1=0
 · left
   rw [iU,if_pos h];exact YF _ _
 · right
   rw [iU,if_neg h];generalize bn T s.D=R
   rfl
theorem aaO (s:Sto):(bG s).2.S=s.S\/(bG s).2.S=(iU s (aR s.S).2).2.S\/(bG s).2.S=(aR s.S).2:=by
 unfold bG
 split
 · exact .inl rfl
 · split
   · exact .inl rfl
   · split
     · exact .inr (.inl rfl)
     · exact .inr (.inr rfl)
theorem AL {s:Sto} (hok:bg s.D) (i:Nat):((bG s).2.S.ae i).length<=(s.S.ae i).length+1025:=by
 obtain ⟨k1,k2,k3⟩:=Ww (jP s.S i) (ql (S:=(aR s.S).2) hok i) (F9 (bn (aR s.S).2 s.D).2 s.past i);rcases aaO s with h | h | h
 · rw [h]; exact Nat.le_add_right _ _
 · rw [h];rcases Wp s (aR s.S).2 with h | h
   · rw [h]; exact k1
   · rw [h]; exact k2
 · rw [h]; exact k3
section
variable {Z:Nat->Prop} {w w' wr:World} {B b tb g sb dm:Nat} {wm:Option Nat} {own own' bV:Nat->Prop} {s:Sto}
theorem Ir (h:bf Z w B b tb g sb dm wm own s) (hroom:∀ i,(s.S.ae i).length < 549755700000) :
 Calls Tryz.prog 66 #[.pointer (some ⟨sb,0,none⟩)] w (uX Z w B b tb g sb dm wm own (bZ s)):=by
 have HU:=hid (ma h);have HC:=hid (LK h hroom);have H:=hid h;unfold bZ;clear h hroom;generalize hq:s.W.isSome=q at *
 cases q with
 | true =>
   go_enter Tryz.func66,Tryz.ntmps66;go_wp2_with fail;refine HU.out.mono ?_;rintro e w1 ⟨rfl,rfl⟩;go_wp2_with fail;go_ret;exact ⟨rfl,own,H.out,aa.refl _ _⟩
 | false =>
   go_enter Tryz.func66,Tryz.ntmps66;go_wp2_with fail;refine HU.out.mono ?_;rintro e w1 ⟨rfl,rfl⟩;go_wp2_with fail;refine HC.out.mono ?_;rintro e w2 ⟨rfl,own',h2,ht2⟩;have H2:=hid h2; have HT2:=hid ht2;clear h2 ht2 HC;go_wp2_with fail;go_ret;exact ⟨rfl,own',H2.out,HT2.out⟩
theorem Xd (h:bf Z w B b tb g sb dm wm own s) :
 Calls Tryz.prog 38 #[.pointer (some ⟨sb,0,none⟩)] w (uX Z w B b tb g sb dm wm own (kH s)):=by
 have HU:=hid (ma h);have HF:=hid (o8 h.l.s.d);obtain ⟨c0,_⟩:=h.cells;have H:=hid h;unfold kH;clear h;generalize hq:s.W.isSome=q at *
 cases q with
 | true =>
   go_enter Tryz.func38,Tryz.ntmps38;go_wp2_with fail;refine HU.out.mono ?_;rintro e w1 ⟨rfl,rfl⟩;go_wp2_with fail;go_ret;exact ⟨rfl,own,H.out,aa.refl _ _⟩
 | false =>
   go_enter Tryz.func38,Tryz.ntmps38;go_wp2_with fail;refine HU.out.mono ?_;rintro e w1 ⟨rfl,rfl⟩;go_wp2_with fail;refine HF.out.mono ?_;rintro e w2 ⟨rfl,hd2,ht2⟩;have H2:=hid (H.out.disk hd2 ht2 (oH _)); have HT2:=hid (Dr (tb:=tb) (g:=g) (sb:=sb) (dm:=dm) (wm:=wm) ht2);clear hd2 ht2 HF;go_wp2_with fail;go_ret;exact ⟨rfl,own,H2.out,HT2.out⟩
theorem P6 (h:bf Z w B b tb g sb dm wm own s) (A:Option Addr) (n c:Nat) (l:List ax) (him:eG w (aD own tb g sb dm wm) A n l) (hnm:n<=1099511627776) (hroom:∀ i,(s.S.ae i).length < 549755813000) :
 Calls Tryz.prog 109 #[.pointer (some ⟨g,0,none⟩),.slice A n c] w λe w'=>e=.returned (.int .i64 (fB s l).1)/\∃ own',bf Z w' B b tb g sb dm wm own' (fB s l).2/\aa w w' (aD own tb g sb dm wm) (aD own' tb g sb dm wm):=by
 refine (RY h.l A n c l (him.weak (λi _ e=>by subst e; exact .inl (.inl (.inr rfl)))) hnm hroom).mono ?_;rintro e w' ⟨rfl,⟨own',h1,h2⟩,h3⟩;exact ⟨rfl,own',h.logs h1 h2 (h3 (.inl h.r)) (Hl _ _ _),oG h2⟩
theorem Ri {U:aK} (h:bf Z w B b tb g sb dm wm own s) (hU:s.W=some U) (hroom:∀ i,(s.S.ae i).length < 549755600000) :
 Calls Tryz.prog 62 #[.pointer (some ⟨sb,0,none⟩)] w (uX Z w B b tb g sb dm wm own (bN s (rising U))):=by
 obtain ⟨m,rfl,hm⟩:=h.u U hU;obtain ⟨_,_,_,_,_,_,_,_,_,_,_,c11⟩:=h.cells;have WH:=hid (DZ hm (λi hi=>h.Y7 hi));have aU:=hid (kJ hm.ok);have hN:(rising U).length<=1024:=by rw [dP]; have:=List.length_filter_le (λk=>(U k).isSome) (List.range 1024); rw [List.length_range] at this; exact this
 have H:=hid h;have bB:=hid hroom;obtain ⟨R0,hR0⟩:∃ r,bN s (rising U)=r:=⟨_,rfl⟩;rw [hR0];have fA:=hid hR0.symm;clear h hroom hR0 hm;generalize rising U=l at *;go_enter Tryz.func62,Tryz.ntmps62;go_wp2_with fail;refine WH.out.mono ?_;rintro e w1 ⟨A,c,rfl,hnc,hcm,him,hg1⟩;replace him:=him.weak (Q:=aD own tb g sb dm (some m)) (λi _ hi=>.inl hi);have H1:=hid (H.out.quiet hg1);have HT1:=hid (aa.none_ (own:=aD own tb g sb dm (some m)) hg1)
 have jC:=hid him;have WL:=hid (P6 (H.out.quiet hg1) A l.length c l him (by omega) (λi=>by have:=bB.out i; omega));obtain ⟨_,_,_,_,_,_,_,_,_,c9,_,_⟩:=(H.out.quiet hg1).cells;have nM:=hid (show (fB s l).2.D=s.D from rfl);have rC:=hid (show ∀ i,((fB s l).2.S.ae i).length<=(s.S.ae i).length+82 from λi=>xE aU.out i);have lN:=hid (show R0=if (fB s l).1=15 then iI l (bG (fB s l).2) else fB s l from fA.out)
 clear him hg1 WH fA c11;generalize fB s l=R at *;obtain ⟨e1,s1⟩:=R
 dsimp only at *
 go_wp2_with fail;refine WL.out.mono ?_;rintro e w2 ⟨rfl,bV,h2,ht2⟩;have H2:=hid h2;have HT2:=hid (HT1.out.trans ht2);have HI2:=hid (jC.out.turn ht2);clear h2 ht2 WL c9 jC
 by_cases he1:e1=15
 · subst he1;have fM:=hid (LK H2.out (λi=>by have:=rC.out i; have:=bB.out i; omega));have HE2:=hid (show R0=iI l (bG s1) from lN.out.trans (if_pos rfl));have CO:=hid (λi=>AL (s:=s1) H2.out.d.ok i);clear lN;generalize bG s1=R at *;obtain ⟨e2,s2⟩:=R;unfold iI at HE2
   dsimp only at *
   go_wp2_with fail;refine fM.out.mono ?_;rintro e w3 ⟨rfl,fQ,h3,ht3⟩;have H3:=hid h3;have HT3:=hid (HT2.out.trans ht3);have HI3:=hid (HI2.out.turn ht3)
   dsimp only at H3
   clear h3 ht3 fM HI2
   by_cases h12:e2=12
   · subst h12;have j5:=hid (show R0=(11,s2) from HE2.out.trans (if_pos rfl));go_wp2_with fail;go_ret;rw [j5.out];exact ⟨rfl,fQ,H3.out,HT3.out⟩
   · have agF:(e2 == 12)=false:=by simpa using h12
     have j5:=hid (HE2.out.trans (if_neg h12));clear HE2 h12
     by_cases h0:e2=0
     · subst h0;have vV:=hid (show R0=fB s2 l from j5.out.trans (if_pos rfl));have WL:=hid (P6 H3.out A l.length c l HI3.out (by omega) (λi=>by have h1:=CO.out i; have h2:=rC.out i; have h3:=bB.out i; omega));obtain ⟨_,_,_,_,_,_,_,_,_,c9,_,_⟩:=H3.out.cells;go_wp2_with fail;refine WL.out.mono ?_;rintro e w4 ⟨rfl,iE,h4,jF⟩;have H4:=hid h4;have sK:=hid (HT3.out.trans jF);clear h4 jF WL c9;go_wp2_with fail
       go_ret;rw [vV.out];exact ⟨rfl,iE,H4.out,sK.out⟩
     · have Ke:(e2 == 0)=false:=by simpa using h0
       have vV:=hid (j5.out.trans (if_neg h0));clear j5 h0;go_wp2_with fail;go_ret;rw [vV.out];exact ⟨rfl,fQ,H3.out,HT3.out⟩
 · have VM:(e1 == 15)=false:=by simpa using he1
   have HE2:=hid (lN.out.trans (if_neg he1));clear lN he1;go_wp2_with fail;go_ret;rw [HE2.out];exact ⟨rfl,bV,H2.out,HT2.out⟩
end
end Go.Proofs.YtinajlbijgedbaaGreat.Sto
