/- Texts of this seat's proofs: RefNew, DiskAny. -/
import Derived.Test.YtinajlbijgedbaaGreatQRefCrash
import Derived.Test.YtinajlbijgedbaaGreatQRefWrite
import Derived.Test.YtinajlbijgedbaaGreatQMapIs
import Derived.Test.YtinajlbijgedbaaGreatQDiskNew
import Derived.Test.YtinajlbijgedbaaGreatQCrcMath
import Derived.Great.BuildSlice
set_option maxRecDepth 100000
set_option maxHeartbeats 16000000
namespace Go.Proofs.YtinajlbijgedbaaGreat.Dsk
open Lib (hid)
open Go.RowKit Mem Crc DiskSpec
theorem Kq:(Tryz.prog.info? 68).map (λi=>(i.zero,i.size,i.bytes))=some (some (.agg #[.slice none 0 0,.slice none 0 0]),2,48):=by kernel_rfl
theorem XM (w:World):(Instr.makeSlice 65 (.int .i64 256) (.int .i64 256)).run Tryz.prog w=.ok (.slice (some ⟨w.heap.size,0,none⟩) 256 256) (w.alloc (.cells (Array.replicate 256 (.int .u8 0)) 5)):=by kernel_rfl
theorem Jt {P:Program} {ops:Array Oper} {o:Oper} {a:Act} {w w':World} {K:Act->World->Prop} {Q:Exit->Act->World->Prop} {E:Prop} (hgd:o.guard=none) (t:TypeId) (x y:Operand)
 (ho:o.op=.makeSlice t x y) (u u' v:Value) (hx:a.eval x=u) (hy:a.eval y=u') (hrun:(Instr.makeSlice t u u').run P w=.ok v w') (h:K (a.put o.dst v) w') :
 if Region.wanted o (yielded ops a.tmps)=true then Oper.wp P o a w K Q else E:=by
 have hw:Region.wanted o (yielded ops a.tmps)=true:=by simp [Region.wanted,hgd]
 rw [if_pos hw];unfold Oper.wp execOp;simp only [ho,hx,hy,Sem.run_bind,Sem.run_pure,hrun,Result.andThen_ok];exact h
theorem Td (w:World) (A:Option Addr) (n c:Nat) :
 (Instr.buildSlice 61 1 #[(0,.agg #[.slice A n c,.slice none 0 0])]).run Tryz.prog w=.ok (.slice (some ⟨w.heap.size,0,none⟩) 1 1) (w.alloc (.cells #[.slice A n c,.slice none 0 0] 68)):=by
 obtain ⟨i0,hi0,hz0,hz1,_⟩:=info_parts Kq;refine run_buildSlice w 61 68 1 _ _ i0 _ Tryz.underlying61 hi0 hz0 (by rw [hz1]; decide) (by rw [hz1]; decide) ?_;rw [hz1];have hf:=Great.fill_whole (s:=2) (by omega) [.agg #[.slice A n c,.slice none 0 0]] ((Array.range (1 * 2)).map λq=>(Value.agg #[.slice none 0 0,.slice none 0 0]).cells[q % (Value.agg #[.slice none 0 0,.slice none 0 0]).cells.size]!) (by simp [Value.cells]) (by simp)
 have e:([Value.agg #[.slice A n c,.slice none 0 0]].flatMap λv=>v.cells.toList).toArray=#[.slice A n c,.slice none 0 0]:=by simp [Value.cells]
 rw [e] at hf;exact hf
theorem Aj (w:World) (b o:Nat) (v:Value) (hc:w.cell? ⟨b,o,none⟩=some v):(Instr.loadAt 61 (.pointer (some ⟨b,o,none⟩))).run Tryz.prog w=.ok v w:=by
 have ha:=Tryz.isAgg61 w
 simp [Instr.loadAt,Instr.sureAddr,loadVar,ha,hc]
theorem OZ (w:World) (b o:Nat) (v old:Value) (hc:w.cell? ⟨b,o,none⟩=some old) (hf:w.frozen? ⟨b,o,none⟩=false) (A:Option Addr) (n c:Nat) (hv:v=.slice A n c) :
 (Instr.storeAt 61 (.pointer (some ⟨b,o,none⟩)) v).run Tryz.prog w=.ok () (w.setCell ⟨b,o,none⟩ v):=by
 subst hv;have hz:=Tryz.sizeOf61 w;have e:(⟨b,o,none⟩:Addr).add 0=⟨b,o,none⟩:=by rw [Addr.add_mid,Nat.add_zero]
 have hs:=run_store Tryz.prog w ⟨b,o,none⟩ (.slice A n c) .plain rfl;rw [hc,hf] at hs
 simp [Instr.storeAt,Instr.sureAddr,storeVar,hz,Value.cells,storeCells,e,hs]
def pairs (ds:List Value):List Value:=ds.flatMap λd=>[d,.slice none 0 0]
theorem Mw (ds:List Value):(pairs ds).length=ds.length * 2:=by
 induction ds with
 | nil=>rfl
 | cons d ds ih=>simp only [pairs,List.flatMap_cons,akl,List.length_cons,List.length_nil] at *; omega
theorem Xz (ds:List Value) (i:Nat) (hi:i < ds.length):(pairs ds)[i * 2]?=some (ds.getD i undef)/\(pairs ds)[i * 2+1]?=some (.slice none 0 0):=by
 induction ds generalizing i with
 | nil=>simp at hi
 | cons d ds ih =>
   cases i with
   | zero=>simp [pairs]
   | succ i =>
     have h:=ih i (by simpa using hi);rw [show (i+1) * 2=i * 2+2 by omega]
     simpa [pairs] using h
theorem Gs (ds:List Value) (d:Value):pairs (ds ++ [d])=pairs ds ++ [d,.slice none 0 0]:=by simp [pairs]
theorem nV {w:World} {base n size:Nat} {e:TypeId} {v:Value} {xs:List Value} (h:w.ownsRow base e size v n xs) {g:Nat} (hg:v.ownBlock=some g):base<=g/\∃ cur,w.heap[g]?=some (.cells cur e (0,0)):=by
 rcases h.2 with ⟨rfl,_⟩ | ⟨g',cap,cur,rfl,hb,hh,_⟩
 · cases hg
 · cases hg; exact ⟨hb,cur,hh⟩
theorem PL {w:World} {own:Nat->Prop} {z:Nat} (hh:w.heap[z]?=some (.cells (Array.replicate 256 (.int .u8 0)) 5 (0,0))) (ho:own z):BytesAt w own (.slice (some ⟨z,0,none⟩) 256 256) zeros:=by
 refine ⟨z,256,_,_,rfl,akf _,by unfold maxLen; omega,ho,hh,l6.zero,λj hj=>?_⟩;have e0:zeros.getD j 0=0:=by
  unfold zeros;rw [akg,List.getElem?_replicate]
  simp [hj]
 rw [e0,Array.getElem?_replicate,if_pos hj]; rfl
structure Made (w0 w:World) (j:Nat) (v:Value) (ds:List Value):Prop where
 blk:af w w0.heap.size 64 #[v,.int .i64 0,.int .i64 0,.int .i64 0,.int .i64 0,.int .i64 (-1)]
 row:w.ownsRow (w0.heap.size+1) 68 2 v j (pairs ds)
 len:ds.length=j
 bytes:∀ d∈ds,BytesAt w (λi=>w0.heap.size<=i) d zeros
 grown:w0.grownBy w none
theorem Made.step {w0 w:World} {j:Nat} {v:Value} {ds:List Value} (h:Made w0 w j v ds) (hj:j < 4096) (ty:TypeId) :
 ∃ A n c w1,(Builtin.append_ #[61,61] ty #[v,.slice (some ⟨w.heap.size+1,0,none⟩) 1 1]).run Tryz.prog ((w.drew.alloc (.cells (Array.replicate 256 (.int .u8 0)) 5)).alloc (.cells #[.slice (some ⟨w.heap.size,0,none⟩) 256 256,.slice none 0 0] 68))=.ok (.slice A n c) w1 /\
  Made w0 (w1.setCell ⟨w0.heap.size,0,none⟩ (.slice A n c)) (j+1) (.slice A n c) (ds ++ [.slice (some ⟨w.heap.size,0,none⟩) 256 256])/\w1.cell? ⟨w0.heap.size,0,none⟩=some v/\w1.frozen? ⟨w0.heap.size,0,none⟩=false:=by
 obtain ⟨i0,hi0,hz0,hz1,hz2⟩:=info_parts Kq;have hz:af (w.drew.alloc (.cells (Array.replicate 256 (.int .u8 0)) 5)) w.heap.size 5 _:=af.new w.drew _ _;have hzz:=hz.alloc (.cells #[.slice (some ⟨w.heap.size,0,none⟩) 256 256,.slice none 0 0] 68);have hb:=((h.blk.drew).alloc (.cells (Array.replicate 256 (.int .u8 0)) 5)).alloc (.cells #[.slice (some ⟨w.heap.size,0,none⟩) 256 256,.slice none 0 0] 68);have hg:w.grownBy ((w.drew.alloc (.cells (Array.replicate 256 (.int .u8 0)) 5)).alloc (.cells #[.slice (some ⟨w.heap.size,0,none⟩) 256 256,.slice none 0 0] 68)) none :=
  ((ah w none).trans (aj9 w.drew _ none)).trans (aj9 _ _ none)
 have hc:=af.new (w.drew.alloc (.cells (Array.replicate 256 (.int .u8 0)) 5)) 68 #[.slice (some ⟨w.heap.size,0,none⟩) 256 256,.slice none 0 0];have hsz:(w.drew.alloc (.cells (Array.replicate 256 (.int .u8 0)) 5)).heap.size=w.heap.size+1:=by simp
 have hsz2:((w.drew.alloc (.cells (Array.replicate 256 (.int .u8 0)) 5)).alloc (.cells #[.slice (some ⟨w.heap.size,0,none⟩) 256 256,.slice none 0 0] 68)).heap.size=w.heap.size+2:=by simp
 rw [hsz] at hc;have hown:((w.drew.alloc (.cells (Array.replicate 256 (.int .u8 0)) 5)).alloc (.cells #[.slice (some ⟨w.heap.size,0,none⟩) 256 256,.slice none 0 0] 68)).ownsRow (w0.heap.size+1) 68 2 v j (pairs ds):=by
  refine ⟨h.row.1,?_⟩;rcases h.row.2 with h1 | ⟨g,cap,cur,h1,h2,h3,h4⟩
  · exact .inl h1
  · exact .inr ⟨g,cap,cur,h1,h2,(hg.block g (Array.getElem?_eq_some_iff.1 h3).1 (by simp)).trans h3,h4⟩
 have hlow:=h.grown.size;have hrl:=h.blk.lt;generalize ((w.drew.alloc (.cells (Array.replicate 256 (.int .u8 0)) 5)).alloc (.cells #[.slice (some ⟨w.heap.size,0,none⟩) 256 256,.slice none 0 0] 68))=w3 at *;have hrd:Reads w3 w3.heap.size 2 (some ⟨w.heap.size+1,0,none⟩) 1 [.slice (some ⟨w.heap.size,0,none⟩) 256 256,.slice none 0 0]:=by
  refine ⟨rfl,λ_=>⟨_,rfl,by rw [hsz2]; simp,λq x hx=>?_⟩⟩;rw [Addr.add_mid,Nat.zero_add,hc.cell,<-hx]; simp
 obtain ⟨v',w1,h1,h2,h3,h4⟩:=zf (P:=Tryz.prog) w3 (w0.heap.size+1) 61 ty 68 i0 _ 2 48 Tryz.underlying61 hi0 hz0 hz1 hz2 (by rfl) (by omega)
  v j (pairs ds) hown w3.heap.size (some ⟨w.heap.size+1,0,none⟩) 1 1 _ hrd (λu hu=>by simp at hu; rcases hu with rfl | rfl <;> rfl) (by unfold maxLen; omega) (by omega) (by omega)
 have hne:∀ g,v.ownBlock=some g->w0.heap.size+1<=g/\∃ cur,w3.heap[g]?=some (.cells cur 68 (0,0)):=λg hg=>nV hown hg
 have hb1:af w1 w0.heap.size 64 #[v,.int .i64 0,.int .i64 0,.int .i64 0,.int .i64 0,.int .i64 (-1)]:=hb.grown h3 (λe=>by have:=(hne _ e.symm).1; omega);obtain ⟨A,n,c,rfl⟩:∃ A n c,v'=.slice A n c:=by
  rcases h2.2 with ⟨h5,_⟩ | ⟨g,cap,cur,h5,_⟩
  · exact ⟨_,_,_,h5⟩
  · exact ⟨_,_,_,h5⟩
 have hkeep:∀ g cs fz,w0.heap.size<=g->w3.heap[g]?=some (.cells cs 5 fz)->(w1.setCell ⟨w0.heap.size,0,none⟩ (.slice A n c)).heap[g]?=w3.heap[g]?:=λg cs fz _ hh=>by
  have e1:w1.heap[g]?=w3.heap[g]?:=h3.block g (Array.getElem?_eq_some_iff.1 hh).1 (λe=>by
   obtain ⟨_,cur,hh'⟩:=hne _ e.symm;exact iH hh hh' (by decide) rfl)
  have e2:g≠w0.heap.size:=iH (e1.trans hh) hb1 (by decide);exact (Below.heap_setCell w1 _ _ g e2).trans e1
 refine ⟨A,n,c,w1,h1,?_,by rw [hb1.cell]; rfl,hb1.frozen 0⟩;exact {
  blk:=hb1.aC 0 _
  row:=by
   refine ⟨by rw [Gs]; exact h2.1,?_⟩;rw [Gs];rcases h2.2 with h5 | ⟨g,cap,cur,h5,h6,h7,h8⟩
   · exact .inl h5
   · exact .inr ⟨g,cap,cur,h5,h6,(Below.heap_setCell w1 _ _ g (by simp; omega)).trans h7,h8⟩
  len:=by rw [akl,h.len]; rfl
  bytes:=λd hd=>by
   rcases List.mem_append.1 hd with hd | hd
   · have h9:=(h.bytes d hd).keep (w':=w3) (λ_ h=>h) (λg cs fz _ hh=>hg.block g (Array.getElem?_eq_some_iff.1 hh).1 (by simp));exact h9.keep (λ_ h=>h) hkeep
   · rw [List.mem_singleton] at hd;subst hd;exact (PL hzz (by omega:w0.heap.size<=w.heap.size)).keep (λ_ h=>h) hkeep
  grown:=((h.grown.trans hg).andThen h3 (λg e=>.inl (by have:=(hne g e).1; omega))).andThen (akd (akr w1 (some w0.heap.size)) 0 (.slice A n c)) (λg e=>by cases e; exact .inl (akf _)) }
theorem Made.all {w0 w:World} {n:Nat} {v:Value} {ds:List Value} (h:Made w0 w n v ds) (h1:1<=n) (h2:n<=4096) :
 ∃ bl c dv vv vs own,aP w w0.heap.size w0.heap.size bl c dv vv vs (St.new n) own:=by
 rcases h.row.2 with ⟨_,h5⟩ | ⟨g,cap,cur,rfl,h6,h7,h8,h9,h10,h11⟩
 · omega
 · refine ⟨g,cap,λi=>ds.getD i undef,λ_=>.slice none 0 0,λ_=>[],λi=>w0.heap.size<=i/\i < w.heap.size,?_⟩;have hpl:=Mw ds;rw [h.len] at hpl;exact {
    ok:=St.ok.new h1 h2
    blk:=h.blk
    cells:=⟨cur,h7,λi hi=>by
     have hi':i < n:=hi;have hp:=Xz ds i (by rw [h.len]; exact hi');rw [<-h11,List.getElem?_take_of_lt (by omega),List.getElem?_take_of_lt (by omega),Array.getElem?_toList,Array.getElem?_toList] at hp;exact hp⟩
    part:=λi hi=>by
     have hi':i < n:=hi;have hd:ds.getD i undef∈ds:=by rw [akg,akj (by rw [h.len]; exact hi')]; exact List.getElem_mem _
     obtain ⟨g2,c2,cs,fz,e1,e2,e3,e4,e5,e6⟩:=h.bytes _ hd;exact ⟨⟨g2,c2,cs,fz,e1,e2,e3,⟨e4,(Array.getElem?_eq_some_iff.1 e5).1⟩,e5,e6⟩,Own.nil _ _ _ _,(λg hg=>by cases hg),(λk y hk=>by cases hk)⟩
    apart:=λi j g hi hj _ e=>by cases e
    cap:=⟨h8,h9⟩
    jK:=⟨akf _,h.blk.lt⟩
    og:=⟨by omega,(Array.getElem?_eq_some_iff.1 h7).1⟩
    low:=λi hi=>hi.1
    lt:=λi hi=>hi.2 }
theorem aai (n:Nat) (w:World) (h1:1<=n) (h2:n<=4096) :
 Calls Tryz.prog 5 #[.int .i64 (n:Nat)] w λe w'=>∃ r bl c dv vv vs own,e=.returned (.tuple #[.pointer (some ⟨r,0,none⟩),.int .i64 0])/\aP w' w.heap.size r bl c dv vv vs (St.new n) own/\w.grownBy w' none:=by
 have hd1:decide ((n:Int) < 1)=false:=by simp; omega
 have hd2:decide (4096 < (n:Int))=false:=by simp; omega
 have HM0:=hid (show Made w (w.alloc (.cells #[.slice none 0 0,.int .i64 0,.int .i64 0,.int .i64 0,.int .i64 0,.int .i64 (-1)] 64)) 0 (.slice none 0 0) [] from
  ⟨af.new w _ _,World.ownsRow_nil _ _ _ _,rfl,by simp,aj9 w _ none⟩)
 go_enter Tryz.func5,Tryz.ntmps5;go_wp2_with fail
 go_loopw [5] (λi wr=>∃ (j:Nat) (v:Value) (ds:List Value),j<=n/\i=.int .i64 j/\Made w wr j v ds) (λi _=>n - (Go.RowKit.intOf i).toNat)
 case atStart=>exact ⟨0,_,_,by omega,rfl,HM0.out⟩
 case round =>
  obtain ⟨j,v,ds,hj,rfl,hm⟩:=hrel;have HM:=hid hm; clear hm
  by_cases hlt:j < n
  · obtain ⟨A,m,c,w1,hr1,hm1,hc1,hf1⟩:=HM.out.step (by omega) 61;have hcv:wr.cell? ⟨w.heap.size,0,none⟩=some v:=by rw [HM.out.blk.cell]; rfl
    have hmk:=XM wr.drew;have hbs:=Td (wr.drew.alloc (.cells (Array.replicate 256 (.int .u8 0)) 5)) (some ⟨wr.heap.size,0,none⟩) 256 256;rw [show (wr.drew.alloc (.cells (Array.replicate 256 (.int .u8 0)) 5)).heap.size=wr.heap.size+1 by simp] at hbs;have hl:=HM.out.blk.lt;have Yd:=Aj wr.drew w.heap.size 0 v hcv;have hb2:=(HM.out.blk.drew).alloc (.cells (Array.replicate 256 (.int .u8 0)) 5);have hb3:=hb2.alloc (.cells #[.slice (some ⟨wr.heap.size,0,none⟩) 256 256,.slice none 0 0] 68)
    have Yc:=Aj (wr.drew.alloc (.cells (Array.replicate 256 (.int .u8 0)) 5)) w.heap.size 0 v (by rw [hb2.cell]; rfl);have Sn:=Aj ((wr.drew.alloc (.cells (Array.replicate 256 (.int .u8 0)) 5)).alloc (.cells #[.slice (some ⟨wr.heap.size,0,none⟩) 256 256,.slice none 0 0] 68)) w.heap.size 0 v (by rw [hb3.cell]; rfl);have hst:=OZ w1 w.heap.size 0 (.slice A m c) v hc1 hf1 A m c rfl;have HM1:=hid hm1;clear hb2 hb3 hm1 hcv hc1 hf1 hl
    generalize Array.replicate 256 (Value.int .u8 0)=zs at *;go_wp2_with fail;refine wp_region_noPanic ?_;refine wp_region_held_drew (S:=λ_=>True) (by kernel_rfl) trivial (λhHeld=>?_);refine wpAnyH_take (i:=0) (v:=.pointer (some ⟨w.heap.size,0,none⟩)) rfl (by kernel_rfl) (by kernel_rfl) (by kernel_rfl) (λ_ _ _ h=>h) (Or.inl ⟨by rfl,?_⟩) (by assumption) ?_
    · intro w1 hSw; (try dsimp only at hSw); go_simp
    simp only [Act.put,aj6,aj4,aj3,aj7,aj8];refine wpAnyH_take (i:=1) (v:=.pointer (some ⟨w.heap.size,0,none⟩)) rfl (by kernel_rfl) (by kernel_rfl) (by kernel_rfl) (λ_ _ _ h=>h) (Or.inl ⟨by rfl,?_⟩) (by assumption) ?_
    · intro w1 hSw; (try dsimp only at hSw); go_simp
    simp only [Act.put,aj6,aj5,aj4,aj3,aj7,aj8];refine wpAnyH_take (i:=2) (v:=.pointer (some ⟨w.heap.size,0,none⟩)) rfl (by kernel_rfl) (by kernel_rfl) (by kernel_rfl) (λ_ _ _ h=>h) (Or.inl ⟨by rfl,?_⟩) (by assumption) ?_
    · intro w1 hSw; (try dsimp only at hSw); go_simp
    simp only [Act.put,aj6,aj5,aj4,aj3,aj7,aj8];refine wpAnyH_take (i:=3) (v:=.pointer (some ⟨w.heap.size,0,none⟩)) rfl (by kernel_rfl) (by kernel_rfl) (by kernel_rfl) (λ_ _ _ h=>h) (Or.inl ⟨by rfl,?_⟩) (by assumption) ?_
    · intro w1 hSw; (try dsimp only at hSw); go_simp
    simp only [Act.put,aj6,aj5,aj4,aj3,aj7,aj8];refine wpAnyH_ready (rs:=[4,5]) (by kernel_rfl) (by simp) ?_;refine AllReadyH.cons rfl (λK hK=>?_) (AllReadyH.cons rfl (λK hK=>?_) AllReadyH.nil)
    · refine uL rfl (Operand.tmp 22) 61 rfl _ _ rfl Yd ?_;refine hK.out _ _ trivial (λhHeld=>?_);clear hK K;simp only [Act.put,aj6,aj5,aj4,aj3,aj7,aj8];refine wpAnyH_ready (rs:=[5]) (by kernel_rfl) (by simp) ?_;refine AllReadyH.cons rfl (λK hK=>?_) AllReadyH.nil;refine Jt rfl 65 _ _ rfl _ _ _ rfl rfl hmk ?_
      refine hK.out _ _ trivial (λhHeld=>?_);clear hK K;simp only [Act.put,aj6,aj5,aj4,aj3,aj7,aj8];refine wpAnyH_take (i:=6) (v:=.agg #[.slice (some ⟨wr.heap.size,0,none⟩) 256 256,.slice none 0 0]) rfl (by kernel_rfl) (by kernel_rfl) (by kernel_rfl) (λ_ _ _ h=>h) (Or.inl ⟨by rfl,?_⟩) (by assumption) ?_
      · intro w1 hSw; (try dsimp only at hSw); go_simp
      simp only [Act.put,aj6,aj5,aj4,aj3,aj7,aj8];refine wpAnyH_ready (rs:=[7]) (by kernel_rfl) (by simp) ?_;refine AllReadyH.cons rfl (λK hK=>?_) AllReadyH.nil;refine mD rfl 61 (Operand.tmp 25) rfl (.agg #[.slice (some ⟨wr.heap.size,0,none⟩) 256 256,.slice none 0 0]) _ rfl hbs ?_;refine hK.out _ _ trivial (λhHeld=>?_)
      clear hK K;simp only [Act.put,aj6,aj5,aj4,aj3,aj7,aj8];refine wpAnyH_ready (rs:=[8]) (by kernel_rfl) (by simp) ?_;refine AllReadyH.cons rfl (λK hK=>?_) AllReadyH.nil;refine step_append rfl (Operand.tmp 23) (Operand.tmp 26) 61 rfl _ _ _ rfl rfl hr1 ?_;refine hK.out _ _ trivial (λhHeld=>?_)
      clear hK K;simp only [Act.put,aj6,aj5,aj4,aj3,aj7,aj8];refine wpAnyH_take (i:=9) (v:=.pointer (some ⟨w.heap.size,0,none⟩)) rfl (by kernel_rfl) (by kernel_rfl) (by kernel_rfl) (λ_ _ _ h=>h) (Or.inl ⟨by rfl,?_⟩) (by assumption) ?_
      · intro w1 hSw; (try dsimp only at hSw); go_simp
      simp only [Act.put,aj6,aj5,aj4,aj3,aj7,aj8];refine wpAnyH_take (i:=10) (v:=.pointer (some ⟨w.heap.size,0,none⟩)) rfl (by kernel_rfl) (by kernel_rfl) (by kernel_rfl) (λ_ _ _ h=>h) (Or.inl ⟨by rfl,?_⟩) (by assumption) ?_
      · intro w1 hSw; (try dsimp only at hSw); go_simp
      simp only [Act.put,aj6,aj5,aj4,aj3,aj7,aj8];refine wpAnyH_ready (rs:=[11]) (by kernel_rfl) (by simp) ?_;refine AllReadyH.cons rfl (λK hK=>?_) AllReadyH.nil;refine rO rfl (Operand.tmp 29) (Operand.tmp 27) 61 rfl _ _ rfl rfl hst ?_;refine hK.out _ _ trivial (λhHeld=>?_);clear hK K;refine wpAnyH_done (by kernel_rfl) ?_ _
      refine NoPanic.normal ?_;simp only [Act.put,aj6,aj5,aj4];go_wp2_with fail
      go_roundw
      case rel=>exact ⟨j+1,_,_,by omega,by go_num,HM1.out⟩
      case measure=>simp [Go.RowKit.intOf]; omega
    · refine Jt rfl 65 _ _ rfl _ _ _ rfl rfl hmk ?_;refine hK.out _ _ trivial (λhHeld=>?_);clear hK K;simp only [Act.put,aj6,aj5,aj4,aj3,aj7,aj8];refine wpAnyH_take (i:=6) (v:=.agg #[.slice (some ⟨wr.heap.size,0,none⟩) 256 256,.slice none 0 0]) rfl (by kernel_rfl) (by kernel_rfl) (by kernel_rfl) (λ_ _ _ h=>h) (Or.inl ⟨by rfl,?_⟩) (by assumption) ?_
      · intro w1 hSw; (try dsimp only at hSw); go_simp
      simp only [Act.put,aj6,aj5,aj4,aj3,aj7,aj8];refine wpAnyH_ready (rs:=[4,7]) (by kernel_rfl) (by simp) ?_;refine AllReadyH.cons rfl (λK hK=>?_) (AllReadyH.cons rfl (λK hK=>?_) AllReadyH.nil)
      · refine uL rfl (Operand.tmp 22) 61 rfl _ _ rfl Yc ?_;refine hK.out _ _ trivial (λhHeld=>?_);clear hK K;simp only [Act.put,aj6,aj5,aj4,aj3,aj7,aj8];refine wpAnyH_ready (rs:=[7]) (by kernel_rfl) (by simp) ?_;refine AllReadyH.cons rfl (λK hK=>?_) AllReadyH.nil;refine mD rfl 61 (Operand.tmp 25) rfl (.agg #[.slice (some ⟨wr.heap.size,0,none⟩) 256 256,.slice none 0 0]) _ rfl hbs ?_
        refine hK.out _ _ trivial (λhHeld=>?_);clear hK K;simp only [Act.put,aj6,aj5,aj4,aj3,aj7,aj8];refine wpAnyH_ready (rs:=[8]) (by kernel_rfl) (by simp) ?_;refine AllReadyH.cons rfl (λK hK=>?_) AllReadyH.nil;refine step_append rfl (Operand.tmp 23) (Operand.tmp 26) 61 rfl _ _ _ rfl rfl hr1 ?_
        refine hK.out _ _ trivial (λhHeld=>?_);clear hK K;simp only [Act.put,aj6,aj5,aj4,aj3,aj7,aj8];refine wpAnyH_take (i:=9) (v:=.pointer (some ⟨w.heap.size,0,none⟩)) rfl (by kernel_rfl) (by kernel_rfl) (by kernel_rfl) (λ_ _ _ h=>h) (Or.inl ⟨by rfl,?_⟩) (by assumption) ?_
        · intro w1 hSw; (try dsimp only at hSw); go_simp
        simp only [Act.put,aj6,aj5,aj4,aj3,aj7,aj8];refine wpAnyH_take (i:=10) (v:=.pointer (some ⟨w.heap.size,0,none⟩)) rfl (by kernel_rfl) (by kernel_rfl) (by kernel_rfl) (λ_ _ _ h=>h) (Or.inl ⟨by rfl,?_⟩) (by assumption) ?_
        · intro w1 hSw; (try dsimp only at hSw); go_simp
        simp only [Act.put,aj6,aj5,aj4,aj3,aj7,aj8];refine wpAnyH_ready (rs:=[11]) (by kernel_rfl) (by simp) ?_;refine AllReadyH.cons rfl (λK hK=>?_) AllReadyH.nil;refine rO rfl (Operand.tmp 29) (Operand.tmp 27) 61 rfl _ _ rfl rfl hst ?_;refine hK.out _ _ trivial (λhHeld=>?_);clear hK K;refine wpAnyH_done (by kernel_rfl) ?_ _
        refine NoPanic.normal ?_;simp only [Act.put,aj6,aj5,aj4];go_wp2_with fail
        go_roundw
        case rel=>exact ⟨j+1,_,_,by omega,by go_num,HM1.out⟩
        case measure=>simp [Go.RowKit.intOf]; omega
      · refine mD rfl 61 (Operand.tmp 25) rfl (.agg #[.slice (some ⟨wr.heap.size,0,none⟩) 256 256,.slice none 0 0]) _ rfl hbs ?_;refine hK.out _ _ trivial (λhHeld=>?_);clear hK K;simp only [Act.put,aj6,aj5,aj4,aj3,aj7,aj8];refine wpAnyH_ready (rs:=[4]) (by kernel_rfl) (by simp) ?_;refine AllReadyH.cons rfl (λK hK=>?_) AllReadyH.nil
        refine uL rfl (Operand.tmp 22) 61 rfl _ _ rfl Sn ?_;refine hK.out _ _ trivial (λhHeld=>?_);clear hK K;simp only [Act.put,aj6,aj5,aj4,aj3,aj7,aj8];refine wpAnyH_ready (rs:=[8]) (by kernel_rfl) (by simp) ?_;refine AllReadyH.cons rfl (λK hK=>?_) AllReadyH.nil;refine step_append rfl (Operand.tmp 23) (Operand.tmp 26) 61 rfl _ _ _ rfl rfl hr1 ?_
        refine hK.out _ _ trivial (λhHeld=>?_);clear hK K;simp only [Act.put,aj6,aj5,aj4,aj3,aj7,aj8];refine wpAnyH_take (i:=9) (v:=.pointer (some ⟨w.heap.size,0,none⟩)) rfl (by kernel_rfl) (by kernel_rfl) (by kernel_rfl) (λ_ _ _ h=>h) (Or.inl ⟨by rfl,?_⟩) (by assumption) ?_
        · intro w1 hSw; (try dsimp only at hSw); go_simp
        simp only [Act.put,aj6,aj5,aj4,aj3,aj7,aj8];refine wpAnyH_take (i:=10) (v:=.pointer (some ⟨w.heap.size,0,none⟩)) rfl (by kernel_rfl) (by kernel_rfl) (by kernel_rfl) (λ_ _ _ h=>h) (Or.inl ⟨by rfl,?_⟩) (by assumption) ?_
        · intro w1 hSw; (try dsimp only at hSw); go_simp
        simp only [Act.put,aj6,aj5,aj4,aj3,aj7,aj8];refine wpAnyH_ready (rs:=[11]) (by kernel_rfl) (by simp) ?_;refine AllReadyH.cons rfl (λK hK=>?_) AllReadyH.nil;refine rO rfl (Operand.tmp 29) (Operand.tmp 27) 61 rfl _ _ rfl rfl hst ?_;refine hK.out _ _ trivial (λhHeld=>?_);clear hK K;refine wpAnyH_done (by kernel_rfl) ?_ _
        refine NoPanic.normal ?_;simp only [Act.put,aj6,aj5,aj4];go_wp2_with fail
        go_roundw
        case rel=>exact ⟨j+1,_,_,by omega,by go_num,HM1.out⟩
        case measure=>simp [Go.RowKit.intOf]; omega
  · obtain rfl:j=n:=by omega
    obtain ⟨bl,c,dv,vv,vs,own,hl⟩:=HM.out.all h1 h2;have HL:=hid hl; clear hl;go_wp2;go_ret2;exact ⟨_,bl,c,dv,vv,vs,own,rfl,HL.out,HM.out.grown⟩
end Go.Proofs.YtinajlbijgedbaaGreat.Dsk
namespace Go.Proofs.YtinajlbijgedbaaGreat.Dsk
open Go.RowKit Mem Crc DiskSpec
def dU (w:World) (B b:Nat) (S:St) (own:Nat->Prop):Prop:=∃ bd bm f,Lay w B b bd bm f S own
def bX (w:World) (B r:Nat) (S:St) (own:Nat->Prop):Prop:=∃ bl c dv vv vs,aP w B r bl c dv vv vs S own
theorem lY {w:World} {B b:Nat} {S:St} {own:Nat->Prop} (h:dU w B b S own) (a:Int) (A:Option Addr) (n cc:Nat) (l:List Nat) (bq:Bool) (ha:-9223372036854775808<=a/\a<=9223372036854775807)
 (hd:Data w own A n l) (hc:n<=cc) (hnm:n<=65536) (hroom:∀ i,(S.ae i).length < 549755813888) (hB:B<=w.heap.size) :
 Calls Tryz.prog 49 #[.pointer (some ⟨b,0,none⟩),.int .i64 a,.slice A n cc,.bool bq] w λe w'=>e=.returned (.int .i64 (aF S bq a l).1)/\∃ own',dU w' B b (aF S bq a l).2 own'/\aa w w' own own':=by
 obtain ⟨bd,bm,f,h⟩:=h;have hl:=hd.1;unfold aF;rw [hl]
 by_cases h1:n=0\/n % 256≠0
 · rw [if_pos h1];refine (I9 _ a A n cc bq w (by omega) h1).mono ?_;rintro e w' ⟨rfl,rfl⟩;exact ⟨rfl,own,⟨bd,bm,f,h⟩,aa.refl _ _⟩
 · rw [if_neg h1];obtain ⟨k,rfl⟩:∃ k,n=k * 256:=⟨n / 256,by omega⟩;rw [Nat.mul_div_cancel _ (by omega:0 < 256)];have hk:1<=k:=by omega
   by_cases h2:S.has a k=false
   · rw [if_pos h2];refine (FH h a A k cc bq ha hk (by omega) h2).mono ?_;rintro e w' ⟨rfl,rfl⟩;exact ⟨rfl,own,⟨bd,bm,f,h⟩,aa.refl _ _⟩
   · rw [if_neg h2];have h2':S.has a k=true:=by simpa using h2
     by_cases h3:S.f2=1\/S.left=0
     · rw [if_pos h3];refine (G7 h a A k cc bq ha hk (by omega) h2' h3).mono ?_;rintro e w' ⟨rfl,h4,h5⟩;exact ⟨rfl,own,⟨_,_,_,h4⟩,h5⟩
     · rw [if_neg h3];obtain ⟨a',c',rfl,hc',_,h5⟩:=yl h2' h.ok.top;obtain rfl:k=c':=by omega
       refine (K7 h a' k A cc l bq hd hc hk h5 (λe=>h3 (.inl e)) (λe=>h3 (.inr e)) hroom hB).mono ?_;rintro e w' ⟨rfl,f',own',h6,h7⟩;exact ⟨rfl,own',⟨_,_,_,h6⟩,h7⟩
theorem o8 {w:World} {B b:Nat} {S:St} {own:Nat->Prop} (h:dU w B b S own) :
 Calls Tryz.prog 51 #[.pointer (some ⟨b,0,none⟩)] w λe w'=>e=.returned (.int .i64 (aR S).1)/\dU w' B b (aR S).2 own/\aa w w' own own:=by
 obtain ⟨bd,bm,f,h⟩:=h;unfold aR
 by_cases h3:S.f3=1\/S.left=0
 · rw [if_pos h3];refine (G8 h h3).mono ?_;rintro e w' ⟨rfl,h4,h5⟩;exact ⟨rfl,⟨_,_,_,h4⟩,h5⟩
 · rw [if_neg h3];refine (K9 h (λe=>h3 (.inl e)) (λe=>h3 (.inr e))).mono ?_;rintro e w' ⟨rfl,⟨f',h6⟩,h7⟩;exact ⟨rfl,⟨_,_,_,h6⟩,h7⟩
theorem La {w:World} {B b:Nat} {S:St} {own:Nat->Prop} (h:dU w B b S own) (kind n:Int) :
 Calls Tryz.prog 40 #[.pointer (some ⟨b,0,none⟩),.int .i64 kind,.int .i64 n] w λe w'=>e=.returned (.int .i64 (kU S kind n).1)/\dU w' B b (kU S kind n).2 own/\aa w w' own own:=by
 obtain ⟨bd,bm,f,h⟩:=h;have ho:=h.ownB;unfold kU
 by_cases h1:n < 1\/1099511627776 < n
 · rw [if_pos h1];refine (CB _ kind n w (by unfold wQ; omega)).mono ?_;rintro e w' ⟨rfl,rfl⟩;exact ⟨rfl,⟨bd,bm,f,h⟩,aa.refl _ _⟩
 · rw [if_neg h1];obtain ⟨m,rfl⟩:∃ m:Nat,n=m:=⟨n.toNat,by omega⟩;rw [Int.toNat_natCast]
   split
   · rename_i hk; subst hk
     refine (SN h m (by omega) (by omega)).mono ?_;rintro e w' ⟨rfl,h4,h5⟩;exact ⟨rfl,⟨_,_,_,h5⟩,aa.aA h4 (λq e=>by cases e; exact ho)⟩
   · split
     · rename_i hk; subst hk
       refine (SL h m (by omega) (by omega)).mono ?_;rintro e w' ⟨rfl,h4,h5⟩;exact ⟨rfl,⟨_,_,_,h5⟩,aa.aA h4 (λq e=>by cases e; exact ho)⟩
     · split
       · rename_i hk; subst hk
         refine (SK h m (by omega) (by omega)).mono ?_;rintro e w' ⟨rfl,h4,h5⟩;exact ⟨rfl,⟨_,_,_,h5⟩,aa.aA h4 (λq e=>by cases e; exact ho)⟩
       · refine (CB _ kind m w (by unfold wQ; omega)).mono ?_;rintro e w' ⟨rfl,rfl⟩;exact ⟨rfl,⟨bd,bm,f,h⟩,aa.refl _ _⟩
theorem NL {w:World} {B b:Nat} {S:St} {own:Nat->Prop} (h:dU w B b S own) (n:Int) :
 Calls Tryz.prog 42 #[.pointer (some ⟨b,0,none⟩),.int .i64 n] w λe w'=>e=.returned (.int .i64 (oI S n).1)/\dU w' B b (oI S n).2 own/\aa w w' own own:=by
 obtain ⟨bd,bm,f,h⟩:=h;have ho:=h.ownB;unfold oI
 by_cases h1:n < 0\/1099511627776 < n
 · rw [if_pos h1];refine (PR _ n w h1).mono ?_;rintro e w' ⟨rfl,rfl⟩;exact ⟨rfl,⟨bd,bm,f,h⟩,aa.refl _ _⟩
 · rw [if_neg h1];refine (YB h n (by omega) (by omega)).mono ?_;rintro e w' ⟨rfl,h4,h5⟩;exact ⟨rfl,⟨_,_,_,h5⟩,aa.aA h4 (λq e=>by cases e; exact ho)⟩
theorem Jb {w:World} {B b:Nat} {S:St} {own:Nat->Prop} (h:dU w B b S own) (A:Option Addr) (n cc:Nat) (picks:List Int) (hp:yw w own A n picks) (hnm:n<=9223372036854775807) (hroom:∀ i,(S.ae i).length < 549755813888) :
 Calls Tryz.prog 44 #[.pointer (some ⟨b,0,none⟩),.slice A n cc] w λe w'=>e=.returned (.tuple #[])/\dU w' B b (S.gm picks) own/\aa w w' own own:=by
 obtain ⟨bd,bm,f,h⟩:=h;refine (SQ h A n cc picks hp hnm hroom).mono ?_;rintro e w' ⟨rfl,⟨f',h6⟩,h7⟩;exact ⟨rfl,⟨_,_,_,h6⟩,h7⟩
theorem mR {w:World} {B b:Nat} {S:St} {own:Nat->Prop} (h:bX w B b S own) (a:Int) (A:Option Addr) (n cc:Nat) (l:List Nat) (bq:Bool) (ha:-9223372036854775808<=a/\a<=9223372036854775807)
 (hd:Data w own A n l) (hc:n<=cc) (hnm:n<=65536) (hroom:∀ i,(S.ae i).length < 549755813888) (hB:B<=w.heap.size) :
 Calls Tryz.prog 24 #[.pointer (some ⟨b,0,none⟩),.int .i64 a,.slice A n cc,.bool bq] w λe w'=>e=.returned (.int .i64 (aF S bq a l).1)/\∃ own',bX w' B b (aF S bq a l).2 own'/\aa w w' own own':=by
 obtain ⟨bl,c,dv,vv,vs,h⟩:=h;have hl:=hd.1;unfold aF;rw [hl]
 by_cases h1:n=0\/n % 256≠0
 · rw [if_pos h1];refine (KU _ a A n cc bq w (by omega) h1).mono ?_;rintro e w' ⟨rfl,rfl⟩;exact ⟨rfl,own,⟨bl,c,dv,vv,vs,h⟩,aa.refl _ _⟩
 · rw [if_neg h1];obtain ⟨k,rfl⟩:∃ k,n=k * 256:=⟨n / 256,by omega⟩;rw [Nat.mul_div_cancel _ (by omega:0 < 256)];have hk:1<=k:=by omega
   by_cases h2:S.has a k=false
   · rw [if_pos h2];refine (Gg h a A k cc bq ha hk (by omega) h2).mono ?_;rintro e w' ⟨rfl,rfl⟩;exact ⟨rfl,own,⟨bl,c,dv,vv,vs,h⟩,aa.refl _ _⟩
   · rw [if_neg h2];have h2':S.has a k=true:=by simpa using h2
     by_cases h3:S.f2=1\/S.left=0
     · rw [if_pos h3];refine (IB h a A k cc bq ha hk (by omega) h2' h3).mono ?_;rintro e w' ⟨rfl,h4,h5⟩;exact ⟨rfl,own,⟨_,_,_,_,_,h4⟩,h5⟩
     · rw [if_neg h3];obtain ⟨a',c',rfl,hc',_,h5⟩:=yl h2' h.ok.top;obtain rfl:k=c':=by omega
       refine (Mg h a' k A cc l bq hd hc hk h5 (λe=>h3 (.inl e)) (λe=>h3 (.inr e)) hroom hB).mono ?_;rintro e w' ⟨rfl,kV,ko,vs',own',h6,h7⟩;exact ⟨rfl,own',⟨_,_,_,_,_,h6⟩,h7⟩
theorem qy {w:World} {B b:Nat} {S:St} {own:Nat->Prop} (h:bX w B b S own) :
 Calls Tryz.prog 25 #[.pointer (some ⟨b,0,none⟩)] w λe w'=>e=.returned (.int .i64 (aR S).1)/\bX w' B b (aR S).2 own/\aa w w' own own:=by
 obtain ⟨bl,c,dv,vv,vs,h⟩:=h;unfold aR
 by_cases h3:S.f3=1\/S.left=0
 · rw [if_pos h3];refine (IG h h3).mono ?_;rintro e w' ⟨rfl,h4,h5⟩;exact ⟨rfl,⟨_,_,_,_,_,h4⟩,h5⟩
 · rw [if_neg h3];refine (Ml h (λe=>h3 (.inl e)) (λe=>h3 (.inr e))).mono ?_;rintro e w' ⟨rfl,⟨kV,ko,vs',h6⟩,h7⟩;exact ⟨rfl,⟨_,_,_,_,_,h6⟩,h7⟩
theorem Mm {w:World} {B b:Nat} {S:St} {own:Nat->Prop} (h:bX w B b S own) (kind n:Int) :
 Calls Tryz.prog 41 #[.pointer (some ⟨b,0,none⟩),.int .i64 kind,.int .i64 n] w λe w'=>e=.returned (.int .i64 (kU S kind n).1)/\bX w' B b (kU S kind n).2 own/\aa w w' own own:=by
 obtain ⟨bl,c,dv,vv,vs,h⟩:=h;have ho:=h.jK;unfold kU
 by_cases h1:n < 1\/1099511627776 < n
 · rw [if_pos h1];refine (D6 _ kind n w (by unfold wQ; omega)).mono ?_;rintro e w' ⟨rfl,rfl⟩;exact ⟨rfl,⟨bl,c,dv,vv,vs,h⟩,aa.refl _ _⟩
 · rw [if_neg h1];obtain ⟨m,rfl⟩:∃ m:Nat,n=m:=⟨n.toNat,by omega⟩;rw [Int.toNat_natCast]
   split
   · rename_i hk; subst hk
     refine (Uy h m (by omega) (by omega)).mono ?_;rintro e w' ⟨rfl,h4,h5⟩;exact ⟨rfl,⟨_,_,_,_,_,h5⟩,aa.aA h4 (λq e=>by cases e; exact ho)⟩
   · split
     · rename_i hk; subst hk
       refine (Ux h m (by omega) (by omega)).mono ?_;rintro e w' ⟨rfl,h4,h5⟩;exact ⟨rfl,⟨_,_,_,_,_,h5⟩,aa.aA h4 (λq e=>by cases e; exact ho)⟩
     · split
       · rename_i hk; subst hk
         refine (Uw h m (by omega) (by omega)).mono ?_;rintro e w' ⟨rfl,h4,h5⟩;exact ⟨rfl,⟨_,_,_,_,_,h5⟩,aa.aA h4 (λq e=>by cases e; exact ho)⟩
       · refine (D6 _ kind m w (by unfold wQ; omega)).mono ?_;rintro e w' ⟨rfl,rfl⟩;exact ⟨rfl,⟨bl,c,dv,vv,vs,h⟩,aa.refl _ _⟩
theorem Pj {w:World} {B b:Nat} {S:St} {own:Nat->Prop} (h:bX w B b S own) (n:Int) :
 Calls Tryz.prog 43 #[.pointer (some ⟨b,0,none⟩),.int .i64 n] w λe w'=>e=.returned (.int .i64 (oI S n).1)/\bX w' B b (oI S n).2 own/\aa w w' own own:=by
 obtain ⟨bl,c,dv,vv,vs,h⟩:=h;have ho:=h.jK;unfold oI
 by_cases h1:n < 0\/1099511627776 < n
 · rw [if_pos h1];refine (Rt _ n w h1).mono ?_;rintro e w' ⟨rfl,rfl⟩;exact ⟨rfl,⟨bl,c,dv,vv,vs,h⟩,aa.refl _ _⟩
 · rw [if_neg h1];refine (aaj h n (by omega) (by omega)).mono ?_;rintro e w' ⟨rfl,h4,h5⟩;exact ⟨rfl,⟨_,_,_,_,_,h5⟩,aa.aA h4 (λq e=>by cases e; exact ho)⟩
theorem KZ {w:World} {B b:Nat} {S:St} {own:Nat->Prop} (h:bX w B b S own) (A:Option Addr) (n cc:Nat) (picks:List Int) (hp:yw w own A n picks) (hnm:n<=9223372036854775807) (hroom:∀ i,(S.ae i).length < 549755813888) :
 Calls Tryz.prog 45 #[.pointer (some ⟨b,0,none⟩),.slice A n cc] w λe w'=>e=.returned (.tuple #[])/\bX w' B b (S.gm picks) own/\aa w w' own own:=by
 obtain ⟨bl,c,dv,vv,vs,h⟩:=h;refine (UA h A n cc picks hp hnm hroom).mono ?_;rintro e w' ⟨rfl,⟨kV,ko,vs',h6⟩,h7⟩;exact ⟨rfl,⟨_,_,_,_,_,h6⟩,h7⟩
def iD (w:World) (base:Nat) (v:Value) (l:List Nat):Prop:=(v=.slice none 0 0/\l=[])\/∃ g cap,v=.slice (some ⟨g,0,none⟩) l.length cap/\base<=g/\af w g 5 (au l).toArray
theorem JI {S:St} (hok:S.ok) (a c:Nat):(S.reads a c).length=256 * c:=rV hok a c
theorem vH {w:World} {B b:Nat} {S:St} {own:Nat->Prop} (h:dU w B b S own) (a count:Int) (ha:-9223372036854775808<=a/\a<=9223372036854775807) (hc:-9223372036854775808<=count/\count<=9223372036854775807) :
 Calls Tryz.prog 154 #[.pointer (some ⟨b,0,none⟩),.int .i64 a,.int .i64 count] w λe w'=>∃ v,e=.returned (.tuple #[v,.int .i64 (aH S a count).1])/\iD w' w.heap.size v (dz S a count)/\dU w' B b (aH S a count).2 own/\aa w w' own own:=by
 obtain ⟨bd,bm,f,h⟩:=h;unfold aH dz
 by_cases h2:S.has a count=false
 · rw [if_pos h2,if_pos h2];refine (NI h a count ha hc h2).mono ?_;rintro e w' ⟨rfl,rfl⟩;exact ⟨_,rfl,.inl ⟨rfl,rfl⟩,⟨bd,bm,f,h⟩,aa.refl _ _⟩
 · have h2':S.has a count=true:=by simpa using h2
   rw [if_neg h2,if_neg h2]
   by_cases h3:S.f1=1
   · rw [if_pos h3,if_pos h3];refine (Ja h a count ha hc h2' h3).mono ?_;rintro e w' ⟨rfl,h4,h5⟩;exact ⟨_,rfl,.inl ⟨rfl,rfl⟩,⟨_,_,_,h4⟩,h5⟩
   · rw [if_neg h3,if_neg h3];obtain ⟨a',c',rfl,rfl,h4,h5⟩:=yl h2' h.ok.top;have hlen:=JI h.ok a' c';refine (NH h a' c' h4 h5 h3).mono ?_;rintro e w' ⟨g,cap,rfl,h6,h7,h8,h9⟩;exact ⟨_,rfl,.inr ⟨g,cap,by rw [Int.toNat_natCast,Int.toNat_natCast,hlen],h6,h7⟩,⟨_,_,_,h8⟩,h9⟩
theorem rU {w:World} {B b:Nat} {S:St} {own:Nat->Prop} (h:bX w B b S own) (a count:Int) (ha:-9223372036854775808<=a/\a<=9223372036854775807) (hc:-9223372036854775808<=count/\count<=9223372036854775807) :
 Calls Tryz.prog 73 #[.pointer (some ⟨b,0,none⟩),.int .i64 a,.int .i64 count] w λe w'=>∃ v,e=.returned (.tuple #[v,.int .i64 (aH S a count).1])/\Own w' w.heap.size 5 1 v (dz S a count).length (au (dz S a count))/\bX w' B b (aH S a count).2 own/\aa w w' own own:=by
 obtain ⟨bl,c,dv,vv,vs,h⟩:=h;unfold aH dz
 by_cases h2:S.has a count=false
 · rw [if_pos h2,if_pos h2];refine (Ph h a count ha hc h2).mono ?_;rintro e w' ⟨rfl,rfl⟩;exact ⟨_,rfl,Own.nil _ _ _ _,⟨bl,c,dv,vv,vs,h⟩,aa.refl _ _⟩
 · have h2':S.has a count=true:=by simpa using h2
   rw [if_neg h2,if_neg h2]
   by_cases h3:S.f1=1
   · rw [if_pos h3,if_pos h3];refine (KV h a count ha hc h2' h3).mono ?_;rintro e w' ⟨rfl,h4,h5⟩;exact ⟨_,rfl,Own.nil _ _ _ _,⟨_,_,_,_,_,h4⟩,h5⟩
   · rw [if_neg h3,if_neg h3];obtain ⟨a',c',rfl,rfl,h4,h5⟩:=yl h2' h.ok.top;have hlen:=JI h.ok a' c';refine (Pf h a' c' h4 h5 h3).mono ?_;rintro e w' ⟨v,rfl,h6,h7,h8⟩;rw [Int.toNat_natCast,Int.toNat_natCast,hlen];exact ⟨_,rfl,h6,⟨_,_,_,_,_,h7⟩,h8⟩
end Go.Proofs.YtinajlbijgedbaaGreat.Dsk
