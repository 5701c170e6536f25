/- Texts of this seat's proofs: DiskLaid, DiskDirty. -/
import Derived.Test.YtinajlbijgedbaaGreatQMapIs
import Derived.Test.YtinajlbijgedbaaGreatProg
import Derived.Shelf.SlIterI.Sorted
import Derived.Shelf.SlIterI.Keys
import Derived.Shelf.SortM.Plain
import Derived.Shelf.SortM.SortNone
namespace Go.Proofs.YtinajlbijgedbaaGreat.Dsk
open Go.RowKit Go.Maps Go.Sort Go.Shelf
def Bu:Shelf.Ren where
 f:=fun | 7=>128 | 10=>152 | n=>n
 t:=fun | 23=>104 | 26=>3 | 3=>103 | 28=>161 | 0=>0 | 27=>160 | 33=>110 | 4=>4 | n=>n
 g:=λn=>n
def yI:Shelf.Ren where
 f:=fun | 6=>111 | 8=>146 | 9=>147 | 11=>166 | 13=>168 | 12=>167 | 23=>184 | 24=>185 | 14=>175 | 15=>176 | 16=>177 | 17=>178 | 18=>179 | 19=>180 | 20=>181 | 21=>182 | 22=>183 | 25=>189 | 26=>190 | 27=>191 | 28=>192 | 29=>193 | 30=>194 | 31=>199 | n=>n
 t:=fun | 26=>3 | 28=>161 | 24=>45 | 0=>0 | 3=>3 | 37=>223 | 48=>128 | 50=>238 | 4=>4 | 40=>230 | 39=>229 | 45=>234 | 5=>5 | 9=>9 | 51=>241 | 55=>245 | 57=>251 | 58=>172 | 33=>110 | n=>n
 g:=λn=>n
def Lh:Shelf.Ren where
 f:=fun | 5=>147 | 8=>168 | 7=>167 | 19=>184 | 20=>185 | 10=>175 | 11=>176 | 12=>177 | 13=>178 | 14=>179 | 15=>180 | 16=>181 | 17=>182 | 18=>183 | 30=>189 | 31=>190 | 32=>191 | 33=>192 | 34=>193 | 35=>194 | 40=>199 | n=>n
 t:=fun | 23=>45 | 25=>3 | 3=>3 | 32=>223 | 22=>45 | 0=>0 | 44=>128 | 46=>238 | 4=>4 | 36=>230 | 35=>229 | 41=>234 | 5=>5 | 9=>9 | 53=>241 | 57=>245 | 63=>251 | 64=>172 | n=>n
 g:=λn=>n
theorem KJ:SlLaysZI.n7 Tryz.prog Bu where
 mixed:=rfl
 f7:=⟨_,of_decide_eq_true (by kernel_rfl),Tryz.func128.trans (congrArg some rfl)⟩
 f10:=⟨_,of_decide_eq_true (by kernel_rfl),Tryz.func152.trans (congrArg some rfl)⟩
 t0:=Tryz.underlying0
 a0:=Tryz.isAgg0
 z0:=Tryz.sizeOf0
 v0:=Tryz.zeroValue0
 t4:=Tryz.underlying4
 a4:=Tryz.isAgg4
 z4:=Tryz.sizeOf4
 v4:=Tryz.zeroValue4
 t23:=Tryz.underlying104
 a23:=Tryz.isAgg104
 z23:=Tryz.sizeOf104
 v23:=Tryz.zeroValue104
 t26:=Tryz.underlying3
 a26:=Tryz.isAgg3
 z26:=Tryz.sizeOf3
 v26:=Tryz.zeroValue3
 t27:=Tryz.underlying160
 a27:=Tryz.isAgg160
 z27:=Tryz.sizeOf160
 v27:=Tryz.zeroValue160
 t28:=Tryz.underlying161
 a28:=Tryz.isAgg161
 z28:=Tryz.sizeOf161
 v28:=Tryz.zeroValue161
 t33:=Tryz.underlying110
 a33:=Tryz.isAgg110
 z33:=Tryz.sizeOf110
 v33:=Tryz.zeroValue110
theorem E8:SlLaysZI.n6 Tryz.prog yI where
 mixed:=rfl
 f6:=⟨_,of_decide_eq_true (by kernel_rfl),Tryz.func111.trans (congrArg some rfl)⟩
 f8:=⟨_,of_decide_eq_true (by kernel_rfl),Tryz.func146.trans (congrArg some rfl)⟩
 f11:=⟨_,of_decide_eq_true (by kernel_rfl),Tryz.func166.trans (congrArg some rfl)⟩
 t0:=Tryz.underlying0
 a0:=Tryz.isAgg0
 z0:=Tryz.sizeOf0
 v0:=Tryz.zeroValue0
 t24:=Tryz.underlying45
 a24:=Tryz.isAgg45
 z24:=Tryz.sizeOf45
 v24:=Tryz.zeroValue45
 t26:=Tryz.underlying3
 a26:=Tryz.isAgg3
 z26:=Tryz.sizeOf3
 v26:=Tryz.zeroValue3
 t28:=Tryz.underlying161
 a28:=Tryz.isAgg161
 z28:=Tryz.sizeOf161
 v28:=Tryz.zeroValue161
 i26:=by kernel_rfl
theorem KI:SlLaysM.n5 Tryz.prog Lh where
 mixed:=rfl
 f5:=⟨_,of_decide_eq_true (by kernel_rfl),Tryz.func147.trans (congrArg some rfl)⟩
 f7:=⟨_,of_decide_eq_true (by kernel_rfl),Tryz.func167.trans (congrArg some rfl)⟩
 f8:=Tryz.func168.trans (congrArg some rfl)
 f10:=⟨_,of_decide_eq_true (by kernel_rfl),Tryz.func175.trans (congrArg some rfl)⟩
 f11:=⟨_,of_decide_eq_true (by kernel_rfl),Tryz.func176.trans (congrArg some rfl)⟩
 f12:=⟨_,of_decide_eq_true (by kernel_rfl),Tryz.func177.trans (congrArg some rfl)⟩
 f13:=⟨_,of_decide_eq_true (by kernel_rfl),Tryz.func178.trans (congrArg some rfl)⟩
 f14:=⟨_,of_decide_eq_true (by kernel_rfl),Tryz.func179.trans (congrArg some rfl)⟩
 f15:=⟨_,of_decide_eq_true (by kernel_rfl),Tryz.func180.trans (congrArg some rfl)⟩
 f16:=⟨_,of_decide_eq_true (by kernel_rfl),Tryz.func181.trans (congrArg some rfl)⟩
 f17:=⟨_,of_decide_eq_true (by kernel_rfl),Tryz.func182.trans (congrArg some rfl)⟩
 f18:=⟨_,of_decide_eq_true (by kernel_rfl),Tryz.func183.trans (congrArg some rfl)⟩
 f19:=Tryz.func184.trans (congrArg some rfl)
 f20:=Tryz.func185.trans (congrArg some rfl)
 f30:=⟨_,of_decide_eq_true (by kernel_rfl),Tryz.func189.trans (congrArg some rfl)⟩
 f31:=Tryz.func190.trans (congrArg some rfl)
 f32:=Tryz.func191.trans (congrArg some rfl)
 f33:=⟨_,of_decide_eq_true (by kernel_rfl),Tryz.func192.trans (congrArg some rfl)⟩
 f34:=⟨_,of_decide_eq_true (by kernel_rfl),Tryz.func193.trans (congrArg some rfl)⟩
 f35:=⟨_,of_decide_eq_true (by kernel_rfl),Tryz.func194.trans (congrArg some rfl)⟩
 f40:=⟨_,of_decide_eq_true (by kernel_rfl),Tryz.func199.trans (congrArg some rfl)⟩
 t0:=Tryz.underlying0
 a0:=Tryz.isAgg0
 z0:=Tryz.sizeOf0
 v0:=Tryz.zeroValue0
 t3:=Tryz.underlying3
 a3:=Tryz.isAgg3
 z3:=Tryz.sizeOf3
 v3:=Tryz.zeroValue3
 t4:=Tryz.underlying4
 a4:=Tryz.isAgg4
 z4:=Tryz.sizeOf4
 v4:=Tryz.zeroValue4
 t5:=Tryz.underlying5
 a5:=Tryz.isAgg5
 z5:=Tryz.sizeOf5
 v5:=Tryz.zeroValue5
 t9:=Tryz.underlying9
 a9:=Tryz.isAgg9
 z9:=Tryz.sizeOf9
 v9:=Tryz.zeroValue9
 t22:=Tryz.underlying45
 a22:=Tryz.isAgg45
 z22:=Tryz.sizeOf45
 v22:=Tryz.zeroValue45
 t23:=Tryz.underlying45
 a23:=Tryz.isAgg45
 z23:=Tryz.sizeOf45
 v23:=Tryz.zeroValue45
 t25:=Tryz.underlying3
 a25:=Tryz.isAgg3
 z25:=Tryz.sizeOf3
 v25:=Tryz.zeroValue3
 t32:=Tryz.underlying223
 a32:=Tryz.isAgg223
 z32:=Tryz.sizeOf223
 v32:=Tryz.zeroValue223
 t35:=Tryz.underlying229
 a35:=Tryz.isAgg229
 z35:=Tryz.sizeOf229
 v35:=Tryz.zeroValue229
 t36:=Tryz.underlying230
 a36:=Tryz.isAgg230
 z36:=Tryz.sizeOf230
 v36:=Tryz.zeroValue230
 t41:=Tryz.underlying234
 a41:=Tryz.isAgg234
 z41:=Tryz.sizeOf234
 v41:=Tryz.zeroValue234
 t44:=Tryz.underlying128
 a44:=Tryz.isAgg128
 z44:=Tryz.sizeOf128
 v44:=Tryz.zeroValue128
 t46:=Tryz.underlying238
 a46:=Tryz.isAgg238
 z46:=Tryz.sizeOf238
 v46:=Tryz.zeroValue238
 t53:=Tryz.underlying241
 a53:=Tryz.isAgg241
 z53:=Tryz.sizeOf241
 v53:=Tryz.zeroValue241
 t57:=Tryz.underlying245
 a57:=Tryz.isAgg245
 z57:=Tryz.sizeOf245
 v57:=Tryz.zeroValue245
 t63:=Tryz.underlying251
 a63:=Tryz.isAgg251
 z63:=Tryz.sizeOf251
 v63:=Tryz.zeroValue251
 t64:=Tryz.underlying172
 a64:=Tryz.isAgg172
 z64:=Tryz.sizeOf172
 v64:=Tryz.zeroValue172
theorem EF (m:Nat):AnyZI.SortsIn Tryz.prog yI Fence.wide m :=
 ⟨λblk off cap ss W hH hblk hsz=>callsIn_wide.2 (AnyM.slices_Sort_int KI blk off cap ss W hH hblk hsz),
  λp cap W=>callsIn_wide.2 (AnyM.slices_Sort_int_none KI p cap W)⟩
end Go.Proofs.YtinajlbijgedbaaGreat.Dsk
set_option maxRecDepth 100000
set_option maxHeartbeats 16000000
namespace Go.Proofs.YtinajlbijgedbaaGreat.Dsk
open Lib (hid)
open Go.RowKit Go.Maps Go.Sort Go.Shelf Mem Crc DiskSpec
def ou (l:List Nat):List Value:=l.map λx=>.int .i64 (x:Nat)
theorem Ei (l:List Nat):(ou l).length=l.length:=by simp [ou]
theorem Qj (l:List Nat) (j:Nat) (h:j < l.length):(ou l)[j]?=some (.int .i64 (l[j]:Nat)):=by simp [ou,h]
theorem zA {w w':World} (h:Below w.heap.size w w'):w.grownBy w' none:=⟨h.os,h.tape,h.output,h.size,λk hk _=>h.block k hk⟩
theorem NM (S:St):(S.aJ.map λk=>((k:Nat):Int)).mergeSort (λx y=>decide (x<=y))=S.aJ.map λk=>((k:Nat):Int):=by
 refine List.mergeSort_of_pairwise ?_;rw [List.pairwise_map];have:S.aJ.Pairwise (· < ·):=List.Pairwise.filter _ List.pairwise_lt_range;exact this.imp (λh=>by simp; omega)
theorem Jy {l l':List Int} (h:l.Perm l'):l.mergeSort (λx y=>decide (x<=y))=l'.mergeSort (λx y=>decide (x<=y)):=by
 have h1:(l.mergeSort λx y=>decide (x<=y)).Perm (l'.mergeSort λx y=>decide (x<=y)):=((List.mergeSort_perm l _).trans h).trans (List.mergeSort_perm l' _).symm;refine List.Perm.eq_of_pairwise (le:=λx y=>decide (x<=y)=true) (λa b _ _ h1 h2=>?_) ?_ ?_ h1
 · simp at h1 h2; omega
 · exact List.pairwise_mergeSort (λa b c h1 h2=>by simp at *; omega) (λa b=>by simp; omega) l
 · exact List.pairwise_mergeSort (λa b c h1 h2=>by simp at *; omega) (λa b=>by simp; omega) l'
theorem G9 {w:World} {B b bd bm:Nat} {S:St} {f:Nat->Option Value} {own:Nat->Prop} (h:Lay w B b bd bm f S own) :
 Calls Tryz.prog 86 #[.pointer (some ⟨b,0,none⟩)] w λe w'=>∃ v,e=.returned v/\w'.ownsRow w.heap.size 3 1 v S.aJ.length (ou S.aJ)/\w.grownBy w' none:=by
 have htop:=h.ok.top;have hc1:=h.c1;obtain ⟨D,hown,ha,he⟩:=h.map;have htd:=hown.tidy (int_keyed Tryz.underlying3);have hsz:=dN.size_le htd ha he;have hperm:=dN.keys_perm htd ha he;have hfe:((List.range S.n).filter λk=>(f k).isSome)=S.aJ:=by
  refine List.filter_congr (λk _=>?_)
  cases hv:S.ae k with
  | nil=>rw [h.rows.none_ k hv]; rfl
  | cons a l =>
    obtain ⟨v,g,h1,_⟩:=h.rows.some_ k (by rw [hv]; simp);rw [h1]; rfl
 rw [hfe] at hperm;have ZH:=hid hperm;have HDS:=hid (NM S);clear ha he hfe hperm h;refine (callsIn_wide (n:=6)).1 ?_;have hbl:=hown.lt;have hseq:SeqGives Fence.wide 2 Tryz.prog 152 #[.pointer (some ⟨w.heap.size,0,none⟩)] encZ (λss=>ss.Perm (intKeys D)) (Maps.size D) (w.alloc (.cells #[.map (some bm)] 104)) :=
  AnyZI.keys_gives (ρ:=Bu) { KJ with } Fence.wide _ trivial rfl (by omega) w.heap.size bm (Maps.size D) D _ (by simp) (by simp) (by
   obtain ⟨es,clock,hb,Ft,hs,hD⟩:=hown;exact ⟨es,clock,(Below.heap_alloc _ _ bm hbl).trans hb,Ft,hs,hD⟩)
 have cK:∀ mb W,CallsIn Fence.wide 5 Tryz.prog 128 #[.map mb] W λe w'=>e=.returned (.func (.func 152) #[] #[.pointer (some ⟨W.heap.size,0,none⟩)])/\w'=W.alloc (.cells #[.map mb] 104) :=
  λmb W=>AnyZI.keys_in KJ Fence.wide 5 trivial rfl mb W
 have cS:=AnyZI.sorted_in E8 Fence.wide 5 trivial trivial trivial trivial rfl (by omega) (EF _) (enters_of Tryz.func147 (by kernel_rfl) rfl) 152 #[.pointer (some ⟨w.heap.size,0,none⟩)] trivial
  (enters_of Tryz.func152 (by kernel_rfl) rfl) _ _ (by unfold maxLen; omega) (by omega) _ hseq
 change CallsIn _ _ Tryz.prog 111 _ _ _ at cS
 have hfK:Fence.wide.fn 128:=trivial;have hfS:Fence.wide.fn 111:=trivial;have E5:=hid cS;clear hseq hown htd hsz cS;refine callsIn_of_wp Tryz.func86 rfl trivial ?_ rfl;simp only [Tryz.ntmps86,List.size_toArray,List.length_cons,List.length_nil,Nat.reduceAdd,Nat.reduceSub,Array.replicate_succ,Array.replicate_zero,List.push_toArray,List.append_toArray,List.nil_append,List.cons_append]
 gi_wp2_with (first
  | (gi_at_call 128; refine (cK _ _).mono ?_; rintro e w' ⟨rfl,rfl⟩)
  | (gi_at_call 111; refine E5.out.mono ?_; rintro e w' ⟨v,ss,rfl,hS,hrow,hnil,hb⟩))
 go_ret;have e1:(ss.mergeSort λx y=>decide (x<=y)).map encZ=ou S.aJ:=by
  rw [Jy (hS.trans ZH.out),HDS.out,List.map_map]; rfl
 have e2:ss.length=S.aJ.length:=by rw [(hS.trans ZH.out).length_eq,List.length_map]
 rw [e1,e2] at hrow;exact ⟨v,rfl,ownsRow_base_a hrow (by simp),zA (((Below.refl _ w).alloc (akf _) _).trans (hb.mono (by simp)))⟩
end Go.Proofs.YtinajlbijgedbaaGreat.Dsk
