/- Texts of this seat's proofs: CrcFill, Locks, OnceParts, Once, CrcMore, CrcNew, CrcBytes. -/
import Derived.Test.YtinajlbijgedbaaGreatQBytes
import Derived.Test.YtinajlbijgedbaaGreatQMem
import Derived.Deep.RegionWith
import Derived.StillTailTactics
import Derived.Test.YtinajlbijgedbaaGreatProg
import Derived.Conc.RwLib
import Derived.Conc.MuData
import Derived.KernelRfl
import Derived.Test.YtinajlbijgedbaaGreatRows
import Derived.Conc.MuLone
import Derived.WalkKit
import Derived.Tactics
import Derived.Tactics2
import Derived.Defers
import Derived.Laws.Pointers
import Derived.Laws.LoneSync
import Derived.RegionTactic
import Derived.RegionCalls
import Derived.ChangeAlike
set_option maxRecDepth 100000
set_option maxHeartbeats 16000000
namespace Go.Proofs.YtinajlbijgedbaaGreat.Crc
open Go.RowKit CrcMath Mem
def laid (cs:Array Value):Nat->Array Value
 | 0=>cs
 | k+1=>(laid cs k).setIfInBounds (3+k) (.int .u32 (Lk 8 k:Nat))
theorem yg (cs:Array Value) (k:Nat):(laid cs k).size=cs.size:=by
 induction k with
 | zero=>rfl
 | succ k ih=>simpa [laid] using ih
theorem MZ (cs:Array Value) (k j:Nat) (h:j < 3):(laid cs k)[j]?=cs[j]?:=by
 induction k with
 | zero=>rfl
 | succ k ih=>rw [laid,akn (by omega)]; exact ih
theorem aaD (cs:Array Value) (hcs:cs.size=259) (k i:Nat) (hk:k<=256) (h:i < k):(laid cs k)[3+i]?=some (.int .u32 (Lk 8 i:Nat)):=by
 induction k with
 | zero=>omega
 | succ k ih =>
   rw [laid]
   by_cases hi:i=k
   · subst hi;rw [Array.getElem?_setIfInBounds_self_of_lt (by rw [yg]; omega)]
   · rw [akn (by omega)];exact ih (by omega) (by omega)
theorem Yu (b:Nat) (cs:Array Value) (w:World) (hb:af w b 192 cs) (hcs:cs.size=259) :
 Calls Tryz.prog 173 #[.pointer (some ⟨b,0,none⟩)] w λe w'=>e=.returned (.tuple #[])/\w.grownBy w' (some b)/\af w' b 192 (laid cs 256):=by
 go_enter Tryz.func173,Tryz.ntmps173;go_wp2
 go_loopw [2,3] (λ_ i wr=>∃ k:Nat,k<=256/\i=.int .i64 k/\w.grownBy wr (some b)/\af wr b 192 (laid cs k)) (λ_ i _=>256 - (intOf i).toNat)
 case atStart=>exact ⟨0,by omega,rfl,akr _ _,hb⟩
 case round =>
  obtain ⟨k,hk,rfl,hg,hbk⟩:=hrel
  by_cases hlt:k < 256
  · have hc:wr.cell? ⟨b,3+k,none⟩=some ((laid cs k)[3+k]'(by rw [yg]; omega)):=by
     rw [hbk.cell];exact Array.getElem?_eq_getElem _
    have hf:=hbk.frozen (3+k);have hwr:IntKind.u32.wrap (k:Int)=k:=by rw [IntKind.wrap_u32']; omega
    have lC:(k:Int) < 256:=by omega
    have h0:(0:Int)<=k:=by omega
    go_wp2_with fail
    go_region_with (go_at_call 188; refine (VY k _ (by omega)).mono ?_; rintro e w' ⟨rfl,rfl⟩)
    go_wp2
    go_roundw
    case rel=>exact ⟨k+1,by omega,by go_num,bI (kM hg) _ _,hbk.aC _ _⟩
    case measure=>simp [intOf]; omega
  · go_wp2;obtain rfl:k=256:=by omega
    go_end0
    exact ⟨rfl,hg,hbk⟩
end Go.Proofs.YtinajlbijgedbaaGreat.Crc
namespace Go.Proofs
abbrev Tryz.muLink:Go.Conc.Locks.MuLink:={ lock:=196,unlock:=197,ilock:=200,iunlock:=201,lockSlow:=208,unlockSlow:=211,disable:=204,enable:=206,acquire:=207,relMerge:=209,cas32:=205,add32:=210,tMutex:=187,tIMutex:=185,tPMutex:=253,tPIMutex:=256,tPI32:=258,tUP:=260,tNoCopy:=180,tU32:=128 }
theorem Tryz.muLib:Go.Conc.Locks.MuLib Tryz.prog Tryz.muLink :=
 ⟨Tryz.func196,Tryz.func197,Tryz.func200,Tryz.func201,Tryz.func204,Tryz.func206,Tryz.func207,Tryz.func209,Tryz.func205,Tryz.func210,Tryz.underlying185,Tryz.runUnderlying185,Tryz.sizeOf185,Tryz.isAgg185,Tryz.zeroValue185,Tryz.underlying187,Tryz.runUnderlying187,Tryz.sizeOf187,Tryz.isAgg187,Tryz.zeroValue187,Tryz.underlying253,Tryz.runUnderlying253,Tryz.sizeOf253,Tryz.isAgg253,Tryz.zeroValue253,Tryz.underlying256,Tryz.runUnderlying256,Tryz.sizeOf256,Tryz.isAgg256,Tryz.zeroValue256,Tryz.underlying258,Tryz.runUnderlying258,Tryz.sizeOf258,Tryz.isAgg258,Tryz.zeroValue258,Tryz.underlying260,Tryz.runUnderlying260,Tryz.sizeOf260,Tryz.isAgg260,Tryz.zeroValue260,Tryz.underlying180,Tryz.runUnderlying180,Tryz.sizeOf180,Tryz.isAgg180,Tryz.zeroValue180,Tryz.underlying21,Tryz.runUnderlying21,Tryz.sizeOf21,Tryz.isAgg21,Tryz.zeroValue21,(by kernel_rfl)⟩
end Go.Proofs
namespace Go.Proofs.YtinajlbijgedbaaGreat.Once
open Go.MuLone
theorem Iq (a:Addr) (x:Value) (u:FrameMode) (w:World) (hc:w.cell? a=some x) (hz:w.frozen? a=false) :
 CallsD Tryz.prog 198 #[.pointer (some a),.bool true] u w λe u' w'=>u'=u/\(e=.returned (.tuple #[])/\w'=w.drew.setCell a (.int .u32 1)):=by
 have hc':w.drew.cell? a=some x:=by go_simp
 have hz':w.drew.frozen? a=false:=by go_simp
 have hst:=run_call_store (P:=Tryz.prog) Tryz.func202 (by kernel_rfl) (by kernel_rfl) (by kernel_rfl) (by kernel_rfl) (k:=.u32) (y:=1) hc' hz'
 go_enter_d Tryz.func198,Tryz.ntmps198
 go_wp2
 go_region_calls
 all_goals (go_end0; exact ⟨rfl,rfl⟩)
end Go.Proofs.YtinajlbijgedbaaGreat.Once
namespace Go.Proofs.YtinajlbijgedbaaGreat.Crc
open Lib (hid)
open Go.RowKit CrcMath Mem
open Go.MuLone
def Dl (cs:Array Value):Prop:=cs.size=259/\cs[0]?=some (.int .u32 0)/\cs[1]?=some (.int .i32 0)
def Oa (cs:Array Value):Prop:=cs.size=259/\cs[0]?=some (.int .u32 1)/\∀ i,i < 256->cs[3+i]?=some (.int .u32 (Lk 8 i:Nat))
def aey (w:World) (b:Nat):Prop:=∃ cs,af w b 192 cs/\Dl cs
def Ready (w:World) (b:Nat):Prop:=∃ cs,af w b 192 cs/\Oa cs
theorem II {cs:Array Value} (h:Dl cs):Oa (((laid (cs.setIfInBounds 1 (.int .i32 1)) 256).setIfInBounds 0 (.int .u32 1)).setIfInBounds 1 (.int .i32 0)):=by
 obtain ⟨hs,_,_⟩:=h;refine ⟨by simp [yg,hs],?_,λi hi=>?_⟩
 · rw [akn (by omega),Array.getElem?_setIfInBounds_self_of_lt (by rw [yg]; simp; omega)]
 · rw [akn (by omega),akn (by omega),aaD _ (by simpa using hs) 256 i (by omega) hi]
theorem Xj (b:Nat) (cs:Array Value) (w:World) (hb:af w b 192 cs) (hf:Dl cs) :
 Calls Tryz.prog 187 #[.pointer (some ⟨b,0,none⟩),.func (.func 173) #[.pointer (some ⟨b,0,none⟩)] #[]] w λe w'=>e=.returned (.tuple #[])/\(w.grownBy w' (some b)/\Ready w' b):=by
 have hf':=hf;obtain ⟨hs,c0,c1⟩:=hf;have h0:w.cell? ⟨b,0,none⟩=some (.int .u32 0):=by rw [hb.cell]; exact c0
 have h1:w.cell? ⟨b,1,none⟩=some (.int .i32 0):=by rw [hb.cell]; exact c1
 have f1:w.frozen? ⟨b,1,none⟩=false:=hb.frozen 1;have hb1:=hb.aC 1 (.int .i32 1);have hs1:(cs.setIfInBounds 1 (Value.int .i32 1)).size=259:=by simpa using hs
 have hl:=run_call_load (P:=Tryz.prog) Tryz.func195 (by kernel_rfl) (by kernel_rfl) (by kernel_rfl) .u32 (by kernel_rfl) (w:=w.setCell ⟨b,1,none⟩ (.int .i32 1)) (a:=⟨b,0,none⟩) (x:=0) ((World.cell?_setCell_other _ ⟨b,1,none⟩ ⟨b,0,none⟩ _ (by simp)).trans h0);have hnot:∀ (x:Bool) (w:World),(Op.unary .not (.bool x)).run Tryz.prog w=.ok (.bool (!x)) w:=λ_ _=>rfl
 have HB:=hid hb; have HS:=hid hs1; have HB1:=hid hb1; have HF:=hid hf';clear hb hs1 hb1 hf' c0 c1 hs
 go_enter_defers Tryz.func187,Tryz.ntmps187
 go_wp2_with (go_at_call 196; refine (lock_free Tryz.muLib ⟨b,1,none⟩ _ h1 f1).mono ?_; rintro e w' ⟨rfl,rfl⟩)
 go_wp2_with (first
  | (go_at_call 173; refine (Yu b _ _ HB1.out HS.out).mono ?_; rintro e w1 ⟨rfl,hg1,hk1⟩)
  | (go_at_call 186; go_in))
 have hk0:=MZ (cs.setIfInBounds 1 (.int .i32 1)) 256 0 (by omega);have ab1:=MZ (cs.setIfInBounds 1 (.int .i32 1)) 256 1 (by omega);rw [akn (by omega)] at hk0;rw [Array.getElem?_setIfInBounds_self_of_lt (by have:=HF.out.1; omega)] at ab1;refine leaves_cons (f:=198) (args:=#[.pointer (some ⟨b,0,none⟩),.bool true]) (by simp) (by simp [go_sem]) ?_;refine (Once.Iq ⟨b,0,none⟩ (.int .u32 0) .returning _ ?_ (hk1.frozen 0)).mono ?_
 · rw [hk1.cell,hk0]; exact HF.out.2.1
 rintro e u' w'' ⟨rfl,rfl,rfl⟩;refine leaves_cons (f:=197) (args:=#[.pointer (some ⟨b,1,none⟩)]) (by simp [settle]) (by simp [go_sem]) ?_;have hk2:=(hk1.drew).aC 0 (.int .u32 1);refine (unlock_deferred Tryz.muLib ⟨b,1,none⟩ _ _ ?_ (hk2.frozen 1)).mono ?_
 · rw [hk2.cell,akn (by omega),ab1]
 rintro e u' w'' ⟨rfl,rfl,rfl⟩;refine ⟨_,results_none rfl _ _ _,rfl,?_,_,hk2.aC 1 (.int .i32 0),II HF.out⟩;exact bI (bI (kM (World.grownBy.trans (bI (akr w (some b)) 1 (.int .i32 1)) hg1)) _ _) _ _
theorem YA (b:Nat) (cs:Array Value) (w:World) (hb:af w b 192 cs) (hf:Dl cs) :
 Calls Tryz.prog 172 #[.pointer (some ⟨b,0,none⟩),.func (.func 173) #[.pointer (some ⟨b,0,none⟩)] #[]] w λe w'=>e=.returned (.tuple #[])/\(w.grownBy w' (some b)/\Ready w' b):=by
 have h0:w.cell? ⟨b,0,none⟩=some (.int .u32 0):=by rw [hb.cell]; exact hf.2.1
 have hl:=run_call_load (P:=Tryz.prog) Tryz.func195 (by kernel_rfl) (by kernel_rfl) (by kernel_rfl) .u32 (by kernel_rfl) h0;have hnot:∀ (x:Bool) (w:World),(Op.unary .not (.bool x)).run Tryz.prog w=.ok (.bool (!x)) w:=λ_ _=>rfl
 have HB:=hid hb; have HF:=hid hf;clear hb hf;go_enter Tryz.func172,Tryz.ntmps172
 go_wp2_with (first
  | (go_at_call 187; refine (Xj b cs _ HB.out HF.out).mono ?_; rintro e w1 ⟨rfl,hq⟩)
  | (go_at_call 186; go_in))
 go_end0
 exact ⟨rfl,hq⟩
theorem Yz (b:Nat) (cs:Array Value) (fv:Value) (w:World) (hb:af w b 192 cs) (hf:Oa cs) :
 Calls Tryz.prog 172 #[.pointer (some ⟨b,0,none⟩),fv] w λe w'=>e=.returned (.tuple #[])/\w=w':=by
 have h0:w.cell? ⟨b,0,none⟩=some (.int .u32 1):=by rw [hb.cell]; exact hf.2.1
 have hl:=run_call_load (P:=Tryz.prog) Tryz.func195 (by kernel_rfl) (by kernel_rfl) (by kernel_rfl) .u32 (by kernel_rfl) h0;have hnot:∀ (x:Bool) (w:World),(Op.unary .not (.bool x)).run Tryz.prog w=.ok (.bool (!x)) w:=λ_ _=>rfl
 clear hb hf;go_enter Tryz.func172,Tryz.ntmps172;go_wp2
 go_end0
 exact ⟨rfl,rfl⟩
def mX (w:World) (b:Nat):Prop:=aey w b\/Ready w b
def After (w:World) (b:Nat) (w':World):Prop:=w.grownBy w' (some b)/\Ready w' b/\(Ready w b->w'=w)
theorem acE (b:Nat) (w:World) (h:mX w b) :
 Calls Tryz.prog 172 #[.pointer (some ⟨b,0,none⟩),.func (.func 173) #[.pointer (some ⟨b,0,none⟩)] #[]] w λe w'=>e=.returned (.tuple #[])/\After w b w':=by
 rcases h with ⟨cs,hb,hf⟩ | ⟨cs,hb,hf⟩
 · refine (YA b cs w hb hf).mono ?_;rintro e w' ⟨he,hg,hr⟩;refine ⟨he,hg,hr,?_⟩;rintro ⟨cs',hb',hf'⟩;have e1:cs=cs':=by have:=hb.symm.trans hb'; simpa using this
   subst e1;have:=hf.2.1.symm.trans hf'.2.1
   simp at this
 · exact (Yz b cs _ w hb hf).mono (by rintro e w' ⟨rfl,rfl⟩; exact ⟨rfl,akr _ _,⟨cs,hb,hf⟩,λ_=>rfl⟩)
end Go.Proofs.YtinajlbijgedbaaGreat.Crc
namespace Go.Proofs.YtinajlbijgedbaaGreat.Crc
open Lib (hid)
open Go.RowKit CrcMath Mem
theorem Z8 {x y:Nat} (hy:y < 256):bits BinOp.xor IntKind.u8 ((x:Int) % 256) (y:Int)=((x % 256 ^^^ y:Nat):Int):=by
 rw [show ((x:Int) % 256)=((x % 256:Nat):Int) from by omega,u8_xor_nat _ _ (by omega) hy]
theorem Xh {x y:Nat} (hx:x < 4294967296) (hy:y < 256):bits BinOp.xor IntKind.u32 ((Lk 8 (x % 256 ^^^ y):Nat):Int) ((x:Int) / 256)=((B x y:Nat):Int):=by
 rw [show ((x:Int) / 256)=((x / 256:Nat):Int) from by omega,u32_xor_nat _ _ (Lj (Nat.lt_trans (Nat.xor_lt_two_pow (n:=8) (by omega) hy) (by omega)) 8) (by omega),aaW]
theorem XL (b:Nat) (s:Nat) (A:Option Addr) (n c:Nat) (l:List Nat) (w:World) (h:mX w b) (hs:s < 4294967296) (hl:Bytes w b A n l) (hn:n<=9223372036854775807) :
 Calls Tryz.prog 163 #[.pointer (some ⟨b,0,none⟩),.int .u32 s,.slice A n c] w λe w'=>e=.returned (.int .u32 (M s l:Nat))/\After w b w':=by
 have hmf:∀ (fn:Fn) (first cap:Array Value) (w:World),(Instr.makeFunc fn first cap).run Tryz.prog w=.ok (.func fn first cap) w:=λ_ _ _ _=>rfl
 have H:=hid h; clear h;have HL:=hid hl; clear hl;go_enter Tryz.func163,Tryz.ntmps163
 go_wp2_with (go_at_call 172; refine (acE b _ H.out).mono ?_; rintro e w1 ⟨rfl,ha⟩)
 have HA:=hid ha;obtain ⟨hg,hr,_⟩:=ha;obtain ⟨cs,hb,hcs,hc0,hct⟩:=hr;have hl1:=HL.out.keep hg;obtain ⟨hlen,hby,hcell⟩:=hl1;have HC:=hid hcell; have HCT:=hid hct; have HLEN:=hid hlen; clear hcell hct hc0 hlen hcs;have hfl:=Az hs;have hM:M s l=4294967295 - C (4294967295 - s) l:=rfl;have HM:=hid hM; clear hM;generalize hs':4294967295 - s=s' at *;have X5:s' < 4294967296:=by omega
 clear hs'
 go_loop [1,19] (λv i=>∃ k:Nat,k<=n/\i=.int .i64 k/\v=.int .u32 (C s' (l.take k):Nat)) (λ_ i=>n - (intOf i).toNat)
 case atStart=>exact ⟨0,by omega,rfl,by simp [hfl,C]⟩
 case round =>
  obtain ⟨k,hk,rfl,rfl⟩:=hrel;have hxl:=ad1 (l.take k) X5 (λx hx'=>hby x (akq hx'))
  by_cases hlt:k < n
  · obtain ⟨g,o,rfl,_,_,hc⟩:=HC.out (by omega);have hck:=hc k hlt;clear hc;have hyl:=getD_lt hby k;have hsn:C s' (l.take (k+1))=B (C s' (l.take k)) (l.getD k 0):=by rw [Jo l k (by rw [HLEN.out]; exact hlt),WZ]
    have l7:=hid hsn; clear hsn;generalize hx:C s' (l.take k)=x at *;generalize hy:l.getD k 0=y at *;clear hx hy hfl;have h8:=Z8 (x:=x) hyl;have h32:=Xh hxl hyl;have hzl:x % 256 ^^^ y < 256:=Nat.xor_lt_two_pow (n:=8) (by omega) hyl;have hcell:w1.cell? ⟨b,3+(x % 256 ^^^ y),none⟩=some (.int .u32 (Lk 8 (x % 256 ^^^ y):Nat)):=by rw [hb.cell]; exact HCT.out _ hzl
    generalize hz:x % 256 ^^^ y=z at *;clear hz;have h0:(0:Int)<=z:=by omega
    have lC:(z:Int) < 256:=by omega
    go_wp2
    go_round
    case rel=>exact ⟨k+1,by omega,by go_num,by rw [l7.out]⟩
    case measure=>simp [intOf]; omega
  · obtain rfl:k=n:=by omega
    have htk:l.take k=l:=akk (by rw [HLEN.out]; exact akf _);rw [htk] at hxl;have hf2:=Az hxl;clear hfl;go_wp2;go_ret;exact ⟨zg (by rw [HM.out]),HA.out⟩
theorem P5 (b:Nat) (A:Option Addr) (n c:Nat) (l:List Nat) (w:World) (h:mX w b) (hl:Bytes w b A n l) (hn:n<=9223372036854775807) :
 Calls Tryz.prog 140 #[.pointer (some ⟨b,0,none⟩),.slice A n c] w λe w'=>e=.returned (.int .u32 (M 0 l:Nat))/\After w b w':=by
 have H:=hid h; clear h;have HL:=hid hl; clear hl;go_enter Tryz.func140,Tryz.ntmps140
 go_wp2_with (go_at_call 163; refine (XL b 0 A n c l _ H.out (by omega) HL.out hn).mono ?_; rintro e w1 ⟨rfl,ha⟩)
 have HA:=hid ha; clear ha;go_ret;exact ⟨rfl,HA.out⟩
theorem Jq (b:Nat) (A:Option Addr) (n c:Nat) (l:List Nat) (w:World) (h:Ready w b) (hl:Bytes w b A n l) (hn:n<=9223372036854775807) :
 Calls Tryz.prog 140 #[.pointer (some ⟨b,0,none⟩),.slice A n c] w λe w'=>e=.returned (.int .u32 (M 0 l:Nat))/\w'=w :=
 (P5 b A n c l w (.inr h) hl hn).mono λ_ _ ⟨he,ha⟩=>⟨he,ha.2.2 h⟩
end Go.Proofs.YtinajlbijgedbaaGreat.Crc
namespace Go.Proofs.YtinajlbijgedbaaGreat.Crc
open Go.RowKit CrcMath Mem
def jW:Array Value:=#[.int .u32 0,.int .i32 0,.int .u32 0] ++ Array.replicate 256 (.int .u32 0)
theorem TK (w:World):(zeroValue 192).run Tryz.prog w=.ok (.agg jW) w:=by kernel_rfl
theorem SA:Dl jW:=⟨by simp [jW],by simp [jW],by simp [jW]⟩
theorem IM (w:World) :
 Calls Tryz.prog 95 #[] w λe w'=>e=.returned (.pointer (some ⟨w.heap.size,0,none⟩))/\w'=w.alloc (.cells jW 192):=by
 have hz:=TK;go_enter Tryz.func95,Tryz.ntmps95;go_wp2;go_ret;exact ⟨rfl,rfl⟩
theorem Ready.keep {w w':World} {b:Nat} {row:Option Nat} (h:Ready w b) (hg:w.grownBy w' row) (hne:some b≠row):Ready w' b:=by
 obtain ⟨cs,hb,hc⟩:=h;exact ⟨cs,hb.grown hg hne,hc⟩
end Go.Proofs.YtinajlbijgedbaaGreat.Crc
