/- Texts of this seat's proofs: Bytes, CrcRef, CrcEight. -/
import Derived.Test.YtinajlbijgedbaaGreatQCrcMath
import Derived.Test.YtinajlbijgedbaaGreatQMem
import Derived.Test.YtinajlbijgedbaaGreatQWords
import Derived.Test.YtinajlbijgedbaaGreatRows
import Derived.WalkKit
import Derived.LoopTactic
import Derived.Lib.Hide
import Derived.Laws.BitsAllLaws
import Derived.ProofKit
import Derived.OpenShut
import Derived.SizedLaws
namespace Go.Proofs.YtinajlbijgedbaaGreat.Crc
open Go.RowKit CrcMath Mem
theorem zg {k:IntKind} {a b:Int} (h:a=b):Ending.returned (.int k a)=.returned (.int k b):=by rw [h]
def Bytes (w:World) (b:Nat) (A:Option Addr) (n:Nat) (l:List Nat):Prop :=
 l.length=n/\(∀ x∈l,x < 256)/\(0 < n->∃ g o,A=some ⟨g,o,none⟩/\g < w.heap.size/\g≠b/\∀ j,j < n->w.cell? ⟨g,o+j,none⟩=some (.int .u8 (l.getD j 0:Nat)))
theorem Bytes.keep {w w':World} {b n:Nat} {A:Option Addr} {l:List Nat} (h:Bytes w b A n l) (hg:w.grownBy w' (some b)):Bytes w' b A n l:=by
 refine ⟨h.1,h.2.1,λhn=>?_⟩;obtain ⟨g,o,e,hlt,hne,hc⟩:=h.2.2 hn;refine ⟨g,o,e,ake hlt hg.size,hne,λj hj=>?_⟩;rw [hg.cell_far _ hlt (by simpa using hne)];exact hc j hj
theorem Bytes.none_ (w:World) (b:Nat) (A:Option Addr):Bytes w b A 0 []:=⟨rfl,by simp,by omega⟩
theorem Az {x:Nat} (hx:x < 4294967296):bits BinOp.xor IntKind.u32 IntKind.u32.max (x:Int)=((4294967295 - x:Nat):Int):=by
 rw [show IntKind.u32.max=((4294967295:Nat):Int) from by decide,u32_xor_nat _ _ (by omega) hx,Nat.xor_comm,<-RL hx]
theorem Jo (l:List Nat) (k:Nat) (h:k < l.length):l.take (k+1)=l.take k ++ [l.getD k 0]:=by
 rw [List.take_succ_eq_append_getElem h]; simp [akg,h]
theorem getD_lt {l:List Nat} (h:∀ x∈l,x < 256) (k:Nat):l.getD k 0 < 256:=by
 rw [akg];rcases Nat.lt_or_ge k l.length with hk | hk
 · rw [akj hk]; exact h _ (List.getElem_mem hk)
 · rw [List.getElem?_eq_none hk]; decide
def au (l:List Nat):List Value:=l.map λx=>.int .u8 (x:Nat)
theorem aB (l:List Nat):(au l).length=l.length:=by simp [au]
theorem dH (l l':List Nat):au (l ++ l')=au l ++ au l':=by simp [au]
theorem fO (l:List Nat):∀ u∈au l,u.oneCell'=true:=by
 intro u hu;obtain ⟨x,_,rfl⟩:=List.mem_map.1 hu
 rfl
theorem fT (l:List Nat) (j:Nat) (h:j < l.length):(au l)[j]?=some (.int .u8 (l.getD j 0:Nat)):=by
 simp [au,akg,h]
theorem Bytes.reads {w:World} {b n:Nat} {A:Option Addr} {l:List Nat} (h:Bytes w b A n l):Reads w w.heap.size 1 A n (au l):=by
 refine ⟨by rw [aB,h.1]; omega,λhn=>?_⟩;obtain ⟨g,o,e,hlt,_,hc⟩:=h.2.2 hn;refine ⟨_,e,hlt,λj u hu=>?_⟩;have hj:j < l.length:=by
  rcases Nat.lt_or_ge j l.length with h1 | h1
  · exact h1
  · rw [List.getElem?_eq_none (by rw [aB]; exact h1)] at hu; cases hu
 rw [fT l j hj] at hu;have e1:(⟨g,o,none⟩:Addr).add j=⟨g,o+j,none⟩:=by unfold Addr.add; split <;> simp_all
 rw [e1,hc j (by have:=h.1; omega)];exact hu
theorem gD:(Tryz.prog.info? 5).map (λi=>(i.zero,i.size,i.bytes))=some (some (.int .u8 0),1,1):=by kernel_rfl
theorem Bytes.ad4 {w:World} {b n:Nat} {A:Option Addr} {l:List Nat} (h:Bytes w b A n l) (k:Nat) (hk:k<=n):Bytes w b A k (l.take k):=by
 refine ⟨by rw [aku,h.1]; omega,λx hx=>h.2.1 x (akq hx),λhk0=>?_⟩;obtain ⟨g,o,e,hlt,hne,hc⟩:=h.2.2 (by omega);refine ⟨g,o,e,hlt,hne,λj hj=>?_⟩;rw [hc j (by omega)]
 simp [akg,hj]
end Go.Proofs.YtinajlbijgedbaaGreat.Crc
set_option maxRecDepth 100000
set_option maxHeartbeats 16000000
namespace Go.Proofs.YtinajlbijgedbaaGreat.Crc
open Lib (hid)
open Go.RowKit CrcMath Mem
theorem acO {x:Nat} (hx:x < 4294967296) (h:((x:Int) % 2 == 1)=true):bits BinOp.xor IntKind.u32 (↑x / 2) 2197175160=((L x:Nat):Int):=by
 have h1:x % 2=1:=by simp at h; omega
 rw [show (↑x / 2:Int)=((x / 2:Nat):Int) from by omega,show (2197175160:Int)=((2197175160:Nat):Int) from rfl,u32_xor_nat _ _ (by omega) (by omega)]
 simp [L,h1]
theorem aaV {x:Nat} (h:((x:Int) % 2 == 1)=false):(↑x / 2:Int)=((L x:Nat):Int):=by
 have h1:¬ x % 2=1:=by simp at h; omega
 simp [L,h1]
theorem Z5 {x y:Nat} (hx:x < 4294967296) (hy:y < 256):bits BinOp.xor IntKind.u32 (x:Int) (y:Int)=((x ^^^ y:Nat):Int):=u32_xor_nat _ _ hx (by omega)
theorem Xw (b:Nat) (s:Nat) (A:Option Addr) (n c:Nat) (l:List Nat) (w:World) (hs:s < 4294967296) (hl:Bytes w b A n l) (hn:n<=9223372036854775807) :
 Calls Tryz.prog 150 #[.int .u32 s,.slice A n c] w λe w'=>e=.returned (.int .u32 (M s l:Nat))/\w=w':=by
 have hfl:=Az hs;have hM:M s l=4294967295 - C (4294967295 - s) l:=rfl;have HM:=hid hM; clear hM;generalize hs':4294967295 - s=s' at *;have X5:s' < 4294967296:=by omega
 clear hs';obtain ⟨hlen,hby,hcell⟩:=hl;have HC:=hid hcell; have HLEN:=hid hlen; clear hcell hlen;go_enter Tryz.func150,Tryz.ntmps150;go_wp2
 go_loop [5,6] (λv i=>∃ k:Nat,k<=n/\i=.int .i64 k/\v=.int .u32 (C s' (l.take k):Nat)) (λ_ i=>n - (intOf i).toNat)
 case atStart=>exact ⟨0,by omega,rfl,by simp [C]⟩
 case round =>
  obtain ⟨k,hk,rfl,rfl⟩:=hrel;have hxl:=ad1 (l.take k) X5 (λx hx'=>hby x (akq hx'))
  by_cases hlt:k < n
  · obtain ⟨g,o,rfl,_,_,hc⟩:=HC.out (by omega);have hck:=hc k hlt;clear hc;have hyl:=getD_lt hby k;have hsn:C s' (l.take (k+1))=Lk 8 (C s' (l.take k) ^^^ l.getD k 0):=by rw [Jo l k (by rw [HLEN.out]; exact hlt),WZ]; rfl
    have l7:=hid hsn; clear hsn;generalize hx:C s' (l.take k)=x at *;generalize hy:l.getD k 0=y at *;clear hx hy hfl;have h32:=Z5 hxl hyl;have hzl:x ^^^ y < 4294967296:=Nat.xor_lt_two_pow (n:=32) hxl (by omega);generalize hz:x ^^^ y=z at *;clear hz;go_wp2
    go_loop [5,7] (λv i=>∃ j:Nat,j<=8/\i=.int .i64 j/\v=.int .u32 (Lk j z:Nat)) (λ_ i=>8 - (intOf i).toNat)
    case atStart=>exact ⟨0,by omega,rfl,rfl⟩
    case round =>
     obtain ⟨j,hj,rfl,rfl⟩:=hrel;have hb:=Lj hzl j;have HO:=hid (acO hb); have HE:=hid (@aaV (Lk j z));have hp:(0:Int)<=(Lk j z:Nat):=by omega
     go_wp2
     · have h1:=HO.out (by assumption)
       go_round
       case rel=>exact ⟨j+1,by omega,by go_num,by rw [h1]; rfl⟩
       case measure=>simp [intOf]; omega
     · have h1:=HE.out (by assumption)
       go_round
       case rel=>exact ⟨j+1,by omega,by go_num,by rw [h1]; rfl⟩
       case measure=>simp [intOf]; omega
     · obtain rfl:j=8:=by omega
       go_round
       case rel=>exact ⟨k+1,by omega,by go_num,by rw [l7.out]⟩
       case measure=>simp [intOf]; omega
  · obtain rfl:k=n:=by omega
    have htk:l.take k=l:=akk (by rw [HLEN.out]; exact akf _);rw [htk] at hxl;have hf2:=Az hxl;clear hfl;go_wp2;go_ret;exact ⟨zg (by rw [HM.out]),rfl⟩
theorem IC (b:Nat) (A:Option Addr) (n c:Nat) (l:List Nat) (w:World) (hl:Bytes w b A n l) (hn:n<=9223372036854775807) :
 Calls Tryz.prog 120 #[.slice A n c] w λe w'=>e=.returned (.int .u32 (M 0 l:Nat))/\w=w':=by
 have HL:=hid hl; clear hl;go_enter Tryz.func120,Tryz.ntmps120
 go_wp2_with (go_at_call 150; refine (Xw b 0 A n c l _ (by omega) HL.out hn).mono ?_; rintro e w1 ⟨rfl,rfl⟩)
 go_ret;exact ⟨rfl,rfl⟩
end Go.Proofs.YtinajlbijgedbaaGreat.Crc
namespace Go.Proofs.YtinajlbijgedbaaGreat.Crc
open Lib (hid)
open Go.RowKit CrcMath
theorem Ql {x:Nat} (hx:x < 4294967296):bits BinOp.and IntKind.u32 (↑x) 1=((x % 2:Nat):Int):=by
 rw [show (1:Int)=((1:Nat):Int) from rfl,u32_and_nat x 1 hx (by omega),nat_mask1]
theorem aer {x:Nat} (hx:x < 4294967296) (h:(bits BinOp.and IntKind.u32 (↑x) 1 == 1)=true):bits BinOp.xor IntKind.u32 (↑x / 2) 2197175160=((L x:Nat):Int):=by
 rw [Ql hx] at h;have h1:x % 2=1:=by simp at h; omega
 rw [show (↑x / 2:Int)=((x / 2:Nat):Int) from by omega,show (2197175160:Int)=((2197175160:Nat):Int) from rfl,u32_xor_nat _ _ (by omega) (by omega)]
 simp [L,h1]
theorem acP {x:Nat} (hx:x < 4294967296) (h:(bits BinOp.and IntKind.u32 (↑x) 1 == 1)=false):(↑x / 2:Int)=((L x:Nat):Int):=by
 rw [Ql hx] at h;have h1:¬ x % 2=1:=by simp at h; omega
 simp [L,h1]
theorem VY (x:Nat) (w:World) (hx:x < 4294967296) :
 Calls Tryz.prog 188 #[.int .u32 x] w λe w'=>e=.returned (.int .u32 (Lk 8 x:Nat))/\w'=w:=by
 go_enter Tryz.func188,Tryz.ntmps188;go_wp2
 go_loop [0,4] (λn i=>∃ k:Nat,k<=8/\i=.int .i64 k/\n=.int .u32 (Lk k x:Nat)) (λ_ i=>8 - (intOf i).toNat)
 case atStart=>exact ⟨0,by omega,rfl,rfl⟩
 case round =>
  obtain ⟨k,hk,rfl,rfl⟩:=hrel;have hb:=Lj hx k;have ho:=aer hb;have he:=acP hb;have HO:=hid ho; have HE:=hid he; clear ho he;go_wp2
  · have h1:=HO.out (by assumption)
    go_round
    case rel=>exact ⟨k+1,by omega,by go_num,by rw [h1]; rfl⟩
    case measure=>simp [intOf]; omega
  · have h1:=HE.out (by assumption)
    go_round
    case rel=>exact ⟨k+1,by omega,by go_num,by rw [h1]; rfl⟩
    case measure=>simp [intOf]; omega
  · obtain rfl:k=8:=by omega
    go_ret;exact ⟨rfl,rfl⟩
end Go.Proofs.YtinajlbijgedbaaGreat.Crc
