/- Texts of this seat's proofs: I64, RefCounts. -/
import Derived.Test.YtinajlbijgedbaaGreatQOwn
import Derived.Test.YtinajlbijgedbaaGreatQOpen
import Derived.Test.YtinajlbijgedbaaGreatQStructs
import Derived.Test.YtinajlbijgedbaaGreatQCodecSpec
namespace Go.Proofs.YtinajlbijgedbaaGreat.Codec
open Go.RowKit CrcMath Mem Crc
def lW (l:List Int):List Value:=l.map λx=>.int .i64 x
theorem qg (l:List Int):(lW l).length=l.length:=by simp [lW]
theorem uz (l l':List Int):lW (l ++ l')=lW l ++ lW l':=by simp [lW]
theorem Qr (l:List Int) (j:Nat) (h:j < l.length):(lW l)[j]?=some (.int .i64 (l.getD j 0)):=by simp [lW,akg,h]
theorem qI:(Tryz.prog.info? 3).map (λi=>(i.zero,i.size,i.bytes))=some (some (.int .i64 0),1,8):=by kernel_rfl
theorem qz (w:World) (x:Value):Reads (w.alloc (.cells #[x] 3)) (w.heap.size+1) 1 (some ⟨w.heap.size,0,none⟩) 1 [x]:=by
 refine ⟨rfl,λ_=>⟨_,rfl,by simp,λj u hu=>?_⟩⟩
 match j with
 | 0=>simpa [Addr.add] using hu
 | j+1=>simp at hu
theorem wZ {w:World} {base n:Nat} {v:Value} {l:List Int} (h:Own w base 3 1 v n (lW l)) (hl:∀ x∈l,-9223372036854775808<=x/\x<=9223372036854775807) :
 ∃ A cap,v=.slice A n cap/\Ints w w.heap.size A n l/\n<=cap/\cap<=maxLen:=by
 have hlen:=h.len;rw [qg,Nat.mul_one] at hlen
 by_cases h0:n=0
 · subst h0;obtain ⟨A,cap,hv,h1,h2,_⟩:=h.shape;obtain rfl:l=[]:=List.eq_nil_of_length_eq_zero hlen;exact ⟨A,cap,hv,Vg _ _ _,h1,h2⟩
 · obtain ⟨g,cap,hv,_,hlt,h1,h2,hc⟩:=h.reads (by omega);refine ⟨_,cap,hv,⟨hlen,hl,λ_=>⟨g,0,rfl,hlt,by omega,λj hj=>?_⟩⟩,h1,h2⟩;rw [Nat.zero_add];exact hc j _ (Qr l j (by omega))
end Go.Proofs.YtinajlbijgedbaaGreat.Codec
namespace Go.Proofs.YtinajlbijgedbaaGreat.Codec
open Go.RowKit CrcMath CodecMath Mem Crc
theorem gy (l:List Nat) (a k:Nat) (h:∀ x∈l,x < 256) (hk:k<=7):wrap64 (num l a k:Nat)=(num l a k:Nat)/\num l a k < 72057594037927936:=by
 have h1:=MG l a k h;have h2:256 ^ k<=256 ^ 7:=Nat.pow_le_pow_right (by omega) hk;have h3:(256:Nat) ^ 7=72057594037927936:=by decide
 exact ⟨Jl (by omega),by omega⟩
theorem Gx (l:List Nat) (a step k n:Nat) (h:∀ x∈l,x < 256) (hk:k<=7):∀ x∈eY l a step k n,-9223372036854775808<=x/\x<=9223372036854775807:=by
 intro x hx;obtain ⟨i,_,rfl⟩:=List.mem_map.1 hx;have:=(gy l (a+step * i) k h hk).2;omega
end Go.Proofs.YtinajlbijgedbaaGreat.Codec
