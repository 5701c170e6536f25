/- Texts of this seat's proofs: RefNode, RefNodeGet. -/
import Derived.Test.YtinajlbijgedbaaGreatQI64
import Derived.Deep.RegionHeld3
import Derived.Deep.RegionLaw
import Derived.Deep.DeepCutAuto
import Derived.IntWalk
namespace Go.Proofs.YtinajlbijgedbaaGreat.Codec
open Go.RowKit CrcMath CodecMath Mem Crc
theorem Own.jw {w:World} {base size n:Nat} {e:TypeId} {v:Value} {xs:List Value} (h:Own w base e size v n xs) {g i:Nat} (hg:g < base) (u:Value):Own (w.setCell ⟨g,i,none⟩ u) base e size v n xs :=
 h.keep (bI (akr w (some g)) i u) (λj hj e=>by cases e; have:=(h.bH g hj).1; omega)
theorem wH {w:World} {b n:Nat} {A:Option Addr} {l:List Nat} (h:Bytes w b A n l):Bytes w.drew b A n l:=h
end Go.Proofs.YtinajlbijgedbaaGreat.Codec
