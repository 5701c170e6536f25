/- Texts of this seat's proofs: Open. -/
import Derived.Test.YtinajlbijgedbaaGreatQBytes
import Derived.Deep.Fields
import Derived.ChangeArms
import Derived.WideShapes
namespace Go.Proofs.YtinajlbijgedbaaGreat.Codec
open Go.ChangeShapes Go.WideShapes Go.RowKit CrcMath Mem Crc
section
variable {H:Type} {enc:TypeId × Value->H} {P:Program} {w:World} {base:Nat} {spare:Nat->Bool} {held:Bool}
end
def Ints (w:World) (b:Nat) (A:Option Addr) (m:Nat) (l:List Int):Prop :=
 l.length=m/\(∀ x∈l,-9223372036854775808<=x/\x<=9223372036854775807)/\(0 < m->∃ g o,A=some ⟨g,o,none⟩/\g < w.heap.size/\g≠b/\∀ j,j < m->w.cell? ⟨g,o+j,none⟩=some (.int .i64 (l.getD j 0)))
theorem kN {w w':World} {b m:Nat} {A:Option Addr} {l:List Int} (h:Ints w b A m l) {row:Option Nat} (hg:w.grownBy w' row) (hr:row=none\/row=some b):Ints w' b A m l:=by
 refine ⟨h.1,h.2.1,λhn=>?_⟩;obtain ⟨g,o,e,hlt,hne,hc⟩:=h.2.2 hn;refine ⟨g,o,e,ake hlt hg.size,hne,λj hj=>?_⟩;rw [aki (a:=⟨g,o+j,none⟩) (hg.block g hlt (by rcases hr with h | h <;> subst h <;> first | (simp; done) | (simpa using hne)))];exact hc j hj
theorem Vg (w:World) (b:Nat) (A:Option Addr):Ints w b A 0 []:=⟨rfl,by simp,by omega⟩
end Go.Proofs.YtinajlbijgedbaaGreat.Codec
