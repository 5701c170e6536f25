/- Texts of this seat's proofs: RefLog. -/
import Derived.Test.YtinajlbijgedbaaGreatQRefNew
import Derived.Test.YtinajlbijgedbaaGreatQStructs
import Derived.Test.YtinajlbijgedbaaGreatQCodecSpec
import Derived.Deep.RegionHeld3
import Derived.Deep.QuietTactic
set_option maxRecDepth 100000
set_option maxHeartbeats 16000000
namespace Go.Proofs.YtinajlbijgedbaaGreat.RLog
open Lib (hid)
open Go.RowKit CrcMath CodecMath Mem Crc Codec DiskSpec Dsk Sup Log
set_option linter.unusedVariables false
set_option linter.unusedSimpArgs false
def lgV (r:Nat) (L:Lg):Array Value:=#[.pointer (some ⟨r,0,none⟩),.int .i64 L.g,.int .i64 (L.ep:Nat),.int .i64 L.pg,.int .i64 (L.st:Nat),.int .i64 (L.ln:Nat),.int .i64 (L.hd:Nat),.int .i64 (L.sq:Nat),.int .i64 (L.tail:Nat),.int .i64 (L.seq:Nat),.int .i64 (L.taken:Nat),.bool L.broken]
def lK (w:World) (g r:Nat) (L:Lg):Prop:=af w g 127 (lgV r L)
section
variable {w:World} {g r:Nat} {L:Lg}
theorem lK.cells (h:lK w g r L):w.cell? ⟨g,0,none⟩=some (.pointer (some ⟨r,0,none⟩))/\w.cell? ⟨g,1,none⟩=some (.int .i64 L.g)/\w.cell? ⟨g,2,none⟩=some (.int .i64 (L.ep:Nat))/\w.cell? ⟨g,3,none⟩=some (.int .i64 L.pg)/\w.cell? ⟨g,4,none⟩=some (.int .i64 (L.st:Nat))/\w.cell? ⟨g,5,none⟩=some (.int .i64 (L.ln:Nat)) /\
 w.cell? ⟨g,6,none⟩=some (.int .i64 (L.hd:Nat))/\w.cell? ⟨g,7,none⟩=some (.int .i64 (L.sq:Nat))/\w.cell? ⟨g,8,none⟩=some (.int .i64 (L.tail:Nat))/\w.cell? ⟨g,9,none⟩=some (.int .i64 (L.seq:Nat))/\w.cell? ⟨g,10,none⟩=some (.int .i64 (L.taken:Nat))/\w.cell? ⟨g,11,none⟩=some (.bool L.broken) :=
 ⟨af.cell h 0,af.cell h 1,af.cell h 2,af.cell h 3,af.cell h 4,af.cell h 5,af.cell h 6,af.cell h 7,af.cell h 8,af.cell h 9,af.cell h 10,af.cell h 11⟩
theorem lK.fz (h:lK w g r L) (i:Nat):w.frozen? ⟨g,i,none⟩=false:=af.frozen h i
theorem kD {n:Nat} (h:n < 9223372036854775808):IntKind.i64.wrap ((n:Nat):Int)=(n:Int):=IntWalk.i64_in _ (by omega)
theorem Qd (h:lK w g r L) (ht:L.taken<=L.ln) (hl:L.ln<=1099511627776) :
 Calls Tryz.prog 123 #[.pointer (some ⟨g,0,none⟩)] w λe w'=>e=.returned (.int .i64 (L.room:Nat))/\∃ m,w'=w.drewN m:=by
 obtain ⟨_,_,_,_,_,x5,_,_,_,_,x10,uI⟩:=h.cells
 cases hb:L.broken with
 | true =>
   rw [hb] at uI;have HR:=hid (show L.room=0 by simp [Lg.room,hb]);clear hb;go_enter Tryz.func123,Tryz.ntmps123;go_wp2;go_ret;exact ⟨by rw [HR.out]; rfl,0,rfl⟩
 | false =>
   rw [hb] at uI;have HR:=hid (show L.room=L.ln - L.taken by simp [Lg.room,hb]);have hw:IntKind.i64.wrap ((L.ln:Int) - (L.taken:Int))=((L.ln - L.taken:Nat):Int):=by rw [<-kD (n:=L.ln - L.taken) (by omega)]; congr 1; omega
   clear hb;go_enter Tryz.func123,Tryz.ntmps123;go_wp2_with fail
   go_quiet (fail)
   go_wp2;go_ret;exact ⟨by rw [HR.out,<-hw]; first | rfl | (rw [hw]; rfl),_,rfl⟩
theorem aaf (h:lK w g r L) :
 Calls Tryz.prog 124 #[.pointer (some ⟨g,0,none⟩)] w λe w'=>e=.returned (.tuple #[.int .i64 (L.tail:Nat),.int .i64 (L.seq:Nat)])/\∃ m,w'=w.drewN m:=by
 obtain ⟨_,_,_,_,_,_,_,_,x8,x9,_,_⟩:=h.cells;go_enter Tryz.func124,Tryz.ntmps124;go_wp2_with fail
 go_quiet (fail)
 go_wp2;go_ret2;exact ⟨rfl,_,rfl⟩
theorem aah (h:lK w g r L) :
 Calls Tryz.prog 125 #[.pointer (some ⟨g,0,none⟩)] w λe w'=>e=.returned (.tuple #[])/\lK w' g r L.drop/\w.grownBy w' (some g):=by
 obtain ⟨_,_,_,_,_,_,_,_,_,_,x10,uI⟩:=h.cells;have f10:=h.fz 10; have f11:=h.fz 11;have HB:=hid h;clear h;go_enter Tryz.func125,Tryz.ntmps125;go_wp2
 go_end0
 exact ⟨rfl,af.aC (af.aC HB.out 10 _) 11 _,bI (bI (akr _ _) _ _) _ _⟩
theorem yf (h:lK w g r L) (k:Nat) (hk:k<=2199023255552) (h1:1<=L.ln) (hl:L.st+L.ln<=1099511627776) :
 Calls Tryz.prog 75 #[.pointer (some ⟨g,0,none⟩),.int .i64 (k:Nat)] w λe w'=>e=.returned (.int .i64 (L.st+k % L.ln:Nat))/\∃ m,w'=w.drewN m:=by
 obtain ⟨_,_,_,_,x4,x5,_,_,_,_,_,_⟩:=h.cells;have hne:¬ ((L.ln:Int)=0):=by omega
 have hnb:((L.ln:Int) == 0)=false:=by simp; omega
 have hm:=Nat.mod_lt k (show 0 < L.ln by omega);obtain ⟨P,hP⟩:∃ P,k % L.ln=P:=⟨_,rfl⟩;rw [hP] at hm ⊢;have hv:(k:Int).tmod (L.ln:Int)=(P:Int):=by rw [<-hP,akm (by omega)]; exact (Int.natCast_emod _ _).symm
 have hv2:(k:Int) % (L.ln:Int)=(P:Int):=by rw [<-hP]; exact (Int.natCast_emod _ _).symm
 have hw1:IntKind.i64.wrap (P:Int)=(P:Int):=kD (by omega);have hw2:IntKind.i64.wrap ((L.st:Int)+(P:Int))=((L.st+P:Nat):Int):=kD (n:=L.st+P) (by omega);clear hP;go_enter Tryz.func75,Tryz.ntmps75;go_wp2_with fail
 go_quiet (fail)
 go_wp2;go_ret;exact ⟨by rw [<-hw2]; first | rfl | (rw [hw2]; rfl),_,rfl⟩
theorem BK (h:lK w g r L) (k:Nat) (hk:k<=1099511627776) (h1:1<=L.ln) (hl:L.ln<=1099511627776) (ht:L.tail<=1099511627776) (hs:L.seq<=4398046511104) (hu:L.taken<=1099511627776) :
 Calls Tryz.prog 78 #[.pointer (some ⟨g,0,none⟩),.int .i64 (k:Nat)] w λe w'=>e=.returned (.tuple #[])/\lK w' g r (L.pass k)/\w.grownBy w' (some g):=by
 obtain ⟨_,_,_,_,_,x5,_,_,x8,x9,x10,_⟩:=h.cells;have f8:=h.fz 8; have f9:=h.fz 9; have f10:=h.fz 10;have hne:¬ ((L.ln:Int)=0):=by omega
 have hnb:((L.ln:Int) == 0)=false:=by simp; omega
 obtain ⟨P,hP⟩:∃ P,(L.tail+k) % L.ln=P:=⟨_,rfl⟩;have hm:=Nat.mod_lt (L.tail+k) (show 0 < L.ln by omega);rw [hP] at hm;have hw0:IntKind.i64.wrap ((L.tail:Int)+(k:Int))=((L.tail+k:Nat):Int):=kD (n:=L.tail+k) (by omega);have hv:((L.tail+k:Nat):Int).tmod (L.ln:Int)=(P:Int):=by rw [<-hP,akm (by omega)]; exact (Int.natCast_emod _ _).symm
 have hv2:((L.tail+k:Nat):Int) % (L.ln:Int)=(P:Int):=by rw [<-hP]; exact (Int.natCast_emod _ _).symm
 have hv3:((L.tail:Int)+(k:Int)).tmod (L.ln:Int)=(P:Int):=hv;have hv4:((L.tail:Int)+(k:Int)) % (L.ln:Int)=(P:Int):=hv2;have hw1:IntKind.i64.wrap (P:Int)=(P:Int):=kD (by omega);have hw2:IntKind.i64.wrap ((L.seq:Int)+1)=((L.seq+1:Nat):Int):=kD (n:=L.seq+1) (by omega);have hw3:IntKind.i64.wrap ((L.taken:Int)+(k:Int))=((L.taken+k:Nat):Int):=kD (n:=L.taken+k) (by omega);have HE:=hid (show lgV r (L.pass k)=(((lgV r L).setIfInBounds 8 (.int .i64 (P:Int))).setIfInBounds 9 (.int .i64 ((L.seq+1:Nat):Int))).setIfInBounds 10 (.int .i64 ((L.taken+k:Nat):Int)) from by rw [<-hP]; rfl)
 have HB:=hid h;clear hP h;go_enter Tryz.func78,Tryz.ntmps78;go_wp2_with fail
 go_region
 all_goals go_wp2
 all_goals go_end0
 all_goals exact ⟨rfl,by show af _ _ _ _; rw [HE.out]; exact af.aC (af.aC (af.aC HB.out 8 _) 9 _) 10 _,by repeat (first | exact akr _ _ | apply kM | apply bI)⟩
end
end Go.Proofs.YtinajlbijgedbaaGreat.RLog
