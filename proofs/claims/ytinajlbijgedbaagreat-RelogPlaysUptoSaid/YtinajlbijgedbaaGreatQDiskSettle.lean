/- Texts of this seat's proofs: DiskSettle. -/
import Derived.Test.YtinajlbijgedbaaGreatQDiskNow
import Derived.Deep.RegionHeld3
set_option maxRecDepth 100000
set_option maxHeartbeats 16000000
namespace Go.Proofs.YtinajlbijgedbaaGreat.Dsk
open Lib (hid)
open Go.RowKit Mem Crc DiskSpec
theorem Lay.Ip {w:World} {B b bd bm:Nat} {S:St} {f:Nat->Option Value} {own:Nat->Prop} (h:Lay w B b bd bm f S own) {i:Nat} (hi:i < S.n):w.there bd (i * 256) 256:=λj hj=>by
 have:=h.room (i * 256+j) (by omega)
 rwa [Nat.zero_add] at this
theorem Lay.acD {w:World} {B b bd bm:Nat} {S:St} {f:Nat->Option Value} {own:Nat->Prop} (h:Lay w B b bd bm f S own) {i:Nat} (hi:i < S.n) (ty:TypeId) :
 ∃ w',(Builtin.delete_ #[104,3] ty #[.map (some bm),.int .i64 (i:Nat)]).run Tryz.prog w=.ok (.tuple #[]) w' /\
  Lay w' B b bd bm (λj=>if j=i then none else f j) { S with ae:=upd S.ae i [] } own/\w.grownBy w' (some bm):=by
 have htop:=h.ok.top;obtain ⟨w',hrun,hm,hg⟩:=h.map.drop (t:=104) (E:=103) Tryz.underlying3 Tryz.underlying104 i (by omega) ty;exact ⟨w',hrun,h.drop i hg hm,hg⟩
theorem yT {w:World} {B b bd bm:Nat} {S:St} {f:Nat->Option Value} {own:Nat->Prop} (h:Lay w B b bd bm f S own) (i:Nat) (hi:i < S.n) :
 Calls Tryz.prog 93 #[.pointer (some ⟨b,0,none⟩),.int .i64 (i:Nat)] w λe w'=>e=.returned (.tuple #[])/\(∃ f',Lay w' B b bd bm f' (S.settle i) own)/\aa w w' own own:=by
 have htop:=h.ok.top;have fF:=S.jU h.ok i;have Cn:∀ wx,w.grownBy wx none->Calls Tryz.prog 130 #[.pointer (some ⟨b,0,none⟩),.int .i64 (i:Nat)] wx λe w'=>e=.returned (.agg (au (S.now i)).toArray)/\wx.grownBy w' none:=λwx hg =>
  NJ (h.grown hg (λ_ e=>by cases e)) i hi
 have hkeep:∀ wx,w.grownBy wx none->wx.cell? ⟨b,0,none⟩=some (.slice (some ⟨bd,0,none⟩) S.n S.n)/\wx.there bd (i * 256) 256:=λwx hg=>by
  have h1:=h.grown hg (λ_ e=>by cases e);exact ⟨h1.c0,h1.Ip hi⟩
 have hend:∀ wx,w.grownBy wx none->Lay (wx.setCells bd (i * 256) (au (S.now i))) B b bd bm f { S with ag:=upd S.ag i (S.now i) } own/\aa w (wx.setCells bd (i * 256) (au (S.now i))) own own:=λwx hg=>by
  have h1:=(h.grown hg (λ_ e=>by cases e)).Uj hi fF;rw [Nat.mul_comm] at h1;exact ⟨h1,(aa.none_ hg).trans (.aA (jV bd _ _ wx) (λj e=>by cases e; exact h.jL))⟩
 have HI:(Tryz.prog.info? 141).map (·.size)=some (au (S.now i)).length:=by rw [aB,fF.1]; exact Dx
 have HL:(au (S.now i)).length=256:=by rw [aB,fF.1]
 have HO:=fO (S.now i);have TA:=hid Cn; have av:=hid hkeep; have jE:=hid hend;have HD0:=hid (ah w none);have Vy:∀ wx,w.grownBy wx none->(wx.setCells bd (i * 256) (au (S.now i))).cell? ⟨b,0,none⟩=some (.slice (some ⟨bd,0,none⟩) S.n S.n)/\(wx.setCells bd (i * 256) (au (S.now i))).there bd (i * 256) 256:=λwx hg=>by
  have h1:=(jE.out wx hg).1;exact ⟨h1.c0,h1.Ip hi⟩
 have WN:=hid Vy;have ai7:=h.c0;clear Cn hkeep hend Vy fF h;generalize hx:au (S.now i)=x at *;clear hx;generalize hT:({ S with ag:=upd S.ag i (S.now i) }:St)=T at *;have Hr:=hid (show T.n=S.n by rw [<-hT]);have HS:=hid (show { T with ae:=upd T.ae i [] }=S.settle i by rw [<-hT]; rfl);clear hT;generalize S.n=n at *;go_enter Tryz.func93,Tryz.ntmps93;go_wp2_with fail
 go_region_held3 (λwx=>wx.cell? ⟨b,0,none⟩=some (.slice (some ⟨bd,0,none⟩) n n)/\wx.there bd (i * 256) 256)
  (first
    | exact av.out _ HD0.out
    | exact av.out _ ZV.out
    | exact WN.out _ ZV.out)
  (first
    | (go_at_call 130
       refine (TA.out _ HD0.out).mono ?_;rintro e w1 ⟨rfl,hg⟩;have ZV:=hid (HD0.out.trans hg);clear hg))
 obtain ⟨h2,ht2⟩:=jE.out _ ZV.out;have hiT:i < T.n:=by rw [Hr.out]; exact hi
 obtain ⟨w3,hrun,h3,hg3⟩:=h2.acD hiT 0;have hc1:=h2.c1;rw [HS.out] at h3;have HT2:=hid (ht2.trans (.aA hg3 (λj e=>by cases e; exact h2.lq)));have H3:=hid h3;clear h3 hg3 ht2 h2 jE av WN TA ZV HD0 HS;generalize w1.setCells bd (i * 256) x=w2 at *;go_wp2
 go_end0
 exact ⟨rfl,⟨_,H3.out⟩,HT2.out⟩
end Go.Proofs.YtinajlbijgedbaaGreat.Dsk
