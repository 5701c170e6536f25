/- Texts of this seat's proofs: CodecSpec, SupSpec, CodecSpec2, CodecSpec3, LogSpec, StoSpec, LogFindSpec, LogFindOk, SupPlain, LogPut, LogChain, LogCrash, LogRing, StoLow, RefStoSpec. -/
import Derived.Test.YtinajlbijgedbaaGreatQCrcMath
import Derived.RowKit
namespace Go.Proofs.YtinajlbijgedbaaGreat.Codec
open Go.RowKit CrcMath CodecMath
def dA (n m:Int):Bool:=decide (0<=n) && decide (n<=m)
theorem gH {n m:Int} (h:dA n m=true):0<=n/\n<=m:=by simpa [dA] using h
theorem M5 {n m:Int} (h:dA n m=false):¬ (0<=n/\n<=m):=by intro hh; rw [dA] at h; simp [hh.1,hh.2] at h
theorem uN {n m:Int} (h:0<=n/\n<=m):dA n m=true:=by simp [dA,h.1,h.2]
theorem Qq {n m:Int} (h:¬ (0<=n/\n<=m)):dA n m=false:=by
 cases hb:dA n m with
 | false=>rfl
 | true=>exact absurd (gH hb) h
theorem Jl {n:Nat} (h:n<=9223372036854775807):wrap64 (n:Int)=n:=by unfold wrap64; omega
theorem lD (l:List Nat):∃ q,frame l=l ++ q:=⟨List.replicate (252 - l.length) 0 ++ rZ (M 0 (fill l 252)),by simp [frame,fill]⟩
theorem MH (pre post:List Nat) (s:List Int) (k i:Nat) (hi:i < s.length) (h:(s.getD i 0).toNat < 256 ^ k) :
 num (pre ++ s.flatMap (λn=>be k n.toNat) ++ post) (pre.length+k * i) k=(s.getD i 0).toNat:=by
 have hs:s=s.take i ++ ([s.getD i 0] ++ s.drop (i+1)):=by
  rw [List.getD_eq_getElem?_getD,List.getElem?_eq_getElem hi]
  simp
 have hl:(pre ++ (s.take i).flatMap (λn=>be k n.toNat)).length=pre.length+k * i:=by
  have:∀ t:List Int,(t.flatMap λn=>be k n.toNat).length=k * t.length:=by
   intro t
   induction t with
   | nil=>rfl
   | cons a t ih=>simp only [List.flatMap_cons,List.length_append,aY,ih,List.length_cons]; rw [Nat.mul_add]; omega
  rw [List.length_append,this,List.length_take,Nat.min_eq_left (by omega)]
 have e:pre ++ s.flatMap (λn=>be k n.toNat) ++ post=(pre ++ (s.take i).flatMap λn=>be k n.toNat) ++ (be k (s.getD i 0).toNat ++ ((s.drop (i+1)).flatMap (λn=>be k n.toNat) ++ post)):=by
  conv=>lhs; rw [hs]
  simp
 rw [e,<-hl,IK _ _ _ _ h]
def eX (s:List Int):Bool:=s.all λn=>dA n 1099511627776
def aX (s:List Int):List Nat:=[80,83,85,80] ++ s.flatMap λn=>be 8 n.toNat
def eB (s:List Int):Option (List Nat):=if eX s then some (frame (aX s)) else none
theorem AA (k:Nat) (s:List Int):(s.flatMap λn=>be k n.toNat).length=k * s.length:=by
 induction s with
 | nil=>rfl
 | cons a s ih=>simp only [List.flatMap_cons,List.length_append,aY,ih,List.length_cons]; rw [Nat.mul_add]; omega
theorem QA (k:Nat) (s:List Int):∀ x∈s.flatMap (λn=>be k n.toNat),x < 256:=by
 intro x hx;obtain ⟨n,_,hn⟩:=List.mem_flatMap.1 hx;exact sJ k _ x hn
theorem xW (s:List Int):∀ x∈aX s,x < 256:=by
 intro x hx;rcases List.mem_append.1 hx with hx | hx
 · simp at hx; omega
 · exact QA 8 s x hx
theorem mr (s:List Int) (h:s.length=7):(aX s).length=60:=by rw [aX,List.length_append,AA,h]; rfl
theorem Jp (s:List Int) (j:Nat) (hj:j < s.length) (h:dA (s.getD j 0) 1099511627776=false):eB s=none:=by
 have hm:s.getD j 0∈s:=by rw [List.getD_eq_getElem?_getD,List.getElem?_eq_getElem hj]; exact List.getElem_mem hj
 have:eX s=false:=by
  rw [eX,List.all_eq_false];exact ⟨_,hm,by rw [h]; simp⟩
 simp [eB,this]
theorem FV (s:List Int) (n:Nat) (hn:s.length=n) (h:∀ j,j < n->dA (s.getD j 0) 1099511627776=true):eB s=some (frame (aX s)):=by
 have:eX s=true:=by
  rw [eX,List.all_eq_true];intro x hx;obtain ⟨i,hi,rfl⟩:=List.getElem_of_mem hx;have:=h i (by omega)
  simpa [List.getD_eq_getElem?_getD,hi] using this
 simp [eB,this]
theorem xV (s:List Int) (k j:Nat) (hj:j < s.length):(s.take (j+1)).flatMap (λn=>be k n.toNat)=(s.take j).flatMap (λn=>be k n.toNat) ++ be k (s.getD j 0).toNat:=by
 rw [List.take_succ_eq_append_getElem hj,List.flatMap_append]
 simp [List.getD_eq_getElem?_getD,hj]
def qc (l:List Nat):List Int:=[wrap64 (num l 4 8),wrap64 (num l 12 8),wrap64 (num l 20 8),wrap64 (num l 28 8),wrap64 (num l 36 8),wrap64 (num l 44 8),wrap64 (num l 52 8)]
def dK (l:List Nat):Option (List Int):=if eB (qc l)=some l then some (qc l) else none
theorem um {s:List Int} {l:List Nat} (h:eB s=some l):l=frame (aX s)/\∀ j,j < s.length->0<=s.getD j 0/\s.getD j 0<=1099511627776:=by
 unfold eB at h
 split at h
 · rename_i hok
   refine ⟨by injection h with h; exact h.symm,λj hj=>gH (List.all_eq_true.1 hok _ ?_)⟩;rw [List.getD_eq_getElem?_getD,List.getElem?_eq_getElem hj];exact List.getElem_mem hj
 · cases h
theorem TZ {s:List Int} {l:List Nat} (hs:s.length=7) (h:eB s=some l):qc l=s:=by
 obtain ⟨hl,hb⟩:=um h;obtain ⟨q,hq⟩:=lD (aX s);rw [hq] at hl;clear hq h;have hn:∀ i,i < 7->wrap64 (num l (4+8 * i) 8:Nat)=s.getD i 0:=by
  intro i hi;have hbi:=hb i (by omega);have h1:=MH [80,83,85,80] q s 8 i (by omega) (by omega);rw [hl];unfold aX;rw [show 4+8 * i=([80,83,85,80]:List Nat).length+8 * i from rfl,h1,Jl (by omega)];omega
 clear hl hb;have h0:wrap64 (num l 4 8:Nat)=s.getD 0 0:=hn 0 (by omega);have h1:wrap64 (num l 12 8:Nat)=s.getD 1 0:=hn 1 (by omega);have h2:wrap64 (num l 20 8:Nat)=s.getD 2 0:=hn 2 (by omega);have h3:wrap64 (num l 28 8:Nat)=s.getD 3 0:=hn 3 (by omega);have h4:wrap64 (num l 36 8:Nat)=s.getD 4 0:=hn 4 (by omega);have h5:wrap64 (num l 44 8:Nat)=s.getD 5 0:=hn 5 (by omega);have h6:wrap64 (num l 52 8:Nat)=s.getD 6 0:=hn 6 (by omega)
 clear hn;unfold qc;rw [h0,h1,h2,h3,h4,h5,h6];clear h0 h1 h2 h3 h4 h5 h6
 match s,hs with
 | [a0,a1,a2,a3,a4,a5,a6],_=>rfl
theorem BC {s:List Int} {l:List Nat} (hs:s.length=7) (h:eB s=some l):dK l=some s:=by
 have e:=TZ hs h;rw [dK,e,if_pos h]
theorem nz {s:List Int} {l:List Nat} (h:dK l=some s):eB s=some l/\s.length=7:=by
 unfold dK at h
 split at h
 · injection h with h
   subst h;exact ⟨by assumption,rfl⟩
 · cases h
theorem DR (l:List Nat) (h:l.length≠256):dK l=none:=by
 cases hr:dK l with
 | none=>rfl
 | some s =>
   obtain ⟨h1,h2⟩:=nz hr;obtain ⟨rfl,_⟩:=um h1;exact absurd (cz _ (by rw [mr s h2]; omega)) h
theorem vX {s:List Int} {l:List Nat} (hs:s.length=7) (h:eB s=some l):l.length=256:=by
 obtain ⟨rfl,_⟩:=um h;exact cz _ (by rw [mr s hs]; omega)
end Go.Proofs.YtinajlbijgedbaaGreat.Codec
namespace Go.Proofs.YtinajlbijgedbaaGreat.Sup
open Go.RowKit CrcMath CodecMath Codec DiskSpec Dsk
def jg (s:List Int) (n:Int):Bool :=
 decide (16<=s.getD 2 0) && (decide (s.getD 2 0<=1024) && (decide (2+s.getD 2 0<=s.getD 3 0) && (decide (64<=s.getD 4 0) && (decide (s.getD 3 0+s.getD 4 0<=n) && decide (s.getD 5 0 < s.getD 4 0)))))
def aL (s:List Int) (n:Int):Bool:=eX s && jg s n
def dY (s:List Int) (n:Int):Int:=if aL s n then 0 else 1
theorem BD {s:List Int} (h:eB s=none):eX s=false:=by
 cases hh:eX s with
 | false=>rfl
 | true=>simp [eB,hh] at h
theorem FY (s:List Int) (j:Nat) (hj:j < s.length) (h:dA (s.getD j 0) 1099511627776=false):eX s=false:=BD (Jp s j hj h)
theorem DT (s:List Int) (n:Nat) (hn:s.length=n) (h:∀ j,j < n->dA (s.getD j 0) 1099511627776=true):eX s=true:=by
 cases hh:eX s with
 | true=>rfl
 | false=>have:=FV s n hn h; simp [eB,hh] at this
theorem aV {s:List Int} (h:eX s=true) (j:Nat) (hj:j < s.length):0<=s.getD j 0/\s.getD j 0<=1099511627776:=by
 rw [eX,List.all_eq_true] at h;have:=h (s.getD j 0) (by rw [List.getD_eq_getElem?_getD,List.getElem?_eq_getElem hj]; exact List.getElem_mem hj);exact gH this
theorem iR {s:List Int} {n:Int} (h:aL s n=true):eX s=true:=by
 unfold aL at h
 cases hh:eX s with
 | true=>rfl
 | false=>simp [hh] at h
theorem kI {s:List Int} {n:Int} (h:aL s n=true):eB s=some (frame (aX s)):=by simp [eB,iR h]
def gen (s:List Int):Int:=s.getD 0 0
def ay (S:St) (s:List Int):Int × St:=if aL s S.n then aF S true ((gen s).tmod 2) (frame (aX s)) else (1,S)
def jX (n:Int) (i:Int) (s:List Int):Bool:=aL s n && decide ((gen s).tmod 2=i)
def sound (n:Int) (i:Int) (l:List Nat):Option (List Int):=(dK l).filter (jX n i)
theorem nT (n:Int) (i:Int) (l:List Nat):sound n i l=(dK l).filter (jX n i):=rfl
def newer (a b:Option (List Int)):Option (List Int) :=
 match a,b with
 | a,none=>a
 | none,some s=>some s
 | some u,some s=>if gen u < gen s then some s else some u
def mW (n:Int) (l0 l1:List Nat):Option (List Int):=newer (sound n 0 l0) (sound n 1 l1)
def jm:List Int:=[0,0,0,0,0,0,0]
def mH (S:St):St:=(aH (aH S 0 1).2 1 1).2
def gP (S:St):Int :=
 if S.n < 2 then 1 else if (aH S 0 1).1≠0\/(aH (aH S 0 1).2 1 1).1≠0 then 10
 else if (mW S.n (dz S 0 1) (dz (aH S 0 1).2 1 1)).isSome then 0 else 14
def iX (S:St):List Int :=
 if S.n < 2 then jm else if (aH S 0 1).1≠0\/(aH (aH S 0 1).2 1 1).1≠0 then jm
 else (mW S.n (dz S 0 1) (dz (aH S 0 1).2 1 1)).getD jm
def loadT (S:St):St:=if S.n < 2 then S else mH S
theorem O3 {n i:Int} {s:List Int} (h:jX n i s=true):aL s n=true/\(gen s).tmod 2=i:=by
 rw [jX,Bool.and_eq_true,decide_eq_true_eq] at h;exact h
theorem Jw {n i:Int} {l:List Nat} {s:List Int} (h:sound n i l=some s):s.length=7/\eB s=some l/\aL s n=true/\(gen s).tmod 2=i:=by
 rw [nT,Option.filter_eq_some_iff] at h;obtain ⟨h1,h2⟩:=h;obtain ⟨h3,h4⟩:=nz h1;obtain ⟨h5,h6⟩:=O3 h2;exact ⟨h4,h3,h5,h6⟩
theorem Fg {n i:Int} {s:List Int} (hl:s.length=7) (h:aL s n=true) (hi:(gen s).tmod 2=i):sound n i (frame (aX s))=some s:=by
 rw [nT,Option.filter_eq_some_iff];refine ⟨BC hl (kI h),?_⟩;rw [jX,h,hi]
 simp
theorem LM {n i:Int} {l:List Nat} (h:dK l=none):sound n i l=none:=by rw [nT,h]; rfl
theorem Jv {n i:Int} {l:List Nat} {s:List Int} (h:dK l=some s):sound n i l=if jX n i s then some s else none:=by
 rw [nT,h]
 rfl
end Go.Proofs.YtinajlbijgedbaaGreat.Sup
namespace Go.Proofs.YtinajlbijgedbaaGreat.Codec
open Go.RowKit CrcMath CodecMath
theorem wO (p q l:List Nat) (a k:Nat) (n:Int) (hl:l=p ++ (be k n.toNat ++ q)) (ha:p.length=a) (h0:0<=n) (h:n.toNat < 256 ^ k):(num l a k:Int)=n:=by
 subst ha;rw [hl,IK _ _ _ _ h];omega
def bA (number kind:Int) (body:List Nat):Bool:=decide (1<=kind) && decide (kind<=5) && dA number 1023 && decide (body.length=240) && body.all λx=>decide (x < 256)
def cZ (number kind:Int) (body:List Nat):List Nat:=[80,80,65,71] ++ (be 1 kind.toNat ++ (be 4 number.toNat ++ ([0,0,0] ++ body)))
def ed (number kind:Int) (body:List Nat):Option (List Nat):=if bA number kind body then some (frame (cZ number kind body)) else none
theorem dQ {number kind:Int} {body:List Nat} (h:bA number kind body=true):(1<=kind/\kind<=5)/\(0<=number/\number<=1023)/\body.length=240/\∀ x∈body,x < 256:=by
 simp only [bA,Bool.and_eq_true,decide_eq_true_eq,List.all_eq_true] at h;exact ⟨h.1.1.1,gH h.1.1.2,h.1.2,h.2⟩
theorem JN {number kind:Int} {body:List Nat} (h:(1<=kind/\kind<=5)/\(0<=number/\number<=1023)/\body.length=240/\∀ x∈body,x < 256):bA number kind body=true:=by
 simp only [bA,Bool.and_eq_true,decide_eq_true_eq,List.all_eq_true];exact ⟨⟨⟨h.1,uN h.2.1⟩,h.2.2.1⟩,h.2.2.2⟩
theorem uM (number kind:Int) (body:List Nat) (h:body.length=240):(cZ number kind body).length=252:=by simp [cZ,aY,h]
theorem wY (number kind:Int) (body:List Nat) (h:∀ x∈body,x < 256):∀ x∈cZ number kind body,x < 256:=by
 intro x hx;simp only [cZ,List.mem_append] at hx;rcases hx with hx | hx | hx | hx | hx
 · simp at hx; omega
 · exact sJ _ _ x hx
 · exact sJ _ _ x hx
 · simp at hx; omega
 · exact h x hx
theorem RD {number kind:Int} {body l:List Nat} (h:ed number kind body=some l):l=frame (cZ number kind body)/\bA number kind body=true:=by
 unfold ed at h
 split at h
 · rename_i hok
   exact ⟨by injection h with h; exact h.symm,hok⟩
 · cases h
def fq (l:List Nat):List Nat:=(l.drop 12).take 240
def lV (ak seq number kind:Int) (body:List Nat):Bool:=bA number kind body && dA ak 4294967295 && dA seq 1099511627775
def fE (ak seq number kind:Int) (body:List Nat):List Nat:=be 1 kind.toNat ++ (be 2 number.toNat ++ (be 4 ak.toNat ++ (be 5 seq.toNat ++ body)))
def dW (ak seq number kind:Int) (body:List Nat):Option (List Nat):=if lV ak seq number kind body then some (frame (fE ak seq number kind body)) else none
theorem r9 (ak seq number kind:Int) (body:List Nat) (h:body.length=240):(fE ak seq number kind body).length=252:=by simp [fE,aY,h]
theorem uQ (ak seq number kind:Int) (body:List Nat) (h:∀ x∈body,x < 256):∀ x∈fE ak seq number kind body,x < 256:=by
 intro x hx;simp only [fE,List.mem_append] at hx;rcases hx with hx | hx | hx | hx | hx
 · exact sJ _ _ x hx
 · exact sJ _ _ x hx
 · exact sJ _ _ x hx
 · exact sJ _ _ x hx
 · exact h x hx
theorem qd {ak seq number kind:Int} {body l:List Nat} (h:dW ak seq number kind body=some l):l=frame (fE ak seq number kind body)/\bA number kind body=true/\(0<=ak/\ak<=4294967295)/\(0<=seq/\seq<=1099511627775):=by
 unfold dW at h
 split at h
 · rename_i hok
   simp only [lV,Bool.and_eq_true] at hok;exact ⟨by injection h with h; exact h.symm,hok.1.1,gH hok.1.2,gH hok.2⟩
 · cases h
theorem GD {ak seq number kind:Int} {body l:List Nat} (h:dW ak seq number kind body=some l):l.length=256:=by
 obtain ⟨rfl,hok,_⟩:=qd h;exact cz _ (by rw [r9 _ _ _ _ _ (dQ hok).2.2.1]; omega)
theorem Cj {ak seq number kind:Int} {body l:List Nat} (h:dW ak seq number kind body=some l):(num l 0 1:Int)=kind/\(num l 1 2:Int)=number/\(num l 3 4:Int)=ak/\(num l 7 5:Int)=seq/\fq l=body:=by
 obtain ⟨hl,hok,he,hs⟩:=qd h;obtain ⟨⟨k1,k2⟩,⟨n1,n2⟩,hb,_⟩:=dQ hok;obtain ⟨q,hq⟩:=lD (fE ak seq number kind body);rw [hq] at hl;clear hq h;refine ⟨?_,?_,?_,?_,?_⟩
 · exact wO [] (be 2 number.toNat ++ (be 4 ak.toNat ++ (be 5 seq.toNat ++ body)) ++ q) l 0 1 kind (by rw [hl,fE]; simp) rfl (by omega) (by omega)
 · exact wO (be 1 kind.toNat) (be 4 ak.toNat ++ (be 5 seq.toNat ++ body) ++ q) l 1 2 number (by rw [hl,fE]; simp) (by simp [aY]) (by omega) (by omega)
 · exact wO (be 1 kind.toNat ++ be 2 number.toNat) (be 5 seq.toNat ++ body ++ q) l 3 4 ak (by rw [hl,fE]; simp) (by simp [aY]) (by omega) (by omega)
 · exact wO (be 1 kind.toNat ++ (be 2 number.toNat ++ be 4 ak.toNat)) (body ++ q) l 7 5 seq (by rw [hl,fE]; simp) (by simp [aY]) (by omega) (by omega)
 · rw [hl,fE,fq];have e:be 1 kind.toNat ++ (be 2 number.toNat ++ (be 4 ak.toNat ++ (be 5 seq.toNat ++ body))) ++ q=(be 1 kind.toNat ++ (be 2 number.toNat ++ (be 4 ak.toNat ++ be 5 seq.toNat))) ++ (body ++ q):=by simp
   rw [e,List.drop_append_of_le_length (by simp [aY]),List.drop_of_length_le (by simp [aY]),List.nil_append,<-hb,List.take_left]
def fe (l:List Nat):Option (Int × Int × Int × Int × List Nat) :=
 if dW (num l 3 4) (num l 7 5) (num l 1 2) (num l 0 1) (fq l)=some l then some ((num l 3 4:Int),(num l 7 5:Int),(num l 1 2:Int),(num l 0 1:Int),fq l) else none
theorem J6 {ak seq number kind:Int} {body l:List Nat} (h:dW ak seq number kind body=some l):fe l=some (ak,seq,number,kind,body):=by
 obtain ⟨h1,h2,h3,h4,h5⟩:=Cj h;rw [fe,h1,h2,h3,h4,h5,if_pos h]
theorem PH (l:List Nat) (h:l.length≠256):fe l=none:=by
 rw [fe,if_neg (λe=>h (GD e))]
def qL (s:List Int) (m:Int):Bool:=s.all λn=>dA n m
theorem FL {s:List Int} {m:Int} (h:qL s m=true) (j:Nat) (hj:j < s.length):0<=s.getD j 0/\s.getD j 0<=m:=by
 refine gH (List.all_eq_true.1 h _ ?_);rw [List.getD_eq_getElem?_getD,List.getElem?_eq_getElem hj];exact List.getElem_mem hj
theorem QH {s:List Int} {m:Int} (n:Nat) (hn:s.length=n) (h:∀ j,j < n->dA (s.getD j 0) m=true):qL s m=true:=by
 rw [qL,List.all_eq_true];intro x hx;obtain ⟨i,hi,rfl⟩:=List.getElem_of_mem hx;have:=h i (by omega)
 simpa [List.getD_eq_getElem?_getD,hi] using this
theorem QG {s:List Int} {m:Int} (j:Nat) (hj:j < s.length) (h:dA (s.getD j 0) m=false):qL s m=false:=by
 have hm:s.getD j 0∈s:=by rw [List.getD_eq_getElem?_getD,List.getElem?_eq_getElem hj]; exact List.getElem_mem hj
 rw [qL,List.all_eq_false];exact ⟨_,hm,by rw [h]; simp⟩
def eY (l:List Nat) (a step k n:Nat):List Int:=(List.range n).map λi=>(num l (a+step * i) k:Int)
theorem iW (l:List Nat) (a step k n:Nat):(eY l a step k n).length=n:=by simp [eY]
theorem Eh (l:List Nat) (a step k n:Nat):eY l a step k (n+1)=eY l a step k n ++ [(num l (a+step * n) k:Int)]:=by simp [eY,List.range_succ]
theorem Pq (pre post l:List Nat) (s:List Int) (k:Nat) (hl:l=pre ++ s.flatMap (λn=>be k n.toNat) ++ post) (hb:∀ j,j < s.length->0<=s.getD j 0/\(s.getD j 0).toNat < 256 ^ k) :
 eY l pre.length k k s.length=s:=by
 apply List.ext_getElem (by rw [iW])
 intro i h1 h2;rw [iW] at h1;simp only [eY,List.getElem_map,List.getElem_range];have hb':=hb i h1;rw [hl,MH pre post s k i h1 hb'.2];have:s.getD i 0=s[i]:=by simp [List.getD_eq_getElem?_getD,h2]
 rw [<-this];omega
theorem MF (p q l:List Nat) (a k n:Nat) (hl:l=p ++ (be k n ++ q)) (ha:p.length=a) (h:n < 256 ^ k):num l a k=n:=by
 subst ha;rw [hl,IK _ _ _ _ h]
def mV (ak seq:Int) (pages:List Int):Bool:=dA ak 1099511627776 && dA seq 1099511627776 && (decide (1<=pages.length) && decide (pages.length<=40)) && qL pages 1023
def mJ (ak seq:Int) (pages:List Int) (sum:Nat):List Nat:=[80,76,79,71] ++ (be 8 ak.toNat ++ (be 8 seq.toNat ++ (be 4 sum ++ be 2 pages.length)))
def jh (ak seq:Int) (pages:List Int) (sum:Nat):List Nat:=mJ ak seq pages sum ++ pages.flatMap λn=>be 4 n.toNat
def headW (ak seq:Int) (pages:List Int) (sum:Nat):Option (List Nat):=if mV ak seq pages then some (frame (jh ak seq pages sum)) else none
theorem Cs (ak seq:Int) (pages:List Int) (sum:Nat):(mJ ak seq pages sum).length=26:=by simp [mJ,aY]
theorem uT (ak seq:Int) (pages:List Int) (sum:Nat):(jh ak seq pages sum).length=26+4 * pages.length:=by rw [jh,List.length_append,Cs,AA]
theorem xz (ak seq:Int) (pages:List Int) (sum:Nat):∀ x∈jh ak seq pages sum,x < 256:=by
 intro x hx;simp only [jh,mJ,List.mem_append] at hx;rcases hx with (hx | hx | hx | hx | hx) | hx
 · simp at hx; omega
 · exact sJ _ _ x hx
 · exact sJ _ _ x hx
 · exact sJ _ _ x hx
 · exact sJ _ _ x hx
 · exact QA 4 pages x hx
theorem iM {ak seq:Int} {pages:List Int} (h:mV ak seq pages=true):(0<=ak/\ak<=1099511627776)/\(0<=seq/\seq<=1099511627776)/\1<=pages.length/\pages.length<=40/\qL pages 1023=true:=by
 simp only [mV,Bool.and_eq_true,decide_eq_true_eq] at h;exact ⟨gH h.1.1.1,gH h.1.1.2,h.1.2.1,h.1.2.2,h.2⟩
theorem kR {ak seq:Int} {pages:List Int} {sum:Nat} {l:List Nat} (h:headW ak seq pages sum=some l):l=frame (jh ak seq pages sum)/\mV ak seq pages=true:=by
 unfold headW at h
 split at h
 · rename_i hok
   exact ⟨by injection h with h; exact h.symm,hok⟩
 · cases h
theorem VG {ak seq:Int} {pages:List Int} {sum:Nat} {l:List Nat} (h:headW ak seq pages sum=some l):l.length=256:=by
 obtain ⟨rfl,hok⟩:=kR h;obtain ⟨_,_,_,h4,_⟩:=iM hok;exact cz _ (by rw [uT]; omega)
theorem Eu {ak seq:Int} {pages:List Int} {sum:Nat} {l:List Nat} (hsum:sum < 4294967296) (h:headW ak seq pages sum=some l) :
 wrap64 (num l 4 8:Nat)=ak/\wrap64 (num l 12 8:Nat)=seq/\num l 20 4=sum/\num l 24 2=pages.length/\eY l 26 4 4 pages.length=pages:=by
 obtain ⟨hl,hok⟩:=kR h;obtain ⟨⟨e1,e2⟩,⟨s1,s2⟩,n1,n2,hb⟩:=iM hok;obtain ⟨q,hq⟩:=lD (jh ak seq pages sum);rw [hq] at hl;clear hq h;refine ⟨?_,?_,?_,?_,?_⟩
 · have:=wO [80,76,79,71] (be 8 seq.toNat ++ (be 4 sum ++ be 2 pages.length) ++ pages.flatMap (λn=>be 4 n.toNat) ++ q) l 4 8 ak (by rw [hl,jh,mJ]; simp) rfl (by omega) (by omega);rw [this]; unfold wrap64; omega
 · have:=wO ([80,76,79,71] ++ be 8 ak.toNat) ((be 4 sum ++ be 2 pages.length) ++ pages.flatMap (λn=>be 4 n.toNat) ++ q) l 12 8 seq (by rw [hl,jh,mJ]; simp) (by simp [aY]) (by omega) (by omega);rw [this]; unfold wrap64; omega
 · exact MF ([80,76,79,71] ++ (be 8 ak.toNat ++ be 8 seq.toNat)) (be 2 pages.length ++ pages.flatMap (λn=>be 4 n.toNat) ++ q) l 20 4 sum (by rw [hl,jh,mJ]; simp) (by simp [aY]) (by omega)
 · exact MF ([80,76,79,71] ++ (be 8 ak.toNat ++ (be 8 seq.toNat ++ be 4 sum))) (pages.flatMap (λn=>be 4 n.toNat) ++ q) l 24 2 pages.length (by rw [hl,jh,mJ]; simp) (by simp [aY]) (by omega)
 · have:=Pq (mJ ak seq pages sum) q l pages 4 (by rw [hl,jh]) (λj hj=>by have:=FL hb j hj; exact ⟨this.1,by omega⟩)
   rwa [Cs] at this
def eU (l:List Nat):Option (Int × Int × List Int × Nat) :=
 if headW (wrap64 (num l 4 8:Nat)) (wrap64 (num l 12 8:Nat)) (eY l 26 4 4 (min (num l 24 2) 40)) (num l 20 4)=some l then some (wrap64 (num l 4 8:Nat),wrap64 (num l 12 8:Nat),eY l 26 4 4 (min (num l 24 2) 40),num l 20 4) else none
theorem Nu {ak seq:Int} {pages:List Int} {sum:Nat} {l:List Nat} (hsum:sum < 4294967296) (h:headW ak seq pages sum=some l):eU l=some (ak,seq,pages,sum):=by
 obtain ⟨h1,h2,h3,h4,h5⟩:=Eu hsum h;obtain ⟨_,_,_,n2,_⟩:=iM (kR h).2;rw [eU,h1,h2,h3,h4,Nat.min_eq_left n2,h5,if_pos h]
theorem Sr (l:List Nat) (h:l.length≠256):eU l=none:=by rw [eU,if_neg (λe=>h (VG e))]
end Go.Proofs.YtinajlbijgedbaaGreat.Codec
namespace Go.Proofs.YtinajlbijgedbaaGreat.Log
open Go.RowKit CrcMath CodecMath Codec DiskSpec Dsk Sup
abbrev ax:=Int × Int × List Nat
abbrev Rec:=Int × List ax
structure Lg where
 g:Int
 ep:Nat
 pg:Int
 st:Nat
 ln:Nat
 hd:Nat
 sq:Nat
 tail:Nat
 seq:Nat
 taken:Nat
 broken:Bool
structure Lg.ok (L:Lg) (n:Nat):Prop where
 fit:L.st+L.ln<=n
 low:1<=L.ln
 tail:L.tail < L.ln
 taken:L.taken<=L.ln
 ep:L.ep<=1099511627776
 seq:L.seq<=2199023255552
def Lg.new (g:Int) (ep:Nat) (pg:Int) (st ln hd sq:Nat):Lg:=⟨g,ep,pg,st,ln,hd,sq,hd,sq,0,false⟩
def Lg.room (L:Lg):Nat:=if L.broken then 0 else L.ln - L.taken
def Lg.pass (L:Lg) (k:Nat):Lg:={ L with tail:=(L.tail+k) % L.ln,taken:=L.taken+k,seq:=L.seq+1 }
def Lg.drop (L:Lg):Lg:={ L with taken:=0,broken:=false }
def Lg.fail (L:Lg):Lg:={ L with seq:=L.seq+1,broken:=true }
def bU (x:ax):Bool:=bA x.1 x.2.1 x.2.2
def eF:List Int->List ax->Bool
 | _,[]=>true
 | seen,x :: r=>bU x && (!seen.contains x.1 && eF (x.1 :: seen) r)
def iZ (l:List ax) (j:Nat):List Int:=((l.take j).map (·.1)).reverse
theorem DX (l:List ax) {j:Nat} {x:ax} (h:l[j]?=some x):iZ l (j+1)=x.1 :: iZ l j:=by
 unfold iZ;rw [List.take_add_one,h]
 simp
theorem JV (l:List ax) {j:Nat} {x:ax} (h:l[j]?=some x):eF (iZ l j) (l.drop j)=(bU x && (!(iZ l j).contains x.1 && eF (iZ l (j+1)) (l.drop (j+1)))):=by
 have hj:j < l.length:=(List.getElem?_eq_some_iff.1 h).1;have e:l.drop j=x :: l.drop (j+1):=by
  rw [List.drop_eq_getElem_cons hj]
  congr 1
  exact (List.getElem?_eq_some_iff.1 h).2
 rw [e,eF,DX l h]
theorem MM (l:List ax):eF (iZ l l.length) (l.drop l.length)=true:=by rw [List.drop_length]; rfl
theorem wP:∀ {l:List ax} {seen:List Int},eF seen l=true->∀ x∈l,bU x=true
 | [],_,_=>by simp
 | y :: r,seen,h=>by
   rw [eF,Bool.and_eq_true,Bool.and_eq_true] at h;intro x hx;rcases List.mem_cons.1 hx with rfl | hx
   · exact h.1
   · exact wP h.2.2 x hx
theorem eO {x:ax} (h:bU x=true):(1<=x.2.1/\x.2.1<=5)/\(0<=x.1/\x.1<=1023)/\x.2.2.length=240/\∀ y∈x.2.2,y < 256:=dQ h
def lu (ep sq:Int) (x:ax):List Nat:=frame (fE ep sq x.1 x.2.1 x.2.2)
def eT (ep sq:Int) (l:List ax):List Nat:=l.flatMap (lu ep sq)
def oo (l:List ax):List Int:=l.map (·.1)
def wC (ep sq:Int) (l:List ax):List Nat:=frame (jh ep sq (oo l) (M 0 (eT ep sq l)))
def bR (ep sq:Int) (l:List ax):List Nat:=wC ep sq l ++ eT ep sq l
theorem zw {ep sq:Nat} {x:ax} (h:bU x=true) (he:ep<=4294967295) (hs:sq<=1099511627775):dW ep sq x.1 x.2.1 x.2.2=some (lu ep sq x):=by
 have h':bA x.1 x.2.1 x.2.2=true:=h;have h1:dA (ep:Int) 4294967295=true:=uN (by omega);have h2:dA (sq:Int) 1099511627775=true:=uN (by omega);rw [dW,lV,h',h1,h2]
 rfl
theorem xu {ep sq:Int} {x:ax} (h:bU x=true):(lu ep sq x).length=256 :=
 cz _ (by rw [r9 _ _ _ _ _ (eO h).2.2.1]; omega)
theorem aaG {ep sq:Int} {x:ax} (h:bU x=true):∀ y∈lu ep sq x,y < 256:=jY _ (uQ _ _ _ _ _ (eO h).2.2.2)
theorem Ap (ep sq:Int) (l:List ax) {j:Nat} {x:ax} (h:l[j]?=some x):eT ep sq (l.take (j+1))=eT ep sq (l.take j) ++ lu ep sq x:=by
 unfold eT;rw [List.take_add_one,h]
 simp
theorem uP (ep sq:Int):∀ {l:List ax},(∀ x∈l,bU x=true)->(eT ep sq l).length=256 * l.length
 | [],_=>rfl
 | x :: r,h=>by
   have e:eT ep sq (x :: r)=lu ep sq x ++ eT ep sq r:=rfl;rw [e,List.length_append,xu (h x (List.mem_cons_self ..)),uP ep sq (λy hy=>h y (List.mem_cons_of_mem _ hy)),List.length_cons];omega
theorem Fx (ep sq:Int) {l:List ax} (h:∀ x∈l,bU x=true):∀ y∈eT ep sq l,y < 256:=by
 intro y hy;obtain ⟨x,hx,hy⟩:=List.mem_flatMap.1 hy;exact aaG (h x hx) y hy
theorem MI (l:List ax) {j:Nat} {x:ax} (h:l[j]?=some x):oo (l.take (j+1))=oo (l.take j) ++ [x.1]:=by
 unfold oo;rw [List.take_add_one,h]
 simp
theorem zn (l:List ax):(oo l).length=l.length:=by simp [oo]
theorem YK {l:List ax} (h:∀ x∈l,bU x=true):qL (oo l) 1023=true:=by
 rw [qL,List.all_eq_true];intro n hn;obtain ⟨x,hx,rfl⟩:=List.mem_map.1 hn;exact uN (eO (h x hx)).2.1
theorem Av {ep sq:Nat} {l:List ax} (h:∀ x∈l,bU x=true) (h1:1<=l.length) (gB:l.length<=40) (he:ep<=4294967295) (hs:sq<=1099511627775) (m:Nat) (hm:M 0 (eT ep sq l)=m) :
 headW ep sq (oo l) m=some (wC ep sq l):=by
 have e1:dA (ep:Int) 1099511627776=true:=uN (by omega);have e2:dA (sq:Int) 1099511627776=true:=uN (by omega);have e3:mV ep sq (oo l)=true:=by
  rw [mV,e1,e2,zn,YK h]
  simp [h1,gB]
 rw [headW,e3,wC,hm]
 rfl
theorem q8 {ep sq:Int} {l:List ax} (gB:l.length<=40):(wC ep sq l).length=256:=cz _ (by rw [uT,zn]; omega)
theorem Yf (ep sq:Int) (l:List ax):∀ y∈wC ep sq l,y < 256:=jY _ (xz _ _ _ _)
theorem tL {ep sq:Int} {l:List ax} (h:∀ x∈l,bU x=true) (gB:l.length<=40):(bR ep sq l).length=256 * (1+l.length):=by
 rw [bR,List.length_append,q8 gB,uP ep sq h]; omega
theorem Qf {ep sq:Int} {l:List ax} (h:∀ x∈l,bU x=true):∀ y∈bR ep sq l,y < 256:=by
 intro y hy;rcases List.mem_append.1 hy with hy | hy
 · exact Yf ep sq l y hy
 · exact Fx ep sq h y hy
def Lg.ahead (L:Lg) (n:Nat):Nat:=min n ((L.ln - L.tail) * 256)
def bL (S:St) (L:Lg) (l:List Nat):Int × St :=
 if (aF S false (L.st+L.tail:Nat) (l.take (L.ahead l.length))).1≠0 then aF S false (L.st+L.tail:Nat) (l.take (L.ahead l.length))
 else if L.ahead l.length=l.length then (0,(aF S false (L.st+L.tail:Nat) (l.take (L.ahead l.length))).2)
 else aF (aF S false (L.st+L.tail:Nat) (l.take (L.ahead l.length))).2 false (L.st:Nat) (l.drop (L.ahead l.length))
def aN (S:St) (L:Lg) (l:List ax):Int × St × Lg :=
 if 40 < l.length then (16,S,L)
 else if l.length=0\/eF [] l=false then (1,S,L)
 else if L.room < 1+l.length\/4294967295 < L.ep\/1099511627775 < L.seq then (15,S,L)
 else if (bL S L (bR L.ep L.seq l)).1=0 then (0,(bL S L (bR L.ep L.seq l)).2,L.pass (1+l.length))
 else ((bL S L (bR L.ep L.seq l)).1,(bL S L (bR L.ep L.seq l)).2,L.fail)
end Go.Proofs.YtinajlbijgedbaaGreat.Log
namespace Go.Proofs.YtinajlbijgedbaaGreat.Sto
open Go.RowKit CrcMath CodecMath Codec DiskSpec Dsk Sup Log
abbrev Pg:=Int × List Nat
abbrev aK:=Nat->Option Pg
def aM:aK:=λ_=>none
def bg (D:aK):Prop:=∀ k p,D k=some p->bA (k:Int) p.1 p.2=true
theorem bg.none_:bg aM:=λ_ _ h=>by cases h
theorem bg.lt {D:aK} (h:bg D) {k:Nat} {p:Pg} (hp:D k=some p):k < 1024:=by
 have:=(dQ (h k p hp)).2.1; omega
theorem bg.upd {D:aK} (h:bg D) {k:Nat} {p:Pg} (hp:bA (k:Int) p.1 p.2=true):bg (DiskSpec.upd D k (some p)):=by
 intro j q hj;unfold DiskSpec.upd at hj
 split at hj
 · rename_i e; subst e; cases hj; exact hp
 · exact h j q hj
def iY (k:Nat) (p:Pg):ax:=((k:Int),p.1,p.2)
def keys (D:aK):List Nat:=(List.range 1024).filter λk=>(D k).isSome
def rising (D:aK):List ax:=(keys D).map λk=>iY k ((D k).getD (0,[]))
theorem dP (D:aK):(rising D).length=(keys D).length:=by simp [rising]
theorem R4 (D:aK):(keys D).Nodup:=List.Pairwise.filter _ List.nodup_range
theorem mem_keys {D:aK} {k:Nat}:k∈keys D↔k < 1024/\(D k).isSome=true:=by
 unfold keys; rw [List.mem_filter,List.mem_range]
theorem keys_nil {D:aK} (h:bg D):keys D=[]↔D=aM:=by
 constructor
 · intro e
   funext k
   cases hk:D k with
   | none=>rfl
   | some p =>
     have:k∈keys D:=mem_keys.2 ⟨h.lt hk,by rw [hk]; rfl⟩;rw [e] at this; cases this
 · rintro rfl;refine List.eq_nil_iff_forall_not_mem.2 λk hk=>?_
   have:=(mem_keys.1 hk).2
   cases this
theorem kJ {D:aK} (h:bg D):∀ x∈rising D,bU x=true:=by
 intro x hx;obtain ⟨k,hk,rfl⟩:=List.mem_map.1 hx;obtain ⟨p,hp⟩:=Option.isSome_iff_exists.1 (mem_keys.1 hk).2;rw [hp];exact h k p hp
def over (D U:aK):aK:=λk=>match U k with | some p=>some p | none=>D k
theorem bg.over {D U:aK} (hd:bg D) (hu:bg U):bg (over D U):=by
 intro k p hp;unfold Sto.over at hp
 cases hk:U k with
 | some q=>rw [hk] at hp; exact hu k p (by rw [hk]; exact hp)
 | none=>rw [hk] at hp; exact hd k p hp
def bE (D:aK) (l:List ax):aK:=l.foldl (λD x=>upd D x.1.toNat (some (x.2.1,x.2.2))) D
def aG (R:List Rec):aK:=R.foldl (λD r=>bE D r.2) aM
theorem Mt (D:aK) (l:List ax) (x:ax):bE D (l ++ [x])=upd (bE D l) x.1.toNat (some (x.2.1,x.2.2)):=by simp [bE]
theorem Gn {l:List ax}:∀ {D:aK},bg D->(∀ x∈l,bU x=true)->bg (bE D l):=by
 induction l with
 | nil=>intro D h _; exact h
 | cons x r ih =>
   intro D h hx;have h1:=hx x (List.mem_cons_self ..);have h2:=(eO h1).2.1;refine ih (D:=upd D x.1.toNat (some (x.2.1,x.2.2))) (h.upd ?_) (λy hy=>hx y (List.mem_cons_of_mem _ hy));rw [show ((x.1.toNat:Nat):Int)=x.1 by omega];exact h1
structure Sb where
 gn:Nat
 ep:Nat
 pg:Nat
 st:Nat
 ln:Nat
 hd:Nat
 sq:Nat
def Sb.l (x:Sb):List Int:=[(x.gn:Int),(x.ep:Int),(x.pg:Int),(x.st:Int),(x.ln:Int),(x.hd:Int),(x.sq:Int)]
def Sb.vs (x:Sb):List Value:=[.int .i64 (x.gn:Nat),.int .i64 (x.ep:Nat),.int .i64 (x.pg:Nat),.int .i64 (x.st:Nat),.int .i64 (x.ln:Nat),.int .i64 (x.hd:Nat),.int .i64 (x.sq:Nat)]
def Sb.next (x:Sb):Sb:={ x with gn:=x.gn+1,ep:=x.ep+1,hd:=0,sq:=1 }
def Sb.log (x:Sb):Lg:=Lg.new (x.gn:Int) x.ep (x.pg:Int) x.st x.ln x.hd x.sq
structure Sto where
 S:St
 L:Lg
 x:Sb
 D:aK
 W:Option aK
def Sto.disk (s:Sto) (T:St):Sto:={ s with S:=T }
def Sto.idle (s:Sto):Sto:={ s with W:=none }
def bJ (S:St) (x:ax):Int × St:=aF S false (2+x.1) (frame (cZ x.1 x.2.1 x.2.2))
def aO:St->List ax->Int × St
 | S,[]=>(0,S)
 | S,x :: r=>if (bJ S x).1=0 then aO (bJ S x).2 r else bJ S x
def bn (S:St) (D:aK):Int × St:=if (aO S (rising D)).1=0 then aR (aO S (rising D)).2 else aO S (rising D)
theorem uB (x:ax):∀ (l:List ax) (S:St),(aO S l).1=0->aO S (l ++ [x])=bJ (aO S l).2 x
 | [],S,_=>by
   show (if (bJ S x).1=0 then aO (bJ S x).2 [] else bJ S x)=bJ S x
   split
   · rename_i h
     show (0,(bJ S x).2)=bJ S x;exact Prod.ext h.symm rfl
   · rfl
 | y :: r,S,h=>by
   show (if (bJ S y).1=0 then aO (bJ S y).2 (r ++ [x]) else bJ S y)=bJ (aO S (y :: r)).2 x;have h':(if (bJ S y).1=0 then aO (bJ S y).2 r else bJ S y).1=0:=h
   by_cases h1:(bJ S y).1=0
   · rw [if_pos h1] at h' ⊢;rw [uB x r _ h'];show _=bJ (if (bJ S y).1=0 then aO (bJ S y).2 r else bJ S y).2 x;rw [if_pos h1]
   · rw [if_neg h1] at h';exact absurd h' h1
theorem Er:∀ (l r:List ax) (S:St),(aO S l).1≠0->aO S (l ++ r)=aO S l
 | [],_,S,h=>absurd rfl h
 | y :: l,r,S,h=>by
   show (if (bJ S y).1=0 then aO (bJ S y).2 (l ++ r) else bJ S y)=(if (bJ S y).1=0 then aO (bJ S y).2 l else bJ S y);have h':(if (bJ S y).1=0 then aO (bJ S y).2 l else bJ S y).1≠0:=h
   by_cases h1:(bJ S y).1=0
   · rw [if_pos h1] at h' ⊢;rw [if_pos h1,Er l r _ h']
   · rw [if_neg h1,if_neg h1]
def fH (s:Sto):Int × Sto:=if s.W.isSome then (17,s) else (0,{ s with W:=some aM })
def Sto.past (s:Sto):Sb:={ s.x with gn:=s.x.gn+1,hd:=s.L.tail,sq:=s.L.seq }
def jZ (s:Sto) (T:St):Int × Sto :=
 if (ay T s.past.l).1=0 then (0,{ s with S:=(ay T s.past.l).2,L:=s.L.drop,x:=s.past,D:=aM })
 else ((ay T s.past.l).1,s.disk (ay T s.past.l).2)
def iU (s:Sto) (T:St):Int × Sto:=if (bn T s.D).1=0 then jZ s (bn T s.D).2 else ((bn T s.D).1,s.disk (bn T s.D).2)
def bG (s:Sto):Int × Sto :=
 if keys s.D=[]/\0 < s.L.room then (0,s)
 else if s.x.gn=1099511627776 then (15,s)
 else if (aR s.S).1=0 then iU s (aR s.S).2 else ((aR s.S).1,s.disk (aR s.S).2)
def bZ (s:Sto):Int × Sto:=if s.W.isSome then (17,s) else bG s
def fB (s:Sto) (l:List ax):Int × Sto:=((aN s.S s.L l).1,{ s with S:=(aN s.S s.L l).2.1,L:=(aN s.S s.L l).2.2 })
def iI (l:List ax) (r:Int × Sto):Int × Sto:=if r.1=12 then (11,r.2) else if r.1=0 then fB r.2 l else r
def bN (s:Sto) (l:List ax):Int × Sto:=if (fB s l).1=15 then iI l (bG (fB s l).2) else fB s l
def uD (U:aK) (r:Int × Sto):Int × Sto:=if r.1=0 then (0,{ r.2 with D:=over r.2.D U,W:=none }) else (r.1,r.2.idle)
def dh (s:Sto):Int × Sto :=
 match s.W with
 | none=>(18,s)
 | some U=>if keys U=[] then (0,s.idle) else uD U (bN s (rising U))
def kH (s:Sto):Int × Sto:=if s.W.isSome then (17,s) else ((aR s.S).1,s.disk (aR s.S).2)
def Sto.has (s:Sto) (p:Int):Bool:=decide (0<=p) && decide (p < (s.x.pg:Int))
def bQ (s:Sto) (p:Int) (q:Pg):Int × Sto :=
 match s.W with
 | none=>(18,s)
 | some U=>if s.has p=false then (2,s) else if bA p q.1 q.2=false then (1,s)
   else if U p.toNat=none/\(keys U).length=40 then (16,s) else (0,{ s with W:=some (upd U p.toNat (some q)) })
end Go.Proofs.YtinajlbijgedbaaGreat.Sto
namespace Go.Proofs.YtinajlbijgedbaaGreat.Log
open Go.RowKit CrcMath CodecMath Codec DiskSpec Dsk Sup
def Lg.sec (L:Lg) (k:Nat):Nat:=L.st+(L.tail+k) % L.ln
theorem Lg.LZ {L:Lg} {n:Nat} (h:L.ok n) (k:Nat):L.sec k < n:=by
 have h1:=h.fit; have h2:=h.low;have:=Nat.mod_lt (L.tail+k) (show 0 < L.ln by omega);unfold Lg.sec;omega
def dV (S:St) (L:Lg):Nat->List Nat
 | 0=>[]
 | j+1=>dV S L j ++ S.now (L.sec (1+j))
theorem zX {S:St} (h:S.ok) (L:Lg):∀ n,(dV S L n).length=256 * n
 | 0=>rfl
 | n+1=>by rw [dV,List.length_append,zX h L n,(S.jU h _).1]; omega
theorem BU {S:St} (h:S.ok) (L:Lg):∀ n,∀ x∈dV S L n,x < 256
 | 0=>by simp [dV]
 | n+1=>by
   intro x hx;rcases List.mem_append.1 hx with hx | hx
   · exact BU h L n x hx
   · exact (S.jU h _).2 x hx
theorem Gm {S:St} (h:S.ok) (L:Lg):∀ (n j:Nat),j < n->DiskSpec.sec (dV S L n) j=S.now (L.sec (1+j))
 | 0,j,hj=>by omega
 | n+1,j,hj=>by
   have hl:=zX h L n;unfold DiskSpec.sec;rw [dV]
   by_cases e:j=n
   · subst e;rw [List.drop_append_of_le_length (by omega),List.drop_of_length_le (by omega),List.nil_append,List.take_of_length_le (by rw [(S.jU h _).1]; omega)]
   · rw [List.drop_append_of_le_length (by omega),List.take_append_of_le_length (by rw [List.length_drop]; omega)];exact Gm h L n j (by omega)
def xm (ep sq no:Int) (l:List Nat):Option ax :=
 match fe l with
 | none=>none
 | some (e,s,n,k,b)=>if e=ep/\s=sq/\n=no then some (n,k,b) else none
theorem Ci {ep sq no:Int} {l:List Nat} (h:fe l=none):xm ep sq no l=none:=by simp [xm,h]
theorem IV {ep sq no e s n k:Int} {b l:List Nat} (h:fe l=some (e,s,n,k,b)) (hn:¬ (e=ep/\s=sq/\n=no)):xm ep sq no l=none:=by simp [xm,h,hn]
theorem Aq {ep sq no k:Int} {b l:List Nat} (h:fe l=some (ep,sq,no,k,b)):xm ep sq no l=some (no,k,b):=by simp [xm,h]
def gZ (ep sq:Int) (pages:List Int) (bytes:List Nat):Nat->Option (List ax)
 | 0=>some []
 | j+1=>(gZ ep sq pages bytes j).bind λl=>(xm ep sq (pages.getD j 0) (DiskSpec.sec bytes j)).map λx=>l ++ [x]
theorem R5 {ep sq:Int} {pages:List Int} {bytes:List Nat} {j:Nat} (h:gZ ep sq pages bytes j=none):∀ {n},j<=n->gZ ep sq pages bytes n=none:=by
 intro n hn
 induction n with
 | zero =>
   obtain rfl:j=0:=by omega
   exact h
 | succ n ih =>
   by_cases e:j=n+1
   · subst e; exact h
   · rw [gZ,ih (by omega)]; rfl
theorem Am {ep sq:Int} {pages:List Int} {bytes:List Nat} {j n:Nat} (hx:xm ep sq (pages.getD j 0) (DiskSpec.sec bytes j)=none) (hn:j < n):gZ ep sq pages bytes n=none:=by
 refine R5 (j:=j+1) ?_ hn;rw [gZ,hx]
 cases gZ ep sq pages bytes j <;> rfl
theorem Fw {ep sq:Int} {pages:List Int} {bytes:List Nat} {j:Nat} {l:List ax} {x:ax} (h:gZ ep sq pages bytes j=some l) (hx:xm ep sq (pages.getD j 0) (DiskSpec.sec bytes j)=some x):gZ ep sq pages bytes (j+1)=some (l ++ [x]):=by
 rw [gZ,h,hx]
 rfl
def mM (ep sq:Int) (pages:List Int) (sum:Nat) (bytes:List Nat):Option (List ax):=if M 0 bytes=sum then gZ ep sq pages bytes pages.length else none
def GY (S:St) (L:Lg) (p:Int × Int × List Int × Nat):Option (List ax) :=
 if p.1=L.ep/\p.2.1=L.seq/\1+p.2.2.1.length<=L.room then mM p.1 p.2.1 p.2.2.1 p.2.2.2 (dV S L p.2.2.1.length) else none
def ji (S:St) (L:Lg):Option (List ax):=(eU (S.now (L.sec 0))).bind (GY S L)
theorem Kh (S:St) (L:Lg):ji S L=(eU (S.now (L.sec 0))).bind (GY S L):=rfl
theorem sG {S:St} {L:Lg} (h:eU (S.now (L.sec 0))=none):ji S L=none:=by rw [Kh,h]; rfl
theorem GX {S:St} {L:Lg} {p:Int × Int × List Int × Nat} (h:eU (S.now (L.sec 0))=some p):ji S L=GY S L p:=by rw [Kh,h]; rfl
theorem xB {S:St} {L:Lg} {ep sq:Int} {pages:List Int} {sum:Nat} (h:eU (S.now (L.sec 0))=some (ep,sq,pages,sum)) (hn:¬ (ep=L.ep/\sq=L.seq/\1+pages.length<=L.room)):ji S L=none:=by
 rw [GX h,GY];exact if_neg hn
theorem uU {S:St} {L:Lg} {ep sq:Int} {pages:List Int} {sum:Nat} (h:eU (S.now (L.sec 0))=some (ep,sq,pages,sum)) (hy:ep=L.ep/\sq=L.seq/\1+pages.length<=L.room):ji S L=mM ep sq pages sum (dV S L pages.length):=by
 rw [GX h,GY];exact if_pos hy
def bF (S:St):Nat->Lg->List Rec × Lg
 | 0,L=>([],L)
 | k+1,L=>if L.room=0 then ([],L) else (ji S L).elim ([],L) λl=>(((L.seq:Int),l) :: (bF S k (L.pass (1+l.length))).1,(bF S k (L.pass (1+l.length))).2)
theorem Ae (S:St) (k:Nat) (L:Lg):bF S (k+1) L=if L.room=0 then ([],L) else (ji S L).elim ([],L) λl=>(((L.seq:Int),l) :: (bF S k (L.pass (1+l.length))).1,(bF S k (L.pass (1+l.length))).2):=rfl
theorem rY {S:St} {k:Nat} {L:Lg} (h:L.room=0):bF S k L=([],L):=by
 cases k with
 | zero=>rfl
 | succ k=>rw [Ae,if_pos h]
theorem om {S:St} {k:Nat} {L:Lg} (h:ji S L=none):bF S k L=([],L):=by
 cases k with
 | zero=>rfl
 | succ k=>rw [Ae,h]; split <;> rfl
theorem xe {S:St} {k:Nat} {L:Lg} {l:List ax} (h0:L.room≠0) (h:ji S L=some l):bF S (k+1) L=(((L.seq:Int),l) :: (bF S k (L.pass (1+l.length))).1,(bF S k (L.pass (1+l.length))).2):=by
 rw [Ae,if_neg h0,h]
 rfl
theorem Ch {ep sq:Int} {pages:List Int} {bytes:List Nat}:∀ {j:Nat} {l:List ax},gZ ep sq pages bytes j=some l->l.length=j
 | 0,l,h=>by simp [gZ] at h; subst h; rfl
 | j+1,l,h=>by
   rw [gZ,Option.bind_eq_some_iff] at h;obtain ⟨l0,h1,h2⟩:=h;rw [Option.map_eq_some_iff] at h2;obtain ⟨x,_,rfl⟩:=h2;rw [List.length_append,Ch h1]; rfl
theorem AB {S:St} {L:Lg} {l:List ax} (h:ji S L=some l):1+l.length<=L.room:=by
 cases hh:eU (S.now (L.sec 0)) with
 | none=>rw [sG hh] at h; cases h
 | some p =>
   obtain ⟨ep,sq,pages,sum⟩:=p
   by_cases hy:ep=L.ep/\sq=L.seq/\1+pages.length<=L.room
   · rw [uU hh hy,mM] at h
     split at h
     · rw [Ch h]; exact hy.2.2
     · cases h
   · rw [xB hh hy] at h; cases h
theorem Vk {l:List Nat} {e s n k:Int} {b:List Nat} (h:fe l=some (e,s,n,k,b)):bA n k b=true/\s<=1099511627775:=by
 unfold fe at h
 split at h
 · rename_i hw
   obtain ⟨_,h2,_,h4⟩:=qd hw;simp only [Option.some.injEq,Prod.mk.injEq] at h;obtain ⟨rfl,rfl,rfl,rfl,rfl⟩:=h;exact ⟨h2,h4.2⟩
 · cases h
theorem aaF {ep sq no:Int} {l:List Nat} {x:ax} (h:xm ep sq no l=some x):bU x=true/\sq<=1099511627775:=by
 cases hi:fe l with
 | none=>rw [Ci hi] at h; cases h
 | some p =>
   obtain ⟨e,s,n,k,b⟩:=p
   by_cases hy:e=ep/\s=sq/\n=no
   · obtain ⟨rfl,rfl,rfl⟩:=hy;rw [Aq hi] at h
     cases h
     exact Vk hi
   · rw [IV hi hy] at h; cases h
theorem M6 {ep sq:Int} {pages:List Int} {bytes:List Nat}:∀ {j:Nat} {l:List ax},gZ ep sq pages bytes j=some l->(∀ y∈l,bU y=true)/\(0 < j->sq<=1099511627775)
 | 0,l,h=>by simp [gZ] at h; subst h; exact ⟨by simp,λh=>by omega⟩
 | j+1,l,h=>by
   rw [gZ,Option.bind_eq_some_iff] at h;obtain ⟨l0,h1,h2⟩:=h;rw [Option.map_eq_some_iff] at h2;obtain ⟨x,hx,rfl⟩:=h2;have h3:=M6 h1;have h4:=aaF hx;refine ⟨λy hy=>?_,λ_=>h4.2⟩;rcases List.mem_append.1 hy with hy | hy
   · exact h3.1 y hy
   · simp at hy
     subst hy;exact h4.1
theorem VH {l:List Nat} {ep sq:Int} {pages:List Int} {sum:Nat} (h:eU l=some (ep,sq,pages,sum)):1<=pages.length/\pages.length<=40:=by
 unfold eU at h
 split at h
 · rename_i hw
   obtain ⟨_,_,n1,n2,_⟩:=iM (kR hw).2;simp only [Option.some.injEq,Prod.mk.injEq] at h;obtain ⟨_,_,rfl,_⟩:=h;exact ⟨n1,n2⟩
 · cases h
theorem FE {S:St} {L:Lg} {l:List ax} (h:ji S L=some l):l.length<=40/\(∀ y∈l,bU y=true)/\L.seq<=1099511627775:=by
 cases hh:eU (S.now (L.sec 0)) with
 | none=>rw [sG hh] at h; cases h
 | some p =>
   obtain ⟨ep,sq,pages,sum⟩:=p;have hl:=VH hh
   by_cases hy:ep=L.ep/\sq=L.seq/\1+pages.length<=L.room
   · rw [uU hh hy,mM] at h
     split at h
     · have h1:=M6 h;have h2:=h1.2 (by omega);exact ⟨by rw [Ch h]; exact hl.2,h1.1,by have:=hy.2.1; omega⟩
     · cases h
   · rw [xB hh hy] at h; cases h
theorem Af (S:St):∀ (k:Nat) (L:Lg),∀ r∈(bF S k L).1,r.2.length<=40/\∀ y∈r.2,bU y=true
 | 0,L,r,hr=>by cases hr
 | k+1,L,r,hr=>by
   by_cases h0:L.room=0
   · rw [rY h0] at hr; cases hr
   · cases hf:ji S L with
     | none=>rw [om hf] at hr; cases hr
     | some l =>
       rw [xe h0 hf] at hr;rcases List.mem_cons.1 hr with rfl | hr
       · have:=FE hf;exact ⟨this.1,this.2.1⟩
       · exact Af S k _ r hr
theorem Ag (S:St):∀ (k:Nat) (L:Lg),(bF S k L).1.length<=k
 | 0,L=>Nat.le_refl _
 | k+1,L=>by
   by_cases h0:L.room=0
   · rw [rY h0]; exact Nat.zero_le _
   · cases hf:ji S L with
     | none=>rw [om hf]; exact Nat.zero_le _
     | some l =>
       rw [xe h0 hf];have:=Ag S k (L.pass (1+l.length));simp only [List.length_cons];omega
end Go.Proofs.YtinajlbijgedbaaGreat.Log
namespace Go.Proofs.YtinajlbijgedbaaGreat.Sup
open Go.RowKit CrcMath CodecMath Codec DiskSpec Dsk
def plain (n:Nat) (ag:Nat->List Nat):St:=⟨n,ag,λ_=>[],0,0,0,-1⟩
theorem UI (n:Nat) (ag:Nat->List Nat) (i:Nat):(plain n ag).now i=ag i:=rfl
theorem JL {n:Nat} {ag:Nat->List Nat} (h2:2<=n) (a:Nat) (ha:a < 2):(plain n ag).has a 1=true:=by
 show (decide (0<=(a:Int)) && (decide ((1:Int)<=1) && decide ((1:Int)<=(n:Int) - a)))=true;rw [Bool.and_eq_true,Bool.and_eq_true,decide_eq_true_eq,decide_eq_true_eq,decide_eq_true_eq];omega
theorem uq {n:Nat} {ag:Nat->List Nat} (h2:2<=n) (a:Nat) (ha:a < 2):aH (plain n ag) a 1=(0,plain n ag):=by
 unfold aH;rw [if_neg (by rw [JL h2 a ha]; simp),if_neg (by simp [plain])]
 rfl
theorem Ed {n:Nat} {ag:Nat->List Nat} (h2:2<=n) (a:Nat) (ha:a < 2):dz (plain n ag) a 1=ag a:=by
 unfold dz;rw [if_neg (by rw [JL h2 a ha]; simp),if_neg (by simp [plain])];show St.reads _ a 1=_
 simp [St.reads,UI]
def gI (n:Nat) (ag:Nat->List Nat):Option (List Int):=mW n (ag 0) (ag 1)
theorem uw {n:Nat} {ag:Nat->List Nat} (h2:2<=n):loadT (plain n ag)=plain n ag:=by
 unfold loadT mH;rw [if_neg (by show ¬ n < 2; omega)];rw [show ((aH (plain n ag) 0 1))=(0,plain n ag) from uq h2 0 (by omega)];rw [show ((aH (0,plain n ag).2 1 1))=(0,plain n ag) from uq h2 1 (by omega)]
theorem kK {n:Nat} {ag:Nat->List Nat} (h2:2<=n):gP (plain n ag)=(if (gI n ag).isSome then 0 else 14)/\iX (plain n ag)=(gI n ag).getD jm:=by
 have e0:aH (plain n ag) 0 1=(0,plain n ag):=uq h2 0 (by omega);have e1:aH (plain n ag) 1 1=(0,plain n ag):=uq h2 1 (by omega);have l0:dz (plain n ag) 0 1=ag 0:=Ed h2 0 (by omega);have l1:dz (plain n ag) 1 1=ag 1:=Ed h2 1 (by omega)
 constructor
 · unfold gP;rw [if_neg (by show ¬ n < 2; omega),e0,if_neg (by show ¬ ((0:Int)≠0\/_); rw [show aH (0,plain n ag).2 1 1=(0,plain n ag) from e1]; simp),l0];rw [show dz (0,plain n ag).2 1 1=ag 1 from l1]
   rfl
 · unfold iX;rw [if_neg (by show ¬ n < 2; omega),e0,if_neg (by show ¬ ((0:Int)≠0\/_); rw [show aH (0,plain n ag).2 1 1=(0,plain n ag) from e1]; simp),l0];rw [show dz (0,plain n ag).2 1 1=ag 1 from l1]
   rfl
theorem tQ {s:List Int} {n:Int} (hl:s.length=7) (h:aL s n=true):0<=gen s/\gen s<=1099511627776:=aV (iR h) 0 (by omega)
theorem Gy {s:List Int} {n:Int} (_hl:s.length=7) (h:aL s n=true):2<=n:=by
 have hr:jg s n=true:=by
  unfold aL at h;rw [Bool.and_eq_true] at h;exact h.2
 simp [jg] at hr
 omega
def placeOf (s:List Int):Nat:=((gen s).tmod 2).toNat
theorem ll {s:List Int} (h:0<=gen s):(gen s).tmod 2=placeOf s/\placeOf s < 2:=by
 have e:(gen s).tmod 2=gen s % 2:=Int.tmod_eq_emod_of_nonneg h;unfold placeOf;omega
theorem Pm {n:Nat} {ag:Nat->List Nat} (a:Nat) (ha:a < n) {l:List Nat} (hl:l.length=256):aF (plain n ag) true a l=(0,plain n (upd ag a l)):=by
 unfold aF;rw [if_neg (by omega),hl];rw [if_neg (by simp [St.has,plain]; omega),if_neg (by simp [plain])];have fF:sec l 0=l:=by
  show (l.drop (256 * 0)).take 256=l;rw [Nat.mul_zero,List.drop_zero,List.take_of_length_le (by omega)]
 show (0,_)=_
 congr 1
 show St.done (St.settle (St.add (plain n ag) (a+0) (sec l 0)) (a+0))=_;rw [fF,Nat.add_zero];show ({ (plain n ag) with ag:=upd ag a _,ae:=_,left:=_ }:St)=plain n (upd ag a l);have h1:St.now (St.add (plain n ag) a l) a=l:=by simp [St.now,St.add,upd,plain]
 have h2:upd (upd (λ_=>([]:List (List Nat))) a ([] ++ [l])) a []=λ_=>[]:=by
  funext i; unfold upd; split <;> rfl
 show (⟨n,upd ag a (St.now (St.add (plain n ag) a l) a),upd (upd (λ_=>[]) a ([] ++ [l])) a [],0 - 1,0,0,tick (-1)⟩:St)=plain n (upd ag a l);rw [h1,h2]
 rfl
theorem zZ {n:Nat} {ag:Nat->List Nat} {s:List Int} (hl:s.length=7) (h:aL s n=true) :
 ay (plain n ag) s=(0,plain n (upd ag (placeOf s) (frame (aX s)))):=by
 have hg:=tQ hl h;obtain ⟨hp,hp2⟩:=ll hg.1;have hn:=Gy hl h;unfold ay;rw [show (plain n ag).n=n from rfl,h,if_pos rfl,hp];exact Pm _ (by omega) (vX hl (kI h))
theorem OX {l:List Nat} {s:List Int} (h:dK l=some s):l.getD 0 0=80:=by
 obtain ⟨h1,_⟩:=nz h;obtain ⟨rfl,_⟩:=um h1;obtain ⟨q,hq⟩:=lD (aX s);rw [hq]
 rfl
theorem LH:dK DiskSpec.zeros=none:=by
 cases h:dK DiskSpec.zeros with
 | none=>rfl
 | some s =>
   have:=OX h;exact absurd this (by decide)
end Go.Proofs.YtinajlbijgedbaaGreat.Sup
namespace Go.Proofs.YtinajlbijgedbaaGreat.Log
open Go.RowKit CrcMath CodecMath Codec DiskSpec Dsk Sup
theorem LY (l:List Nat) {a j:Nat} (h:256 * (j+1)<=a):sec (l.take a) j=sec l j:=by
 unfold sec;rw [List.drop_take,List.take_take,Nat.min_eq_left (by omega)]
theorem Xl (l:List Nat) (k j:Nat):sec (l.drop (256 * k)) j=sec l (k+j):=by
 unfold sec;rw [List.drop_drop]
 congr 2
 omega
theorem Ec (S:St) (a:Nat) (l:List Nat) (p:Nat):∀ k,(S.puts false a l k).ae p=if a<=p/\p < a+k then S.ae p ++ [sec l (p - a)] else S.ae p
 | 0=>by rw [if_neg (by omega)]; rfl
 | k+1=>by
   have ih:=Ec S a l p k;show upd (S.puts false a l k).ae (a+k) ((S.puts false a l k).ae (a+k) ++ [sec l k]) p=_
   by_cases e:p=a+k
   · subst e;rw [upd_same,if_pos (by omega),ih,if_neg (by omega),Nat.add_sub_cancel_left]
   · rw [upd_ne _ _ e,ih]
     by_cases h:a<=p/\p < a+k
     · rw [if_pos h,if_pos (by omega)]
     · rw [if_neg h,if_neg (by omega)]
theorem BZ (S:St) (a:Nat) (l:List Nat):∀ k,(S.puts false a l k).ag=S.ag/\(S.puts false a l k).n=S.n/\(S.puts false a l k).f1=S.f1/\(S.puts false a l k).f2=S.f2/\(S.puts false a l k).f3=S.f3/\(S.puts false a l k).left=S.left
 | 0=>⟨rfl,rfl,rfl,rfl,rfl,rfl⟩
 | k+1=>BZ S a l k
structure Wrote (S T:St) (a:Nat) (l:List Nat) (k:Nat):Prop where
 ae:∀ p,T.ae p=if a<=p/\p < a+k then S.ae p ++ [sec l (p - a)] else S.ae p
 ag:T.ag=S.ag
 n:T.n=S.n
 f1:T.f1=S.f1
 f2:T.f2=S.f2 - 1
 f3:T.f3=S.f3
 left:T.left=tick S.left
theorem yJ {S:St} {a k:Nat} {l:List Nat} (hl:l.length=256 * k) (hk:1<=k) (ha:a+k<=S.n) (h:S.f2=1\/S.left=0):aF S false (a:Nat) l=(11,{ S with f2:=S.f2 - 1 }):=by
 unfold aF;rw [if_neg (by omega),if_neg (by simp [St.has,hl]; omega),if_pos h]
theorem qa {S:St} {a k:Nat} {l:List Nat} (hl:l.length=256 * k) (hk:1<=k) (ha:a+k<=S.n) (h:¬ (S.f2=1\/S.left=0)):(aF S false (a:Nat) l).1=0/\Wrote S (aF S false (a:Nat) l).2 a l k:=by
 have e:aF S false (a:Nat) l=(0,(({ S with f2:=S.f2 - 1 }:St).puts false a l k).done):=by
  unfold aF;rw [if_neg (by omega),if_neg (by simp [St.has,hl]; omega),if_neg h,hl,show 256 * k / 256=k from by omega]
  rfl
 rw [e];obtain ⟨h1,h2,h3,h4,h5,h6⟩:=BZ { S with f2:=S.f2 - 1 } a l k;refine ⟨rfl,⟨λp=>Ec { S with f2:=S.f2 - 1 } a l p k,h1,h2,h3,h4,h5,?_⟩⟩;show tick _=tick _;rw [h6]
structure Put (S T:St) (L:Lg) (l:List Nat) (k:Nat):Prop where
 at_:∀ i,i < k->T.ae (L.sec i)=S.ae (L.sec i) ++ [sec l i]
 far:∀ p,(∀ i,i < k->p≠L.sec i)->T.ae p=S.ae p
 ag:T.ag=S.ag
 n:T.n=S.n
 f1:T.f1=S.f1
theorem Lg.lS {L:Lg} {i:Nat} (h:L.tail+i < L.ln):L.sec i=L.st+L.tail+i:=by
 unfold Lg.sec;rw [Nat.mod_eq_of_lt h];omega
theorem Lg.qE {L:Lg} {i:Nat} (h1:L.ln<=L.tail+i) (h2:L.tail+i < 2 * L.ln):L.sec i=L.st+(L.tail+i - L.ln):=by
 unfold Lg.sec;rw [Nat.mod_eq_sub_mod h1,Nat.mod_eq_of_lt (by omega)]
theorem Lg.aab {L:Lg} {i j:Nat} (ht:L.tail < L.ln) (hi:i < L.ln) (hj:j < L.ln) (h:L.sec i=L.sec j):i=j:=by
 rcases Nat.lt_or_ge (L.tail+i) L.ln with h1 | h1
 · rcases Nat.lt_or_ge (L.tail+j) L.ln with h2 | h2
   · rw [L.lS h1,L.lS h2] at h; omega
   · rw [L.lS h1,L.qE h2 (by omega)] at h; omega
 · rcases Nat.lt_or_ge (L.tail+j) L.ln with h2 | h2
   · rw [L.qE h1 (by omega),L.lS h2] at h; omega
   · rw [L.qE h1 (by omega),L.qE h2 (by omega)] at h; omega
theorem Gq {S:St} {L:Lg} {l:List Nat} {k:Nat} (hk:L.ok S.n) (hl:l.length=256 * k) (h1:1<=k) (hkn:k<=L.ln) :
 ((bL S L l).1=0/\Put S (bL S L l).2 L l k)\/((bL S L l).1=11/\((bL S L l).2.f1=S.f1/\(bL S L l).2.n=S.n/\(bL S L l).2.ag=S.ag/\((bL S L l).2.ae=S.ae \/
   (L.ln - L.tail < k/\(∀ i,i < L.ln - L.tail->(bL S L l).2.ae (L.sec i)=S.ae (L.sec i) ++ [sec l i])/\∀ p,(∀ i,i < L.ln - L.tail->p≠L.sec i)->(bL S L l).2.ae p=S.ae p)))):=by
 have hfit:=hk.fit; have htl:=hk.tail
 by_cases hw:k<=L.ln - L.tail
 · have ha:L.ahead l.length=l.length:=by unfold Lg.ahead; omega
   have hE:bL S L l=if (aF S false (L.st+L.tail:Nat) l).1≠0 then aF S false (L.st+L.tail:Nat) l else (0,(aF S false (L.st+L.tail:Nat) l).2):=by
    unfold bL;rw [ha,List.take_length,if_pos rfl]
   by_cases hs:S.f2=1\/S.left=0
   · have e:=yJ hl h1 (a:=L.st+L.tail) (by omega) hs;rw [e,if_pos (by show (11:Int)≠0; omega)] at hE;rw [hE];exact .inr ⟨rfl,rfl,rfl,rfl,.inl rfl⟩
   · obtain ⟨e0,e1⟩:=qa hl h1 (a:=L.st+L.tail) (by omega) hs;rw [e0,if_neg (by simp)] at hE;rw [hE];refine .inl ⟨rfl,⟨λi hi=>?_,λp hp=>?_,e1.ag,e1.n,e1.f1⟩⟩
     · rw [L.lS (by omega),e1.ae,if_pos (by omega)]
       congr 3
       omega
     · rw [e1.ae,if_neg (λhh=>hp (p - (L.st+L.tail)) (by omega) (by rw [L.lS (by omega)]; omega))]
 · have ha:L.ahead l.length=256 * (L.ln - L.tail):=by unfold Lg.ahead; omega
   have hlt:(l.take (256 * (L.ln - L.tail))).length=256 * (L.ln - L.tail):=by rw [List.length_take]; omega
   have hld:(l.drop (256 * (L.ln - L.tail))).length=256 * (k - (L.ln - L.tail)):=by rw [List.length_drop]; omega
   have hE:bL S L l=if (aF S false (L.st+L.tail:Nat) (l.take (256 * (L.ln - L.tail)))).1≠0 then aF S false (L.st+L.tail:Nat) (l.take (256 * (L.ln - L.tail))) else aF (aF S false (L.st+L.tail:Nat) (l.take (256 * (L.ln - L.tail)))).2 false (L.st:Nat) (l.drop (256 * (L.ln - L.tail))):=by
    unfold bL;rw [ha]
    split
    · rfl
    · rw [if_neg (by omega)]
   by_cases hs:S.f2=1\/S.left=0
   · have e:=yJ hlt (by omega) (a:=L.st+L.tail) (by omega) hs;rw [e,if_pos (by show (11:Int)≠0; omega)] at hE;rw [hE];exact .inr ⟨rfl,rfl,rfl,rfl,.inl rfl⟩
   · obtain ⟨e0,e1⟩:=qa hlt (by omega) (a:=L.st+L.tail) (by omega) hs;rw [e0,if_neg (by simp)] at hE;generalize (aF S false (L.st+L.tail:Nat) (l.take (256 * (L.ln - L.tail)))).2=S1 at hE e1
     by_cases hs2:S1.f2=1\/S1.left=0
     · have e2:=yJ hld (by omega) (a:=L.st) (by have:=e1.n; omega) hs2;rw [hE,e2];refine .inr ⟨rfl,e1.f1,e1.n,e1.ag,.inr ⟨by omega,λi hi=>?_,λp hp=>?_⟩⟩
       · show S1.ae (L.sec i)=_;rw [L.lS (by omega),e1.ae,if_pos (by omega),LY _ (by omega)]
         congr 3
         omega
       · show S1.ae p=_;rw [e1.ae,if_neg (λhh=>hp (p - (L.st+L.tail)) (by omega) (by rw [L.lS (by omega)]; omega))]
     · obtain ⟨e2,e3⟩:=qa hld (by omega) (a:=L.st) (by have:=e1.n; omega) hs2;rw [hE];refine .inl ⟨e2,⟨λi hi=>?_,λp hp=>?_,e3.ag.trans e1.ag,e3.n.trans e1.n,e3.f1.trans e1.f1⟩⟩
       · by_cases hi2:i < L.ln - L.tail
         · rw [L.lS (by omega),e3.ae,if_neg (by omega),e1.ae,if_pos (by omega),LY _ (by omega)]
           congr 3
           omega
         · rw [L.qE (by omega) (by omega),e3.ae,if_pos (by omega),e1.ae,if_neg (by omega),Xl]
           congr 3
           omega
       · rw [e3.ae,if_neg (λhh=>hp (L.ln - L.tail+(p - L.st)) (by omega) (by rw [L.qE (by omega) (by omega)]; omega)),e1.ae,
          if_neg (λhh=>hp (p - (L.st+L.tail)) (by omega) (by rw [L.lS (by omega)]; omega))]
theorem L8 {ep sq:Int} {l:List ax} (gB:l.length<=40):sec (bR ep sq l) 0=wC ep sq l:=by
 unfold sec bR;rw [Nat.mul_zero,List.drop_zero,List.take_append_of_le_length (by rw [q8 gB]; omega),List.take_of_length_le (by rw [q8 gB]; omega)]
theorem L6 (ep sq:Int):∀ {l:List ax} (_:∀ x∈l,bU x=true) {i:Nat} {x:ax},l[i]?=some x->sec (eT ep sq l) i=lu ep sq x
 | [],_,i,x,hx=>by simp at hx
 | y :: r,hok,0,x,hx=>by
   simp at hx
   subst hx;have hl:=xu (ep:=ep) (sq:=sq) (hok y (List.mem_cons_self ..));show ((lu ep sq y ++ eT ep sq r).drop (256 * 0)).take 256=_;rw [Nat.mul_zero,List.drop_zero,List.take_append_of_le_length (by omega),List.take_of_length_le (by omega)]
 | y :: r,hok,i+1,x,hx=>by
   have hl:=xu (ep:=ep) (sq:=sq) (hok y (List.mem_cons_self ..));have ih:=L6 ep sq (l:=r) (λz hz=>hok z (List.mem_cons_of_mem _ hz)) (i:=i) (x:=x) (by simpa using hx);have e:eT ep sq (y :: r)=lu ep sq y ++ eT ep sq r:=rfl;rw [<-ih,e];unfold sec;rw [List.drop_append,List.drop_of_length_le (by omega),List.nil_append,hl,show 256 * (i+1) - 256=256 * i from by omega]
theorem Iu {ep sq:Int} {l:List ax} (hok:∀ x∈l,bU x=true) (gB:l.length<=40) {i:Nat} {x:ax} (hx:l[i]?=some x):sec (bR ep sq l) (1+i)=lu ep sq x:=by
 rw [<-L6 ep sq hok hx];have hl:=q8 (ep:=ep) (sq:=sq) gB;unfold sec bR;rw [List.drop_append,List.drop_of_length_le (by omega),List.nil_append,hl,show 256 * (1+i) - 256=256 * i from by omega]
structure Fit (L:Lg) (l:List ax):Prop where
 ok:∀ x∈l,bU x=true
 one:1<=l.length
 most:l.length<=40
 ep:L.ep<=4294967295
 seq:L.seq<=1099511627775
def Ll (S:St) (L:Lg) (l:List ax):Prop:=∀ i,i < 1+l.length->S.now (L.sec i)=sec (bR L.ep L.seq l) i
theorem Al {S:St} {L:Lg} {l:List ax} (hf:Fit L l) (h:Ll S L l):∀ j,j<=l.length->dV S L j=eT L.ep L.seq (l.take j)
 | 0,_=>rfl
 | j+1,hj=>by
   have hx:l[j]?=some l[j]:=List.getElem?_eq_getElem (by omega);rw [dV,Al hf h j (by omega),h (1+j) (by omega),Iu hf.ok hf.most hx,Ap _ _ _ hx]
theorem J2 {S:St} {L:Lg} {l:List ax} (hs:S.ok) (hf:Fit L l) (h:Ll S L l):∀ j,j<=l.length->gZ L.ep L.seq (oo l) (dV S L l.length) j=some (l.take j)
 | 0,_=>rfl
 | j+1,hj=>by
   have hx:l[j]?=some l[j]:=List.getElem?_eq_getElem (by omega);have h1:=Gm hs L l.length j (by omega);rw [h (1+j) (by omega),Iu hf.ok hf.most hx] at h1;have hn:(oo l).getD j 0=(l[j]).1:=by
    unfold oo;rw [List.getD_eq_getElem?_getD,List.getElem?_map,hx]
    rfl
   have h2:=Fw (J2 hs hf h j (by omega)) (x:=l[j]) (by
    rw [h1,hn];exact Aq (J6 (zw (hf.ok _ (List.getElem_mem _)) hf.ep hf.seq)))
   rw [h2,List.take_add_one,hx]
   rfl
theorem SC {S:St} {L:Lg} {l:List ax} (hs:S.ok) (hf:Fit L l) (h:Ll S L l) (hr:1+l.length<=L.room):ji S L=some l:=by
 have h0:=h 0 (by omega);rw [L8 hf.most] at h0;have hh:=Nu (Jf 0 (eT L.ep L.seq l)) (Av (ep:=L.ep) (sq:=L.seq) hf.ok hf.one hf.most hf.ep hf.seq _ rfl);rw [<-h0] at hh;rw [uU hh ⟨rfl,rfl,by rw [zn]; exact hr⟩,zn,mM,Al hf h _ (Nat.le_refl _),List.take_length,if_pos rfl,zn];have:=J2 hs hf h l.length (Nat.le_refl _);rw [Al hf h _ (Nat.le_refl _),List.take_length] at this;exact this
structure Calm (S:St):Prop where
 f1:S.f1=0
 f2:S.f2=0
 left:S.left=-1
theorem yK {S:St} (hc:Calm S) {a k:Nat} {l:List Nat} (hl:l.length=256 * k) (hk:1<=k) (ha:a+k<=S.n):(aF S false (a:Nat) l).1=0/\Calm (aF S false (a:Nat) l).2:=by
 have h1:=hc.f2; have h2:=hc.left;obtain ⟨e0,e1⟩:=qa hl hk ha (by omega);exact ⟨e0,e1.f1.trans hc.f1,by rw [e1.f2,hc.f2],by rw [e1.left,hc.left]; rfl⟩
theorem UG {S:St} {L:Lg} (hc:Calm S) {l:List Nat} {k:Nat} (hk:L.ok S.n) (hl:l.length=256 * k) (h1:1<=k) (hkn:k<=L.ln):(bL S L l).1=0/\Calm (bL S L l).2:=by
 have hfit:=hk.fit; have htl:=hk.tail
 by_cases hw:k<=L.ln - L.tail
 · have ha:L.ahead l.length=l.length:=by unfold Lg.ahead; omega
   obtain ⟨e0,e1⟩:=yK hc hl h1 (a:=L.st+L.tail) (by omega);unfold bL;rw [ha,List.take_length,if_pos rfl,e0,if_neg (by simp)];exact ⟨rfl,e1⟩
 · have ha:L.ahead l.length=256 * (L.ln - L.tail):=by unfold Lg.ahead; omega
   have hlt:(l.take (256 * (L.ln - L.tail))).length=256 * (L.ln - L.tail):=by rw [List.length_take]; omega
   have hld:(l.drop (256 * (L.ln - L.tail))).length=256 * (k - (L.ln - L.tail)):=by rw [List.length_drop]; omega
   have hn:(aF S false (L.st+L.tail:Nat) (l.take (256 * (L.ln - L.tail)))).2.n=S.n:=(qa hlt (by omega) (a:=L.st+L.tail) (by omega) (by have h1:=hc.f2; have h2:=hc.left; omega)).2.n;obtain ⟨e0,e1⟩:=yK hc hlt (by omega) (a:=L.st+L.tail) (by omega);obtain ⟨e2,e3⟩:=yK e1 hld (by omega) (a:=L.st) (by rw [hn]; omega);unfold bL;rw [ha,e0,if_neg (by simp),if_neg (by omega)];exact ⟨e2,e3⟩
theorem Ti {S:St} {L:Lg} {l:List ax} (h:40 < l.length):aN S L l=(16,S,L):=by unfold aN; rw [if_pos h]
theorem Tj {S:St} {L:Lg} {l:List ax} (h:l.length<=40) (h0:l.length=0\/eF [] l=false):aN S L l=(1,S,L):=by unfold aN; rw [if_neg (by omega),if_pos h0]
theorem EJ {S:St} {L:Lg} {l:List ax} (h:l.length<=40) (h1:1<=l.length) (hm:eF [] l=true) (hf:L.room < 1+l.length\/4294967295 < L.ep\/1099511627775 < L.seq):aN S L l=(15,S,L):=by
 unfold aN;rw [if_neg (by omega),if_neg (by rw [hm]; simp; intro e; subst e; simp at h1),if_pos hf]
theorem EI {S:St} {L:Lg} {l:List ax} (h:l.length<=40) (h1:1<=l.length) (hm:eF [] l=true) (hf:¬ (L.room < 1+l.length\/4294967295 < L.ep\/1099511627775 < L.seq)) :
 aN S L l=if (bL S L (bR L.ep L.seq l)).1=0 then (0,(bL S L (bR L.ep L.seq l)).2,L.pass (1+l.length)) else ((bL S L (bR L.ep L.seq l)).1,(bL S L (bR L.ep L.seq l)).2,L.fail):=by
 unfold aN;rw [if_neg (by omega),if_neg (by rw [hm]; simp; intro e; subst e; simp at h1),if_neg hf]
theorem Iz (L:Lg):L.room<=L.ln:=by unfold Lg.room; split <;> omega
theorem PT {S:St} {L:Lg} {l:List ax} (hc:Calm S) (hk:L.ok S.n) (h:l.length<=40) (h1:1<=l.length) (hm:eF [] l=true) (hf:¬ (L.room < 1+l.length\/4294967295 < L.ep\/1099511627775 < L.seq)) :
 ∃ T,aN S L l=(0,T,L.pass (1+l.length))/\Put S T L (bR L.ep L.seq l) (1+l.length)/\Calm T:=by
 have hok:=wP hm;have hl:=tL (ep:=L.ep) (sq:=L.seq) hok h;have hr:=Iz L;obtain ⟨e0,e1⟩:=UG hc hk hl (by omega) (by omega);refine ⟨(bL S L (bR L.ep L.seq l)).2,by rw [EI h h1 hm hf,if_pos e0],?_,e1⟩;rcases Gq hk hl (by omega) (by omega) with ⟨_,h2⟩ | ⟨h2,_⟩
 · exact h2
 · rw [h2] at e0; cases e0
theorem Put.now {S T:St} {L:Lg} {l:List Nat} {k:Nat} (h:Put S T L l k) {i:Nat} (hi:i < k):T.now (L.sec i)=sec l i:=by
 unfold St.now;rw [h.at_ i hi]
 simp
theorem Put.same {S T:St} {L:Lg} {l:List Nat} {k:Nat} (h:Put S T L l k) {p:Nat} (hp:∀ i,i < k->p≠L.sec i):T.now p=S.now p:=by
 unfold St.now;rw [h.far p hp,h.ag]
theorem Put.lens {S T:St} {L:Lg} {l:List Nat} {k:Nat} (h:Put S T L l k) (p:Nat):(T.ae p).length<=(S.ae p).length+1:=by
 by_cases hp:∃ i,i < k/\p=L.sec i
 · obtain ⟨i,hi,rfl⟩:=hp;rw [h.at_ i hi]
   simp
 · rw [h.far p (λi hi e=>hp ⟨i,hi,e⟩)];omega
theorem Xk (L:Lg) (m o:Nat):(L.pass m).sec o=L.sec (m+o):=by
 show L.st+((L.tail+m) % L.ln+o) % L.ln=L.st+(L.tail+(m+o)) % L.ln;rw [Nat.mod_add_mod,Nat.add_assoc]
def total:List (List ax)->Nat
 | []=>0
 | l :: r=>1+l.length+total r
def passes (L:Lg):List (List ax)->Lg
 | []=>L
 | l :: r=>passes (L.pass (1+l.length)) r
def gK (q:Int):List (List ax)->List Rec
 | []=>[]
 | l :: r=>(q,l) :: gK (q+1) r
def QO (S:St) (L:Lg):List (List ax)->Prop
 | []=>True
 | l :: r=>Fit L l/\1+l.length<=L.room/\Ll S L l/\QO S (L.pass (1+l.length)) r
theorem rJ (l:List ax):∀ ls,total (ls ++ [l])=total ls+(1+l.length)
 | []=>by simp [total]
 | x :: r=>by
   show 1+x.length+total (r ++ [l])=1+x.length+total r+(1+l.length);rw [rJ l r]; omega
theorem Ef (l:List ax):∀ (L:Lg) ls,passes L (ls ++ [l])=(passes L ls).pass (1+l.length)
 | _,[]=>rfl
 | L,x :: r=>Ef l (L.pass (1+x.length)) r
theorem D8 (l:List ax):∀ (q:Int) ls,gK q (ls ++ [l])=gK q ls ++ [(q+ls.length,l)]
 | q,[]=>by simp [gK]
 | q,x :: r=>by
   show (q,x) :: gK (q+1) (r ++ [l])=(q,x) :: gK (q+1) r ++ [_];rw [D8 l (q+1) r];simp only [List.cons_append,List.length_cons]
   congr 4
   omega
theorem Gl:∀ (q:Int) ls,(gK q ls).length=ls.length
 | _,[]=>rfl
 | q,x :: r=>by show (gK (q+1) r).length+1=_; rw [Gl (q+1) r]; rfl
theorem F6 (o:Nat):∀ (L:Lg) ls,(passes L ls).sec o=L.sec (total ls+o)
 | L,[]=>by show L.sec o=L.sec (0+o); rw [Nat.zero_add]
 | L,x :: r=>by
   show (passes (L.pass (1+x.length)) r).sec o=L.sec (1+x.length+total r+o);rw [F6 o (L.pass (1+x.length)) r,Xk]
   congr 1
   omega
structure aez (L M:Lg) (t k:Nat):Prop where
 ln:M.ln=L.ln
 st:M.st=L.st
 ep:M.ep=L.ep
 seq:M.seq=L.seq+k
 taken:M.taken=L.taken+t
 broken:M.broken=L.broken
theorem nX:∀ (L:Lg) ls,aez L (passes L ls) (total ls) ls.length
 | _,[]=>⟨rfl,rfl,rfl,rfl,rfl,rfl⟩
 | L,x :: r=>by
   have h:=nX (L.pass (1+x.length)) r;refine ⟨h.ln,h.st,h.ep,?_,?_,h.broken⟩
   · have:=h.seq;show (passes (L.pass (1+x.length)) r).seq=L.seq+(r.length+1);rw [this];show L.seq+1+r.length=_;omega
   · have:=h.taken;show (passes (L.pass (1+x.length)) r).taken=L.taken+(1+x.length+total r);rw [this];show L.taken+(1+x.length)+total r=_;omega
theorem JR {S:St} (hs:S.ok):∀ {ls:List (List ax)} {L:Lg} {F:Nat},QO S L ls->ls.length<=F->((passes L ls).room=0\/ji S (passes L ls)=none)->bF S F L=(gK (L.seq:Int) ls,passes L ls)
 | [],L,F,_,_,he=>by
   rcases he with he | he
   · exact rY he
   · exact om he
 | x :: r,L,F,h,hF,he=>by
   obtain ⟨q1,q2,q3,q4⟩:=h;obtain ⟨F',rfl⟩:∃ F',F=F'+1:=⟨F - 1,by simp at hF; omega⟩;rw [xe (by omega) (SC hs q1 q3 q2),JR hs q4 (by simp at hF; omega) he]
   rfl
theorem PK:eU DiskSpec.zeros=none:=by
 cases h:eU DiskSpec.zeros with
 | none=>rfl
 | some p =>
   obtain ⟨ep,sq,pages,sum⟩:=p;have h1:headW ep sq pages sum=some DiskSpec.zeros:=by
    unfold eU at h
    split at h
    · rename_i h1
      simp only [Option.some.injEq,Prod.mk.injEq] at h;obtain ⟨h2,h3,h4,h5⟩:=h;rw [h2,h3,h4,h5] at h1;exact h1
    · cases h
   have h2:=(kR h1).1;obtain ⟨q,hq⟩:=lD (jh ep sq pages sum);rw [hq] at h2;have h3:DiskSpec.zeros.getD 0 0=80:=by rw [h2]; rfl
   exact absurd h3 (by decide)
def iQ (S:St) (p:Nat) (c:List Nat):Prop:=c=S.ag p\/c∈S.ae p
theorem AQ (S:St) (p:Nat):iQ S p (S.now p):=by
 unfold iQ St.now
 cases hv:(S.ae p).getLast? with
 | none =>
   rw [List.getLast?_eq_none_iff.1 hv];exact .inl rfl
 | some v =>
   rw [List.getLastD_eq_getLast?,hv];exact .inr (List.mem_of_getLast? hv)
def Old (ep q:Nat) (c:List Nat):Prop :=
 (∀ e s ps m,eU c=some (e,s,ps,m)->e < ep\/(e=ep/\s < q))/\(∀ e s n k b,fe c=some (e,s,n,k,b)->e < ep\/(e=ep/\s < q))
theorem Old.more {ep q ep' q':Nat} {c:List Nat} (h:Old ep q c) (hq:ep < ep'\/(ep=ep'/\q<=q')):Old ep' q' c:=by
 refine ⟨λe s ps m hh=>?_,λe s n k b hh=>?_⟩
 · have:=h.1 e s ps m hh; omega
 · have:=h.2 e s n k b hh; omega
theorem SB {l:List Nat} {x:Nat} {p q:List Nat} (h:l=(x :: p) ++ q):l.getD 0 0=x:=by rw [h]; rfl
theorem XH {ep sq:Nat} {l:List ax} (h1:1<=l.length) (gB:l.length<=40) (hok:∀ x∈l,bU x=true) (he:ep<=4294967295) (hs:sq<=1099511627775):Old ep (sq+1) (wC ep sq l):=by
 refine ⟨λe s ps m hh=>?_,λe s n k b hh=>?_⟩
 · rw [Nu (Jf 0 (eT ep sq l)) (Av (ep:=ep) (sq:=sq) hok h1 gB he hs _ rfl)] at hh;simp only [Option.some.injEq,Prod.mk.injEq] at hh;omega
 · exfalso
   unfold fe at hh
   split at hh
   · rename_i hw
     obtain ⟨hl,hpk,_⟩:=qd hw;have hk:=(dQ hpk).1;have hf:(num (wC ep sq l) 0 1:Int)=80:=by
      obtain ⟨q,hq⟩:=lD (jh ep sq (oo l) (M 0 (eT ep sq l)));unfold wC;rw [hq]
      rfl
     rw [hf] at hk;omega
   · cases hh
theorem aat {ep sq:Nat} {x:ax} (hok:bU x=true) (he:ep<=4294967295) (hs:sq<=1099511627775):Old ep (sq+1) (lu ep sq x):=by
 refine ⟨λe s ps m hh=>?_,λe s n k b hh=>?_⟩
 · exfalso
   unfold eU at hh
   split at hh
   · rename_i hw
     have hl:=(kR hw).1;have hk:=(eO hok).1;obtain ⟨q,hq⟩:=lD (jh (wrap64 (num (lu ep sq x) 4 8:Nat)) (wrap64 (num (lu ep sq x) 12 8:Nat)) (eY (lu ep sq x) 26 4 4 (min (num (lu ep sq x) 24 2) 40)) (num (lu ep sq x) 20 4));rw [hq] at hl;have h1:(lu ep sq x).getD 0 0=80:=SB hl;have h2:=(Cj (zw hok he hs)).1;have h3:num (lu ep sq x) 0 1=(lu ep sq x).getD 0 0:=by simp [num]
     omega
   · cases hh
 · rw [J6 (zw hok he hs)] at hh;simp only [Option.some.injEq,Prod.mk.injEq] at hh;omega
def jd:Lg->List (List ax)->Nat->List Nat
 | _,[],_=>[]
 | L,l :: r,o=>if o < 1+l.length then sec (bR L.ep L.seq l) o else jd (L.pass (1+l.length)) r (o - (1+l.length))
def zN (L:Lg):List (List ax)->Prop
 | []=>True
 | l :: r=>Fit L l/\1+l.length<=L.room/\zN (L.pass (1+l.length)) r
theorem VQ {S:St} {L:Lg} (h:Old L.ep L.seq (S.now (L.sec 0))):ji S L=none:=by
 cases hh:eU (S.now (L.sec 0)) with
 | none=>exact sG hh
 | some p =>
   obtain ⟨e,s,ps,m⟩:=p;have:=h.1 e s ps m hh;exact xB hh (λhc=>by omega)
theorem M8:fe DiskSpec.zeros=none:=by
 cases h:fe DiskSpec.zeros with
 | none=>rfl
 | some p =>
   obtain ⟨e,s,n,k,b⟩:=p;unfold fe at h
   split at h
   · rename_i hw
     obtain ⟨_,hpk,_⟩:=qd hw;have hk:=(dQ hpk).1;have:num DiskSpec.zeros 0 1=0:=by decide
     rw [this] at hk;omega
   · cases h
theorem JS (ep q:Nat):Old ep q DiskSpec.zeros:=⟨λe s ps m h=>(by rw [PK] at h; cases h),λe s n k b h=>(by rw [M8] at h; cases h)⟩
theorem IJ {ep sq:Nat} {l:List ax} (hok:∀ x∈l,bU x=true) (h1:1<=l.length) (gB:l.length<=40) (he:ep<=4294967295) (hs:sq<=1099511627775) {i:Nat} (hi:i < 1+l.length):Old ep (sq+1) (sec (bR ep sq l) i):=by
 cases i with
 | zero=>rw [L8 gB]; exact XH h1 gB hok he hs
 | succ i =>
   have hx:l[i]?=some l[i]:=List.getElem?_eq_getElem (by omega);rw [Nat.add_comm i 1,Iu hok gB hx];exact aat (hok _ (List.getElem_mem _)) he hs
theorem Ko:∀ {L:Lg} {ls:List (List ax)},zN L ls->∀ o,o < total ls->Old L.ep (L.seq+ls.length) (jd L ls o)
 | _,[],_,o,ho=>by cases ho
 | L,l :: r,h,o,ho=>by
   obtain ⟨h1,_,h3⟩:=h;have ht:total (l :: r)=1+l.length+total r:=rfl
   by_cases hw:o < 1+l.length
   · rw [show jd L (l :: r) o=sec (bR L.ep L.seq l) o from if_pos hw];exact (IJ h1.ok h1.one h1.most h1.ep h1.seq hw).more (.inr ⟨rfl,by show L.seq+1<=L.seq+(r.length+1); omega⟩)
   · rw [show jd L (l :: r) o=jd (L.pass (1+l.length)) r (o - (1+l.length)) from if_neg hw];exact (Ko h3 _ (by omega)).more (.inr ⟨rfl,by show L.seq+1+r.length<=L.seq+(r.length+1); omega⟩)
theorem wG (l:List ax):∀ (L:Lg) (ls:List (List ax)) (o:Nat),o < total ls->jd L (ls ++ [l]) o=jd L ls o
 | _,[],o,ho=>by cases ho
 | L,x :: r,o,ho=>by
   have ht:total (x :: r)=1+x.length+total r:=rfl;show (if o < 1+x.length then _ else jd (L.pass (1+x.length)) (r ++ [l]) (o - (1+x.length)))=if o < 1+x.length then _ else _
   by_cases hw:o < 1+x.length
   · rw [if_pos hw,if_pos hw]
   · rw [if_neg hw,if_neg hw,wG l _ r _ (by omega)]
theorem AP (l:List ax):∀ (L:Lg) (ls:List (List ax)) (i:Nat),i < 1+l.length->jd L (ls ++ [l]) (total ls+i)=sec (bR (passes L ls).ep (passes L ls).seq l) i
 | L,[],i,hi=>by
   show (if 0+i < 1+l.length then sec (bR L.ep L.seq l) (0+i) else _)=_;rw [if_pos (by omega),Nat.zero_add]
   rfl
 | L,x :: r,i,hi=>by
   have ht:total (x :: r)=1+x.length+total r:=rfl;show (if total (x :: r)+i < 1+x.length then _ else jd (L.pass (1+x.length)) (r ++ [l]) (total (x :: r)+i - (1+x.length)))=_;rw [if_neg (by omega),show total (x :: r)+i - (1+x.length)=total r+i from by omega,AP l _ r i hi]
   rfl
theorem EB {l:List ax}:∀ {L:Lg} {ls:List (List ax)},zN L ls->Fit (passes L ls) l->1+l.length<=(passes L ls).room->zN L (ls ++ [l])
 | _,[],_,h1,h2=>⟨h1,h2,trivial⟩
 | _,_ :: _,h,h1,h2=>⟨h.1,h.2.1,EB h.2.2 h1 h2⟩
theorem Cx:∀ {L:Lg} {ls:List (List ax)},zN L ls->L.broken=false->L.taken<=L.ln->L.taken+total ls<=L.ln
 | L,[],_,_,ht=>by show L.taken+0<=_; omega
 | L,x :: r,h,hb,ht=>by
   have h2:=h.2.1;unfold Lg.room at h2;rw [hb] at h2;simp only [Bool.false_eq_true,if_false] at h2;have:=Cx (L:=L.pass (1+x.length)) (ls:=r) h.2.2 hb (by show L.taken+(1+x.length)<=L.ln; omega);have e:L.taken+(1+x.length)+total r<=L.ln:=this;show L.taken+(1+x.length+total r)<=L.ln;omega
theorem vW:∀ (ls:List (List ax)) (k:Nat),total (ls.take k)<=total ls
 | [],k=>by simp [total]
 | x :: r,0=>Nat.zero_le _
 | x :: r,k+1=>by show 1+x.length+total (r.take k)<=1+x.length+total r; have:=vW r k; omega
structure TJ (B:Lg):Prop where
 taken:B.taken=0
 broken:B.broken=false
 tail:B.tail < B.ln
structure Ring (S:St) (B:Lg) (ls:List (List ax)) (bad:Option (List ax)) (sure:Nat) (L:Lg):Prop where
 base:TJ B
 fit:zN B ls
 now:∀ o,o < total ls->S.now (B.sec o)=jd B ls o
 yU:∀ o c,o < total ls->iQ S (B.sec o) c->c=jd B ls o\/Old B.ep B.seq c
 most:sure<=ls.length
 held:∀ o c,o < total (ls.take sure)->iQ S (B.sec o) c->c=jd B ls o
 rest:∀ o c,total ls<=o->o < B.ln->iQ S (B.sec o) c->Old B.ep B.seq c\/∃ lb,bad=some lb/\o - total ls < B.ln - (passes B ls).tail/\c=sec (bR (passes B ls).ep (passes B ls).seq lb) (o - total ls)
 half:∀ lb,bad=some lb->Fit (passes B ls) lb/\B.ln - (passes B ls).tail < 1+lb.length/\1+lb.length<=(passes B ls).room
 tail:L.tail=(passes B ls).tail
 st:L.st=B.st
 ln:L.ln=B.ln
 ep:L.ep=B.ep
 taken:L.taken=total ls
 whole:L.broken=false->L.seq=B.seq+ls.length/\bad=none
 broke:L.broken=true->L.seq=B.seq+ls.length+1
theorem Ring.all {S:St} {B L:Lg} {ls:List (List ax)} {bad:Option (List ax)} {sure:Nat} (h:Ring S B ls bad sure L):total ls<=B.ln:=by
 have:=Cx h.fit h.base.broken (by rw [h.base.taken]; omega);rw [h.base.taken] at this;omega
theorem Ring.room {S:St} {B L:Lg} {ls:List (List ax)} {bad:Option (List ax)} {sure:Nat} (h:Ring S B ls bad sure L):(passes B ls).room=B.ln - total ls:=by
 have ha:=nX B ls;unfold Lg.room;rw [ha.broken,h.base.broken,ha.ln,ha.taken,h.base.taken,Nat.zero_add]
 rfl
theorem Ring.sec {S:St} {B L:Lg} {ls:List (List ax)} {bad:Option (List ax)} {sure:Nat} (h:Ring S B ls bad sure L) (i:Nat):L.sec i=B.sec (total ls+i):=by
 rw [<-F6];have ha:=nX B ls;unfold Lg.sec;rw [h.tail,h.st,h.ln,ha.st,ha.ln]
theorem Ring.sub {S T:St} {B L:Lg} {ls:List (List ax)} {bad:Option (List ax)} {sure:Nat} (h:Ring S B ls bad sure L) (h1:∀ p c,iQ T p c->iQ S p c) (h2:∀ p,T.now p=S.now p):Ring T B ls bad sure L :=
 { h with
  now:=λo ho=>(h2 _).trans (h.now o ho)
  yU:=λo c ho hc=>h.yU o c ho (h1 _ _ hc)
  held:=λo c ho hc=>h.held o c ho (h1 _ _ hc)
  rest:=λo c ho ho2 hc=>h.rest o c ho ho2 (h1 _ _ hc) }
theorem Ring.same {S T:St} {B L:Lg} {ls:List (List ax)} {bad:Option (List ax)} {sure:Nat} (h:Ring S B ls bad sure L) (h1:T.ag=S.ag) (h2:T.ae=S.ae):Ring T B ls bad sure L :=
 h.sub (λp c hc=>by unfold iQ at *; rw [h1,h2] at hc; exact hc) (λp=>by unfold St.now; rw [h1,h2])
theorem sI {S T:St} (h1:T.ag=S.now) (h2:∀ p,T.ae p=[]) {p:Nat} {c:List Nat} (h:iQ T p c):c=S.now p:=by
 rcases h with h | h
 · rw [h,h1]
 · rw [h2] at h; cases h
theorem Pt {S T:St} (h1:T.ag=S.now) (h2:∀ p,T.ae p=[]) (p:Nat):T.now p=S.now p:=by
 rw [St.nD (h2 p),h1]
theorem Ring.flush {S T:St} {B L:Lg} {ls:List (List ax)} {bad:Option (List ax)} {sure:Nat} (h:Ring S B ls bad sure L) (h1:T.ag=S.now) (h2:∀ p,T.ae p=[]):Ring T B ls bad ls.length L :=
 { h.sub (T:=T) (λp c hc=>by rw [sI h1 h2 hc]; exact AQ S p) (Pt h1 h2) with
  most:=Nat.le_refl _
  held:=λo c ho hc=>by
   rw [List.take_length] at ho;rw [sI h1 h2 hc];exact h.now o ho }
theorem Ring.old {S:St} {B L:Lg} {ls:List (List ax)} {bad:Option (List ax)} {sure:Nat} (h:Ring S B ls bad sure L) {o:Nat} {c:List Nat} (ho:o < B.ln) (hc:iQ S (B.sec o) c):Old B.ep L.seq c:=by
 have hq:B.seq+ls.length<=L.seq:=by
  cases hb:L.broken with
  | false=>have:=(h.whole hb).1; omega
  | true=>have:=h.broke hb; omega
 rcases Nat.lt_or_ge o (total ls) with ho2 | ho2
 · rcases h.yU o c ho2 hc with e | e
   · rw [e];exact (Ko h.fit o ho2).more (.inr ⟨rfl,hq⟩)
   · exact e.more (.inr ⟨rfl,by omega⟩)
 · rcases h.rest o c ho2 ho hc with e | ⟨lb,hb,hk,e⟩
   · exact e.more (.inr ⟨rfl,by omega⟩)
   · obtain ⟨hf,hl,_⟩:=h.half lb hb;have ha:=nX B ls;have hbr:L.seq=B.seq+ls.length+1:=by
      cases hbb:L.broken with
      | false=>have:=(h.whole hbb).2; rw [hb] at this; cases this
      | true=>exact h.broke hbb
     have:=IJ (ep:=(passes B ls).ep) (sq:=(passes B ls).seq) hf.ok hf.one hf.most hf.ep hf.seq (i:=o - total ls) (by omega);rw [e];exact this.more (.inr ⟨ha.ep,by rw [ha.seq,hbr]; omega⟩)
theorem Ring.new {S:St} {B:Lg} (hb:TJ B) (h:∀ o c,o < B.ln->iQ S (B.sec o) c->Old B.ep B.seq c) {L:Lg} (h1:L.tail=B.tail) (h2:L.st=B.st) (h3:L.ln=B.ln) (h4:L.ep=B.ep) (h5:L.taken=0) (h6:L.broken=false) (h7:L.seq=B.seq):Ring S B [] none 0 L where
 base:=hb
 fit:=trivial
 now:=λo ho=>by cases ho
 yU:=λo c ho _=>by cases ho
 most:=Nat.le_refl _
 held:=λo c ho _=>by cases ho
 rest:=λo c _ ho hc=>.inl (h o c ho hc)
 half:=λlb hb=>by cases hb
 tail:=h1
 st:=h2
 ln:=h3
 ep:=h4
 taken:=h5
 whole:=λ_=>⟨h7,rfl⟩
 broke:=λhh=>by rw [h6] at hh; cases hh
theorem Uk {B C:Lg} (h1:C.st=B.st) (h2:C.ln=B.ln) (hb:B.tail < B.ln) {o:Nat}:∃ o',o' < B.ln/\C.sec o=B.sec o':=by
 have hlt:=Nat.mod_lt (C.tail+o) (show 0 < B.ln by omega)
 by_cases hx:B.tail<=(C.tail+o) % B.ln
 · refine ⟨(C.tail+o) % B.ln - B.tail,by omega,?_⟩;rw [B.lS (by omega)];unfold Lg.sec;rw [h1,h2];omega
 · refine ⟨(C.tail+o) % B.ln+B.ln - B.tail,by omega,?_⟩;rw [B.qE (by omega) (by omega)];unfold Lg.sec;rw [h1,h2];omega
theorem Ring.drop {S T:St} {B L:Lg} {ls:List (List ax)} {bad:Option (List ax)} {sure:Nat} (h:Ring S B ls bad sure L) (h1:∀ p c,iQ T p c->iQ S p c) {C:Lg} (hc:TJ C) (e1:C.st=B.st) (e2:C.ln=B.ln) (e3:C.ep=B.ep) (e4:C.tail=L.tail) (e5:C.seq=L.seq):Ring T C [] none 0 L.drop:=by
 refine Ring.new hc (λo c _ hh=>?_) e4.symm (h.st.trans e1.symm) (h.ln.trans e2.symm) (h.ep.trans e3.symm) rfl rfl e5.symm;obtain ⟨o',ho,e⟩:=Uk e1 e2 h.base.tail (o:=o);rw [e] at hh;rw [e3,e5];exact h.old ho (h1 _ _ hh)
structure Tv (S T:St) (L M:Lg):Prop where
 n:T.n=S.n
 lens:∀ p,(T.ae p).length<=(S.ae p).length+1
 seq:M.seq<=L.seq+1
theorem Tv.stay (S:St) (L:Lg):Tv S S L L:=⟨rfl,λ_=>Nat.le_succ _,Nat.le_succ _⟩
theorem lH {S T:St} {p:Nat} {c:List Nat} (h1:T.ag=S.ag) (h2:T.ae p=S.ae p) (h:iQ T p c):iQ S p c:=by
 unfold iQ at *;rw [h1,h2] at h;exact h
theorem DC {S T:St} {p:Nat} {c v:List Nat} (h1:T.ag=S.ag) (h2:T.ae p=S.ae p ++ [v]) (h:iQ T p c):iQ S p c\/c=v:=by
 rcases h with h | h
 · exact .inl (.inl (by rw [h,h1]))
 · rw [h2] at h;rcases List.mem_append.1 h with h | h
   · exact .inl (.inr h)
   · exact .inr (by simpa using h)
theorem zm {S T:St} {p:Nat} (h1:T.ag=S.ag) (h2:T.ae p=S.ae p):T.now p=S.now p:=by
 unfold St.now; rw [h1,h2]
theorem Ring.append {S:St} {B L:Lg} {ls:List (List ax)} {bad:Option (List ax)} {sure:Nat} (h:Ring S B ls bad sure L) (hk:L.ok S.n) (l:List ax) :
 Tv S (aN S L l).2.1 L (aN S L l).2.2 /\
 (((aN S L l).1=0/\L.seq=B.seq+ls.length/\Ring (aN S L l).2.1 B (ls ++ [l]) none sure (aN S L l).2.2) \/
   ((aN S L l).1≠0/\∃ bad',Ring (aN S L l).2.1 B ls bad' sure (aN S L l).2.2)):=by
 by_cases gB:l.length<=40
 · by_cases hb:l.length=0\/eF [] l=false
   · rw [Tj gB hb]; exact ⟨.stay S L,.inr ⟨show (1:Int)≠0 from by decide,bad,h⟩⟩
   · have hl1:1<=l.length:=by omega
     have hm:eF [] l=true:=by
      cases hh:eF [] l with
      | true=>rfl
      | false=>exact absurd (.inr hh) hb
     by_cases hr:L.room < 1+l.length\/4294967295 < L.ep\/1099511627775 < L.seq
     · rw [EJ gB hl1 hm hr]; exact ⟨.stay S L,.inr ⟨show (15:Int)≠0 from by decide,bad,h⟩⟩
     · have hlr:=tL (ep:=L.ep) (sq:=L.seq) (wP hm) gB;have hrl:=Iz L;have hbr:L.broken=false:=by
        cases hb:L.broken with
        | false=>rfl
        | true =>
          have:L.room=0:=by unfold Lg.room; rw [hb]; rfl
          omega
       obtain ⟨hq,rfl⟩:=h.whole hbr;have ahH:L.room=B.ln - total ls:=by
        unfold Lg.room;rw [hbr,h.ln,h.taken]
        rfl
       have ha:=nX B ls;have fG:=h.ep;have hF:Fit (passes B ls) l:=⟨wP hm,hl1,gB,by rw [ha.ep]; omega,by rw [ha.seq]; omega⟩;have hrec:bR L.ep L.seq l=bR (passes B ls).ep (passes B ls).seq l:=by rw [fG,hq,ha.ep,ha.seq]
       have hroom:=h.room;have hall:=h.all;have hne:∀ o i,o < B.ln->total ls+i < B.ln->o≠total ls+i->B.sec o≠L.sec i:=λo i ho hi hx he=>by
        rw [h.sec] at he;exact hx (B.aab h.base.tail ho hi he)
       have hold:∀ o c,total ls<=o->o < B.ln->iQ S (B.sec o) c->Old B.ep B.seq c:=λo c h1 h2 hc=>by
        rcases h.rest o c h1 h2 hc with e | ⟨_,e,_⟩
        · exact e
        · cases e
       rw [EI gB hl1 hm hr];rcases Gq hk hlr (by omega) (by omega) with ⟨e0,hp⟩ | ⟨e0,e1,e2,e3,e4⟩
       · rw [if_pos e0];refine ⟨⟨hp.n,hp.lens,Nat.le_refl _⟩,.inl ⟨rfl,hq,?_⟩⟩;show Ring (bL S L _).2 B (ls ++ [l]) none sure (L.pass (1+l.length));generalize (bL S L (bR L.ep L.seq l)).2=T at hp;rw [hrec] at hp;exact {
          base:=h.base
          fit:=EB h.fit hF (by omega)
          now:=λo ho=>by
           rw [rJ] at ho
           by_cases ho2:o < total ls
           · rw [wG _ _ _ _ ho2,hp.same (λi hi=>hne o i (by omega) (by omega) (by omega))];exact h.now o ho2
           · obtain ⟨i,rfl⟩:∃ i,o=total ls+i:=⟨o - total ls,by omega⟩;rw [AP _ _ _ _ (by omega),<-h.sec,hp.now (by omega)]
          yU:=λo c ho hc=>by
           rw [rJ] at ho
           by_cases ho2:o < total ls
           · rw [wG _ _ _ _ ho2];exact h.yU o c ho2 (lH hp.ag (hp.far _ (λi hi=>hne o i (by omega) (by omega) (by omega))) hc)
           · obtain ⟨i,rfl⟩:∃ i,o=total ls+i:=⟨o - total ls,by omega⟩;rw [AP _ _ _ _ (by omega)];rw [<-h.sec] at hc;rcases DC hp.ag (hp.at_ i (by omega)) hc with e | e
             · rw [h.sec] at e;exact .inr (hold _ c (by omega) (by omega) e)
             · exact .inl e
          most:=by have:=h.most; rw [List.length_append]; omega
          held:=λo c ho hc=>by
           rw [List.take_append_of_le_length h.most] at ho;have:=vW ls sure;rw [wG _ _ _ _ (by omega)];exact h.held o c ho (lH hp.ag (hp.far _ (λi hi=>hne o i (by omega) (by omega) (by omega))) hc)
          rest:=λo c ho ho2 hc=>by
           rw [rJ] at ho;exact .inl (hold o c (by omega) ho2 (lH hp.ag (hp.far _ (λi hi=>hne o i (by omega) (by omega) (by omega))) hc))
          half:=λlb hb=>by cases hb
          tail:=by
           rw [Ef];show (L.tail+(1+l.length)) % L.ln=((passes B ls).tail+(1+l.length)) % (passes B ls).ln;rw [h.tail,h.ln,ha.ln]
          st:=h.st
          ln:=h.ln
          ep:=h.ep
          taken:=by
           rw [rJ,<-h.taken]
           rfl
          whole:=λ_=>⟨by
           rw [List.length_append];show L.seq+1=B.seq+(ls.length+1);omega,rfl⟩
          broke:=λhh=>by
           have:L.broken=true:=hh;rw [hbr] at this
           cases this }
       · rw [if_neg (by rw [e0]; decide)];have aeg:∀ p,((bL S L (bR L.ep L.seq l)).2.ae p).length<=(S.ae p).length+1:=by
          intro p;rcases e4 with e4 | ⟨_,e5,e6⟩
          · rw [e4]; omega
          · by_cases hp:∃ i,i < L.ln - L.tail/\p=L.sec i
            · obtain ⟨i,hi,rfl⟩:=hp;rw [e5 i hi]
              simp
            · rw [e6 p (λi hi e=>hp ⟨i,hi,e⟩)];omega
         refine ⟨⟨e2,aeg,Nat.le_refl _⟩,.inr ⟨by show (bL S L _).1≠0; rw [e0]; decide,?_⟩⟩;show ∃ bad',Ring (bL S L _).2 B ls bad' sure L.fail;rcases e4 with e4 | ⟨hlt,e5,e6⟩
         · exact ⟨none,{ h.same e3 e4 with
            whole:=λhh=>by cases hh
            broke:=λ_=>by show L.seq+1=_; omega }⟩
         · generalize (bL S L (bR L.ep L.seq l)).2=T at e2 e3 e5 e6;rw [hrec] at e5;have htl:=h.tail; have hln:=h.ln;have Sq:∀ o,o < B.ln->(∀ i,i < B.ln - (passes B ls).tail->o≠total ls+i)->T.ae (B.sec o)=S.ae (B.sec o):=λo ho hx=>e6 _ (λi hi=>hne o i ho (by omega) (hx i (by omega)))
           exact ⟨some l,{
            base:=h.base
            fit:=h.fit
            now:=λo ho=>by
             rw [zm e3 (Sq o (by omega) (λi _=>by omega))];exact h.now o ho
            yU:=λo c ho hc=>h.yU o c ho (lH e3 (Sq o (by omega) (λi _=>by omega)) hc)
            most:=h.most
            held:=λo c ho hc=>by
             have:=vW ls sure;exact h.held o c ho (lH e3 (Sq o (by omega) (λi _=>by omega)) hc)
            rest:=λo c ho ho2 hc=>by
             by_cases hx:o - total ls < B.ln - (passes B ls).tail
             · obtain ⟨i,rfl⟩:∃ i,o=total ls+i:=⟨o - total ls,by omega⟩;rw [<-h.sec] at hc;rcases DC e3 (e5 i (by omega)) hc with e | e
               · rw [h.sec] at e;exact .inl (hold _ c ho ho2 e)
               · exact .inr ⟨l,rfl,hx,by rw [e,Nat.add_sub_cancel_left]⟩
             · exact .inl (hold o c ho ho2 (lH e3 (Sq o ho2 (λi hi=>by omega)) hc))
            half:=λlb hb=>by
             obtain rfl:l=lb:=by simpa using hb
             exact ⟨hF,by omega,by omega⟩
            tail:=h.tail
            st:=h.st
            ln:=h.ln
            ep:=h.ep
            taken:=h.taken
            whole:=λhh=>by cases hh
            broke:=λ_=>by show L.seq+1=_; omega }⟩
 · rw [Ti (by omega)]; exact ⟨.stay S L,.inr ⟨show (16:Int)≠0 from by decide,bad,h⟩⟩
end Go.Proofs.YtinajlbijgedbaaGreat.Log
namespace Go.Proofs.YtinajlbijgedbaaGreat.Sto
open Go.RowKit CrcMath CodecMath Codec DiskSpec Dsk Sup Log
def dw (M:Nat) (v:List Nat):Prop:=∀ t,dK v=some t->t.getD 0 0<=(M:Int)/\t.getD 1 0<=(M:Int)
theorem dw.mono {M M':Nat} {v:List Nat} (h:dw M v) (hm:M<=M'):dw M' v:=λt ht=>by
 have:=h t ht;omega
attribute [local irreducible] aF aR dK frame cZ aX Two aL bR eF
section
variable {M M':Nat} {S:St} {s:Sto}
theorem XO (h:Two (dw M) S) {x:ax} (hx:0<=x.1):Two (dw M) (bJ S x).2:=h.far false _ (by omega)
theorem JW:∀ (l:List ax) {S:St},Two (dw M) S->(∀ x∈l,0<=x.1)->Two (dw M) (aO S l).2
 | [],S,h,_=>h
 | x :: r,S,h,hx=>by
   have h1:=XO h (hx x List.mem_cons_self);show Two _ (if (bJ S x).1=0 then aO (bJ S x).2 r else bJ S x).2
   split
   · exact JW r h1 λy hy=>hx y (List.mem_cons_of_mem _ hy)
   · exact h1
theorem Rl {D:aK}:∀ x∈rising D,0<=x.1:=λx hx=>by
 obtain ⟨k,hk,rfl⟩:=List.mem_map.1 hx;exact Int.natCast_nonneg k
theorem JX (h:Two (dw M) S) (D:aK):Two (dw M) (bn S D).2:=by
 have h1:=JW (rising D) h Rl;unfold bn
 split
 · exact h1.flush
 · exact h1
theorem tT (h:Two (dw M) S) {l:List Int} (hg:l.getD 0 0<=(M:Int)) (he:l.getD 1 0<=(M:Int)) (hl:l.length=7):Two (dw M) (ay S l).2:=by
 unfold ay
 split
 · rename_i hm
   have hw:=kI hm;have hlen:(frame (aX l)).length=256:=by
    by_cases lC:(frame (aX l)).length=256
    · exact lC
    · have h0:=DR _ lC;rw [BC hl hw] at h0
      cases h0
   refine h.one true _ hlen λt ht=>?_
   rw [BC hl hw] at ht
   cases ht
   exact ⟨hg,he⟩
 · exact h
theorem aay (h:Two (dw M) S) {L:Lg} (hL:2<=L.st) (l:List Nat):Two (dw M) (bL S L l).2:=by
 have h1:Two (dw M) (aF S false (L.st+L.tail:Nat) (l.take (L.ahead l.length))).2:=h.far false _ (by omega);unfold bL
 split
 · exact h1
 · split
   · exact h1
   · exact h1.far false _ (by omega)
theorem RU (h:Two (dw M) S) {L:Lg} (hL:2<=L.st) (l:List ax):Two (dw M) (aN S L l).2.1/\(aN S L l).2.2.st=L.st:=by
 have h1:=aay h hL (bR L.ep L.seq l);unfold aN
 repeat' split
 all_goals first
  | exact ⟨h,rfl⟩
  | exact ⟨h1,rfl⟩
structure dJ (M:Nat) (s:Sto):Prop where
 two:Two (dw M) s.S
 gn:s.x.gn<=M
 ep:s.x.ep<=M
 st:2<=s.L.st
theorem dJ.mono (h:dJ M s) (hm:M<=M'):dJ M' s:=⟨h.two.mono λ_ hl=>hl.mono hm,Nat.le_trans h.gn hm,Nat.le_trans h.ep hm,h.st⟩
theorem dJ.disk (h:dJ M s) {T:St} (ht:Two (dw M) T):dJ M (s.disk T):=⟨ht,h.gn,h.ep,h.st⟩
theorem XN {T:St} (h:Two (dw (M+1)) T) (hg:s.x.gn<=M) (he:s.x.ep<=M):Two (dw (M+1)) (ay T s.past.l).2:=by
 have h1:(((s.x.gn+1:Nat)):Int)<=((M+1:Nat):Int):=by omega
 have h2:((s.x.ep:Nat):Int)<=((M+1:Nat):Int):=by omega
 exact tT h h1 h2 rfl
theorem He {c:Prop} [Decidable c] {a b:Int × Sto} (ha:dJ M a.2) (hb:dJ M b.2):dJ M (if c then a else b).2:=by
 split
 · exact ha
 · exact hb
theorem RQ {T:St} (h:dJ M s) (hT:Two (dw (M+1)) T):dJ (M+1) (jZ s T).2:=by
 have h0:=h.mono (Nat.le_succ M);have h3:=XN hT h.gn h.ep;have hgn:s.x.gn+1<=M+1:=Nat.succ_le_succ h.gn;have key:∀ R:Int × St,Two (dw (M+1)) R.2->dJ (M+1) (if R.1=0 then ((0:Int),({ s with S:=R.2,L:=s.L.drop,x:=s.past,D:=aM }:Sto)) else (R.1,s.disk R.2)).2:=λR hR=>He ⟨hR,hgn,h0.ep,h.st⟩ (h0.disk hR)
 exact key _ h3
theorem Pw {T:St} (h:dJ M s) (hT:Two (dw (M+1)) T):dJ (M+1) (iU s T).2:=by
 have h2:=JX hT s.D;have h3:=RQ h h2;unfold iU;generalize bn T s.D=R at *;exact He h3 ((h.mono (Nat.le_succ M)).disk h2)
theorem dJ.ky (h:dJ M s):dJ (M+1) (bG s).2:=by
 have h0:=h.mono (Nat.le_succ M);have h1:=h0.two.flush;have h2:=Pw h h1;unfold bG;generalize aR s.S=F at *;exact He h0 (He h0 (He h2 (h0.disk h1)))
theorem dJ.checkpoint (h:dJ M s):dJ (M+1) (bZ s).2:=by
 unfold bZ
 split
 · exact h.mono (Nat.le_succ M)
 · exact h.ky
theorem dJ.log (h:dJ M s) (l:List ax):dJ M (fB s l).2:=by
 have h1:=RU h.two h.st l;exact ⟨h1.1,h.gn,h.ep,by show 2<=(aN s.S s.L l).2.2.st; rw [h1.2]; exact h.st⟩
theorem dJ.append (h:dJ M s) (l:List ax):dJ (M+1) (bN s l).2:=by
 have h1:=h.log l;have h2:=h1.ky;have h3:=h1.mono (Nat.le_succ M);unfold bN;generalize bG (fB s l).2=C at *;generalize fB s l=R at *;have h4:=h2.log l;unfold iI;generalize fB C.2 l=E at *
 split
 · split
   · exact h2
   · split
     · exact h4
     · exact h2
 · exact h3
theorem dJ.xD (h:dJ M s):dJ (M+1) (dh s).2:=by
 have h0:=h.mono (Nat.le_succ M);unfold dh
 split
 · exact h0
 · split
   · exact ⟨h0.two,h0.gn,h0.ep,h0.st⟩
   · rename_i U hW hU
     have h1:=h.append (rising U);unfold uD;generalize bN s (rising U)=R at *
     split
     · exact ⟨h1.two,h1.gn,h1.ep,h1.st⟩
     · exact ⟨h1.two,h1.gn,h1.ep,h1.st⟩
theorem dJ.sync (h:dJ M s):dJ M (kH s).2:=by
 unfold kH
 split
 · exact h
 · exact h.disk h.two.flush
theorem dJ.NZ (h:dJ M s):dJ M (fH s).2:=by
 unfold fH
 split
 · exact h
 · exact ⟨h.two,h.gn,h.ep,h.st⟩
theorem dJ.write (h:dJ M s) (p:Int) (q:Pg):dJ M (bQ s p q).2:=by
 unfold bQ
 repeat' split
 all_goals first
  | exact h
  | exact ⟨h.two,h.gn,h.ep,h.st⟩
end
def jo:List ax->ax->List ax
 | [],x=>[x]
 | a :: r,x=>if a.1 < x.1 then a :: jo r x else if a.1=x.1 then x :: r else x :: a :: r
theorem tN:∀ (l:List ax) (x:ax) (j:Nat),j<=l.length->(∀ i a,i < j->l[i]?=some a->a.1 < x.1) ->
 ((∀ a,l[j]?=some a->x.1 < a.1)->jo l x=l.take j ++ [x] ++ l.drop j)/\((∃ a,l[j]?=some a/\a.1=x.1)->jo l x=l.take j ++ [x] ++ l.drop (j+1))
 | [],x,j,hj,hlt=>by
   obtain rfl:j=0:=by simpa using hj
   exact ⟨λ_=>rfl,λ⟨a,h,_⟩=>by simp at h⟩
 | b :: r,x,0,_,_=>by
   refine ⟨λh=>?_,λ⟨a,h,e⟩=>?_⟩
   · have:=h b rfl;rw [jo,if_neg (by omega),if_neg (by omega)]; rfl
   · simp at h
     subst h;rw [jo,if_neg (by omega),if_pos e]; rfl
 | b :: r,x,j+1,hj,hlt=>by
   have hb:=hlt 0 b (by omega) rfl;obtain ⟨h1,h2⟩:=tN r x j (by simpa using hj) (λi a hi ha=>hlt (i+1) a (by omega) ha);refine ⟨λh=>?_,λh=>?_⟩
   · rw [jo,if_pos hb,h1 (λa ha=>h a ha)]; rfl
   · obtain ⟨a,ha,e⟩:=h;rw [jo,if_pos hb,h2 ⟨a,ha,e⟩]; rfl
def sW (D:aK):Nat->Nat->List ax
 | _,0=>[]
 | a,n+1=>match D a with
   | some p=>iY a p :: sW D (a+1) n
   | none=>sW D (a+1) n
theorem lh {D:aK} {a:Nat} {p:Pg} (h:D a=some p) (n:Nat):sW D a (n+1)=iY a p :: sW D (a+1) n:=by simp [sW,h]
theorem mE {D:aK} {a:Nat} (h:D a=none) (n:Nat):sW D a (n+1)=sW D (a+1) n:=by simp [sW,h]
theorem Gb {D:aK}:∀ {n a:Nat},∀ x∈sW D a n,(a:Int)<=x.1
 | 0,a,x,hx=>by simp [sW] at hx
 | n+1,a,x,hx=>by
   cases h:D a with
   | none =>
     rw [mE h] at hx;have:=Gb x hx; omega
   | some p =>
     rw [lh h,List.mem_cons] at hx;rcases hx with rfl | hx
     · exact Int.le_refl _
     · have:=Gb x hx; omega
theorem D5 {D:aK} {k:Nat} {p:Option Pg}:∀ {n a:Nat},k < a->sW (upd D k p) a n=sW D a n
 | 0,a,_=>rfl
 | n+1,a,h=>by
   have ih:=D5 (D:=D) (p:=p) (n:=n) (a:=a+1) (show k < a+1 by omega);have e:upd D k p a=D a:=upd_ne _ _ (by omega)
   cases hd:D a with
   | none=>rw [mE (e.trans hd),mE hd,ih]
   | some q=>rw [lh (e.trans hd),lh hd,ih]
theorem Rw {l:List ax} {x:ax} (h:∀ a∈l,x.1 < a.1):jo l x=x :: l:=by
 cases l with
 | nil=>rfl
 | cons a r =>
   have:=h a (by simp);rw [jo,if_neg (by omega),if_neg (by omega)]
theorem Mv {D:aK} {k:Nat} {p:Pg}:∀ {n a:Nat},a<=k->k < a+n->jo (sW D a n) (iY k p)=sW (upd D k (some p)) a n
 | 0,a,h1,h2=>by omega
 | n+1,a,h1,h2=>by
   by_cases e:a=k
   · subst e;have hf:=D5 (D:=D) (p:=some p) (n:=n) (show a < a+1 by omega);rw [lh (show upd D a (some p) a=some p from upd_same _ _ _),hf]
     cases hd:D a with
     | none =>
       rw [mE hd];exact Rw (λx hx=>by have:=Gb x hx; show (a:Int) < x.1; omega)
     | some q =>
       rw [lh hd,jo,if_neg (by show ¬ (a:Int) < (a:Int); omega),if_pos (show (iY a q).1=(iY a p).1 from rfl)]
   · have ih:=Mv (D:=D) (k:=k) (p:=p) (n:=n) (a:=a+1) (by omega) (by omega);have e2:upd D k (some p) a=D a:=upd_ne _ _ e
     cases hd:D a with
     | none=>rw [mE hd,mE (e2.trans hd),ih]
     | some q =>
       rw [lh hd,lh (e2.trans hd),jo,if_pos (by show (a:Int) < (k:Int); omega),ih]
theorem zV (D:aK):rising D=sW D 0 1024:=by
 have key:∀ n a,((List.range' a n).filter λk=>(D k).isSome).map (λk=>iY k ((D k).getD (0,[])))=sW D a n:=by
  intro n
  induction n with
  | zero=>intro a; rfl
  | succ n ih =>
    intro a;rw [List.range'_succ]
    cases hd:D a with
    | none=>rw [List.filter_cons_of_neg (by simp [hd]),mE hd,ih]
    | some p=>rw [List.filter_cons_of_pos (by simp [hd]),List.map_cons,ih,lh hd,hd]; rfl
 have:=key 1024 0;rw [<-this];unfold rising keys;generalize 1024=N;rw [List.range_eq_range']
theorem yP {D:aK} {k:Nat} (hk:k < 1024) (p:Pg):jo (rising D) (iY k p)=rising (upd D k (some p)):=by
 rw [zV,zV];exact Mv (by omega) (by omega)
def nK (l:List ax) (p:Int):Option ax:=l.find? λx=>decide (x.1=p)
theorem Ki {D:aK} {k:Nat}:∀ {n a:Nat},a<=k->k < a+n->nK (sW D a n) (k:Int)=(D k).map (iY k)
 | 0,a,h1,h2=>by omega
 | n+1,a,h1,h2=>by
   by_cases e:a=k
   · subst e
     cases hd:D a with
     | none =>
       rw [mE hd];have:nK (sW D (a+1) n) (a:Int)=none:=by
        unfold nK;rw [List.find?_eq_none];intro x hx;have:=Gb x hx
        simp; omega
       rw [this]; rfl
     | some q =>
       rw [lh hd,nK,List.find?_cons_of_pos (by show decide ((a:Int)=(a:Int))=true; simp)]; rfl
   · have ih:=Ki (D:=D) (k:=k) (n:=n) (a:=a+1) (by omega) (by omega)
     cases hd:D a with
     | none=>rw [mE hd,ih]
     | some q =>
       rw [lh hd,nK,List.find?_cons_of_neg (by show ¬ decide ((a:Int)=(k:Int))=true; simp; omega)];exact ih
theorem ND {D:aK} {k:Nat} (hk:k < 1024):nK (rising D) (k:Int)=(D k).map (iY k):=by
 rw [zV];exact Ki (by omega) (by omega)
end Go.Proofs.YtinajlbijgedbaaGreat.Sto
