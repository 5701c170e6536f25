/- Texts of this seat's proofs: CrcMath, CrcBurst, CodecMath, DiskSpec, DiskSays, SupTwo. -/

namespace Go.Proofs.YtinajlbijgedbaaGreat.CrcMath
def L (x:Nat):Nat:=x / 2 ^^^ (if x % 2=1 then 2197175160 else 0)
def Lk:Nat->Nat->Nat
 | 0,x=>x
 | k+1,x=>L (Lk k x)
def B (s b:Nat):Nat:=Lk 8 (s ^^^ b)
def C (s:Nat) (l:List Nat):Nat:=l.foldl B s
def M (s:Nat) (l:List Nat):Nat:=4294967295 - C (4294967295 - s) l
theorem agI {x:Nat} (h:x < 4294967296):L x < 4294967296:=by
 unfold L;exact Nat.xor_lt_two_pow (n:=32) (by omega) (by split <;> omega)
theorem Lj {x:Nat} (h:x < 4294967296) (k:Nat):Lk k x < 4294967296:=by
 induction k with
 | zero=>exact h
 | succ k ih=>exact agI ih
theorem ahj {s b:Nat} (h:s < 4294967296) (hb:b < 256):B s b < 4294967296 :=
 Lj (Nat.xor_lt_two_pow (n:=32) h (by omega)) 8
theorem ad1 (l:List Nat):∀ {s:Nat},s < 4294967296->(∀ b∈l,b < 256)->C s l < 4294967296:=by
 induction l with
 | nil=>intro s h _; exact h
 | cons b l ih =>
   intro s h hl;exact ih (ahj h (hl b (by simp))) (λc hc=>hl c (by simp [hc]))
theorem WZ (s:Nat) (l:List Nat) (b:Nat):C s (l ++ [b])=B (C s l) b:=by
 simp [C,List.foldl_append]
theorem Jf (s:Nat) (l:List Nat):M s l < 4294967296:=by unfold M; omega
theorem Yp (x y:Nat):(x ^^^ y) / 2=x / 2 ^^^ y / 2:=by
 have:=Nat.shiftRight_xor_distrib (a:=x) (b:=y) (i:=1)
 simpa [Nat.shiftRight_succ] using this
theorem aau (x y:Nat):((x ^^^ y) % 2=1)=((x % 2=1)≠(y % 2=1)):=by
 have h:=Nat.testBit_xor x y 0;simp only [Nat.testBit_zero] at h;rcases Nat.mod_two_eq_zero_or_one x with hx | hx <;> rcases Nat.mod_two_eq_zero_or_one y with hy | hy <;> simp [hx,hy] at h ⊢ <;> exact h
theorem aeq (x y:Nat):L (x ^^^ y)=L x ^^^ L y:=by
 have e:∀ a b c d:Nat,(a ^^^ b) ^^^ (c ^^^ d)=(a ^^^ c) ^^^ (b ^^^ d):=by
  intro a b c d;rw [Nat.xor_assoc,Nat.xor_assoc,<-Nat.xor_assoc b c d,Nat.xor_comm b c,Nat.xor_assoc c b d]
 unfold L;rw [Yp,e]
 congr 1
 simp only [aau]
 by_cases hx:x % 2=1 <;> by_cases hy:y % 2=1 <;> simp [hx,hy]
theorem acN (k x y:Nat):Lk k (x ^^^ y)=Lk k x ^^^ Lk k y:=by
 induction k with
 | zero=>rfl
 | succ k ih=>show L _=_; rw [ih,aeq]; rfl
theorem YM (k x:Nat):Lk k (2 ^ k * x)=x:=by
 induction k generalizing x with
 | zero=>simp [Lk]
 | succ k ih =>
   show L _=_;rw [show 2 ^ (k+1) * x=2 ^ k * (2 * x) from by rw [Nat.pow_succ,Nat.mul_assoc],ih]
   simp [L]
theorem Xi (s:Nat):s=s % 256 ^^^ 256 * (s / 256):=by
 apply Nat.eq_of_testBit_eq
 intro i;rw [Nat.testBit_xor,show (256:Nat)=2 ^ 8 from rfl,Nat.testBit_mod_two_pow,Nat.testBit_two_pow_mul]
 by_cases h:i < 8
 · simp [h,show ¬ 8<=i from by omega]
 · have h8:8<=i:=by omega
   simp only [h,decide_false,Bool.false_and,ge_iff_le,h8,decide_true,Bool.true_and,Bool.false_xor];rw [Nat.testBit_div_two_pow]
   congr 1
   omega
theorem aaW (s b:Nat):Lk 8 ((s % 256) ^^^ b) ^^^ s / 256=B s b:=by
 unfold B;have h:s ^^^ b=(s % 256 ^^^ b) ^^^ 2 ^ 8 * (s / 256):=by
  rw [Nat.xor_assoc,Nat.xor_comm b,<-Nat.xor_assoc]
  congr 1
  exact Xi s
 rw [h,acN _ (s % 256 ^^^ b),YM]
theorem RL {x:Nat} (h:x < 4294967296):4294967295 - x=x ^^^ 4294967295:=by
 have h1:x &&& 4294967295=x:=by
  rw [show (4294967295:Nat)=2 ^ 32 - 1 from rfl,Nat.and_two_pow_sub_one_eq_mod]; omega
 apply Nat.eq_of_testBit_eq
 intro i;rw [show (4294967295:Nat) - x=2 ^ 32 - (x+1) from by omega,Nat.testBit_two_pow_sub_succ h,Nat.testBit_xor,show (4294967295:Nat)=2 ^ 32 - 1 from rfl,Nat.testBit_two_pow_sub_one]
 by_cases hi:i < 32
 · simp [hi]
 · have:x.testBit i=false:=Nat.testBit_lt_two_pow (Nat.lt_of_lt_of_le h (Nat.pow_le_pow_right (n:=2) (by omega) (show 32<=i by omega)))
   simp [hi,this]
end Go.Proofs.YtinajlbijgedbaaGreat.CrcMath
namespace Go.Proofs.YtinajlbijgedbaaGreat.CodecMath
open CrcMath
def be:Nat->Nat->List Nat
 | 0,_=>[]
 | k+1,n=>n / 256 ^ k % 256 :: be k n
def num (l:List Nat) (a:Nat):Nat->Nat
 | 0=>0
 | k+1=>256 * num l a k+l.getD (a+k) 0
theorem aY (k n:Nat):(be k n).length=k:=by
 induction k with
 | zero=>rfl
 | succ k ih=>simp [be,ih]
theorem sJ (k n:Nat):∀ x∈be k n,x < 256:=by
 induction k with
 | zero=>simp [be]
 | succ k ih =>
   intro x hx;rcases List.mem_cons.1 hx with rfl | hx
   · exact Nat.mod_lt _ (by omega)
   · exact ih x hx
theorem aaR (k n:Nat):be (k+1) n=be k (n / 256) ++ [n % 256]:=by
 induction k with
 | zero=>simp [be]
 | succ k ih =>
   show n / 256 ^ (k+1) % 256 :: be (k+1) n=(n / 256 / 256 ^ k % 256 :: be k (n / 256)) ++ [n % 256];rw [ih,Nat.pow_succ,Nat.mul_comm,Nat.div_div_eq_div_mul]
   rfl
theorem QF (k n i:Nat) (h:i < k):(be k n).take (k - i)=(be k n).take (k - (i+1)) ++ [n / 256 ^ i % 256]:=by
 induction k with
 | zero=>omega
 | succ k ih =>
   by_cases hi:i=k
   · subst hi;rw [show i+1 - i=1 from by omega,Nat.sub_self]
     rfl
   · rw [show k+1 - i=(k - i)+1 from by omega,show k+1 - (i+1)=(k - (i+1))+1 from by omega];show _ :: (be k n).take (k - i)=(_ :: (be k n).take (k - (i+1))) ++ _;rw [ih (by omega)]
     rfl
theorem TV (i:Nat):2 ^ (8 * i)=256 ^ i:=by rw [Nat.pow_mul]
theorem Kg (p q:List Nat) (j:Nat) (h:j < p.length):(p ++ q).getD j 0=p.getD j 0:=by
 simp [List.getD_eq_getElem?_getD,List.getElem?_append_left h]
theorem GR (p q:List Nat) (j:Nat) (h:p.length<=j):(p ++ q).getD j 0=q.getD (j - p.length) 0:=by
 simp [List.getD_eq_getElem?_getD,List.getElem?_append_right h]
theorem abn (l:List Nat) (a k:Nat):∀ p:List Nat,p.length=k->(∀ j,j < k->l.getD (a+j) 0=p.getD j 0)->num l a k=p.foldl (λs b=>256 * s+b) 0:=by
 induction k with
 | zero=>intro p hp _; simp [List.eq_nil_of_length_eq_zero hp,num]
 | succ k ih =>
   intro p hp h;obtain ⟨q,b,rfl⟩:∃ q b,p=q ++ [b]:=⟨p.dropLast,p.getLast (by intro e; simp [e] at hp),(List.dropLast_concat_getLast _).symm⟩;have hq:q.length=k:=by simpa using hp
   rw [List.foldl_append];show 256 * num l a k+_=256 * (q.foldl _ 0)+b;rw [ih q hq (λj hj=>by rw [h j (by omega),Kg _ _ _ (by omega)])]
   congr 1
   rw [h k (by omega),GR _ _ _ (by omega)]
   simp [hq]
theorem aaI (k n:Nat):(be k n).foldl (λs b=>256 * s+b) 0=n % 256 ^ k:=by
 induction k generalizing n with
 | zero=>simp [be,Nat.mod_one]
 | succ k ih =>
   rw [aaR,List.foldl_append,ih];show 256 * (n / 256 % 256 ^ k)+n % 256=_;rw [Nat.pow_succ,Nat.mul_comm (256 ^ k),Nat.mod_mul];omega
theorem IK (p q:List Nat) (k n:Nat) (h:n < 256 ^ k):num (p ++ (be k n ++ q)) p.length k=n:=by
 rw [abn _ _ _ (be k n) (aY k n) (λj hj=>?_),aaI,Nat.mod_eq_of_lt h];rw [GR _ _ _ (by omega),show p.length+j - p.length=j from by omega,Kg _ _ _ (by rw [aY]; exact hj)]
theorem MG (l:List Nat) (a k:Nat) (h:∀ x∈l,x < 256):num l a k < 256 ^ k:=by
 induction k with
 | zero=>simp [num]
 | succ k ih =>
   have hb:l.getD (a+k) 0 < 256:=by
    rw [List.getD_eq_getElem?_getD];rcases Nat.lt_or_ge (a+k) l.length with h1 | h1
    · rw [List.getElem?_eq_getElem h1]; exact h _ (List.getElem_mem h1)
    · rw [List.getElem?_eq_none h1]; decide
   show 256 * num l a k+l.getD (a+k) 0 < _;rw [Nat.pow_succ];omega
def rZ (s:Nat):List Nat:=[s % 256,s / 256 % 256,s / 65536 % 256,s / 16777216 % 256]
def fill (l:List Nat) (n:Nat):List Nat:=l ++ List.replicate (n - l.length) 0
def frame (l:List Nat):List Nat:=fill l 252 ++ rZ (M 0 (fill l 252))
theorem mI (s:Nat):(rZ s).length=4:=rfl
theorem aby (s:Nat):∀ x∈rZ s,x < 256:=by
 intro x hx
 simp [rZ] at hx
 omega
theorem aT (l:List Nat) (n:Nat) (h:l.length<=n):(fill l n).length=n:=by simp [fill]; omega
theorem I8 (l:List Nat) (n:Nat) (h:∀ x∈l,x < 256):∀ x∈fill l n,x < 256:=by
 intro x hx;rcases List.mem_append.1 hx with hx | hx
 · exact h x hx
 · have:=(List.mem_replicate.1 hx).2; omega
theorem VT (l:List Nat) (n:Nat) (h:n<=l.length):fill l n=l:=by simp [fill,Nat.sub_eq_zero_of_le h]
theorem Yt (l:List Nat) (n:Nat) (h:l.length < n):fill l n=fill (l ++ [0]) n:=by
 simp only [fill,List.length_append,List.length_singleton,List.append_assoc]
 congr 1
 rw [show n - l.length=(n - (l.length+1))+1 from by omega,List.replicate_succ]
 rfl
theorem cz (l:List Nat) (h:l.length<=252):(frame l).length=256:=by simp [frame,aT l 252 h,mI]
theorem jY (l:List Nat) (h:∀ x∈l,x < 256):∀ x∈frame l,x < 256:=by
 intro x hx;rcases List.mem_append.1 hx with hx | hx
 · exact I8 l 252 h x hx
 · exact aby _ x hx
end Go.Proofs.YtinajlbijgedbaaGreat.CodecMath
namespace Go.Proofs.YtinajlbijgedbaaGreat.DiskSpec
structure St where
 n:Nat
 ag:Nat->List Nat
 ae:Nat->List (List Nat)
 f1:Nat
 f2:Nat
 f3:Nat
 left:Int
def l6 (l:List Nat):Prop:=l.length=256/\∀ x∈l,x < 256
structure St.ok (S:St):Prop where
 pos:1<=S.n
 top:S.n<=4096
 ag:∀ i,l6 (S.ag i)
 ae:∀ i,∀ v∈S.ae i,l6 v
 out:∀ i,S.n<=i->S.ae i=[]
 f1:S.f1<=1099511627776
 f2:S.f2<=1099511627776
 f3:S.f3<=1099511627776
 l0:-1<=S.left
 l1:S.left<=1099511627776
def upd {α:Type} (f:Nat->α) (i:Nat) (a:α):Nat->α:=λj=>if j=i then a else f j
theorem upd_same {α:Type} (f:Nat->α) (i:Nat) (a:α):upd f i a i=a:=by simp [upd]
theorem upd_ne {α:Type} (f:Nat->α) {i j:Nat} (a:α) (h:j≠i):upd f i a j=f j:=by simp [upd,h]
def St.now (S:St) (i:Nat):List Nat:=(S.ae i).getLastD (S.ag i)
def St.settle (S:St) (i:Nat):St:={ S with ag:=upd S.ag i (S.now i),ae:=upd S.ae i [] }
def St.add (S:St) (i:Nat) (v:List Nat):St:={ S with ae:=upd S.ae i (S.ae i ++ [v]) }
def St.put (S:St) (bq:Bool) (i:Nat) (v:List Nat):St:=if bq then (S.add i v).settle i else S.add i v
def sec (l:List Nat) (j:Nat):List Nat:=(l.drop (256 * j)).take 256
def St.puts (S:St) (bq:Bool) (at_:Nat) (l:List Nat):Nat->St
 | 0=>S
 | j+1=>(S.puts bq at_ l j).put bq (at_+j) (sec l j)
def tick (l:Int):Int:=if 0 < l then l - 1 else l
def St.done (S:St):St:={ S with left:=tick S.left }
def St.flush (S:St):St:={ S with ag:=S.now,ae:=λ_=>[] }
def St.aJ (S:St):List Nat:=(List.range S.n).filter λk=>!(S.ae k).isEmpty
def ja (d:List Nat) (vs:List (List Nat)) (p:Int):List Nat :=
 if (p % (vs.length+1:Int)).toNat=0 then d else vs.getD ((p % (vs.length+1:Int)).toNat - 1) d
def St.gm (S:St) (picks:List Int):St :=
 { S with ag:=λi=>ja (S.ag i) (S.ae i) (picks.getD (S.aJ.idxOf i) 0),ae:=λ_=>[],f1:=0,f2:=0,f3:=0,left:=-1 }
def zeros:List Nat:=List.replicate 256 0
def St.new (n:Nat):St:=⟨n,λ_=>zeros,λ_=>[],0,0,0,-1⟩
def St.has (S:St) (at_ count:Int):Bool:=decide (0<=at_) && (decide (1<=count) && decide (count<=S.n - at_))
def St.reads (S:St) (at_:Nat):Nat->List Nat
 | 0=>[]
 | j+1=>S.reads at_ j ++ S.now (at_+j)
theorem l6.zero:l6 zeros:=⟨List.length_replicate,λx hx=>by rw [(List.mem_replicate.1 hx).2]; omega⟩
theorem St.jU {S:St} (h:S.ok) (i:Nat):l6 (S.now i):=by
 unfold St.now
 cases hv:(S.ae i).getLast? with
 | none =>
   have:S.ae i=[]:=List.getLast?_eq_none_iff.1 hv;rw [this]; exact h.ag i
 | some v =>
   have hm:v∈S.ae i:=List.mem_of_getLast? hv;rw [List.getLastD_eq_getLast?,hv];exact h.ae i v hm
theorem St.nD {S:St} {i:Nat} (h:S.ae i=[]):S.now i=S.ag i:=by simp [St.now,h]
theorem P9 {l:List Nat} {j:Nat} (h:256 * (j+1)<=l.length) (hl:∀ x∈l,x < 256):l6 (sec l j) :=
 ⟨by simp [sec]; omega,λx hx=>hl x (List.mem_of_mem_drop (List.mem_of_mem_take hx))⟩
theorem rV {S:St} (h:S.ok) (a:Nat):∀ k,(S.reads a k).length=256 * k
 | 0=>rfl
 | k+1=>by rw [St.reads,List.length_append,rV h a k,(S.jU h _).1]; omega
theorem Mq {S:St} (h:S.ok) (a:Nat):∀ k,∀ x∈S.reads a k,x < 256
 | 0=>by simp [St.reads]
 | k+1=>by
   intro x hx;rcases List.mem_append.1 hx with hx | hx
   · exact Mq h a k x hx
   · exact (S.jU h _).2 x hx
theorem St.ok.add {S:St} (h:S.ok) {i:Nat} (hi:i < S.n) {v:List Nat} (hv:l6 v):(S.add i v).ok where
 pos:=h.pos
 top:=h.top
 ag:=h.ag
 ae j u hu:=by
  have hu':u∈upd S.ae i (S.ae i ++ [v]) j:=hu;unfold upd at hu'; split at hu'
  · rcases List.mem_append.1 hu' with h1 | h1
    · exact h.ae i u h1
    · simp at h1; subst h1; exact hv
  · exact h.ae j u hu'
 out j hj:=by
  have hj':S.n<=j:=hj;show upd S.ae i (S.ae i ++ [v]) j=[];rw [upd_ne _ _ (by omega)]; exact h.out j hj'
 f1:=h.f1
 f2:=h.f2
 f3:=h.f3
 l0:=h.l0
 l1:=h.l1
theorem ad7 (S:St) (bq:Bool) (i:Nat) (v:List Nat):(S.put bq i v).n=S.n:=by unfold St.put; split <;> rfl
theorem wW (S:St) (bq:Bool) (a:Nat) (l:List Nat):∀ k,(S.puts bq a l k).n=S.n
 | 0=>rfl
 | k+1=>by rw [St.puts,ad7,wW S bq a l k]
theorem DN {l:Int} (h0:-1<=l) (h1:l<=1099511627776):-1<=tick l/\tick l<=1099511627776:=by
 unfold tick; split <;> omega
theorem St.ok.done {S:St} (h:S.ok):S.done.ok:={ h with l0:=(DN h.l0 h.l1).1,l1:=(DN h.l0 h.l1).2 }
theorem Rx {d:List Nat} {vs:List (List Nat)} (hd:l6 d) (hv:∀ v∈vs,l6 v) (p:Int):l6 (ja d vs p):=by
 unfold ja; split
 · exact hd
 · rw [List.getD_eq_getElem?_getD]
   cases hg:vs[(p % (vs.length+1:Int)).toNat - 1]? with
   | none=>exact hd
   | some v=>exact hv v (List.mem_of_getElem? hg)
theorem Ry (d:List Nat) (p:Int):ja d [] p=d:=by
 unfold ja; simp
theorem Ee (d:List Nat) (vs:List (List Nat)):ja d vs 0=d:=by simp [ja]
theorem St.ok.gm {S:St} (h:S.ok) (picks:List Int):(S.gm picks).ok where
 pos:=h.pos
 top:=h.top
 ag i:=Rx (h.ag i) (h.ae i) _
 ae _ _ hv:=by cases hv
 out _ _:=rfl
 f1:=by simp [St.gm]
 f2:=by simp [St.gm]
 f3:=by simp [St.gm]
 l0:=by simp [St.gm]
 l1:=by simp [St.gm]
theorem St.ok.new {n:Nat} (h1:1<=n) (h2:n<=4096):(St.new n).ok :=
 ⟨h1,h2,λ_=>l6.zero,λ_ _ hv=>(by cases hv),λ_ _=>rfl,Nat.zero_le _,Nat.zero_le _,Nat.zero_le _,Int.le_refl _,by show (-1:Int)<=1099511627776; omega⟩
theorem ow {S:St} (i:Nat):i∈S.aJ↔i < S.n/\S.ae i≠[]:=by
 simp [St.aJ,List.mem_filter]
theorem uE (S:St):S.aJ.Nodup:=List.Pairwise.filter _ List.nodup_range
def St.settles (S:St) (l:List Nat):St:=l.foldl St.settle S
theorem BI (S:St) (l:List Nat) (i:Nat):S.settles (l ++ [i])=(S.settles l).settle i:=by simp [St.settles]
theorem rR (S:St):∀ (l:List Nat) (i:Nat),((S.settles l).ag i=if i∈l then S.now i else S.ag i)/\((S.settles l).ae i=if i∈l then [] else S.ae i):=by
 intro l
 induction l generalizing S with
 | nil=>intro i; simp [St.settles]
 | cons a l ih =>
   intro i;have h:=ih (S.settle a) i;have e:S.settles (a :: l)=(S.settle a).settles l:=rfl;rw [e,h.1,h.2]
   by_cases hi:i=a
   · subst hi
     constructor
     · simp only [List.mem_cons,true_or,if_true]
       split
       · simp [St.now,St.settle,upd]
       · simp [St.settle,upd]
     · simp only [List.mem_cons,true_or,if_true]
       split
       · rfl
       · simp [St.settle,upd]
   · have e1:(S.settle a).now i=S.now i:=by simp [St.now,St.settle,upd,hi]
     have e2:(S.settle a).ag i=S.ag i:=by simp [St.settle,upd,hi]
     have e3:(S.settle a).ae i=S.ae i:=by simp [St.settle,upd,hi]
     rw [e1,e2,e3]
     simp [hi]
theorem rQ (S:St):∀ l,(S.settles l).n=S.n/\(S.settles l).f1=S.f1/\(S.settles l).f2=S.f2/\(S.settles l).f3=S.f3/\(S.settles l).left=S.left:=by
 intro l
 induction l generalizing S with
 | nil=>exact ⟨rfl,rfl,rfl,rfl,rfl⟩
 | cons a l ih=>exact ih (S.settle a)
theorem St.ext' {S T:St} (h1:S.n=T.n) (h2:S.ag=T.ag) (h3:S.ae=T.ae) (h4:S.f1=T.f1) (h5:S.f2=T.f2) (h6:S.f3=T.f3) (h7:S.left=T.left):S=T:=by
 cases S; cases T; simp_all
theorem O5 {S:St} (h:S.ok):S.settles S.aJ=S.flush:=by
 obtain ⟨r1,r2,r3,r4,r5⟩:=rQ S S.aJ;refine St.ext' r1 (funext λi=>?_) (funext λi=>?_) r2 r3 r4 r5
 · rw [(rR S S.aJ i).1]
   split
   · rfl
   · rename_i hi
     have:S.ae i=[]:=by
      rcases Nat.lt_or_ge i S.n with hn | hn
      · exact Classical.byContradiction λhne=>hi ((ow i).2 ⟨hn,hne⟩)
      · exact h.out i hn
     exact (St.nD this).symm
 · rw [(rR S S.aJ i).2]
   split
   · rfl
   · rename_i hi
     show S.ae i=[];rcases Nat.lt_or_ge i S.n with hn | hn
     · exact Classical.byContradiction λhne=>hi ((ow i).2 ⟨hn,hne⟩)
     · exact h.out i hn
def St.bY (S:St) (picks:List Int) (k:Nat):Nat->List Nat :=
 λi=>if S.aJ.idxOf i < k then ja (S.ag i) (S.ae i) (picks.getD (S.aJ.idxOf i) 0) else S.ag i
theorem Be (S:St) (picks:List Int):S.bY picks 0=S.ag:=by funext i; simp [St.bY]
theorem vI (S:St) (picks:List Int) {k a:Nat} (hk:S.aJ[k]?=some a) :
 S.bY picks (k+1)=upd (S.bY picks k) a (ja (S.ag a) (S.ae a) (picks.getD k 0)):=by
 have hkl:k < S.aJ.length:=(List.getElem?_eq_some_iff.1 hk).1;have hka:S.aJ[k]=a:=(List.getElem?_eq_some_iff.1 hk).2;have hid:S.aJ.idxOf a=k:=by
  rw [<-hka];exact (uE S).idxOf_getElem k hkl
 funext i
 by_cases hi:i=a
 · subst hi
   simp [St.bY,upd,hid]
 · have hne:S.aJ.idxOf i≠k:=by
    intro e;have hil:S.aJ.idxOf i < S.aJ.length:=by omega
    have:=List.getElem_idxOf hil
    apply hi
    rw [<-this,<-hka]
    simp [e]
   simp only [St.bY,upd,hi,if_false]
   by_cases h1:S.aJ.idxOf i < k
   · rw [if_pos h1,if_pos (by omega)]
   · rw [if_neg h1,if_neg (by omega)]
theorem Ld (S:St) (picks:List Int) {k a:Nat} (hk:S.aJ[k]?=some a) (h:ja (S.ag a) (S.ae a) (picks.getD k 0)=S.ag a):S.bY picks (k+1)=S.bY picks k:=by
 rw [vI S picks hk,h];have hkl:k < S.aJ.length:=(List.getElem?_eq_some_iff.1 hk).1;have hka:S.aJ[k]=a:=(List.getElem?_eq_some_iff.1 hk).2;have hid:S.aJ.idxOf a=k:=by
  rw [<-hka];exact (uE S).idxOf_getElem k hkl
 funext i
 unfold upd
 split
 · rename_i e
   rw [e]
   simp [St.bY,hid]
 · rfl
theorem xC {S:St} (h:S.ok) (picks:List Int) {k:Nat} (hk:k=S.aJ.length\/k=picks.length):S.bY picks k=(S.gm picks).ag:=by
 funext i
 show S.bY picks k i=ja (S.ag i) (S.ae i) (picks.getD (S.aJ.idxOf i) 0);unfold St.bY
 split
 · rfl
 · rename_i hlt
   rcases hk with rfl | rfl
   · have hn:¬ i∈S.aJ:=λhm=>hlt (List.idxOf_lt_length_of_mem hm)
     have:S.ae i=[]:=by
      rcases Nat.lt_or_ge i S.n with h1 | h1
      · exact Classical.byContradiction λhne=>hn ((ow i).2 ⟨h1,hne⟩)
      · exact h.out i h1
     rw [this,Ry]
   · have:picks.getD (S.aJ.idxOf i) 0=0:=by
      rw [List.getD_eq_getElem?_getD,List.getElem?_eq_none (by omega)]; rfl
     rw [this,Ee]
end Go.Proofs.YtinajlbijgedbaaGreat.DiskSpec
namespace Go.Proofs.YtinajlbijgedbaaGreat.Dsk
open DiskSpec
def aF (S:St) (bq:Bool) (a:Int) (l:List Nat):Int × St :=
 if l.length=0\/l.length % 256≠0 then (1,S)
 else if S.has a (l.length / 256:Nat)=false then (2,S)
 else if S.f2=1\/S.left=0 then (11,{ S with f2:=S.f2 - 1 })
 else (0,(({ S with f2:=S.f2 - 1 }:St).puts bq a.toNat l (l.length / 256)).done)
def aH (S:St) (a count:Int):Int × St :=
 if S.has a count=false then (2,S) else if S.f1=1 then (10,{ S with f1:=S.f1 - 1 }) else (0,{ S with f1:=S.f1 - 1 })
def dz (S:St) (a count:Int):List Nat:=if S.has a count=false then [] else if S.f1=1 then [] else S.reads a.toNat count.toNat
def aR (S:St):Int × St :=
 if S.f3=1\/S.left=0 then (12,{ S with f3:=S.f3 - 1 }) else (0,({ S with f3:=S.f3 - 1 }:St).flush.done)
def kU (S:St) (kind n:Int):Int × St :=
 if n < 1\/1099511627776 < n then (1,S) else if kind=1 then (0,{ S with f1:=n.toNat }) else if kind=2 then (0,{ S with f2:=n.toNat }) else if kind=3 then (0,{ S with f3:=n.toNat }) else (1,S)
def oI (S:St) (n:Int):Int × St:=if n < 0\/1099511627776 < n then (1,S) else (0,{ S with left:=n })
theorem yl {S:St} {a c:Int} (h:S.has a c=true) (_hn:S.n<=4096):∃ a' c':Nat,a=a'/\c=c'/\1<=c'/\a'+c'<=S.n:=by
 simp [St.has] at h
 exact ⟨a.toNat,c.toNat,by omega,by omega,by omega,by omega⟩
def Two (Q:List Nat->Prop) (S:St):Prop:=∀ i,i < 2->Q (S.ag i)/\∀ v∈S.ae i,Q v
section
variable {Q Q':List Nat->Prop} {S:St}
theorem Two.mono (h:Two Q S) (hq:∀ l,Q l->Q' l):Two Q' S:=λi hi=>⟨hq _ (h i hi).1,λv hv=>hq _ ((h i hi).2 v hv)⟩
theorem Two.same (h:Two Q S) {T:St} (hd:T.ag=S.ag) (hv:T.ae=S.ae):Two Q T:=λi hi=>by
 rw [hd,hv]; exact h i hi
theorem aaw (S:St) (i:Nat):S.now i=S.ag i\/S.now i∈S.ae i:=by
 show (S.ae i).getLastD (S.ag i)=_\/(S.ae i).getLastD (S.ag i)∈_
 cases hv:(S.ae i).getLast? with
 | none =>
   rw [List.getLast?_eq_none_iff.1 hv];exact .inl rfl
 | some v =>
   rw [List.getLastD_eq_getLast?,hv];exact .inr (List.mem_of_getLast? hv)
theorem Two.now (h:Two Q S) {i:Nat} (hi:i < 2):Q (S.now i):=by
 rcases aaw S i with h1 | h1
 · rw [h1]; exact (h i hi).1
 · exact (h i hi).2 _ h1
theorem Xy (d:List Nat) (vs:List (List Nat)) (p:Int):ja d vs p=d\/ja d vs p∈vs:=by
 unfold ja
 split
 · exact .inl rfl
 · generalize (p % (vs.length+1:Int)).toNat - 1=k;rw [List.getD_eq_getElem?_getD]
   cases hk:vs[k]? with
   | none=>exact .inl rfl
   | some v=>exact .inr (List.mem_of_getElem? hk)
theorem Two.gm (h:Two Q S) (picks:List Int):Two Q (S.gm picks):=λi hi=>by
 refine ⟨?_,λv hv=>by cases hv⟩;show Q (ja (S.ag i) (S.ae i) _);rcases Xy (S.ag i) (S.ae i) (picks.getD (S.aJ.idxOf i) 0) with h1 | h1
 · rw [h1]; exact (h i hi).1
 · exact (h i hi).2 _ h1
theorem Two.add (h:Two Q S) (k:Nat) {v:List Nat} (hv:k < 2->Q v):Two Q (S.add k v):=λi hi=>by
 refine ⟨(h i hi).1,λu hu=>?_⟩;have hu2:u∈upd S.ae k (S.ae k ++ [v]) i:=hu;unfold upd at hu2
 by_cases hk:i=k
 · rw [if_pos hk] at hu2;subst hk;rcases List.mem_append.1 hu2 with h1 | h1
   · exact (h i hi).2 u h1
   · rw [List.mem_singleton.1 h1]; exact hv hi
 · rw [if_neg hk] at hu2;exact (h i hi).2 u hu2
theorem Two.settle (h:Two Q S) (k:Nat):Two Q (S.settle k):=λi hi=>by
 by_cases hk:i=k
 · subst hk;refine ⟨?_,λv hv=>?_⟩
   · show Q (upd S.ag i (S.now i) i);unfold upd; rw [if_pos rfl]; exact h.now hi
   · have hv2:v∈upd S.ae i [] i:=hv;unfold upd at hv2; rw [if_pos rfl] at hv2; cases hv2
 · refine ⟨?_,λv hv=>?_⟩
   · show Q (upd S.ag k (S.now k) i);unfold upd; rw [if_neg hk]; exact (h i hi).1
   · have hv2:v∈upd S.ae k [] i:=hv;unfold upd at hv2; rw [if_neg hk] at hv2; exact (h i hi).2 v hv2
theorem Two.put (h:Two Q S) (bq:Bool) (k:Nat) {v:List Nat} (hv:k < 2->Q v):Two Q (S.put bq k v):=by
 unfold St.put
 split
 · exact (h.add k hv).settle k
 · exact h.add k hv
theorem Two.puts (h:Two Q S) (bq:Bool) (a:Nat) (l:List Nat):∀ n,(∀ j,j < n->a+j < 2->Q (sec l j))->Two Q (S.puts bq a l n)
 | 0,_=>h
 | n+1,hq=>(Two.puts h bq a l n λj hj=>hq j (by omega)).put bq (a+n) (hq n (by omega))
theorem Two.write (h:Two Q S) (bq:Bool) {a:Int} {l:List Nat} (hq:∀ j,j < l.length / 256->a.toNat+j < 2->Q (sec l j)):Two Q (aF S bq a l).2:=by
 unfold aF
 split
 · exact h
 · split
   · exact h
   · split
     · exact h.same rfl rfl
     · exact (Two.puts (S:={ S with f2:=S.f2 - 1 }) (h.same rfl rfl) bq a.toNat l _ hq).same rfl rfl
theorem Two.far (h:Two Q S) (bq:Bool) {a:Int} (l:List Nat) (ha:2<=a):Two Q (aF S bq a l).2:=h.write bq λj _ hj=>by omega
theorem aaa {l:List Nat} (hl:l.length=256):sec l 0=l:=by
 unfold sec;rw [Nat.mul_zero,List.drop_zero,List.take_of_length_le (by omega)]
theorem Two.one (h:Two Q S) (bq:Bool) (a:Int) {l:List Nat} (hl:l.length=256) (hq:Q l):Two Q (aF S bq a l).2:=h.write bq λj hj _=>by
 rw [hl] at hj;obtain rfl:j=0:=by omega
 rw [aaa hl]; exact hq
theorem Two.flush (h:Two Q S):Two Q (aR S).2:=by
 unfold aR
 split
 · exact h.same rfl rfl
 · exact λi hi=>⟨Two.now (S:={ S with f3:=S.f3 - 1 }) (h.same rfl rfl) hi,λv hv=>by cases hv⟩
end
end Go.Proofs.YtinajlbijgedbaaGreat.Dsk
