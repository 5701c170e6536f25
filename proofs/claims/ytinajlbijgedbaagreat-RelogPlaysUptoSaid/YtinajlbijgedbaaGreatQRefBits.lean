/- Texts of this seat's proofs: RefBits. -/
import Derived.Test.YtinajlbijgedbaaGreatQCodecSpec
import Derived.Test.YtinajlbijgedbaaGreatQOwn
import Derived.Test.YtinajlbijgedbaaGreatQBytes
import Derived.IntWalk
set_option maxRecDepth 100000
set_option maxHeartbeats 16000000
namespace Go.Proofs.YtinajlbijgedbaaGreat.Codec
open Lib (hid)
open Go.RowKit CrcMath CodecMath Mem Crc
theorem iK (n m:Int) (w:World):Calls Tryz.prog 114 #[.int .i64 n,.int .i64 m] w λe w'=>e=.returned (.bool (dA n m))/\w=w':=by
 by_cases h:0<=n
 · have hi:dA n m=decide (n<=m):=by simp [dA,h]
   have HI:=hid hi; clear hi;go_enter Tryz.func114,Tryz.ntmps114;go_wp2;go_ret;exact ⟨by rw [HI.out]; rfl,rfl⟩
 · have hi:dA n m=false:=by simp [dA,h]
   have HI:=hid hi; clear hi;have hd:decide (0<=n)=false:=by simp; omega
   go_enter Tryz.func114,Tryz.ntmps114;go_wp2;go_ret;exact ⟨by rw [HI.out]; rfl,rfl⟩
def Put (w:World) (base:Nat) (v:Value) (n:Nat) (l:List Nat) (e:Ending) (w':World):Prop :=
 ∃ v',e=.returned v'/\Own w' base 5 1 v' n (au l)/\bS w w' v v'
theorem BS (w:World) (x:Value):Reads (w.alloc (.cells #[x] 5)) (w.heap.size+1) 1 (some ⟨w.heap.size,0,none⟩) 1 [x]:=by
 refine ⟨rfl,λ_=>⟨_,rfl,by simp,λj u hu=>?_⟩⟩
 match j with
 | 0=>simpa [Addr.add] using hu
 | j+1=>simp at hu
theorem byte_of (m i:Nat):((m:Int) / 2 ^ (8 * i) % 256)=((m / 256 ^ i % 256:Nat):Int):=by
 rw [show ((2:Int) ^ (8 * i))=((256 ^ i:Nat):Int) from by rw [<-TV]; simp];generalize 256 ^ i=p
 simp
theorem kz (base:Nat) (v:Value) (n:Nat) (l:List Nat) (m k:Nat) (w:World) (hown:Own w base 5 1 v n (au l)) (hb:base<=w.heap.size) (hk:k<=8) (hn:n<=70368744177664) :
 Calls Tryz.prog 115 #[v,.int .i64 m,.int .i64 k] w (Put w base v (n+k) (l ++ be k m)):=by
 obtain ⟨i0,hi0,hz0,hz1,hz2⟩:=info_parts gD;have hi:=hid hi0; have z0:=hid hz0; have z1:=hid hz1; have z2:=hid hz2; clear hi0 hz0 hz1 hz2;have HO:=hid hown; clear hown;go_enter Tryz.func115,Tryz.ntmps115;go_wp2
 go_loopw [0,7] (λu i wr=>∃ (j:Nat) (i':Int),j<=k/\i'=(j:Int) - 1/\i=.int .i64 i'/\Own wr base 5 1 u (n+(k - j)) (au (l ++ (be k m).take (k - j)))/\bS w wr v u) (λ_ i _=>(intOf i+1).toNat)
 case atStart=>exact ⟨k,_,by omega,rfl,rfl,by simpa using HO.out,bS.refl _ _⟩
 case round =>
  obtain ⟨j,i',hj,hji,rfl,ho,hg⟩:=hrel;have HOr:=hid ho; have HG:=hid hg; clear ho hg
  by_cases hj0:j=0
  · subst hj0;obtain rfl:i'=-1:=by omega
    clear hji;go_wp2;go_ret;exact ⟨_,rfl,by have h:=HOr.out; rwa [Nat.sub_zero,akk (by rw [aY]; omega)] at h,HG.out⟩
  · obtain ⟨q,rfl⟩:∃ q,j=q+1:=⟨j - 1,by omega⟩;obtain rfl:i'=(q:Int):=by omega
    have hbt:=QF k m q (by omega);have hby:=byte_of m q;have HB:=hid hbt; have HY:=hid hby; clear hbt hby;have hlen:=HOr.out.len;have hq0:(0:Int)<=q:=by omega
    clear hji
    go_wp2_with (at_builtin
                 refine ai _ rfl (.tmp 14) (.tmp 20) _ rfl base 5 i0 _ 1 1 Tryz.underlying65 hi.out z0.out z1.out z2.out rfl (by omega) u0 (n+(k - (q+1))) _ rfl (HOr.out.alloc _)
                  _ _ 1 1 _ rfl (BS _ _) (λu hu=>by simp at hu; subst hu; rfl) (by simp only [maxLen]; omega) (by omega) (by have:=HG.out.1.size; simp; omega) ?_
                 intro v' w' hown' dC;have kr:=hid hown'; have iO:=hid dC; clear hown' dC)
    go_roundw
    case rel =>
     refine ⟨q,_,by omega,rfl,rfl,?_,HG.out.trans (bS.behind (aj9 wr _ none) iO.out)⟩;have h:=kr.out;rw [HY.out] at h;rw [HB.out,<-List.append_assoc,dH,show n+(k - q)=n+(k - (q+1))+1 from by omega];exact h
    case measure=>simp [intOf]
theorem G5 (base:Nat) (v:Value) (n:Nat) (l:List Nat) (m:Nat) (w:World) (hown:Own w base 5 1 v n (au l)) (hb:base<=w.heap.size) (hn:n<=m) (hm:m<=4096) :
 Calls Tryz.prog 122 #[v,.int .i64 m] w (Put w base v m (fill l m)):=by
 obtain ⟨i0,hi0,hz0,hz1,hz2⟩:=info_parts gD;have hi:=hid hi0; have z0:=hid hz0; have z1:=hid hz1; have z2:=hid hz2; clear hi0 hz0 hz1 hz2;have HO:=hid hown; clear hown;go_enter Tryz.func122,Tryz.ntmps122;go_wp2
 go_loopw [0] (λu wr=>∃ (j:Nat) (ys:List Nat),j<=m/\Own wr base 5 1 u j (au ys)/\bS w wr v u/\fill ys m=fill l m) (λu _=>m - (match u with | .slice _ j _=>j | _=>0))
 case atStart=>exact ⟨n,l,hn,HO.out,bS.refl _ _,rfl⟩
 case round =>
  obtain ⟨j,ys,hj,ho,hg,hf⟩:=hrel;obtain ⟨A,cap,rfl,hjc,hcm,_⟩:=ho.shape;have HOr:=hid ho; have HG:=hid hg; have HF:=hid hf; clear ho hg hf;have hlen:=HOr.out.len;rw [aB,Nat.mul_one] at hlen;have HLEN:=hid hlen; clear hlen
  by_cases hlt:j < m
  · go_wp2_with (at_builtin
                 refine ai _ rfl (.tmp 9) (.tmp 10) _ rfl base 5 i0 _ 1 1 Tryz.underlying65 hi.out z0.out z1.out z2.out rfl (by omega) (.slice A j cap) j _ rfl (HOr.out.alloc _)
                  _ _ 1 1 _ rfl (BS _ _) (λu hu=>by simp at hu; subst hu; rfl) (by simp only [maxLen]; omega) (by omega) (by have:=HG.out.1.size; simp; omega) ?_
                 intro v' w' hown' dC;have kr:=hid hown'; have iO:=hid dC; clear hown' dC)
    obtain ⟨A',cap',hv',ai5,hcm',_⟩:=kr.out.shape
    go_roundw
    case rel=>exact ⟨j+1,ys ++ [0],by omega,by rw [dH]; exact kr.out,HG.out.trans (bS.behind (aj9 wr _ none) iO.out),by rw [<-Yt _ _ (by rw [HLEN.out]; exact hlt)]; exact HF.out⟩
    case measure=>rw [hv']; simp; omega
  · obtain rfl:j=m:=by omega
    go_wp2;go_ret;exact ⟨_,rfl,by rw [<-HF.out,VT _ _ (by rw [HLEN.out]; exact akf _)]; exact HOr.out,HG.out⟩
theorem nZ {w:World} {base n:Nat} {v:Value} {l:List Nat} (h:Own w base 5 1 v n (au l)) (hl:∀ x∈l,x < 256) :
 ∃ A cap,v=.slice A n cap/\Bytes w w.heap.size A n l/\n<=cap/\cap<=maxLen:=by
 have hlen:=h.len;rw [aB,Nat.mul_one] at hlen
 by_cases h0:n=0
 · subst h0;obtain ⟨A,cap,hv,h1,h2,_⟩:=h.shape;obtain rfl:l=[]:=List.eq_nil_of_length_eq_zero hlen;exact ⟨A,cap,hv,Bytes.none_ _ _ _,h1,h2⟩
 · obtain ⟨g,cap,hv,_,hlt,h1,h2,hc⟩:=h.reads (by omega);refine ⟨_,cap,hv,⟨hlen,hl,λ_=>⟨g,0,rfl,hlt,by omega,λj hj=>?_⟩⟩,h1,h2⟩;rw [Nat.zero_add];exact hc j _ (fT l j (by omega))
theorem EH (s i:Nat):((s:Int) / 2 ^ (8 * i) % 256)=((s / 256 ^ i % 256:Nat):Int):=byte_of s i
theorem MX (s i:Nat) (h:i < 4):(rZ s).take (i+1)=(rZ s).take i ++ [s / 256 ^ i % 256]:=by
 match i,h with
 | 0,_=>simp [rZ]
 | 1,_=>simp [rZ]
 | 2,_=>simp [rZ]
 | 3,_=>simp [rZ]
theorem Re (base b:Nat) (v:Value) (n:Nat) (l:List Nat) (A:Option Addr) (m c:Nat) (l2:List Nat) (w:World) (hown:Own w base 5 1 v n (au l)) (hb:base<=w.heap.size) (hn:n<=4096)
 (h2:Bytes w b A m l2) (hm:m<=9223372036854775807) :
 Calls Tryz.prog 149 #[v,.slice A m c] w (Put w base v (n+4) (l ++ rZ (M 0 l2))):=by
 obtain ⟨i0,hi0,hz0,hz1,hz2⟩:=info_parts gD;have hi:=hid hi0; have z0:=hid hz0; have z1:=hid hz1; have z2:=hid hz2; clear hi0 hz0 hz1 hz2;have HO:=hid hown; have H2:=hid h2; clear hown h2;go_enter Tryz.func149,Tryz.ntmps149
 go_wp2_with (go_at_call 120; refine (IC b _ _ _ l2 _ H2.out hm).mono ?_; rintro e w1 ⟨rfl,rfl⟩)
 have hsl:=Jf 0 l2;generalize M 0 l2=s at *
 go_loopw [0,6] (λu i wr=>∃ j:Nat,j<=4/\i=.int .i64 j/\Own wr base 5 1 u (n+j) (au (l ++ (rZ s).take j))/\bS w wr v u) (λ_ i _=>4 - (intOf i).toNat)
 case atStart=>exact ⟨0,by omega,rfl,by simpa using HO.out,bS.refl _ _⟩
 case round =>
  obtain ⟨j,hj,rfl,ho,hg⟩:=hrel;have HOr:=hid ho; have HG:=hid hg; clear ho hg
  by_cases hlt:j < 4
  · have hbt:=MX s j hlt;have hby:=EH s j;have HB:=hid hbt; have HY:=hid hby; clear hbt hby;have hq0:(0:Int)<=j:=by omega
    go_wp2_with (at_builtin
                 refine ai _ rfl (.tmp 13) (.tmp 19) _ rfl base 5 i0 _ 1 1 Tryz.underlying65 hi.out z0.out z1.out z2.out rfl (by omega) u0 (n+j) _ rfl (HOr.out.alloc _)
                  _ _ 1 1 _ rfl (BS _ _) (λu hu=>by simp at hu; subst hu; rfl) (by simp only [maxLen]; omega) (by omega) (by have:=HG.out.1.size; simp; omega) ?_
                 intro v' w' hown' dC;have kr:=hid hown'; have iO:=hid dC; clear hown' dC)
    go_roundw
    case rel =>
     refine ⟨j+1,by omega,by go_num,?_,HG.out.trans (bS.behind (aj9 wr _ none) iO.out)⟩;have h:=kr.out;rw [HY.out] at h;rw [HB.out,<-List.append_assoc,dH];exact h
    case measure=>simp [intOf]; omega
  · obtain rfl:j=4:=by omega
    go_wp2;go_ret;exact ⟨_,rfl,by have h:=HOr.out; rwa [akk (by rw [mI]; omega)] at h,HG.out⟩
theorem wF (base:Nat) (v:Value) (n:Nat) (l:List Nat) (w:World) (hown:Own w base 5 1 v n (au l)) (hb:base<=w.heap.size) (hn:n<=252) (hl:∀ x∈l,x < 256) :
 Calls Tryz.prog 116 #[v] w (Put w base v 256 (frame l)):=by
 have HO:=hid hown; clear hown;have HL:=hid hl; clear hl;go_enter Tryz.func116,Tryz.ntmps116;go_wp2_with fail;refine (G5 base v n l 252 _ HO.out hb hn (by omega)).mono ?_;rintro e w1 ⟨v1,rfl,ho,hg⟩;have dZ:=hid ho; have HG:=hid hg; clear ho hg;obtain ⟨A,cap,hv,hby,_,_⟩:=nZ dZ.out (I8 _ _ HL.out);subst hv;have HB:=hid hby; clear hby;have hb1:base<=w1.heap.size:=by have:=HG.out.1.size; omega
 go_wp2_with fail;refine (Re base w1.heap.size _ 252 (fill l 252) A 252 cap (fill l 252) _ dZ.out hb1 (by omega) HB.out (by omega)).mono ?_;rintro e w2 ⟨v2,rfl,ho,hg⟩;have lM:=hid ho; have HG2:=hid hg; clear ho hg;go_wp2;go_ret;exact ⟨_,rfl,lM.out,HG.out.trans HG2.out⟩
theorem TM (x b:Int):wrap64 (wrap64 (256 * wrap64 x)+b)=wrap64 (256 * x+b):=by unfold wrap64; omega
theorem Fu (l:List Nat) (a j:Nat):wrap64 (wrap64 (256 * wrap64 (num l a j))+((l.getD (a+j) 0:Nat):Int))=wrap64 (num l a (j+1):Nat):=by
 rw [TM];show _=wrap64 ((256 * num l a j+l.getD (a+j) 0:Nat):Int)
 simp
theorem UY (l:List Nat) (a j:Nat) (h:l.length<=a+j):wrap64 (wrap64 (256 * wrap64 (num l a j)))=wrap64 (num l a (j+1):Nat):=by
 have h1:=Fu l a j;rw [show l.getD (a+j) 0=0 from by simp [akg,List.getElem?_eq_none h]] at h1;rw [<-h1];unfold wrap64;omega
theorem eQ (b:Nat) (A:Option Addr) (n c:Nat) (l:List Nat) (a k:Nat) (w:World) (hl:Bytes w b A n l) (ha:a+k<=4096) :
 Calls Tryz.prog 117 #[.slice A n c,.int .i64 a,.int .i64 k] w λe w'=>e=.returned (.int .i64 (wrap64 (num l a k)))/\w=w':=by
 have hlen:=hl.1;have HL:=hid hl; have HLEN:=hid hlen; clear hl hlen;go_enter Tryz.func117,Tryz.ntmps117;go_wp2
 go_loop [7,8] (λs i=>∃ j p:Nat,j<=k/\p=a+j/\i=.int .i64 p/\s=.int .i64 (wrap64 (num l a j))) (λ_ i=>a+k - (intOf i).toNat)
 case atStart=>exact ⟨0,a,by omega,rfl,rfl,by simp [num,wrap64]⟩
 case round =>
  obtain ⟨j,p,hj,hp,rfl,rfl⟩:=hrel;have HP:=hid hp; clear hp
  by_cases hlt:j < k
  · have hpk:(p:Int) < (a:Int)+k:=by have:=HP.out; omega
    have hp0:(0:Int)<=p:=by omega
    by_cases hn:p < n
    · obtain ⟨g,o,rfl,_,_,hc⟩:=HL.out.2.2 (by omega);have hcp:=hc p hn;clear hc;have hbl:=getD_lt HL.out.2.1 p;have hst:=Fu l a j;rw [<-HP.out] at hst;have HST:=hid hst; clear hst;generalize l.getD p 0=y at *;generalize hx:wrap64 (num l a j)=x at *;have hxb:-9223372036854775808<=x/\x<=9223372036854775807:=by rw [<-hx]; unfold wrap64; omega
      clear hx;obtain ⟨hx0,hx1⟩:=hxb;go_wp2
      go_round
      case rel=>exact ⟨j+1,p+1,by omega,by have:=HP.out; omega,by go_num,by rw [<-HST.out]⟩
      case measure=>simp [intOf]; omega
    · have hst:=UY l a j (by rw [HLEN.out,<-HP.out]; omega);have HST:=hid hst; clear hst;generalize hx:wrap64 (num l a j)=x at *;have hxb:-9223372036854775808<=x/\x<=9223372036854775807:=by rw [<-hx]; unfold wrap64; omega
      clear hx;obtain ⟨hx0,hx1⟩:=hxb;go_wp2
      go_round
      case rel=>exact ⟨j+1,p+1,by omega,by have:=HP.out; omega,by go_num,by rw [<-HST.out]⟩
      case measure=>simp [intOf]; omega
  · obtain rfl:j=k:=by omega
    have hpk:¬ (p:Int) < (a:Int)+j:=by have:=HP.out; omega
    go_wp2;go_ret;exact ⟨rfl,rfl⟩
def uH (w w':World):Prop:=∃ k,w'=w.drewN k
theorem uH.refl (w:World):uH w w:=⟨0,rfl⟩
theorem lF {w w':World} (h:uH w w') (row:Option Nat):w.grownBy w' row:=by
 obtain ⟨k,rfl⟩:=h;exact ⟨rfl,rfl,rfl,akf _,λ_ _ _=>rfl⟩
theorem uH.drew {w w':World} (h:uH w w'):uH w w'.drew:=by
 obtain ⟨k,rfl⟩:=h;exact ⟨k+1,rfl⟩
theorem Xn {l l':List Nat} (h:l.length≠l'.length):decide (l=l')=false:=by
 rw [decide_eq_false_iff_not]; exact λe=>h (by rw [e])
theorem aac {l l':List Nat} (k:Nat) (h:l.getD k 0≠l'.getD k 0):decide (l=l')=false:=by
 rw [decide_eq_false_iff_not]; exact λe=>h (by rw [e])
theorem Xm {l l':List Nat} (n:Nat) (h0:l.length=n) (h1:l'.length=n) (h:∀ j,j < n->l.getD j 0=l'.getD j 0):decide (l=l')=true:=by
 rw [decide_eq_true_iff]
 apply List.ext_getElem (by omega)
 intro i h2 h3;have:=h i (by omega)
 simpa [akg,h2,h3] using this
theorem tJ (b b':Nat) (A A':Option Addr) (n n' c c':Nat) (l l':List Nat) (w:World) (hl:Bytes w b A n l) (hl':Bytes w b' A' n' l') (hn:n<=9223372036854775807) (hn':n'<=9223372036854775807) :
 Calls Tryz.prog 118 #[.slice A n c,.slice A' n' c'] w λe w'=>e=.returned (.bool (decide (l=l')))/\uH w w':=by
 by_cases hnn:n=n'
 · subst hnn;have hsy:=Xm (l:=l) (l':=l') n hl.1 hl'.1;have HSY:=hid hsy; clear hsy;have hsn:=@aac l l';have l7:=hid hsn; clear hsn;have HL:=hid hl; have HL':=hid hl'; clear hl hl';generalize hd:decide (l=l')=d at *;clear hd;go_enter Tryz.func118,Tryz.ntmps118;go_wp2
   go_loopw [5] (λi wr=>∃ j:Nat,j<=n/\i=.int .i64 j/\(∀ q,q < j->l.getD q 0=l'.getD q 0)/\uH w wr) (λi _=>n - (intOf i).toNat)
   case atStart=>exact ⟨0,by omega,rfl,λq hq=>by omega,uH.refl _⟩
   case round =>
    obtain ⟨j,hj,rfl,he,hw⟩:=hrel;have HE:=hid he; have HW:=hid hw; clear he hw
    by_cases hlt:j < n
    · obtain ⟨g,o,rfl,_,_,hc⟩:=(HL.out.keep (lF HW.out _)).2.2 (by omega);obtain ⟨g',o',rfl,_,_,hc'⟩:=(HL'.out.keep (lF HW.out _)).2.2 (by omega);have hx:=hc j hlt;have hx':=hc' j hlt;clear hc hc';have QQ:=hid (λh=>l7.out j h);have Q8:Hid (l.getD j 0=l'.getD j 0->∀ q,q < j+1->l.getD q 0=l'.getD q 0):=hid (λh q hq=>by
       by_cases e:q=j
       · subst e; exact h
       · exact HE.out q (by omega))
      generalize l.getD j 0=x at *;generalize l'.getD j 0=y at *
      by_cases hxy:x=y
      · subst hxy;have lN:=hid (Q8.out rfl); clear Q8;go_wp2_with fail
        go_region
        go_wp2_with fail
        go_roundw
        case rel=>exact ⟨j+1,by omega,by go_num,lN.out,HW.out.drew⟩
        case measure=>simp [intOf]; omega
      · have hne:(((x:Nat):Int) != ((y:Nat):Int))=true:=by simp; omega
        have hd:=QQ.out hxy;have HD:=hid hd; clear hd;go_wp2_with fail
        go_region
        go_wp2;go_ret;exact ⟨by rw [HD.out]; rfl,HW.out.drew⟩
    · obtain rfl:j=n:=by omega
      have hd:=HSY.out HE.out;have HD:=hid hd; clear hd;go_wp2;go_ret;exact ⟨by rw [HD.out]; rfl,HW.out⟩
 · have hd:=Xn (l:=l) (l':=l') (by rw [hl.1,hl'.1]; exact hnn);have HD:=hid hd; clear hd;have hne:(((n:Nat):Int) != ((n':Nat):Int))=true:=by simp; omega
   clear hl hl';go_enter Tryz.func118,Tryz.ntmps118;go_wp2;go_ret;exact ⟨by rw [HD.out]; rfl,uH.refl _⟩
end Go.Proofs.YtinajlbijgedbaaGreat.Codec
