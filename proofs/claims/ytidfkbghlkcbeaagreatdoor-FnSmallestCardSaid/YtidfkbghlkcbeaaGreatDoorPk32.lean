import Derived.Test.YtidfkbghlkcbeaaGreatDoorPk19
import Derived.Test.YtidfkbghlkcbeaaGreatDoorPk29
import Derived.Test.YtidfkbghlkcbeaaGreatDoorPk27
namespace Go.Proofs.YtidfkbghlkcbeaaGreatDoor
open Go.RowKit Go.Proofs.Tryz
set_option maxHeartbeats 16000000
set_option maxRecDepth 100000
def gq(n:Nat)(S:Nat->Nat->Prop)(K:Nat->Nat->Prop)(E:Nat->Prop):Nat->Nat->Nat->Prop
 | 0,p,i=>i<n/\S p i/\E p
 | k+1,p,i=>i<n/\S p i/\∃ q,K p q/\gq n S K E k q (i+1)
def xh(n:Nat)(S:Nat->Nat->Prop)(R:Rl)(a:It)(ln:List Lk):Prop:=
 ∀ i j,R i j↔(i=j/\j<=n/\a.nl=true)∨∃ k p,j=i+k+1/\p∈a.fi/\gq n S (fun x y=>cm ln x y=true) (fun x=>x∈a.la) k p i
section
variable {n:Nat}
theorem gq.lt{S K:Nat->Nat->Prop}{E:Nat->Prop}:∀ {k p i},gq n S K E k p i->i+k<n
 | 0,_,_,h=>h.1
 | _+1,_,_,⟨_,_,_,_,h⟩=>by have:=gq.lt h;omega
theorem gq.imp{S S' K K':Nat->Nat->Prop}{E E':Nat->Prop}{N:Nat}(hS:∀ p i,p<N->S p i->S' p i)(hK:∀ p q,p<N->K p q->K' p q/\q<N)(hE:∀ p,p<N->E p->E' p):∀ {k p i},p<N->gq n S K E k p i->gq n S' K' E' k p i
 | 0,_,_,hp,h=>⟨h.1,hS _ _ hp h.2.1,hE _ hp h.2.2⟩
 | _+1,_,_,hp,⟨h1,h2,q,h3,h4⟩=>⟨h1,hS _ _ hp h2,q,(hK _ _ hp h3).1,gq.imp hS hK hE (hK _ _ hp h3).2 h4⟩
theorem tZ(c:Nat)(ln:List Lk)(i j:Nat):cm (cT c ln) i j=true↔∃ i' j',i=c+i'/\j=c+j'/\cm ln i' j'=true:=by
 unfold cm cT;simp only[List.any_eq_true,List.mem_map,Bool.and_eq_true,List.contains_iff_mem]
 constructor
 ·rintro⟨p,⟨q,hq,rfl⟩,h1,h2⟩;obtain⟨i',h3,rfl⟩:=List.mem_map.1 h1;obtain⟨j',h4,rfl⟩:=List.mem_map.1 h2;exact⟨i',j',rfl,rfl,q,hq,h3,h4⟩
 rintro⟨i',j',rfl,rfl,q,hq,h3,h4⟩;exact⟨_,⟨q,hq,rfl⟩,List.mem_map.2 ⟨_,h3,rfl⟩,List.mem_map.2 ⟨_,h4,rfl⟩⟩
theorem ix{ln:List Lk}{N:Nat}(h:uv ln N){i j:Nat}(hm:cm ln i j=true):i<N/\j<N:=by
 unfold cm at hm;simp only[List.any_eq_true,Bool.and_eq_true,List.contains_iff_mem]at hm;obtain⟨p,hp,h1,h2⟩:=hm;exact⟨(h p hp).1 _ h1,(h p hp).2 _ h2⟩
theorem lf(c:Nat)(xs:List Nat)(p:Nat):p∈xs.map (c + ·)↔∃ q,p=c+q/\q∈xs:=by
 rw[List.mem_map];exact⟨fun ⟨q,h1,h2⟩=>⟨q,h2.symm,h1⟩,fun ⟨q,h1,h2⟩=>⟨q,h2,h1.symm⟩⟩
theorem gq.sh{S S' K K':Nat->Nat->Prop}{E E':Nat->Prop}(c:Nat)(hS:∀ p i,S' (c+p) i↔S p i)(hK:∀ p q,K' (c+p) q↔∃ q',q=c+q'/\K p q')(hE:∀ p,E' (c+p)↔E p):∀ {k p i},gq n S' K' E' k (c+p) i↔gq n S K E k p i
 | 0,p,i=>by
  show(_/\_/\_)↔(_/\_/\_);rw[hS,hE]
 | k+1,p,i=>by
  show(_/\_/\_)↔(_/\_/\_);rw[hS]
  constructor
  ·rintro⟨h1,h2,q,h3,h4⟩;obtain⟨q',rfl,h5⟩:=(hK _ _).1 h3;exact⟨h1,h2,q',h5,(gq.sh c hS hK hE).1 h4⟩
  rintro⟨h1,h2,q,h3,h4⟩;exact⟨h1,h2,c+q,(hK _ _).2 ⟨q,rfl,h3⟩,(gq.sh c hS hK hE).2 h4⟩
def cM(hs:List Int->Nat->Prop)(ss:List (List Int)):Nat->Nat->Prop:=fun p i=>hs (ss[p]?.getD []) i
theorem jK(hs:List Int->Nat->Prop)(sa sb:List (List Int)){N:Nat}(hN:sa.length=N){p:Nat}(hp:p<N)(i:Nat):cM hs (sa++sb) p i↔cM hs sa p i:=by
 unfold cM;rw[List.getElem?_append_left (by omega)]
theorem Ax(hs:List Int->Nat->Prop)(sa sb:List (List Int)){N:Nat}(hN:sa.length=N)(p i:Nat):cM hs (sa++sb) (N+p) i↔cM hs sb p i:=by
 unfold cM;rw[List.getElem?_append_right (by omega),show N+p-sa.length=p by omega]
variable {hs:List Int->Nat->Prop}
theorem Em:xh n (cM hs []) (fL n) ⟨true,[],[]⟩ []:=fun i j=>by
 constructor
 ·rintro⟨h1,h2⟩;exact Or.inl ⟨h1,h2,rfl⟩
 rintro(⟨h1,h2,-⟩|⟨k,p,-,h,-⟩)
 ·exact⟨h1,h2⟩
 cases h
theorem Ef(xs:List Int):xh n (cM hs [xs]) (zn n (hs xs)) ⟨false,[0],[0]⟩ []:=fun i j=>by
 constructor
 ·rintro⟨rfl,h1,h2⟩;exact Or.inr ⟨0,0,rfl,by simp,h1,h2,by simp⟩
 rintro(⟨-,-,h⟩|⟨k,p,rfl,h1,h2⟩)
 ·cases h
 simp only[List.mem_singleton]at h1;subst h1
 match k,h2 with
 | 0,h2=>exact⟨rfl,h2.1,h2.2.1⟩
 | k+1,⟨_,_,q,h,_⟩=>simp[cm]at h
section
variable {A B:Rl} {a b:It} {la lb:List Lk} {sa sb:List (List Int)} {N M:Nat}
theorem Bm(hA:xh n (cM hs sa) A a la)(hB:xh n (cM hs sb) B b lb)(ha:jx a N)(hla:uv la N)(hN:sa.length=N) :
  xh n (cM hs (sa++sb)) (lK A B) (cR a (b.sh N)) (la++cT N lb):=fun i j=>by
 have kL:∀ p q,p<N->(cm (la++cT N lb) p q=true↔cm la p q=true):=fun p q hp=>by
  rw[cH,Bool.or_eq_true,tZ];exact⟨fun h=>h.elim id (fun ⟨i',_,e,_⟩=>by omega),Or.inl⟩
 have kR:∀ p q,cm (la++cT N lb) (N+p) q=true↔∃ q',q=N+q'/\cm lb p q'=true:=fun p q=>by
  rw[cH,Bool.or_eq_true,tZ]
  constructor
  ·rintro(h|⟨i',j',e,rfl,h⟩)
   ·have:=(ix hla h).1;omega
   obtain rfl:p=i':=by omega
   exact⟨j',rfl,h⟩
  rintro⟨q',rfl,h⟩;exact Or.inr ⟨p,q',rfl,rfl,h⟩
 have eL:∀ p,p<N->(p∈(cR a (b.sh N)).la↔p∈a.la):=fun p hp=>by
  show p∈a.la++b.la.map (N + ·)↔_;rw[List.mem_append,lf];exact⟨fun h=>h.elim id (fun ⟨q,e,_⟩=>by omega),Or.inl⟩
 have eR:∀ p,N+p∈(cR a (b.sh N)).la↔p∈b.la:=fun p=>by
  show N+p∈a.la++b.la.map (N + ·)↔_;rw[List.mem_append,lf]
  constructor
  ·rintro(h|⟨q,e,h⟩)
   ·have:=ha.2 _ h;omega
   obtain rfl:p=q:=by omega
   exact h
  intro h;exact Or.inr ⟨p,rfl,h⟩
 have sL:∀ k p i,p<N->(gq n (cM hs (sa++sb)) (fun x y=>cm (la++cT N lb) x y=true) (fun x=>x∈(cR a (b.sh N)).la) k p i↔gq n (cM hs sa) (fun x y=>cm la x y=true) (fun x=>x∈a.la) k p i):=fun k p i hp =>
  ⟨gq.imp (N:=N) (fun p i hp h=>(jK hs sa sb hN hp i).1 h) (fun p q hp h=>⟨(kL p q hp).1 h,(ix hla ((kL p q hp).1 h)).2⟩) (fun p hp h=>(eL p hp).1 h) hp,
   gq.imp (N:=N) (fun p i hp h=>(jK hs sa sb hN hp i).2 h) (fun p q hp h=>⟨(kL p q hp).2 h,(ix hla h).2⟩) (fun p hp h=>(eL p hp).2 h) hp⟩
 have sR:∀ k p i,gq n (cM hs (sa++sb)) (fun x y=>cm (la++cT N lb) x y=true) (fun x=>x∈(cR a (b.sh N)).la) k (N+p) i↔gq n (cM hs sb) (fun x y=>cm lb x y=true) (fun x=>x∈b.la) k p i:=fun k p i =>
  gq.sh N (fun p i=>Ax hs sa sb hN p i) kR eR
 show(A i j∨B i j)↔_;rw[hA i j,hB i j]
 constructor
 ·rintro((⟨h1,h2,h3⟩|⟨k,p,h1,h2,h3⟩)|(⟨h1,h2,h3⟩|⟨k,p,h1,h2,h3⟩))
  ·exact Or.inl ⟨h1,h2,by show(a.nl||b.nl)=true;rw[h3,Bool.true_or]⟩
  ·exact Or.inr ⟨k,p,h1,List.mem_append.2 (Or.inl h2),(sL _ _ _ (ha.1 _ h2)).2 h3⟩
  ·exact Or.inl ⟨h1,h2,by show(a.nl||b.nl)=true;rw[h3,Bool.or_true]⟩
  exact Or.inr ⟨k,N+p,h1,List.mem_append.2 (Or.inr ((lf _ _ _).2 ⟨p,rfl,h2⟩)),(sR _ _ _).2 h3⟩
 rintro(⟨h1,h2,h3⟩|⟨k,p,h1,h2,h3⟩)
 ·have c:(a.nl||b.nl)=true:=h3;rcases(Bool.or_eq_true _ _).mp c with h|h
  ·exact Or.inl (Or.inl ⟨h1,h2,h⟩)
  exact Or.inr (Or.inl ⟨h1,h2,h⟩)
 rcases List.mem_append.1 h2 with h|h
 ·exact Or.inl (Or.inr ⟨k,p,h1,h,(sL _ _ _ (ha.1 _ h)).1 h3⟩)
 obtain⟨q,rfl,h'⟩:=(lf _ _ _).1 h;exact Or.inr (Or.inr ⟨k,q,h1,h',(sR _ _ _).1 h3⟩)
theorem BW(hA:xh n (cM hs sa) A a la)(hB:xh n (cM hs sb) B b lb)(ha:jx a N)(c:uv la N)(hN:sa.length=N) :
  xh n (cM hs (sa++sb)) (dw A B) (bY a (b.sh N)) (la++cT N lb++[(a.la,(b.sh N).fi)]):=fun i j=>by
 obtain⟨KK,d⟩ : ∃ KK,KK=la++cT N lb++[(a.la,(b.sh N).fi)]:=⟨_,rfl⟩;rw[<-d];have kA:∀ p q,cm KK p q=true↔cm la p q=true∨(∃ p' q',p=N+p'/\q=N+q'/\cm lb p' q'=true)∨(p∈a.la/\∃ q',q=N+q'/\q'∈b.fi):=fun p q=>by
  rw[d,cH,cH,dn,Bool.or_eq_true,Bool.or_eq_true,Bool.and_eq_true,tZ,List.contains_iff_mem,List.contains_iff_mem,or_assoc];show _∨_∨(_/\q∈b.fi.map (N + ·))↔_;rw[lf]
 have kR:∀ p q,cm KK (N+p) q=true↔∃ q',q=N+q'/\cm lb p q'=true:=fun p q=>by
  rw[kA]
  constructor
  ·rintro(h|⟨i',j',e,rfl,h⟩|⟨h,-⟩)
   ·have:=(ix c h).1;omega
   ·obtain rfl:p=i':=by omega
    exact⟨j',rfl,h⟩
   have:=ha.2 _ h;omega
  rintro⟨q',rfl,h⟩;exact Or.inr (Or.inl ⟨p,q',rfl,rfl,h⟩)
 have eA:∀ p,p∈(bY a (b.sh N)).la↔(b.nl=true/\p∈a.la)∨∃ q,p=N+q/\q∈b.la:=fun p=>by
  show p∈(if b.nl then a.la else [])++b.la.map (N + ·)↔_;rw[List.mem_append,lf];cases b.nl<;>simp
 have eR:∀ p,N+p∈(bY a (b.sh N)).la↔p∈b.la:=fun p=>by
  rw[eA]
  constructor
  ·rintro(⟨-,h⟩|⟨q,e,h⟩)
   ·have:=ha.2 _ h;omega
   obtain rfl:p=q:=by omega
   exact h
  intro h;exact Or.inr ⟨p,rfl,h⟩
 have sR:∀ k p i,gq n (cM hs (sa++sb)) (fun x y=>cm KK x y=true) (fun x=>x∈(bY a (b.sh N)).la) k (N+p) i↔gq n (cM hs sb) (fun x y=>cm lb x y=true) (fun x=>x∈b.la) k p i:=fun k p i =>
  gq.sh N (fun p i=>Ax hs sa sb hN p i) kR eR
 have sL:∀ k p i,p<N->(gq n (cM hs (sa++sb)) (fun x y=>cm KK x y=true) (fun x=>x∈(bY a (b.sh N)).la) k p i ↔
   (b.nl=true/\gq n (cM hs sa) (fun x y=>cm la x y=true) (fun x=>x∈a.la) k p i)∨∃ k1 k2 q,k=k1+k2+1/\gq n (cM hs sa) (fun x y=>cm la x y=true) (fun x=>x∈a.la) k1 p i/\q∈b.fi/\gq n (cM hs sb) (fun x y=>cm lb x y=true) (fun x=>x∈b.la) k2 q (i+k1+1)):=by
  intro k
  induction k with
  | zero =>
   intro p i hp;show(_/\_/\p∈(bY a (b.sh N)).la)↔_;rw[jK hs sa sb hN hp,eA]
   constructor
   ·rintro⟨h1,h2,(⟨h3,h4⟩|⟨q,e,-⟩)⟩
    ·exact Or.inl ⟨h3,h1,h2,h4⟩
    omega
   rintro(⟨h1,h2,h3,h4⟩|⟨k1,k2,q,e,-⟩)
   ·exact⟨h2,h3,Or.inl ⟨h1,h4⟩⟩
   omega
  | succ k ih =>
   intro p i hp
   constructor
   ·rintro⟨h1,h2,q,h3,h4⟩;have h2:=(jK hs sa sb hN hp i).1 h2;rcases(kA _ _).1 h3 with h|⟨i',j',e,-⟩|⟨h,q',rfl,h'⟩
    ·rcases(ih q (i+1) (ix c h).2).1 h4 with ⟨h5,h6⟩|⟨k1,k2,q',h5,h6,h7,h8⟩
     ·exact Or.inl ⟨h5,h1,h2,q,h,h6⟩
     exact Or.inr ⟨k1+1,k2,q',by omega,⟨h1,h2,q,h,h6⟩,h7,by rw[show i+(k1+1)+1=i+1+k1+1 by omega];exact h8⟩
    ·omega
    exact Or.inr ⟨0,k,q',by omega,⟨h1,h2,h⟩,h',(sR _ _ _).1 h4⟩
   rintro(⟨h1,h2,h3,q,h4,h5⟩|⟨k1,k2,q,h1,h2,h3,h4⟩)
   ·exact⟨h2,(jK hs sa sb hN hp i).2 h3,q,(kA _ _).2 (Or.inl h4),(ih q (i+1) (ix c h4).2).2 (Or.inl ⟨h1,h5⟩)⟩
   match k1,h2 with
   | 0,⟨h5,h6,h7⟩ =>
    obtain rfl:k=k2:=by omega
    exact⟨h5,(jK hs sa sb hN hp i).2 h6,N+q,(kA _ _).2 (Or.inr (Or.inr ⟨h7,q,rfl,h3⟩)),(sR _ _ _).2 h4⟩
   | k1+1,⟨h5,h6,q',h7,h8⟩ =>
    exact⟨h5,(jK hs sa sb hN hp i).2 h6,q',(kA _ _).2 (Or.inl h7),(ih q' (i+1) (ix c h7).2).2 (Or.inr ⟨k1,k2,q,by omega,h8,h3,by rw[show i+1+k1+1=i+(k1+1)+1 by omega];exact h4⟩)⟩
 have fA:∀ p,p∈(bY a (b.sh N)).fi↔p∈a.fi∨(a.nl=true/\∃ q,p=N+q/\q∈b.fi):=fun p=>by
  show p∈a.fi++(if a.nl then b.fi.map (N + ·) else [])↔_;rw[List.mem_append];cases a.nl<;>simp[eq_comm,and_comm]
 have nA:(bY a (b.sh N)).nl=true↔a.nl=true/\b.nl=true:=by show(a.nl&&b.nl)=true↔_;rw[Bool.and_eq_true]
 rw[nA]
 constructor
 ·rintro⟨m,h1,h2⟩;rcases(hA i m).1 h1 with ⟨rfl,h3,h4⟩|⟨k,p,rfl,h3,h4⟩
  ·rcases(hB i j).1 h2 with ⟨h5,h6,h7⟩|⟨k,p,h5,h6,h7⟩
   ·exact Or.inl ⟨h5,h6,h4,h7⟩
   exact Or.inr ⟨k,N+p,h5,(fA _).2 (Or.inr ⟨h4,p,rfl,h6⟩),(sR _ _ _).2 h7⟩
  rcases(hB _ j).1 h2 with ⟨h5,h6,h7⟩|⟨k2,p2,h5,h6,h7⟩
  ·exact Or.inr ⟨k,p,h5.symm,(fA _).2 (Or.inl h3),(sL _ _ _ (ha.1 _ h3)).2 (Or.inl ⟨h7,h4⟩)⟩
  exact Or.inr ⟨k+k2+1,p,by omega,(fA _).2 (Or.inl h3),(sL _ _ _ (ha.1 _ h3)).2 (Or.inr ⟨k,k2,p2,rfl,h4,h6,h7⟩)⟩
 rintro(⟨h1,h2,h3,h4⟩|⟨k,p,h1,h2,h3⟩)
 ·exact⟨i,(hA i i).2 (Or.inl ⟨rfl,by omega,h3⟩),(hB i j).2 (Or.inl ⟨h1,h2,h4⟩)⟩
 rcases(fA _).1 h2 with h|⟨h,q,rfl,h'⟩
 ·have hlt:=gq.lt h3;rcases(sL _ _ _ (ha.1 _ h)).1 h3 with ⟨h4,h5⟩|⟨k1,k2,q,h4,h5,h6,h7⟩
  ·exact⟨j,(hA i j).2 (Or.inr ⟨k,p,h1,h,h5⟩),(hB j j).2 (Or.inl ⟨rfl,by omega,h4⟩)⟩
  exact⟨i+k1+1,(hA _ _).2 (Or.inr ⟨k1,p,rfl,h,h5⟩),(hB _ _).2 (Or.inr ⟨k2,q,by omega,h6,h7⟩)⟩
 have h4:=(sR _ _ _).1 h3;have hlt:=gq.lt h4;exact⟨i,(hA i i).2 (Or.inl ⟨rfl,by omega,h⟩),(hB i j).2 (Or.inr ⟨k,q,h1,h',h4⟩)⟩
theorem BX(hA:xh n (cM hs sa) A a la)(hb:RB n A)(mn:Int)(h0:0<=mn)(h1:mn<=1):xh n (cM hs sa) (jr n A mn (-1)) (ed a mn) (la++[(a.la,a.fi)]):=fun i j=>by
 have kA:∀ p q,cm (la++[(a.la,a.fi)]) p q=true↔cm la p q=true∨(p∈a.la/\q∈a.fi):=fun p q=>by
  rw[cH,dn,Bool.or_eq_true,Bool.and_eq_true,List.contains_iff_mem,List.contains_iff_mem]
 have up:∀ {k1:Nat} {p i:Nat},gq n (cM hs sa) (fun x y=>cm la x y=true) (fun x=>x∈a.la) k1 p i->gq n (cM hs sa) (fun x y=>cm (la++[(a.la,a.fi)]) x y=true) (fun x=>x∈a.la) k1 p i:=by
  intro k1
  induction k1 with
  | zero=>intro p i h;exact h
  | succ k ih=>rintro p i ⟨h1,h2,q,h3,h4⟩;exact⟨h1,h2,q,(kA _ _).2 (Or.inl h3),ih h4⟩
 have join:∀ {k1 k2:Nat} {p i q:Nat},gq n (cM hs sa) (fun x y=>cm la x y=true) (fun x=>x∈a.la) k1 p i->q∈a.fi->gq n (cM hs sa) (fun x y=>cm (la++[(a.la,a.fi)]) x y=true) (fun x=>x∈a.la) k2 q (i+k1+1)->
   gq n (cM hs sa) (fun x y=>cm (la++[(a.la,a.fi)]) x y=true) (fun x=>x∈a.la) (k1+k2+1) p i:=by
  intro k1
  induction k1 with
  | zero=>rintro k2 p i q ⟨h1,h2,h3⟩ h4 h5;rw[Nat.zero_add];exact⟨h1,h2,q,(kA _ _).2 (Or.inr ⟨h3,h4⟩),h5⟩
  | succ k ih =>
   rintro k2 p i q ⟨h1,h2,q',h3,h4⟩ h5 h6;rw[show k+1+k2+1=k+k2+1+1 by omega];exact⟨h1,h2,q',(kA _ _).2 (Or.inl h3),ih h4 h5 (by rw[show i+1+k+1=i+(k+1)+1 by omega];exact h6)⟩
 have cut:∀ {k:Nat} {p i:Nat},gq n (cM hs sa) (fun x y=>cm (la++[(a.la,a.fi)]) x y=true) (fun x=>x∈a.la) k p i->
   gq n (cM hs sa) (fun x y=>cm la x y=true) (fun x=>x∈a.la) k p i∨∃ k1 k2 q,k=k1+k2+1/\gq n (cM hs sa) (fun x y=>cm la x y=true) (fun x=>x∈a.la) k1 p i/\q∈a.fi/\gq n (cM hs sa) (fun x y=>cm (la++[(a.la,a.fi)]) x y=true) (fun x=>x∈a.la) k2 q (i+k1+1):=by
  intro k
  induction k with
  | zero=>intro p i h;exact Or.inl h
  | succ k ih =>
   rintro p i ⟨h1,h2,q,h3,h4⟩;rcases(kA _ _).1 h3 with h|⟨h,h'⟩
   ·rcases ih h4 with h5|⟨k1,k2,q',h5,h6,h7,h8⟩
    ·exact Or.inl ⟨h1,h2,q,h,h5⟩
    exact Or.inr ⟨k1+1,k2,q',by omega,⟨h1,h2,q,h,h6⟩,h7,by rw[show i+(k1+1)+1=i+1+k1+1 by omega];exact h8⟩
   exact Or.inr ⟨0,k,q,by omega,⟨h1,h2,h⟩,h',h4⟩
 have fwd:∀ (t i j:Nat),eQ n A t i j->(i=j/\j<=n/\(t=0∨a.nl=true))∨∃ k p,j=i+k+1/\p∈a.fi/\gq n (cM hs sa) (fun x y=>cm (la++[(a.la,a.fi)]) x y=true) (fun x=>x∈a.la) k p i:=by
  intro t
  induction t with
  | zero=>rintro i j ⟨h1,h2⟩;exact Or.inl ⟨h1,h2,Or.inl rfl⟩
  | succ t ih =>
   intro i j h;rw[fu hb]at h;obtain⟨m,h1,h2⟩:=h;rcases(hA i m).1 h1 with ⟨rfl,h3,h4⟩|⟨k,p,rfl,h3,h4⟩
   ·rcases ih i j h2 with ⟨h5,h6,-⟩|h5
    ·exact Or.inl ⟨h5,h6,Or.inr h4⟩
    exact Or.inr h5
   rcases ih _ j h2 with ⟨h5,h6,-⟩|⟨k2,q,h5,h6,h7⟩
   ·exact Or.inr ⟨k,p,h5.symm,h3,up h4⟩
   exact Or.inr ⟨k+k2+1,p,by omega,h3,join h4 h6 h7⟩
 have bwd:∀ (k:Nat),∀ k',k'<=k->∀ p i,p∈a.fi->gq n (cM hs sa) (fun x y=>cm (la++[(a.la,a.fi)]) x y=true) (fun x=>x∈a.la) k' p i->∃ t,eQ n A (t+1) i (i+k'+1):=by
  intro k
  induction k with
  | zero =>
   intro k' hk p i hp h;obtain rfl:k'=0:=by omega
   refine⟨0,?_⟩;show dw (fL n) A _ _;rw[gR hb];exact(hA _ _).2 (Or.inr ⟨0,p,rfl,hp,h⟩)
  | succ k ih =>
   intro k' hk p i hp h;rcases cut h with h1|⟨k1,k2,q,h1,h2,h3,h4⟩
   ·refine⟨0,?_⟩;show dw (fL n) A _ _;rw[gR hb];exact(hA _ _).2 (Or.inr ⟨k',p,rfl,hp,h1⟩)
   obtain⟨t,ht⟩:=ih k2 (by omega) q _ h3 h4;refine⟨t+1,?_⟩;rw[fu hb];exact⟨i+k1+1,(hA _ _).2 (Or.inr ⟨k1,p,rfl,hp,h2⟩),by rw[show i+k'+1=i+k1+1+k2+1 by omega];exact ht⟩
 have nA:(ed a mn).nl=true↔a.nl=true∨mn=0:=by show(a.nl||decide (mn=0))=true↔_;rw[Bool.or_eq_true,decide_eq_true_eq]
 rw[nA]
 constructor
 ·rintro⟨t,h2,-,h3⟩;rcases fwd t i j h3 with ⟨h4,h5,h6⟩|h4
  ·exact Or.inl ⟨h4,h5,h6.symm.imp id (fun e=>by omega)⟩
  exact Or.inr h4
 rintro(⟨rfl,h2,h3⟩|⟨k,p,rfl,h2,h3⟩)
 ·rcases h3 with h3|h3
  ·refine⟨1,by omega,Or.inl rfl,?_⟩;show dw (fL n) A _ _;rw[gR hb];exact(hA _ _).2 (Or.inl ⟨rfl,h2,h3⟩)
  exact⟨0,by omega,Or.inl rfl,rfl,h2⟩
 obtain⟨t,ht⟩:=bwd k k lR p i h2 h3;exact⟨t+1,by omega,Or.inl rfl,ht⟩
end
end
def DS(S K:Nat->Nat->Prop)(fi:List Nat):Nat->Nat->Prop
 | 0,p=>p∈fi
 | k+1,q=>∃ p,DS S K fi k p/\S p k/\K p q
def Dz(S K:Nat->Nat->Prop)(a:It):Nat->Prop
 | 0=>a.nl=true
 | k+1=>∃ p,DS S K a.fi k p/\S p k/\p∈a.la
theorem vq{n:Nat}{S K:Nat->Nat->Prop}{fi:List Nat}{E:Nat->Prop}:∀ (t k:Nat),k+t+1=n->((∃ p,DS S K fi k p/\gq n S K E t p k)↔∃ p,DS S K fi (n-1) p/\S p (n-1)/\E p)
 | 0,k,h=>by
  obtain rfl:n-1=k:=by omega
  exact⟨fun ⟨p,h1,h2⟩=>⟨p,h1,h2.2⟩,fun ⟨p,h1,h2⟩=>⟨p,h1,by omega,h2⟩⟩
 | t+1,k,h=>by
  rw[<-vq t (k+1) (by omega)]
  constructor
  ·rintro⟨p,h1,h2,h3,q,h4,h5⟩;exact⟨q,⟨p,h1,h3,h4⟩,h5⟩
  rintro⟨q,⟨p,h1,h3,h4⟩,h5⟩;exact⟨p,h1,by omega,h3,q,h4,h5⟩
theorem BV{n:Nat}{S:Nat->Nat->Prop}{R:Rl}{a:It}{ln:List Lk}(h:xh n S R a ln):R 0 n↔Dz S (fun x y=>cm ln x y=true) a n:=by
 rw[h 0 n]
 match n with
 | 0 =>
  constructor
  ·rintro(⟨-,-,h⟩|⟨k,p,e,-⟩)
   ·exact h
   omega
  intro h;exact Or.inl ⟨rfl,Nat.le_refl _,h⟩
 | n+1 =>
  have:=vq (n:=n+1) (S:=S) (K:=fun x y=>cm ln x y=true) (fi:=a.fi) (E:=fun x=>x∈a.la) n 0 (by omega);show _↔∃ p,DS S _ a.fi n p/\S p n/\p∈a.la;rw[show n+1-1=n from rfl]at this;rw[<-this]
  constructor
  ·rintro(⟨e,-,-⟩|⟨k,p,e,h1,h2⟩)
   ·omega
   obtain rfl:n=k:=by omega
   exact⟨p,h1,h2⟩
  rintro⟨p,h1,h2⟩;exact Or.inr ⟨n,p,by omega,h1,h2⟩
/-! One element of a tree of one's own is written anew. -/
theorem DH{w:World}{ops:Array Oper}{rest:List Oper}{o:Oper}{a:Act}{Q:Exit->Act->World->Prop}(hgd:o.guard=none)(s x:Operand)
  (ho:o.op=.call { callee:=.builtin .append,args:=#[s,x],argTypes:=#[27,27] })(base:Nat)(v:Value)(hs:a.eval s=v)(y:Int)(hx:a.eval x=.slice (some ⟨w.heap.size,0,none⟩) 1 1)(n:Nat)(xs:List Int)(hn:n=xs.length)
  (h1:w.ownsRow base 3 1 v n (xs.map mI))(hb:base<=w.heap.size)(hl:n<=2000000)
  (h:∀ v' w',w'.ownsRow base 3 1 v' (n+1) ((xs++[y]).map mI)->w.grownBy w' v.ownBlock->wpList prog ops Q rest (a.put o.dst v') w'):wpList prog ops Q (o::rest) a (w.alloc (.cells #[.int .i64 y] 3)):=by
 subst hn;obtain⟨i0,hi,b,c,d⟩:=info_parts Tryz.zinInt;refine wpList_append_own_at _ hgd s x 27 ho base 3 i0 (.int .i64 0) 1 8 underlying27 hi b c d rfl (by decide) v xs.length (xs.map mI) hs (h1.alloc _) ⟨w.heap.size,0,none⟩ 1 1 [.int .i64 y] hx rfl (fun j y hj=>by
  match j,hj with
  | 0,hj=>exact(ay w _).news 0 _ hj) (fun u hu=>by rw[List.mem_singleton]at hu;subst hu;rfl) (by unfold maxLen;omega) (by omega) (by rw[ah];omega) ?_
 intro v' w' r1 r2 _ r3;refine h v' w' ?_ ?_
 ·rw[List.map_append];exact r1
 have hB:=ai w (.cells #[.int .i64 y] 3);have hz:=ah w (.cells #[.int .i64 y] 3);exact⟨r2.os.trans hB.os,r2.tape.trans hB.tape,r2.output.trans hB.output,Nat.le_trans hB.size r2.size,fun k hk hne=>(r2.block k (by omega) hne).trans (hB.block k hk)⟩
theorem gE.mv{base lo D:Nat}{w w':World}{v:Value}{xs:List El}(h:gE base w v xs)(hm:Mv lo D w w')(hl:w.heap.size<=lo)(hD:D<base):gE base w' v xs:=by
 obtain⟨ps,e,h1,h2⟩:=h;refine⟨ps,e,⟨zc h1.own hm hl hD,fun p hp=>(h1.set p hp).same (fun k hk=>?_),fun p hp k hk=>?_,h1.dis⟩,fun p hp=>⟨zc (h2 p hp).1 hm hl hD,(h2 p hp).2⟩⟩
 ·have:=h1.blk p hp k hk;exact hm.block k (by omega) (by omega)
 have:=h1.blk p hp k hk;have:=hm.size;exact⟨(h1.blk p hp k hk).1,by omega,(h1.blk p hp k hk).2.2⟩
theorem aY.at{xs:List El}(h:aY xs)(i:Nat):az (xs[i]?.getD dE).kind/\az (xs[i]?.getD dE).mn/\az (xs[i]?.getD dE).mx/\∀ j:Nat,az ((xs[i]?.getD dE).set[j]?.getD 0):=h.num i
theorem zU{base g cap i:Nat}{w':World}{v:Value}{t:List El}{x':El}{s':Value}{sv:Nat->Value}(hn:aY t)(hv:v=.slice (some ⟨g,0,none⟩) t.length cap)(hc:t.length<=cap/\cap<=maxLen)(hg:base<=g)(hg2:g<w'.heap.size)
  (hoth:∀ j:Nat,j<t.length->j≠i->jD w' g (j*4) (t[j]?.getD dE) (sv j)/\aR base w'.heap.size w' (sv j) (t[j]?.getD dE).set)(h4:jD w' g (i*4) x' s')(hx:az x'.kind/\az x'.mn/\az x'.mx)(hs:aR base w'.heap.size w' s' x'.set):aA base w'.heap.size w' v (jk t i x'):=by
 have hl:(jk t i x').length=t.length:=by simp[jk]
 refine⟨some ⟨g,0,none⟩,cap,by rw[hl];exact hv,by rw[hl];exact hc,fun _=>⟨g,0,rfl,hg,hg2,fun j hj=>?_⟩⟩;rw[hl]at hj;rw[Nat.zero_add]
 by_cases e:j=i
 ·subst e;have ee:(jk t j x')[j]?.getD dE=x':=by unfold jk;rw[List.getElem?_set_self hj];rfl
  rw[ee];obtain⟨q0,q1,q2,q3⟩:=h4;exact⟨hx.1,hx.2.1,hx.2.2,s',q0,q1,q2,q3,hs⟩
 have ee:(jk t i x')[j]?.getD dE=t[j]?.getD dE:=by unfold jk;rw[List.getElem?_set_ne (fun q=>e q.symm)]
 rw[ee];obtain⟨⟨q0,q1,q2,q3⟩,a⟩:=hoth j hj e;have:=hn.at j;exact⟨this.1,this.2.1,this.2.2.1,sv j,q0,q1,q2,q3,a⟩
structure wQ (base i:Nat) (w:World) (v:Value) (t:List El) (g cap:Nat) (s:Value):Prop where
 val:v=.slice (some ⟨g,0,none⟩) t.length cap
 cap:t.length<=cap/\cap<=maxLen
 lo:base<=g
 hi:g<w.heap.size
 free:vT w g
 typ:∃ c t',w.heap[g]?=some (.cells c t' (0,0))/\t'≠3
 el:jD w g (i*4) (t[i]?.getD dE) s
 own:w.ownsRow base 3 1 s (t[i]?.getD dE).set.length ((t[i]?.getD dE).set.map mI)
 ne:s.ownBlock≠some g
 put:∀ (W:World) (x':El) (s' u:Value) (c:Nat),c<4->w.grownBy W s.ownBlock->jD (W.setCell ⟨g,i*4+c,none⟩ u) g (i*4) x' s'->az x'.kind/\az x'.mn/\az x'.mx->aR base W.heap.size (W.setCell ⟨g,i*4+c,none⟩ u) s' x'.set->aA base (W.setCell ⟨g,i*4+c,none⟩ u).heap.size (W.setCell ⟨g,i*4+c,none⟩ u) v (jk t i x')
theorem gE.at{base i:Nat}{w:World}{v:Value}{t:List El}(h:gE base w v t)(hn:aY t)(hi:i<t.length):∃ g cap s,wQ base i w v t g cap s:=by
 obtain⟨ps,rfl,h1,h2⟩:=h;rw[List.length_map]at hi;have a:(ps.map Pc.x).length=ps.length:=List.length_map ..;rcases h1.own.2 with ⟨rfl,hz⟩|⟨g,cap,cur,rfl,d,f,l,m,B,o⟩
 ·omega
 have hlt:=(h1.own.lt g rfl).2;have n:∀ j (hj:j<ps.length),jD w g (j*4) ps[j].x ps[j].s:=fun j hj=>by
  have hp:ps[j]?=some ps[j]:=List.getElem?_eq_getElem hj;have hc:∀ c,c<4->w.cell? ⟨g,j*4+c,none⟩=(dG ps[j].x ps[j].s)[c]? :=fun c hc=>by
   rw[h1.own.cellAt (j*4+c) (by omega)];exact jt ps j _ hp c hc
  exact⟨hc 0 (by omega),hc 1 (by omega),hc 2 (by omega),hc 3 (by omega)⟩
 have hx:∀ j (hj:j<ps.length),(ps.map Pc.x)[j]?.getD dE=ps[j].x:=fun j hj=>by rw[List.getElem?_map,List.getElem?_eq_getElem hj];rfl
 have hm:∀ j (hj:j<ps.length),ps[j]∈ps:=fun j hj=>List.getElem_mem hj
 have b:∀ j (hj:j<ps.length),ps[j].s.ownBlock≠some g:=fun j hj e=>(h1.blk _ (hm j hj) g ((h2 _ (hm j hj)).2 g e)).2.2 rfl
 refine⟨g,cap,ps[i].s,by rw[a],by rw[a];exact⟨l,m⟩,d,hlt,⟨cur,_,f⟩,⟨cur,_,f,by decide⟩,by rw[hx i hi];exact n i hi,by rw[hx i hi];exact(h2 _ (hm i hi)).1,b i hi,?_⟩;intro W x' s' u c hc hg h4 p hs;have r:W.heap[g]?=w.heap[g]? :=hg.block g hlt (fun e=>b i hi e.symm);have hz:(W.setCell ⟨g,i*4+c,none⟩ u).heap.size=W.heap.size:=aM _ _ _;have C:=hg.size;rw[hz];have key:=zU (base:=base) (g:=g) (cap:=cap) (i:=i) (w':=W.setCell ⟨g,i*4+c,none⟩ u) (v:=.slice (some ⟨g,0,none⟩) ps.length cap) (t:=ps.map Pc.x) (x':=x') (s':=s') (sv:=fun j=>(ps[j]?.map Pc.s).getD undef) hn (by rw[a]) (by rw[a];exact⟨l,m⟩) d (by rw[hz];omega) (fun j hj hne=>?_) h4 p (by rw[hz];exact hs)
 ·rw[hz]at key;exact key
 rw[a]at hj;have e1:(ps[j]?.map Pc.s).getD undef=ps[j].s:=by rw[List.getElem?_eq_getElem hj];rfl
 simp only[e1];rw[hx j hj,hz];refine⟨((n j hj).same r).put (by omega),?_⟩;have ho:w.ownsRow base 3 1 ps[j].s ps[j].x.set.length (ps[j].x.set.map mI):=(h2 _ (hm j hj)).1;have y:∀ k,ps[j].s.ownBlock=some k->ps[i].s.ownBlock≠some k:=fun k e1 e2=>by
  have q1:=(h2 _ (hm j hj)).2 k e1;have q2:=(h2 _ (hm i hi)).2 k e2;rcases Nat.lt_or_gt_of_ne hne with hl|hl
  ·exact List.pairwise_iff_getElem.1 h1.dis j i hj hi hl k q1 q2
  exact List.pairwise_iff_getElem.1 h1.dis i j hi hj hl k q2 q1
 have z:W.ownsRow base 3 1 ps[j].s ps[j].x.set.length (ps[j].x.set.map mI):=ho.kept hg (by
  cases hk:ps[j].s.ownBlock with
  | none=>exact .inl rfl
  | some k=>exact .inr (fun e=>y k hk e.symm))
 have A:(W.setCell ⟨g,i*4+c,none⟩ u).ownsRow base 3 1 ps[j].s ps[j].x.set.length (ps[j].x.set.map mI):=z.kept (row:=some g) ⟨rfl,rfl,rfl,Nat.le_of_eq (aM _ _ _).symm,fun k _ hk=>Below.heap_setCell _ _ _ _ (by show k≠g;exact fun e=>hk (by rw[e]))⟩ (by
  cases hk:ps[j].s.ownBlock with
  | none=>exact .inl rfl
  | some k=>exact .inr (by rw[<-hk];exact b j hj))
 have D:ps[j].x.set.length<=1048576:=by have:=hn.len j;rw[hx j hj]at this;exact this
 have h5:=(bW A lR (by unfold maxLen;omega)).ints (fun q=>by have:=(hn.at j).2.2.2 q;rw[hx j hj]at this;exact this);rw[hz]at h5;exact h5
theorem oU(w:World)(g o:Nat)(u:Value):w.grownBy (w.setCell ⟨g,o,none⟩ u) (some g):=⟨rfl,rfl,rfl,Nat.le_of_eq (aM _ _ _).symm,fun k _ hk=>Below.heap_setCell _ _ _ _ (by show k≠g;exact fun e=>hk (by rw[e]))⟩
theorem jD.putS{w:World}{b o:Nat}{x:El}{sv:Value}(h:jD w b o x sv)(cs:List Int)(u:Value):jD (w.setCell ⟨b,o+1,none⟩ u) b o ⟨x.kind,cs,x.mn,x.mx⟩ u:=by
 obtain⟨h0,h1,h2,h3⟩:=h;exact⟨by rw[aL (Or.inr (by omega))];exact h0,dX h1,by rw[aL (Or.inr (by omega))];exact h2,by rw[aL (Or.inr (by omega))];exact h3⟩
theorem DQ(w:World){a b c d:Int}(ha:az a)(hb:az b)(hc:az c)(hd:az d):aR w.heap.size (w.alloc (.cells #[.int .i64 a,.int .i64 b,.int .i64 c,.int .i64 d] 3)).heap.size (w.alloc (.cells #[.int .i64 a,.int .i64 b,.int .i64 c,.int .i64 d] 3)) (.slice (some ⟨w.heap.size,0,none⟩) 4 4) [a,b,c,d]:=by
 refine⟨_,4,rfl,by unfold maxLen;simp,fun i=>?_,fun _=>⟨w.heap.size,0,rfl,Nat.le_refl _,by rw[ah];exact Nat.lt_succ_self _,fun i hi=>?_⟩⟩
 ·match i with
  | 0=>exact ha
  | 1=>exact hb
  | 2=>exact hc
  | 3=>exact hd
  | i+4=>simp[az]
 have e:i<4:=hi
 match i,e with
 | 0,_=>exact(ay w _).news 0 _ rfl
 | 1,_=>exact(ay w _).news 1 _ rfl
 | 2,_=>exact(ay w _).news 2 _ rfl
 | 3,_=>exact(ay w _).news 3 _ rfl
theorem wQ.keepS{base i g cap:Nat}{w:World}{v s:Value}{t:List El}(h:wQ base i w v t g cap s)(hn:aY t)(o:Nat)(u:Value):aR base w.heap.size (w.setCell ⟨g,o,none⟩ u) s (t[i]?.getD dE).set:=by
 have a:(w.setCell ⟨g,o,none⟩ u).ownsRow base 3 1 s (t[i]?.getD dE).set.length ((t[i]?.getD dE).set.map mI):=h.own.kept (row:=some g) (oU _ _ _ _) (.inr h.ne);have b:=hn.len i;have h5:=(bW a lR (by unfold maxLen;omega)).ints (hn.at i).2.2.2;rw[aM]at h5;exact h5
theorem wQ.nofz{base i g cap:Nat}{w:World}{v s:Value}{t:List El}(h:wQ base i w v t g cap s)(o:Nat):w.frozen? ⟨g,o,none⟩=false:=by
 obtain⟨c,ty,hc⟩:=h.free;simp[World.frozen?,hc]
theorem fy(w:World)(r:Option Nat):w.grownBy w r:=⟨rfl,rfl,rfl,Nat.le_refl _,fun _ _ _=>rfl⟩
theorem gE.e{base:Nat}{w:World}{v:Value}{xs:List El}(h:gE base w v xs):aP base w v xs:=by
 obtain⟨ps,e,h1,-⟩:=h;exact⟨ps,e,h1⟩
theorem kK{N D i g cp:Nat}{w w3:World}{t:List El}{s2 v0 v:Value}{zs cs:List Int}{O:Obj}(hsp:wQ w.heap.size i w3 v0 t g cp s2)(hI:az (t[i]?.getD dE).kind/\az (t[i]?.getD dE).mn/\az (t[i]?.getD dE).mx/\∀ j:Nat,az ((t[i]?.getD dE).set[j]?.getD 0))(hc:bR N D w3 zs)(hm:Mv w.heap.size D w w3)(hD:D<w.heap.size)(hz:w.heap.size<=w3.heap.size)(hhi:g<w3.heap.size)(hlo:w.heap.size<=g)(hi:aR w3.heap.size (w3.alloc O).heap.size (w3.alloc O) v cs) :
  zT N D w.heap.size w (jk t i ⟨(t[i]?.getD dE).kind,cs,(t[i]?.getD dE).mn,(t[i]?.getD dE).mx⟩,zs) (.returned v0) ((w3.alloc O).setCell ⟨g,i*4+1,none⟩ v):=by
 have a:=ai w3 O;have b:jD (w3.alloc O) g (i*4) (t[i]?.getD dE) s2:=hsp.el.same (a.block g hhi);have c:w3.grownBy (w3.alloc O) s2.ownBlock:=⟨a.os,a.tape,a.output,a.size,fun k hk _=>a.block k hk⟩;refine⟨⟨_,rfl,?_⟩,(hc.keep a (by omega)).keep (aD (Below.refl w.heap.size _) (by omega) _) (by omega),(hm.trans (eJ a D (by omega))).trans (Below.mv (aD (Below.refl w.heap.size _) (by omega) _) D)⟩;exact(hsp.put _ ⟨(t[i]?.getD dE).kind,cs,(t[i]?.getD dE).mn,(t[i]?.getD dE).mx⟩ v _ 1 (by omega) c (b.putS _ _) ⟨hI.1,hI.2.1,hI.2.2.1⟩ ((hi.same ((dm.refl _ _ _).setCell (Or.inl hhi) _)).mono (by omega) lR)).mono lR lR
theorem qR(N D lo:Nat)(tv:Value)(t:List El)(xs:List Int)(w:World)(h:bR N D w xs)(hx:dN xs)(hD:D<lo)(hlo:lo<=w.heap.size)(htv:aA lo w.heap.size w tv t)(hn:NL 700 t)(ht:0<t.length) :
  Calls prog 35 #[tv,.pointer (some ⟨D,0,none⟩)] w (zT N D w.heap.size w (iI t xs)):=by
 have H:=ae h;have HX:=ae hx;have hh:=hx.head;have a8:=hx.tail.head;have a9:=hx.tail.tail.head;have hl:=hn.len;have HN:=ae hn.nice;have aa:=ae htv;obtain⟨ta,tc,rfl,-⟩:=htv;obtain⟨y,hy⟩ : ∃ y,xs.headD 0=y:=⟨_,rfl⟩;obtain⟨y2,C⟩ : ∃ y,xs.tail.headD 0=y:=⟨_,rfl⟩;obtain⟨y3,E⟩ : ∃ y,xs.tail.tail.headD 0=y:=⟨_,rfl⟩;rw[hy]at hh;rw[C]at a8;rw[E]at a9;obtain⟨i,hi⟩ : ∃ i:Nat,(y2%(t.length:Int)).toNat=i:=⟨_,rfl⟩;have ab:=Int.emod_nonneg y2 (show(t.length:Int)≠0 by omega);have ad:=Int.emod_lt_of_pos y2 (show(0:Int)<t.length by omega);have bb:y2%(t.length:Int)=(i:Int):=by omega
 have K:i<t.length:=by omega
 obtain⟨R,hR⟩ : ∃ R,R=iI t xs:=⟨_,rfl⟩;rw[<-hR];have d:Hi (R=(Fe t (y%12) y3 i,if y%12=2 then xs.tail.tail.tail else xs.tail.tail)):=by
  show R=_;rw[hR];unfold iI;rw[hy,C,E,hi]
 have HY:=ae hy;have af:=ae C;have ag:=ae E;have bc:¬ (t.length:Int)=0:=by omega
 clear hy C E h hx hR hi hn ab ad
 go_enter func35,ntmps35
 go_wp2_with fail;refine(td _ t w (aa.u.mono (Nat.zero_le _) lR) (by omega) HN.u.len).mono ?_;rintro e w1 ⟨v1,rfl,L,F⟩;obtain⟨g,cp,s1,I⟩:=L.at HN.u K;have e1:=I.val;subst e1;have Z:=ae L;have al:=F.size;have a0:=ae (H.u.keep F (by omega));have an:=ae (Below.mv F D);clear L F I
 go_wp2_with fail;refine(aE N D xs w1 a0.u HX.u).mono ?_;rintro e w2 ⟨he,a1,M⟩;rw[HY.u]at he;subst he
 go_wp2_with fail;refine(aE N D xs.tail w2 a1 HX.u.tail).mono ?_;rintro e w3 ⟨he,a2,O⟩;rw[af.u]at he;subst he;have ao:w2.heap.size=w1.heap.size:=M.size;have ap:w3.heap.size=w2.heap.size:=O.size;have f:=ae a2;have P:=(M.mv w1.heap.size).trans (O.mv w1.heap.size);have j:=ae (an.u.trans (P.mono (by omega)));have s:=ae (Z.u.mv P lR (by omega));have Q:w.heap.size<=w3.heap.size:=by omega
 clear a1 a2 M O P Z a0 al ao ap;obtain⟨g2,cp2,s2,c⟩:=s.u.at HN.u K;have e2:=c.val;simp only[Value.slice.injEq,Option.some.injEq,Addr.mk.injEq,and_true,true_and]at e2;obtain⟨rfl,rfl⟩:=e2;have b:=ae c;have v:=c.lo;have l:=c.hi;obtain⟨q0,q1,q2,q3⟩:=c.el;have a3:=c.cap;unfold maxLen at a3;have z0:=c.nofz (i*4);have z1:=c.nofz (i*4+1);have z2:=c.nofz (i*4+2);have z3:=c.nofz (i*4+3);have aq:=HN.u.at i;have HI:=ae (aY.at HN.u i);have hk:0<=y%12/\y%12<12:=by omega
 generalize y%12=k at *;clear c aq;have hc:(k=0∨k=1)∨k=2∨k=3∨k=4∨k=5∨k=6∨k=7∨k=8∨k=9∨k=10∨k=11:=by omega
 clear hk;rcases hc with hc|rfl|rfl|rfl|rfl|rfl|rfl|rfl|rfl|rfl|rfl
 ·rcases hc with rfl|rfl
  all_goals
   go_wp2;go_ret
   first|have e9:R=(jk t i ⟨5,(t[i]?.getD dE).set,(t[i]?.getD dE).mn,(t[i]?.getD dE).mx⟩,xs.tail.tail):=d.u|have e9:R=(jk t i ⟨-1,(t[i]?.getD dE).set,(t[i]?.getD dE).mn,(t[i]?.getD dE).mx⟩,xs.tail.tail):=d.u
   subst e9;refine⟨⟨_,rfl,?_⟩,f.u.keep (aD (Below.refl w.heap.size w3) (by omega) _) (by omega),j.u.trans (Below.mv (aD (Below.refl w.heap.size w3) (by omega) _) D)⟩
   first|exact(b.u.put w3 _ s2 _ 0 (by omega) (fy _ _) (b.u.el.putK 5) ⟨by simp[az],HI.u.2.1,HI.u.2.2.1⟩ (b.u.keepS HN.u _ _)).mono lR lR|exact(b.u.put w3 _ s2 _ 0 (by omega) (fy _ _) (b.u.el.putK (-1)) ⟨by simp[az],HI.u.2.1,HI.u.2.2.1⟩ (b.u.keepS HN.u _ _)).mono lR lR
 ·clear q0 q1 q2 q3 z0 z1 z2 z3
  go_wp2_with fail;refine(aE N D xs.tail.tail w3 f.u HX.u.tail.tail).mono ?_;rintro e w4 ⟨he,a4,n⟩;rw[ag.u]at he;subst he;have bd:w4.heap.size=w3.heap.size:=n.size;have ar:=ae a4;have av:=ae (j.u.trans (n.mv _));have aw:=ae (s.u.mv (n.mv w3.heap.size) lR (by omega));clear a4 n b;obtain⟨g3,cp3,s3,c⟩:=aw.u.at HN.u K;have e3:=c.val;simp only[Value.slice.injEq,Option.some.injEq,Addr.mk.injEq,and_true,true_and]at e3;obtain⟨rfl,rfl⟩:=e3;have b:=ae c;have b9:=c.lo;obtain⟨q0,q1,q2,q3⟩:=c.el;have z0:=c.nofz (i*4);have ax:az (y3%5):=by unfold az;omega
  clear c;go_wp2;go_ret;have e9:=d.u;subst e9;refine⟨⟨_,rfl,?_⟩,ar.u.keep (aD (Below.refl w.heap.size w4) (by omega) _) (by omega),av.u.trans (Below.mv (aD (Below.refl w.heap.size w4) (by omega) _) D)⟩;exact(b.u.put w4 _ s3 _ 0 (by omega) (fy _ _) (b.u.el.putK _) ⟨ax,HI.u.2.1,HI.u.2.2.1⟩ (b.u.keepS HN.u _ _)).mono lR lR
 ·obtain⟨mq,p⟩ : ∃ m,(t[i]?.getD dE).mn=m:=⟨_,rfl⟩;have S:=ae p;rw[p]at q2;clear p;go_wp2;go_ret;have e9:R=(jk t i ⟨(t[i]?.getD dE).kind,(t[i]?.getD dE).set,wrap64 ((t[i]?.getD dE).mn+1),(t[i]?.getD dE).mx⟩,xs.tail.tail):=d.u;rw[S.u]at e9;subst e9;refine⟨⟨_,rfl,?_⟩,f.u.keep (aD (Below.refl w.heap.size w3) (by omega) _) (by omega),j.u.trans (Below.mv (aD (Below.refl w.heap.size w3) (by omega) _) D)⟩;exact(b.u.put w3 ⟨(t[i]?.getD dE).kind,(t[i]?.getD dE).set,wrap64 (mq+1),(t[i]?.getD dE).mx⟩ s2 (.int .i64 (wrap64 (mq+1))) 2 (by omega) (fy _ _) (b.u.el.putM _) ⟨HI.u.1,uM _,HI.u.2.2.1⟩ (b.u.keepS HN.u _ _)).mono lR lR
 ·obtain⟨mq,p⟩ : ∃ m,(t[i]?.getD dE).mx=m:=⟨_,rfl⟩;have S:=ae p;rw[p]at q3;clear p;go_wp2;go_ret;have e9:R=(jk t i ⟨(t[i]?.getD dE).kind,(t[i]?.getD dE).set,(t[i]?.getD dE).mn,wrap64 ((t[i]?.getD dE).mx-1)⟩,xs.tail.tail):=d.u;rw[S.u]at e9;subst e9;refine⟨⟨_,rfl,?_⟩,f.u.keep (aD (Below.refl w.heap.size w3) (by omega) _) (by omega),j.u.trans (Below.mv (aD (Below.refl w.heap.size w3) (by omega) _) D)⟩;exact(b.u.put w3 ⟨(t[i]?.getD dE).kind,(t[i]?.getD dE).set,(t[i]?.getD dE).mn,wrap64 (mq-1)⟩ s2 (.int .i64 (wrap64 (mq-1))) 3 (by omega) (fy _ _) (b.u.el.putX _) ⟨HI.u.1,HI.u.2.1,uM _⟩ (b.u.keepS HN.u _ _)).mono lR lR
 ·have b0:=HN.u.len i;obtain⟨cs,T⟩ : ∃ cs,(t[i]?.getD dE).set=cs:=⟨_,rfl⟩;have a5:=ae T;have n:=b.u.own;rw[T]at n b0;have HO:=ae n;obtain⟨sa,sc,e6⟩:=aj n;subst e6;clear T n
  go_wp2_with (at_builtin;refine DH rfl _ _ rfl w.heap.size (.slice sa cs.length sc) rfl 7 rfl cs.length cs rfl HO.u (by omega) (by omega) ?_)
  intro v5 w5 J o;have G:w5.ownsRow w.heap.size 3 1 v5 (cs.length+1) ((cs++[7]).map mI):=by rw[List.map_append];exact J
  clear J;have be:=o.size;have U:w5.heap[g]?=w3.heap[g]? :=o.block g l (fun e=>b.u.ne e.symm);have a6:Hi (jD w5 g (i*4) (t[i]?.getD dE) (.slice sa cs.length sc)):=b.u.el.same U;obtain⟨r0,r1,r2,r3⟩:=a6.u;have y1:w5.frozen? ⟨g,i*4+1,none⟩=false:=(World.frozen?_of_block (a:=⟨g,i*4+1,none⟩) U).trans z1;have b1:=ae o;have V:Below w.heap.size w3 w5:=(Below.refl w.heap.size w3).grown o (by omega) (fun k hk=>(HO.u.lt k hk).1);have b2:=ae (f.u.keep V (by omega));have b3:=ae (j.u.trans (Below.mv V D));have bf:cs.length+1<=9000000000000000:=by omega
  have a7:v5.ownBlock=none∨v5.ownBlock≠some g:=by
   cases hk5:v5.ownBlock with
   | none=>exact .inl rfl
   | some k =>
    refine .inr (fun e=>?_)
    have e5:k=g:=Option.some.inj e;subst e5;obtain⟨c8,t8,h8,b4⟩:=b.u.typ;rcases G.2 with ⟨rfl,_⟩|⟨g9,cap9,cur9,rfl,bl,x,_⟩
    ·simp[Value.ownBlock]at hk5
    have e6:g9=k:=by simpa[Value.ownBlock]using hk5
    subst e6;rw[U,h8]at x;simp only[Option.some.injEq,Obj.cells.injEq]at x;exact b4 x.2.1
  have b5:Hi (∀ u,aR w.heap.size w5.heap.size (w5.setCell ⟨g,i*4+1,none⟩ u) v5 (cs++[7])):=fun u=>by
   have b6:(w5.setCell ⟨g,i*4+1,none⟩ u).ownsRow w.heap.size 3 1 v5 (cs.length+1) ((cs++[7]).map mI):=G.kept (w':=w5.setCell ⟨g,i*4+1,none⟩ u) (row:=some g) (oU _ _ _ _) a7;have h6:=(bW b6 lR (by unfold maxLen;omega)).ints (fun q=>by
    by_cases hq:q<cs.length
    ·rw[List.getElem?_append_left hq,<-a5.u];exact HI.u.2.2.2 q
    rw[List.getElem?_append_right (by omega)];cases hq2:q-cs.length with
    | zero=>simp[az]
    | succ m=>simp[az])
   rw[aM]at h6;exact h6
  obtain⟨va5,vc5,e7⟩:=aj G;subst e7;clear G o V;go_wp2;go_ret;have e9:R=(jk t i ⟨(t[i]?.getD dE).kind,(t[i]?.getD dE).set++[7],(t[i]?.getD dE).mn,(t[i]?.getD dE).mx⟩,xs.tail.tail):=d.u;rw[a5.u]at e9;subst e9;refine⟨⟨_,rfl,?_⟩,b2.u.keep (aD (Below.refl w.heap.size w5) (by omega) _) (by omega),b3.u.trans (Below.mv (aD (Below.refl w.heap.size w5) (by omega) _) D)⟩;exact(b.u.put w5 ⟨(t[i]?.getD dE).kind,cs++[7],(t[i]?.getD dE).mn,(t[i]?.getD dE).mx⟩ _ _ 1 (by omega) b1.u (a6.u.putS _ _) ⟨HI.u.1,HI.u.2.1,HI.u.2.2.1⟩ (b5.u _)).mono lR lR
 ·go_wp2;go_ret;rw[<-World.setCell_alloc_past _ _ _ _ l];have e9:=d.u;subst e9;exact kK b.u HI.u f.u j.u (by omega) Q l v (iC w3 (by simp[az]) (by simp[az]))
 ·go_wp2;go_ret;rw[<-World.setCell_alloc_past _ _ _ _ l];have e9:=d.u;subst e9;exact kK b.u HI.u f.u j.u (by omega) Q l v (DQ w3 (by simp[az]) (by simp[az]) (by simp[az]) (by simp[az]))
 ·go_wp2;go_ret;rw[<-World.setCell_alloc_past _ _ _ _ l];have e9:=d.u;subst e9;exact kK b.u HI.u f.u j.u (by omega) Q l v (iC w3 (by simp[az]) (by simp[az]))
 ·have b7:=ae (s.u.e.els2 HN.u);have W:(t.take (t.length-1)).length=t.length-1:=by rw[List.length_take];omega
  have HF:Hi (aA w.heap.size w3.heap.size w3 (.slice (some ⟨g,0,none⟩) (t.length-1) cp) (t.take (t.length-1))):=by
   have h1:aA w.heap.size w3.heap.size w3 (.slice (some ⟨g,0,none⟩) t.length cp) (t.take (t.length-1)++t.drop (t.length-1)):=by rw[List.take_append_drop];exact b7.u
   have h2:=h1.pre;rw[W]at h2;exact h2
  have bn:(0:Int)<=(t.length:Int)-1:=by omega
  have bo:(t.length:Int)-1<=(cp:Int):=by omega
  have bp:((t.length:Int)-1).toNat=t.length-1:=by omega
  go_wp2;go_ret;have e9:=d.u;subst e9;refine⟨⟨_,rfl,?_⟩,f.u,j.u⟩;exact HF.u.mono lR lR
 ·obtain⟨ps,r,z,-⟩:=s.u;have X:=ae z;have Y:=ae r;have b8:ps.length=t.length:=by rw[<-r,List.length_map]
  clear z r
  go_wp2_with (at_builtin;refine js ⟨2,[],0,0⟩ (.slice none 0 0) (fun _=>False) rfl _ _ rfl rfl rfl X.u (by omega) (Below.refl _ _) (ir.none _) (fun k hk=>hk.elim) rfl ⟨rfl,rfl,rfl,rfl⟩ (by omega) ?_)
  intro v4 w4 A B;have HF:Hi (aP w.heap.size w4 v4 (t++[⟨2,[],0,0⟩])):=⟨_,by simp[Y.u],A⟩;have HE:Hi (aA w.heap.size w4.heap.size w4 v4 (t++[⟨2,[],0,0⟩])):=HF.u.els2 (HN.u.app (aY.op _ _ _ (by simp[az]) (by simp[az]) (by simp[az])));clear A;go_wp2;go_ret;have e9:=d.u;subst e9;refine⟨⟨_,rfl,?_⟩,f.u.keep B (by omega),j.u.trans (Below.mv B D)⟩;exact HE.u.mono lR lR
 obtain⟨ps,r,z,-⟩:=s.u;have X:=ae z;have Y:=ae r;have b8:ps.length=t.length:=by rw[<-r,List.length_map]
 clear z r
 go_wp2_with (at_builtin;refine js ⟨0,[],0,0⟩ (.slice none 0 0) (fun _=>False) rfl _ _ rfl rfl rfl X.u (by omega) (Below.refl _ _) (ir.none _) (fun k hk=>hk.elim) rfl ⟨rfl,rfl,rfl,rfl⟩ (by omega) ?_)
 intro v4 w4 A B;have HF:Hi (aP w.heap.size w4 v4 (t++[⟨0,[],0,0⟩])):=⟨_,by simp[Y.u],A⟩;have HE:Hi (aA w.heap.size w4.heap.size w4 v4 (t++[⟨0,[],0,0⟩])):=HF.u.els2 (HN.u.app (aY.op _ _ _ (by simp[az]) (by simp[az]) (by simp[az])));clear A;go_wp2;go_ret;have e9:=d.u;subst e9;refine⟨⟨_,rfl,?_⟩,f.u.keep B (by omega),j.u.trans (Below.mv B D)⟩;exact HE.u.mono lR lR
theorem lU(N D lo:Nat)(xs:List Int)(w:World)(h:bR N D w xs)(hx:dN xs)(hD:D<lo)(hlo:lo<=w.heap.size) :
  Calls prog 33 #[.pointer (some ⟨D,0,none⟩)] w (zT N D lo w (ud xs)):=by
 have H:=ae h;have HX:=ae hx;have hh:=hx.head;have bt:=hx.tail.head;obtain⟨y,hy⟩ : ∃ y,xs.headD 0=y:=⟨_,rfl⟩;obtain⟨y2,aa⟩ : ∃ y,xs.tail.headD 0=y:=⟨_,rfl⟩;unfold ud;rw[hy,aa];rw[hy]at hh;rw[aa]at bt;obtain⟨L,hL⟩ : ∃ L,L=pY (y%6) (y2%3-1):=⟨_,rfl⟩;rw[<-hL];have HL:=ae hL;have HY:=ae hy;have bv:=ae aa;have d7 : -1<=y2%3-1/\y2%3-1<=1:=by omega
 clear hy aa h hx hL
 go_enter func33,ntmps33
 go_wp2_with fail;refine(aE N D xs w H.u HX.u).mono ?_;rintro e w0 ⟨he,b7,b2⟩;rw[HY.u]at he;subst he
 go_wp2_with fail;refine(aE N D xs.tail w0 b7 HX.u.tail).mono ?_;rintro e w1 ⟨he,b8,b3⟩;rw[bv.u]at he;subst he;have d8:w0.heap.size=w.heap.size:=b2.size;have d9:w1.heap.size=w0.heap.size:=b3.size;have bx:=ae b8;have bz:=ae ((b2.mv w.heap.size).trans (b3.mv w.heap.size));clear b7 b2 b8 b3
 go_wp2_with fail;refine(eo 97 w1 (by unfold az;omega)).mono ?_;rintro e w2 ⟨v2,rfl,b9,ab⟩;have c0:=ae (b9.mono (lo':=lo) (by omega) lR);obtain⟨a2,c2,rfl,-⟩:=b9;have db:=ab.size;have c1:=ae (bx.u.keep ab (by omega));have ca:=ae (bz.u.trans (eJ ab D (by omega)));clear ab
 go_wp2_with fail;refine(cJ lo _ _ w2 c0.u (by omega) (by simp)).mono ?_;rintro e w3 ⟨v3,rfl,bb,ad⟩;have bc:=ae bb;obtain⟨a3,c3,rfl,-⟩:=bb;have df:=ad.size;have cb:=ae (c1.u.keep ad (by omega));have cc:=ae (ca.u.trans (eJ ad D (by omega)));clear ad
 go_wp2_with fail;refine(eo 98 w3 (by unfold az;omega)).mono ?_;rintro e w4 ⟨v4,rfl,bd,T⟩;have cf:=ae (bd.mono (lo':=lo) (by omega) lR);obtain⟨a4,c4,rfl,-⟩:=bd;have ds:=T.size;have ch:=ae (cb.u.keep T (by omega));have ci:=ae (cc.u.trans (eJ T D (by omega)));have be:=ae (bc.u.below T lR);clear T
 go_wp2_with fail;refine(cJ lo _ _ w4 cf.u (by omega) (by simp)).mono ?_;rintro e w5 ⟨v5,rfl,bf,U⟩;have an:=ae bf;obtain⟨a5,c5,rfl,-⟩:=bf;have e0:=U.size;have ck:=ae (ch.u.keep U (by omega));have cl:=ae (ci.u.trans (eJ U D (by omega)));have ao:=ae (be.u.below U lR);clear U
 go_wp2_with fail;refine(iA ao.u an.u (NL.one (x:=97) (by omega) (by omega)) (NL.one (x:=98) (by omega) (by omega)) (by omega) (by omega) (by omega)).mono ?_;rintro e w6 ⟨v6,rfl,bl,Q⟩;have i:=ae bl;obtain⟨a6,c6,rfl,-⟩:=bl;have e1:=Q.size;have R:=ae (ck.u.keep Q (by omega));have S:=ae (cl.u.trans (eJ Q D (by omega)));have V:=ae (ao.u.below Q lR);have d1:=ae (an.u.below Q lR);clear Q;have hk:0<=y%6/\y%6<6:=by omega
 generalize y%6=k at *;have hc:k=0∨k=1∨k=2∨k=3∨k=4∨k=5:=by omega
 clear hk;rcases hc with rfl|rfl|rfl|rfl|rfl|rfl
 ·have HE:Hi (L=bi (eg (cY 97) (cY 98)) (250+(y2%3-1)) (250+(y2%3-1))):=HL.u
  go_wp2_with fail;refine(ez i.u ((NL.one (x:=97) (by omega) (by omega)).cat (NL.one (x:=98) (by omega) (by omega))) (by omega) (by omega) (p:=(250+(y2%3-1))) (q:=(250+(y2%3-1))) (by unfold az;omega) (by unfold az;omega)).mono ?_;rintro e w7 ⟨v7,rfl,g,b⟩;have G:=ae g;obtain⟨a7,c7,rfl,-⟩:=g;have af:=b.size;have B:=ae (R.u.keep b (by omega));have C:=ae (S.u.trans (eJ b D (by omega)));have W:=ae (i.u.below b lR);clear b;go_wp2;go_ret;refine⟨⟨_,rfl,?_⟩,B.u,C.u⟩;show aA lo _ _ _ L;rw[HE.u];exact G.u
 ·have HE:Hi (L=bi (cY 97) 0 (250+(y2%3-1))):=HL.u
  go_wp2_with fail;refine(ez V.u (NL.one (x:=97) (by omega) (by omega)) (by omega) (by omega) (p:=0) (q:=(250+(y2%3-1))) (by unfold az;omega) (by unfold az;omega)).mono ?_;rintro e w7 ⟨v7,rfl,g,b⟩;have G:=ae g;obtain⟨a7,c7,rfl,-⟩:=g;have af:=b.size;have B:=ae (R.u.keep b (by omega));have C:=ae (S.u.trans (eJ b D (by omega)));have d2:=ae (V.u.below b lR);clear b;go_wp2;go_ret;refine⟨⟨_,rfl,?_⟩,B.u,C.u⟩;show aA lo _ _ _ L;rw[HE.u];exact G.u
 ·go_wp2_with fail;refine(ez i.u ((NL.one (x:=97) (by omega) (by omega)).cat (NL.one (x:=98) (by omega) (by omega))) (by omega) (by omega) (p:=249) (q:=(-1)) (by unfold az;omega) (by unfold az;omega)).mono ?_;rintro e w7 ⟨v7,rfl,g,b⟩;have G:=ae g;obtain⟨a7,c7,rfl,-⟩:=g;have af:=b.size;have B:=ae (R.u.keep b (by omega));have C:=ae (S.u.trans (eJ b D (by omega)));have W:=ae (i.u.below b lR);clear b;obtain⟨q,hq⟩ : ∃ q:Nat,((y2%3-1)+1).toNat=q:=⟨_,rfl⟩;have e2:y2%3-1=(q:Int)-1:=by omega
  have HE:Hi (L=sd q (bi (eg (cY 97) (cY 98)) 249 (-1))):=by show L=_;rw[HL.u];unfold pY;rw[if_neg (by decide),if_neg (by decide),if_pos rfl,hq]
  clear hq
  go_wp2_with fail
  go_loopw [7,8] (fun tv iv wr=>∃ m:Nat,m<=q/\iv=.int .i64 (m:Nat)/\aA lo wr.heap.size wr tv (sd m (bi (eg (cY 97) (cY 98)) 249 (-1)))/\bR N D wr xs.tail.tail/\Mv w.heap.size D w wr) (fun _ iv _=>q-(intOf iv).toNat)
  case atStart=>exact⟨0,Nat.zero_le _,rfl,G.u,B.u,C.u⟩
  obtain⟨m,hm,rfl,X,M,E⟩:=hrel;obtain⟨w20,rfl⟩ : ∃ w20,w20=wr:=⟨_,rfl⟩;have d:=ae X;obtain⟨a20,c20,rfl,-⟩:=X;have v:=ae M;have z:=ae E;have bn:=E.size;have l:=vw m (((NL.one (x:=97) (by omega) (by omega)).cat (NL.one (x:=98) (by omega) (by omega))).rep (lo:=249) (hi:=(-1)) (by unfold az;omega) (by unfold az;omega))
  by_cases hlt:m<q
  ·have ap:(m:Int)<=y2%3-1:=by omega
   clear M E
   go_wp2_with fail;refine(AY lo w20 (by omega)).mono ?_;rintro e w21 ⟨v21,rfl,f,a⟩;have Y:=ae f;obtain⟨a21,c21,rfl,-⟩:=f;have Z:=a.size;have n:=ae (v.u.keep a (by omega));have o:=ae (z.u.trans (eJ a D (by omega)));have r:=ae (d.u.below a lR);clear a
   go_wp2_with fail;refine(kE r.u Y.u l DT.e.nl (by omega) (by omega) (by omega)).mono ?_;rintro e w22 ⟨v22,rfl,j,c⟩;have s:=ae j;obtain⟨a22,c22,rfl,-⟩:=j;have aq:=c.size;have I:=ae (n.u.keep c (by omega));have J:=ae (o.u.trans (eJ c D (by omega)));have cp:=ae (r.u.below c lR);have cr:=ae (Y.u.below c lR);clear c;go_wp2
   go_roundw
   case rel=>exact⟨m+1,by omega,by go_num,by rw[zh];exact s.u,I.u,J.u⟩
   simp[intOf];omega
  have ap:¬ (m:Int)<=y2%3-1:=by omega
  obtain rfl:m=q:=by omega
  clear M E;go_wp2;go_ret;refine⟨⟨_,rfl,?_⟩,v.u,z.u⟩;show aA lo _ _ _ L;rw[HE.u];exact d.u
 ·go_wp2_with fail;refine(ez i.u ((NL.one (x:=97) (by omega) (by omega)).cat (NL.one (x:=98) (by omega) (by omega))) (by omega) (by omega) (p:=5) (q:=5) (by unfold az;omega) (by unfold az;omega)).mono ?_;rintro e w7 ⟨v7,rfl,g,b⟩;have ar:=ae g;obtain⟨a7,c7,rfl,-⟩:=g;have af:=b.size;have B:=ae (R.u.keep b (by omega));have C:=ae (S.u.trans (eJ b D (by omega)));have W:=ae (i.u.below b lR);clear b
  go_wp2_with fail;refine(ez ar.u (((NL.one (x:=97) (by omega) (by omega)).cat (NL.one (x:=98) (by omega) (by omega))).rep (lo:=5) (hi:=5) (by unfold az;omega) (by unfold az;omega)) (by omega) (by omega) (p:=50) (q:=50) (by unfold az;omega) (by unfold az;omega)).mono ?_;rintro e w8 ⟨v8,rfl,a0,t⟩;have P:=ae a0;obtain⟨a8,c8,rfl,-⟩:=a0;have cs:=t.size;have ag:=ae (B.u.keep t (by omega));have al:=ae (C.u.trans (eJ t D (by omega)));have d3:=ae (ar.u.below t lR);clear t
  by_cases hd1:y2%3-1=1
  ·have HE:Hi (L=fN (bi (bi (eg (cY 97) (cY 98)) 5 5) 50 50) eE):=by show L=_;rw[HL.u];unfold pY;rw[if_neg (by decide),if_neg (by decide),if_neg (by decide),if_pos rfl,if_pos hd1]
   go_wp2_with fail;refine(AY lo w8 (by omega)).mono ?_;rintro e w9 ⟨v9,rfl,bo,a1⟩;have av:=ae bo;obtain⟨a9,c9,rfl,-⟩:=bo;have e3:=a1.size;have ct:=ae (ag.u.keep a1 (by omega));have cv:=ae (al.u.trans (eJ a1 D (by omega)));have aw:=ae (P.u.below a1 lR);clear a1
   go_wp2_with fail;refine(kE aw.u av.u ((((NL.one (x:=97) (by omega) (by omega)).cat (NL.one (x:=98) (by omega) (by omega))).rep (lo:=5) (hi:=5) (by unfold az;omega) (by unfold az;omega)).rep (lo:=50) (hi:=50) (by unfold az;omega) (by unfold az;omega)) DT.e.nl (by omega) (by omega) (by omega)).mono ?_;rintro e w10 ⟨v10,rfl,ax,A⟩;have b4:=ae ax;obtain⟨a10,c10,rfl,-⟩:=ax;have d4:=A.size;have bp:=ae (ct.u.keep A (by omega));have bq:=ae (cv.u.trans (eJ A D (by omega)));have cw:=ae (aw.u.below A lR);have cx:=ae (av.u.below A lR);clear A;go_wp2;go_ret;refine⟨⟨_,rfl,?_⟩,bp.u,bq.u⟩;show aA lo _ _ _ L;rw[HE.u];exact b4.u
  have HE:Hi (L=bi (bi (eg (cY 97) (cY 98)) 5 5) 50 50):=by show L=_;rw[HL.u];unfold pY;rw[if_neg (by decide),if_neg (by decide),if_neg (by decide),if_pos rfl,if_neg hd1]
  go_wp2;go_ret;refine⟨⟨_,rfl,?_⟩,ag.u,al.u⟩;show aA lo _ _ _ L;rw[HE.u];exact P.u
 ·have HE:Hi (L=bi eE 0 (250+(y2%3-1))):=HL.u
  go_wp2_with fail;refine(AY lo w6 (by omega)).mono ?_;rintro e w7 ⟨v7,rfl,g,b⟩;have b0:=ae g;obtain⟨a7,c7,rfl,-⟩:=g;have af:=b.size;have B:=ae (R.u.keep b (by omega));have C:=ae (S.u.trans (eJ b D (by omega)));clear b
  go_wp2_with fail;refine(ez b0.u DT.e.nl (by omega) (by omega) (p:=0) (q:=(250+(y2%3-1))) (by unfold az;omega) (by unfold az;omega)).mono ?_;rintro e w8 ⟨v8,rfl,a0,t⟩;have P:=ae a0;obtain⟨a8,c8,rfl,-⟩:=a0;have cs:=t.size;have ag:=ae (B.u.keep t (by omega));have al:=ae (C.u.trans (eJ t D (by omega)));have d5:=ae (b0.u.below t lR);clear t;go_wp2;go_ret;refine⟨⟨_,rfl,?_⟩,ag.u,al.u⟩;show aA lo _ _ _ L;rw[HE.u];exact P.u
 go_wp2_with fail
 go_loopw [11,12] (fun tv iv wr=>∃ m:Nat,m<=30/\iv=.int .i64 (m:Nat)/\aA lo wr.heap.size wr tv (ji m (cY 97))/\bR N D wr xs.tail.tail/\Mv w.heap.size D w wr) (fun _ iv _=>30-(intOf iv).toNat)
 case atStart=>exact⟨0,Nat.zero_le _,rfl,V.u,R.u,S.u⟩
 obtain⟨m,hm,rfl,X,M,E⟩:=hrel;obtain⟨w20,rfl⟩ : ∃ w20,w20=wr:=⟨_,rfl⟩;have d:=ae X;obtain⟨a20,c20,rfl,-⟩:=X;have v:=ae M;have z:=ae E;have bn:=E.size;have l:=vp m (NL.one (x:=97) (by omega) (by omega))
 by_cases hlt:m<30
 ·have ap:(m:Int)<30:=by omega
  clear M E
  go_wp2_with fail;refine(ez d.u l (by omega) (by omega) (p:=1) (q:=1) (by unfold az;omega) (by unfold az;omega)).mono ?_;rintro e w21 ⟨v21,rfl,f,a⟩;have F:=ae f;obtain⟨a21,c21,rfl,-⟩:=f;have Z:=a.size;have n:=ae (v.u.keep a (by omega));have o:=ae (z.u.trans (eJ a D (by omega)));have r:=ae (d.u.below a lR);clear a;go_wp2
  go_roundw
  case rel=>exact⟨m+1,by omega,by go_num,by rw[xB];exact F.u,n.u,o.u⟩
  simp[intOf];omega
 obtain rfl:m=30:=by omega
 clear M E
 by_cases hd1:0<y2%3-1
 ·have HE:Hi (L=bi (eg (bi (ji 30 (cY 97)) 0 0) (bi (ji 30 (cY 97)) 0 0)) (250+(y2%3-1)) (250+(y2%3-1))):=by show L=_;rw[HL.u];unfold pY;rw[if_neg (by decide),if_neg (by decide),if_neg (by decide),if_neg (by decide),if_neg (by decide),if_pos hd1]
  go_wp2_with fail;refine(ez d.u l (by omega) (by omega) (p:=0) (q:=0) (by unfold az;omega) (by unfold az;omega)).mono ?_;rintro e w21 ⟨v21,rfl,f,a⟩;have O:=ae f;obtain⟨a21,c21,rfl,-⟩:=f;have Z:=a.size;have n:=ae (v.u.keep a (by omega));have o:=ae (z.u.trans (eJ a D (by omega)));have r:=ae (d.u.below a lR);clear a
  go_wp2_with fail;refine(iA O.u O.u (l.rep (lo:=0) (hi:=0) (by unfold az;omega) (by unfold az;omega)) (l.rep (lo:=0) (hi:=0) (by unfold az;omega) (by unfold az;omega)) (by omega) (by omega) (by omega)).mono ?_;rintro e w22 ⟨v22,rfl,j,c⟩;have s:=ae j;obtain⟨a22,c22,rfl,-⟩:=j;have aq:=c.size;have I:=ae (n.u.keep c (by omega));have J:=ae (o.u.trans (eJ c D (by omega)));have cy:=ae (O.u.below c lR);clear c
  go_wp2_with fail;refine(ez s.u ((l.rep (lo:=0) (hi:=0) (by unfold az;omega) (by unfold az;omega)).cat (l.rep (lo:=0) (hi:=0) (by unfold az;omega) (by unfold az;omega))) (by omega) (by omega) (p:=(250+(y2%3-1))) (q:=(250+(y2%3-1))) (by unfold az;omega) (by unfold az;omega)).mono ?_;rintro e w23 ⟨v23,rfl,b1,K⟩;have b5:=ae b1;obtain⟨a23,c23,rfl,-⟩:=b1;have d6:=K.size;have br:=ae (I.u.keep K (by omega));have bs:=ae (J.u.trans (eJ K D (by omega)));have d0:=ae (s.u.below K lR);clear K;go_wp2;go_ret;refine⟨⟨_,rfl,?_⟩,br.u,bs.u⟩;show aA lo _ _ _ L;rw[HE.u];exact b5.u
 have HE:Hi (L=bi (eg (ji 30 (cY 97)) (ji 30 (cY 97))) (250+(y2%3-1)) (250+(y2%3-1))):=by show L=_;rw[HL.u];unfold pY;rw[if_neg (by decide),if_neg (by decide),if_neg (by decide),if_neg (by decide),if_neg (by decide),if_neg hd1]
 go_wp2_with fail;refine(iA d.u d.u l l (by omega) (by omega) (by omega)).mono ?_;rintro e w21 ⟨v21,rfl,f,a⟩;have F:=ae f;obtain⟨a21,c21,rfl,-⟩:=f;have Z:=a.size;have n:=ae (v.u.keep a (by omega));have o:=ae (z.u.trans (eJ a D (by omega)));have r:=ae (d.u.below a lR);clear a
 go_wp2_with fail;refine(ez F.u (l.cat l) (by omega) (by omega) (p:=(250+(y2%3-1))) (q:=(250+(y2%3-1))) (by unfold az;omega) (by unfold az;omega)).mono ?_;rintro e w22 ⟨v22,rfl,j,c⟩;have b6:=ae j;obtain⟨a22,c22,rfl,-⟩:=j;have aq:=c.size;have I:=ae (n.u.keep c (by omega));have J:=ae (o.u.trans (eJ c D (by omega)));have s:=ae (F.u.below c lR);clear c;go_wp2;go_ret;refine⟨⟨_,rfl,?_⟩,I.u,J.u⟩;show aA lo _ _ _ L;rw[HE.u];exact b6.u
/-! Pairs of states that are told apart,by rounds. -/
def mF:Nat->(Nat->Bool)->Nat
 | 0,_=>0
 | N+1,df=>mF N df+(if df N then 0 else 1)
def ju(df:Nat->Bool)(i:Nat):Nat->Bool:=fun j=>if j=i then true else df j
theorem qU:∀ (N:Nat) (df:Nat->Bool) (i:Nat),df i=false->mF N (ju df i)+(if i<N then 1 else 0)=mF N df
 | 0,_,_,_=>rfl
 | N+1,df,i,h=>by
  have ih:=qU N df i h;show mF N (ju df i)+(if ju df i N then 0 else 1)+_=mF N df+(if df N then 0 else 1)
  by_cases e:N=i
  ·subst e;have e1:ju df N N=true:=by simp[ju]
   rw[e1,h,if_pos rfl,if_pos (by omega)];rw[if_neg (by omega)]at ih;simp;omega
  have e1:ju df i N=df N:=by simp[ju,e]
  rw[e1]
  by_cases hi:i<N
  ·rw[if_pos hi]at ih;rw[if_pos (show i<N+1 by omega)];omega
  rw[if_neg hi]at ih;rw[if_neg (show ¬ i<N+1 by omega)];omega
structure tw (nx:Nat->Nat->Nat) (n k N:Nat) (df0 df:Nat->Bool) (more:Bool) (i:Nat):Prop where
 mono:∀ j,df0 j=true->df j=true
 less:more=true->mF N df<mF N df0
 same:more=false->df=df0/\∀ j,j<i->df0 j=false->∀ c,c<k->df0 (nx (j / n) c*n+nx (j%n) c)=false
section
variable {nx:Nat->Nat->Nat} {ac:Nat->Bool} {n k N i:Nat} {df0 df:Nat->Bool} {more:Bool}
theorem tw.start:tw nx n k N df0 df0 false 0:=⟨fun _ h=>h,fun h=>(by cases h),fun _=>⟨rfl,fun j hj=>by omega⟩⟩
theorem tw.skip(h:tw nx n k N df0 df more i)(hi:df i=true):tw nx n k N df0 df more (i+1):=⟨h.mono,h.less,fun hm=>⟨(h.same hm).1,fun j hj hf=>by
 by_cases e:j=i
 ·subst e;rw[(h.same hm).1,hf]at hi;cases hi
 exact(h.same hm).2 j (by omega) hf⟩⟩
theorem tw.pass(h:tw nx n k N df0 df more i)(hc:∀ c,c<k->df (nx (i / n) c*n+nx (i%n) c)=false):tw nx n k N df0 df more (i+1):=⟨h.mono,h.less,fun hm=>⟨(h.same hm).1,fun j hj hf=>by
 by_cases e:j=i
 ·subst e;rw[<-(h.same hm).1];exact hc
 exact(h.same hm).2 j (by omega) hf⟩⟩
theorem tw.mark(h:tw nx n k N df0 df more i)(hi:i<N)(hf:df i=false):tw nx n k N df0 (ju df i) true (i+1):=by
 refine⟨fun j hj=>?_,fun _=>?_,fun h=>by cases h⟩
 ·unfold ju
  split
  ·rfl
  exact h.mono j hj
 have h1:=qU N df i hf;rw[if_pos hi]at h1;cases more with
 | true=>have:=h.less rfl;omega
 | false=>rw[<-(h.same rfl).1];omega
structure Cw (nx:Nat->Nat->Nat) (ac:Nat->Bool) (n k N:Nat) (df:Nat->Bool) (more:Bool):Prop where
 acc:∀ p q,p<n->q<n->df (p*n+q)=false->ac p=ac q
 clo:more=false->∀ j,j<N->df j=false->∀ c,c<k->df (nx (j / n) c*n+nx (j%n) c)=false
theorem Cw.next(h:Cw nx ac n k N df0 true)(r:tw nx n k N df0 df more N):Cw nx ac n k N df more:=by
 refine⟨fun p q hp hq hf=>h.acc p q hp hq ?_,fun hm j hj hf=>?_⟩
 ·cases e:df0 (p*n+q) with
  | false=>rfl
  | true=>rw[r.mono _ e]at hf;cases hf
 obtain⟨e,h2⟩:=r.same hm;subst e;exact h2 j hj hf
theorem tw.ms(r:tw nx n k N df0 df more N):2*mF N df+(if more then 1 else 0)<2*mF N df0+1:=by
 cases more with
 | true=>have:=r.less rfl;simp;omega
 | false=>rw[(r.same rfl).1];simp
end
def Bz(w:World)(b:Nat):Nat->Nat
 | 0=>0
 | N+1=>Bz w b N+(match w.cell? ⟨b,N,none⟩ with|some (.bool true)=>0|_=>1)
theorem pH{w:World}{b M:Nat}{t:TypeId}{df:Nat->Bool}(h:w.rowIs b t M (fun q=>.bool (df q))):∀ N,N<=M->Bz w b N=mF N df
 | 0,_=>rfl
 | N+1,hN=>by
  have ih:=pH h N (by omega);show Bz w b N+_=mF N df+_;rw[ih,h.cell (i:=N) (by omega)];cases df N<;>rfl
theorem Cw.eq{A:Tb}{df:Nat->Bool}(hA:bE A)(h:Cw A.nx A.ac A.n A.k (A.n*A.n) df false){j:Nat}(hj:j<A.n*A.n)(hne:j / A.n≠j%A.n):df j=true:=by
 cases e:df j with
 | true=>rfl
 | false =>
  exfalso
  have a:0<A.n:=hA.wf.pos;have e1:∀ p q,q<A.n->(p*A.n+q) / A.n=p/\(p*A.n+q)%A.n=q:=fun p q hq=>⟨by rw[Nat.mul_comm,Nat.mul_add_div a,Nat.div_eq_of_lt hq];omega,by rw[Nat.mul_comm,Nat.mul_add_mod,Nat.mod_eq_of_lt hq]⟩
  have e2:j / A.n*A.n+j%A.n=j:=by rw[Nat.mul_comm];exact Nat.div_add_mod j A.n
  refine hne (tf hA (U:=fun p q=>df (p*A.n+q)=false) h.acc (fun p q c hp hq hc hU=>?_) (Nat.div_lt_of_lt_mul hj) (Nat.mod_lt _ a) (by show df _=false;rw[e2];exact e));have:=h.clo rfl (p*A.n+q) (cO hp hq) hU c hc;rw[(e1 p q hq).1,(e1 p q hq).2]at this;exact this
theorem nN{n i N:Nat}(hn:1<=n)(hN:N=n*n)(hi:i<N):∃ p q:Nat,p=i / n/\q=i%n/\p<n/\q<n/\(i:Int).tdiv (n:Int)=(p:Int)/\(i:Int).tmod (n:Int)=(q:Int):=by
 refine⟨i / n,i%n,rfl,rfl,Nat.div_lt_of_lt_mul (by rw[<-hN];exact hi),Nat.mod_lt _ (by omega),?_,?_⟩
 ·rw[Int.tdiv_eq_ediv_of_nonneg (by omega)];rfl
 rw[Int.tmod_eq_emod_of_nonneg (by omega)];rfl
structure ry (cl:Value) (n k N:Nat) (b off L cN ab ao ca:Nat) (w wr:World) (df:Nat->Bool):Prop where
 m:wr.rowIs (w.heap.size+1) 4 N (fun q=>.bool (df q))
 d:aC wr w.heap.size 30 cl (.int .i64 (k:Nat)) (.slice (some ⟨b,off,none⟩) L cN) (.slice (some ⟨ab,ao,none⟩) n ca)
 b:Below w.heap.size w wr
 z:w.heap.size+2<=wr.heap.size
theorem ry.drew{cl:Value}{n k N b off L cN ab ao ca q:Nat}{w wr:World}{df:Nat->Bool}(h:ry cl n k N b off L cN ab ao ca w wr df):ry cl n k N b off L cN ab ao ca w (wr.drewN q) df:=⟨h.m.of_block rfl,World.rowIs.of_block h.d rfl,below_drewN h.b _,h.z⟩
theorem ry.drew1{cl:Value}{n k N b off L cN ab ao ca:Nat}{w wr:World}{df:Nat->Bool}(h:ry cl n k N b off L cN ab ao ca w wr df):ry cl n k N b off L cN ab ao ca w wr.drew df:=⟨h.m.of_block rfl,World.rowIs.of_block h.d rfl,⟨h.b.os,h.b.tape,h.b.output,h.b.size,h.b.block⟩,h.z⟩
theorem ry.put{cl:Value}{n k N b off L cN ab ao ca i:Nat}{w wr:World}{df df':Nat->Bool}{x:Bool}(h:ry cl n k N b off L cN ab ao ca w wr df)(hd:∀ j,j<N->df' j=if j=i then x else df j):ry cl n k N b off L cN ab ao ca w (wr.setCell ⟨w.heap.size+1,i,none⟩ (.bool x)) df':=by
 have h2:=am (w:=wr) (b:=w.heap.size+1) i (.bool x);refine⟨(World.rowIs.set h.m i (.bool x)).congr (fun j hj=>?_),World.rowIs.of_block h.d (h2.block w.heap.size (by omega)),⟨h2.os.trans h.b.os,h2.tape.trans h.b.tape,h2.output.trans h.b.output,Nat.le_trans h.b.size (Nat.le_of_eq h2.size.symm),fun k hk=>(h2.block k (by omega)).trans (h.b.block k hk)⟩,by rw[h2.size];exact h.z⟩;rw[hd j hj]
 split<;>simp_all
theorem wj(A:Tb)(n k:Nat)(cl:Value)(b off cN ab ao ca:Nat)(w:World)(hAn:A.n=n)(hAk:A.k=k)(hA:bE A)(hn:n<=80)(hk:1<=k/\k<=256)(hb:b<w.heap.size)(hab:ab<w.heap.size)(hx:kw w b off n k A.nx)(hac:∀ q,q<n->w.cell? ⟨ab,ao+q,none⟩=some (.bool (A.ac q))) :
  Calls prog 7 #[.agg #[cl,.int .i64 (k:Nat),.slice (some ⟨b,off,none⟩) (n*k) cN,.slice (some ⟨ab,ao,none⟩) n ca],.int .i64 (n:Nat),.int .i64 (k:Nat)] w fun e w'=>e=.returned (.bool true)/\Below w.heap.size w w':=by
 obtain⟨i0,bo,br,bs,bt⟩:=info_parts Tryz.zinInt;have D:1<=n:=by rw[<-hAn];exact hA.wf.pos
 have bv:n*k<=80*256:=Nat.mul_le_mul hn hk.2;have bx:n*n<=80*80:=Nat.mul_le_mul hn hn;have bz:1<=n*n:=Nat.mul_le_mul D D;obtain⟨L,hL⟩ : ∃ L,L=n*k:=⟨_,rfl⟩;obtain⟨N,hN⟩ : ∃ N,N=n*n:=⟨_,rfl⟩;rw[<-hL]at bv ⊢;rw[<-hN]at bx bz;have c0:IntKind.i64.wrap ((n:Int)*(n:Int))=(N:Int):=by rw[<-Int.natCast_mul,<-hN];exact jf (by omega) (by omega)
 have c1:=ae c0;have c2:=run_make_row' (P:=prog) 28 4 (.bool false) 1 underlying28 Tryz.zinBoR rfl .i64 .i64 N (by omega) (by omega);have a5:=run_make_row' (P:=prog) 28 4 (.bool false) 1 underlying28 Tryz.zinBoR rfl .i64 .i64 n (by omega) (by omega);have HL:=ae hL;have HN:=ae hN;have HX:=ae hx;have a6:=ae hac;have v:=ae hAn;have T:=ae hAk;have HA:=ae hA;clear hL hx hAn hAk hA hac hN;have ck:(0:Int)<(n:Int):=by omega
 have cc:¬ (n:Int)=0:=by omega
 obtain⟨W2,B⟩ : ∃ W2,W2=(w.alloc (.cells #[cl,.int .i64 (k:Nat),.slice (some ⟨b,off,none⟩) L cN,.slice (some ⟨ab,ao,none⟩) n ca] 30)).alloc (.cells (madeCells #[.bool false] N) 4):=⟨_,rfl⟩;have g:ry cl n k N b off L cN ab ao ca w W2 (fun _=>false):=by
  refine⟨?_,?_,?_,?_⟩
  ·have:=World.rowIs_made (w.alloc (.cells #[cl,.int .i64 (k:Nat),.slice (some ⟨b,off,none⟩) L cN,.slice (some ⟨ab,ao,none⟩) n ca] 30)) (.bool false) N 4;rw[ah,<-B]at this;exact this
  ·rw[B];exact(aC.new w _ _ _ _ _).alloc _
  ·rw[B];exact aI w _ _
  rw[B,ah,ah];omega
 have a7:=ae B;have E:=ae g;clear B g;clear c1
 go_enter func7,ntmps7
 go_wp2_with fail;rw[<-a7.u];clear a7 c2
 go_loopw [8] (fun iv wr=>∃ i:Nat,i<=N/\iv=.int .i64 (i:Nat)/\ry cl n k N b off L cN ab ao ca w wr (fun q=>decide (q<i)&&(A.ac (q / n) != A.ac (q%n)))) (fun iv _=>N-(intOf iv).toNat)
 case atStart=>exact⟨0,Nat.zero_le _,rfl,by simpa using E.u⟩
 clear E;obtain⟨i,hi,rfl,hM⟩:=hrel;obtain⟨f0,f1,f2,f3,-⟩:=hM.d.facts
 by_cases hlt:i<N
 ·have f:(i:Int)<(N:Int):=by omega
  obtain⟨p,q,ep,eq,hp,hq,tp,tq⟩:=nN D HN.u hlt;have y1:wr.cell? ⟨ab,ao+p,none⟩=some (.bool (A.ac p)):=by rw[hM.b.cell (p:=⟨ab,ao+p,none⟩) hab];exact a6.u p hp
  have y2:wr.cell? ⟨ab,ao+q,none⟩=some (.bool (A.ac q)):=by rw[hM.b.cell (p:=⟨ab,ao+q,none⟩) hab];exact a6.u q hq
  have y3:=hM.m.cell (i:=i) hlt;have y4:=hM.m.frozen i;have cp:(p:Int)<(n:Int):=by omega
  have cr:(q:Int)<(n:Int):=by omega
  obtain⟨bp,U⟩ : ∃ bp,bp=A.ac p:=⟨_,rfl⟩;obtain⟨bq,W⟩ : ∃ bq,bq=A.ac q:=⟨_,rfl⟩;rw[<-U]at y1;rw[<-W]at y2;have HM:Hi (ry cl n k N b off L cN ab ao ca w (wr.setCell ⟨w.heap.size+1,i,none⟩ (.bool (!(bp==bq)))).drew (fun q=>decide (q<i+1)&&(A.ac (q / n) != A.ac (q%n)))):=by
   refine ry.drew1 (hM.put (fun j hj=>?_))
   by_cases e:j=i
   ·subst e;rw[if_pos rfl,<-ep,<-eq,<-U,<-W];simp[bne]
   rw[if_neg e];congr 1;rw[decide_eq_decide];omega
  clear hM ep eq U W
  go_wp2_with fail
  go_region
  go_wp2
  go_roundw
  case rel=>exact⟨i+1,by omega,by go_num,HM.u⟩
  simp[intOf];omega
 have f:¬ (i:Int)<(N:Int):=by omega
 obtain rfl:i=N:=by omega
 clear f0 f1 f2 f3;have hO:Cw A.nx A.ac n k i (fun q=>decide (q<i)&&(A.ac (q / n) != A.ac (q%n))) true:=by
  refine⟨fun p q hp hq hf=>?_,fun h=>by cases h⟩;have h1:p*n+q<i:=by rw[HN.u];exact cO hp hq
  have h2:(p*n+q) / n=p:=by rw[Nat.mul_comm,Nat.mul_add_div (by omega),Nat.div_eq_of_lt hq];omega
  have h3:(p*n+q)%n=q:=by rw[Nat.mul_comm,Nat.mul_add_mod,Nat.mod_eq_of_lt hq]
  rw[h2,h3,decide_eq_true h1]at hf
  simpa using hf
 generalize (fun q=>decide (q<i)&&(A.ac (q / n) != A.ac (q%n)))=df at *;have HM:=ae hM;have HO:=ae hO;clear hM hO hi hlt f
 go_wp2_with fail;obtain⟨V0,a8⟩ : ∃ V0,V0=wr:=⟨_,rfl⟩;rw[<-a8]at HM ⊢;clear a8 wr
 go_loopw [9] (fun mv wr=>∃ (more:Bool) (df:Nat->Bool),mv=.bool more/\ry cl n k i b off L cN ab ao ca w wr df/\Cw A.nx A.ac n k i df more) (fun mv wr=>2*Bz wr (w.heap.size+1) i+(match mv with | .bool true=>1|_=>0))
 case atStart=>exact⟨true,df,rfl,HM.u,HO.u⟩
 clear HM HO df;obtain⟨more,df,rfl,hM,hO⟩:=hrel;cases more with
 | true =>
  have a9:=ae (pH hM.m i lR);have HM:=ae hM;have HO:=ae hO;clear hM hO
  go_wp2_with fail;obtain⟨V1,o⟩ : ∃ V1,V1=wr:=⟨_,rfl⟩;have aa:=ae o;rw[<-o]at HM a9;rw[<-o];clear o
  go_loopw [9,10] (fun mv jv wr=>∃ (m:Bool) (d2:Nat->Bool) (j:Nat),j<=i/\mv=.bool m/\jv=.int .i64 (j:Nat)/\ry cl n k i b off L cN ab ao ca w wr d2/\tw A.nx n k i df d2 m j) (fun _ jv _=>i-(intOf jv).toNat)
  case atStart=>exact⟨false,df,0,Nat.zero_le _,rfl,rfl,HM.u,tw.start⟩
  clear HM;obtain⟨m,d2,j,hj,rfl,rfl,hM,hR⟩:=hrel
  by_cases hlt:j<i
  ·have f:(j:Int)<(i:Int):=by omega
   have y1:=hM.m.cell (i:=j) hlt
   by_cases hd:d2 j=true
   ·rw[hd]at y1;have HM:=ae hM;have HR:=ae (hR.skip hd);clear hM hR hd
    go_wp2_with fail
    go_roundw
    case rel=>exact⟨m,d2,j+1,by omega,rfl,by go_num,HM.u,HR.u⟩
    simp[intOf];omega
   have K:d2 j=false:=by simpa using hd
   rw[K]at y1;have HM:=ae hM;have HR:=ae hR;have HD:=ae K;clear hM hR hd K
   go_wp2_with fail;obtain⟨V2,M⟩ : ∃ V2,V2=wr:=⟨_,rfl⟩;have cs:=ae M;rw[<-M]at HM y1;rw[<-M];clear M
   go_loopw [9,11] (fun mv cv wr=>∃ (m2:Bool) (c:Nat) (d3:Nat->Bool),c<=k/\mv=.bool m2/\cv=.int .i64 (c:Nat)/\ry cl n k i b off L cN ab ao ca w wr d3/\((m2=m/\d3=d2/\∀ c',c'<c->d2 (A.nx (j / n) c'*n+A.nx (j%n) c')=false)∨(m2=true/\d3=ju d2 j))) (fun _ cv _=>k-(intOf cv).toNat)
   case atStart=>exact⟨m,0,d2,Nat.zero_le _,rfl,rfl,HM.u,.inl ⟨rfl,rfl,fun c' h=>by omega⟩⟩
   clear HM y1;obtain⟨m2,c,d3,hc,rfl,rfl,hM,hC⟩:=hrel;rcases hC with ⟨rfl,rfl,hC⟩|⟨rfl,rfl⟩
   ·have y1:=hM.m.cell (i:=j) hlt;rw[HD.u]at y1
    by_cases hck:c<k
    ·have F:(c:Int)<(k:Int):=by omega
     obtain⟨f0,f1,f2,f3,-⟩:=hM.d.facts;obtain⟨p,q,ep,eq,hp,hq,tp,tq⟩:=nN D HN.u hlt;obtain⟨u1,u2⟩:=HX.u p c hp hck;obtain⟨v1,v2⟩:=HX.u q c hq hck;obtain⟨x,hx⟩ : ∃ x,x=A.nx p c:=⟨_,rfl⟩;obtain⟨y,hy⟩ : ∃ y,y=A.nx q c:=⟨_,rfl⟩;rw[<-hx]at u1 u2;rw[<-hy]at v1 v2;obtain⟨mp,t,a1,ht,c3,a2,a3,a4⟩:=cP (L:=L) (x:=p) (k:=k) (c:=c) (by omega) (by rw[HL.u];exact cO hp hck);obtain⟨mq,t',b1,ad,cf,b2,b3,b4⟩:=cP (L:=L) (x:=q) (k:=k) (c:=c) (by omega) (by rw[HL.u];exact cO hq hck);obtain⟨mx,s,d1,hs,c4,e2,e3,e4⟩:=cP (L:=i) (x:=x) (k:=n) (c:=y) (by omega) (by rw[HN.u];exact cO u1 v1);rw[<-ht]at u2;rw[<-ad]at v2;have y2:wr.cell? ⟨b,off+t,none⟩=some (.int .i64 (x:Nat)):=by rw[hM.b.cell (p:=⟨b,off+t,none⟩) hb];exact u2
     have y3:wr.cell? ⟨b,off+t',none⟩=some (.int .i64 (y:Nat)):=by rw[hM.b.cell (p:=⟨b,off+t',none⟩) hb];exact v2
     have y4:=hM.m.cell (i:=s) c4;have y5:=hM.m.frozen j;have HM:=ae hM;have HC:=ae hC;have af:s=A.nx (j / n) c*n+A.nx (j%n) c:=by rw[hs,hx,hy,ep,eq]
     have HS:=ae af;clear hM hC hs af ht ad hx hy u2 v2 ep eq;cases hd:d3 s with
     | false =>
      rw[hd]at y4;have c5:=ae hd;clear hd
      go_wp2_with fail
      go_quiet (fail)
      go_wp2_with fail
      go_quiet (fail);go_wp2
      go_roundw
      case rel =>
       refine⟨m2,c+1,d3,by omega,rfl,by go_num,HM.u.drew,.inl ⟨rfl,rfl,fun c' hc'=>?_⟩⟩
       by_cases e:c'=c
       ·rw[e,<-HS.u];exact c5.u
       exact HC.u c' (by omega)
      simp[intOf];omega
     | true =>
      rw[hd]at y4;clear hd HC
      go_wp2_with fail
      go_quiet (fail)
      go_wp2_with fail
      go_quiet (fail);go_wp2
      go_roundw
      case rel=>exact⟨true,c+1,ju d3 j,by omega,rfl,by go_num,HM.u.drew.put (fun _ _=>rfl),.inr ⟨rfl,rfl⟩⟩
      simp[intOf];omega
    have F:¬ (c:Int)<(k:Int):=by omega
    obtain rfl:c=k:=by omega
    have O:=ae (HR.u.pass hC);have HM:=ae hM;clear hM hC;go_wp2
    go_roundw
    case rel=>exact⟨m2,d3,j+1,by omega,rfl,by go_num,HM.u,O.u⟩
    simp[intOf];omega
   have y1:=hM.m.cell (i:=j) hlt;rw[show ju d2 j j=true by simp[ju]]at y1;have O:=ae (HR.u.mark hlt HD.u);have HM:=ae hM;clear hM
   by_cases hck:c<k
   ·have F:(c:Int)<(k:Int):=by omega
    go_wp2
    go_roundw
    case rel=>exact⟨true,ju d2 j,j+1,by omega,rfl,by go_num,HM.u,O.u⟩
    simp[intOf];omega
   have F:¬ (c:Int)<(k:Int):=by omega
   go_wp2
   go_roundw
   case rel=>exact⟨true,ju d2 j,j+1,by omega,rfl,by go_num,HM.u,O.u⟩
   simp[intOf];omega
  obtain rfl:j=i:=by omega
  have f:¬ (j:Int)<(j:Int):=by omega
  have HM:=ae hM;have HR:=ae hR;clear hM hR;go_wp2
  go_roundw
  case rel=>exact⟨m,d2,rfl,HM.u,HO.u.next HR.u⟩
  have e1:=HR.u.ms;have e2:=pH HM.u.m j lR;have e3:=a9.u;rw[aa.u]at e3;simp only[e2,e3];cases m<;>simpa using e1
 | false =>
  have HE:Hi (∀ j,j<i->j / n≠j%n->df j=true):=fun j hj hne=>by
   have h1:=HA.u;have h2:=hO;have h3:=hj;rw[HN.u]at h2 h3;rw[<-v.u,<-T.u]at h2;rw[<-v.u]at h3 hne;exact Cw.eq h1 h2 h3 hne
  have HM:=ae hM;clear hM hO
  go_wp2_with fail;obtain⟨V1,o⟩ : ∃ V1,V1=wr:=⟨_,rfl⟩;have aa:=ae o;rw[<-o]at HM;rw[<-o];clear o
  go_loopw [14] (fun jv wr=>∃ j:Nat,j<=i/\jv=.int .i64 (j:Nat)/\ry cl n k i b off L cN ab ao ca w wr df) (fun jv _=>i-(intOf jv).toNat)
  case atStart=>exact⟨0,Nat.zero_le _,rfl,HM.u⟩
  clear HM;obtain⟨j,hj,rfl,hM⟩:=hrel
  by_cases hlt:j<i
  ·have f:(j:Int)<(i:Int):=by omega
   obtain⟨p,q,ep,eq,hp,hq,tp,tq⟩:=nN D HN.u hlt;have y1:=hM.m.cell (i:=j) hlt
   by_cases hpq:p=q
   ·have hd:(!decide ((p:Int)=(q:Int)))=false:=by simp[hpq]
    subst hpq;have HM:=ae hM;clear hM ep eq y1 hd
    go_wp2_with fail
    go_quiet (fail);go_wp2
    go_roundw
    case rel=>exact⟨j+1,by omega,by go_num,HM.u.drew⟩
    simp[intOf];omega
   have hd:¬ (p:Int)=(q:Int):=by omega
   have ct:((p:Int)==(q:Int))=false:=beq_eq_false_iff_ne.2 hd;have K:((p:Int) != (q:Int))=true:=by simpa using hd
   have cw:(p==q)=false:=beq_eq_false_iff_ne.2 hpq;have cx:decide (p=q)=false:=decide_eq_false hpq;rw[HE.u j hlt (by rw[<-ep,<-eq];exact hpq)]at y1;have HM:=ae hM;clear hM ep eq
   go_wp2_with fail
   go_quiet (fail);go_wp2
   go_roundw
   case rel=>exact⟨j+1,by omega,by go_num,HM.u.drew⟩
   simp[intOf];omega
  have f:¬ (j:Int)<(i:Int):=by omega
  obtain rfl:j=i:=by omega
  have HB:=ae hM.b;have HD:=ae hM.d;have hz:=hM.z;clear hM HE;obtain⟨V,hV⟩ : ∃ V,V=wr:=⟨_,rfl⟩;have HV:=ae hV;rw[<-hV]at HB HD hz;rw[<-hV];clear hV;have ag:w.heap.size<=V.heap.size:=by omega
  have g:(V.alloc (.cells (madeCells #[.bool false] n) 4)).rowIs V.heap.size 4 n (fun _=>.bool false):=World.rowIs_made V (.bool false) n 4;have x0:=g.cell (i:=0) (by omega);have x1:=g.frozen 0;obtain⟨W4,C⟩ : ∃ W4,W4=(V.alloc (.cells ((madeCells #[.bool false] n).setIfInBounds 0 (.bool true)) 4)).alloc (.cells #[.int .i64 0] 3):=⟨_,rfl⟩;have ch:W4.heap.size=V.heap.size+2:=by rw[C,ah,ah]
  have al:W4.rowIs V.heap.size 4 n (fun q=>.bool (decide (q∈[0]))):=by
   rw[C];have hs:((madeCells #[Value.bool false] n).setIfInBounds 0 (.bool true)).size=n:=by rw[Array.size_setIfInBounds];exact size_madeCells _ _
   have:=World.rowIs_alloc V ((madeCells #[Value.bool false] n).setIfInBounds 0 (.bool true)) 4 (fun q=>.bool (decide (q∈[0]))) (fun j hj=>by
    rw[hs]at hj;rw[Array.getElem?_setIfInBounds]
    by_cases e:j=0
    ·subst e;rw[if_pos rfl,if_pos (by rw[size_madeCells];omega)];simp
    rw[if_neg (fun h=>e h.symm)];simp[madeCells,hj,e,Nat.mod_one])
   rw[hs]at this;exact this.alloc _
  have X:Below V.heap.size V W4:=by rw[C];exact aI V _ _
  have G:W4.ownsRow (V.heap.size+1) 3 1 (.slice (some ⟨V.heap.size+1,0,none⟩) 1 1) 1 ([0].map mN):=by
   refine⟨rfl,.inr ⟨_,1,#[.int .i64 0],rfl,Nat.le_refl _,?_,Nat.le_refl _,by unfold maxLen;omega,rfl,rfl⟩⟩;have e:(V.alloc (.cells ((madeCells #[.bool false] n).setIfInBounds 0 (.bool true)) 4)).heap.size=V.heap.size+1:=ah _ _;rw[C,<-e];exact(MapKept.heap_alloc _ _).1
  have an:=ae (HB.u.trans (X.mono ag));have ap:=ae (HD.u.below X (by omega));have aq:=ae C;have ar:=ae al;have av:=ae G;clear C al G g X
  go_wp2_with fail;rw[<-aq.u];clear aq x0 x1 a5
  try simp only[Nat.add_assoc,Nat.reduceAdd]
  go_loopw [16,17] (fun lv iv wr=>∃ (i:Nat) (l:List Nat),i<=l.length/\iv=.int .i64 (i:Nat)/\wr.ownsRow (V.heap.size+1) 3 1 lv l.length (l.map mN)/\wr.rowIs V.heap.size 4 n (fun q=>.bool (decide (q∈l)))/\aC wr w.heap.size 30 cl (.int .i64 (k:Nat)) (.slice (some ⟨b,off,none⟩) L cN) (.slice (some ⟨ab,ao,none⟩) n ca)/\Below w.heap.size w wr/\V.heap.size+2<=wr.heap.size/\oB A l i 0) (fun _ iv _=>n+1-(intOf iv).toNat)
  case atStart=>exact⟨0,[0],by simp,rfl,av.u,ar.u,ap.u,an.u,by omega,oB.start HA.u.wf⟩
  clear av ar ap an;obtain⟨i,l,hi,rfl,a,hM,hD,hB,H,hR⟩:=hrel;have aw:=bT n l hR.nd (by rw[<-v.u];exact hR.lt);obtain⟨la,lc,rfl⟩:=aj a
  by_cases hlt:i<l.length
  ·have f:(i:Int)<(l.length:Int):=by omega
   have HO:=ae a;have HM:=ae hM;have HD:=ae hD;have HB:=ae hB;have HR:=ae hR;obtain⟨f0,f1,f2,f3,-⟩:=hD.facts;clear a hM hD hB hR
   go_wp2_with fail
   go_loopw [16,18] (fun lv cv wx=>∃ (c:Nat) (l:List Nat),c<=k/\cv=.int .i64 (c:Nat)/\i<l.length/\wx.ownsRow (V.heap.size+1) 3 1 lv l.length (l.map mN)/\wx.rowIs V.heap.size 4 n (fun q=>.bool (decide (q∈l)))/\aC wx w.heap.size 30 cl (.int .i64 (k:Nat)) (.slice (some ⟨b,off,none⟩) L cN) (.slice (some ⟨ab,ao,none⟩) n ca)/\Below w.heap.size w wx/\V.heap.size+2<=wx.heap.size/\oB A l i c) (fun _ cv _=>k-(intOf cv).toNat)
   case atStart=>exact⟨0,l,by omega,rfl,hlt,HO.u,HM.u,HD.u,HB.u,H,HR.u⟩
   clear HO HM HD HB HR f0 f1 f2 f3 hlt f hi aw H;obtain⟨c,l,hc,rfl,hlt,a,hM,hD,hB,H,hR⟩:=hrel;have aw:=bT n l hR.nd (by rw[<-v.u];exact hR.lt);obtain⟨f0,f1,f2,f3,-⟩:=hD.facts
   by_cases hcl:c<k
   ·have ax:(c:Int)<(k:Int):=by omega
    obtain⟨x,hx⟩ : ∃ x,l[i]?=some x:=⟨_,List.getElem?_eq_getElem hlt⟩;have b0:x<n:=by rw[<-v.u];exact hR.lt x (List.mem_of_getElem? hx)
    obtain⟨lg,lcap,e9,I⟩:=eu a (by omega);subst e9;have y0:wr.cell? ⟨lg,i,none⟩=some (.int .i64 (x:Nat)):=by rw[I i hlt,List.getElem?_map,hx];rfl
    have f:(i:Int)<(l.length:Int):=by omega
    obtain⟨v1,v2⟩:=HX.u x c b0 hcl;have S:x*k+c<L:=by rw[HL.u];exact cO b0 hcl
    obtain⟨m,t,a1,ht,c3,a2,a3,a4⟩:=cP (by omega) S;clear S;obtain⟨nxt,r⟩ : ∃ y,y=A.nx x c:=⟨_,rfl⟩;rw[<-ht,<-r]at v2;have y1:wr.cell? ⟨b,off+t,none⟩=some (.int .i64 (nxt:Nat)):=by rw[hB.cell (p:=⟨b,off+t,none⟩) hb];exact v2
    rw[<-r]at v1;have y2:=hM.cell (i:=nxt) v1;have y3:=hM.frozen nxt;have v1':(nxt:Int)<(n:Int):=by omega
    have Y:=ae r;have b5:=ae hx;have HO:=ae a;have HM:=ae hM;have HD:=ae hD;have HB:=ae hB;have HR:=ae hR;have ci:=(a.lt lg rfl).1;clear a hM hD hB hR I v2 ht r hx
    by_cases hmem:nxt∈l
    ·rw[decide_eq_true hmem]at y2;have Z:=ae hmem;clear hmem
     go_wp2_with fail
     go_quiet (fail);go_wp2
     go_roundw
     case rel=>exact⟨c+1,l,by omega,by go_num,hlt,HO.u,HM.u.of_block rfl,World.rowIs.of_block HD.u rfl,below_drewN HB.u _,H,HR.u.old b5.u (by rw[<-Y.u];exact Z.u)⟩
     simp[intOf];omega
    rw[decide_eq_false hmem]at y2;have Z:=ae hmem;clear hmem
    go_wp2_with fail
    go_quiet (fail);have b6:((wr.drewN nq).setCell ⟨V.heap.size,nxt,none⟩ (.bool true)).heap.size=wr.heap.size:=(am (w:=wr.drewN nq) nxt (.bool true)).size;have b7:((wr.drewN nq).setCell ⟨V.heap.size,nxt,none⟩ (.bool true)).ownsRow (V.heap.size+1) 3 1 (.slice (some ⟨lg,0,none⟩) l.length lcap) l.length (l.map mN):=ak HO.u (fun q hq=>(am (w:=wr.drewN nq) nxt (.bool true)).block q (by have:=(HO.u.lt q hq).1;omega));have g:((wr.drewN nq).setCell ⟨V.heap.size,nxt,none⟩ (.bool true)).rowIs V.heap.size 4 n (fun q=>.bool (decide (q∈l++[nxt]))):=by
     have c6:(wr.drewN nq).rowIs V.heap.size 4 n (fun q=>.bool (decide (q∈l))):=HM.u.of_block rfl;refine(World.rowIs.set c6 nxt (.bool true)).congr (fun j hj=>?_)
     by_cases e:j=nxt
     ·subst e;simp
     simp[e]
    have b8:Below w.heap.size w ((wr.drewN nq).setCell ⟨V.heap.size,nxt,none⟩ (.bool true)):=aD (below_drewN HB.u nq) ag _;have b9:aC ((wr.drewN nq).setCell ⟨V.heap.size,nxt,none⟩ (.bool true)) w.heap.size 30 cl (.int .i64 (k:Nat)) (.slice (some ⟨b,off,none⟩) L cN) (.slice (some ⟨ab,ao,none⟩) n ca):=World.rowIs.of_block HD.u ((am (w:=wr.drewN nq) nxt (.bool true)).block w.heap.size (by omega));have a0:=ae b7;have E:=ae g;have bb:=ae b8;have bc:=ae b9;clear b7 g b8 b9
    go_wp2_with (at_builtin;refine wpList_append_own_at _ rfl _ _ 27 rfl (V.heap.size+1) 3 i0 (.int .i64 0) 1 8 underlying27 bo br bs bt rfl (by decide) _ _ _ rfl (a0.u.alloc _) ⟨wr.heap.size,0,none⟩ 1 1 [.int .i64 (nxt:Nat)] rfl rfl ?_ ?_ ?_ ?_ ?_ ?_)
    ·rw[<-b6];exact ef (dt _ _ _)
    ·intro u hu;simp at hu;subst hu;rfl
    ·unfold maxLen;omega
    ·omega
    ·rw[ah,b6];omega
    intro v' w6 r1 r2 _ r3;have J:Below (V.heap.size+1) ((wr.drewN nq).setCell ⟨V.heap.size,nxt,none⟩ (.bool true)) w6:=((ai _ _).mono (by omega)).grown r2 (by rw[ah];omega) (fun k hk=>(a0.u.lt k hk).1);have cy:=J.size;have bd:=ae (E.u.of_block (J.block V.heap.size (by omega)));have c7:=ae (bc.u.below J (by omega));have cb:=ae (bb.u.trans (J.mono (by omega)));have e9:(l.map mN++[.int .i64 (nxt:Nat)])=(l++[nxt]).map mN:=by rw[List.map_append];rfl
    have e8:l.length+1=(l++[nxt]).length:=by simp
    rw[e9,e8]at r1;obtain⟨va,vc,rfl⟩:=aj r1;have be:=ae r1;have bf:oB A (l++[nxt]) i (c+1):=by
     have:=HR.u.new HA.u.wf HA.u.clAll (by rw[T.u];exact hcl) b5.u (by rw[<-Y.u];exact Z.u);rw[<-Y.u]at this;exact this
    have bl:=ae bf;obtain⟨l2,Q⟩ : ∃ l2,l2=l++[nxt]:=⟨_,rfl⟩;rw[<-Q]at be bl bd ⊢;have bn:i<l2.length:=by rw[Q];simp;omega
    clear r1 r2 r3 J a0 E bb bc e9 e8 Q bf y0 y1 y2 y3;go_wp2
    go_roundw
    case rel=>exact⟨c+1,l2,by omega,by go_num,bn,be.u,bd.u,c7.u,cb.u,by omega,bl.u⟩
    simp[intOf];omega
   have ax:¬ (c:Int)<(k:Int):=by omega
   obtain rfl:c=k:=by omega
   have HO:=ae a;have HM:=ae hM;have HD:=ae hD;have HB:=ae hB;rw[<-T.u]at hR;have HR:=ae hR.next;clear a hM hD hB hR;go_wp2
   go_roundw
   case rel=>exact⟨i+1,l,by omega,by go_num,HO.u,HM.u,HD.u,HB.u,H,HR.u⟩
   simp[intOf];omega
  have f:¬ (i:Int)<(l.length:Int):=by omega
  obtain rfl:i=l.length:=by omega
  have HB:=ae hB;have R:l.length=n:=by
   rw[<-v.u];refine uk HA.u hR.nd hR.z hR.lt (fun q c hq hc=>?_)
   obtain⟨j,hj⟩:=List.getElem?_of_mem hq;exact hR.cl j q (List.getElem?_eq_some_iff.1 hj).1 hj c hc
  have d0:((l.length:Int)==(n:Int))=true:=by rw[R];simp
  have Q:decide ((l.length:Int)=(n:Int))=true:=decide_eq_true (by omega);have d4:(l.length==n)=true:=by rw[R];simp
  have d5:decide (l.length=n)=true:=decide_eq_true R;clear hM hB hR hD a R;go_wp2;go_ret;exact⟨rfl,HB.u⟩
end Go.Proofs.YtidfkbghlkcbeaaGreatDoor
