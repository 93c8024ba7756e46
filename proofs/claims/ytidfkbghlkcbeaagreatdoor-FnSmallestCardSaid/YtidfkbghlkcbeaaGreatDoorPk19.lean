import Derived.Test.YtidfkbghlkcbeaaGreatDoorPk14
import Derived.Test.YtidfkbghlkcbeaaGreatDoorPk18
import Derived.Test.YtidfkbghlkcbeaaGreatDoorPk17
namespace Go.Proofs.YtidfkbghlkcbeaaGreatDoor
open Go.RowKit Go.Proofs.Tryz
set_option maxHeartbeats 16000000
set_option maxRecDepth 100000
abbrev Rl:=Nat->Nat->Prop
def fL(n:Nat):Rl:=fun i j=>i=j/\j<=n
def zn(n:Nat)(hs:Nat->Prop):Rl:=fun i j=>j=i+1/\i<n/\hs i
def dw(A B:Rl):Rl:=fun i j=>∃ m,A i m/\B m j
def lK(A B:Rl):Rl:=fun i j=>A i j∨B i j
def eQ(n:Nat)(A:Rl):Nat->Rl
 | 0=>fL n
 | k+1=>dw (eQ n A k) A
def jr(n:Nat)(A:Rl)(mn mx:Int):Rl:=fun i j=>∃ k:Nat,mn<=k/\(mx = -1∨(k:Int)<=mx)/\eQ n A k i j
def RB(n:Nat)(A:Rl):Prop:=∀ i j,A i j->i<=j/\j<=n
theorem Ac(n:Nat):RB n (fL n):=fun _ _ h=>⟨Nat.le_of_eq h.1,h.2⟩
theorem DP(n:Nat)(hs:Nat->Prop):RB n (zn n hs):=fun _ _ h=>by obtain⟨rfl,h,-⟩:=h;omega
theorem RB.cat{n:Nat}{A B:Rl}(ha:RB n A)(hb:RB n B):RB n (dw A B):=fun _ _ ⟨_,h1,h2⟩=>by
 have:=ha _ _ h1;have:=hb _ _ h2;omega
theorem RB.alt{n:Nat}{A B:Rl}(ha:RB n A)(hb:RB n B):RB n (lK A B):=fun _ _ h=>h.elim (ha _ _) (hb _ _)
theorem RB.pow{n:Nat}{A:Rl}(ha:RB n A):∀ k,RB n (eQ n A k)
 | 0=>Ac n
 | k+1=>(RB.pow ha k).cat ha
theorem RB.rep{n:Nat}{A:Rl}(ha:RB n A)(mn mx:Int):RB n (jr n A mn mx):=fun _ _ ⟨k,_,_,h⟩=>ha.pow k _ _ h
theorem gd{A B:Rl}(h:∀ i j,A i j↔B i j):A=B:=funext fun i=>funext fun j=>propext (h i j)
theorem pF{n:Nat}{A:Rl}(ha:RB n A):dw A (fL n)=A:=gd fun _ j=>⟨fun ⟨_,h1,h2,_⟩=>h2 ▸ h1,fun h=>⟨j,h,rfl,(ha _ _ h).2⟩⟩
theorem gR{n:Nat}{A:Rl}(ha:RB n A):dw (fL n) A=A:=gd fun i _=>⟨fun ⟨_,⟨h1,_⟩,h2⟩=>h1 ▸ h2,fun h=>⟨i,⟨rfl,by have:=ha _ _ h;omega⟩,h⟩⟩
theorem kY(A B C:Rl):dw (dw A B) C=dw A (dw B C):=gd fun _ _=>⟨fun ⟨m,⟨k,h1,h2⟩,h3⟩=>⟨k,h1,m,h2,h3⟩,fun ⟨k,h1,m,h2,h3⟩=>⟨m,⟨k,h1,h2⟩,h3⟩⟩
theorem fu{n:Nat}{A:Rl}(ha:RB n A):∀ k,eQ n A (k+1)=dw A (eQ n A k)
 | 0=>by show dw (fL n) A=dw A (fL n);rw[gR ha,pF ha]
 | k+1=>by show dw (eQ n A (k+1)) A=dw A (dw (eQ n A k) A);rw[fu ha k,kY]
theorem jP{n:Nat}{A:Rl}(ha:RB n A)(k:Nat):∀ m,eQ n A (k+m)=dw (eQ n A k) (eQ n A m)
 | 0=>(pF (ha.pow k)).symm
 | m+1=>by show dw (eQ n A (k+m)) A=dw (eQ n A k) (dw (eQ n A m) A);rw[jP ha k m,kY]
def oZ(n:Nat)(hs:List Int->Nat->Prop)(st:List Rl)(x:El):List Rl:=
 if x.kind=0 then fL n::st else if x.kind=1 then zn n (hs x.set)::st else
 match st with
 | []=>[]
 | [o]=>if x.kind=4 then [jr n o x.mn x.mx] else [o]
 | r::l::b=>if x.kind=4 then jr n r x.mn x.mx::l::b else (if x.kind=2 then dw l r else lK l r)::b
def mZ(n:Nat)(hs:List Int->Nat->Prop)(st:List Rl):List El->List Rl
 | []=>st
 | x::r=>mZ n hs (oZ n hs st x) r
section
variable {n:Nat} {hs:List Int->Nat->Prop}
theorem eG(st:List Rl)(a b:List El):mZ n hs st (a++b)=mZ n hs (mZ n hs st a) b:=by
 induction a generalizing st with
 | nil=>rfl
 | cons x r ih=>simp[mZ,ih]
def aZ(n:Nat)(hs:List Int->Nat->Prop)(seg:List El)(R:Rl):Prop:=(∀ st,mZ n hs st seg=R::st)/\RB n R
theorem aZ.one{a:List El}{A B:Rl}(h:aZ n hs a A)(k:aZ n hs a B):A=B:=by
 have:=(h.1 []).symm.trans (k.1 [])
 simpa using this
theorem aZ.e:aZ n hs [⟨0,[],0,0⟩] (fL n):=⟨fun st=>by simp[mZ,oZ],Ac n⟩
theorem aZ.s(xs:List Int):aZ n hs [⟨1,xs,0,0⟩] (zn n (hs xs)):=⟨fun st=>by simp[mZ,oZ],DP n _⟩
theorem aZ.cat{a b:List El}{A B:Rl}(ha:aZ n hs a A)(hb:aZ n hs b B):aZ n hs (a++b++[⟨2,[],0,0⟩]) (dw A B):=⟨fun st=>by
 rw[eG,eG,ha.1,hb.1];simp[mZ,oZ],ha.2.cat hb.2⟩
theorem aZ.alt{a b:List El}{A B:Rl}(ha:aZ n hs a A)(hb:aZ n hs b B):aZ n hs (a++b++[⟨3,[],0,0⟩]) (lK A B):=⟨fun st=>by
 rw[eG,eG,ha.1,hb.1];simp[mZ,oZ],ha.2.alt hb.2⟩
theorem aZ.rep{a:List El}{A:Rl}(ha:aZ n hs a A)(mn mx:Int):aZ n hs (a++[⟨4,[],mn,mx⟩]) (jr n A mn mx):=⟨fun st=>by
 rw[eG,ha.1];cases st<;>simp[mZ,oZ],ha.2.rep mn mx⟩
theorem aZ.jn_rep{a p:List El}{A P:Rl}(ha:aZ n hs a A)(hp:aZ n hs p P)(ps:List (List El))(hne:ps≠[])(hj:aZ n hs (jn ps) P):∀ k,aZ n hs (jn (ps++List.replicate k a)) (dw P (eQ n A k))
 | 0=>by
  simp only[List.replicate_zero,List.append_nil];show aZ n hs (jn ps) (dw P (fL n));rw[pF hp.2];exact hj
 | k+1=>by
  rw[List.replicate_succ',<-List.append_assoc,pC (by simp[hne])];have:=(aZ.jn_rep ha hp ps hne hj k).cat ha;rw[kY]at this;exact this
theorem aZ.jn_pow{a:List El}{A:Rl}(ha:aZ n hs a A)(k:Nat):aZ n hs (jn (List.replicate (k+1) a)) (eQ n A (k+1)):=by
 have h:=aZ.jn_rep ha ha [a] (by simp) (by simpa[jn]using ha) k;rw[<-fu ha.2]at h;rw[List.replicate_succ];exact h
theorem kq{A:Rl}(ha:RB n A):∀ (k:Nat) (i j:Nat),eQ n (lK A (fL n)) k i j↔∃ m,m<=k/\eQ n A m i j
 | 0,i,j=>⟨fun h=>⟨0,Nat.le_refl _,h⟩,fun ⟨m,h1,h2⟩=>by
  obtain rfl:m=0:=(by omega);exact h2⟩
 | k+1,i,j=>by
  constructor
  ·rintro⟨q,h1,h2⟩;obtain⟨m,h3,h4⟩:=(kq ha k i q).1 h1;rcases h2 with h2|⟨rfl,-⟩
   ·exact⟨m+1,by omega,q,h4,h2⟩
   exact⟨m,by omega,h4⟩
  rintro⟨m,h1,h2⟩
  by_cases e:m<=k
  ·exact⟨j,(kq ha k i j).2 ⟨m,e,h2⟩,Or.inr ⟨rfl,((ha.pow m) _ _ h2).2⟩⟩
  obtain rfl:m=k+1:=by omega
  obtain⟨q,h3,h4⟩:=h2;exact⟨q,(kq ha k i q).2 ⟨k,Nat.le_refl _,h3⟩,Or.inl h4⟩
theorem aZ.opt{a:List El}{A:Rl}(ha:aZ n hs a A):aZ n hs (qx a) (lK A (fL n)):=ha.alt aZ.e
theorem aZ.repx{a:List El}{A:Rl}(ha:aZ n hs a A)(mn mx:Int)(o2:0<=mn)(o4:mx = -1∨(mn<=mx/\mx<=250)):aZ n hs (mH a mn mx) (jr n A mn mx):=by
 unfold mH
 by_cases h0:mx=0
 ·rw[if_pos h0];have e:jr n A mn mx=fL n:=gd fun i j=>⟨fun ⟨k,h1,h2,h3⟩=>by
   obtain rfl:k=0:=by omega
   exact h3,fun h=>⟨0,by omega,by omega,h⟩⟩
  rw[e];exact aZ.e
 rw[if_neg h0];unfold bJ;rcases o4 with rfl|⟨o4,o5⟩
 ·rw[if_pos rfl];obtain⟨m,rfl⟩:=Int.eq_ofNat_of_zero_le o2
  match m with
  | 0 =>
   have:=ha.rep 0 (-1)
   simpa[jn]using this
  | 1 =>
   have:=ha.rep 1 (-1)
   simpa[jn]using this
  | m+2 =>
   have e1:(((m+2:Nat):Int)-1).toNat=m+1:=by omega
   have e2:(1:Int)<((m+2:Nat):Int):=by omega
   rw[e1,if_pos e2,pC (by simp[List.replicate_succ])];have h:=(ha.jn_pow m).cat (ha.rep 1 (-1));have e:dw (eQ n A (m+1)) (jr n A 1 (-1))=jr n A ((m+2:Nat):Int) (-1):=gd fun i j=>by
    constructor
    ·rintro⟨q,h1,k,h2,-,h3⟩;refine⟨m+1+k,by omega,Or.inl rfl,?_⟩;rw[jP ha.2];exact⟨q,h1,h3⟩
    rintro⟨k,h1,-,h2⟩;obtain⟨t,rfl⟩ : ∃ t,k=m+1+t:=⟨k-(m+1),by omega⟩;rw[jP ha.2]at h2;obtain⟨q,h3,h4⟩:=h2;exact⟨q,h3,t,by omega,Or.inl rfl,h4⟩
   rw[e]at h;exact h
 rw[if_neg (by omega)];obtain⟨m,rfl⟩:=Int.eq_ofNat_of_zero_le o2;obtain⟨d,hd⟩ : ∃ d:Nat,mx=(m:Int)+d:=⟨(mx-m).toNat,by omega⟩;subst hd;rw[show((m:Int)).toNat=m by omega,show((m:Int)+d-m).toNat=d by omega];have key:jr n A (m:Int) ((m:Int)+d)=dw (eQ n A m) (eQ n (lK A (fL n)) d):=gd fun i j=>by
  constructor
  ·rintro⟨k,h1,h2,h3⟩;obtain⟨t,rfl⟩ : ∃ t,k=m+t:=⟨k-m,by omega⟩;rw[jP ha.2]at h3;obtain⟨q,h4,h5⟩:=h3;exact⟨q,h4,(kq ha.2 d q j).2 ⟨t,by omega,h5⟩⟩
  rintro⟨q,h4,h5⟩;obtain⟨t,h6,h7⟩:=(kq ha.2 d q j).1 h5;refine⟨m+t,by omega,by omega,?_⟩;rw[jP ha.2];exact⟨q,h4,h7⟩
 rw[key];clear key o2 o5 o4;rcases Nat.eq_zero_or_pos m with e|e
 ·subst e;obtain⟨d',rfl⟩ : ∃ d',d=d'+1:=⟨d-1,by omega⟩;have h:=ha.opt.jn_pow d';have e:dw (eQ n A 0) (eQ n (lK A (fL n)) (d'+1))=eQ n (lK A (fL n)) (d'+1):=gR h.2;rw[e,List.replicate_zero,List.nil_append];exact h
 obtain⟨m',rfl⟩ : ∃ m',m=m'+1:=⟨m-1,by omega⟩;exact aZ.jn_rep ha.opt (ha.jn_pow m') (List.replicate (m'+1) a) (by simp[List.replicate_succ]) (ha.jn_pow m') d
end
def uu(bs:List Int):List Int->Nat->Prop:=fun xs i=>eF xs (bs[i]?.getD 0)
def Do(n:Nat)(l r:Bool)(R:Rl):Prop:=∃ i j,(i=0∨l=false)/\R i j/\(j=n∨r=false)
theorem aP.set1{w w1:World}{v1:Value}{xs:List Int}(hb:Below w.heap.size w w1)(hs:mj mI 0 w.heap.size w1.heap.size w1 v1 xs):aP w.heap.size (w1.alloc (.cells #[.int .i64 1,v1,.int .i64 0,.int .i64 0] 65)) (.slice (some ⟨w1.heap.size,0,none⟩) 1 1) [⟨1,xs,0,0⟩]:=by
 refine⟨[⟨⟨1,xs,0,0⟩,v1,li w.heap.size w1.heap.size⟩],rfl,World.ownsRow_lit w1 _ 1 hb.size (by unfold maxLen;omega) rfl,fun p hp=>?_,fun p hp k hk=>?_,List.pairwise_singleton _ _⟩
 ·obtain rfl:=List.mem_singleton.1 hp;exact hs.foot.same (fun k hk=>(ai w1 _).block k hk.2)
 obtain rfl:=List.mem_singleton.1 hp;have h2:=hk.2;exact⟨hk.1,by rw[ah];omega,fun e=>by have e2:w1.heap.size=k:=Option.some.inj e;omega⟩
theorem Bu(v:Value)(xs:List Int)(w:World)(hv:aK mI 0 0 w.heap.size w v xs)(hlen:xs.length<=1048576):Calls prog 16 #[v] w fun e w'=>∃ v',e=.returned v'/\aP w.heap.size w' v' [⟨1,xs,0,0⟩]/\Below w.heap.size w w':=by
 obtain⟨a,cp,rfl,-,-⟩:=id hv;have Hv:=ae hv;clear hv
 go_enter func16,ntmps16
 go_wp2_with (at_builtin;refine sW rfl _ _ rfl rfl _ rfl xs Hv.u hlen ?_;intro sv w1 b d f;obtain⟨sa,sc,rfl⟩ : ∃ a c,sv=.slice a xs.length c:=(by obtain⟨a,c,e,-⟩:=d;exact⟨a,c,e⟩);have HG:=ae (aP.set1 b d);have HB:=ae (b.trans ((ai w1 (.cells #[.int .i64 1,.slice sa xs.length sc,.int .i64 0,.int .i64 0] 65)).mono b.size));clear d f b);go_ret;exact⟨_,rfl,HG.u,HB.u⟩
theorem jO(vx vy:Value)(xs ys:List El)(w:World)(hx:aA 0 w.heap.size w vx xs)(hy:aA 0 w.heap.size w vy ys)(hlx:xs.length<=1048576)(hly:ys.length<=1048576)(hsx:∀ i:Nat,(xs[i]?.getD dE).set.length<=1048576)(hsy:∀ i:Nat,(ys[i]?.getD dE).set.length<=1048576) :
  Calls prog 29 #[vx,vy] w fun e w'=>∃ v',e=.returned v'/\aP w.heap.size w' v' (xs++ys++[⟨2,[],0,0⟩])/\Below w.heap.size w w':=by
 have H:=ae (pA 2 vx vy xs ys w hx hy hlx hly hsx hsy);obtain⟨a1,c1,rfl,-,-⟩:=id hx;obtain⟨a2,c2,rfl,-,-⟩:=id hy;clear hx hy hsx hsy
 go_enter func29,ntmps29
 go_wp2_with fail;refine H.u.mono ?_;rintro e w1 ⟨v1,rfl,b,c⟩;obtain⟨Z,hZ⟩ : ∃ Z,Z=xs++ys++[⟨2,[],0,0⟩]:=⟨_,rfl⟩;rw[<-hZ]at b;have HZ:=ae hZ;have HG:=ae b;obtain⟨o1,d1,rfl⟩:=b.form;clear b hZ;go_wp2;go_ret;exact⟨_,rfl,by rw[<-HZ.u];exact HG.u,c⟩
/-! What the model draws of a code: sets and trees,as functions of the code. -/
def dW(y:Int):Int:=if 0<y%3 then 0 else y%12
def Cs(p:Nat->Bool)(lo hi:Int)(n:Nat):Nat->Bool:=fun b=>p b||(decide (lo<=(b:Int)/\(b:Int)<=hi)&&decide (b<n))
def AU:Nat->(Nat->Bool)->List Int->(Nat->Bool)×List Int
 | 0,p,zs=>(p,zs)
 | n+1,p,zs=>AU n (Cs p (dB (zs.headD 0)) (dB (zs.headD 0)+dW (zs.tail.headD 0)) 256) zs.tail.tail
theorem vn:∀ (n:Nat) (p:Nat->Bool) (zs:List Int),dN zs->dN (AU n p zs).2
 | 0,_,_,h=>h
 | n+1,_,_,h=>vn n _ _ h.tail.tail
def bU(xs:List Int):List Int×List Int:=
 if xs.headD 0%24<16 then ([dB (xs.tail.headD 0),dB (xs.tail.headD 0)],xs.tail.tail)
 else if xs.headD 0%24=16 then ([97,98],xs.tail) else if xs.headD 0%24=17 then ([97,99],xs.tail)
 else if xs.headD 0%24=18 then ([48,57],xs.tail) else if xs.headD 0%24=19 then ([0,9,11,255],xs.tail)
 else if xs.headD 0%24=20 then (if xs.tail.headD 0%3=0 then [] else if xs.tail.headD 0%3=1 then [0,255] else [97,104],xs.tail.tail)
 else (wT (if xs.headD 0%24=23 then fun b=>!(AU (1+xs.tail.headD 0%4).toNat (fun _=>false) xs.tail.tail).1 b else (AU (1+xs.tail.headD 0%4).toNat (fun _=>false) xs.tail.tail).1),(AU (1+xs.tail.headD 0%4).toNat (fun _=>false) xs.tail.tail).2)
theorem rI{xs:List Int}(h:dN xs):dN (bU xs).2:=by
 unfold bU
 repeat' split
 all_goals first|exact h.tail.tail|exact h.tail|exact vn _ _ _ h.tail.tail
def pE(cs:List Int):Prop:=cs.length<=512/\∀ x∈cs,0<=x/\x<=255
theorem il(p:Nat->Bool):pE (wT p):=by
 have h:=(CP p).1;refine⟨?_,fun x hx=>?_⟩
 ·have:=qD p 256;exact this
 obtain⟨i,hi,e⟩:=List.getElem_of_mem hx;have:=h.2.1 i hi;rw[List.getElem?_eq_getElem hi,Option.getD_some,e]at this;exact this
theorem gy(xs:List Int):pE (bU xs).1:=by
 have hb:=iU (y:=xs.tail.headD 0);unfold bU
 repeat' split
 all_goals first|exact il _|(refine⟨by simp,fun x hx=>?_⟩;simp only[List.mem_cons,List.not_mem_nil,or_false]at hx<;>omega)
theorem pE.in64{cs:List Int}(h:pE cs)(i:Nat):az (cs[i]?.getD 0):=by
 by_cases hi:i<cs.length
 ·rw[List.getElem?_eq_getElem hi];have:=h.2 _ (List.getElem_mem hi);simp only[Option.getD_some];unfold az;omega
 rw[List.getElem?_eq_none (by omega)];exact⟨by decide,by decide⟩
theorem pE.nice{cs:List Int}(h:pE cs):aY [⟨1,cs,0,0⟩]:=by
 have hl:=h.1;refine⟨fun i=>?_,fun i=>?_⟩
 ·cases i with
  | zero=>exact⟨by simp[az],by simp[az],by simp[az],fun j=>h.in64 j⟩
  | succ i=>simp[dE,az]
 cases i with
 | zero=>show cs.length<=1048576;omega
 | succ i=>simp[dE]
def sE(cs:List Int):List El:=[⟨1,cs,0,0⟩]
def eE:List El:=[⟨0,[],0,0⟩]
def eg(a b:List El):List El:=a++b++[⟨2,[],0,0⟩]
def fN(a b:List El):List El:=a++b++[⟨3,[],0,0⟩]
def bi(a:List El)(lo hi:Int):List El:=a++[⟨4,[],lo,hi⟩]
def vF(L:List El):Int:=(gS [] L).headD 0
structure DT (n:Nat) (L:List El):Prop where
 len:L.length<=n
 nice:aY L
 seg:∃ c,ba L c/\BM L c
theorem DT.mono{n m:Nat}{L:List El}(h:DT n L)(hm:n<=m):DT m L:=⟨Nat.le_trans h.len hm,h.nice,h.seg⟩
theorem DT.size{n:Nat}{L:List El}(h:DT n L):BM L (vF L):=by
 obtain⟨c,h1,h2⟩:=h.seg;have:vF L=c:=by unfold vF;rw[h1.run []];rfl
 rw[this];exact h2
theorem DT.szb{n:Nat}{L:List El}(h:DT n L):0<=vF L/\vF L<=501:=by
 obtain⟨c,h1,h2⟩:=h.seg;have:vF L=c:=by unfold vF;rw[h1.run []];rfl
 rw[this];exact h1.bd
theorem DT.e:DT 1 eE:=⟨Nat.le_refl _,aY.op _ _ _ (by simp[az]) (by simp[az]) (by simp[az]),1,ba.leaf (Or.inl rfl),fun v w hv _=>fR 0 (Or.inl rfl) _ v w hv⟩
theorem DT.s{cs:List Int}(h:pE cs):DT 1 (sE cs):=⟨Nat.le_refl _,h.nice,1,ba.leaf (Or.inr rfl),fun v w hv _=>fR 1 (Or.inr rfl) _ v w hv⟩
theorem DT.bin{n m:Nat}{a b:List El}(ha:DT n a)(hb:DT m b)(k:Int)(hk:k=2∨k=3):DT (n+m+1) (a++b++[⟨k,[],0,0⟩]):=by
 obtain⟨ca,a1,a2⟩:=ha.seg;obtain⟨cb,b1,b2⟩:=hb.seg;have c:=ha.len;have d:=hb.len;refine⟨by simp;omega,(ha.nice.app hb.nice).app (aY.op _ _ _ ?_ (by simp[az]) (by simp[az])),_,ba.bin a1 b1 hk,fun v w hv hl=>mQ k hk _ _ _ _ a1 b1 a2 b2 v w hv hl⟩;rcases hk with rfl|rfl<;>simp[az]
theorem DT.cat{n m:Nat}{a b:List El}(ha:DT n a)(hb:DT m b):DT (n+m+1) (eg a b):=ha.bin hb 2 (Or.inl rfl)
theorem DT.alt{n m:Nat}{a b:List El}(ha:DT n a)(hb:DT m b):DT (n+m+1) (fN a b):=ha.bin hb 3 (Or.inr rfl)
theorem DT.rep{n:Nat}{a:List El}(ha:DT n a){lo hi:Int}(o2:0<=lo)(o3:lo<=250)(o4:hi = -1∨(lo<=hi/\hi<=250)):DT (n+1) (bi a lo hi):=by
 obtain⟨ca,a1,a2⟩:=ha.seg;have b:=ha.len;refine⟨by simp[bi];omega,ha.nice.app (aY.op _ _ _ (by simp[az]) (by unfold az;omega) (by unfold az;omega)),_,ba.rep a1 rfl o2 o4,fun v w hv hl=>mW lo hi _ _ a1 o2 o3 o4 a2 v w hv hl⟩
def AQ:Nat->List El->List Int->List El×List Int
 | 0,t,zs=>(t,zs)
 | n+1,t,zs=>AQ n (eg t (sE [dB (zs.headD 0),dB (zs.headD 0)])) zs.tail
def lz(xs:List Int):List El×List Int:=AQ (1+xs.headD 0%4).toNat (sE [dB (xs.tail.headD 0),dB (xs.tail.headD 0)]) xs.tail.tail
theorem iK(y:Int):pE [dB y,dB y]:=by
 have:=iU (y:=y);refine⟨by simp,fun x hx=>?_⟩;simp at hx;omega
theorem yd:∀ (n:Nat) {m:Nat} {t:List El} (zs:List Int),DT m t->DT (m+2*n) (AQ n t zs).1
 | 0,_,_,_,h=>h
 | n+1,m,t,zs,h=>(yd n _ (h.cat (DT.s (iK _)))).mono (by omega)
theorem uA:∀ (n:Nat) (t:List El) (zs:List Int),dN zs->dN (AQ n t zs).2
 | 0,_,_,h=>h
 | n+1,_,_,h=>uA n _ _ h.tail
theorem zD(xs:List Int):DT 9 (lz xs).1:=(yd _ _ (DT.s (iK _))).mono (by omega)
theorem vK{xs:List Int}(h:dN xs):dN (lz xs).2:=uA _ _ _ h.tail.tail
def qI(xs:List Int):(Int×Int)×List Int:=
 if xs.headD 0%12<3 then ((0,-1),xs.tail) else if xs.headD 0%12<5 then ((1,-1),xs.tail) else if xs.headD 0%12<7 then ((0,1),xs.tail)
 else ((xs.tail.headD 0%4,if xs.headD 0%12=11 then -1 else xs.tail.headD 0%4+xs.tail.tail.headD 0%4),xs.tail.tail.tail)
def tn(x:List El)(xs:List Int):List El×List Int:=(if 60<vF (bi x (qI xs).1.1 (qI xs).1.2) then x else bi x (qI xs).1.1 (qI xs).1.2,(qI xs).2)
theorem zQ(xs:List Int):0<=(qI xs).1.1/\(qI xs).1.1<=3/\((qI xs).1.2 = -1∨((qI xs).1.1<=(qI xs).1.2/\(qI xs).1.2<=6)):=by
 unfold qI
 repeat' split
 all_goals first
  | exact⟨by decide,by decide,.inl rfl⟩
  | exact⟨by decide,by decide,.inr ⟨by decide,by decide⟩⟩
  | exact⟨by simp only;omega,by simp only;omega,.inl rfl⟩
  | exact⟨by simp only;omega,by simp only;omega,.inr ⟨by simp only;omega,by simp only;omega⟩⟩
theorem Ca{xs:List Int}(h:dN xs):dN (qI xs).2:=by
 unfold qI
 repeat' split
 all_goals first|exact h.tail.tail.tail|exact h.tail
theorem yX{n:Nat}{x:List El}(h:DT n x)(xs:List Int):DT (n+1) (bi x (qI xs).1.1 (qI xs).1.2):=by
 obtain⟨h1,h2,h3⟩:=zQ xs;exact h.rep h1 (by omega) (h3.imp id (fun q=>⟨q.1,by omega⟩))
theorem BU{n:Nat}{x:List El}(h:DT n x)(xs:List Int):DT (n+1) (tn x xs).1:=by
 unfold tn
 split
 ·exact h.mono (by omega)
 exact yX h xs
def bu:Nat->List Int->List El×List Int
 | 0,xs=>(sE (bU xs.tail).1,(bU xs.tail).2)
 | d+1,xs =>
  if xs.headD 0%16<4∨xs.tail.length=0 then (sE (bU xs.tail).1,(bU xs.tail).2)
  else if xs.headD 0%16<6 then lz xs.tail else if xs.headD 0%16=6 then (eE,xs.tail)
  else if xs.headD 0%16<10 then (eg (bu d xs.tail).1 (bu d (bu d xs.tail).2).1,(bu d (bu d xs.tail).2).2)
  else if xs.headD 0%16<13 then (fN (bu d xs.tail).1 (bu d (bu d xs.tail).2).1,(bu d (bu d xs.tail).2).2)
  else tn (bu d xs.tail).1 (bu d xs.tail).2
theorem dj:∀ (d:Nat) (xs:List Int),dN xs->dN (bu d xs).2
 | 0,_,h=>rI h.tail
 | d+1,xs,h=>by
  have h1:=dj d _ h.tail;have h2:=dj d _ h1;unfold bu
  repeat' split
  all_goals first|exact rI h.tail|exact vK h.tail|exact h.tail|exact h2|exact Ca h1
theorem dh:∀ (d:Nat) (xs:List Int),DT (10*2 ^ d-1) (bu d xs).1
 | 0,xs=>(DT.s (gy _)).mono (by omega)
 | d+1,xs=>by
  have h1:=dh d xs.tail;have h2:=dh d (bu d xs.tail).2;have h3:1<=2 ^ d:=Nat.one_le_two_pow;have h4:2 ^ (d+1)=2*2 ^ d:=by rw[Nat.pow_succ];omega
  unfold bu
  repeat' split
  ·exact(DT.s (gy _)).mono (by omega)
  ·exact(zD _).mono (by omega)
  ·exact DT.e.mono (by omega)
  ·exact(h1.cat h2).mono (by omega)
  ·exact(h1.alt h2).mono (by omega)
  exact(BU h1 _).mono (by omega)
def uJ:Nat->List El->List Int->List El×List Int
 | 0,t,zs=>(t,zs)
 | n+1,t,zs =>
  if zs.length=0 then (t,zs) else if zs.headD 0%8<2 then (t,zs.tail)
  else if 90<vF t+vF (bu 3 zs.tail).1 then (t,(bu 3 zs.tail).2)
  else uJ n (if zs.headD 0%8<6 then eg t (bu 3 zs.tail).1 else fN t (bu 3 zs.tail).1) (bu 3 zs.tail).2
theorem zb:∀ (n:Nat) {m:Nat} {t:List El} (zs:List Int),DT m t->DT (m+80*n) (uJ n t zs).1
 | 0,_,_,_,h=>h
 | n+1,m,t,zs,h=>by
  have h1:=dh 3 zs.tail;unfold uJ
  split
  ·exact h.mono (by omega)
  split
  ·exact h.mono (by omega)
  split
  ·exact h.mono (by omega)
  refine(zb n (m:=m+80) _ ?_).mono (by omega)
  split
  ·exact(h.cat h1).mono (by omega)
  exact(h.alt h1).mono (by omega)
theorem uV:∀ (n:Nat) (t:List El) (zs:List Int),dN zs->dN (uJ n t zs).2
 | 0,_,_,h=>h
 | n+1,t,zs,h=>by
  have h1:=dj 3 _ h.tail;unfold uJ
  repeat' split
  all_goals first|exact h|exact h.tail|exact h1|exact uV n _ _ h1
def dQ(xs:List Int):List El×List Int:=uJ 6 (bu 4 xs.tail).1 (bu 4 xs.tail).2
theorem se(xs:List Int):DT 700 (dQ xs).1:=(zb 6 _ (dh 4 _)).mono (by omega)
theorem pw{xs:List Int}(h:dN xs):dN (dQ xs).2:=uV _ _ _ (dj 4 _ h.tail)
/-! The rest of what is drawn: trees at a limit,spoiled trees,patterns. -/
structure NL (n:Nat) (L:List El):Prop where
 len:L.length<=n
 nice:aY L
theorem DT.nl{n:Nat}{L:List El}(h:DT n L):NL n L:=⟨h.len,h.nice⟩
theorem NL.mono{n m:Nat}{L:List El}(h:NL n L)(hm:n<=m):NL m L:=⟨Nat.le_trans h.len hm,h.nice⟩
theorem NL.cat{n m:Nat}{a b:List El}(ha:NL n a)(hb:NL m b):NL (n+m+1) (eg a b):=by
 have:=ha.len;have:=hb.len;exact⟨by simp[eg];omega,(ha.nice.app hb.nice).app (aY.op _ _ _ (by simp[az]) (by simp[az]) (by simp[az]))⟩
theorem NL.alt{n m:Nat}{a b:List El}(ha:NL n a)(hb:NL m b):NL (n+m+1) (fN a b):=by
 have:=ha.len;have:=hb.len;exact⟨by simp[fN];omega,(ha.nice.app hb.nice).app (aY.op _ _ _ (by simp[az]) (by simp[az]) (by simp[az]))⟩
theorem NL.rep{n:Nat}{a:List El}(ha:NL n a){lo hi:Int}(h1:az lo)(h2:az hi):NL (n+1) (bi a lo hi):=by
 have:=ha.len;exact⟨by simp[bi];omega,ha.nice.app (aY.op _ _ _ (by simp[az]) h1 h2)⟩
theorem xd{x:Int}(h0:0<=x)(h1:x<=255):pE [x,x]:=⟨by simp,fun y hy=>by simp only[List.mem_cons,List.not_mem_nil,or_false]at hy;omega⟩
def cY(x:Int):List El:=sE [x,x]
theorem NL.one{x:Int}(h0:0<=x)(h1:x<=255):NL 1 (cY x):=(DT.s (xd h0 h1)).nl
def sd:Nat->List El->List El
 | 0,t=>t
 | n+1,t=>sd n (fN t eE)
def ji:Nat->List El->List El
 | 0,t=>t
 | n+1,t=>ji n (bi t 1 1)
theorem vw:∀ (n:Nat) {m:Nat} {t:List El},NL m t->NL (m+2*n) (sd n t)
 | 0,_,_,h=>h
 | n+1,_,_,h=>(vw n (h.alt DT.e.nl)).mono (by omega)
theorem vp:∀ (n:Nat) {m:Nat} {t:List El},NL m t->NL (m+n) (ji n t)
 | 0,_,_,h=>h
 | n+1,_,_,h=>(vp n (h.rep (by simp[az]) (by simp[az]))).mono (by omega)
theorem zh:∀ (n:Nat) (t:List El),sd (n+1) t=fN (sd n t) eE
 | 0,_=>rfl
 | n+1,t=>zh n (fN t eE)
theorem xB:∀ (n:Nat) (t:List El),ji (n+1) t=bi (ji n t) 1 1
 | 0,_=>rfl
 | n+1,t=>xB n (bi t 1 1)
def pY(k d:Int):List El:=
 if k=0 then bi (eg (cY 97) (cY 98)) (250+d) (250+d) else if k=1 then bi (cY 97) 0 (250+d)
 else if k=2 then sd (d+1).toNat (bi (eg (cY 97) (cY 98)) 249 (-1))
 else if k=3 then (if d=1 then fN (bi (bi (eg (cY 97) (cY 98)) 5 5) 50 50) eE else bi (bi (eg (cY 97) (cY 98)) 5 5) 50 50)
 else if k=4 then bi eE 0 (250+d)
 else bi (eg (if 0<d then bi (ji 30 (cY 97)) 0 0 else ji 30 (cY 97)) (if 0<d then bi (ji 30 (cY 97)) 0 0 else ji 30 (cY 97))) (250+d) (250+d)
def ud(xs:List Int):List El×List Int:=(pY (xs.headD 0%6) (xs.tail.headD 0%3-1),xs.tail.tail)
def jk(t:List El)(i:Nat)(x:El):List El:=t.set i x
def Gj(k y:Int)(x:El):El:=
 if k=0 then ⟨5,x.set,x.mn,x.mx⟩ else if k=1 then ⟨-1,x.set,x.mn,x.mx⟩ else if k=2 then ⟨y%5,x.set,x.mn,x.mx⟩
 else if k=3 then ⟨x.kind,x.set,wrap64 (x.mn+1),x.mx⟩ else if k=4 then ⟨x.kind,x.set,x.mn,wrap64 (x.mx-1)⟩ else if k=5 then ⟨x.kind,x.set++[7],x.mn,x.mx⟩
 else if k=6 then ⟨x.kind,[5,4],x.mn,x.mx⟩ else if k=7 then ⟨x.kind,[5,6,7,9],x.mn,x.mx⟩ else ⟨x.kind,[0,256],x.mn,x.mx⟩
def Fe(t:List El)(k y:Int)(i:Nat):List El:=
 if k<9 then jk t i (Gj k y (t[i]?.getD dE)) else if k=9 then t.take (t.length-1) else if k=10 then t++[⟨2,[],0,0⟩] else t++[⟨0,[],0,0⟩]
def iI(t:List El)(xs:List Int):List El×List Int:=(Fe t (xs.headD 0%12) (xs.tail.tail.headD 0) (xs.tail.headD 0%t.length).toNat,if xs.headD 0%12=2 then xs.tail.tail.tail else xs.tail.tail)
def rS(xs:List Int):(Bool×Bool)×List El:=
 if xs.headD 0%10=0 then ((decide (xs.tail.headD 0%2=0),decide (xs.tail.headD 0%3=0)),(ud xs.tail.tail).1)
 else ((decide (xs.tail.headD 0%4=1),decide (5<xs.tail.headD 0%8)),if xs.headD 0%10<3 then (iI (dQ xs.tail).1 (dQ xs.tail).2).1 else (dQ xs.tail).1)
theorem uM(x:Int):az (wrap64 x):=by unfold az wrap64;omega
/-! Drawn trees in memory. -/
theorem Mv.same{lo D n:Nat}{w w':World}(h:Mv lo D w w')(hn:n<=lo):dm (D+1) n w w':=fun x o h1 h2=>World.cell?_of_block (h.block x (by omega) (by omega))
theorem aA.mv{l lo D:Nat}{w w':World}{v:Value}{xs:List El}(h:aA l w.heap.size w v xs)(hm:Mv lo D w w')(hl:w.heap.size<=lo)(hD:D<l):aA l w'.heap.size w' v xs:=(h.same ((hm.same hl).mono hD lR)).mono lR hm.size
theorem eJ{lo lo':Nat}{w w':World}(h:Below lo w w')(D:Nat)(hl:lo'<=lo):Mv lo' D w w':=(Below.mv h D).mono hl
theorem kX.at2{lo n:Nat}{w:World}{v:Value}{xs:List El}(h:kX (li lo n) w v xs)(hr:Gd xs):aA lo n w v xs:=by
 obtain⟨a,cap,rfl,hl,hc⟩:=h;refine⟨a,cap,rfl,hl,fun hp=>?_⟩;obtain⟨b,off,sv,T,e,h1,h2,h3,h4,h5,h6⟩:=hc hp;refine⟨b,off,e,h1.1,h1.2,fun i hi=>?_⟩;obtain⟨r1,r2,r3,r4⟩:=hr i;obtain⟨q0,q1,q2,q3⟩:=h3 i hi;refine⟨r1,r2,r3,sv i,q0,q1,q2,q3,?_⟩;obtain⟨l0,n0,⟨a',cap',e',c,d⟩,hT⟩:=h4 i hi;refine⟨a',cap',e',c,r4,fun hp'=>?_⟩;obtain⟨b',off',e2,k1,k2,-,k4⟩:=d hp';have:=(h5 i hi b' (hT b' k1 k2)).1;exact⟨b',off',e2,this.1,this.2,k4⟩
theorem aP.els2{base:Nat}{w:World}{v:Value}{xs:List El}(h:aP base w v xs)(hn:aY xs):aA base w.heap.size w v xs:=h.foot.at2 hn.num
def zT(N D lo:Nat)(w:World)(R:List El×List Int)(e:Ending)(w':World):Prop:=(∃ v,e=.returned v/\aA lo w'.heap.size w' v R.1)/\bR N D w' R.2/\Mv w.heap.size D w w'
def AM(N D lo:Nat)(w:World)(R:List Int×List Int)(e:Ending)(w':World):Prop:=(∃ v,e=.returned v/\aR lo w'.heap.size w' v R.1)/\bR N D w' R.2/\Mv w.heap.size D w w'
theorem eB{x:Int}(h0:0<=x)(h1:x<=255):az x:=by unfold az;omega
theorem iC(w:World){a b:Int}(ha:az a)(hb:az b):aR w.heap.size (w.alloc (.cells #[.int .i64 a,.int .i64 b] 3)).heap.size (w.alloc (.cells #[.int .i64 a,.int .i64 b] 3)) (.slice (some ⟨w.heap.size,0,none⟩) 2 2) [a,b]:=by
 refine⟨_,2,rfl,by unfold maxLen;simp,fun i=>?_,fun _=>⟨w.heap.size,0,rfl,Nat.le_refl _,by rw[ah];exact Nat.lt_succ_self _,fun i hi=>?_⟩⟩
 ·match i with
  | 0=>exact ha
  | 1=>exact hb
  | i+2=>simp[az]
 have c:i<2:=hi
 match i,c with
 | 0,_=>exact(ay w _).news 0 _ rfl
 | 1,_=>exact(ay w _).news 1 _ rfl
theorem mj.ints{lo n:Nat}{w:World}{v:Value}{xs:List Int}(h:mj mI 0 lo n w v xs)(hr:∀ i:Nat,az (xs[i]?.getD 0)):aR lo n w v xs:=by
 obtain⟨a,cap,rfl,hl,hc⟩:=h;refine⟨a,cap,rfl,hl,hr,fun hp=>?_⟩;obtain⟨b,off,rfl,h1,h2,-,h3⟩:=hc hp;exact⟨b,off,rfl,h1,h2,h3⟩
theorem eo(b:Int)(w:World)(hb:az b):Calls prog 30 #[.int .i64 b] w fun e w'=>∃ v,e=.returned v/\aR w.heap.size w'.heap.size w' v [b,b]/\Below w.heap.size w w':=by
 go_enter func30,ntmps30
 go_wp2;go_ret;exact⟨_,rfl,iC w hb hb,ai w _⟩
theorem pG(w:World):Calls prog 17 #[] w fun e w'=>∃ v,e=.returned v/\aR w.heap.size w'.heap.size w' v [0,255]/\Below w.heap.size w w':=by
 go_enter func17,ntmps17
 go_wp2;go_ret;exact⟨_,rfl,iC w (eB (by omega) (by omega)) (eB (by omega) (by omega)),ai w _⟩
theorem Bn(w:World):Calls prog 119 #[] w fun e w'=>∃ v,e=.returned v/\aR w.heap.size w'.heap.size w' v [0,9,11,255]/\Below w.heap.size w w':=by
 go_enter func119,ntmps119
 go_wp2;go_ret;refine⟨_,rfl,⟨_,4,rfl,by unfold maxLen;simp,fun i=>?_,fun _=>⟨w.heap.size,0,rfl,Nat.le_refl _,by rw[ah];exact Nat.lt_succ_self _,fun i hi=>?_⟩⟩,ai w _⟩
 ·match i with
  | 0=>simp[az]
  | 1=>simp[az]
  | 2=>simp[az]
  | 3=>simp[az]
  | i+4=>simp[az]
 have a:i<4:=hi
 match i,a with
 | 0,_=>exact(ay w _).news 0 _ rfl
 | 1,_=>exact(ay w _).news 1 _ rfl
 | 2,_=>exact(ay w _).news 2 _ rfl
 | 3,_=>exact(ay w _).news 3 _ rfl
theorem Eh{lo:Nat}{w:World}{sv:Value}{cs:List Int}(hs:aR lo w.heap.size w sv cs)(hlo:lo<=w.heap.size):aA lo (w.alloc (.cells #[.int .i64 1,sv,.int .i64 0,.int .i64 0] 65)).heap.size (w.alloc (.cells #[.int .i64 1,sv,.int .i64 0,.int .i64 0] 65)) (.slice (some ⟨w.heap.size,0,none⟩) 1 1) (sE cs):=by
 have h2:=hs.below (ai w (.cells #[.int .i64 1,sv,.int .i64 0,.int .i64 0] 65)) lR;refine⟨_,1,rfl,⟨Nat.le_refl _,by unfold maxLen;simp⟩,fun _=>⟨w.heap.size,0,rfl,hlo,by rw[ah];exact Nat.lt_succ_self _,fun i hi=>?_⟩⟩;have a:i<1:=hi
 match i,a with
 | 0,_=>exact⟨by simp[sE,az],by simp[sE,az],by simp[sE,az],sv,(ay w _).news 0 _ rfl,(ay w _).news 1 _ rfl,(ay w _).news 2 _ rfl,(ay w _).news 3 _ rfl,h2⟩
theorem cJ(lo:Nat)(sv:Value)(cs:List Int)(w:World)(hs:aR lo w.heap.size w sv cs)(hlo:lo<=w.heap.size)(hcs:cs.length<=1048576):Calls prog 16 #[sv] w fun e w'=>∃ v,e=.returned v/\aA lo w'.heap.size w' v (sE cs)/\Below w.heap.size w w':=by
 have HR:Hi (∀ i:Nat,az (cs[i]?.getD 0)):=by obtain⟨_,_,_,_,hr,_⟩:=id hs;exact hr
 have HS:=ae (qk (hs.mono (Nat.zero_le _) lR));obtain⟨a,c,rfl,-,-,-⟩:=hs
 go_enter func16,ntmps16
 go_wp2_with (at_builtin;refine sW rfl _ _ rfl rfl _ rfl cs HS.u hcs ?_)
 intro sv' w1 d b g;have HI:=ae (b.ints HR.u);obtain⟨sa',sc',rfl⟩ : ∃ a c,sv'=.slice a cs.length c:=by obtain⟨a,c,e,-⟩:=b;exact⟨a,c,e⟩
 have f:=d.size;clear b;have H:=ae (Eh (HI.u.mono (lo':=lo) (by omega) lR) (by omega));go_wp2;go_ret;exact⟨_,rfl,H.u,d.trans ((ai w1 _).mono f)⟩
theorem iA{n m lo:Nat}{vx vy:Value}{xs ys:List El}{w:World}(hx:aA lo w.heap.size w vx xs)(hy:aA lo w.heap.size w vy ys)(nx:NL n xs)(ny:NL m ys)(hn:n<=2000)(hm:m<=2000)(hlo:lo<=w.heap.size) :
  Calls prog 29 #[vx,vy] w fun e w'=>∃ v',e=.returned v'/\aA lo w'.heap.size w' v' (eg xs ys)/\Below w.heap.size w w':=by
 have h1:=nx.len;have h2:=ny.len;refine(jO vx vy xs ys w (hx.mono (Nat.zero_le _) lR) (hy.mono (Nat.zero_le _) lR) (by omega) (by omega) nx.nice.len ny.nice.len).mono ?_;rintro e w' ⟨v',rfl,hg,hb⟩;exact⟨v',rfl,(hg.els2 (nx.cat ny).nice).mono hlo lR,hb⟩
theorem kE{n m lo:Nat}{vx vy:Value}{xs ys:List El}{w:World}(hx:aA lo w.heap.size w vx xs)(hy:aA lo w.heap.size w vy ys)(nx:NL n xs)(ny:NL m ys)(hn:n<=2000)(hm:m<=2000)(hlo:lo<=w.heap.size) :
  Calls prog 14 #[vx,vy] w fun e w'=>∃ v',e=.returned v'/\aA lo w'.heap.size w' v' (fN xs ys)/\Below w.heap.size w w':=by
 have h1:=nx.len;have h2:=ny.len;refine(uw vx vy xs ys w (hx.mono (Nat.zero_le _) lR) (hy.mono (Nat.zero_le _) lR) (by omega) (by omega) nx.nice.len ny.nice.len).mono ?_;rintro e w' ⟨v',rfl,hg,hb⟩;exact⟨v',rfl,(hg.els2 (nx.alt ny).nice).mono hlo lR,hb⟩
theorem ez{n lo:Nat}{vx:Value}{xs:List El}{w:World}{p q:Int}(hx:aA lo w.heap.size w vx xs)(nx:NL n xs)(hn:n<=2000)(hlo:lo<=w.heap.size)(h1:az p)(h2:az q) :
  Calls prog 15 #[vx,.int .i64 p,.int .i64 q] w fun e w'=>∃ v',e=.returned v'/\aA lo w'.heap.size w' v' (bi xs p q)/\Below w.heap.size w w':=by
 have h3:=nx.len;refine(ml p q vx xs w (hx.mono (Nat.zero_le _) lR) (by omega) nx.nice.len).mono ?_;rintro e w' ⟨v',rfl,hg,hb⟩;exact⟨v',rfl,(hg.els2 (nx.rep h1 h2).nice).mono hlo lR,hb⟩
theorem AY(lo:Nat)(w:World)(hlo:lo<=w.heap.size):Calls prog 61 #[] w fun e w'=>∃ v',e=.returned v'/\aA lo w'.heap.size w' v' eE/\Below w.heap.size w w':=by
 refine(kW w).mono ?_;rintro e w' ⟨v',rfl,hg,hb⟩;exact⟨v',rfl,(hg.els2 DT.e.nice).mono hlo lR,hb⟩
end Go.Proofs.YtidfkbghlkcbeaaGreatDoor
