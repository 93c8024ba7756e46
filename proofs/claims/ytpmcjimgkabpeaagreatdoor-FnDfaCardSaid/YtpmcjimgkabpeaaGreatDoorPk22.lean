import Derived.Test.YtpmcjimgkabpeaaGreatDoorPk17
import Derived.Test.YtpmcjimgkabpeaaGreatDoorPk21
import Derived.Test.YtpmcjimgkabpeaaGreatDoorPk19
import Derived.Deep.CutBlock
namespace Go.Proofs.YtpmcjimgkabpeaaGreatDoor
open Go.RowKit Go.Proofs.Tryz
set_option maxHeartbeats 16000000
set_option maxRecDepth 100000
abbrev Rl:=Nat->Nat->Prop
def fY(n:Nat):Rl:=fun i j=>i=j/\j<=n
def wW(n:Nat)(hs:Nat->Prop):Rl:=fun i j=>j=i+1/\i<n/\hs i
def dh(A B:Rl):Rl:=fun i j=>∃ m,A i m/\B m j
def nQ(A B:Rl):Rl:=fun i j=>A i j∨B i j
def cW(n:Nat)(A:Rl):Nat->Rl
 | 0=>fY n
 | k+1=>dh (cW n A k) A
def jt(n:Nat)(A:Rl)(mn mx:Int):Rl:=fun i j=>∃ k:Nat,mn<=k/\(mx = -1∨(k:Int)<=mx)/\cW n A k i j
def RB(n:Nat)(A:Rl):Prop:=∀ i j,A i j->i<=j/\j<=n
theorem Ad(n:Nat):RB n (fY n):=fun _ _ h=>⟨Nat.le_of_eq h.1,h.2⟩
theorem CL(n:Nat)(hs:Nat->Prop):RB n (wW n hs):=fun _ _ h=>by obtain⟨rfl,h,-⟩:=h;omega
theorem RB.cat{n:Nat}{A B:Rl}(ha:RB n A)(hb:RB n B):RB n (dh A B):=fun _ _ ⟨_,h1,h2⟩=>by
 have:=ha _ _ h1;have:=hb _ _ h2;omega
theorem RB.alt{n:Nat}{A B:Rl}(ha:RB n A)(hb:RB n B):RB n (nQ A B):=fun _ _ h=>h.elim (ha _ _) (hb _ _)
theorem RB.pow{n:Nat}{A:Rl}(ha:RB n A):∀ k,RB n (cW n A k)
 | 0=>Ad n
 | k+1=>(RB.pow ha k).cat ha
theorem RB.rep{n:Nat}{A:Rl}(ha:RB n A)(mn mx:Int):RB n (jt n A mn mx):=fun _ _ ⟨k,_,_,h⟩=>ha.pow k _ _ h
theorem jb{A B:Rl}(h:∀ i j,A i j↔B i j):A=B:=funext fun i=>funext fun j=>propext (h i j)
theorem oZ{n:Nat}{A:Rl}(ha:RB n A):dh A (fY n)=A:=jb fun _ j=>⟨fun ⟨_,h1,h2,_⟩=>h2 ▸ h1,fun h=>⟨j,h,rfl,(ha _ _ h).2⟩⟩
theorem jO{n:Nat}{A:Rl}(ha:RB n A):dh (fY n) A=A:=jb fun i _=>⟨fun ⟨_,⟨h1,_⟩,h2⟩=>h1 ▸ h2,fun h=>⟨i,⟨rfl,by have:=ha _ _ h;omega⟩,h⟩⟩
theorem kN(A B C:Rl):dh (dh A B) C=dh A (dh B C):=jb fun _ _=>⟨fun ⟨m,⟨k,h1,h2⟩,h3⟩=>⟨k,h1,m,h2,h3⟩,fun ⟨k,h1,m,h2,h3⟩=>⟨m,⟨k,h1,h2⟩,h3⟩⟩
theorem iM{n:Nat}{A:Rl}(ha:RB n A):∀ k,cW n A (k+1)=dh A (cW n A k)
 | 0=>by show dh (fY n) A=dh A (fY n);rw[jO ha,oZ ha]
 | k+1=>by show dh (cW n A (k+1)) A=dh A (dh (cW n A k) A);rw[iM ha k,kN]
theorem jE{n:Nat}{A:Rl}(ha:RB n A)(k:Nat):∀ m,cW n A (k+m)=dh (cW n A k) (cW n A m)
 | 0=>(oZ (ha.pow k)).symm
 | m+1=>by show dh (cW n A (k+m)) A=dh (cW n A k) (dh (cW n A m) A);rw[jE ha k m,kN]
def oU(n:Nat)(hs:List Int->Nat->Prop)(st:List Rl)(x:El):List Rl:=
 if x.kind=0 then fY n::st else if x.kind=1 then wW n (hs x.set)::st else
 match st with
 | []=>[]
 | [o]=>if x.kind=4 then [jt n o x.mn x.mx] else [o]
 | r::l::b=>if x.kind=4 then jt n r x.mn x.mx::l::b else (if x.kind=2 then dh l r else nQ l r)::b
def me(n:Nat)(hs:List Int->Nat->Prop)(st:List Rl):List El->List Rl
 | []=>st
 | x::r=>me n hs (oU n hs st x) r
section
variable {n:Nat} {hs:List Int->Nat->Prop}
theorem eC(st:List Rl)(a b:List El):me n hs st (a++b)=me n hs (me n hs st a) b:=by
 induction a generalizing st with
 | nil=>rfl
 | cons x r ih=>simp[me,ih]
def bp(n:Nat)(hs:List Int->Nat->Prop)(seg:List El)(R:Rl):Prop:=(∀ st,me n hs st seg=R::st)/\RB n R
theorem bp.one{a:List El}{A B:Rl}(h:bp n hs a A)(k:bp n hs a B):A=B:=by
 have:=(h.1 []).symm.trans (k.1 [])
 simpa using this
theorem bp.e:bp n hs [⟨0,[],0,0⟩] (fY n):=⟨fun st=>by simp[me,oU],Ad n⟩
theorem bp.s(xs:List Int):bp n hs [⟨1,xs,0,0⟩] (wW n (hs xs)):=⟨fun st=>by simp[me,oU],CL n _⟩
theorem bp.cat{a b:List El}{A B:Rl}(ha:bp n hs a A)(hb:bp n hs b B):bp n hs (a++b++[⟨2,[],0,0⟩]) (dh A B):=⟨fun st=>by
 rw[eC,eC,ha.1,hb.1];simp[me,oU],ha.2.cat hb.2⟩
theorem bp.alt{a b:List El}{A B:Rl}(ha:bp n hs a A)(hb:bp n hs b B):bp n hs (a++b++[⟨3,[],0,0⟩]) (nQ A B):=⟨fun st=>by
 rw[eC,eC,ha.1,hb.1];simp[me,oU],ha.2.alt hb.2⟩
theorem bp.rep{a:List El}{A:Rl}(ha:bp n hs a A)(mn mx:Int):bp n hs (a++[⟨4,[],mn,mx⟩]) (jt n A mn mx):=⟨fun st=>by
 rw[eC,ha.1];cases st<;>simp[me,oU],ha.2.rep mn mx⟩
theorem bp.jn_rep{a p:List El}{A P:Rl}(ha:bp n hs a A)(hp:bp n hs p P)(ps:List (List El))(hne:ps≠[])(hj:bp n hs (jn ps) P):∀ k,bp n hs (jn (ps++List.replicate k a)) (dh P (cW n A k))
 | 0=>by
  simp only[List.replicate_zero,List.append_nil];show bp n hs (jn ps) (dh P (fY n));rw[oZ hp.2];exact hj
 | k+1=>by
  rw[List.replicate_succ',<-List.append_assoc,pT (by simp[hne])];have:=(bp.jn_rep ha hp ps hne hj k).cat ha;rw[kN]at this;exact this
theorem bp.jn_pow{a:List El}{A:Rl}(ha:bp n hs a A)(k:Nat):bp n hs (jn (List.replicate (k+1) a)) (cW n A (k+1)):=by
 have h:=bp.jn_rep ha ha [a] (by simp) (by simpa[jn]using ha) k;rw[<-iM ha.2]at h;rw[List.replicate_succ];exact h
theorem jj{A:Rl}(ha:RB n A):∀ (k:Nat) (i j:Nat),cW n (nQ A (fY n)) k i j↔∃ m,m<=k/\cW n A m i j
 | 0,i,j=>⟨fun h=>⟨0,Nat.le_refl _,h⟩,fun ⟨m,h1,h2⟩=>by
  obtain rfl:m=0:=(by omega);exact h2⟩
 | k+1,i,j=>by
  constructor
  ·rintro⟨q,h1,h2⟩;obtain⟨m,h3,h4⟩:=(jj ha k i q).1 h1;rcases h2 with h2|⟨rfl,-⟩
   ·exact⟨m+1,by omega,q,h4,h2⟩
   exact⟨m,by omega,h4⟩
  rintro⟨m,h1,h2⟩
  by_cases e:m<=k
  ·exact⟨j,(jj ha k i j).2 ⟨m,e,h2⟩,Or.inr ⟨rfl,((ha.pow m) _ _ h2).2⟩⟩
  obtain rfl:m=k+1:=by omega
  obtain⟨q,h3,h4⟩:=h2;exact⟨q,(jj ha k i q).2 ⟨k,Nat.le_refl _,h3⟩,Or.inl h4⟩
theorem bp.opt{a:List El}{A:Rl}(ha:bp n hs a A):bp n hs (ph a) (nQ A (fY n)):=ha.alt bp.e
theorem bp.repx{a:List El}{A:Rl}(ha:bp n hs a A)(mn mx:Int)(o2:0<=mn)(o4:mx = -1∨(mn<=mx/\mx<=250)):bp n hs (mV a mn mx) (jt n A mn mx):=by
 unfold mV
 by_cases h0:mx=0
 ·rw[if_pos h0];have e:jt n A mn mx=fY n:=jb fun i j=>⟨fun ⟨k,h1,h2,h3⟩=>by
   obtain rfl:k=0:=by omega
   exact h3,fun h=>⟨0,by omega,by omega,h⟩⟩
  rw[e];exact bp.e
 rw[if_neg h0];unfold bH;rcases o4 with rfl|⟨o4,o5⟩
 ·rw[if_pos rfl];obtain⟨m,rfl⟩:=Int.eq_ofNat_of_zero_le o2
  match m with
  | 0 =>
   have:=ha.rep 0 (-1)
   simpa[jn]using this
  | 1 =>
   have:=ha.rep 1 (-1)
   simpa[jn]using this
  | m+2 =>
   have e1:(((m+2:Nat):Int)-1).toNat=m+1:=by omega
   have e2:(1:Int)<((m+2:Nat):Int):=by omega
   rw[e1,if_pos e2,pT (by simp[List.replicate_succ])];have h:=(ha.jn_pow m).cat (ha.rep 1 (-1));have e:dh (cW n A (m+1)) (jt n A 1 (-1))=jt n A ((m+2:Nat):Int) (-1):=jb fun i j=>by
    constructor
    ·rintro⟨q,h1,k,h2,-,h3⟩;refine⟨m+1+k,by omega,Or.inl rfl,?_⟩;rw[jE ha.2];exact⟨q,h1,h3⟩
    rintro⟨k,h1,-,h2⟩;obtain⟨t,rfl⟩ : ∃ t,k=m+1+t:=⟨k-(m+1),by omega⟩;rw[jE ha.2]at h2;obtain⟨q,h3,h4⟩:=h2;exact⟨q,h3,t,by omega,Or.inl rfl,h4⟩
   rw[e]at h;exact h
 rw[if_neg (by omega)];obtain⟨m,rfl⟩:=Int.eq_ofNat_of_zero_le o2;obtain⟨d,hd⟩ : ∃ d:Nat,mx=(m:Int)+d:=⟨(mx-m).toNat,by omega⟩;subst hd;rw[show((m:Int)).toNat=m by omega,show((m:Int)+d-m).toNat=d by omega];have key:jt n A (m:Int) ((m:Int)+d)=dh (cW n A m) (cW n (nQ A (fY n)) d):=jb fun i j=>by
  constructor
  ·rintro⟨k,h1,h2,h3⟩;obtain⟨t,rfl⟩ : ∃ t,k=m+t:=⟨k-m,by omega⟩;rw[jE ha.2]at h3;obtain⟨q,h4,h5⟩:=h3;exact⟨q,h4,(jj ha.2 d q j).2 ⟨t,by omega,h5⟩⟩
  rintro⟨q,h4,h5⟩;obtain⟨t,h6,h7⟩:=(jj ha.2 d q j).1 h5;refine⟨m+t,by omega,by omega,?_⟩;rw[jE ha.2];exact⟨q,h4,h7⟩
 rw[key];clear key o2 o5 o4;rcases Nat.eq_zero_or_pos m with e|e
 ·subst e;obtain⟨d',rfl⟩ : ∃ d',d=d'+1:=⟨d-1,by omega⟩;have h:=ha.opt.jn_pow d';have e:dh (cW n A 0) (cW n (nQ A (fY n)) (d'+1))=cW n (nQ A (fY n)) (d'+1):=jO h.2;rw[e,List.replicate_zero,List.nil_append];exact h
 obtain⟨m',rfl⟩ : ∃ m',m=m'+1:=⟨m-1,by omega⟩;exact bp.jn_rep ha.opt (ha.jn_pow m') (List.replicate (m'+1) a) (by simp[List.replicate_succ]) (ha.jn_pow m') d
end
def dT(n:Nat)(R:Rl)(F G:Nat->Bool):Prop:=∀ j,j<=n->(G j=true↔∃ i,F i=true/\R i j)
def mY(bs:List Int):List Int->Nat->Prop:=fun xs i=>dP xs (bs[i]?.getD 0)
def pp(bs:List Int):Prop:=bs.length<=20000/\∀ x∈bs,0<=x/\x<=255
def yf(n:Nat)(R:Rl)(F:Nat->Bool)(w w':World)(e:Ending):Prop:=∃ c G,e=.returned (vB c n)/\w.heap.size<=c/\BR w' n c G/\dT n R F G/\Below w.heap.size w w'
def vE(bs:List Int)(L:List El)(R:Rl):Prop:=∀ (v lv:Value) (b:Nat) (F:Nat->Bool) (w:World),az 0 w.heap.size w v L->L.length<=3000->aP mB 0 0 w.heap.size w lv bs->pp bs->BR w bs.length b F->
 Calls prog 36 #[v,lv,vB b bs.length] w fun e w'=>yf bs.length R F w w' e
theorem Gj(bs:List Int):vE bs [⟨0,[],0,0⟩] (fY bs.length):=by
 intro v lv bq F w hv t g q d;obtain⟨a,cp,rfl,-,-⟩:=id hv;obtain⟨la,lc,rfl,-,-⟩:=id g;obtain⟨r,x,b,off,rfl,y,k⟩:=az.last (p:=[]) hv;simp only[List.length_singleton,List.length_nil,Nat.zero_mul,Nat.add_zero]at k hv ⊢;obtain⟨i1,i2,i3,sv,c0,c1,c2,c3,c⟩:=k;obtain⟨sa,sc,rfl,-,-,-⟩:=id c;obtain⟨hn,-⟩:=q;obtain⟨n,l⟩ : ∃ n,n=bs.length:=⟨_,rfl⟩;rw[<-l]at hn d ⊢;have s:=run_make_row' (P:=prog) 31 4 (.bool false) 1 underlying31 Tryz.zinBoolM rfl .i64 .i64 (n+1) (by omega) (by omega);simp only[Int.natCast_add,Int.natCast_one]at s;have f:=aH w (.cells #[.int .i64 0,.slice sa 0 sc,.int .i64 0,.int .i64 0] 70) (.cells (madeCells #[.bool false] (n+1)) 4);have h0:=fT (w.alloc (.cells #[.int .i64 0,.slice sa 0 sc,.int .i64 0,.int .i64 0] 70)) n;rw[ah]at h0;obtain⟨w3,z,m,o⟩:=ja _ n (w.heap.size+1) bq _ F h0 (d.below f lR);have HB:Hi (Below w.heap.size w w3):=f.trans (lQ o (by omega));have HR:=ae m;clear hv c i1 i2 i3 g d f h0 o m l
 go_enter func36,ntmps36
 go_wp2;go_ret;exact⟨_,F,rfl,by omega,HR.u,fun j hj=>⟨fun h=>⟨j,h,rfl,hj⟩,fun ⟨i,h,e,_⟩=>e ▸ h⟩,HB.u⟩
def tk(X:List El)(m j:Nat):List (List El):=List.replicate (min j m) X++List.replicate (j-m) (ph X)
theorem Fp{X:List El}{m j:Nat}(h:j<m):tk X m (j+1)=tk X m j++[X]:=by
 unfold tk;rw[show min (j+1) m=j+1 by omega,show j+1-m=0 by omega,show min j m=j by omega,show j-m=0 by omega,List.replicate_succ'];simp
theorem Ew{X:List El}{m j:Nat}(h:m<=j):tk X m (j+1)=tk X m j++[ph X]:=by
 unfold tk;rw[show min (j+1) m=m by omega,show j+1-m=(j-m)+1 by omega,show min j m=m by omega,List.replicate_succ',List.append_assoc]
theorem DF{X:List El}{m M:Nat}(h:m<=M):tk X m M=bH X m M:=by
 unfold tk bH;rw[if_neg (by omega),show min M m=m by omega,show((m:Int)).toNat=m by omega,show((M:Int)-(m:Int)).toNat=M-m by omega]
theorem DZ{X:List El}{m j:Nat}{p:List El}(h:p∈tk X m j):p=X∨p=ph X:=by
 unfold tk at h;rcases List.mem_append.1 h with h|h
 ·exact Or.inl (List.mem_replicate.1 h).2
 exact Or.inr (List.mem_replicate.1 h).2
theorem DR(X:List El)(m j:Nat):(tk X m j).length=j:=by unfold tk;simp;omega
theorem oy{X:List El}(h:aY X):aY (ph X):=(h.app (aY.op 0 0 0 (by simp[aA]) (by simp[aA]) (by simp[aA]))).app (aY.op 3 0 0 (by simp[aA]) (by simp[aA]) (by simp[aA]))
theorem wT(m M:Nat)(x X:List El)(cx:Int)(sx:aM x cx)(Hx:wS x X)(o2:m<=M)(o3:M<=250)(o4:0<M)(nx:aY X)(lx:X.length<=3000):wS (x++[⟨4,[],m,M⟩]) (jn (bH X m M)):=by
 intro v w hv a8;obtain⟨a,cp,rfl,-,-⟩:=id hv;obtain⟨f,z,b,off,rfl,bn,a9⟩:=hv.last;rw[f]at hv z ⊢;simp only[List.length_append,List.length_singleton]at hv a8 f a9 z ⊢;unfold maxLen at z;obtain⟨i1,i2,i3,sv,c0,c1,c2,c3,A⟩:=a9;obtain⟨sa,sc,rfl,-,-,-⟩:=id A;simp only at c0 c2 c3;clear f i1 i2 i3 A;have pl:=sx.ne;have aa:az 0 w.heap.size w (.slice (some ⟨b,off,none⟩) x.length cp) x:=hv.pre;have b1:=ae aa;have NX:=ae nx;have bo:((M:Int)==0)=false:=by simp;omega
 have bq:((M:Int) == -1)=false:=by rw[beq_eq_false_iff_ne];omega
 clear aa hv nx
 go_enter func109,ntmps109
 go_wp2_with fail;refine(Hx _ _ (by exact b1.u.below (ai w _) lR) (by omega)).mono ?_;rintro e w1 ⟨v1,rfl,S,H⟩;obtain⟨o1,d1,rfl⟩:=S.form;have b2:Below w.heap.size w w1:=(ai w _).trans (H.mono (by rw[ah];omega));have b3:=H.size;rw[ah]at b3;have RA:=ae ((aD.new w 70 (.int .i64 4) (.slice sa 0 sc) (.int .i64 (m:Int)) (.int .i64 (M:Int))).below H (by rw[ah];omega));have T:=S.foot;rw[ah]at T;have HX:=ae T;obtain⟨q0,q1,q2,q3,-⟩:=aD.facts RA.u;clear H S T;go_wp2
 go_loopw [9,12] (fun pv i wr=>∃ (j:Nat) (ps:List Pt),i=.int .i64 (j:Int)/\j<=M/\ps.map Pt.P=tk X m j/\iY w1.heap.size wr pv ps/\Below w1.heap.size w1 wr) (fun _ i _=>M-(intOf i).toNat)
 case atStart=>exact⟨0,[],rfl,Nat.zero_le _,by simp[tk],iY.nil _ _,Below.refl _ _⟩
 obtain⟨j,ps,rfl,hj,U,V,l⟩:=hrel;clear q0 q1 q2 q3;obtain⟨q0,q1,q2,q3,-⟩:=aD.facts (RA.u.below l (by omega));have W:=l.size;have s:=ae V;have I:=ae U;have b4:ps.length=j:=by rw[<-DR X m j,<-U,List.length_map]
 have Y:=ae (HX.u.same (w':=wr) (fun k hk=>l.block k hk.2));have Z:Hi (∀ k,kJ (w.heap.size+1) w1.heap.size k->k<wr.heap.size):=fun k hk=>Nat.lt_of_lt_of_le hk.2 W
 have Q:Hi (∀ k,kJ (w.heap.size+1) w1.heap.size k->∀ (u:Value) (n:Nat) (vs:List Value),wr.ownsRow w1.heap.size 23 1 u n vs->u.ownBlock≠some k):=fun k hk u n vs h e=>by
  have:=(h.lt k e).1;unfold kJ at hk;omega
 have ab:=ae (Y.u.at (fun k hk=>Z.u k hk) NX.u.num);obtain⟨pa,pc,rfl⟩:=aj V.own;clear V U;subst b4
 by_cases hlt:ps.length<M
 ·have ad:(ps.length:Int)<(M:Int):=by omega
  by_cases hm:ps.length<m
  ·have b5:(ps.length:Int)<(m:Int):=by omega
   go_wp2_with (at_builtin;refine gV ⟨X,.slice o1 X.length d1,kJ (w.heap.size+1) w1.heap.size⟩ rfl _ _ rfl rfl rfl s.u W (Below.refl _ _) Y.u (fun k hk=>⟨Z.u k hk,Q.u k hk _ _ _ s.u.own⟩) ⟨rfl,rfl,rfl,rfl⟩ (by omega) ?_)
   intro v2 w2 t o;have b6:=ae t;clear t;go_wp2
   go_roundw
   case rel=>exact⟨ps.length+1,_,by go_num,by omega,by rw[List.map_append,I.u,Fp hm];rfl,b6.u,l.trans o⟩
   simp[intOf];omega
  have b5:¬ (ps.length:Int)<(m:Int):=by omega
  go_wp2_with fail;refine(kE _).mono ?_;rintro e w2 ⟨v2,rfl,t,o⟩;obtain⟨p2,d2,rfl⟩:=t.form;have af:=ae (t.els (aY.op 0 0 0 (by simp[aA]) (by simp[aA]) (by simp[aA])));have R:=ae (ab.u.below o lR);clear t
  go_wp2_with fail;refine(uB _ _ X [⟨0,[],0,0⟩] _ R.u af.u (by omega) (by simp) NX.u.len (aY.op 0 0 0 (by simp[aA]) (by simp[aA]) (by simp[aA])).len).mono ?_;rintro e w4 ⟨v4,rfl,d,K⟩;obtain⟨p4,d4,rfl⟩ : ∃ a c,v4=.slice a (X.length+1+1) c:=by have:=d.form;rwa [List.length_append,List.length_append]at this
  have b7:=ae (d.base o.size).foot;have ag:Below wr.heap.size wr w4:=o.trans (K.mono o.size);clear d K o R af
  go_wp2_with (at_builtin;refine gV ⟨ph X,.slice p4 (X.length+1+1) d4,kJ wr.heap.size w4.heap.size⟩ rfl _ _ rfl rfl rfl s.u W ag b7.u (fun k hk=>⟨hk.2,fun e=>by have:=(s.u.own.lt k e).2;unfold kJ at hk;omega⟩) ⟨rfl,rfl,rfl,rfl⟩ (by omega) ?_)
  intro v5 w5 y a0;have L:=ae y;clear y;go_wp2
  go_roundw
  case rel=>exact⟨ps.length+1,_,by go_num,by omega,by rw[List.map_append,I.u,Ew (by omega)];rfl,L.u,l.trans a0⟩
  simp[intOf];omega
 have ad:¬ (ps.length:Int)<(M:Int):=by omega
 have b8:Hi (jn (ps.map Pt.P)=jn (bH X m M)):=by
  show jn (ps.map Pt.P)=jn (bH X m M);rw[I.u,show ps.length=M by omega,DF o2]
 have br:ps.length<=251:=by omega
 have al:Hi (∀ p∈ps,aY p.P/\p.P.length<=3002):=fun p hp=>by
  have h1:p.P∈tk X m ps.length:=by rw[<-I.u];exact List.mem_map_of_mem hp
  rcases DZ h1 with e|e
  ·rw[e];exact⟨NX.u,by omega⟩
  rw[e];exact⟨oy NX.u,by unfold ph;rw[List.length_append,List.length_append];simp;omega⟩
 obtain⟨w3,B⟩ : ∃ w3,w3=wr:=⟨_,rfl⟩;have a1:Hi (iY w1.heap.size w3 (.slice pa ps.length pc) ps):=by rw[B];exact s.u
 have an:Below w1.heap.size w1 w3:=by rw[B];exact l
 have hB:Below w.heap.size w w3:=b2.trans (an.mono (by omega));have bs:=an.size;rw[<-B];rw[<-B]at q0 q1 q2 q3;clear B l s Y Z Q ab;go_wp2
 go_loopw [13,14] (fun ov i wl=>∃ k:Nat,k<=ps.length/\i=.int .i64 k/\aQ w3.heap.size wl ov (jn ((ps.take k).map Pt.P))/\Below w3.heap.size w3 wl) (fun _ i _=>ps.length-(intOf i).toNat)
 case atStart=>exact⟨0,Nat.zero_le _,rfl,aQ.nil _ _,Below.refl _ _⟩
 obtain⟨k,hk,rfl,C,D⟩:=hrel;have ao:=D.size
 by_cases hlt2:k<ps.length
 ·have r:=List.getElem_mem hlt2;have hE:=a1.u.els _ r;have a2:=a1.u.blk _ r;have O:=al.u _ r;have a3:=ae ((hE.same (w':=wr) (fun k hk=>D.block k (a2 k hk).1)).at (N:=wr.heap.size) (fun k hk=>Nat.lt_of_lt_of_le (a2 k hk).1 ao) O.1.num);obtain⟨g,cap,ev,E⟩:=ie (aG a1.u.own D lR) (by omega);simp only[Value.slice.injEq,true_and]at ev;obtain⟨rfl,rfl⟩:=ev;have hx:=E k hlt2;rw[List.getElem?_map,List.getElem?_eq_getElem hlt2,Option.map_some]at hx;have F:=ae (qg hlt2);obtain⟨sa2,sc2,a4,-⟩:=hE;have bt:=ae a4;rw[a4]at hx a3;have ap:=ae O.1;have bi:=O.2;clear E a2 r O a4;generalize (ps[k]).P=P at *;have bj:(k:Int)<(ps.length:Int):=by omega
  obtain⟨qa,qc,rfl⟩:=C.form;obtain⟨os,a5,aq⟩:=C;have bv:os.length=(jn ((ps.take k).map Pt.P)).length:=by rw[<-a5,List.length_map]
  have ar:=tN ((ps.take k).map Pt.P) (fun p hp=>by obtain⟨q,hq,rfl⟩:=List.mem_map.1 hp;exact(al.u q (List.mem_of_mem_take hq)).2);rw[List.length_map,List.length_take]at ar;have bl:os.length<=800000:=by omega
  have av:=ae a5;have b9:=ae aq;clear a5 aq ar;have bb:Hi (k=0->jn ((ps.take k).map Pt.P)=[]):=fun e=>by subst e;rfl
  generalize jn ((ps.take k).map Pt.P)=J at *
  go_wp2_with fail;refine(eI _ P _ a3.u (by omega) ap.u.len).mono ?_;rintro e w4 ⟨v4,rfl,d,K⟩;obtain⟨qb,qd,rfl⟩:=d.form;obtain⟨us,a6,d⟩:=d;have bx:us.length=P.length:=by rw[<-a6,List.length_map]
  have aw:=ae a6;have ax:=ae d;clear a6 d hx a3
  go_wp2_with (at_builtin;refine lC rfl _ _ rfl rfl rfl b9.u ao K ax.u (fun p hp=>Pc.one (ax.u.set p hp)) (by omega) (by omega) ?_)
  intro v5 w5 y a0;obtain⟨qe,qf,rfl⟩:=aj y.own;have a7:Below w3.heap.size w3 w5:=D.trans a0;have bc:=a7.size;have L:=ae y;clear y
  by_cases hk0:k=0
  ·subst hk0;have G:Hi (aQ w3.heap.size w5 (.slice qe (os++us).length qf) (jn ((ps.take (0+1)).map Pt.P))):=⟨_,by rw[F.u,if_pos rfl,List.map_append,av.u,aw.u,bb.u rfl];rfl,L.u⟩;go_wp2;exact⟨⟨1,by omega,rfl,G.u,a7⟩,by simp[intOf];omega⟩
  have bz:(0:Int)<(k:Int):=by omega
  go_wp2_with (at_builtin;refine iZ ⟨2,[],0,0⟩ (.slice none 0 0) (fun _=>False) rfl _ _ rfl rfl rfl L.u bc (Below.refl _ _) (ij.none _) (fun k hk=>hk.elim) rfl ⟨rfl,rfl,rfl,rfl⟩ (by rw[List.length_append];omega) ?_)
  intro v6 w6 b0 bd;have G:Hi (aQ w3.heap.size w6 v6 (jn ((ps.take (k+1)).map Pt.P))):=⟨_,by rw[F.u,if_neg hk0];simp[av.u,aw.u,lu],b0⟩;clear b0;go_wp2;exact⟨⟨k+1,by omega,by go_num,G.u,a7.trans bd⟩,by simp[intOf];omega⟩
 obtain rfl:k=ps.length:=by omega
 rw[List.take_length,b8.u]at C;have bf:=ae (C.base hB.size);clear C;go_wp2;go_ret;exact⟨_,rfl,bf.u,hB.trans (D.mono hB.size)⟩
def gn(n:Nat)(S:Nat->Nat->Prop)(K:Nat->Nat->Prop)(E:Nat->Prop):Nat->Nat->Nat->Prop
 | 0,p,i=>i<n/\S p i/\E p
 | k+1,p,i=>i<n/\S p i/\∃ q,K p q/\gn n S K E k q (i+1)
def xf(n:Nat)(S:Nat->Nat->Prop)(R:Rl)(a:It)(ln:List Lk):Prop:=
 ∀ i j,R i j↔(i=j/\j<=n/\a.nl=true)∨∃ k p,j=i+k+1/\p∈a.fi/\gn n S (fun x y=>ce ln x y=true) (fun x=>x∈a.la) k p i
section
variable {n:Nat}
theorem gn.lt{S K:Nat->Nat->Prop}{E:Nat->Prop}:∀ {k p i},gn n S K E k p i->i+k<n
 | 0,_,_,h=>h.1
 | _+1,_,_,⟨_,_,_,_,h⟩=>by have:=gn.lt h;omega
theorem gn.imp{S S' K K':Nat->Nat->Prop}{E E':Nat->Prop}{N:Nat}(hS:∀ p i,p<N->S p i->S' p i)(hK:∀ p q,p<N->K p q->K' p q/\q<N)(hE:∀ p,p<N->E p->E' p):∀ {k p i},p<N->gn n S K E k p i->gn n S' K' E' k p i
 | 0,_,_,hp,h=>⟨h.1,hS _ _ hp h.2.1,hE _ hp h.2.2⟩
 | _+1,_,_,hp,⟨h1,h2,q,h3,h4⟩=>⟨h1,hS _ _ hp h2,q,(hK _ _ hp h3).1,gn.imp hS hK hE (hK _ _ hp h3).2 h4⟩
theorem tE(c:Nat)(ln:List Lk)(i j:Nat):ce (cT c ln) i j=true↔∃ i' j',i=c+i'/\j=c+j'/\ce ln i' j'=true:=by
 unfold ce cT;simp only[List.any_eq_true,List.mem_map,Bool.and_eq_true,List.contains_iff_mem]
 constructor
 ·rintro⟨p,⟨q,hq,rfl⟩,h1,h2⟩;obtain⟨i',h3,rfl⟩:=List.mem_map.1 h1;obtain⟨j',h4,rfl⟩:=List.mem_map.1 h2;exact⟨i',j',rfl,rfl,q,hq,h3,h4⟩
 rintro⟨i',j',rfl,rfl,q,hq,h3,h4⟩;exact⟨_,⟨q,hq,rfl⟩,List.mem_map.2 ⟨_,h3,rfl⟩,List.mem_map.2 ⟨_,h4,rfl⟩⟩
theorem gP{ln:List Lk}{N:Nat}(h:uH ln N){i j:Nat}(hm:ce ln i j=true):i<N/\j<N:=by
 unfold ce at hm;simp only[List.any_eq_true,Bool.and_eq_true,List.contains_iff_mem]at hm;obtain⟨p,hp,h1,h2⟩:=hm;exact⟨(h p hp).1 _ h1,(h p hp).2 _ h2⟩
theorem kp(c:Nat)(xs:List Nat)(p:Nat):p∈xs.map (c + ·)↔∃ q,p=c+q/\q∈xs:=by
 rw[List.mem_map];exact⟨fun ⟨q,h1,h2⟩=>⟨q,h2.symm,h1⟩,fun ⟨q,h1,h2⟩=>⟨q,h2,h1.symm⟩⟩
theorem gn.sh{S S' K K':Nat->Nat->Prop}{E E':Nat->Prop}(c:Nat)(hS:∀ p i,S' (c+p) i↔S p i)(hK:∀ p q,K' (c+p) q↔∃ q',q=c+q'/\K p q')(hE:∀ p,E' (c+p)↔E p):∀ {k p i},gn n S' K' E' k (c+p) i↔gn n S K E k p i
 | 0,p,i=>by
  show(_/\_/\_)↔(_/\_/\_);rw[hS,hE]
 | k+1,p,i=>by
  show(_/\_/\_)↔(_/\_/\_);rw[hS]
  constructor
  ·rintro⟨h1,h2,q,h3,h4⟩;obtain⟨q',rfl,h5⟩:=(hK _ _).1 h3;exact⟨h1,h2,q',h5,(gn.sh c hS hK hE).1 h4⟩
  rintro⟨h1,h2,q,h3,h4⟩;exact⟨h1,h2,c+q,(hK _ _).2 ⟨q,rfl,h3⟩,(gn.sh c hS hK hE).2 h4⟩
def cL(hs:List Int->Nat->Prop)(ss:List (List Int)):Nat->Nat->Prop:=fun p i=>hs (ss[p]?.getD []) i
theorem jc(hs:List Int->Nat->Prop)(sa sb:List (List Int)){N:Nat}(hN:sa.length=N){p:Nat}(hp:p<N)(i:Nat):cL hs (sa++sb) p i↔cL hs sa p i:=by
 unfold cL;rw[List.getElem?_append_left (by omega)]
theorem zR(hs:List Int->Nat->Prop)(sa sb:List (List Int)){N:Nat}(hN:sa.length=N)(p i:Nat):cL hs (sa++sb) (N+p) i↔cL hs sb p i:=by
 unfold cL;rw[List.getElem?_append_right (by omega),show N+p-sa.length=p by omega]
variable {hs:List Int->Nat->Prop}
theorem Ey:xf n (cL hs []) (fY n) ⟨true,[],[]⟩ []:=fun i j=>by
 constructor
 ·rintro⟨h1,h2⟩;exact Or.inl ⟨h1,h2,rfl⟩
 rintro(⟨h1,h2,-⟩|⟨k,p,-,h,-⟩)
 ·exact⟨h1,h2⟩
 cases h
theorem Fg(xs:List Int):xf n (cL hs [xs]) (wW n (hs xs)) ⟨false,[0],[0]⟩ []:=fun i j=>by
 constructor
 ·rintro⟨rfl,h1,h2⟩;exact Or.inr ⟨0,0,rfl,by simp,h1,h2,by simp⟩
 rintro(⟨-,-,h⟩|⟨k,p,rfl,h1,h2⟩)
 ·cases h
 simp only[List.mem_singleton]at h1;subst h1
 match k,h2 with
 | 0,h2=>exact⟨rfl,h2.1,h2.2.1⟩
 | k+1,⟨_,_,q,h,_⟩=>simp[ce]at h
section
variable {A B:Rl} {a b:It} {la lb:List Lk} {sa sb:List (List Int)} {N M:Nat}
theorem BX(hA:xf n (cL hs sa) A a la)(hB:xf n (cL hs sb) B b lb)(ha:ig a N)(hla:uH la N)(hN:sa.length=N) :
  xf n (cL hs (sa++sb)) (nQ A B) (cP a (b.sh N)) (la++cT N lb):=fun i j=>by
 have kL:∀ p q,p<N->(ce (la++cT N lb) p q=true↔ce la p q=true):=fun p q hp=>by
  rw[cI,Bool.or_eq_true,tE];exact⟨fun h=>h.elim id (fun ⟨i',_,e,_⟩=>by omega),Or.inl⟩
 have kR:∀ p q,ce (la++cT N lb) (N+p) q=true↔∃ q',q=N+q'/\ce lb p q'=true:=fun p q=>by
  rw[cI,Bool.or_eq_true,tE]
  constructor
  ·rintro(h|⟨i',j',e,rfl,h⟩)
   ·have:=(gP hla h).1;omega
   obtain rfl:p=i':=by omega
   exact⟨j',rfl,h⟩
  rintro⟨q',rfl,h⟩;exact Or.inr ⟨p,q',rfl,rfl,h⟩
 have eL:∀ p,p<N->(p∈(cP a (b.sh N)).la↔p∈a.la):=fun p hp=>by
  show p∈a.la++b.la.map (N + ·)↔_;rw[List.mem_append,kp];exact⟨fun h=>h.elim id (fun ⟨q,e,_⟩=>by omega),Or.inl⟩
 have eR:∀ p,N+p∈(cP a (b.sh N)).la↔p∈b.la:=fun p=>by
  show N+p∈a.la++b.la.map (N + ·)↔_;rw[List.mem_append,kp]
  constructor
  ·rintro(h|⟨q,e,h⟩)
   ·have:=ha.2 _ h;omega
   obtain rfl:p=q:=by omega
   exact h
  intro h;exact Or.inr ⟨p,rfl,h⟩
 have sL:∀ k p i,p<N->(gn n (cL hs (sa++sb)) (fun x y=>ce (la++cT N lb) x y=true) (fun x=>x∈(cP a (b.sh N)).la) k p i↔gn n (cL hs sa) (fun x y=>ce la x y=true) (fun x=>x∈a.la) k p i):=fun k p i hp =>
  ⟨gn.imp (N:=N) (fun p i hp h=>(jc hs sa sb hN hp i).1 h) (fun p q hp h=>⟨(kL p q hp).1 h,(gP hla ((kL p q hp).1 h)).2⟩) (fun p hp h=>(eL p hp).1 h) hp,
   gn.imp (N:=N) (fun p i hp h=>(jc hs sa sb hN hp i).2 h) (fun p q hp h=>⟨(kL p q hp).2 h,(gP hla h).2⟩) (fun p hp h=>(eL p hp).2 h) hp⟩
 have sR:∀ k p i,gn n (cL hs (sa++sb)) (fun x y=>ce (la++cT N lb) x y=true) (fun x=>x∈(cP a (b.sh N)).la) k (N+p) i↔gn n (cL hs sb) (fun x y=>ce lb x y=true) (fun x=>x∈b.la) k p i:=fun k p i =>
  gn.sh N (fun p i=>zR hs sa sb hN p i) kR eR
 show(A i j∨B i j)↔_;rw[hA i j,hB i j]
 constructor
 ·rintro((⟨h1,h2,h3⟩|⟨k,p,h1,h2,h3⟩)|(⟨h1,h2,h3⟩|⟨k,p,h1,h2,h3⟩))
  ·exact Or.inl ⟨h1,h2,by show(a.nl||b.nl)=true;rw[h3,Bool.true_or]⟩
  ·exact Or.inr ⟨k,p,h1,List.mem_append.2 (Or.inl h2),(sL _ _ _ (ha.1 _ h2)).2 h3⟩
  ·exact Or.inl ⟨h1,h2,by show(a.nl||b.nl)=true;rw[h3,Bool.or_true]⟩
  exact Or.inr ⟨k,N+p,h1,List.mem_append.2 (Or.inr ((kp _ _ _).2 ⟨p,rfl,h2⟩)),(sR _ _ _).2 h3⟩
 rintro(⟨h1,h2,h3⟩|⟨k,p,h1,h2,h3⟩)
 ·have c:(a.nl||b.nl)=true:=h3;rcases(Bool.or_eq_true _ _).mp c with h|h
  ·exact Or.inl (Or.inl ⟨h1,h2,h⟩)
  exact Or.inr (Or.inl ⟨h1,h2,h⟩)
 rcases List.mem_append.1 h2 with h|h
 ·exact Or.inl (Or.inr ⟨k,p,h1,h,(sL _ _ _ (ha.1 _ h)).1 h3⟩)
 obtain⟨q,rfl,h'⟩:=(kp _ _ _).1 h;exact Or.inr (Or.inr ⟨k,q,h1,h',(sR _ _ _).1 h3⟩)
theorem Br(hA:xf n (cL hs sa) A a la)(hB:xf n (cL hs sb) B b lb)(ha:ig a N)(c:uH la N)(hN:sa.length=N) :
  xf n (cL hs (sa++sb)) (dh A B) (bV a (b.sh N)) (la++cT N lb++[(a.la,(b.sh N).fi)]):=fun i j=>by
 obtain⟨KK,d⟩ : ∃ KK,KK=la++cT N lb++[(a.la,(b.sh N).fi)]:=⟨_,rfl⟩;rw[<-d];have kA:∀ p q,ce KK p q=true↔ce la p q=true∨(∃ p' q',p=N+p'/\q=N+q'/\ce lb p' q'=true)∨(p∈a.la/\∃ q',q=N+q'/\q'∈b.fi):=fun p q=>by
  rw[d,cI,cI,di,Bool.or_eq_true,Bool.or_eq_true,Bool.and_eq_true,tE,List.contains_iff_mem,List.contains_iff_mem,or_assoc];show _∨_∨(_/\q∈b.fi.map (N + ·))↔_;rw[kp]
 have kR:∀ p q,ce KK (N+p) q=true↔∃ q',q=N+q'/\ce lb p q'=true:=fun p q=>by
  rw[kA]
  constructor
  ·rintro(h|⟨i',j',e,rfl,h⟩|⟨h,-⟩)
   ·have:=(gP c h).1;omega
   ·obtain rfl:p=i':=by omega
    exact⟨j',rfl,h⟩
   have:=ha.2 _ h;omega
  rintro⟨q',rfl,h⟩;exact Or.inr (Or.inl ⟨p,q',rfl,rfl,h⟩)
 have eA:∀ p,p∈(bV a (b.sh N)).la↔(b.nl=true/\p∈a.la)∨∃ q,p=N+q/\q∈b.la:=fun p=>by
  show p∈(if b.nl then a.la else [])++b.la.map (N + ·)↔_;rw[List.mem_append,kp];cases b.nl<;>simp
 have eR:∀ p,N+p∈(bV a (b.sh N)).la↔p∈b.la:=fun p=>by
  rw[eA]
  constructor
  ·rintro(⟨-,h⟩|⟨q,e,h⟩)
   ·have:=ha.2 _ h;omega
   obtain rfl:p=q:=by omega
   exact h
  intro h;exact Or.inr ⟨p,rfl,h⟩
 have sR:∀ k p i,gn n (cL hs (sa++sb)) (fun x y=>ce KK x y=true) (fun x=>x∈(bV a (b.sh N)).la) k (N+p) i↔gn n (cL hs sb) (fun x y=>ce lb x y=true) (fun x=>x∈b.la) k p i:=fun k p i =>
  gn.sh N (fun p i=>zR hs sa sb hN p i) kR eR
 have sL:∀ k p i,p<N->(gn n (cL hs (sa++sb)) (fun x y=>ce KK x y=true) (fun x=>x∈(bV a (b.sh N)).la) k p i ↔
   (b.nl=true/\gn n (cL hs sa) (fun x y=>ce la x y=true) (fun x=>x∈a.la) k p i)∨∃ k1 k2 q,k=k1+k2+1/\gn n (cL hs sa) (fun x y=>ce la x y=true) (fun x=>x∈a.la) k1 p i/\q∈b.fi/\gn n (cL hs sb) (fun x y=>ce lb x y=true) (fun x=>x∈b.la) k2 q (i+k1+1)):=by
  intro k
  induction k with
  | zero =>
   intro p i hp;show(_/\_/\p∈(bV a (b.sh N)).la)↔_;rw[jc hs sa sb hN hp,eA]
   constructor
   ·rintro⟨h1,h2,(⟨h3,h4⟩|⟨q,e,-⟩)⟩
    ·exact Or.inl ⟨h3,h1,h2,h4⟩
    omega
   rintro(⟨h1,h2,h3,h4⟩|⟨k1,k2,q,e,-⟩)
   ·exact⟨h2,h3,Or.inl ⟨h1,h4⟩⟩
   omega
  | succ k ih =>
   intro p i hp
   constructor
   ·rintro⟨h1,h2,q,h3,h4⟩;have h2:=(jc hs sa sb hN hp i).1 h2;rcases(kA _ _).1 h3 with h|⟨i',j',e,-⟩|⟨h,q',rfl,h'⟩
    ·rcases(ih q (i+1) (gP c h).2).1 h4 with ⟨h5,h6⟩|⟨k1,k2,q',h5,h6,h7,h8⟩
     ·exact Or.inl ⟨h5,h1,h2,q,h,h6⟩
     exact Or.inr ⟨k1+1,k2,q',by omega,⟨h1,h2,q,h,h6⟩,h7,by rw[show i+(k1+1)+1=i+1+k1+1 by omega];exact h8⟩
    ·omega
    exact Or.inr ⟨0,k,q',by omega,⟨h1,h2,h⟩,h',(sR _ _ _).1 h4⟩
   rintro(⟨h1,h2,h3,q,h4,h5⟩|⟨k1,k2,q,h1,h2,h3,h4⟩)
   ·exact⟨h2,(jc hs sa sb hN hp i).2 h3,q,(kA _ _).2 (Or.inl h4),(ih q (i+1) (gP c h4).2).2 (Or.inl ⟨h1,h5⟩)⟩
   match k1,h2 with
   | 0,⟨h5,h6,h7⟩ =>
    obtain rfl:k=k2:=by omega
    exact⟨h5,(jc hs sa sb hN hp i).2 h6,N+q,(kA _ _).2 (Or.inr (Or.inr ⟨h7,q,rfl,h3⟩)),(sR _ _ _).2 h4⟩
   | k1+1,⟨h5,h6,q',h7,h8⟩ =>
    exact⟨h5,(jc hs sa sb hN hp i).2 h6,q',(kA _ _).2 (Or.inl h7),(ih q' (i+1) (gP c h7).2).2 (Or.inr ⟨k1,k2,q,by omega,h8,h3,by rw[show i+1+k1+1=i+(k1+1)+1 by omega];exact h4⟩)⟩
 have fA:∀ p,p∈(bV a (b.sh N)).fi↔p∈a.fi∨(a.nl=true/\∃ q,p=N+q/\q∈b.fi):=fun p=>by
  show p∈a.fi++(if a.nl then b.fi.map (N + ·) else [])↔_;rw[List.mem_append];cases a.nl<;>simp[eq_comm,and_comm]
 have nA:(bV a (b.sh N)).nl=true↔a.nl=true/\b.nl=true:=by show(a.nl&&b.nl)=true↔_;rw[Bool.and_eq_true]
 rw[nA]
 constructor
 ·rintro⟨m,h1,h2⟩;rcases(hA i m).1 h1 with ⟨rfl,h3,h4⟩|⟨k,p,rfl,h3,h4⟩
  ·rcases(hB i j).1 h2 with ⟨h5,h6,h7⟩|⟨k,p,h5,h6,h7⟩
   ·exact Or.inl ⟨h5,h6,h4,h7⟩
   exact Or.inr ⟨k,N+p,h5,(fA _).2 (Or.inr ⟨h4,p,rfl,h6⟩),(sR _ _ _).2 h7⟩
  rcases(hB _ j).1 h2 with ⟨h5,h6,h7⟩|⟨k2,p2,h5,h6,h7⟩
  ·exact Or.inr ⟨k,p,h5.symm,(fA _).2 (Or.inl h3),(sL _ _ _ (ha.1 _ h3)).2 (Or.inl ⟨h7,h4⟩)⟩
  exact Or.inr ⟨k+k2+1,p,by omega,(fA _).2 (Or.inl h3),(sL _ _ _ (ha.1 _ h3)).2 (Or.inr ⟨k,k2,p2,rfl,h4,h6,h7⟩)⟩
 rintro(⟨h1,h2,h3,h4⟩|⟨k,p,h1,h2,h3⟩)
 ·exact⟨i,(hA i i).2 (Or.inl ⟨rfl,by omega,h3⟩),(hB i j).2 (Or.inl ⟨h1,h2,h4⟩)⟩
 rcases(fA _).1 h2 with h|⟨h,q,rfl,h'⟩
 ·have hlt:=gn.lt h3;rcases(sL _ _ _ (ha.1 _ h)).1 h3 with ⟨h4,h5⟩|⟨k1,k2,q,h4,h5,h6,h7⟩
  ·exact⟨j,(hA i j).2 (Or.inr ⟨k,p,h1,h,h5⟩),(hB j j).2 (Or.inl ⟨rfl,by omega,h4⟩)⟩
  exact⟨i+k1+1,(hA _ _).2 (Or.inr ⟨k1,p,rfl,h,h5⟩),(hB _ _).2 (Or.inr ⟨k2,q,by omega,h6,h7⟩)⟩
 have h4:=(sR _ _ _).1 h3;have hlt:=gn.lt h4;exact⟨i,(hA i i).2 (Or.inl ⟨rfl,by omega,h⟩),(hB i j).2 (Or.inr ⟨k,q,h1,h',h4⟩)⟩
theorem Bm(hA:xf n (cL hs sa) A a la)(hb:RB n A)(mn:Int)(h0:0<=mn)(h1:mn<=1):xf n (cL hs sa) (jt n A mn (-1)) (dL a mn) (la++[(a.la,a.fi)]):=fun i j=>by
 have kA:∀ p q,ce (la++[(a.la,a.fi)]) p q=true↔ce la p q=true∨(p∈a.la/\q∈a.fi):=fun p q=>by
  rw[cI,di,Bool.or_eq_true,Bool.and_eq_true,List.contains_iff_mem,List.contains_iff_mem]
 have up:∀ {k1:Nat} {p i:Nat},gn n (cL hs sa) (fun x y=>ce la x y=true) (fun x=>x∈a.la) k1 p i->gn n (cL hs sa) (fun x y=>ce (la++[(a.la,a.fi)]) x y=true) (fun x=>x∈a.la) k1 p i:=by
  intro k1
  induction k1 with
  | zero=>intro p i h;exact h
  | succ k ih=>rintro p i ⟨h1,h2,q,h3,h4⟩;exact⟨h1,h2,q,(kA _ _).2 (Or.inl h3),ih h4⟩
 have join:∀ {k1 k2:Nat} {p i q:Nat},gn n (cL hs sa) (fun x y=>ce la x y=true) (fun x=>x∈a.la) k1 p i->q∈a.fi->gn n (cL hs sa) (fun x y=>ce (la++[(a.la,a.fi)]) x y=true) (fun x=>x∈a.la) k2 q (i+k1+1)->
   gn n (cL hs sa) (fun x y=>ce (la++[(a.la,a.fi)]) x y=true) (fun x=>x∈a.la) (k1+k2+1) p i:=by
  intro k1
  induction k1 with
  | zero=>rintro k2 p i q ⟨h1,h2,h3⟩ h4 h5;rw[Nat.zero_add];exact⟨h1,h2,q,(kA _ _).2 (Or.inr ⟨h3,h4⟩),h5⟩
  | succ k ih =>
   rintro k2 p i q ⟨h1,h2,q',h3,h4⟩ h5 h6;rw[show k+1+k2+1=k+k2+1+1 by omega];exact⟨h1,h2,q',(kA _ _).2 (Or.inl h3),ih h4 h5 (by rw[show i+1+k+1=i+(k+1)+1 by omega];exact h6)⟩
 have cut:∀ {k:Nat} {p i:Nat},gn n (cL hs sa) (fun x y=>ce (la++[(a.la,a.fi)]) x y=true) (fun x=>x∈a.la) k p i->
   gn n (cL hs sa) (fun x y=>ce la x y=true) (fun x=>x∈a.la) k p i∨∃ k1 k2 q,k=k1+k2+1/\gn n (cL hs sa) (fun x y=>ce la x y=true) (fun x=>x∈a.la) k1 p i/\q∈a.fi/\gn n (cL hs sa) (fun x y=>ce (la++[(a.la,a.fi)]) x y=true) (fun x=>x∈a.la) k2 q (i+k1+1):=by
  intro k
  induction k with
  | zero=>intro p i h;exact Or.inl h
  | succ k ih =>
   rintro p i ⟨h1,h2,q,h3,h4⟩;rcases(kA _ _).1 h3 with h|⟨h,h'⟩
   ·rcases ih h4 with h5|⟨k1,k2,q',h5,h6,h7,h8⟩
    ·exact Or.inl ⟨h1,h2,q,h,h5⟩
    exact Or.inr ⟨k1+1,k2,q',by omega,⟨h1,h2,q,h,h6⟩,h7,by rw[show i+(k1+1)+1=i+1+k1+1 by omega];exact h8⟩
   exact Or.inr ⟨0,k,q,by omega,⟨h1,h2,h⟩,h',h4⟩
 have fwd:∀ (t i j:Nat),cW n A t i j->(i=j/\j<=n/\(t=0∨a.nl=true))∨∃ k p,j=i+k+1/\p∈a.fi/\gn n (cL hs sa) (fun x y=>ce (la++[(a.la,a.fi)]) x y=true) (fun x=>x∈a.la) k p i:=by
  intro t
  induction t with
  | zero=>rintro i j ⟨h1,h2⟩;exact Or.inl ⟨h1,h2,Or.inl rfl⟩
  | succ t ih =>
   intro i j h;rw[iM hb]at h;obtain⟨m,h1,h2⟩:=h;rcases(hA i m).1 h1 with ⟨rfl,h3,h4⟩|⟨k,p,rfl,h3,h4⟩
   ·rcases ih i j h2 with ⟨h5,h6,-⟩|h5
    ·exact Or.inl ⟨h5,h6,Or.inr h4⟩
    exact Or.inr h5
   rcases ih _ j h2 with ⟨h5,h6,-⟩|⟨k2,q,h5,h6,h7⟩
   ·exact Or.inr ⟨k,p,h5.symm,h3,up h4⟩
   exact Or.inr ⟨k+k2+1,p,by omega,h3,join h4 h6 h7⟩
 have bwd:∀ (k:Nat),∀ k',k'<=k->∀ p i,p∈a.fi->gn n (cL hs sa) (fun x y=>ce (la++[(a.la,a.fi)]) x y=true) (fun x=>x∈a.la) k' p i->∃ t,cW n A (t+1) i (i+k'+1):=by
  intro k
  induction k with
  | zero =>
   intro k' hk p i hp h;obtain rfl:k'=0:=by omega
   refine⟨0,?_⟩;show dh (fY n) A _ _;rw[jO hb];exact(hA _ _).2 (Or.inr ⟨0,p,rfl,hp,h⟩)
  | succ k ih =>
   intro k' hk p i hp h;rcases cut h with h1|⟨k1,k2,q,h1,h2,h3,h4⟩
   ·refine⟨0,?_⟩;show dh (fY n) A _ _;rw[jO hb];exact(hA _ _).2 (Or.inr ⟨k',p,rfl,hp,h1⟩)
   obtain⟨t,ht⟩:=ih k2 (by omega) q _ h3 h4;refine⟨t+1,?_⟩;rw[iM hb];exact⟨i+k1+1,(hA _ _).2 (Or.inr ⟨k1,p,rfl,hp,h2⟩),by rw[show i+k'+1=i+k1+1+k2+1 by omega];exact ht⟩
 have nA:(dL a mn).nl=true↔a.nl=true∨mn=0:=by show(a.nl||decide (mn=0))=true↔_;rw[Bool.or_eq_true,decide_eq_true_eq]
 rw[nA]
 constructor
 ·rintro⟨t,h2,-,h3⟩;rcases fwd t i j h3 with ⟨h4,h5,h6⟩|h4
  ·exact Or.inl ⟨h4,h5,h6.symm.imp id (fun e=>by omega)⟩
  exact Or.inr h4
 rintro(⟨rfl,h2,h3⟩|⟨k,p,rfl,h2,h3⟩)
 ·rcases h3 with h3|h3
  ·refine⟨1,by omega,Or.inl rfl,?_⟩;show dh (fY n) A _ _;rw[jO hb];exact(hA _ _).2 (Or.inl ⟨rfl,h2,h3⟩)
  exact⟨0,by omega,Or.inl rfl,rfl,h2⟩
 obtain⟨t,ht⟩:=bwd k k lR p i h2 h3;exact⟨t+1,by omega,Or.inl rfl,ht⟩
end
end
def Ae(S K:Nat->Nat->Prop)(fi:List Nat):Nat->Nat->Prop
 | 0,p=>p∈fi
 | k+1,q=>∃ p,Ae S K fi k p/\S p k/\K p q
def AR(S K:Nat->Nat->Prop)(a:It):Nat->Prop
 | 0=>a.nl=true
 | k+1=>∃ p,Ae S K a.fi k p/\S p k/\p∈a.la
theorem ui{n:Nat}{S K:Nat->Nat->Prop}{fi:List Nat}{E:Nat->Prop}:∀ (t k:Nat),k+t+1=n->((∃ p,Ae S K fi k p/\gn n S K E t p k)↔∃ p,Ae S K fi (n-1) p/\S p (n-1)/\E p)
 | 0,k,h=>by
  obtain rfl:n-1=k:=by omega
  exact⟨fun ⟨p,h1,h2⟩=>⟨p,h1,h2.2⟩,fun ⟨p,h1,h2⟩=>⟨p,h1,by omega,h2⟩⟩
 | t+1,k,h=>by
  rw[<-ui t (k+1) (by omega)]
  constructor
  ·rintro⟨p,h1,h2,h3,q,h4,h5⟩;exact⟨q,⟨p,h1,h3,h4⟩,h5⟩
  rintro⟨q,⟨p,h1,h3,h4⟩,h5⟩;exact⟨p,h1,by omega,h3,q,h4,h5⟩
theorem Cf{n:Nat}{S:Nat->Nat->Prop}{R:Rl}{a:It}{ln:List Lk}(h:xf n S R a ln):R 0 n↔AR S (fun x y=>ce ln x y=true) a n:=by
 rw[h 0 n]
 match n with
 | 0 =>
  constructor
  ·rintro(⟨-,-,h⟩|⟨k,p,e,-⟩)
   ·exact h
   omega
  intro h;exact Or.inl ⟨rfl,Nat.le_refl _,h⟩
 | n+1 =>
  have:=ui (n:=n+1) (S:=S) (K:=fun x y=>ce ln x y=true) (fi:=a.fi) (E:=fun x=>x∈a.la) n 0 (by omega);show _↔∃ p,Ae S _ a.fi n p/\S p n/\p∈a.la;rw[show n+1-1=n from rfl]at this;rw[<-this]
  constructor
  ·rintro(⟨e,-,-⟩|⟨k,p,e,h1,h2⟩)
   ·omega
   obtain rfl:n=k:=by omega
   exact⟨p,h1,h2⟩
  rintro⟨p,h1,h2⟩;exact Or.inr ⟨n,p,by omega,h1,h2⟩
theorem aQ.set1{w w1:World}{v1:Value}{xs:List Int}(hb:Below w.heap.size w w1)(hs:lz mI 0 w.heap.size w1.heap.size w1 v1 xs):aQ w.heap.size (w1.alloc (.cells #[.int .i64 1,v1,.int .i64 0,.int .i64 0] 70)) (.slice (some ⟨w1.heap.size,0,none⟩) 1 1) [⟨1,xs,0,0⟩]:=by
 refine⟨[⟨⟨1,xs,0,0⟩,v1,kJ w.heap.size w1.heap.size⟩],rfl,World.ownsRow_lit w1 _ 1 hb.size (by unfold maxLen;omega) rfl,fun p hp=>?_,fun p hp k hk=>?_,List.pairwise_singleton _ _⟩
 ·obtain rfl:=List.mem_singleton.1 hp;exact hs.foot.same (fun k hk=>(ai w1 _).block k hk.2)
 obtain rfl:=List.mem_singleton.1 hp;have h2:=hk.2;exact⟨hk.1,by rw[ah];omega,fun e=>by have e2:w1.heap.size=k:=Option.some.inj e;omega⟩
theorem BZ(v:Value)(xs:List Int)(w:World)(hv:aP mI 0 0 w.heap.size w v xs)(hlen:xs.length<=1048576):Calls prog 61 #[v] w fun e w'=>∃ v',e=.returned v'/\aQ w.heap.size w' v' [⟨1,xs,0,0⟩]/\Below w.heap.size w w':=by
 obtain⟨a,cp,rfl,-,-⟩:=id hv;have Hv:=ae hv;clear hv
 go_enter func61,ntmps61
 go_wp2_with (at_builtin;refine su rfl _ _ rfl rfl _ rfl xs Hv.u hlen ?_;intro sv w1 b d f;obtain⟨sa,sc,rfl⟩ : ∃ a c,sv=.slice a xs.length c:=(by obtain⟨a,c,e,-⟩:=d;exact⟨a,c,e⟩);have HG:=ae (aQ.set1 b d);have HB:=ae (b.trans ((ai w1 (.cells #[.int .i64 1,.slice sa xs.length sc,.int .i64 0,.int .i64 0] 70)).mono b.size));clear d f b);go_ret;exact⟨_,rfl,HG.u,HB.u⟩
theorem jB(vx vy:Value)(xs ys:List El)(w:World)(hx:az 0 w.heap.size w vx xs)(hy:az 0 w.heap.size w vy ys)(hlx:xs.length<=1048576)(hly:ys.length<=1048576)(hsx:∀ i:Nat,(xs[i]?.getD dE).set.length<=1048576)(hsy:∀ i:Nat,(ys[i]?.getD dE).set.length<=1048576) :
  Calls prog 63 #[vx,vy] w fun e w'=>∃ v',e=.returned v'/\aQ w.heap.size w' v' (xs++ys++[⟨2,[],0,0⟩])/\Below w.heap.size w w':=by
 have H:=ae (pY 2 vx vy xs ys w hx hy hlx hly hsx hsy);obtain⟨a1,c1,rfl,-,-⟩:=id hx;obtain⟨a2,c2,rfl,-,-⟩:=id hy;clear hx hy hsx hsy
 go_enter func63,ntmps63
 go_wp2_with fail;refine H.u.mono ?_;rintro e w1 ⟨v1,rfl,b,c⟩;obtain⟨Z,hZ⟩ : ∃ Z,Z=xs++ys++[⟨2,[],0,0⟩]:=⟨_,rfl⟩;rw[<-hZ]at b;have HZ:=ae hZ;have HG:=ae b;obtain⟨o1,d1,rfl⟩:=b.form;clear b hZ;go_wp2;go_ret;exact⟨_,rfl,by rw[<-HZ.u];exact HG.u,c⟩
/-! What the model draws of a code: sets and trees,as functions of the code. -/
def dW(y:Int):Int:=if 0<y%3 then 0 else y%12
def Cx(p:Nat->Bool)(lo hi:Int)(n:Nat):Nat->Bool:=fun b=>p b||(decide (lo<=(b:Int)/\(b:Int)<=hi)&&decide (b<n))
def AP:Nat->(Nat->Bool)->List Int->(Nat->Bool)×List Int
 | 0,p,zs=>(p,zs)
 | n+1,p,zs=>AP n (Cx p (dB (zs.headD 0)) (dB (zs.headD 0)+dW (zs.tail.headD 0)) 256) zs.tail.tail
theorem ve:∀ (n:Nat) (p:Nat->Bool) (zs:List Int),bZ zs->bZ (AP n p zs).2
 | 0,_,_,h=>h
 | n+1,_,_,h=>ve n _ _ h.tail.tail
def bT(xs:List Int):List Int×List Int:=
 if xs.headD 0%24<16 then ([dB (xs.tail.headD 0),dB (xs.tail.headD 0)],xs.tail.tail)
 else if xs.headD 0%24=16 then ([97,98],xs.tail) else if xs.headD 0%24=17 then ([97,99],xs.tail)
 else if xs.headD 0%24=18 then ([48,57],xs.tail) else if xs.headD 0%24=19 then ([0,9,11,255],xs.tail)
 else if xs.headD 0%24=20 then (if xs.tail.headD 0%3=0 then [] else if xs.tail.headD 0%3=1 then [0,255] else [97,104],xs.tail.tail)
 else (vn (if xs.headD 0%24=23 then fun b=>!(AP (1+xs.tail.headD 0%4).toNat (fun _=>false) xs.tail.tail).1 b else (AP (1+xs.tail.headD 0%4).toNat (fun _=>false) xs.tail.tail).1),(AP (1+xs.tail.headD 0%4).toNat (fun _=>false) xs.tail.tail).2)
theorem qR{xs:List Int}(h:bZ xs):bZ (bT xs).2:=by
 unfold bT
 repeat' split
 all_goals first|exact h.tail.tail|exact h.tail|exact ve _ _ _ h.tail.tail
def pD(cs:List Int):Prop:=cs.length<=512/\∀ x∈cs,0<=x/\x<=255
theorem iC(p:Nat->Bool):pD (vn p):=by
 have h:=(CR p).1;refine⟨?_,fun x hx=>?_⟩
 ·have:=pC p 256;exact this
 obtain⟨i,hi,e⟩:=List.getElem_of_mem hx;have:=h.2.1 i hi;rw[List.getElem?_eq_getElem hi,Option.getD_some,e]at this;exact this
theorem gr(xs:List Int):pD (bT xs).1:=by
 have hb:=fm (y:=xs.tail.headD 0);unfold bT
 repeat' split
 all_goals first|exact iC _|(refine⟨by simp,fun x hx=>?_⟩;simp only[List.mem_cons,List.not_mem_nil,or_false]at hx<;>omega)
theorem pD.in64{cs:List Int}(h:pD cs)(i:Nat):aA (cs[i]?.getD 0):=by
 by_cases hi:i<cs.length
 ·rw[List.getElem?_eq_getElem hi];have:=h.2 _ (List.getElem_mem hi);simp only[Option.getD_some];unfold aA;omega
 rw[List.getElem?_eq_none (by omega)];exact⟨by decide,by decide⟩
theorem pD.nice{cs:List Int}(h:pD cs):aY [⟨1,cs,0,0⟩]:=by
 have hl:=h.1;refine⟨fun i=>?_,fun i=>?_⟩
 ·cases i with
  | zero=>exact⟨by simp[aA],by simp[aA],by simp[aA],fun j=>h.in64 j⟩
  | succ i=>simp[dE,aA]
 cases i with
 | zero=>show cs.length<=1048576;omega
 | succ i=>simp[dE]
def sE(cs:List Int):List El:=[⟨1,cs,0,0⟩]
def eE:List El:=[⟨0,[],0,0⟩]
def fN(a b:List El):List El:=a++b++[⟨2,[],0,0⟩]
def ku(a b:List El):List El:=a++b++[⟨3,[],0,0⟩]
def bM(a:List El)(lo hi:Int):List El:=a++[⟨4,[],lo,hi⟩]
def wE(L:List El):Int:=(gR [] L).headD 0
structure DT (n:Nat) (L:List El):Prop where
 len:L.length<=n
 nice:aY L
 seg:∃ c,aM L c/\BE L c
theorem DT.mono{n m:Nat}{L:List El}(h:DT n L)(hm:n<=m):DT m L:=⟨Nat.le_trans h.len hm,h.nice,h.seg⟩
theorem DT.size{n:Nat}{L:List El}(h:DT n L):BE L (wE L):=by
 obtain⟨c,h1,h2⟩:=h.seg;have:wE L=c:=by unfold wE;rw[h1.run []];rfl
 rw[this];exact h2
theorem DT.szb{n:Nat}{L:List El}(h:DT n L):0<=wE L/\wE L<=501:=by
 obtain⟨c,h1,h2⟩:=h.seg;have:wE L=c:=by unfold wE;rw[h1.run []];rfl
 rw[this];exact h1.bd
theorem DT.e:DT 1 eE:=⟨Nat.le_refl _,aY.op _ _ _ (by simp[aA]) (by simp[aA]) (by simp[aA]),1,aM.leaf (Or.inl rfl),fun v w hv _=>fW 0 (Or.inl rfl) _ v w hv⟩
theorem DT.s{cs:List Int}(h:pD cs):DT 1 (sE cs):=⟨Nat.le_refl _,h.nice,1,aM.leaf (Or.inr rfl),fun v w hv _=>fW 1 (Or.inr rfl) _ v w hv⟩
theorem DT.bin{n m:Nat}{a b:List El}(ha:DT n a)(hb:DT m b)(k:Int)(hk:k=2∨k=3):DT (n+m+1) (a++b++[⟨k,[],0,0⟩]):=by
 obtain⟨ca,a1,a2⟩:=ha.seg;obtain⟨cb,b1,b2⟩:=hb.seg;have c:=ha.len;have d:=hb.len;refine⟨by simp;omega,(ha.nice.app hb.nice).app (aY.op _ _ _ ?_ (by simp[aA]) (by simp[aA])),_,aM.bin a1 b1 hk,fun v w hv hl=>mE k hk _ _ _ _ a1 b1 a2 b2 v w hv hl⟩;rcases hk with rfl|rfl<;>simp[aA]
theorem DT.cat{n m:Nat}{a b:List El}(ha:DT n a)(hb:DT m b):DT (n+m+1) (fN a b):=ha.bin hb 2 (Or.inl rfl)
theorem DT.alt{n m:Nat}{a b:List El}(ha:DT n a)(hb:DT m b):DT (n+m+1) (ku a b):=ha.bin hb 3 (Or.inr rfl)
theorem DT.rep{n:Nat}{a:List El}(ha:DT n a){lo hi:Int}(o2:0<=lo)(o3:lo<=250)(o4:hi = -1∨(lo<=hi/\hi<=250)):DT (n+1) (bM a lo hi):=by
 obtain⟨ca,a1,a2⟩:=ha.seg;have b:=ha.len;refine⟨by simp[bM];omega,ha.nice.app (aY.op _ _ _ (by simp[aA]) (by unfold aA;omega) (by unfold aA;omega)),_,aM.rep a1 rfl o2 o4,fun v w hv hl=>mW lo hi _ _ a1 o2 o3 o4 a2 v w hv hl⟩
def Bb:Nat->List El->List Int->List El×List Int
 | 0,t,zs=>(t,zs)
 | n+1,t,zs=>Bb n (fN t (sE [dB (zs.headD 0),dB (zs.headD 0)])) zs.tail
def mH(xs:List Int):List El×List Int:=Bb (1+xs.headD 0%4).toNat (sE [dB (xs.tail.headD 0),dB (xs.tail.headD 0)]) xs.tail.tail
theorem ia(y:Int):pD [dB y,dB y]:=by
 have:=fm (y:=y);refine⟨by simp,fun x hx=>?_⟩;simp at hx;omega
theorem zP:∀ (n:Nat) {m:Nat} {t:List El} (zs:List Int),DT m t->DT (m+2*n) (Bb n t zs).1
 | 0,_,_,_,h=>h
 | n+1,m,t,zs,h=>(zP n _ (h.cat (DT.s (ia _)))).mono (by omega)
theorem uk:∀ (n:Nat) (t:List El) (zs:List Int),bZ zs->bZ (Bb n t zs).2
 | 0,_,_,h=>h
 | n+1,_,_,h=>uk n _ _ h.tail
theorem Ak(xs:List Int):DT 9 (mH xs).1:=(zP _ _ (DT.s (ia _))).mono (by omega)
theorem wn{xs:List Int}(h:bZ xs):bZ (mH xs).2:=uk _ _ _ h.tail.tail
def qt(xs:List Int):(Int×Int)×List Int:=
 if xs.headD 0%12<3 then ((0,-1),xs.tail) else if xs.headD 0%12<5 then ((1,-1),xs.tail) else if xs.headD 0%12<7 then ((0,1),xs.tail)
 else ((xs.tail.headD 0%4,if xs.headD 0%12=11 then -1 else xs.tail.headD 0%4+xs.tail.tail.headD 0%4),xs.tail.tail.tail)
def wY(x:List El)(xs:List Int):List El×List Int:=(if 60<wE (bM x (qt xs).1.1 (qt xs).1.2) then x else bM x (qt xs).1.1 (qt xs).1.2,(qt xs).2)
theorem zS(xs:List Int):0<=(qt xs).1.1/\(qt xs).1.1<=3/\((qt xs).1.2 = -1∨((qt xs).1.1<=(qt xs).1.2/\(qt xs).1.2<=6)):=by
 unfold qt
 repeat' split
 all_goals first
  | exact⟨by decide,by decide,.inl rfl⟩
  | exact⟨by decide,by decide,.inr ⟨by decide,by decide⟩⟩
  | exact⟨by simp only;omega,by simp only;omega,.inl rfl⟩
  | exact⟨by simp only;omega,by simp only;omega,.inr ⟨by simp only;omega,by simp only;omega⟩⟩
theorem BO{xs:List Int}(h:bZ xs):bZ (qt xs).2:=by
 unfold qt
 repeat' split
 all_goals first|exact h.tail.tail.tail|exact h.tail
theorem AG{n:Nat}{x:List El}(h:DT n x)(xs:List Int):DT (n+1) (bM x (qt xs).1.1 (qt xs).1.2):=by
 obtain⟨h1,h2,h3⟩:=zS xs;exact h.rep h1 (by omega) (h3.imp id (fun q=>⟨q.1,by omega⟩))
theorem Bz{n:Nat}{x:List El}(h:DT n x)(xs:List Int):DT (n+1) (wY x xs).1:=by
 unfold wY
 split
 ·exact h.mono (by omega)
 exact AG h xs
def bC:Nat->List Int->List El×List Int
 | 0,xs=>(sE (bT xs.tail).1,(bT xs.tail).2)
 | d+1,xs =>
  if xs.headD 0%16<4∨xs.tail.length=0 then (sE (bT xs.tail).1,(bT xs.tail).2)
  else if xs.headD 0%16<6 then mH xs.tail else if xs.headD 0%16=6 then (eE,xs.tail)
  else if xs.headD 0%16<10 then (fN (bC d xs.tail).1 (bC d (bC d xs.tail).2).1,(bC d (bC d xs.tail).2).2)
  else if xs.headD 0%16<13 then (ku (bC d xs.tail).1 (bC d (bC d xs.tail).2).1,(bC d (bC d xs.tail).2).2)
  else wY (bC d xs.tail).1 (bC d xs.tail).2
theorem df:∀ (d:Nat) (xs:List Int),bZ xs->bZ (bC d xs).2
 | 0,_,h=>qR h.tail
 | d+1,xs,h=>by
  have h1:=df d _ h.tail;have h2:=df d _ h1;unfold bC
  repeat' split
  all_goals first|exact qR h.tail|exact wn h.tail|exact h.tail|exact h2|exact BO h1
theorem cY:∀ (d:Nat) (xs:List Int),DT (10*2 ^ d-1) (bC d xs).1
 | 0,xs=>(DT.s (gr _)).mono (by omega)
 | d+1,xs=>by
  have h1:=cY d xs.tail;have h2:=cY d (bC d xs.tail).2;have h3:1<=2 ^ d:=Nat.one_le_two_pow;have h4:2 ^ (d+1)=2*2 ^ d:=by rw[Nat.pow_succ];omega
  unfold bC
  repeat' split
  ·exact(DT.s (gr _)).mono (by omega)
  ·exact(Ak _).mono (by omega)
  ·exact DT.e.mono (by omega)
  ·exact(h1.cat h2).mono (by omega)
  ·exact(h1.alt h2).mono (by omega)
  exact(Bz h1 _).mono (by omega)
def xh:Nat->List El->List Int->List El×List Int
 | 0,t,zs=>(t,zs)
 | n+1,t,zs =>
  if zs.length=0 then (t,zs) else if zs.headD 0%8<2 then (t,zs.tail)
  else if 90<wE t+wE (bC 3 zs.tail).1 then (t,(bC 3 zs.tail).2)
  else xh n (if zs.headD 0%8<6 then fN t (bC 3 zs.tail).1 else ku t (bC 3 zs.tail).1) (bC 3 zs.tail).2
theorem zi:∀ (n:Nat) {m:Nat} {t:List El} (zs:List Int),DT m t->DT (m+80*n) (xh n t zs).1
 | 0,_,_,_,h=>h
 | n+1,m,t,zs,h=>by
  have h1:=cY 3 zs.tail;unfold xh
  split
  ·exact h.mono (by omega)
  split
  ·exact h.mono (by omega)
  split
  ·exact h.mono (by omega)
  refine(zi n (m:=m+80) _ ?_).mono (by omega)
  split
  ·exact(h.cat h1).mono (by omega)
  exact(h.alt h1).mono (by omega)
theorem ux:∀ (n:Nat) (t:List El) (zs:List Int),bZ zs->bZ (xh n t zs).2
 | 0,_,_,h=>h
 | n+1,t,zs,h=>by
  have h1:=df 3 _ h.tail;unfold xh
  repeat' split
  all_goals first|exact h|exact h.tail|exact h1|exact ux n _ _ h1
def dk(xs:List Int):List El×List Int:=xh 6 (bC 4 xs.tail).1 (bC 4 xs.tail).2
theorem lS(xs:List Int):DT 700 (dk xs).1:=(zi 6 _ (cY 4 _)).mono (by omega)
theorem oJ{xs:List Int}(h:bZ xs):bZ (dk xs).2:=ux _ _ _ (df 4 _ h.tail)
/-! The rest of what is drawn: trees at a limit,spoiled trees,patterns. -/
structure NL (n:Nat) (L:List El):Prop where
 len:L.length<=n
 nice:aY L
theorem DT.nl{n:Nat}{L:List El}(h:DT n L):NL n L:=⟨h.len,h.nice⟩
theorem NL.mono{n m:Nat}{L:List El}(h:NL n L)(hm:n<=m):NL m L:=⟨Nat.le_trans h.len hm,h.nice⟩
theorem NL.cat{n m:Nat}{a b:List El}(ha:NL n a)(hb:NL m b):NL (n+m+1) (fN a b):=by
 have:=ha.len;have:=hb.len;exact⟨by simp[fN];omega,(ha.nice.app hb.nice).app (aY.op _ _ _ (by simp[aA]) (by simp[aA]) (by simp[aA]))⟩
theorem NL.alt{n m:Nat}{a b:List El}(ha:NL n a)(hb:NL m b):NL (n+m+1) (ku a b):=by
 have:=ha.len;have:=hb.len;exact⟨by simp[ku];omega,(ha.nice.app hb.nice).app (aY.op _ _ _ (by simp[aA]) (by simp[aA]) (by simp[aA]))⟩
theorem NL.rep{n:Nat}{a:List El}(ha:NL n a){lo hi:Int}(h1:aA lo)(h2:aA hi):NL (n+1) (bM a lo hi):=by
 have:=ha.len;exact⟨by simp[bM];omega,ha.nice.app (aY.op _ _ _ (by simp[aA]) h1 h2)⟩
theorem wK{x:Int}(h0:0<=x)(h1:x<=255):pD [x,x]:=⟨by simp,fun y hy=>by simp only[List.mem_cons,List.not_mem_nil,or_false]at hy;omega⟩
def dt(x:Int):List El:=sE [x,x]
theorem NL.one{x:Int}(h0:0<=x)(h1:x<=255):NL 1 (dt x):=(DT.s (wK h0 h1)).nl
def sQ:Nat->List El->List El
 | 0,t=>t
 | n+1,t=>sQ n (ku t eE)
def ji:Nat->List El->List El
 | 0,t=>t
 | n+1,t=>ji n (bM t 1 1)
theorem pq:∀ (n:Nat) {m:Nat} {t:List El},NL m t->NL (m+2*n) (sQ n t)
 | 0,_,_,h=>h
 | n+1,_,_,h=>(pq n (h.alt DT.e.nl)).mono (by omega)
theorem qr:∀ (n:Nat) {m:Nat} {t:List El},NL m t->NL (m+n) (ji n t)
 | 0,_,_,h=>h
 | n+1,_,_,h=>(qr n (h.rep (by simp[aA]) (by simp[aA]))).mono (by omega)
theorem xN:∀ (n:Nat) (t:List El),sQ (n+1) t=ku (sQ n t) eE
 | 0,_=>rfl
 | n+1,t=>xN n (ku t eE)
theorem zN:∀ (n:Nat) (t:List El),ji (n+1) t=bM (ji n t) 1 1
 | 0,_=>rfl
 | n+1,t=>zN n (bM t 1 1)
def pM(k d:Int):List El:=
 if k=0 then bM (fN (dt 97) (dt 98)) (250+d) (250+d) else if k=1 then bM (dt 97) 0 (250+d)
 else if k=2 then sQ (d+1).toNat (bM (fN (dt 97) (dt 98)) 249 (-1))
 else if k=3 then (if d=1 then ku (bM (bM (fN (dt 97) (dt 98)) 5 5) 50 50) eE else bM (bM (fN (dt 97) (dt 98)) 5 5) 50 50)
 else if k=4 then bM eE 0 (250+d)
 else bM (fN (if 0<d then bM (ji 30 (dt 97)) 0 0 else ji 30 (dt 97)) (if 0<d then bM (ji 30 (dt 97)) 0 0 else ji 30 (dt 97))) (250+d) (250+d)
theorem Cg{k d:Int}(h0 : -1<=d)(h1:d<=1):NL 200 (pM k d):=by
 have ha:=NL.one (x:=97) (by omega) (by omega);have hb:=NL.one (x:=98) (by omega) (by omega);have hd:aA (250+d):=by unfold aA;omega
 have h3:=qr 30 ha;have h4:NL 32 (if 0<d then bM (ji 30 (dt 97)) 0 0 else ji 30 (dt 97)):=by
  split
  ·exact(h3.rep (by simp[aA]) (by simp[aA])).mono (by omega)
  exact h3.mono (by omega)
 unfold pM
 split
 ·exact((ha.cat hb).rep hd hd).mono (by omega)
 split
 ·exact(ha.rep (by simp[aA]) hd).mono (by omega)
 split
 ·exact(pq _ ((ha.cat hb).rep (by simp[aA]) (by simp[aA]))).mono (by omega)
 split
 ·split
  ·exact((((ha.cat hb).rep (by simp[aA]) (by simp[aA])).rep (by simp[aA]) (by simp[aA])).alt DT.e.nl).mono (by omega)
  exact(((ha.cat hb).rep (by simp[aA]) (by simp[aA])).rep (by simp[aA]) (by simp[aA])).mono (by omega)
 split
 ·exact(DT.e.nl.rep (by simp[aA]) hd).mono (by omega)
 exact((h4.cat h4).rep hd hd).mono (by omega)
def tL(xs:List Int):List El×List Int:=(pM (xs.headD 0%6) (xs.tail.headD 0%3-1),xs.tail.tail)
def iT(t:List El)(i:Nat)(x:El):List El:=t.set i x
def Gy(k y:Int)(x:El):El:=
 if k=0 then ⟨5,x.set,x.mn,x.mx⟩ else if k=1 then ⟨-1,x.set,x.mn,x.mx⟩ else if k=2 then ⟨y%5,x.set,x.mn,x.mx⟩
 else if k=3 then ⟨x.kind,x.set,wrap64 (x.mn+1),x.mx⟩ else if k=4 then ⟨x.kind,x.set,x.mn,wrap64 (x.mx-1)⟩ else if k=5 then ⟨x.kind,x.set++[7],x.mn,x.mx⟩
 else if k=6 then ⟨x.kind,[5,4],x.mn,x.mx⟩ else if k=7 then ⟨x.kind,[5,6,7,9],x.mn,x.mx⟩ else ⟨x.kind,[0,256],x.mn,x.mx⟩
def FN(t:List El)(k y:Int)(i:Nat):List El:=
 if k<9 then iT t i (Gy k y (t[i]?.getD dE)) else if k=9 then t.take (t.length-1) else if k=10 then t++[⟨2,[],0,0⟩] else t++[⟨0,[],0,0⟩]
def gH(t:List El)(xs:List Int):List El×List Int:=(FN t (xs.headD 0%12) (xs.tail.tail.headD 0) (xs.tail.headD 0%t.length).toNat,if xs.headD 0%12=2 then xs.tail.tail.tail else xs.tail.tail)
def iy(xs:List Int):(Bool×Bool)×List El:=
 if xs.headD 0%10=0 then ((decide (xs.tail.headD 0%2=0),decide (xs.tail.headD 0%3=0)),(tL xs.tail.tail).1)
 else ((decide (xs.tail.headD 0%4=1),decide (5<xs.tail.headD 0%8)),if xs.headD 0%10<3 then (gH (dk xs.tail).1 (dk xs.tail).2).1 else (dk xs.tail).1)
theorem uP(x:Int):aA (wrap64 x):=by unfold aA wrap64;omega
/-! Drawn trees in memory. -/
theorem Mv.same{lo D n:Nat}{w w':World}(h:Mv lo D w w')(hn:n<=lo):ew (D+1) n w w':=fun x o h1 h2=>World.cell?_of_block (h.block x (by omega) (by omega))
theorem az.mv{l lo D:Nat}{w w':World}{v:Value}{xs:List El}(h:az l w.heap.size w v xs)(hm:Mv lo D w w')(hl:w.heap.size<=lo)(hD:D<l):az l w'.heap.size w' v xs:=(h.same ((hm.same hl).mono hD lR)).mono lR hm.size
theorem eD{lo lo':Nat}{w w':World}(h:Below lo w w')(D:Nat)(hl:lo'<=lo):Mv lo' D w w':=(Below.mv h D).mono hl
theorem ko.at2{lo n:Nat}{w:World}{v:Value}{xs:List El}(h:ko (kJ lo n) w v xs)(hr:Gk xs):az lo n w v xs:=by
 obtain⟨a,cap,rfl,hl,hc⟩:=h;refine⟨a,cap,rfl,hl,fun hp=>?_⟩;obtain⟨b,off,sv,T,e,h1,h2,h3,h4,h5,h6⟩:=hc hp;refine⟨b,off,e,h1.1,h1.2,fun i hi=>?_⟩;obtain⟨r1,r2,r3,r4⟩:=hr i;obtain⟨q0,q1,q2,q3⟩:=h3 i hi;refine⟨r1,r2,r3,sv i,q0,q1,q2,q3,?_⟩;obtain⟨l0,n0,⟨a',cap',e',c,d⟩,hT⟩:=h4 i hi;refine⟨a',cap',e',c,r4,fun hp'=>?_⟩;obtain⟨b',off',e2,k1,k2,-,k4⟩:=d hp';have:=(h5 i hi b' (hT b' k1 k2)).1;exact⟨b',off',e2,this.1,this.2,k4⟩
theorem aQ.els2{base:Nat}{w:World}{v:Value}{xs:List El}(h:aQ base w v xs)(hn:aY xs):az base w.heap.size w v xs:=h.foot.at2 hn.num
def zd(N D lo:Nat)(w:World)(R:List El×List Int)(e:Ending)(w':World):Prop:=(∃ v,e=.returned v/\az lo w'.heap.size w' v R.1)/\bm N D w' R.2/\Mv w.heap.size D w w'
def AL(N D lo:Nat)(w:World)(R:List Int×List Int)(e:Ending)(w':World):Prop:=(∃ v,e=.returned v/\aT lo w'.heap.size w' v R.1)/\bm N D w' R.2/\Mv w.heap.size D w w'
theorem dZ{x:Int}(h0:0<=x)(h1:x<=255):aA x:=by unfold aA;omega
theorem gW(w:World){a b:Int}(ha:aA a)(hb:aA b):aT w.heap.size (w.alloc (.cells #[.int .i64 a,.int .i64 b] 3)).heap.size (w.alloc (.cells #[.int .i64 a,.int .i64 b] 3)) (.slice (some ⟨w.heap.size,0,none⟩) 2 2) [a,b]:=by
 refine⟨_,2,rfl,by unfold maxLen;simp,fun i=>?_,fun _=>⟨w.heap.size,0,rfl,Nat.le_refl _,by rw[ah];exact Nat.lt_succ_self _,fun i hi=>?_⟩⟩
 ·match i with
  | 0=>exact ha
  | 1=>exact hb
  | i+2=>simp[aA]
 have c:i<2:=hi
 match i,c with
 | 0,_=>exact(au w _).news 0 _ rfl
 | 1,_=>exact(au w _).news 1 _ rfl
theorem lz.ints{lo n:Nat}{w:World}{v:Value}{xs:List Int}(h:lz mI 0 lo n w v xs)(hr:∀ i:Nat,aA (xs[i]?.getD 0)):aT lo n w v xs:=by
 obtain⟨a,cap,rfl,hl,hc⟩:=h;refine⟨a,cap,rfl,hl,hr,fun hp=>?_⟩;obtain⟨b,off,rfl,h1,h2,-,h3⟩:=hc hp;exact⟨b,off,rfl,h1,h2,h3⟩
theorem gD(b:Int)(w:World)(hb:aA b):Calls prog 62 #[.int .i64 b] w fun e w'=>∃ v,e=.returned v/\aT w.heap.size w'.heap.size w' v [b,b]/\Below w.heap.size w w':=by
 go_enter func62,ntmps62
 go_wp2;go_ret;exact⟨_,rfl,gW w hb hb,ai w _⟩
theorem Bg(w:World):Calls prog 110 #[] w fun e w'=>∃ v,e=.returned v/\aT w.heap.size w'.heap.size w' v [0,255]/\Below w.heap.size w w':=by
 go_enter func110,ntmps110
 go_wp2;go_ret;exact⟨_,rfl,gW w (dZ (by omega) (by omega)) (dZ (by omega) (by omega)),ai w _⟩
theorem AY(w:World):Calls prog 124 #[] w fun e w'=>∃ v,e=.returned v/\aT w.heap.size w'.heap.size w' v [0,9,11,255]/\Below w.heap.size w w':=by
 go_enter func124,ntmps124
 go_wp2;go_ret;refine⟨_,rfl,⟨_,4,rfl,by unfold maxLen;simp,fun i=>?_,fun _=>⟨w.heap.size,0,rfl,Nat.le_refl _,by rw[ah];exact Nat.lt_succ_self _,fun i hi=>?_⟩⟩,ai w _⟩
 ·match i with
  | 0=>simp[aA]
  | 1=>simp[aA]
  | 2=>simp[aA]
  | 3=>simp[aA]
  | i+4=>simp[aA]
 have a:i<4:=hi
 match i,a with
 | 0,_=>exact(au w _).news 0 _ rfl
 | 1,_=>exact(au w _).news 1 _ rfl
 | 2,_=>exact(au w _).news 2 _ rfl
 | 3,_=>exact(au w _).news 3 _ rfl
theorem EP{lo:Nat}{w:World}{sv:Value}{cs:List Int}(hs:aT lo w.heap.size w sv cs)(hlo:lo<=w.heap.size):az lo (w.alloc (.cells #[.int .i64 1,sv,.int .i64 0,.int .i64 0] 70)).heap.size (w.alloc (.cells #[.int .i64 1,sv,.int .i64 0,.int .i64 0] 70)) (.slice (some ⟨w.heap.size,0,none⟩) 1 1) (sE cs):=by
 have h2:=hs.below (ai w (.cells #[.int .i64 1,sv,.int .i64 0,.int .i64 0] 70)) lR;refine⟨_,1,rfl,⟨Nat.le_refl _,by unfold maxLen;simp⟩,fun _=>⟨w.heap.size,0,rfl,hlo,by rw[ah];exact Nat.lt_succ_self _,fun i hi=>?_⟩⟩;have a:i<1:=hi
 match i,a with
 | 0,_=>exact⟨by simp[sE,aA],by simp[sE,aA],by simp[sE,aA],sv,(au w _).news 0 _ rfl,(au w _).news 1 _ rfl,(au w _).news 2 _ rfl,(au w _).news 3 _ rfl,h2⟩
theorem dX(lo:Nat)(sv:Value)(cs:List Int)(w:World)(hs:aT lo w.heap.size w sv cs)(hlo:lo<=w.heap.size)(hcs:cs.length<=1048576):Calls prog 61 #[sv] w fun e w'=>∃ v,e=.returned v/\az lo w'.heap.size w' v (sE cs)/\Below w.heap.size w w':=by
 have HR:Hi (∀ i:Nat,aA (cs[i]?.getD 0)):=by obtain⟨_,_,_,_,hr,_⟩:=id hs;exact hr
 have HS:=ae (pA (hs.mono (Nat.zero_le _) lR));obtain⟨a,c,rfl,-,-,-⟩:=hs
 go_enter func61,ntmps61
 go_wp2_with (at_builtin;refine su rfl _ _ rfl rfl _ rfl cs HS.u hcs ?_)
 intro sv' w1 d b g;have HI:=ae (b.ints HR.u);obtain⟨sa',sc',rfl⟩ : ∃ a c,sv'=.slice a cs.length c:=by obtain⟨a,c,e,-⟩:=b;exact⟨a,c,e⟩
 have f:=d.size;clear b;have H:=ae (EP (HI.u.mono (lo':=lo) (by omega) lR) (by omega));go_wp2;go_ret;exact⟨_,rfl,H.u,d.trans ((ai w1 _).mono f)⟩
theorem kz{n m lo:Nat}{vx vy:Value}{xs ys:List El}{w:World}(hx:az lo w.heap.size w vx xs)(hy:az lo w.heap.size w vy ys)(nx:NL n xs)(ny:NL m ys)(hn:n<=2000)(hm:m<=2000)(hlo:lo<=w.heap.size) :
  Calls prog 63 #[vx,vy] w fun e w'=>∃ v',e=.returned v'/\az lo w'.heap.size w' v' (fN xs ys)/\Below w.heap.size w w':=by
 have h1:=nx.len;have h2:=ny.len;refine(jB vx vy xs ys w (hx.mono (Nat.zero_le _) lR) (hy.mono (Nat.zero_le _) lR) (by omega) (by omega) nx.nice.len ny.nice.len).mono ?_;rintro e w' ⟨v',rfl,hg,hb⟩;exact⟨v',rfl,(hg.els2 (nx.cat ny).nice).mono hlo lR,hb⟩
theorem pI{n m lo:Nat}{vx vy:Value}{xs ys:List El}{w:World}(hx:az lo w.heap.size w vx xs)(hy:az lo w.heap.size w vy ys)(nx:NL n xs)(ny:NL m ys)(hn:n<=2000)(hm:m<=2000)(hlo:lo<=w.heap.size) :
  Calls prog 65 #[vx,vy] w fun e w'=>∃ v',e=.returned v'/\az lo w'.heap.size w' v' (ku xs ys)/\Below w.heap.size w w':=by
 have h1:=nx.len;have h2:=ny.len;refine(uB vx vy xs ys w (hx.mono (Nat.zero_le _) lR) (hy.mono (Nat.zero_le _) lR) (by omega) (by omega) nx.nice.len ny.nice.len).mono ?_;rintro e w' ⟨v',rfl,hg,hb⟩;exact⟨v',rfl,(hg.els2 (nx.alt ny).nice).mono hlo lR,hb⟩
theorem fI{n lo:Nat}{vx:Value}{xs:List El}{w:World}{p q:Int}(hx:az lo w.heap.size w vx xs)(nx:NL n xs)(hn:n<=2000)(hlo:lo<=w.heap.size)(h1:aA p)(h2:aA q) :
  Calls prog 64 #[vx,.int .i64 p,.int .i64 q] w fun e w'=>∃ v',e=.returned v'/\az lo w'.heap.size w' v' (bM xs p q)/\Below w.heap.size w w':=by
 have h3:=nx.len;refine(lD p q vx xs w (hx.mono (Nat.zero_le _) lR) (by omega) nx.nice.len).mono ?_;rintro e w' ⟨v',rfl,hg,hb⟩;exact⟨v',rfl,(hg.els2 (nx.rep h1 h2).nice).mono hlo lR,hb⟩
theorem BG(lo:Nat)(w:World)(hlo:lo<=w.heap.size):Calls prog 66 #[] w fun e w'=>∃ v',e=.returned v'/\az lo w'.heap.size w' v' eE/\Below w.heap.size w w':=by
 refine(kE w).mono ?_;rintro e w' ⟨v',rfl,hg,hb⟩;exact⟨v',rfl,(hg.els2 DT.e.nice).mono hlo lR,hb⟩
theorem jP(N D:Nat)(xs:List Int)(w:World)(h:bm N D w xs) :
  Calls prog 68 #[.pointer (some ⟨D,0,none⟩)] w fun e w'=>e=.returned (.int .i64 (xs.length:Nat))/\bm N D w' xs/\gU D w w':=by
 obtain⟨hN,v,cs,i,hr,hs,hi,hl,rfl⟩:=h;have HR:=ae hr;have HS:=ae hs;obtain⟨f0,f1,z1⟩:=hr.facts;obtain⟨a,c,rfl,-,-⟩:=hs;have e1:((cs.drop i).length:Int)=(cs.length:Int)-(i:Int):=by rw[List.length_drop];omega
 rw[e1];have H2:Hi (∀ q,bm N D (w.drewN q) (cs.drop i)):=fun q=>⟨hN,.slice a cs.length c,cs,i,HR.u,HS.u,hi,hl,rfl⟩
 clear hr
 go_enter func68,ntmps68
 go_wp2_with fail
 go_quiet (fail);go_wp2;go_ret;exact⟨rfl,H2.u _,lU (gU.refl _ _) _⟩
theorem mS(N D lo:Nat)(xs:List Int)(w:World)(h:bm N D w xs)(hx:bZ xs)(hD:D<lo)(hlo:lo<=w.heap.size) :
  Calls prog 107 #[.pointer (some ⟨D,0,none⟩)] w (zd N D lo w (mH xs)):=by
 have H:=ae h;have HX:=ae hx;have hh:=hx.head;obtain⟨y,hy⟩ : ∃ y,xs.headD 0=y:=⟨_,rfl⟩;obtain⟨y2,f⟩ : ∃ y,xs.tail.headD 0=y:=⟨_,rfl⟩;obtain⟨n,hn⟩ : ∃ n:Nat,(1+y%4).toNat=n:=⟨_,rfl⟩;obtain⟨R,hR⟩ : ∃ R,Bb n (sE [dB y2,dB y2]) xs.tail.tail=R:=⟨_,rfl⟩;rw[hy]at hh;have HR:Hi (mH xs=R):=by
  show mH xs=_;unfold mH;rw[hy,f,hn,hR]
 rw[HR.u];have HY:=ae hy;have X:=ae f;have Y:=ae hR;have af:2+y%4=(n:Int)+1:=by omega
 have ag:n<=4:=by omega
 have hb:=fm (y:=y2);clear hy hx h HR f hR hn
 go_enter func107,ntmps107
 go_wp2_with fail;refine(aC N D xs w H.u HX.u).mono ?_;rintro e w1 ⟨he,x,g⟩;rw[HY.u]at he;subst he
 go_wp2_with fail;refine(cJ N D xs.tail w1 x HX.u.tail).mono ?_;rintro e w2 ⟨he,A,i⟩;rw[X.u]at he;subst he;have al:w1.heap.size=w.heap.size:=g.size;have an:w2.heap.size=w1.heap.size:=i.size;have Z:=ae A;have a0:=ae ((g.mv w.heap.size).trans (i.mv w.heap.size));clear x g A i
 go_wp2_with fail;refine(gD (dB y2) w2 (dZ hb.1 hb.2)).mono ?_;rintro e w3 ⟨v3,rfl,B,j⟩;have H3:=ae (B.mono (lo':=lo) (by omega) lR);obtain⟨a3,c3,rfl,-⟩:=B;have a1:=j.size
 go_wp2_with fail;refine(dX lo _ _ w3 H3.u (by omega) (by simp)).mono ?_;rintro e w4 ⟨v4,rfl,C,k⟩;have H4:=ae C;obtain⟨a4,c4,rfl,-⟩:=C;have ao:=k.size;have E:=ae (j.trans (k.mono a1));clear j k
 go_wp2_with fail
 go_loopw [5,6] (fun tv iv wr=>∃ (m:Nat) (t:List El) (zs:List Int),m<=n/\iv=.int .i64 ((m:Int)+1)/\bZ zs/\Bb (n-m) t zs=R/\NL (2*m+1) t/\az lo wr.heap.size wr tv t/\bm N D wr zs/\Mv w.heap.size D w wr) (fun _ iv _=>n+1-(intOf iv).toNat)
 case atStart=>exact⟨0,_,xs.tail.tail,Nat.zero_le _,by go_num,HX.u.tail.tail,Y.u,(DT.s (ia y2)).nl,H4.u,Z.u.keep E.u (by omega),a0.u.trans (eD E.u D (by omega))⟩
 obtain⟨m,t,zs,hm,rfl,l,a,o,F,p,c⟩:=hrel;obtain⟨w5,rfl⟩ : ∃ w5,w5=wr:=⟨_,rfl⟩;have G:=ae F;obtain⟨at',ct,rfl,-⟩:=F;have I:=ae p;have J:=ae c;have HZ:=ae l;have K:=ae o;have ap:=c.size
 by_cases hlt:m<n
 ·have L:(m:Int)+1<2+y%4:=by omega
  obtain⟨z1,b⟩ : ∃ z,zs.headD 0=z:=⟨_,rfl⟩;have a2:=ae b;have M:=fm (y:=z1);have a5:Hi (Bb (n-(m+1)) (fN t (sE [dB z1,dB z1])) zs.tail=R):=by
   show Bb _ _ _=_;rw[show n-m=n-(m+1)+1 by omega,Bb,b]at a;exact a
  clear p c a b l o
  go_wp2_with fail;refine(cJ N D zs w5 I.u HZ.u).mono ?_;rintro e w6 ⟨he,O,d⟩;rw[a2.u]at he;subst he;have aq:w6.heap.size=w5.heap.size:=d.size;have a6:=ae O;have aa:=ae (J.u.trans (d.mv _));have P:=ae (G.u.mv (d.mv w5.heap.size) lR hD);clear O d
  go_wp2_with fail;refine(gD (dB z1) w6 (dZ M.1 M.2)).mono ?_;rintro e w7 ⟨v7,rfl,Q,q⟩;have H7:=ae (Q.mono (lo':=lo) (by omega) lR);obtain⟨a7,c7,rfl,-⟩:=Q;have ab:=q.size
  go_wp2_with fail;refine(dX lo _ _ w7 H7.u (by omega) (by simp)).mono ?_;rintro e w8 ⟨v8,rfl,S,r⟩;have H8:=ae S;obtain⟨a8,c8,rfl,-⟩:=S;have ar:=r.size;have v:=q.trans (r.mono ab);have T:=ae (P.u.below v lR);have ad:=ae v;clear q r v
  go_wp2_with fail;refine(kz T.u H8.u K.u (DT.s (ia z1)).nl (by omega) (by omega) (by omega)).mono ?_;rintro e w9 ⟨v9,rfl,U,V⟩;have H9:=ae U;obtain⟨a9,c9,rfl,-⟩:=U;have W:=ae (ad.u.trans (V.mono (by omega)));clear V;go_wp2
  go_roundw
  case rel=>exact⟨m+1,_,zs.tail,by omega,by go_num,HZ.u.tail,a5.u,(K.u.cat (DT.s (ia z1)).nl).mono (by omega),H9.u,a6.u.keep W.u (by omega),aa.u.trans (eD W.u D (by omega))⟩
  simp[intOf];omega
 have L:¬ (m:Int)+1<2+y%4:=by omega
 rw[show n-m=0 by omega]at a;have e1:R=(t,zs):=a.symm;subst e1;clear p c a l o;go_wp2;go_ret;exact⟨⟨_,rfl,G.u⟩,I.u,J.u⟩
theorem nP(N D lo m:Nat)(xv:Value)(x:List El)(xs:List Int)(w:World)(h:bm N D w xs)(hx:bZ xs)(hD:D<lo)(hlo:lo<=w.heap.size)(hxv:az lo w.heap.size w xv x)(hnl:DT m x)(hm:m<=500) :
  Calls prog 108 #[.pointer (some ⟨D,0,none⟩),xv] w (zd N D lo w (wY x xs)):=by
 have H:=ae h;have HX:=ae hx;have hh:=hx.head;have P:=hx.tail.head;have Q:=hx.tail.tail.head;have S:=ae hxv;obtain⟨xa,xc,rfl,-⟩:=hxv;have hok:=zS xs;have c:=ae (AG hnl xs);obtain⟨R,hR⟩ : ∃ R,R=wY x xs:=⟨_,rfl⟩;rw[<-hR];unfold wY at hR;obtain⟨p,q,zs,a⟩ : ∃ p q zs,qt xs=((p,q),zs):=⟨_,_,_,rfl⟩;rw[a]at c hR hok;simp only at c hR hok;obtain⟨y,hy⟩ : ∃ y,xs.headD 0=y:=⟨_,rfl⟩;obtain⟨y2,d⟩ : ∃ y,xs.tail.headD 0=y:=⟨_,rfl⟩;obtain⟨y3,f⟩ : ∃ y,xs.tail.tail.headD 0=y:=⟨_,rfl⟩;rw[hy]at hh;rw[d]at P;rw[f]at Q;unfold qt at a;rw[hy,d,f]at a;have g:=ae a;have z:=ae hR;have HY:=ae hy;have T:=ae d;have U:=ae f;clear hy d f h hx hR a
 go_enter func108,ntmps108
 go_wp2_with fail;refine(aC N D xs w H.u HX.u).mono ?_;rintro e w1 ⟨he,A,n⟩;rw[HY.u]at he;subst he;have i:=ae A;have j:=ae (n.mv w.heap.size);have o:w1.heap.size=w.heap.size:=n.size;clear A n
 go_upto_if 14 with fail
 go_cut [6,7] (fun lv hv wx=>lv=.int .i64 p/\hv=.int .i64 q/\bm N D wx zs/\Mv w.heap.size D w wx/\wx.heap.size=w.heap.size)
 case first =>
  by_cases c3:y%12<3
  ·have e:=g.u;rw[if_pos c3]at e;cases e
   go_wp2_with fail;go_meet;exact⟨rfl,rfl,i.u,j.u,o⟩
  by_cases c5:y%12<5
  ·have e:=g.u;rw[if_neg c3,if_pos c5]at e;cases e
   go_wp2_with fail;go_meet;exact⟨rfl,rfl,i.u,j.u,o⟩
  by_cases c7:y%12<7
  ·have e:=g.u;rw[if_neg c3,if_neg c5,if_pos c7]at e;cases e
   go_wp2_with fail;go_meet;exact⟨rfl,rfl,i.u,j.u,o⟩
  have e:=g.u;rw[if_neg c3,if_neg c5,if_neg c7]at e;have HE:=ae e;clear e
  go_wp2_with fail;refine(aC N D xs.tail w1 i.u HX.u.tail).mono ?_;rintro e w2 ⟨he,B,r⟩;rw[T.u]at he;subst he;have Y:w2.heap.size=w1.heap.size:=r.size
  go_wp2_with fail;refine(aC N D xs.tail.tail w2 B HX.u.tail.tail).mono ?_;rintro e w3 ⟨he,C,s⟩;rw[U.u]at he;subst he;have Z:w3.heap.size=w2.heap.size:=s.size;have E:=ae C;have F:=ae (j.u.trans ((r.mv w.heap.size).trans (s.mv w.heap.size)));have G:w3.heap.size=w.heap.size:=by omega
  clear B r C s
  by_cases c11:y%12=11
  ·have e:=HE.u;rw[if_pos c11]at e;cases e;have c12:(y%12==11)=true:=beq_iff_eq.2 c11;clear c11
   go_wp2_with fail;go_meet;exact⟨rfl,rfl,E.u,F.u,G⟩
  have e:=HE.u;rw[if_neg c11]at e;cases e
  go_wp2_with fail;go_meet;exact⟨rfl,rfl,E.u,F.u,G⟩
 obtain⟨rfl,rfl,I,t,a0⟩:=hcut;have J:=ae I;have K:=ae t;have l:=ae (S.u.mv t lR hD);clear I t;have HT:=ae (fI l.u hnl.nl (by omega) (by omega) (p:=p) (q:=q) (by unfold aA;omega) (by unfold aA;omega))
 go_wp2_with fail;refine HT.u.mono ?_;rintro e wa ⟨va,rfl,L,v⟩;have M:=ae L;obtain⟨aa,ca,rfl,-⟩:=L;have V:=v.size;have O:=ae (c.u.size _ wa (M.u.mono (Nat.zero_le _) lR) (by have:=c.u.len;omega));clear HT
 go_wp2_with fail;refine O.u.mono ?_;rintro e wb ⟨rfl,k⟩;have a1:=k.size;have b:=ae (v.trans (k.mono V));have W:=ae (M.u.below k lR);have X:=ae (l.u.below b.u lR);clear v k O
 by_cases h60:60<wE (bM x p q)
 ·have e1:=z.u;rw[if_pos h60]at e1;subst e1;go_wp2;go_ret;exact⟨⟨_,rfl,X.u⟩,J.u.keep b.u (by omega),K.u.trans (eD b.u D (by omega))⟩
 have e1:=z.u;rw[if_neg h60]at e1;subst e1;go_wp2;go_ret;exact⟨⟨_,rfl,W.u⟩,J.u.keep b.u (by omega),K.u.trans (eD b.u D (by omega))⟩
end Go.Proofs.YtpmcjimgkabpeaaGreatDoor
