import Derived.Test.YtidfkbghlkcbeaaGreatDoorPk30
import Derived.Test.YtidfkbghlkcbeaaGreatDoorPk23
namespace Go.Proofs.YtidfkbghlkcbeaaGreatDoor
open Go.RowKit Go.Proofs.Tryz
set_option maxHeartbeats 16000000
set_option maxRecDepth 100000
theorem kN{G:Value->List El×Int->Prop}(hG:jI G)(base:Nat)(v sv:Value)(vals:List Value)(st:List (List El×Int))(x:El)(w:World)(c:w.ownsRow base 51 1 v vals.length vals)(hst:cC G st vals)(hbase:base<=w.heap.size)(hlen:vals.length<=3000)
  (hv:aR 0 w.heap.size w sv x.set)(ok:gZ x)(hcnt:CD x.kind<=vals.length) :
  Calls prog 77 #[v,.agg #[.int .i64 x.kind,sv,.int .i64 x.mn,.int .i64 x.mx]] w fun e w'=>fe G base w w' e st x:=by
 obtain⟨k,xs,mn,mx⟩:=x;have i:=hst.len;rcases ok with ⟨q1,q2,q3,q4⟩|⟨q1,q2,q3,q4⟩|⟨q1,q2,q3⟩
 ·simp only at q1 q2 q3 q4 hv;subst q1 q3 q4;rcases c.2 with ⟨rfl,hn⟩|⟨g,cap,cur,rfl,j,hg,d,f,m,h⟩
  ·obtain rfl:vals=[]:=List.eq_nil_of_length_eq_zero hn;obtain rfl:st=[]:=List.eq_nil_of_length_eq_zero (by simpa using i);exact rG hG base sv xs w c hbase hv q2
  exact Cd hG base g cap vals st sv xs w c hst hbase hlen d f hv q2
 ·simp only at q1 q2 q3 q4 hv;subst q3 q4;obtain rfl:=List.eq_nil_of_length_eq_zero q2;obtain⟨a,cp,rfl,-,-,-⟩:=hv;rcases q1 with rfl|rfl|rfl
  ·rcases c.2 with ⟨rfl,hn⟩|⟨g,cap,cur,rfl,j,hg,d,f,m,h⟩
   ·obtain rfl:vals=[]:=List.eq_nil_of_length_eq_zero hn;obtain rfl:st=[]:=List.eq_nil_of_length_eq_zero (by simpa using i);exact qV hG base w c hbase a cp
   exact Bp hG base g cap vals st w c hst hbase hlen d a cp
  ·have n:(2:Int)<=vals.length:=hcnt;obtain⟨b,l,r,rfl⟩:=Av (st:=st) (by omega);obtain⟨u,z,rfl,hu,hz⟩:=hst.split;obtain⟨y1,y2,rfl,h1,h2⟩:=hz.two;obtain⟨T,y,rfl⟩:=(hG.sz h1).iface;obtain⟨T',y',rfl⟩:=(hG.sz h2).iface;obtain⟨g,cap,rfl,d,f⟩:=mu c (by omega);simp only[List.length_append,List.length_cons,List.length_nil]at c hlen d ⊢;exact vW hG base g cap u T T' y y' b l r w c hu h1 h2 hbase hlen d a cp
  have n:(2:Int)<=vals.length:=hcnt;obtain⟨b,l,r,rfl⟩:=Av (st:=st) (by omega);obtain⟨u,z,rfl,hu,hz⟩:=hst.split;obtain⟨y1,y2,rfl,h1,h2⟩:=hz.two;obtain⟨T,y,rfl⟩:=(hG.sz h1).iface;obtain⟨T',y',rfl⟩:=(hG.sz h2).iface;obtain⟨g,cap,rfl,d,f⟩:=mu c (by omega);simp only[List.length_append,List.length_cons,List.length_nil]at c hlen d ⊢;exact wn hG base g cap u T T' y y' b l r w c hu h1 h2 hbase hlen d a cp
 simp only at q1 q2 q3 hv;subst q1;obtain rfl:=List.eq_nil_of_length_eq_zero q2;obtain⟨a,cp,rfl,-,-,-⟩:=hv;have p:(1:Int)<=vals.length:=hcnt;obtain⟨b,o,rfl⟩:=vr (st:=st) (by omega);obtain⟨u,z,rfl,hu,hz⟩:=hst.split;obtain⟨y1,rfl,h1⟩:=hz.one;obtain⟨T,y,rfl⟩:=(hG.sz h1).iface;obtain⟨g,cap,rfl,d,f⟩:=mu c (by simp);simp only[List.length_append,List.length_cons,List.length_nil]at c hlen d ⊢;exact wS hG base g cap u T y b o mn mx w c hu h1 q3.1 q3.2.1 q3.2.2 hbase hlen d a cp
def ku(G:Value->List El×Int->Prop)(e:Ending)(xs:List El):Prop:=
 (∃ u c,e=.returned (.tuple #[u,.bool true])/\bO xs/\G u (xs,c)/\c<=500/\ba xs c)∨(e=.returned (.tuple #[.nilIface,.bool false])/\¬ bO xs)
theorem ku.no{G:Value->List El×Int->Prop}{xs:List El}(h:¬ bO xs):ku G (.returned (.tuple #[.nilIface,.bool false])) xs:=Or.inr ⟨rfl,h⟩
theorem sZ{G:Value->List El×Int->Prop}(hG:jI G)(v:Value)(xs:List El)(w:World)(hv:aA 0 w.heap.size w v xs) :
  Calls prog 42 #[v] w fun e w'=>ku G e xs/\Below w.heap.size w w':=by
 obtain⟨a,cp,rfl,hl,hc⟩:=hv;unfold maxLen at hl
 by_cases n1:xs.length<1
 ·have n1':(xs.length:Int)<1:=by omega
  go_enter func42,ntmps42
  go_wp2
  go_ret2;exact⟨ku.no (fun h=>by have:=h.1;omega),Below.refl _ _⟩
 have n1':¬ (xs.length:Int)<1:=by omega
 by_cases n2:3000<xs.length
 ·have n2':3000<(xs.length:Int):=by omega
  go_enter func42,ntmps42
  go_wp2
  go_ret2;exact⟨ku.no (fun h=>by have:=h.1;omega),Below.refl _ _⟩
 have n2':¬ 3000<(xs.length:Int):=by omega
 go_enter func42,ntmps42
 go_wp2
 go_loopw [4,17] (fun sv i wr=>∃ (k:Nat) (vals:List Value) (st:List (List El×Int)),k<=xs.length/\i=.int .i64 k/\wr.ownsRow w.heap.size 51 1 sv vals.length vals/\cC G st vals/\flats st=xs.take k/\(∀ s∈st,ba s.1 s.2)/\(∀ j:Nat,j<k->gZ (xs[j]?.getD dE))/\Below w.heap.size w wr) (fun _ i _=>xs.length-(intOf i).toNat)
 case atStart=>exact⟨0,[],[],Nat.zero_le _,rfl,World.ownsRow_nil _ _ _ _,trivial,by simp[flats],by simp,fun j hj=>absurd hj (Nat.not_lt_zero _),Below.refl _ _⟩
 obtain⟨k,vals,st,hk,rfl,p,D,E,H,hok,hb⟩:=hrel;have P:=D.len;have a8:vals.length<=k:=by
  have h1:=dg (fun s hs=>(H s hs).ws);have h2:=(pJ (flats st)).2;rw[h1,E,List.length_take]at h2;omega
 obtain⟨ao,sc,rfl⟩:=wC p;have o:=ae p;have Q:=ae D;have z:=ae E;have A:=ae H;have R:=ae hok;clear p D E H hok
 by_cases hlt:k<xs.length
 ·obtain⟨b,off,rfl,-,Z,S⟩:=hc (by omega);obtain⟨i1,i2,i3,v,c0,c1,c2,c3,f⟩:=(S k hlt).same (dm.of_below hb lR) (Nat.zero_le _) Z;have a5:(k:Int)<(xs.length:Int):=by omega
  generalize hX:xs[k]?.getD dE=x at *;have HX:=ae hX;clear hX S;obtain⟨a',cap',rfl,-,-,-⟩:=id f
  go_wp2_with fail;refine(kU _ x _ (by exact(f.mono lR hb.size).below (ai wr _) lR)).mono ?_;rintro e w1 ⟨U,l⟩;obtain⟨I,J⟩:=cu l;simp only[ah]at I J;have m:Below wr.heap.size wr w1:=(ai wr _).trans (l.mono (by rw[ah];omega));have K:Below w.heap.size w w1:=hb.trans (m.mono hb.size);have a6:=m.size;have a7:=hb.size;clear l;rcases U.cases with ⟨rfl,q⟩|⟨rfl,B⟩
  ·have d:=ae q;clear q
   by_cases hcn:(vals.length:Int)<CD x.kind
   ·go_wp2_with (go_at_call 76;refine(ew _ _).mono ?_;rintro e w2 ⟨rfl,L⟩;subst L)
    go_ret2;exact⟨ku.no (wF hlt z.u A.u (by rw[HX.u];exact d.u) (by rw[HX.u,P];exact hcn)),K⟩
   go_wp2_with (go_at_call 76;refine(ew _ _).mono ?_;rintro e w2 ⟨rfl,L⟩;subst L);refine(kN hG w.heap.size _ _ vals st x _ (kS o.u m lR) Q.u (by omega) (by omega) ((f.mono lR hb.size).below m lR) d.u (by omega)).mono ?_;rintro e w3 ⟨v',vals',st',rfl,r,hp,hn,V⟩;have n:=ae (show flats st'=xs.take (k+1)/\(∀ s∈st',ba s.1 s.2)/\cC G st' vals' from⟨hp.flats.trans (by rw[z.u,cj hlt,HX.u]),hp.seg d.u A.u,hn⟩);have M:=ae r;have a0:=K.trans V;clear r hp hn V I J;go_wp2
   go_roundw
   case rel=>exact⟨k+1,vals',st',by omega,by go_num,M.u,n.u.2.2,n.u.1,n.u.2.1,fun j hj=>by
    by_cases e:j=k
    ·subst e;rw[HX.u];exact d.u
    exact R.u j (by omega),a0⟩
   simp[intOf];omega
  have W:=ae B;clear B;go_wp2
  go_ret2;exact⟨ku.no (fun h=>by have:=h.2.1 k hlt;rw[HX.u]at this;exact W.u this),K⟩
 obtain rfl:k=xs.length:=by omega
 have X:flats st=xs:=by have h:=z.u;rwa [List.take_length]at h
 have Y:=ae X;clear X z
 by_cases hone:vals.length=1
 ·obtain⟨u,rfl⟩:=List.length_eq_one_iff.1 hone;obtain⟨t,rfl⟩:=List.length_eq_one_iff.1 (P.trans hone);obtain⟨u',e1,hu⟩:=Q.u.one;simp only[List.cons.injEq,and_true]at e1;subst e1;have hT:=A.u t (by simp);have N:xs=t.1:=by rw[<-Y.u,kF]
  have a1:Hi (G u (xs,t.2)):=by rw[N];exact hu
  rw[<-N]at hT;have HT:Hi (ba xs t.2):=hT;have C:=ae (hT.run []);have a2:=ae (show vh xs from⟨hT.ws,hT.tl⟩);clear N hT;have O:=hG.sz hu;have bt:=O.2;obtain⟨T,y,F,rfl,hm,a9,hF⟩:=O.1;generalize t.2=c at *;have HF:=ae hF;clear hF hu O;obtain⟨g,cap,e2,aa,ab⟩:=mu o.u (by simp);simp only[Value.slice.injEq]at e2;obtain⟨rfl,-,rfl⟩:=e2;have a3:wr.cell? ⟨g,0,none⟩=some (.iface T y):=by rw[o.u.cellAt 0 (by simp)];rfl
  have ad:g<wr.heap.size:=(o.u.lt g rfl).2;clear hone;simp only[List.length_cons,List.length_nil,Nat.zero_add]at *
  go_wp2_with fail
  with_reducible refine(HF.u _).mono ?_
  rintro e w1 ⟨rfl,l⟩;obtain⟨I,J⟩:=cu l;have m:=hb.trans (l.mono hb.size);clear l
  by_cases h5:500<c
  ·go_wp2
   go_ret2;exact⟨ku.no (fun h=>by obtain⟨-,-,-,t2,e2,h2⟩:=h;rw[C.u]at e2;simp only[List.cons.injEq,and_true]at e2;omega),m⟩
  go_wp2
  go_ret2;exact⟨Or.inl ⟨_,c,rfl,⟨⟨by omega,by omega⟩,R.u,a2.u,c,C.u,by omega⟩,a1.u,by omega,HT.u⟩,m⟩
 have a4:((vals.length:Int) != 1)=true:=by simp;omega
 go_wp2
 go_ret2;exact⟨ku.no (fun h=>by have h1:=dg (fun s hs=>(A.u s hs).ws);rw[Y.u,h.2.2.1.1]at h1;omega),hb⟩
def jl:List (List El)->Nat
 | []=>0
 | p::r=>p.length+1+jl r
theorem Ao(a b:List (List El)):jl (a++b)=jl a+jl b:=by
 induction a with
 | nil=>simp[jl]
 | cons p r ih=>simp only[List.cons_append,jl,ih];omega
theorem tI(p:List El)(n:Nat):jl (List.replicate n p)=n*(p.length+1):=by
 induction n with
 | zero=>simp[jl]
 | succ n ih=>simp only[List.replicate_succ,jl,ih,Nat.succ_mul];omega
theorem Fk(ps:List (List El))(h:ps≠[]):(jn ps).length+1=jl ps:=by
 match ps with
 | p::r =>
  have key:∀ (r:List (List El)) (acc:List El),(r.foldl (fun acc q=>acc++q++[lJ]) acc).length=acc.length+jl r:=by
   intro r
   induction r with
   | nil=>intro acc;simp[jl]
   | cons q r ih=>intro acc;simp only[List.foldl_cons,ih,jl,List.length_append,List.length_singleton];omega
  simp only[jn,key,jl];omega
theorem vS(X:List El)(mn mx:Int)(h:mx = -1∨(0<mx/\mn<=mx/\0<=mn)):bJ X mn mx≠[]:=by
 unfold bJ;rcases h with h|⟨h1,h2,h3⟩
 ·rw[if_pos h];simp
 rw[if_neg (by omega)];intro e;have:=congrArg List.length e;simp at this;omega
theorem dL(U:Value)(mn mx:Int)(h:mx = -1∨(0<mx/\mn<=mx/\0<=mn)):cz U mn mx≠[]:=by
 unfold cz;rcases h with h|⟨h1,h2,h3⟩
 ·rw[if_pos h];simp
 rw[if_neg (by omega)];intro e;have:=congrArg List.length e;simp at this;omega
theorem iP(X:List El)(c mn mx:Int)(hX:(X.length:Int)<=2*c-1)(o2:0<=mn)(h:mx = -1∨(0<mx/\mn<=mx)):((jn (bJ X mn mx)).length:Int)<=2*bK c mn mx-1:=by
 have hne:=vS X mn mx (h.imp id (fun q=>⟨q.1,q.2,o2⟩));have h1:=Fk _ hne;rcases h with h|⟨h3,h4⟩
 ·subst h;have e:jl (bJ X mn (-1))=(mn-1).toNat*(X.length+1)+(X.length+2):=by
   unfold bJ;rw[if_pos rfl,Ao,tI];simp[jl]
  have hm:(((mn-1).toNat*(X.length+1):Nat):Int)<=((mn-1).toNat:Int)*(2*c):=by
   rw[Int.natCast_mul];exact Int.mul_le_mul_of_nonneg_left (by omega) (by omega)
  by_cases hmn:mn<1
  ·rw[show(mn-1).toNat=0 by omega]at e hm;rw[iT hmn];omega
  rw[iZ hmn];have e2:((mn-1).toNat:Int)*(2*c)=2*(mn*c)-2*c:=by
   rw[show((mn-1).toNat:Int)=mn-1 by omega,Int.sub_mul,Int.one_mul,<-Int.mul_assoc,Int.mul_comm mn 2,Int.mul_assoc]
  omega
 have e:jl (bJ X mn mx)=mn.toNat*(X.length+1)+(mx-mn).toNat*(X.length+3):=by
  unfold bJ;rw[if_neg (by omega),Ao,tI,tI];simp[qx]
 have hm:((mn.toNat*(X.length+1):Nat):Int)<=mn*(2*c):=by
  rw[Int.natCast_mul,show(mn.toNat:Int)=mn by omega];exact Int.mul_le_mul_of_nonneg_left (by omega) (by omega)
 have a:(((mx-mn).toNat*(X.length+3):Nat):Int)<=(mx-mn)*(2*(c+1)):=by
  rw[Int.natCast_mul,show((mx-mn).toNat:Int)=mx-mn by omega];exact Int.mul_le_mul_of_nonneg_left (by omega) (by omega)
 rw[jb (by omega) (by omega)];have e2:mn*(2*c)=2*(mn*c):=by rw[<-Int.mul_assoc,Int.mul_comm mn 2,Int.mul_assoc]
 have e3:(mx-mn)*(2*(c+1))=2*((mx-mn)*(c+1)):=by rw[<-Int.mul_assoc,Int.mul_comm (mx-mn) 2,Int.mul_assoc]
 omega
theorem yA(c mn mx:Int)(hc:0<=c)(o2:0<=mn)(h:mx = -1∨(mn<=mx/\mx<=250)):c<=bK c mn mx:=by
 rcases h with h|⟨h1,-⟩
 ·subst h
  by_cases hmn:mn<1
  ·rw[iT hmn];omega
  rw[iZ hmn];have:1*c<=mn*c:=Int.mul_le_mul_of_nonneg_right (by omega) hc;omega
 by_cases h0:mx=0
 ·subst h0;rw[kJ];exact Int.le_refl _
 rw[jb (by omega) h0];have p1:0<=mn*c:=Int.mul_nonneg o2 hc;have p2:0<=(mx-mn)*(c+1):=Int.mul_nonneg (by omega) (by omega)
 by_cases h2:0<mn
 ·have:1*c<=mn*c:=Int.mul_le_mul_of_nonneg_right (by omega) hc;omega
 have:1*(c+1)<=(mx-mn)*(c+1):=Int.mul_le_mul_of_nonneg_right (by omega) (by omega);omega
def qL(st:List (List El))(x:El):List (List El):=
 if x.kind=0∨x.kind=1 then [x]::st else
 match st with
 | []=>[]
 | [o]=>if x.kind=4 then [mH o x.mn x.mx] else [o]
 | r::l::b=>if x.kind=4 then mH r x.mn x.mx::l::b else (l++r++[x])::b
def nZ(st:List (List El)):List El->List (List El)
 | []=>st
 | x::r=>nZ (qL st x) r
theorem iz(st:List (List El))(a b:List El):nZ st (a++b)=nZ (nZ st a) b:=by
 induction a generalizing st with
 | nil=>rfl
 | cons x r ih=>simp[nZ,ih]
def cE(seg L:List El):Prop:=∀ st,nZ st seg=L::st
theorem cE.leaf{x:El}(h:x.kind=0∨x.kind=1):cE [x] [x]:=fun st=>by simp only[nZ,qL];rw[if_pos h]
theorem cE.bin{a b A B:List El}{x:El}(ha:cE a A)(hb:cE b B)(h:x.kind=2∨x.kind=3):cE (a++b++[x]) (A++B++[x]):=fun st=>by
 rw[iz,iz,ha,hb];simp only[nZ,qL];rw[if_neg (by omega),if_neg (by omega)]
theorem cE.rep{a A:List El}{x:El}(ha:cE a A)(h:x.kind=4):cE (a++[x]) (mH A x.mn x.mx):=fun st=>by
 rw[iz,ha];cases st with
 | nil=>simp only[nZ,qL];rw[if_neg (by omega),if_pos h]
 | cons q st=>simp only[nZ,qL];rw[if_neg (by omega),if_pos h]
theorem cE.one{a A B:List El}(h:cE a A)(k:cE a B):A=B:=by
 have:=(h []).symm.trans (k [])
 simpa using this
theorem fw{n:Int}(h:cap n<=500):cap n=n/\n<=500:=by
 unfold cap at h ⊢
 by_cases e:500<n
 ·rw[if_pos e]at h;omega
 rw[if_neg e];exact⟨rfl,by omega⟩
theorem ld{xs:List Int}(h:cZ xs):xs.length<=300:=by
 by_cases q:xs.length<=258
 ·omega
 have h1:=zY h 129 (by omega);have h2:=(h.2.1 (2*129) (by omega)).2;omega
theorem iN{xs:List Int}(h:cZ xs):aY [⟨1,xs,0,0⟩]:=by
 refine⟨fun i=>?_,fun i=>?_⟩
 ·cases i with
  | zero =>
   refine⟨by simp[az],by simp[az],by simp[az],fun j=>?_⟩
   by_cases hj:j<xs.length
   ·have:=h.2.1 j hj;show az (xs[j]?.getD 0);unfold az;omega
   show az (xs[j]?.getD 0);rw[List.getElem?_eq_none (by omega)];simp[az]
  | succ i=>simp[dE,az]
 cases i with
 | zero=>have:=ld h;show xs.length<=1048576;omega
 | succ i=>simp[dE]
theorem nz{X:List El}(h:aY X)(mn mx:Int)(o2:0<=mn)(o3:mn<=250):aY (jn (bJ X mn mx)):=by
 refine BH _ (fun p hp=>?_)
 unfold bJ at hp
 by_cases e:mx = -1
 ·rw[if_pos e]at hp;rcases List.mem_append.1 hp with hp|hp
  ·rw[(List.mem_replicate.1 hp).2];exact h
  rw[List.mem_singleton.1 hp];exact h.app (aY.op _ _ _ (by simp[az]) (by unfold az;split<;>omega) (by simp[az]))
 rw[if_neg e]at hp;rcases List.mem_append.1 hp with hp|hp
 ·rw[(List.mem_replicate.1 hp).2];exact h
 rw[(List.mem_replicate.1 hp).2];exact oR h
theorem jL{vs:List Value}(h:vs≠[])(hi:∀ u∈vs,∃ T x,u=.iface T x):∃ T x,jV vs=.iface T x:=by
 match vs with
 | p::r=>exact CC r p (hi p (by simp))
 | []=>exact absurd rfl h
theorem fS{U:Value}(h:∃ T x,U=.iface T x)(mn mx:Int):∀ u∈cz U mn mx,∃ T x,u=.iface T x:=by
 intro u hu;unfold cz at hu
 by_cases e:mx = -1
 ·rw[if_pos e]at hu;rcases List.mem_append.1 hu with hu|hu
  ·rw[(List.mem_replicate.1 hu).2];exact h
  rw[List.mem_singleton.1 hu];exact⟨_,_,rfl⟩
 rw[if_neg e]at hu;rcases List.mem_append.1 hu with hu|hu
 ·rw[(List.mem_replicate.1 hu).2];exact h
 rw[(List.mem_replicate.1 hu).2];exact⟨_,_,rfl⟩
def ur(p:Nat->Bool):Nat->Nat->Nat
 | 0=>fun _=>0
 | n+1=>if p n then (fun j=>if j=n / 64 then ur p n (n / 64) ||| 2 ^ (n%64) else ur p n j) else ur p n
theorem mr(p:Nat->Bool):∀ n:Nat,Fit (ur p n)
 | 0=>fun j=>by show 0<18446744073709551616;omega
 | n+1=>fun j=>by
  simp only[ur]
  split
  ·by_cases e:j=n / 64
   ·simp only[e,if_true];exact yk _ _ (mr p n _) (by omega)
   simp only[e,if_false];exact mr p n j
  exact mr p n j
theorem Ag(p:Nat->Bool)(b:Nat):∀ n:Nat,Bt (ur p n) b=(decide (b<n)&&p b)
 | 0=>by simp[ur,Bt]
 | n+1=>by
  have ih:=Ag p b n
  by_cases hp:p n=true
  ·have e:ur p (n+1)=(fun j=>if j=n / 64 then ur p n (n / 64) ||| 2 ^ (n%64) else ur p n j):=by simp[ur,hp]
   rw[e,pP,ih]
   by_cases e2:b=n
   ·subst e2;simp[hp]
   have:b<n+1↔b<n:=by omega
   simp[e2,this]
  have e:ur p (n+1)=ur p n:=by simp[ur,hp]
  rw[e,ih]
  by_cases e2:b=n
  ·subst e2;simp[hp]
  have:b<n+1↔b<n:=by omega
  simp[this]
theorem jN{xs:List Int}(h:cZ xs):∃ g,dx xs g:=by
 refine⟨ur (nO xs (xs.length / 2)) 256,mr _ _,fun b=>?_⟩;rw[Ag]
 by_cases hb:b<256
 ·simp[hb]
 have:nO xs (xs.length / 2) b=false:=by
  rw[Bool.eq_false_iff];intro q;obtain⟨j,h1,h2,h3⟩:=(uF _ _ _).1 q;have:=(h.2.1 (2*j+1) (by omega)).2;omega
 rw[this];simp
theorem dU.gg{G:Value->List El×Int->Prop}(hG:jI G){st st':List (List El×Int)}{x:El}(h:dU st x st')(ok:gZ x)(hs:∀ s∈st,∃ u,G u s):∀ s∈st',∃ u,G u s:=by
 intro s hm;obtain⟨k,xs,mn,mx⟩:=x;rcases h with ⟨hk,rfl⟩|⟨hk,b,l,r,rfl,rfl⟩|⟨hk,b,o,rfl,rfl⟩
 ·simp only[List.mem_append,List.mem_singleton]at hm;rcases hm with hm|rfl
  ·exact hs s hm
  rcases ok with ⟨q1,q2,q3,q4⟩|⟨q1,q2,q3,q4⟩|⟨q1,q2,q3,q4,q5⟩<;>simp only at hk q1 q2 q3 q4
  ·subst q1 q3 q4;obtain⟨g,hg⟩:=jN q2;exact⟨_,hG.s q2 hg⟩
  ·subst q3 q4;obtain rfl:=List.eq_nil_of_length_eq_zero q2;obtain rfl:k=0:=by omega
   exact⟨_,hG.e⟩
  omega
 ·simp only[List.mem_append,List.mem_singleton]at hm;rcases hm with hm|rfl
  ·exact hs s (by simp[hm])
  obtain⟨u,hu⟩:=hs l (by simp);obtain⟨v,hv⟩:=hs r (by simp);rcases ok with ⟨q1,q2,q3,q4⟩|⟨q1,q2,q3,q4⟩|⟨q1,q2,q3,q4,q5⟩<;>simp only at hk q1 q2 q3 q4
  ·omega
  ·subst q3 q4;obtain rfl:=List.eq_nil_of_length_eq_zero q2;rcases hk with rfl|rfl
   ·exact⟨_,hG.cat hu hv⟩
   exact⟨_,hG.alt hu hv⟩
  omega
 simp only[List.mem_append,List.mem_singleton]at hm;rcases hm with hm|rfl
 ·exact hs s (by simp[hm])
 obtain⟨u,hu⟩:=hs o (by simp);rcases ok with ⟨q1,q2,q3,q4⟩|⟨q1,q2,q3,q4⟩|⟨q1,q2,q3,q4,q5⟩<;>simp only at hk q1 q2 q3 q4
 ·omega
 ·omega
 subst hk;obtain rfl:=List.eq_nil_of_length_eq_zero q2;exact⟨_,hG.rep hu q3 q4 q5⟩
theorem me{G:Value->List El×Int->Prop}(hG:jI G){xs:List El}(h:bO xs):∃ u c,G u (xs,c):=by
 obtain⟨h1,ok,sh,c,d,e⟩:=h;have key:∀ k:Nat,k<=xs.length->∃ st,flats st=xs.take k/\(∀ s∈st,ba s.1 s.2)/\∀ s∈st,∃ u,G u s:=by
  intro k
  induction k with
  | zero=>intro _;exact⟨[],by simp[flats],by simp,by simp⟩
  | succ k ih =>
   intro hk;obtain⟨st,a,hok,b⟩:=ih (by omega);have hx:=ok k (by omega);have h1:aQ (xs.take (k+1))+aQ (xs.drop (k+1))=1:=by rw[<-aF,List.take_append_drop];exact sh.1
   have h2:=sh.2 (k+1) (by omega) hk;have h3:=dg (fun s hs=>(hok s hs).ws);rw[a]at h3;rw[cj (by omega),aF,h3]at h1;simp only[aQ]at h1;obtain⟨st',hp⟩:=dU.ex (st:=st) hx (by omega);exact⟨st',by rw[hp.flats,a,cj (by omega)],hp.seg hx hok,hp.gg hG hx b⟩
 obtain⟨st,a,hok,b⟩:=key xs.length lR;rw[List.take_length]at a;have h3:=dg (fun s hs=>(hok s hs).ws);rw[a,sh.1]at h3;obtain⟨t,rfl⟩:=List.length_eq_one_iff.1 (show st.length=1 by omega);obtain⟨u,hu⟩:=b t (by simp);rw[kF]at a;obtain⟨t1,t2⟩:=t;simp only at a;subst a;exact⟨u,t2,hu⟩
theorem oi(N D lo:Nat)(xs:List Int)(w:World)(h:bR N D w xs)(hx:dN xs)(hD:D<lo)(hlo:lo<=w.heap.size)  :
  Calls prog 62 #[.pointer (some ⟨D,0,none⟩),.int .i64 0] w (zT N D lo w (sE (bU xs.tail).1,(bU xs.tail).2)):=by
 have H:=ae h;have HX:=ae hx;have hh:=hx.head;have k:(0:Int)<=0:=by omega
 obtain⟨y,hy⟩ : ∃ y,xs.headD 0=y:=⟨_,rfl⟩;rw[hy]at hh;have HY:=ae hy;clear hy h hx
 go_enter func62,ntmps62
 go_wp2_with fail;refine(aE N D xs w H.u HX.u).mono ?_;rintro e w1 ⟨he,b,a⟩;rw[HY.u]at he;subst he;have l:w1.heap.size=w.heap.size:=a.size;have HC:=ae b;have HM:=ae (a.mv w.heap.size);obtain⟨w2,i⟩ : ∃ w2,w2=w1:=⟨_,rfl⟩;subst i;have m:w2.heap.size=w2.heap.size:=rfl;clear b a
 go_wp2_with fail;refine(gj N D lo xs.tail w2 HC.u HX.u.tail hD (by omega)).mono ?_;rintro e w3 ⟨⟨v3,rfl,c⟩,j,d⟩;have H3:=ae c;obtain⟨a3,c3,rfl,-⟩:=c;have n:=d.size
 go_wp2_with fail;refine(cJ lo _ _ w3 H3.u (by omega) (Nat.le_trans (gy _).1 (by omega))).mono ?_;rintro e w4 ⟨v4,rfl,f,g⟩;have H4:=ae f;obtain⟨a4,c4,rfl,-⟩:=f;go_wp2;go_ret;exact⟨⟨_,rfl,H4.u⟩,j.keep g (by omega),HM.u.trans ((d.mono (by omega)).trans (eJ g D (by omega)))⟩
theorem om(N D lo d:Nat)(xs:List Int)(w:World)(h:bR N D w xs)(hx:dN xs)(hD:D<lo)(hlo:lo<=w.heap.size)(hk:xs.headD 0%16<4) :
  Calls prog 62 #[.pointer (some ⟨D,0,none⟩),.int .i64 ((d:Int)+1)] w (zT N D lo w (sE (bU xs.tail).1,(bU xs.tail).2)):=by
 have H:=ae h;have HX:=ae hx;have hh:=hx.head;have l:(0:Int)<=((d:Int)+1):=by omega
 have m:¬ (d:Int)+1<=0:=by omega
 obtain⟨y,hy⟩ : ∃ y,xs.headD 0=y:=⟨_,rfl⟩;rw[hy]at hh hk;have HY:=ae hy;clear hy h hx
 go_enter func62,ntmps62
 go_wp2_with fail;refine(aE N D xs w H.u HX.u).mono ?_;rintro e w1 ⟨he,b,a⟩;rw[HY.u]at he;subst he;have n:w1.heap.size=w.heap.size:=a.size;have HC:=ae b;have HM:=ae (a.mv w.heap.size);obtain⟨w2,j⟩ : ∃ w2,w2=w1:=⟨_,rfl⟩;subst j;have o:w2.heap.size=w2.heap.size:=rfl;clear b a
 go_wp2_with fail;refine(gj N D lo xs.tail w2 HC.u HX.u.tail hD (by omega)).mono ?_;rintro e w3 ⟨⟨v3,rfl,c⟩,k,f⟩;have H3:=ae c;obtain⟨a3,c3,rfl,-⟩:=c;have p:=f.size
 go_wp2_with fail;refine(cJ lo _ _ w3 H3.u (by omega) (Nat.le_trans (gy _).1 (by omega))).mono ?_;rintro e w4 ⟨v4,rfl,g,i⟩;have H4:=ae g;obtain⟨a4,c4,rfl,-⟩:=g;go_wp2;go_ret;exact⟨⟨_,rfl,H4.u⟩,k.keep i (by omega),HM.u.trans ((f.mono (by omega)).trans (eJ i D (by omega)))⟩
theorem nU(N D lo d:Nat)(xs:List Int)(w:World)(h:bR N D w xs)(hx:dN xs)(hD:D<lo)(hlo:lo<=w.heap.size)(hk:¬ xs.headD 0%16<4)(hl:xs.tail.length=0) :
  Calls prog 62 #[.pointer (some ⟨D,0,none⟩),.int .i64 ((d:Int)+1)] w (zT N D lo w (sE (bU xs.tail).1,(bU xs.tail).2)):=by
 have H:=ae h;have HX:=ae hx;have hh:=hx.head;have m:(0:Int)<=((d:Int)+1):=by omega
 have n:¬ (d:Int)+1<=0:=by omega
 obtain⟨q,hq⟩ : ∃ q,xs.tail.length=q:=⟨_,rfl⟩;have HQ:=ae hq;have o:(q:Int)=0:=by omega
 have p:q=0:=by omega
 clear hq;obtain⟨y,hy⟩ : ∃ y,xs.headD 0=y:=⟨_,rfl⟩;rw[hy]at hh hk;have HY:=ae hy;clear hy h hx
 go_enter func62,ntmps62
 go_wp2_with fail;refine(aE N D xs w H.u HX.u).mono ?_;rintro e w1 ⟨he,c,a⟩;rw[HY.u]at he;subst he;have r:w1.heap.size=w.heap.size:=a.size
 go_wp2_with fail;refine(jY N D xs.tail w1 c).mono ?_;rintro e w2 ⟨he,f,b⟩;rw[HQ.u]at he;subst he;have s:w2.heap.size=w1.heap.size:=b.size;have HC:=ae f;have HM:=ae ((a.mv w.heap.size).trans (b.mv w.heap.size));clear c a f b
 go_wp2_with fail;refine(gj N D lo xs.tail w2 HC.u HX.u.tail hD (by omega)).mono ?_;rintro e w3 ⟨⟨v3,rfl,g⟩,l,i⟩;have H3:=ae g;obtain⟨a3,c3,rfl,-⟩:=g;have t:=i.size
 go_wp2_with fail;refine(cJ lo _ _ w3 H3.u (by omega) (Nat.le_trans (gy _).1 (by omega))).mono ?_;rintro e w4 ⟨v4,rfl,j,k⟩;have H4:=ae j;obtain⟨a4,c4,rfl,-⟩:=j;go_wp2;go_ret;exact⟨⟨_,rfl,H4.u⟩,l.keep k (by omega),HM.u.trans ((i.mono (by omega)).trans (eJ k D (by omega)))⟩
theorem pV(N D lo d:Nat)(xs:List Int)(w:World)(h:bR N D w xs)(hx:dN xs)(hD:D<lo)(hlo:lo<=w.heap.size)(hd:d<=3)(ih:∀ (xs:List Int) (w:World),bR N D w xs->dN xs->lo<=w.heap.size->Calls prog 62 #[.pointer (some ⟨D,0,none⟩),.int .i64 (d:Nat)] w (zT N D lo w (bu d xs)))(hk:¬ xs.headD 0%16<4)(hl:¬ xs.tail.length=0) :
  Calls prog 62 #[.pointer (some ⟨D,0,none⟩),.int .i64 ((d:Int)+1)] w (zT N D lo w (bu (d+1) xs)):=by
 obtain⟨R,hR⟩ : ∃ R,R=bu (d+1) xs:=⟨_,rfl⟩;rw[<-hR];unfold bu at hR;rw[if_neg (fun q=>q.elim hk hl)]at hR;have H:=ae h;have HX:=ae hx;have hh:=hx.head;have C:(0:Int)<=((d:Int)+1):=by omega
 have E:¬ (d:Int)+1<=0:=by omega
 obtain⟨q,hq⟩ : ∃ q,xs.tail.length=q:=⟨_,rfl⟩;have HQ:=ae hq;have F:¬ (q:Int)=0:=by omega
 have G:¬ q=0:=by omega
 clear hq hl;have IH:=ae ih;have hp:2 ^ d<=8:=Nat.le_trans (Nat.pow_le_pow_right (by omega) hd) (by decide);have I:(d:Int)+1-1=(d:Int):=by omega
 clear ih;obtain⟨y,hy⟩ : ∃ y,xs.headD 0=y:=⟨_,rfl⟩;rw[hy]at hh hk hR;have HY:=ae hy;have HR:=ae hR;clear hy h hx hR
 go_enter func62,ntmps62
 go_wp2_with fail;refine(aE N D xs w H.u HX.u).mono ?_;rintro e w1 ⟨he,t,o⟩;rw[HY.u]at he;subst he;have J:w1.heap.size=w.heap.size:=o.size
 go_wp2_with fail;refine(jY N D xs.tail w1 t).mono ?_;rintro e w2 ⟨he,v,p⟩;rw[HQ.u]at he;subst he;have K:w2.heap.size=w1.heap.size:=p.size;have HC:=ae v;have HM:=ae ((o.mv w.heap.size).trans (p.mv w.heap.size));clear t o v p
 by_cases k2:y%16<6
 ·have e9:=HR.u;rw[if_pos k2]at e9;subst e9
  go_wp2_with fail
  ·exfalso
   first
   | (have h9:((d:Int)+1<=0∨y%16<4)∨((q:Int)==0)=true:=by assumption
      simp at h9;omega)
   | (have h9:(d:Int)+1<=0∨((q:Int)==0)=true:=by assumption
      simp at h9;omega)
  refine(mS N D lo xs.tail w2 HC.u HX.u.tail hD (by omega)).mono ?_;rintro e w3 ⟨⟨v3,rfl,a⟩,g,b⟩;have H3:=ae a;obtain⟨a3,c3,rfl,-⟩:=a;go_wp2;go_ret;exact⟨⟨_,rfl,H3.u⟩,g,HM.u.trans (b.mono (by omega))⟩
 by_cases k3:y%16=6
 ·have e9:=HR.u;rw[if_neg k2,if_pos k3]at e9;subst e9
  go_wp2_with fail
  ·exfalso
   first
   | (have h9:((d:Int)+1<=0∨y%16<4)∨((q:Int)==0)=true:=by assumption
      simp at h9;omega)
   | (have h9:(d:Int)+1<=0∨((q:Int)==0)=true:=by assumption
      simp at h9;omega)
  refine(AY lo w2 (by omega)).mono ?_;rintro e w3 ⟨v3,rfl,a,x⟩;have H3:=ae a;obtain⟨a3,c3,rfl,-⟩:=a;go_wp2;go_ret;exact⟨⟨_,rfl,H3.u⟩,HC.u.keep x (by omega),HM.u.trans (eJ x D (by omega))⟩
 by_cases k4:y%16<10
 ·have e9:=HR.u;rw[if_neg k2,if_neg k3,if_pos k4]at e9;subst e9
  go_wp2_with fail
  ·exfalso
   first
   | (have h9:((d:Int)+1<=0∨y%16<4)∨((q:Int)==0)=true:=by assumption
      simp at h9;omega)
   | (have h9:(d:Int)+1<=0∨((q:Int)==0)=true:=by assumption
      simp at h9;omega)
  refine(IH.u xs.tail w2 HC.u HX.u.tail (by omega)).mono ?_;rintro e w3 ⟨⟨v3,rfl,a⟩,g,b⟩;have H3:=ae a;obtain⟨a3,c3,rfl,-⟩:=a;have z:=b.size;have i:=ae (dj d _ HX.u.tail);have j:=(dh d xs.tail).nl.mono (m:=79) (by omega);have r:=(dh d (bu d xs.tail).2).nl.mono (m:=79) (by omega);generalize bu d xs.tail=A at *
  go_wp2_with fail;refine(IH.u A.2 w3 g i.u (by omega)).mono ?_;rintro e w4 ⟨⟨v4,rfl,f⟩,k,c⟩;have H4:=ae f;obtain⟨a4,c4,rfl,-⟩:=f;have B:=c.size;have s:=ae (H3.u.mv c lR hD)
  go_wp2_with fail;refine(iA s.u H4.u j r (by omega) (by omega) (by omega)).mono ?_;rintro e w5 ⟨v5,rfl,l,n⟩;have H5:=ae l;obtain⟨a5,c5,rfl,-⟩:=l;go_wp2;go_ret;exact⟨⟨_,rfl,H5.u⟩,k.keep n (by omega),HM.u.trans ((b.mono (by omega)).trans ((c.mono (by omega)).trans (eJ n D (by omega))))⟩
 by_cases k5:y%16<13
 ·have e9:=HR.u;rw[if_neg k2,if_neg k3,if_neg k4,if_pos k5]at e9;subst e9
  go_wp2_with fail
  ·exfalso
   first
   | (have h9:((d:Int)+1<=0∨y%16<4)∨((q:Int)==0)=true:=by assumption
      simp at h9;omega)
   | (have h9:(d:Int)+1<=0∨((q:Int)==0)=true:=by assumption
      simp at h9;omega)
  refine(IH.u xs.tail w2 HC.u HX.u.tail (by omega)).mono ?_;rintro e w3 ⟨⟨v3,rfl,a⟩,g,b⟩;have H3:=ae a;obtain⟨a3,c3,rfl,-⟩:=a;have z:=b.size;have i:=ae (dj d _ HX.u.tail);have j:=(dh d xs.tail).nl.mono (m:=79) (by omega);have r:=(dh d (bu d xs.tail).2).nl.mono (m:=79) (by omega);generalize bu d xs.tail=A at *
  go_wp2_with fail;refine(IH.u A.2 w3 g i.u (by omega)).mono ?_;rintro e w4 ⟨⟨v4,rfl,f⟩,k,c⟩;have H4:=ae f;obtain⟨a4,c4,rfl,-⟩:=f;have B:=c.size;have s:=ae (H3.u.mv c lR hD)
  go_wp2_with fail;refine(kE s.u H4.u j r (by omega) (by omega) (by omega)).mono ?_;rintro e w5 ⟨v5,rfl,l,n⟩;have H5:=ae l;obtain⟨a5,c5,rfl,-⟩:=l;go_wp2;go_ret;exact⟨⟨_,rfl,H5.u⟩,k.keep n (by omega),HM.u.trans ((b.mono (by omega)).trans ((c.mono (by omega)).trans (eJ n D (by omega))))⟩
 have e9:=HR.u;rw[if_neg k2,if_neg k3,if_neg k4,if_neg k5]at e9;subst e9
 go_wp2_with fail
 ·exfalso
  first
  | (have h9:((d:Int)+1<=0∨y%16<4)∨((q:Int)==0)=true:=by assumption
     simp at h9;omega)
  | (have h9:(d:Int)+1<=0∨((q:Int)==0)=true:=by assumption
     simp at h9;omega)
 refine(IH.u xs.tail w2 HC.u HX.u.tail (by omega)).mono ?_;rintro e w3 ⟨⟨v3,rfl,a⟩,g,b⟩;have H3:=ae a;obtain⟨a3,c3,rfl,-⟩:=a;have z:=b.size;have i:=ae (dj d _ HX.u.tail);have j:=(dh d xs.tail).mono (m:=79) (by omega);generalize bu d xs.tail=A at *
 go_wp2_with fail;refine(nV N D lo 79 _ A.1 A.2 w3 g i.u hD (by omega) H3.u j (by omega)).mono ?_;rintro e w4 ⟨⟨v4,rfl,f⟩,k,c⟩;have H4:=ae f;obtain⟨a4,c4,rfl,-⟩:=f;go_wp2;go_ret;exact⟨⟨_,rfl,H4.u⟩,k,HM.u.trans ((b.mono (by omega)).trans (c.mono (by omega)))⟩
theorem fJ(N D lo:Nat)(hD:D<lo):∀ (d:Nat),d<=4->∀ (xs:List Int) (w:World),bR N D w xs->dN xs->lo<=w.heap.size->Calls prog 62 #[.pointer (some ⟨D,0,none⟩),.int .i64 (d:Nat)] w (zT N D lo w (bu d xs))
 | 0,_,xs,w,h,hx,hlo=>oi N D lo xs w h hx hD hlo
 | d+1,hd,xs,w,h,hx,hlo=>by
  have ih:=fJ N D lo hD d (by omega);have hh:=hx.head;rw[show(((d+1:Nat):Int))=(d:Int)+1 from rfl]
  by_cases h1:xs.headD 0%16<4
  ·rw[bu,if_pos (Or.inl h1)];exact om N D lo d xs w h hx hD hlo h1
  by_cases h2:xs.tail.length=0
  ·rw[bu,if_pos (Or.inr h2)];exact nU N D lo d xs w h hx hD hlo h1 h2
  exact pV N D lo d xs w h hx hD hlo (by omega) ih h1 h2
theorem aA.put3{lo B:Nat}{w:World}{v:Value}{xs:List El}{u0 u1 u2:Value}(h:aA (B+1) w.heap.size w v xs)(hB:lo<=B+1):aA lo (((w.setCell ⟨B,0,none⟩ u0).setCell ⟨B,1,none⟩ u1).setCell ⟨B,2,none⟩ u2).heap.size (((w.setCell ⟨B,0,none⟩ u0).setCell ⟨B,1,none⟩ u1).setCell ⟨B,2,none⟩ u2) v xs:=
 (h.same ((((dm.refl _ _ _).setCell (Or.inl (Nat.lt_succ_self _)) _).setCell (Or.inl (Nat.lt_succ_self _)) _).setCell (Or.inl (Nat.lt_succ_self _)) _)).mono hB (by simp only[aM];exact Nat.le_refl _)
def Gn(N D lo:Nat)(w:World)(l r:Bool)(R:List El×List Int)(e:Ending)(w':World):Prop:=(∃ v,e=.returned (.agg #[.bool l,.bool r,v])/\aA lo w'.heap.size w' v R.1)/\bR N D w' R.2/\Mv w.heap.size D w w'
theorem iB(N D lo:Nat)(xs:List Int)(w:World)(h:bR N D w xs)(hx:dN xs)(hD:D<lo)(hlo:lo<=w.heap.size) :
  Calls prog 34 #[.pointer (some ⟨D,0,none⟩)] w (Gn N D lo w (decide (xs.headD 0%4=1)) (decide (5<xs.headD 0%8)) (dQ xs)):=by
 have H:=ae h;have HX:=ae hx;have hh:=hx.head;obtain⟨y,hy⟩ : ∃ y,xs.headD 0=y:=⟨_,rfl⟩;rw[hy]at hh ⊢;obtain⟨R,hR⟩ : ∃ R,dQ xs=R:=⟨_,rfl⟩;rw[hR];have ap:Hi (uJ 6 (bu 4 xs.tail).1 (bu 4 xs.tail).2=R):=hR;have HY:=ae hy;have aq:=ae (dj 4 _ hx.tail);have ar:=(dh 4 xs.tail).mono (m:=159) (by omega);clear hy h hx hR;have HP:=ae (jF.new w 25 (.bool false) (.bool false) (.slice none 0 0));have U:=ae (ai w (.cells #[.bool false,.bool false,.slice none 0 0] 25));have bp:(w.alloc (.cells #[.bool false,.bool false,.slice none 0 0] 25)).heap.size=w.heap.size+1:=ah _ _;have av:=ae (H.u.keep U.u (by omega));have o:=ae (Below.mv U.u D)
 go_enter func34,ntmps34
 go_wp2_with fail;generalize w.alloc (.cells #[.bool false,.bool false,.slice none 0 0] 25)=W0 at *;refine(aE N D xs W0 av.u HX.u).mono ?_;rintro e w1 ⟨he,V,C⟩;rw[HY.u]at he;subst he;have bq:w1.heap.size=W0.heap.size:=C.size;have aw:=ae V;have ax:=ae (C.mv (w.heap.size+1));clear V C
 go_wp2_with fail;refine(fJ N D (w.heap.size+1) (by omega) 4 lR xs.tail w1 aw.u HX.u.tail (by omega)).mono ?_;generalize bu 4 xs.tail=A at *;rintro e w2 ⟨⟨v2,rfl,W⟩,X,E⟩;have br:=E.size;have b0:=ae W;obtain⟨a2,c2,rfl,-⟩:=W;have b1:=ae X;have b2:=ae (ax.u.trans (E.mono (by omega)));clear X E
 go_wp2_with fail
 go_loopw [4,5] (fun tv iv wr=>∃ (m:Nat) (t:List El) (zs:List Int),m<=6/\iv=.int .i64 (m:Nat)/\dN zs/\uJ (6-m) t zs=R/\DT (159+80*m) t/\aA (w.heap.size+1) wr.heap.size wr tv t/\bR N D wr zs/\Mv (w.heap.size+1) D W0 wr) (fun _ iv _=>6-(intOf iv).toNat)
 case atStart=>exact⟨0,A.1,A.2,Nat.zero_le _,rfl,aq.u,ap.u,ar,b0.u,b1.u,b2.u⟩
 obtain⟨m,t,zs,hm,rfl,F,j,Y,Z,a0,G⟩:=hrel;obtain⟨w3,rfl⟩ : ∃ w3,w3=wr:=⟨_,rfl⟩;have I:=ae Z;obtain⟨a3,c3,rfl,-⟩:=Z;have J:=ae a0;have p:=ae G;have HZ:=ae F;have c:=ae Y;have bs:=G.size;clear a0 G Y
 by_cases hlt:m<6
 ·have bn:(m:Int)<6:=by omega
  obtain⟨q,hq⟩ : ∃ q,zs.length=q:=⟨_,rfl⟩;have HQ:=ae hq;obtain⟨z,hz⟩ : ∃ z,zs.headD 0=z:=⟨_,rfl⟩;have b3:=ae hz;have b4:=F.head;rw[hz]at b4;rw[show 6-m=6-(m+1)+1 by omega,uJ,hq,hz]at j;have a:=ae j;clear hq hz j F
  by_cases hq0:q=0
  ·have e1:R=(t,zs):=by have h9:=a.u;rw[if_pos hq0]at h9;exact h9.symm
   subst e1;have b5:¬ 0<(q:Int):=by omega
   go_wp2_with fail;refine(jY N D zs w3 J.u).mono ?_;rintro e w4 ⟨he,k,b⟩;rw[HQ.u]at he;subst he;have b6:w4.heap.size=w3.heap.size:=b.size;have b7:=ae k;have a1:=ae (p.u.trans (b.mv _));have b8:=ae (I.u.mv (b.mv w3.heap.size) lR (by omega));clear k b a;have BP:=HP.u.blk (a1.u.block w.heap.size (by omega) (by omega));obtain⟨p0,p1,p2⟩:=BP.facts;have z0:=World.rowIs.frozen BP 0;have z1:=World.rowIs.frozen BP 1;have z2:=World.rowIs.frozen BP 2;clear BP;go_wp2;refine bodyPost_ret (v:=.agg #[.bool (decide (y%4=1)),.bool (decide (5<y%8)),.slice a3 t.length c3]) (by simp[results,results34,go_sem,p0,p1,p2];rfl) rfl ⟨⟨_,rfl,?_⟩,?_,?_⟩
   ·exact b8.u.put3 (by omega)
   ·exact b7.u.keep (aD (aD (aD (Below.refl w.heap.size w4) lR _) lR _) lR _) (by omega)
   exact o.u.trans ((a1.u.mono (by omega)).trans (Below.mv (aD (aD (aD (Below.refl w.heap.size w4) lR _) lR _) lR _) D))
  have b5:0<(q:Int):=by omega
  go_wp2_with fail;refine(jY N D zs w3 J.u).mono ?_;rintro e w4 ⟨he,k,b⟩;rw[HQ.u]at he;subst he;have b6:w4.heap.size=w3.heap.size:=b.size
  go_wp2_with fail;refine(aE N D zs w4 k HZ.u).mono ?_;rintro e w5 ⟨he,a4,K⟩;rw[b3.u]at he;subst he;have bt:w5.heap.size=w4.heap.size:=K.size;have a5:=ae a4;have L:=(b.mv w3.heap.size).trans (K.mv w3.heap.size);have M:=ae (p.u.trans (L.mono (by omega)));have a7:=ae (I.u.mv L lR (by omega));clear k b a4 K L
  by_cases hz8:z%8<2
  ·have e1:R=(t,zs.tail):=by have h9:=a.u;rw[if_neg hq0,if_pos hz8]at h9;exact h9.symm
   subst e1;clear a;have BP:=HP.u.blk (M.u.block w.heap.size (by omega) (by omega));obtain⟨p0,p1,p2⟩:=BP.facts;have z0:=World.rowIs.frozen BP 0;have z1:=World.rowIs.frozen BP 1;have z2:=World.rowIs.frozen BP 2;clear BP;go_wp2;refine bodyPost_ret (v:=.agg #[.bool (decide (y%4=1)),.bool (decide (5<y%8)),.slice a3 t.length c3]) (by simp[results,results34,go_sem,p0,p1,p2];rfl) rfl ⟨⟨_,rfl,?_⟩,?_,?_⟩
   ·exact a7.u.put3 (by omega)
   ·exact a5.u.keep (aD (aD (aD (Below.refl w.heap.size w5) lR _) lR _) lR _) (by omega)
   exact o.u.trans ((M.u.mono (by omega)).trans (Below.mv (aD (aD (aD (Below.refl w.heap.size w5) lR _) lR _) lR _) D))
  have b9:=ae HZ.u.tail;have a8:=dj 3 _ HZ.u.tail;have aa:=ae a8;have d:=ae ((dh 3 zs.tail).mono (m:=79) (by omega));clear a8
  go_wp2_with fail;refine(fJ N D (w.heap.size+1) (by omega) 3 (by omega) zs.tail w5 a5.u b9.u (by omega)).mono ?_;generalize bu 3 zs.tail=B at *;rintro e w6 ⟨⟨v6,rfl,ab⟩,ad,r⟩;have bv:=r.size;have bb:=ae ab;obtain⟨a6,c6,rfl,-⟩:=ab;have bc:=ae ad;have bd:=ae (M.u.trans (r.mono (by omega)));have af:=ae (a7.u.mv r lR (by omega));have ag:=ae (c.u.size _ w6 (af.u.mono (Nat.zero_le _) lR) (by have:=c.u.len;omega));have bx:=c.u.szb;have bz:=d.u.szb;clear ad r
  go_wp2_with fail;refine ag.u.mono ?_;rintro e w7 ⟨rfl,g⟩;have c0:=g.size;have be:=ae (bc.u.keep g (by omega));have bf:=ae (bd.u.trans (eJ g D (by omega)));have bl:=ae (af.u.below g lR);have al:=ae (bb.u.below g lR);have an:=ae (d.u.size _ w7 (al.u.mono (Nat.zero_le _) lR) (by have:=d.u.len;omega));clear g ag
  go_wp2_with fail;refine an.u.mono ?_;rintro e w8 ⟨rfl,i⟩;have bo:=i.size;have O:=ae (be.u.keep i (by omega));have s:=ae (bf.u.trans (eJ i D (by omega)));have P:=ae (bl.u.below i lR);have ao:=ae (al.u.below i lR);clear i an
  by_cases h90:90<vF t+vF B.1
  ·have e1:R=(t,B.2):=by have h9:=a.u;rw[if_neg hq0,if_neg (by omega),if_pos h90]at h9;exact h9.symm
   subst e1;clear a;have BP:=HP.u.blk (s.u.block w.heap.size (by omega) (by omega));obtain⟨p0,p1,p2⟩:=BP.facts;have z0:=World.rowIs.frozen BP 0;have z1:=World.rowIs.frozen BP 1;have z2:=World.rowIs.frozen BP 2;clear BP;go_wp2;refine bodyPost_ret (v:=.agg #[.bool (decide (y%4=1)),.bool (decide (5<y%8)),.slice a3 t.length c3]) (by simp[results,results34,go_sem,p0,p1,p2];rfl) rfl ⟨⟨_,rfl,?_⟩,?_,?_⟩
   ·exact P.u.put3 (by omega)
   ·exact O.u.keep (aD (aD (aD (Below.refl w.heap.size w8) lR _) lR _) lR _) (by omega)
   exact o.u.trans ((s.u.mono (by omega)).trans (Below.mv (aD (aD (aD (Below.refl w.heap.size w8) lR _) lR _) lR _) D))
  have x:Hi (uJ (6-(m+1)) (if z%8<6 then eg t B.1 else fN t B.1) B.2=R):=by have h9:=a.u;rw[if_neg hq0,if_neg (by omega),if_neg h90]at h9;exact h9
  clear a
  by_cases hz6':z%8<6
  ·have l:Hi (uJ (6-(m+1)) (eg t B.1) B.2=R):=by have h9:=x.u;rw[if_pos hz6']at h9;exact h9
   clear x
   go_wp2_with fail;refine(iA P.u ao.u c.u.nl d.u.nl (by omega) (by omega) (by omega)).mono ?_;rintro e w9 ⟨v9,rfl,n,f⟩;have Q:=ae n;obtain⟨a9,c9,rfl,-⟩:=n;have S:=ae (O.u.keep f (by omega));have T:=ae (s.u.trans (eJ f D (by omega)));clear f;go_wp2
   go_roundw
   case rel=>exact⟨m+1,_,B.2,by omega,by go_num,aa.u,l.u,(c.u.cat d.u).mono (by omega),Q.u,S.u,T.u⟩
   simp[intOf];omega
  have l:Hi (uJ (6-(m+1)) (fN t B.1) B.2=R):=by have h9:=x.u;rw[if_neg hz6']at h9;exact h9
  clear x
  go_wp2_with fail;refine(kE P.u ao.u c.u.nl d.u.nl (by omega) (by omega) (by omega)).mono ?_;rintro e w9 ⟨v9,rfl,n,f⟩;have Q:=ae n;obtain⟨a9,c9,rfl,-⟩:=n;have S:=ae (O.u.keep f (by omega));have T:=ae (s.u.trans (eJ f D (by omega)));clear f;go_wp2
  go_roundw
  case rel=>exact⟨m+1,_,B.2,by omega,by go_num,aa.u,l.u,(c.u.alt d.u).mono (by omega),Q.u,S.u,T.u⟩
  simp[intOf];omega
 obtain rfl:m=6:=by omega
 have e1:R=(t,zs):=j.symm;subst e1;clear j;have BP:=HP.u.blk (p.u.block w.heap.size (by omega) (by omega));obtain⟨p0,p1,p2⟩:=BP.facts;have z0:=World.rowIs.frozen BP 0;have z1:=World.rowIs.frozen BP 1;have z2:=World.rowIs.frozen BP 2;clear BP;go_wp2;refine bodyPost_ret (v:=.agg #[.bool (decide (y%4=1)),.bool (decide (5<y%8)),.slice a3 t.length c3]) (by simp[results,results34,go_sem,p0,p1,p2];rfl) rfl ⟨⟨_,rfl,?_⟩,?_,?_⟩
 ·exact I.u.put3 (by omega)
 ·exact J.u.keep (aD (aD (aD (Below.refl w.heap.size w3) lR _) lR _) lR _) (by omega)
 exact o.u.trans ((p.u.mono (by omega)).trans (Below.mv (aD (aD (aD (Below.refl w.heap.size w3) lR _) lR _) lR _) D))
end Go.Proofs.YtidfkbghlkcbeaaGreatDoor
