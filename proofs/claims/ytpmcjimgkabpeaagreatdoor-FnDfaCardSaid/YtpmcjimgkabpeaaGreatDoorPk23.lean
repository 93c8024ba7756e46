import Derived.Test.YtpmcjimgkabpeaaGreatDoorPk22
namespace Go.Proofs.YtpmcjimgkabpeaaGreatDoor
open Go.RowKit Go.Proofs.Tryz
set_option maxHeartbeats 16000000
set_option maxRecDepth 100000
theorem Mv.cell{lo D:Nat}{w w':World}{p:Addr}(h:Mv lo D w w')(h1:p.block<lo)(h2:p.block≠D):w'.cell? p=w.cell? p:=World.cell?_of_block (a:=p) (h.block p.block h1 h2)
def Cw(N D M:Nat)(R:List Int×List Int)(w:World)(e:Ending)(w':World):Prop:=∃ v bs zs,e=.returned v/\w'.ownsRow w.heap.size 5 1 v bs.length (bs.map mB)/\bZ bs/\bs.length<=M/\bm N D w' zs/\bZ zs/\Mv w.heap.size D w w'/\R=(bs,zs)
theorem gN(N D:Nat)(xs:List Int)(w:World)(h:bm N D w xs)(hx:bZ xs)(hD:D<w.heap.size) :
  Calls prog 30 #[.pointer (some ⟨D,0,none⟩)] w (Cw N D 5 (eW xs) w):=by
 refine(yj N D xs w h hx hD).mono ?_;rintro e w1 ⟨v,rfl,ho,hc,hm⟩;have:=xL hx;exact⟨v,_,_,rfl,ho,this.2.1,this.1,hc,this.2.2,hm,rfl⟩
theorem bZ.take{xs:List Int}(h:bZ xs)(n:Nat):bZ (xs.take n):=fun x hx=>h x (List.mem_of_mem_take hx)
theorem mA{base e n m:Nat}{w:World}{a:Option Addr}{c:Nat}{xs:List Value}(h:w.ownsRow base e 1 (.slice a n c) n xs)(hm:m<=n)(hp:0<n):w.ownsRow base e 1 (.slice a m c) m (xs.take m):=by
 have hl:=h.1;rcases h.2 with ⟨e1,hz⟩|⟨g,cap,cur,e1,d,hg,j,f,i,b⟩
 ·omega
 cases e1;refine⟨by rw[List.length_take];omega,.inr ⟨g,c,cur,rfl,d,hg,by omega,f,i,?_⟩⟩;rw[<-b,List.take_take,Nat.mul_one,Nat.mul_one,Nat.min_eq_left hm]
def uw(L:List El)(f:List Int->List Int×List Int):Prop:=∀ (N D lo:Nat) (v:Value) (xs:List Int) (w:World),bm N D w xs->bZ xs->D<lo->lo<=w.heap.size->az lo w.heap.size w v L->L.length<=1048576->
  Calls prog 31 #[v,.pointer (some ⟨D,0,none⟩)] w (Cw N D 60 (f xs) w)
def eF(xs:List Int):List Int×List Int:=([],xs)
def Gz(s:List Int)(xs:List Int)(k:Nat):List Int×List Int:=([s[2*k]?.getD 0+xs.headD 0%(s[2*k+1]?.getD 0-s[2*k]?.getD 0+1)],xs.tail)
def sF(s:List Int)(xs:List Int):List Int×List Int:=if s.length=0 then ([],xs) else Gz s xs (xs.headD 0%((s.length / 2:Nat):Int)).toNat
theorem Gf:uw [⟨0,[],0,0⟩] eF:=by
 intro N D lo v xs w h hx hD j hv g;obtain⟨a,cp,rfl,-,-⟩:=id hv;obtain⟨f,i,b,off,rfl,k,d⟩:=az.last (p:=[]) hv;simp only[List.length_singleton,List.length_nil,Nat.zero_mul,Nat.add_zero]at d hv ⊢;obtain⟨i1,i2,i3,sv,c0,c1,c2,c3,c⟩:=d;obtain⟨sa,sc,rfl,-,-,-⟩:=id c;simp only at c0 c2 c3;have H:=ae h;have HX:=ae hx;have e:=ae (ai w (.cells #[.int .i64 0,.slice sa 0 sc,.int .i64 0,.int .i64 0] 70));clear i1 i2 i3 c hv h hx
 go_enter func31,ntmps31
 go_wp2;go_ret;exact⟨_,[],xs,rfl,World.ownsRow_nil _ _ _ _,ju,Nat.zero_le _,H.u.keep e.u (by omega),HX.u,Below.mv e.u D,rfl⟩
theorem FX(s:List Int)(hc:cU s)(hl:s.length<=300):uw [⟨1,s,0,0⟩] (sF s):=by
 intro N D lo v xs w h hx hD O hv K;obtain⟨a,cp,rfl,-,-⟩:=id hv;obtain⟨B,L,b,off,rfl,P,o⟩:=az.last (p:=[]) hv;simp only[List.length_singleton,List.length_nil,Nat.zero_mul,Nat.add_zero]at o hv ⊢;obtain⟨i1,i2,i3,sv,c0,c1,c2,c3,c⟩:=o;simp only at c0 c2 c3 c;obtain⟨sa,sc,rfl,C,-,j⟩:=id c;have H:=ae h;have HX:=ae hx;have hh:=hx.head;have g:=ae (ai w (.cells #[.int .i64 1,.slice sa s.length sc,.int .i64 0,.int .i64 0] 70));have E:(w.alloc (.cells #[.int .i64 1,.slice sa s.length sc,.int .i64 0,.int .i64 0] 70)).heap.size=w.heap.size+1:=ah _ _;obtain⟨l,m,r⟩:=hc
 by_cases h0:s.length=0
 ·have n:(s.length:Int)=0:=by omega
  have HR:Hi (sF s xs=([],xs)):=ae (by unfold sF;rw[if_pos h0]);clear i1 i2 i3 c hv h hx j C
  go_enter func31,ntmps31
  go_wp2;go_ret;exact⟨_,[],xs,rfl,World.ownsRow_nil _ _ _ _,ju,Nat.zero_le _,H.u.keep (ai w _) (by omega),HX.u,Below.mv (ai w _) D,HR.u⟩
 have n:¬ (s.length:Int)=0:=by omega
 obtain⟨sb,so,rfl,M,i,d⟩:=j (by omega);obtain⟨y,hy⟩ : ∃ y,xs.headD 0=y:=⟨_,rfl⟩;rw[hy]at hh;have HY:=ae hy;obtain⟨q,hq⟩ : ∃ q:Nat,s.length=2*q:=⟨s.length / 2,by omega⟩;obtain⟨k,hk⟩ : ∃ k:Nat,y%(q:Int)=(k:Int):=⟨(y%(q:Int)).toNat,by have:=Int.emod_nonneg y (b:=(q:Int)) (by omega);omega⟩;have Q:k<q:=by have:=Int.emod_lt_of_pos y (b:=(q:Int)) (by omega);omega
 have HR:Hi (sF s xs=([s[2*k]?.getD 0+y%(s[2*k+1]?.getD 0-s[2*k]?.getD 0+1)],xs.tail)):=ae (by
  unfold sF;rw[if_neg h0,hy,show s.length / 2=q by omega,hk,Int.toNat_natCast,<-hy]
  rfl)
 obtain⟨R,t⟩ : ∃ R,sF s xs=R:=⟨_,rfl⟩;rw[t]at HR ⊢;clear t;have p3:=r k (by omega);have p0:=m (2*k) (by omega);have p1:=m (2*k+1) (by omega);have F:=ae (d (2*k) (by omega));have G:=ae (d (2*k+1) (by omega));obtain⟨pl,-⟩:=id p3;generalize s[2*k]?.getD 0=lw at *;generalize s[2*k+1]?.getD 0=hi at *;have f0:(w.alloc (.cells #[.int .i64 1,.slice (some ⟨sb,so,none⟩) s.length sc,.int .i64 0,.int .i64 0] 70)).cell? ⟨w.heap.size,1,none⟩=some (.slice (some ⟨sb,so,none⟩) s.length sc):=(au w _).news 1 _ rfl;have x:=ae (H.u.keep g.u (by omega));have A:=ae (Below.mv g.u D);rw[hq]at n f0 g x A E c1;have n:¬ ((2*q:Nat):Int)=0:=by omega
 clear d j i1 i2 i3 c hv h hx p3 r m hy
 go_enter func31,ntmps31
 go_wp2_with fail;generalize w.alloc (.cells #[.int .i64 1,.slice (some ⟨sb,so,none⟩) (2*q) sc,.int .i64 0,.int .i64 0] 70)=W0 at *;refine(aC N D xs W0 x.u HX.u).mono ?_;rintro e w1 ⟨he,l,f⟩;rw[HY.u]at he;subst he;have S:w1.heap.size=W0.heap.size:=f.size;have g1:=((f.mv W0.heap.size).cell (p:=⟨w.heap.size,1,none⟩) (by show w.heap.size<_;omega) (by show ¬ w.heap.size=D;omega)).trans f0;have d1:=((f.mv W0.heap.size).cell (p:=⟨sb,so+2*k,none⟩) (by show sb<_;omega) (by show ¬ sb=D;omega)).trans ((g.u.cell (p:=⟨sb,so+2*k,none⟩) i).trans F.u);have d2:=((f.mv W0.heap.size).cell (p:=⟨sb,so+(2*k+1),none⟩) (by show sb<_;omega) (by show ¬ sb=D;omega)).trans ((g.u.cell (p:=⟨sb,so+(2*k+1),none⟩) i).trans G.u);have I:=ae l;have J:=ae (A.u.trans (f.mv w.heap.size));clear l f
 go_wp2_with fail;have e9:w.heap.size+1=w1.heap.size:=by omega
 go_ret;refine⟨_,[_],xs.tail,rfl,by rw[e9];exact World.ownsRow_lit w1 #[.int .u8 _] 1 (by omega) (by unfold maxLen;omega) rfl,Bv (by omega) (by omega),by simp,I.u.keep (ai w1 _) (by omega),HX.u.tail,J.u.trans (Below.mv ((ai w1 _).mono (by omega)) D),HR.u.trans ?_⟩;have y1:=Int.emod_nonneg y (b:=hi-lw+1) (by omega);have y2:=Int.emod_lt_of_pos y (b:=hi-lw+1) (by omega);generalize y%(hi-lw+1)=z at *;rw[show wrap64 (lw+z)%256=lw+z by unfold wrap64;omega]
theorem gd{base base' n e:Nat}{w:World}{v:Value}{xs:List Value}(h:w.ownsRow base e 1 v n xs)(hb:base'<=base):w.ownsRow base' e 1 v n xs:=by
 refine⟨h.1,?_⟩;rcases h.2 with q|⟨g,cap,cur,rfl,a,q⟩
 ·exact .inl q
 exact .inr ⟨g,cap,cur,rfl,Nat.le_trans hb a,q⟩
theorem mK{base n e c:Nat}{w:World}{a:Option Addr}{xs:List Value}(h:w.ownsRow base e 1 (.slice a n c) n xs)(hp:0<n):n<=c/\c<=maxLen:=by
 rcases h.2 with ⟨-,hz⟩|⟨g,cap,cur,e1,i,hg,b,d,j,f⟩
 ·omega
 cases e1;exact⟨b,d⟩
def Bj(f g:List Int->List Int×List Int)(xs:List Int):List Int×List Int:=if xs.headD 0%2=1 then f xs.tail else g xs.tail
def Dx(f g:List Int->List Int×List Int)(xs:List Int):List Int×List Int:=(((f xs).1++(g (f xs).2).1).take 60,(g (f xs).2).2)
theorem BS{f g:List Int->List Int×List Int}{xs bs zs cs us:List Int}(h:f xs=(bs,zs))(h2:g zs=(cs,us)):Dx f g xs=((bs++cs).take 60,us):=by
 unfold Dx;rw[h];show((bs++(g zs).1).take 60,(g zs).2)=_;rw[h2]
theorem CI(l r:List El)(cr:Int)(fl fr:List Int->List Int×List Int)(sr:aM r cr)(hl:uw l fl)(hr:uw r fr):uw (l++r++[⟨3,[],0,0⟩]) (Bj fl fr):=by
 intro N D lo v xs w h hx hD O hv p;have c:=hv;obtain⟨a,cp,rfl,-,-⟩:=id hv;obtain⟨d,f,b,off,rfl,P,q⟩:=hv.last;rw[d]at hv c f ⊢;simp only[List.length_append,List.length_singleton]at hv c p d q f ⊢;unfold maxLen at f;obtain⟨i1,i2,i3,sv,c0,c1,c2,c3,g⟩:=q;obtain⟨sa,sc,rfl,-,-,-⟩:=id g;simp only at c0 c2 c3;clear d i1 i2 i3 g;have e1:(((l.length+r.length+1:Nat):Int)-1)=((l.length+r.length:Nat):Int):=by omega
 have s:az lo w.heap.size w (.slice (some ⟨b,off,none⟩) l.length cp) (l):=by rw[List.append_assoc]at c;exact c.pre
 have t:=c.mid (cap':=cp-l.length) (by unfold maxLen;omega);have f5:l.length+r.length-l.length=r.length:=by omega
 have C:=ae (c.mono (Nat.zero_le lo) lR);have E:=ae hl;have F:=ae hr;have H:=ae h;have HX:=ae hx;have hh:=hx.head;have i:=ae (ai w (.cells #[.int .i64 3,.slice sa 0 sc,.int .i64 0,.int .i64 0] 70));have Q:(w.alloc (.cells #[.int .i64 3,.slice sa 0 sc,.int .i64 0,.int .i64 0] 70)).heap.size=w.heap.size+1:=ah _ _;have G:=ae (H.u.keep i.u (by omega));have I:=ae (Below.mv i.u D);have J:=ae (s.below i.u lR);have K:=ae (t.below i.u lR);obtain⟨y,hy⟩ : ∃ y,xs.headD 0=y:=⟨_,rfl⟩;rw[hy]at hh;have HY:=ae hy;have HR:Hi (Bj fl fr xs=if y%2=1 then fl xs.tail else fr xs.tail):=ae (by unfold Bj;rw[hy]);obtain⟨R,x⟩ : ∃ R,Bj fl fr xs=R:=⟨_,rfl⟩;rw[x]at HR ⊢;clear x;clear s t hv c hl hr h hx hy
 go_enter func31,ntmps31
 go_wp2_with fail;refine(bO _ l r cr _ _ _ sr (by exact C.u.below i.u lR) (by omega) rfl).mono ?_;rintro e w1 ⟨rfl,rfl⟩
 go_wp2_with fail;generalize w.alloc (.cells #[.int .i64 3,.slice sa 0 sc,.int .i64 0,.int .i64 0] 70)=W0 at *;refine(aC N D xs W0 G.u HX.u).mono ?_;rintro e w1 ⟨he,z,j⟩;rw[HY.u]at he;subst he;have S:w1.heap.size=W0.heap.size:=j.size;have A:=ae (I.u.trans (j.mv w.heap.size));have L:=ae (J.u.mv (j.mv W0.heap.size) lR hD);have M:=ae (K.u.mv (j.mv W0.heap.size) lR hD);have B:=ae z;clear z j
 by_cases hp:y%2=1
 ·go_wp2_with fail;refine(E.u N D lo _ xs.tail w1 B.u HX.u.tail hD (by omega) L.u (by omega)).mono ?_;rintro e w2 ⟨v2,bs,zs,rfl,ho,k,o,m,hz,hm,n⟩;obtain⟨oa,oc,rfl⟩:=aj ho;have HF:Hi (Cw N D 60 R w (.returned (.slice oa bs.length oc)) w2):=⟨_,bs,zs,rfl,gd ho (by omega),k,o,m,hz,A.u.trans (hm.mono (by omega)),by rw[HR.u,if_pos hp];exact n⟩;clear ho k m hz hm n;go_wp2;go_ret;exact HF.u
 go_wp2_with fail;refine(F.u N D lo _ xs.tail w1 B.u HX.u.tail hD (by omega) M.u (by omega)).mono ?_;rintro e w2 ⟨v2,bs,zs,rfl,ho,k,o,m,hz,hm,n⟩;obtain⟨oa,oc,rfl⟩:=aj ho;have HF:Hi (Cw N D 60 R w (.returned (.slice oa bs.length oc)) w2):=⟨_,bs,zs,rfl,gd ho (by omega),k,o,m,hz,A.u.trans (hm.mono (by omega)),by rw[HR.u,if_neg hp];exact n⟩;clear ho k m hz hm n;go_wp2;go_ret;exact HF.u
theorem De(l r:List El)(cr:Int)(fl fr:List Int->List Int×List Int)(sr:aM r cr)(hl:uw l fl)(hr:uw r fr):uw (l++r++[⟨2,[],0,0⟩]) (Dx fl fr):=by
 intro N D lo v xs w h hx hD an hv A;have c:=hv;obtain⟨a,cp,rfl,-,-⟩:=id hv;obtain⟨d,g,b,off,rfl,ao,B⟩:=hv.last;rw[d]at hv c g ⊢;simp only[List.length_append,List.length_singleton]at hv c A d B g ⊢;unfold maxLen at g;obtain⟨i1,i2,i3,sv,c0,c1,c2,c3,i⟩:=B;obtain⟨sa,sc,rfl,-,-,-⟩:=id i;simp only at c0 c2 c3;clear d i1 i2 i3 i;have e1:(((l.length+r.length+1:Nat):Int)-1)=((l.length+r.length:Nat):Int):=by omega
 have C:az lo w.heap.size w (.slice (some ⟨b,off,none⟩) l.length cp) (l):=by rw[List.append_assoc]at c;exact c.pre
 have E:=c.mid (cap':=cp-l.length) (by unfold maxLen;omega);have f5:l.length+r.length-l.length=r.length:=by omega
 have Q:=ae (c.mono (Nat.zero_le lo) lR);have R:=ae hl;have S:=ae hr;have H:=ae h;have HX:=ae hx;have hh:=hx.head;have j:=ae (ai w (.cells #[.int .i64 2,.slice sa 0 sc,.int .i64 0,.int .i64 0] 70));have ap:(w.alloc (.cells #[.int .i64 2,.slice sa 0 sc,.int .i64 0,.int .i64 0] 70)).heap.size=w.heap.size+1:=ah _ _;have T:=ae (H.u.keep j.u (by omega));have U:=ae (Below.mv j.u D);have V:=ae (C.below j.u lR);have W:=ae (E.below j.u lR);obtain⟨y,hy⟩ : ∃ y,xs.headD 0=y:=⟨_,rfl⟩;rw[hy]at hh;have HY:=ae hy;clear C E hv c hl hr h hx hy
 go_enter func31,ntmps31
 go_wp2_with fail;refine(bO _ l r cr _ _ _ sr (by exact Q.u.below j.u lR) (by omega) rfl).mono ?_;rintro e w1 ⟨rfl,rfl⟩
 go_wp2_with fail;generalize w.alloc (.cells #[.int .i64 2,.slice sa 0 sc,.int .i64 0,.int .i64 0] 70)=W0 at *;refine(R.u N D lo _ xs W0 T.u HX.u hD (by omega) V.u (by omega)).mono ?_;rintro e w1 ⟨v1,bs1,zs1,rfl,t,o,af,p,F,k,G⟩;obtain⟨oa,oc,rfl⟩:=aj t;have aq:=k.size;have X:=ae (W.u.mv k lR hD);have Y:=ae (U.u.trans (k.mono (by omega)));have Z:=ae t;have a0:=ae o;have a1:=ae p;have a2:=ae F;have I:=ae G;clear t o p F k G
 go_wp2_with fail;refine(S.u N D lo _ zs1 w1 a1.u a2.u hD (by omega) X.u (by omega)).mono ?_;rintro e w2 ⟨v2,bs2,zs2,rfl,x,q,ag,s,J,n,K⟩;obtain⟨ob,oc2,rfl⟩:=aj x;have ar:=n.size;have a3:=ae (Y.u.trans (n.mono (by omega)));have a4:=ae (eQ Z.u n lR (by omega));have a6:=ae x;have a7:=ae q;have a8:=ae s;have L:=ae J;have HR:=ae (BS I.u K);clear x q s J n K I
 go_wp2_with (at_builtin;refine ed rfl _ _ rfl w.heap.size _ rfl bs1 (by exact gd a4.u (by omega)) (by omega) _ rfl bs2 (by exact eu a6.u (by unfold maxLen;omega)) (by omega) ?_;intro v5 w5 z f al);have av:(bs1++bs2).length<=120:=by rw[List.length_append];omega
 have M:=ae (a0.u.app a7.u);have O:=ae (a8.u.keep z (by omega));have P:=ae (a3.u.trans (Below.mv z D));clear z;generalize bs1++bs2=bb at *;have a9:=ae f
 by_cases hg:60<bb.length
 ·have aa:(60:Int)<(bb.length:Int):=by omega
  have aw:¬ (bb.length:Int)<=60:=by omega
  obtain⟨a5,c5,rfl⟩:=aj f;have ab:=mK f (by omega);have ad:=ab.2;unfold maxLen at ad;have HT:=ae (mA f (m:=60) (by omega) (by omega));clear f;go_wp2;go_ret;exact⟨_,bb.take 60,zs2,rfl,by rw[List.length_take,Nat.min_eq_left (by omega),List.map_take];exact HT.u,M.u.take 60,by rw[List.length_take];omega,O.u,L.u,P.u,HR.u⟩
 have aa:¬ (60:Int)<(bb.length:Int):=by omega
 obtain⟨a5,c5,rfl⟩:=aj f;clear f;go_wp2;go_ret;exact⟨_,bb,zs2,rfl,a9.u,M.u,by omega,O.u,L.u,P.u,by rw[HR.u,List.take_of_length_le (by omega)]⟩
def xt(f:List Int->List Int×List Int):Nat->List Int->List Int->List Int×List Int
 | 0,os,zs=>(os,zs)
 | n+1,os,zs=>if os.length<60 then xt f n (os++(f zs).1) (f zs).2 else (os,zs)
theorem xz{f:List Int->List Int×List Int}{n:Nat}{os zs:List Int}(h:¬ (0<n/\os.length<60)):xt f n os zs=(os,zs):=by
 cases n with
 | zero=>rfl
 | succ n=>rw[xt,if_neg (by omega)]
theorem DV{f:List Int->List Int×List Int}{n m:Nat}{os zs bs us:List Int}(h:n=m+1)(h1:os.length<60)(h2:f zs=(bs,us)):xt f n os zs=xt f m (os++bs) us:=by
 rw[h,xt,if_pos h1,h2]
def Ee(mn mx y:Int):Nat:=(if mx = -1∨mn+y%3<mx then mn+y%3 else mx).toNat
def BK(f:List Int->List Int×List Int)(mn mx:Int)(xs:List Int):List Int×List Int:=((xt f (Ee mn mx (xs.headD 0)) [] xs.tail).1.take 60,(xt f (Ee mn mx (xs.headD 0)) [] xs.tail).2)
theorem CW(l:List El)(mn mx:Int)(f:List Int->List Int×List Int)(hl:uw l f)(hne:0<l.length)(o2:0<=mn)(o3:mn<=250)(o4:mx = -1∨(mn<=mx/\mx<=250)):uw (l++[⟨4,[],mn,mx⟩]) (BK f mn mx):=by
 intro N D lo v xs w h hx hD b6 hv S;have J:=hv;obtain⟨a,cp,rfl,-,-⟩:=id hv;obtain⟨d,F,b,off,rfl,b7,a4⟩:=hv.last;rw[d]at hv J F ⊢;simp only[List.length_append,List.length_singleton]at S d;unfold maxLen at F;obtain⟨i1,i2,i3,sv,c0,c1,c2,c3,i⟩:=a4;obtain⟨sa,sc,rfl,-,-,-⟩:=id i;simp only at c0 c2 c3;clear d i1 i2 i3 i;have T:az lo w.heap.size w (.slice (some ⟨b,off,none⟩) l.length cp) l:=J.pre;have e1:(((l.length+1:Nat):Int)-1)=((l.length:Nat):Int):=by omega
 have HH:=ae hl;have H:=ae h;have HX:=ae hx;have hh:=hx.head;have U:=ae (ai w (.cells #[.int .i64 4,.slice sa 0 sc,.int .i64 mn,.int .i64 mx] 70));have b8:(w.alloc (.cells #[.int .i64 4,.slice sa 0 sc,.int .i64 mn,.int .i64 mx] 70)).heap.size=w.heap.size+1:=ah _ _;have q3:(w.alloc (.cells #[.int .i64 4,.slice sa 0 sc,.int .i64 mn,.int .i64 mx] 70)).cell? ⟨w.heap.size,3,none⟩=some (.int .i64 mx):=(au w _).news 3 _ rfl;have a6:=ae (H.u.keep U.u (by omega));have a7:=ae (Below.mv U.u D);have a8:=ae T;obtain⟨y,hy⟩ : ∃ y,xs.headD 0=y:=⟨_,rfl⟩;rw[hy]at hh;have HY:=ae hy;have HR:Hi (BK f mn mx xs=((xt f (Ee mn mx y) [] xs.tail).1.take 60,(xt f (Ee mn mx y) [] xs.tail).2)):=ae (by unfold BK;rw[hy]);obtain⟨R,V⟩ : ∃ R,BK f mn mx xs=R:=⟨_,rfl⟩;rw[V]at HR ⊢;clear V;clear T hv J hl h hx hy
 go_enter func31,ntmps31
 go_wp2_with fail;generalize w.alloc (.cells #[.int .i64 4,.slice sa 0 sc,.int .i64 mn,.int .i64 mx] 70)=W0 at *;refine(aC N D xs W0 a6.u HX.u).mono ?_;rintro e w1 ⟨he,W,x⟩;rw[HY.u]at he;subst he;have b9:w1.heap.size=W0.heap.size:=x.size;have q3':=((x.mv W0.heap.size).cell (p:=⟨w.heap.size,3,none⟩) (by show w.heap.size<_;omega) (by show ¬ w.heap.size=D;omega)).trans q3;have X:=ae (a7.u.trans (x.mv w.heap.size));have Y:=ae W;clear W x q3;obtain⟨M,hM⟩ : ∃ M:Nat,Ee mn mx y=M:=⟨_,rfl⟩;obtain⟨cb,z⟩ : ∃ cb:Bool,decide (mx = -1∨mn+y%3<mx)=cb:=⟨_,rfl⟩;have j:(cb=true->mn+y%3=(M:Int))/\(cb=false->mx=(M:Int)):=by
  rw[<-hM,<-z];unfold Ee
  by_cases hb:mx = -1∨mn+y%3<mx
  ·rw[if_pos hb,decide_eq_true hb];exact⟨fun _=>by omega,fun q=>Bool.noConfusion q⟩
  rw[if_neg hb,decide_eq_false hb];exact⟨fun q=>Bool.noConfusion q,fun _=>by omega⟩
 have bb:M<=300:=by
  cases cb
  ·have:=j.2 rfl;omega
  have:=j.1 rfl;omega
 rw[hM]at HR
 go_upto_region 16 with fail
 go_cut [83] (fun bv wx=>bv=.bool cb/\w1=wx)
 case first =>
  by_cases k1:mx = -1
  ·subst k1
   go_wp2_with fail;go_meet;exact⟨by rw[<-z];simp,rfl⟩
  have k4:(mx == -1)=false:=beq_eq_false_iff_ne.2 k1
  go_wp2_with fail;go_meet;exact⟨by rw[<-z];simp[k1],rfl⟩
 obtain⟨rfl,K⟩:=hcut;subst K
 go_upto_if 83 with fail
 go_cut [11] (fun mv wx=>mv=.int .i64 (M:Int)/\w1=wx)
 case first =>
  cases cb
  ·have L:=j.2 rfl
   go_wp2_with fail;go_meet;exact⟨by first|rfl|rw[L],rfl⟩
  have L:=j.1 rfl
  go_wp2_with fail;go_meet;exact⟨by first|rfl|rw[<-L],rfl⟩
 obtain⟨rfl,K⟩:=hcut;subst K;clear j z hM;obtain⟨R0,O⟩ : ∃ R0,xt f M [] xs.tail=R0:=⟨_,rfl⟩;rw[O]at HR;have a9:=ae O;clear O;clear q3'
 go_wp2_with fail
 go_loopw [13,14] (fun ov iv wr=>∃ (k:Nat) (os zs:List Int),k<=M/\iv=.int .i64 k/\bZ zs/\bZ os/\os.length<=120/\wr.ownsRow w.heap.size 5 1 ov os.length (os.map mB)/\bm N D wr zs/\Mv w.heap.size D w wr/\xt f (M-k) os zs=R0) (fun _ iv _=>M-(intOf iv).toNat)
 case atStart=>exact⟨0,[],xs.tail,Nat.zero_le _,rfl,HX.u.tail,ju,Nat.zero_le _,World.ownsRow_nil _ _ _ _,Y.u,X.u,a9.u⟩
 clear Y X;obtain⟨k,os,zs,hk,rfl,A,B,bc,c,C,g,Z⟩:=hrel;have a0:=ae Z;clear Z;have HO:=ae c;have o:=ae C;have r:=ae g;have HZ:=ae A;have s:=ae B;have b3:=g.size
 by_cases hgo:k<M/\os.length<60
 ·have h1:(k:Int)<(M:Int):=by omega
  have h2:(os.length:Int)<60:=by omega
  obtain⟨oa,oc,rfl⟩:=aj c;have aa:=ae (a8.u.mv g lR hD);clear c C g A B
  go_wp2_with fail;refine(HH.u N D lo _ zs wr o.u HZ.u hD (by omega) aa.u (by omega)).mono ?_;rintro e w2 ⟨v2,bs2,zs2,rfl,P,G,b4,I,a1,E,a2⟩;obtain⟨ob,oc2,rfl⟩:=aj P;have bd:=E.size;have ab:=ae (r.u.trans (E.mono (by omega)));have ad:=ae (eQ HO.u E lR (by omega));have af:=ae P;have ag:=ae (s.u.app G);have al:=ae I;have an:=ae a1;have ao:=ae ((DV (n:=M-k) (m:=M-(k+1)) (by omega) hgo.2 a2).symm.trans a0.u);clear P G I a1 E a2
  go_wp2_with (at_builtin;refine ed rfl _ _ rfl w.heap.size _ rfl os (by exact ad.u) (by omega) _ rfl bs2 (by exact eu af.u (by unfold maxLen;omega)) (by omega) ?_;intro v5 w5 Q a3 b5);have ap:(os++bs2).length<=120:=by rw[List.length_append];omega
  have aq:=ae (al.u.keep Q (by omega));have ar:=ae (ab.u.trans (Below.mv Q D));have av:=ae a3;clear Q a3;go_wp2;exact⟨⟨k+1,os++bs2,zs2,by omega,by go_num,an.u,ag.u,ap,av.u,aq.u,ar.u,ao.u⟩,by simp[intOf];omega⟩
 have t:=ae a0.u;rw[xz (by omega)]at t
 by_cases hg:60<os.length
 ·have aw:(60:Int)<(os.length:Int):=by omega
  have ax:¬ (os.length:Int)<=60:=by omega
  have b0:¬ (os.length:Int)<60:=by omega
  obtain⟨a5,c5,rfl⟩:=aj c;have b1:=mK c (by omega);have b2:=b1.2;unfold maxLen at b2;have HT:=ae (mA c (m:=60) (by omega) (by omega));clear c C g A B
  by_cases hkM:(k:Int)<(M:Int)
  ·go_wp2;go_ret;exact⟨_,os.take 60,zs,rfl,by rw[List.length_take,Nat.min_eq_left (by omega),List.map_take];exact HT.u,s.u.take 60,by rw[List.length_take];omega,o.u,HZ.u,r.u,by rw[HR.u,<-t.u]⟩
  go_wp2;go_ret;exact⟨_,os.take 60,zs,rfl,by rw[List.length_take,Nat.min_eq_left (by omega),List.map_take];exact HT.u,s.u.take 60,by rw[List.length_take];omega,o.u,HZ.u,r.u,by rw[HR.u,<-t.u]⟩
 have aw:¬ (60:Int)<(os.length:Int):=by omega
 have ax:(os.length:Int)<=60:=by omega
 obtain⟨oa,oc,rfl⟩:=aj c;clear c C g A B
 by_cases hkM:(k:Int)<(M:Int)
 ·have b0:¬ (os.length:Int)<60:=by omega
  go_wp2;go_ret;exact⟨_,os,zs,rfl,HO.u,s.u,by omega,o.u,HZ.u,r.u,by rw[HR.u,<-t.u];show(os.take 60,zs)=_;rw[List.take_of_length_le (by omega)]⟩
 go_wp2;go_ret;exact⟨_,os,zs,rfl,HO.u,s.u,by omega,o.u,HZ.u,r.u,by rw[HR.u,<-t.u];show(os.take 60,zs)=_;rw[List.take_of_length_le (by omega)]⟩
theorem ru(N D lo:Nat)(xs:List Int)(w:World)(h:bm N D w xs)(hx:bZ xs)(hD:D<lo)(hlo:lo<=w.heap.size)(hk:xs.headD 0%24<16) :
  Calls prog 106 #[.pointer (some ⟨D,0,none⟩)] w (AL N D lo w (bT xs)):=by
 have H:=ae h;have HX:=ae hx;have hh:=hx.head;obtain⟨y2,b⟩ : ∃ y,xs.tail.headD 0=y:=⟨_,rfl⟩;have HR:Hi (bT xs=([dB y2,dB y2],xs.tail.tail)):=by rw[<-b];exact if_pos hk
 rw[HR.u];obtain⟨y,hy⟩ : ∃ y,xs.headD 0=y:=⟨_,rfl⟩;rw[hy]at hh hk;have HY:=ae hy;have i:=ae b;have hb:=fm (y:=y2);clear hy hx h b HR
 go_enter func106,ntmps106
 go_wp2_with fail;refine(aC N D xs w H.u HX.u).mono ?_;rintro e w1 ⟨he,j,f⟩;rw[HY.u]at he;subst he
 go_wp2_with fail;refine(cJ N D xs.tail w1 j HX.u.tail).mono ?_;rintro e w2 ⟨he,k,g⟩;rw[i.u]at he;subst he
 go_wp2_with fail;refine(gD (dB y2) w2 (dZ hb.1 hb.2)).mono ?_;rintro e w3 ⟨v,rfl,hv,d⟩;have HV:=ae hv;obtain⟨a,c,rfl,-⟩:=hv;have l:=d.size;go_wp2;go_ret;have m:w1.heap.size=w.heap.size:=f.size;have n:w2.heap.size=w1.heap.size:=g.size;exact⟨⟨_,rfl,HV.u.mono (by omega) lR⟩,k.keep d (by omega),(f.mv _).trans ((g.mv _).trans (eD d D (by omega)))⟩
theorem nD(N D lo:Nat)(xs:List Int)(w:World)(h:bm N D w xs)(hx:bZ xs)(hD:D<lo)(hlo:lo<=w.heap.size)(hk:xs.headD 0%24=16) :
  Calls prog 106 #[.pointer (some ⟨D,0,none⟩)] w (AL N D lo w (bT xs)):=by
 have H:=ae h;have HX:=ae hx;have hh:=hx.head;have HR:Hi (bT xs=([97,98],xs.tail)):=by
  show bT xs=_;unfold bT;rw[if_neg (by omega),if_pos hk]
 rw[HR.u];obtain⟨y,hy⟩ : ∃ y,xs.headD 0=y:=⟨_,rfl⟩;rw[hy]at hh hk;have HY:=ae hy;have n0:¬ y%24<16:=by omega
 clear hy hx h HR
 go_enter func106,ntmps106
 go_wp2_with fail;refine(aC N D xs w H.u HX.u).mono ?_;rintro e w1 ⟨he,d,c⟩;rw[HY.u]at he;subst he;go_wp2;go_ret;have f:w1.heap.size=w.heap.size:=c.size;exact⟨⟨_,rfl,(gW w1 (a:=97) (b:=98) (dZ (by omega) (by omega)) (dZ (by omega) (by omega))).mono (lo':=lo) (by omega) lR⟩,d.keep (ai w1 _) (by omega),(c.mv _).trans (eD (ai w1 _) D (by omega))⟩
theorem nH(N D lo:Nat)(xs:List Int)(w:World)(h:bm N D w xs)(hx:bZ xs)(hD:D<lo)(hlo:lo<=w.heap.size)(hk:xs.headD 0%24=17) :
  Calls prog 106 #[.pointer (some ⟨D,0,none⟩)] w (AL N D lo w (bT xs)):=by
 have H:=ae h;have HX:=ae hx;have hh:=hx.head;have HR:Hi (bT xs=([97,99],xs.tail)):=by
  show bT xs=_;unfold bT;rw[if_neg (by omega),if_neg (by omega),if_pos hk]
 rw[HR.u];obtain⟨y,hy⟩ : ∃ y,xs.headD 0=y:=⟨_,rfl⟩;rw[hy]at hh hk;have HY:=ae hy;have n0:¬ y%24<16:=by omega
 have n16:¬ y%24=16:=by omega
 clear hy hx h HR
 go_enter func106,ntmps106
 go_wp2_with fail;refine(aC N D xs w H.u HX.u).mono ?_;rintro e w1 ⟨he,d,c⟩;rw[HY.u]at he;subst he;go_wp2;go_ret;have f:w1.heap.size=w.heap.size:=c.size;exact⟨⟨_,rfl,(gW w1 (a:=97) (b:=99) (dZ (by omega) (by omega)) (dZ (by omega) (by omega))).mono (lo':=lo) (by omega) lR⟩,d.keep (ai w1 _) (by omega),(c.mv _).trans (eD (ai w1 _) D (by omega))⟩
theorem nZ(N D lo:Nat)(xs:List Int)(w:World)(h:bm N D w xs)(hx:bZ xs)(hD:D<lo)(hlo:lo<=w.heap.size)(hk:xs.headD 0%24=18) :
  Calls prog 106 #[.pointer (some ⟨D,0,none⟩)] w (AL N D lo w (bT xs)):=by
 have H:=ae h;have HX:=ae hx;have hh:=hx.head;have HR:Hi (bT xs=([48,57],xs.tail)):=by
  show bT xs=_;unfold bT;rw[if_neg (by omega),if_neg (by omega),if_neg (by omega),if_pos hk]
 rw[HR.u];obtain⟨y,hy⟩ : ∃ y,xs.headD 0=y:=⟨_,rfl⟩;rw[hy]at hh hk;have HY:=ae hy;have n0:¬ y%24<16:=by omega
 have n16:¬ y%24=16:=by omega
 have n17:¬ y%24=17:=by omega
 clear hy hx h HR
 go_enter func106,ntmps106
 go_wp2_with fail;refine(aC N D xs w H.u HX.u).mono ?_;rintro e w1 ⟨he,d,c⟩;rw[HY.u]at he;subst he;go_wp2;go_ret;have f:w1.heap.size=w.heap.size:=c.size;exact⟨⟨_,rfl,(gW w1 (a:=48) (b:=57) (dZ (by omega) (by omega)) (dZ (by omega) (by omega))).mono (lo':=lo) (by omega) lR⟩,d.keep (ai w1 _) (by omega),(c.mv _).trans (eD (ai w1 _) D (by omega))⟩
theorem nL(N D lo:Nat)(xs:List Int)(w:World)(h:bm N D w xs)(hx:bZ xs)(hD:D<lo)(hlo:lo<=w.heap.size)(hk:xs.headD 0%24=19) :
  Calls prog 106 #[.pointer (some ⟨D,0,none⟩)] w (AL N D lo w (bT xs)):=by
 have H:=ae h;have HX:=ae hx;have hh:=hx.head;have HR:Hi (bT xs=([0,9,11,255],xs.tail)):=by
  show bT xs=_;unfold bT;rw[if_neg (by omega),if_neg (by omega),if_neg (by omega),if_neg (by omega),if_pos hk]
 rw[HR.u];obtain⟨y,hy⟩ : ∃ y,xs.headD 0=y:=⟨_,rfl⟩;rw[hy]at hh hk;have HY:=ae hy;have n0:¬ y%24<16:=by omega
 have n16:¬ y%24=16:=by omega
 have n17:¬ y%24=17:=by omega
 have n18:¬ y%24=18:=by omega
 clear hy hx h HR
 go_enter func106,ntmps106
 go_wp2_with fail;refine(aC N D xs w H.u HX.u).mono ?_;rintro e w1 ⟨he,f,b⟩;rw[HY.u]at he;subst he
 go_wp2_with fail;refine(AY w1).mono ?_;rintro e w3 ⟨v,rfl,hv,d⟩;have HV:=ae hv;obtain⟨a,c,rfl,-⟩:=hv;go_wp2;go_ret;have g:w1.heap.size=w.heap.size:=b.size;exact⟨⟨_,rfl,HV.u.mono (by omega) lR⟩,f.keep d (by omega),(b.mv _).trans (eD d D (by omega))⟩
theorem pX(N D lo:Nat)(xs:List Int)(w:World)(h:bm N D w xs)(hx:bZ xs)(_hD:D<lo)(_hlo:lo<=w.heap.size)(hk:xs.headD 0%24=20)(hk2:xs.tail.headD 0%3=0) :
  Calls prog 106 #[.pointer (some ⟨D,0,none⟩)] w (AL N D lo w (bT xs)):=by
 have H:=ae h;have HX:=ae hx;have hh:=hx.head;have d:=hx.tail.head;have HR:Hi (bT xs=([],xs.tail.tail)):=by
  show bT xs=_;unfold bT;rw[if_neg (by omega),if_neg (by omega),if_neg (by omega),if_neg (by omega),if_neg (by omega),if_pos hk,if_pos hk2]
 rw[HR.u];obtain⟨y,hy⟩ : ∃ y,xs.headD 0=y:=⟨_,rfl⟩;obtain⟨y2,a⟩ : ∃ y,xs.tail.headD 0=y:=⟨_,rfl⟩;rw[hy]at hh hk;rw[a]at d hk2;have HY:=ae hy;have f:=ae a;have n0:¬ y%24<16:=by omega
 have n16:¬ y%24=16:=by omega
 have n17:¬ y%24=17:=by omega
 have n18:¬ y%24=18:=by omega
 have n19:¬ y%24=19:=by omega
 clear hy hx h HR a
 go_enter func106,ntmps106
 go_wp2_with fail;refine(aC N D xs w H.u HX.u).mono ?_;rintro e w1 ⟨he,g,b⟩;rw[HY.u]at he;subst he
 go_wp2_with fail;refine(aC N D xs.tail w1 g HX.u.tail).mono ?_;rintro e w2 ⟨he,j,c⟩;rw[f.u]at he;subst he;go_wp2;go_ret;have k:w1.heap.size=w.heap.size:=b.size;have l:w2.heap.size=w1.heap.size:=c.size;exact⟨⟨_,rfl,none,0,rfl,Nat.zero_le _,fun i=>by simp[aA],fun h0=>absurd h0 (by simp)⟩,j,(b.mv _).trans (c.mv _)⟩
theorem qo(N D lo:Nat)(xs:List Int)(w:World)(h:bm N D w xs)(hx:bZ xs)(hD:D<lo)(hlo:lo<=w.heap.size)(hk:xs.headD 0%24=20)(hk2:xs.tail.headD 0%3=1) :
  Calls prog 106 #[.pointer (some ⟨D,0,none⟩)] w (AL N D lo w (bT xs)):=by
 have H:=ae h;have HX:=ae hx;have hh:=hx.head;have i:=hx.tail.head;have HR:Hi (bT xs=([0,255],xs.tail.tail)):=by
  show bT xs=_;unfold bT;rw[if_neg (by omega),if_neg (by omega),if_neg (by omega),if_neg (by omega),if_neg (by omega),if_pos hk,if_neg (by omega),if_pos hk2]
 rw[HR.u];obtain⟨y,hy⟩ : ∃ y,xs.headD 0=y:=⟨_,rfl⟩;obtain⟨y2,b⟩ : ∃ y,xs.tail.headD 0=y:=⟨_,rfl⟩;rw[hy]at hh hk;rw[b]at i hk2;have HY:=ae hy;have j:=ae b;have n0:¬ y%24<16:=by omega
 have n16:¬ y%24=16:=by omega
 have n17:¬ y%24=17:=by omega
 have n18:¬ y%24=18:=by omega
 have n19:¬ y%24=19:=by omega
 clear hy hx h HR b
 go_enter func106,ntmps106
 go_wp2_with fail;refine(aC N D xs w H.u HX.u).mono ?_;rintro e w1 ⟨he,k,d⟩;rw[HY.u]at he;subst he
 go_wp2_with fail;refine(aC N D xs.tail w1 k HX.u.tail).mono ?_;rintro e w2 ⟨he,l,f⟩;rw[j.u]at he;subst he
 go_wp2_with fail;refine(Bg w2).mono ?_;rintro e w3 ⟨v,rfl,hv,g⟩;have HV:=ae hv;obtain⟨a,c,rfl,-⟩:=hv;go_wp2;go_ret;have m:w1.heap.size=w.heap.size:=d.size;have n:w2.heap.size=w1.heap.size:=f.size;exact⟨⟨_,rfl,HV.u.mono (by omega) lR⟩,l.keep g (by omega),(d.mv _).trans ((f.mv _).trans (eD g D (by omega)))⟩
theorem pz(N D lo:Nat)(xs:List Int)(w:World)(h:bm N D w xs)(hx:bZ xs)(hD:D<lo)(hlo:lo<=w.heap.size)(hk:xs.headD 0%24=20)(hk2:xs.tail.headD 0%3=2) :
  Calls prog 106 #[.pointer (some ⟨D,0,none⟩)] w (AL N D lo w (bT xs)):=by
 have H:=ae h;have HX:=ae hx;have hh:=hx.head;have g:=hx.tail.head;have HR:Hi (bT xs=([97,104],xs.tail.tail)):=by
  show bT xs=_;unfold bT;rw[if_neg (by omega),if_neg (by omega),if_neg (by omega),if_neg (by omega),if_neg (by omega),if_pos hk,if_neg (by omega),if_neg (by omega)]
 rw[HR.u];obtain⟨y,hy⟩ : ∃ y,xs.headD 0=y:=⟨_,rfl⟩;obtain⟨y2,c⟩ : ∃ y,xs.tail.headD 0=y:=⟨_,rfl⟩;rw[hy]at hh hk;rw[c]at g hk2;have HY:=ae hy;have i:=ae c;have n0:¬ y%24<16:=by omega
 have n16:¬ y%24=16:=by omega
 have n17:¬ y%24=17:=by omega
 have n18:¬ y%24=18:=by omega
 have n19:¬ y%24=19:=by omega
 clear hy hx h HR c
 go_enter func106,ntmps106
 go_wp2_with fail;refine(aC N D xs w H.u HX.u).mono ?_;rintro e w1 ⟨he,j,d⟩;rw[HY.u]at he;subst he
 go_wp2_with fail;refine(aC N D xs.tail w1 j HX.u.tail).mono ?_;rintro e w2 ⟨he,k,f⟩;rw[i.u]at he;subst he;go_wp2;go_ret;have l:w1.heap.size=w.heap.size:=d.size;have m:w2.heap.size=w1.heap.size:=f.size;exact⟨⟨_,rfl,(gW w2 (a:=97) (b:=104) (dZ (by omega) (by omega)) (dZ (by omega) (by omega))).mono (lo':=lo) (by omega) lR⟩,k.keep (ai w2 _) (by omega),(d.mv _).trans ((f.mv _).trans (eD (ai w2 _) D (by omega)))⟩
theorem sB(N D lo:Nat)(xs:List Int)(w:World)(h:bm N D w xs)(hx:bZ xs)(hD:D<lo)(hlo:lo<=w.heap.size)(hk:21<=xs.headD 0%24) :
  Calls prog 106 #[.pointer (some ⟨D,0,none⟩)] w (AL N D lo w (bT xs)):=by
 have a3:=run_make_row' (P:=prog) 31 4 (.bool false) 1 underlying31 Tryz.zinBool rfl .i64 .i64 256 (by omega) (by omega);rw[show((256:Nat):Int)=256 from rfl]at a3;have H:=ae h;have HX:=ae hx;have hh:=hx.head;have al:=hx.tail.head;obtain⟨y,hy⟩ : ∃ y,xs.headD 0=y:=⟨_,rfl⟩;obtain⟨y2,B⟩ : ∃ y,xs.tail.headD 0=y:=⟨_,rfl⟩;obtain⟨n,hn⟩ : ∃ n:Nat,(1+y2%4).toNat=n:=⟨_,rfl⟩;obtain⟨R,hR⟩ : ∃ R,AP n (fun _=>false) xs.tail.tail=R:=⟨_,rfl⟩;rw[hy]at hh hk;rw[B]at al;have HR:Hi (bT xs=(vn (if y%24=23 then fun b=>!R.1 b else R.1),R.2)):=by
  show bT xs=_;unfold bT;rw[hy,B,if_neg (by omega),if_neg (by omega),if_neg (by omega),if_neg (by omega),if_neg (by omega),if_neg (by omega),hn,hR]
 rw[HR.u];obtain⟨Q,hQ⟩ : ∃ Q,Q=vn (if y%24=23 then fun b=>!R.1 b else R.1):=⟨_,rfl⟩;rw[<-hQ];have HQ:=ae hQ;have HY:=ae hy;have an:=ae B;have ao:=ae hR;have b4:1+y2%4=(n:Int):=by omega
 have n0:¬ y%24<16:=by omega
 have n16:¬ y%24=16:=by omega
 have n17:¬ y%24=17:=by omega
 have n18:¬ y%24=18:=by omega
 have n19:¬ y%24=19:=by omega
 have n20:¬ y%24=20:=by omega
 clear hy hx h HR B hR hn hQ
 go_enter func106,ntmps106
 go_wp2_with fail;refine(aC N D xs w H.u HX.u).mono ?_;rintro e w1 ⟨he,a4,S⟩;rw[HY.u]at he;subst he;have ap:w1.heap.size=w.heap.size:=S.size;have C:=ae (vY w1);have T:=ae (ai w1 (.cells (madeCells #[.bool false] 256) 4));have a5:=ae (a4.keep T.u (by omega));have a6:=ae ((S.mv w.heap.size).trans (eD T.u D (by omega)));have b5:w1.heap.size<(w1.alloc (.cells (madeCells #[.bool false] 256) 4)).heap.size:=by rw[ah];omega
 clear a4 S
 go_wp2_with fail;rw[ap]at *;generalize w1.alloc (.cells (madeCells #[.bool false] 256) 4)=W1 at *;refine(aC N D xs.tail W1 a5.u HX.u.tail).mono ?_;rintro e w2 ⟨he,a7,E⟩;rw[an.u]at he;subst he;have b6:w2.heap.size=W1.heap.size:=E.size;have aq:Hi (gw w2 w.heap.size (fun _=>false)):=World.rowIs.of_block C.u (E.block _ (by omega));have ar:=ae a7;have av:=ae (a6.u.trans (E.mv w.heap.size));clear a7 E C T a5 a6 a3
 go_wp2_with fail
 go_loopw [8] (fun iv wr=>∃ (m:Nat) (p:Nat->Bool) (zs:List Int),m<=n/\iv=.int .i64 (m:Nat)/\bZ zs/\AP (n-m) p zs=R/\gw wr w.heap.size p/\bm N D wr zs/\Mv w.heap.size D w wr/\w.heap.size<wr.heap.size) (fun iv _=>n-(intOf iv).toNat)
 case atStart=>exact⟨0,fun _=>false,xs.tail.tail,Nat.zero_le _,rfl,HX.u.tail.tail,ao.u,aq.u,ar.u,av.u,by omega⟩
 obtain⟨m,p,zs,hm,rfl,F,q,U,V,G,b7⟩:=hrel;obtain⟨w3,rfl⟩ : ∃ w3,w3=wr:=⟨_,rfl⟩;have I:=ae U;have J:=ae V;have K:=ae G;have HZ:=ae F
 by_cases hlt:m<n
 ·have a8:(m:Int)<1+y2%4:=by omega
  obtain⟨z1,r⟩ : ∃ z,zs.headD 0=z:=⟨_,rfl⟩;obtain⟨z2,j⟩ : ∃ z,zs.tail.headD 0=z:=⟨_,rfl⟩;have aw:=ae r;have ax:=ae j;have a9:=F.tail.head;rw[j]at a9;have aa:=fm (y:=z1);obtain⟨l,hl⟩ : ∃ l:Nat,dB z1=(l:Int):=⟨(dB z1).toNat,by omega⟩;have W:Hi (AP (n-(m+1)) (Cx p (dB z1) (dB z1+dW z2) 256) zs.tail.tail=R):=by
   show AP _ _ _=_;rw[show n-m=n-(m+1)+1 by omega,AP,r,j]at q;exact q
  have HL:=ae hl;rw[hl]at aa;clear U V G q r j F
  go_wp2_with fail;refine(cJ N D zs w3 J.u HZ.u).mono ?_;rintro e w5 ⟨he,ab,L⟩;rw[aw.u,HL.u]at he;subst he
  go_wp2_with fail;refine(aC N D zs.tail w5 ab HZ.u.tail).mono ?_;rintro e w4 ⟨he,ad,M⟩;rw[ax.u]at he;subst he;have b8:w5.heap.size=w3.heap.size:=L.size;have b9:w4.heap.size=w5.heap.size:=M.size;have af:Hi (gw w4 w.heap.size p):=World.rowIs.of_block I.u ((M.block _ (by omega)).trans (L.block _ (by omega)));have X:=ae ad;have s:=ae (K.u.trans ((L.mv _).trans (M.mv _)));clear ab L ad M I J K
  by_cases hw3:0<z2%3
  ·have O:Hi (dW z2=0):=if_pos hw3;have Y:Hi (gw w4 w.heap.size (fun b=>p b||decide ((l:Int)<=(b:Int)/\b<l))):=af.u.eq (fun b _=>by simp;omega)
   go_wp2_with fail
   go_loopw [11] (fun bv wq=>∃ k:Nat,bv=.int .i64 (k:Nat)/\l<=k/\(k:Int)<=(l:Int)+0+1/\k<=256/\gw wq w.heap.size (fun b=>p b||decide ((l:Int)<=(b:Int)/\b<k))/\Below w.heap.size w4 wq) (fun bv _=>256-(intOf bv).toNat)
   case atStart=>exact⟨l,by go_num,Nat.le_refl _,by omega,by omega,Y.u,Below.refl _ _⟩
   obtain⟨k,rfl,b0,ag,b1,a,g⟩:=hrel;obtain⟨w6,rfl⟩ : ∃ w6,w6=wr:=⟨_,rfl⟩;have f:=ae a;have c:=ae g;have y1:=World.rowIs.frozen a k
   by_cases c1:(k:Int)<=(l:Int)+0
   ·by_cases c2:(k:Int)<256
    ·have y0:w6.cell? ⟨w.heap.size,k,none⟩=some (.bool (p k||decide ((l:Int)<=(k:Int)/\k<k))):=World.rowIs.cell a (i:=k) (by omega);have t:=ae (f.u.put k true);have v:=ae (aI c.u lR (o:=k) (.bool true));clear a g;go_wp2
     go_roundw
     case rel=>exact⟨k+1,by go_num,by omega,by omega,by omega,t.u.eq (fun b _=>by
      by_cases e:b=k
      ·subst e;rw[if_pos rfl];simp<;>omega
      have e2:(b<k+1)↔b<k:=by omega
      rw[if_neg e];simp only[e2]),v.u⟩
     simp[intOf];omega
    omega
   have HN:Hi (gw w6 w.heap.size (Cx p (dB z1) (dB z1+dW z2) 256)):=f.u.eq (fun b hb=>by
    unfold Cx;rw[O.u,HL.u]
    congr 1
    rw[Bool.eq_iff_iff];simp;omega)
   clear a f y1;go_wp2
   go_roundw
   case rel=>exact⟨m+1,_,zs.tail.tail,by omega,by go_num,HZ.u.tail.tail,W.u,HN.u,X.u.keep c.u (by omega),s.u.trans (eD c.u D (by omega)),by have:=c.u.size;omega⟩
   simp[intOf];omega
  have O:Hi (dW z2=z2%12):=if_neg hw3;have bb:0<=z2%12/\z2%12<=11:=by omega
  have Y:Hi (gw w4 w.heap.size (fun b=>p b||decide ((l:Int)<=(b:Int)/\b<l))):=af.u.eq (fun b _=>by simp;omega)
  go_wp2_with fail
  go_loopw [11] (fun bv wq=>∃ k:Nat,bv=.int .i64 (k:Nat)/\l<=k/\(k:Int)<=(l:Int)+z2%12+1/\k<=256/\gw wq w.heap.size (fun b=>p b||decide ((l:Int)<=(b:Int)/\b<k))/\Below w.heap.size w4 wq) (fun bv _=>256-(intOf bv).toNat)
  case atStart=>exact⟨l,by go_num,Nat.le_refl _,by omega,by omega,Y.u,Below.refl _ _⟩
  obtain⟨k,rfl,b0,ag,b1,a,g⟩:=hrel;obtain⟨w6,rfl⟩ : ∃ w6,w6=wr:=⟨_,rfl⟩;have f:=ae a;have c:=ae g;have y1:=World.rowIs.frozen a k
  by_cases c1:(k:Int)<=(l:Int)+z2%12
  ·by_cases c2:(k:Int)<256
   ·have y0:w6.cell? ⟨w.heap.size,k,none⟩=some (.bool (p k||decide ((l:Int)<=(k:Int)/\k<k))):=World.rowIs.cell a (i:=k) (by omega);have t:=ae (f.u.put k true);have v:=ae (aI c.u lR (o:=k) (.bool true));clear a g;go_wp2
    go_roundw
    case rel=>exact⟨k+1,by go_num,by omega,by omega,by omega,t.u.eq (fun b _=>by
     by_cases e:b=k
     ·subst e;rw[if_pos rfl];simp<;>omega
     have e2:(b<k+1)↔b<k:=by omega
     rw[if_neg e];simp only[e2]),v.u⟩
    simp[intOf];omega
   have HN:Hi (gw w6 w.heap.size (Cx p (dB z1) (dB z1+dW z2) 256)):=f.u.eq (fun b hb=>by
    unfold Cx;rw[O.u,HL.u]
    congr 1
    rw[Bool.eq_iff_iff];simp;omega)
   clear a f y1;go_wp2
   go_roundw
   case rel=>exact⟨m+1,_,zs.tail.tail,by omega,by go_num,HZ.u.tail.tail,W.u,HN.u,X.u.keep c.u (by omega),s.u.trans (eD c.u D (by omega)),by have:=c.u.size;omega⟩
   simp[intOf];omega
  have HN:Hi (gw w6 w.heap.size (Cx p (dB z1) (dB z1+dW z2) 256)):=f.u.eq (fun b hb=>by
   unfold Cx;rw[O.u,HL.u]
   congr 1
   rw[Bool.eq_iff_iff];simp;omega)
  clear a f y1;go_wp2
  go_roundw
  case rel=>exact⟨m+1,_,zs.tail.tail,by omega,by go_num,HZ.u.tail.tail,W.u,HN.u,X.u.keep c.u (by omega),s.u.trans (eD c.u D (by omega)),by have:=c.u.size;omega⟩
  simp[intOf];omega
 have a8:¬ (m:Int)<1+y2%4:=by omega
 rw[show n-m=0 by omega]at q;have e1:R=(p,zs):=q.symm;subst e1;have bc:=G.size;clear U V G q F
 by_cases h23:y%24=23
 ·have Z:Hi (Q=vn (fun b=>!p b)):=by show Q=_;rw[HQ.u,if_pos h23]
  have C:=ae (I.u.eq (p':=fun b=>if b<0 then !p b else p b) (fun b _=>by rw[if_neg (by omega)]))
  go_wp2_with fail
  go_loopw [12] (fun bv wq=>∃ k:Nat,bv=.int .i64 (k:Nat)/\k<=256/\gw wq w.heap.size (fun b=>if b<k then !p b else p b)/\Below w.heap.size w3 wq) (fun bv _=>256-(intOf bv).toNat)
  case atStart=>exact⟨0,rfl,by omega,C.u,Below.refl _ _⟩
  obtain⟨k,rfl,ag,a,g⟩:=hrel;obtain⟨w7,rfl⟩ : ∃ w7,w7=wr:=⟨_,rfl⟩;have f:=ae a;have c:=ae g
  by_cases hkl:k<256
  ·have b3:(k:Int)<256:=by omega
   have y0:w7.cell? ⟨w.heap.size,k,none⟩=some (.bool (p k)):=by rw[World.rowIs.cell a (i:=k) hkl];simp
   have y1:=World.rowIs.frozen a k;have t:=ae (f.u.put k (!p k));have v:=ae (aI c.u lR (o:=k) (.bool (!p k)));clear a g;go_wp2
   go_roundw
   case rel=>exact⟨k+1,by go_num,by omega,t.u.eq (fun b _=>by
    by_cases e:b=k
    ·subst e;rw[if_pos rfl,if_pos (by omega)]
    have e2:(b<k+1)↔b<k:=by omega
    rw[if_neg e];simp only[e2]),v.u⟩
   simp[intOf];omega
  obtain rfl:k=256:=by omega
  have a0:Hi (gw w7 w.heap.size (fun b=>!p b)):=f.u.eq (fun b hb=>by rw[if_pos hb]);have a1:=ae (J.u.keep c.u (by omega));have a2:=ae (K.u.trans (eD c.u D (by omega)));have bd:=c.u.size;clear a g f;have x:=ae (jw w.heap.size (fun b=>!p b) w7 a0.u)
  go_wp2_with fail;refine x.u.mono ?_;rintro e w8 ⟨v8,rfl,d,A⟩;obtain⟨o8,d8,rfl⟩:=aj d;have b2:=(iC (fun b=>!p b)).1;have HF:=ae ((bP d (lo:=lo) (by omega) (by unfold maxLen;omega)).ints (iC _).in64);clear d x;go_wp2;go_ret;refine⟨⟨_,rfl,?_⟩,a1.u.keep A (by omega),a2.u.trans (eD A D (by omega))⟩;show aT lo _ _ _ Q;rw[Z.u];exact HF.u
 have Z:Hi (Q=vn p):=by show Q=_;rw[HQ.u,if_neg h23]
 have a0:=ae I.u;have a1:=ae J.u;have a2:=ae K.u;have x:=ae (jw w.heap.size p w3 a0.u)
 go_wp2_with fail;refine x.u.mono ?_;rintro e w8 ⟨v8,rfl,d,A⟩;obtain⟨o8,d8,rfl⟩:=aj d;have b2:=(iC p).1;have HF:=ae ((bP d (lo:=lo) (by omega) (by unfold maxLen;omega)).ints (iC _).in64);clear d x;go_wp2;go_ret;refine⟨⟨_,rfl,?_⟩,a1.u.keep A (by omega),a2.u.trans (eD A D (by omega))⟩;show aT lo _ _ _ Q;rw[Z.u];exact HF.u
theorem gb(N D lo:Nat)(xs:List Int)(w:World)(h:bm N D w xs)(hx:bZ xs)(hD:D<lo)(hlo:lo<=w.heap.size):Calls prog 106 #[.pointer (some ⟨D,0,none⟩)] w (AL N D lo w (bT xs)):=by
 have hh:=hx.head
 by_cases h1:xs.headD 0%24<16
 ·exact ru N D lo xs w h hx hD hlo h1
 by_cases h2:xs.headD 0%24=16
 ·exact nD N D lo xs w h hx hD hlo h2
 by_cases h3:xs.headD 0%24=17
 ·exact nH N D lo xs w h hx hD hlo h3
 by_cases h4:xs.headD 0%24=18
 ·exact nZ N D lo xs w h hx hD hlo h4
 by_cases h5:xs.headD 0%24=19
 ·exact nL N D lo xs w h hx hD hlo h5
 by_cases h6:xs.headD 0%24=20
 ·by_cases g0:xs.tail.headD 0%3=0
  ·exact pX N D lo xs w h hx hD hlo h6 g0
  by_cases g1:xs.tail.headD 0%3=1
  ·exact qo N D lo xs w h hx hD hlo h6 g1
  exact pz N D lo xs w h hx hD hlo h6 (by omega)
 exact sB N D lo xs w h hx hD hlo (by omega)
theorem nU(N D lo:Nat)(xs:List Int)(w:World)(h:bm N D w xs)(hx:bZ xs)(hD:D<lo)(hlo:lo<=w.heap.size)  :
  Calls prog 67 #[.pointer (some ⟨D,0,none⟩),.int .i64 0] w (zd N D lo w (sE (bT xs.tail).1,(bT xs.tail).2)):=by
 have H:=ae h;have HX:=ae hx;have hh:=hx.head;have k:(0:Int)<=0:=by omega
 obtain⟨y,hy⟩ : ∃ y,xs.headD 0=y:=⟨_,rfl⟩;rw[hy]at hh;have HY:=ae hy;clear hy h hx
 go_enter func67,ntmps67
 go_wp2_with fail;refine(aC N D xs w H.u HX.u).mono ?_;rintro e w1 ⟨he,b,a⟩;rw[HY.u]at he;subst he;have l:w1.heap.size=w.heap.size:=a.size;have HC:=ae b;have HM:=ae (a.mv w.heap.size);obtain⟨w2,i⟩ : ∃ w2,w2=w1:=⟨_,rfl⟩;subst i;have m:w2.heap.size=w2.heap.size:=rfl;clear b a
 go_wp2_with fail;refine(gb N D lo xs.tail w2 HC.u HX.u.tail hD (by omega)).mono ?_;rintro e w3 ⟨⟨v3,rfl,c⟩,j,d⟩;have H3:=ae c;obtain⟨a3,c3,rfl,-⟩:=c;have n:=d.size
 go_wp2_with fail;refine(dX lo _ _ w3 H3.u (by omega) (Nat.le_trans (gr _).1 (by omega))).mono ?_;rintro e w4 ⟨v4,rfl,f,g⟩;have H4:=ae f;obtain⟨a4,c4,rfl,-⟩:=f;go_wp2;go_ret;exact⟨⟨_,rfl,H4.u⟩,j.keep g (by omega),HM.u.trans ((d.mono (by omega)).trans (eD g D (by omega)))⟩
theorem nn(N D lo d:Nat)(xs:List Int)(w:World)(h:bm N D w xs)(hx:bZ xs)(hD:D<lo)(hlo:lo<=w.heap.size)(hk:xs.headD 0%16<4) :
  Calls prog 67 #[.pointer (some ⟨D,0,none⟩),.int .i64 ((d:Int)+1)] w (zd N D lo w (sE (bT xs.tail).1,(bT xs.tail).2)):=by
 have H:=ae h;have HX:=ae hx;have hh:=hx.head;have l:(0:Int)<=((d:Int)+1):=by omega
 have m:¬ (d:Int)+1<=0:=by omega
 obtain⟨y,hy⟩ : ∃ y,xs.headD 0=y:=⟨_,rfl⟩;rw[hy]at hh hk;have HY:=ae hy;clear hy h hx
 go_enter func67,ntmps67
 go_wp2_with fail;refine(aC N D xs w H.u HX.u).mono ?_;rintro e w1 ⟨he,b,a⟩;rw[HY.u]at he;subst he;have n:w1.heap.size=w.heap.size:=a.size;have HC:=ae b;have HM:=ae (a.mv w.heap.size);obtain⟨w2,j⟩ : ∃ w2,w2=w1:=⟨_,rfl⟩;subst j;have o:w2.heap.size=w2.heap.size:=rfl;clear b a
 go_wp2_with fail;refine(gb N D lo xs.tail w2 HC.u HX.u.tail hD (by omega)).mono ?_;rintro e w3 ⟨⟨v3,rfl,c⟩,k,f⟩;have H3:=ae c;obtain⟨a3,c3,rfl,-⟩:=c;have p:=f.size
 go_wp2_with fail;refine(dX lo _ _ w3 H3.u (by omega) (Nat.le_trans (gr _).1 (by omega))).mono ?_;rintro e w4 ⟨v4,rfl,g,i⟩;have H4:=ae g;obtain⟨a4,c4,rfl,-⟩:=g;go_wp2;go_ret;exact⟨⟨_,rfl,H4.u⟩,k.keep i (by omega),HM.u.trans ((f.mono (by omega)).trans (eD i D (by omega)))⟩
theorem oe(N D lo d:Nat)(xs:List Int)(w:World)(h:bm N D w xs)(hx:bZ xs)(hD:D<lo)(hlo:lo<=w.heap.size)(hk:¬ xs.headD 0%16<4)(hl:xs.tail.length=0) :
  Calls prog 67 #[.pointer (some ⟨D,0,none⟩),.int .i64 ((d:Int)+1)] w (zd N D lo w (sE (bT xs.tail).1,(bT xs.tail).2)):=by
 have H:=ae h;have HX:=ae hx;have hh:=hx.head;have m:(0:Int)<=((d:Int)+1):=by omega
 have n:¬ (d:Int)+1<=0:=by omega
 obtain⟨q,hq⟩ : ∃ q,xs.tail.length=q:=⟨_,rfl⟩;have HQ:=ae hq;have o:(q:Int)=0:=by omega
 have p:q=0:=by omega
 clear hq;obtain⟨y,hy⟩ : ∃ y,xs.headD 0=y:=⟨_,rfl⟩;rw[hy]at hh hk;have HY:=ae hy;clear hy h hx
 go_enter func67,ntmps67
 go_wp2_with fail;refine(aC N D xs w H.u HX.u).mono ?_;rintro e w1 ⟨he,c,a⟩;rw[HY.u]at he;subst he;have r:w1.heap.size=w.heap.size:=a.size
 go_wp2_with fail;refine(jP N D xs.tail w1 c).mono ?_;rintro e w2 ⟨he,f,b⟩;rw[HQ.u]at he;subst he;have s:w2.heap.size=w1.heap.size:=b.size;have HC:=ae f;have HM:=ae ((a.mv w.heap.size).trans (b.mv w.heap.size));clear c a f b
 go_wp2_with fail;refine(gb N D lo xs.tail w2 HC.u HX.u.tail hD (by omega)).mono ?_;rintro e w3 ⟨⟨v3,rfl,g⟩,l,i⟩;have H3:=ae g;obtain⟨a3,c3,rfl,-⟩:=g;have t:=i.size
 go_wp2_with fail;refine(dX lo _ _ w3 H3.u (by omega) (Nat.le_trans (gr _).1 (by omega))).mono ?_;rintro e w4 ⟨v4,rfl,j,k⟩;have H4:=ae j;obtain⟨a4,c4,rfl,-⟩:=j;go_wp2;go_ret;exact⟨⟨_,rfl,H4.u⟩,l.keep k (by omega),HM.u.trans ((i.mono (by omega)).trans (eD k D (by omega)))⟩
theorem pZ(N D lo d:Nat)(xs:List Int)(w:World)(h:bm N D w xs)(hx:bZ xs)(hD:D<lo)(hlo:lo<=w.heap.size)(hd:d<=3)(ih:∀ (xs:List Int) (w:World),bm N D w xs->bZ xs->lo<=w.heap.size->Calls prog 67 #[.pointer (some ⟨D,0,none⟩),.int .i64 (d:Nat)] w (zd N D lo w (bC d xs)))(hk:¬ xs.headD 0%16<4)(hl:¬ xs.tail.length=0) :
  Calls prog 67 #[.pointer (some ⟨D,0,none⟩),.int .i64 ((d:Int)+1)] w (zd N D lo w (bC (d+1) xs)):=by
 obtain⟨R,hR⟩ : ∃ R,R=bC (d+1) xs:=⟨_,rfl⟩;rw[<-hR];unfold bC at hR;rw[if_neg (fun q=>q.elim hk hl)]at hR;have H:=ae h;have HX:=ae hx;have hh:=hx.head;have C:(0:Int)<=((d:Int)+1):=by omega
 have E:¬ (d:Int)+1<=0:=by omega
 obtain⟨q,hq⟩ : ∃ q,xs.tail.length=q:=⟨_,rfl⟩;have HQ:=ae hq;have F:¬ (q:Int)=0:=by omega
 have G:¬ q=0:=by omega
 clear hq hl;have IH:=ae ih;have hp:2 ^ d<=8:=Nat.le_trans (Nat.pow_le_pow_right (by omega) hd) (by decide);have I:(d:Int)+1-1=(d:Int):=by omega
 clear ih;obtain⟨y,hy⟩ : ∃ y,xs.headD 0=y:=⟨_,rfl⟩;rw[hy]at hh hk hR;have HY:=ae hy;have HR:=ae hR;clear hy h hx hR
 go_enter func67,ntmps67
 go_wp2_with fail;refine(aC N D xs w H.u HX.u).mono ?_;rintro e w1 ⟨he,t,o⟩;rw[HY.u]at he;subst he;have J:w1.heap.size=w.heap.size:=o.size
 go_wp2_with fail;refine(jP N D xs.tail w1 t).mono ?_;rintro e w2 ⟨he,v,p⟩;rw[HQ.u]at he;subst he;have K:w2.heap.size=w1.heap.size:=p.size;have HC:=ae v;have HM:=ae ((o.mv w.heap.size).trans (p.mv w.heap.size));clear t o v p
 by_cases k2:y%16<6
 ·have e9:=HR.u;rw[if_pos k2]at e9;subst e9
  go_wp2_with fail
  ·exfalso
   first
   | (have h9:((d:Int)+1<=0∨y%16<4)∨((q:Int)==0)=true:=by assumption
      simp at h9;omega)
   | (have h9:(d:Int)+1<=0∨((q:Int)==0)=true:=by assumption
      simp at h9;omega)
  refine(mS N D lo xs.tail w2 HC.u HX.u.tail hD (by omega)).mono ?_;rintro e w3 ⟨⟨v3,rfl,a⟩,g,b⟩;have H3:=ae a;obtain⟨a3,c3,rfl,-⟩:=a;go_wp2;go_ret;exact⟨⟨_,rfl,H3.u⟩,g,HM.u.trans (b.mono (by omega))⟩
 by_cases k3:y%16=6
 ·have e9:=HR.u;rw[if_neg k2,if_pos k3]at e9;subst e9
  go_wp2_with fail
  ·exfalso
   first
   | (have h9:((d:Int)+1<=0∨y%16<4)∨((q:Int)==0)=true:=by assumption
      simp at h9;omega)
   | (have h9:(d:Int)+1<=0∨((q:Int)==0)=true:=by assumption
      simp at h9;omega)
  refine(BG lo w2 (by omega)).mono ?_;rintro e w3 ⟨v3,rfl,a,x⟩;have H3:=ae a;obtain⟨a3,c3,rfl,-⟩:=a;go_wp2;go_ret;exact⟨⟨_,rfl,H3.u⟩,HC.u.keep x (by omega),HM.u.trans (eD x D (by omega))⟩
 by_cases k4:y%16<10
 ·have e9:=HR.u;rw[if_neg k2,if_neg k3,if_pos k4]at e9;subst e9
  go_wp2_with fail
  ·exfalso
   first
   | (have h9:((d:Int)+1<=0∨y%16<4)∨((q:Int)==0)=true:=by assumption
      simp at h9;omega)
   | (have h9:(d:Int)+1<=0∨((q:Int)==0)=true:=by assumption
      simp at h9;omega)
  refine(IH.u xs.tail w2 HC.u HX.u.tail (by omega)).mono ?_;rintro e w3 ⟨⟨v3,rfl,a⟩,g,b⟩;have H3:=ae a;obtain⟨a3,c3,rfl,-⟩:=a;have z:=b.size;have i:=ae (df d _ HX.u.tail);have j:=(cY d xs.tail).nl.mono (m:=79) (by omega);have r:=(cY d (bC d xs.tail).2).nl.mono (m:=79) (by omega);generalize bC d xs.tail=A at *
  go_wp2_with fail;refine(IH.u A.2 w3 g i.u (by omega)).mono ?_;rintro e w4 ⟨⟨v4,rfl,f⟩,k,c⟩;have H4:=ae f;obtain⟨a4,c4,rfl,-⟩:=f;have B:=c.size;have s:=ae (H3.u.mv c lR hD)
  go_wp2_with fail;refine(kz s.u H4.u j r (by omega) (by omega) (by omega)).mono ?_;rintro e w5 ⟨v5,rfl,l,n⟩;have H5:=ae l;obtain⟨a5,c5,rfl,-⟩:=l;go_wp2;go_ret;exact⟨⟨_,rfl,H5.u⟩,k.keep n (by omega),HM.u.trans ((b.mono (by omega)).trans ((c.mono (by omega)).trans (eD n D (by omega))))⟩
 by_cases k5:y%16<13
 ·have e9:=HR.u;rw[if_neg k2,if_neg k3,if_neg k4,if_pos k5]at e9;subst e9
  go_wp2_with fail
  ·exfalso
   first
   | (have h9:((d:Int)+1<=0∨y%16<4)∨((q:Int)==0)=true:=by assumption
      simp at h9;omega)
   | (have h9:(d:Int)+1<=0∨((q:Int)==0)=true:=by assumption
      simp at h9;omega)
  refine(IH.u xs.tail w2 HC.u HX.u.tail (by omega)).mono ?_;rintro e w3 ⟨⟨v3,rfl,a⟩,g,b⟩;have H3:=ae a;obtain⟨a3,c3,rfl,-⟩:=a;have z:=b.size;have i:=ae (df d _ HX.u.tail);have j:=(cY d xs.tail).nl.mono (m:=79) (by omega);have r:=(cY d (bC d xs.tail).2).nl.mono (m:=79) (by omega);generalize bC d xs.tail=A at *
  go_wp2_with fail;refine(IH.u A.2 w3 g i.u (by omega)).mono ?_;rintro e w4 ⟨⟨v4,rfl,f⟩,k,c⟩;have H4:=ae f;obtain⟨a4,c4,rfl,-⟩:=f;have B:=c.size;have s:=ae (H3.u.mv c lR hD)
  go_wp2_with fail;refine(pI s.u H4.u j r (by omega) (by omega) (by omega)).mono ?_;rintro e w5 ⟨v5,rfl,l,n⟩;have H5:=ae l;obtain⟨a5,c5,rfl,-⟩:=l;go_wp2;go_ret;exact⟨⟨_,rfl,H5.u⟩,k.keep n (by omega),HM.u.trans ((b.mono (by omega)).trans ((c.mono (by omega)).trans (eD n D (by omega))))⟩
 have e9:=HR.u;rw[if_neg k2,if_neg k3,if_neg k4,if_neg k5]at e9;subst e9
 go_wp2_with fail
 ·exfalso
  first
  | (have h9:((d:Int)+1<=0∨y%16<4)∨((q:Int)==0)=true:=by assumption
     simp at h9;omega)
  | (have h9:(d:Int)+1<=0∨((q:Int)==0)=true:=by assumption
     simp at h9;omega)
 refine(IH.u xs.tail w2 HC.u HX.u.tail (by omega)).mono ?_;rintro e w3 ⟨⟨v3,rfl,a⟩,g,b⟩;have H3:=ae a;obtain⟨a3,c3,rfl,-⟩:=a;have z:=b.size;have i:=ae (df d _ HX.u.tail);have j:=(cY d xs.tail).mono (m:=79) (by omega);generalize bC d xs.tail=A at *
 go_wp2_with fail;refine(nP N D lo 79 _ A.1 A.2 w3 g i.u hD (by omega) H3.u j (by omega)).mono ?_;rintro e w4 ⟨⟨v4,rfl,f⟩,k,c⟩;have H4:=ae f;obtain⟨a4,c4,rfl,-⟩:=f;go_wp2;go_ret;exact⟨⟨_,rfl,H4.u⟩,k,HM.u.trans ((b.mono (by omega)).trans (c.mono (by omega)))⟩
theorem fJ(N D lo:Nat)(hD:D<lo):∀ (d:Nat),d<=4->∀ (xs:List Int) (w:World),bm N D w xs->bZ xs->lo<=w.heap.size->Calls prog 67 #[.pointer (some ⟨D,0,none⟩),.int .i64 (d:Nat)] w (zd N D lo w (bC d xs))
 | 0,_,xs,w,h,hx,hlo=>nU N D lo xs w h hx hD hlo
 | d+1,hd,xs,w,h,hx,hlo=>by
  have ih:=fJ N D lo hD d (by omega);have hh:=hx.head;rw[show(((d+1:Nat):Int))=(d:Int)+1 from rfl]
  by_cases h1:xs.headD 0%16<4
  ·rw[bC,if_pos (Or.inl h1)];exact nn N D lo d xs w h hx hD hlo h1
  by_cases h2:xs.tail.length=0
  ·rw[bC,if_pos (Or.inr h2)];exact oe N D lo d xs w h hx hD hlo h1 h2
  exact pZ N D lo d xs w h hx hD hlo (by omega) ih h1 h2
theorem az.put3{lo B:Nat}{w:World}{v:Value}{xs:List El}{u0 u1 u2:Value}(h:az (B+1) w.heap.size w v xs)(hB:lo<=B+1):az lo (((w.setCell ⟨B,0,none⟩ u0).setCell ⟨B,1,none⟩ u1).setCell ⟨B,2,none⟩ u2).heap.size (((w.setCell ⟨B,0,none⟩ u0).setCell ⟨B,1,none⟩ u1).setCell ⟨B,2,none⟩ u2) v xs:=
 (h.same ((((ew.refl _ _ _).setCell (Or.inl (Nat.lt_succ_self _)) _).setCell (Or.inl (Nat.lt_succ_self _)) _).setCell (Or.inl (Nat.lt_succ_self _)) _)).mono hB (by simp only[aJ];exact Nat.le_refl _)
def GC(N D lo:Nat)(w:World)(l r:Bool)(R:List El×List Int)(e:Ending)(w':World):Prop:=(∃ v,e=.returned (.agg #[.bool l,.bool r,v])/\az lo w'.heap.size w' v R.1)/\bm N D w' R.2/\Mv w.heap.size D w w'
theorem iz(N D lo:Nat)(xs:List Int)(w:World)(h:bm N D w xs)(hx:bZ xs)(hD:D<lo)(hlo:lo<=w.heap.size) :
  Calls prog 28 #[.pointer (some ⟨D,0,none⟩)] w (GC N D lo w (decide (xs.headD 0%4=1)) (decide (5<xs.headD 0%8)) (dk xs)):=by
 have H:=ae h;have HX:=ae hx;have hh:=hx.head;obtain⟨y,hy⟩ : ∃ y,xs.headD 0=y:=⟨_,rfl⟩;rw[hy]at hh ⊢;obtain⟨R,hR⟩ : ∃ R,dk xs=R:=⟨_,rfl⟩;rw[hR];have ap:Hi (xh 6 (bC 4 xs.tail).1 (bC 4 xs.tail).2=R):=hR;have HY:=ae hy;have aq:=ae (df 4 _ hx.tail);have ar:=(cY 4 xs.tail).mono (m:=159) (by omega);clear hy h hx hR;have HP:=ae (lj.new w 25 (.bool false) (.bool false) (.slice none 0 0));have U:=ae (ai w (.cells #[.bool false,.bool false,.slice none 0 0] 25));have bo:(w.alloc (.cells #[.bool false,.bool false,.slice none 0 0] 25)).heap.size=w.heap.size+1:=ah _ _;have av:=ae (H.u.keep U.u (by omega));have o:=ae (Below.mv U.u D)
 go_enter func28,ntmps28
 go_wp2_with fail;generalize w.alloc (.cells #[.bool false,.bool false,.slice none 0 0] 25)=W0 at *;refine(aC N D xs W0 av.u HX.u).mono ?_;rintro e w1 ⟨he,V,C⟩;rw[HY.u]at he;subst he;have bq:w1.heap.size=W0.heap.size:=C.size;have aw:=ae V;have ax:=ae (C.mv (w.heap.size+1));clear V C
 go_wp2_with fail;refine(fJ N D (w.heap.size+1) (by omega) 4 lR xs.tail w1 aw.u HX.u.tail (by omega)).mono ?_;generalize bC 4 xs.tail=A at *;rintro e w2 ⟨⟨v2,rfl,W⟩,X,E⟩;have br:=E.size;have b0:=ae W;obtain⟨a2,c2,rfl,-⟩:=W;have b1:=ae X;have b2:=ae (ax.u.trans (E.mono (by omega)));clear X E
 go_wp2_with fail
 go_loopw [4,5] (fun tv iv wr=>∃ (m:Nat) (t:List El) (zs:List Int),m<=6/\iv=.int .i64 (m:Nat)/\bZ zs/\xh (6-m) t zs=R/\DT (159+80*m) t/\az (w.heap.size+1) wr.heap.size wr tv t/\bm N D wr zs/\Mv (w.heap.size+1) D W0 wr) (fun _ iv _=>6-(intOf iv).toNat)
 case atStart=>exact⟨0,A.1,A.2,Nat.zero_le _,rfl,aq.u,ap.u,ar,b0.u,b1.u,b2.u⟩
 obtain⟨m,t,zs,hm,rfl,F,j,Y,Z,a0,G⟩:=hrel;obtain⟨w3,rfl⟩ : ∃ w3,w3=wr:=⟨_,rfl⟩;have I:=ae Z;obtain⟨a3,c3,rfl,-⟩:=Z;have J:=ae a0;have p:=ae G;have HZ:=ae F;have c:=ae Y;have bs:=G.size;clear a0 G Y
 by_cases hlt:m<6
 ·have bl:(m:Int)<6:=by omega
  obtain⟨q,hq⟩ : ∃ q,zs.length=q:=⟨_,rfl⟩;have HQ:=ae hq;obtain⟨z,hz⟩ : ∃ z,zs.headD 0=z:=⟨_,rfl⟩;have b3:=ae hz;have b4:=F.head;rw[hz]at b4;rw[show 6-m=6-(m+1)+1 by omega,xh,hq,hz]at j;have a:=ae j;clear hq hz j F
  by_cases hq0:q=0
  ·have e1:R=(t,zs):=by have h9:=a.u;rw[if_pos hq0]at h9;exact h9.symm
   subst e1;have b5:¬ 0<(q:Int):=by omega
   go_wp2_with fail;refine(jP N D zs w3 J.u).mono ?_;rintro e w4 ⟨he,k,b⟩;rw[HQ.u]at he;subst he;have b6:w4.heap.size=w3.heap.size:=b.size;have b7:=ae k;have a1:=ae (p.u.trans (b.mv _));have b8:=ae (I.u.mv (b.mv w3.heap.size) lR (by omega));clear k b a;have BP:=HP.u.blk (a1.u.block w.heap.size (by omega) (by omega));obtain⟨p0,p1,p2⟩:=BP.facts;have z0:=World.rowIs.frozen BP 0;have z1:=World.rowIs.frozen BP 1;have z2:=World.rowIs.frozen BP 2;clear BP;go_wp2;refine bodyPost_ret (v:=.agg #[.bool (decide (y%4=1)),.bool (decide (5<y%8)),.slice a3 t.length c3]) (by simp[results,results28,go_sem,p0,p1,p2];rfl) rfl ⟨⟨_,rfl,?_⟩,?_,?_⟩
   ·exact b8.u.put3 (by omega)
   ·exact b7.u.keep (aI (aI (aI (Below.refl w.heap.size w4) lR _) lR _) lR _) (by omega)
   exact o.u.trans ((a1.u.mono (by omega)).trans (Below.mv (aI (aI (aI (Below.refl w.heap.size w4) lR _) lR _) lR _) D))
  have b5:0<(q:Int):=by omega
  go_wp2_with fail;refine(jP N D zs w3 J.u).mono ?_;rintro e w4 ⟨he,k,b⟩;rw[HQ.u]at he;subst he;have b6:w4.heap.size=w3.heap.size:=b.size
  go_wp2_with fail;refine(aC N D zs w4 k HZ.u).mono ?_;rintro e w5 ⟨he,a4,K⟩;rw[b3.u]at he;subst he;have bt:w5.heap.size=w4.heap.size:=K.size;have a5:=ae a4;have L:=(b.mv w3.heap.size).trans (K.mv w3.heap.size);have M:=ae (p.u.trans (L.mono (by omega)));have a7:=ae (I.u.mv L lR (by omega));clear k b a4 K L
  by_cases hz8:z%8<2
  ·have e1:R=(t,zs.tail):=by have h9:=a.u;rw[if_neg hq0,if_pos hz8]at h9;exact h9.symm
   subst e1;clear a;have BP:=HP.u.blk (M.u.block w.heap.size (by omega) (by omega));obtain⟨p0,p1,p2⟩:=BP.facts;have z0:=World.rowIs.frozen BP 0;have z1:=World.rowIs.frozen BP 1;have z2:=World.rowIs.frozen BP 2;clear BP;go_wp2;refine bodyPost_ret (v:=.agg #[.bool (decide (y%4=1)),.bool (decide (5<y%8)),.slice a3 t.length c3]) (by simp[results,results28,go_sem,p0,p1,p2];rfl) rfl ⟨⟨_,rfl,?_⟩,?_,?_⟩
   ·exact a7.u.put3 (by omega)
   ·exact a5.u.keep (aI (aI (aI (Below.refl w.heap.size w5) lR _) lR _) lR _) (by omega)
   exact o.u.trans ((M.u.mono (by omega)).trans (Below.mv (aI (aI (aI (Below.refl w.heap.size w5) lR _) lR _) lR _) D))
  have b9:=ae HZ.u.tail;have a8:=df 3 _ HZ.u.tail;have aa:=ae a8;have d:=ae ((cY 3 zs.tail).mono (m:=79) (by omega));clear a8
  go_wp2_with fail;refine(fJ N D (w.heap.size+1) (by omega) 3 (by omega) zs.tail w5 a5.u b9.u (by omega)).mono ?_;generalize bC 3 zs.tail=B at *;rintro e w6 ⟨⟨v6,rfl,ab⟩,ad,r⟩;have bv:=r.size;have bb:=ae ab;obtain⟨a6,c6,rfl,-⟩:=ab;have bc:=ae ad;have bd:=ae (M.u.trans (r.mono (by omega)));have af:=ae (a7.u.mv r lR (by omega));have ag:=ae (c.u.size _ w6 (af.u.mono (Nat.zero_le _) lR) (by have:=c.u.len;omega));have bx:=c.u.szb;have bz:=d.u.szb;clear ad r
  go_wp2_with fail;refine ag.u.mono ?_;rintro e w7 ⟨rfl,g⟩;have c0:=g.size;have bf:=ae (bc.u.keep g (by omega));have bi:=ae (bd.u.trans (eD g D (by omega)));have bj:=ae (af.u.below g lR);have al:=ae (bb.u.below g lR);have an:=ae (d.u.size _ w7 (al.u.mono (Nat.zero_le _) lR) (by have:=d.u.len;omega));clear g ag
  go_wp2_with fail;refine an.u.mono ?_;rintro e w8 ⟨rfl,i⟩;have bn:=i.size;have O:=ae (bf.u.keep i (by omega));have s:=ae (bi.u.trans (eD i D (by omega)));have P:=ae (bj.u.below i lR);have ao:=ae (al.u.below i lR);clear i an
  by_cases h90:90<wE t+wE B.1
  ·have e1:R=(t,B.2):=by have h9:=a.u;rw[if_neg hq0,if_neg (by omega),if_pos h90]at h9;exact h9.symm
   subst e1;clear a;have BP:=HP.u.blk (s.u.block w.heap.size (by omega) (by omega));obtain⟨p0,p1,p2⟩:=BP.facts;have z0:=World.rowIs.frozen BP 0;have z1:=World.rowIs.frozen BP 1;have z2:=World.rowIs.frozen BP 2;clear BP;go_wp2;refine bodyPost_ret (v:=.agg #[.bool (decide (y%4=1)),.bool (decide (5<y%8)),.slice a3 t.length c3]) (by simp[results,results28,go_sem,p0,p1,p2];rfl) rfl ⟨⟨_,rfl,?_⟩,?_,?_⟩
   ·exact P.u.put3 (by omega)
   ·exact O.u.keep (aI (aI (aI (Below.refl w.heap.size w8) lR _) lR _) lR _) (by omega)
   exact o.u.trans ((s.u.mono (by omega)).trans (Below.mv (aI (aI (aI (Below.refl w.heap.size w8) lR _) lR _) lR _) D))
  have x:Hi (xh (6-(m+1)) (if z%8<6 then fN t B.1 else ku t B.1) B.2=R):=by have h9:=a.u;rw[if_neg hq0,if_neg (by omega),if_neg h90]at h9;exact h9
  clear a
  by_cases hz6':z%8<6
  ·have l:Hi (xh (6-(m+1)) (fN t B.1) B.2=R):=by have h9:=x.u;rw[if_pos hz6']at h9;exact h9
   clear x
   go_wp2_with fail;refine(kz P.u ao.u c.u.nl d.u.nl (by omega) (by omega) (by omega)).mono ?_;rintro e w9 ⟨v9,rfl,n,f⟩;have Q:=ae n;obtain⟨a9,c9,rfl,-⟩:=n;have S:=ae (O.u.keep f (by omega));have T:=ae (s.u.trans (eD f D (by omega)));clear f;go_wp2
   go_roundw
   case rel=>exact⟨m+1,_,B.2,by omega,by go_num,aa.u,l.u,(c.u.cat d.u).mono (by omega),Q.u,S.u,T.u⟩
   simp[intOf];omega
  have l:Hi (xh (6-(m+1)) (ku t B.1) B.2=R):=by have h9:=x.u;rw[if_neg hz6']at h9;exact h9
  clear x
  go_wp2_with fail;refine(pI P.u ao.u c.u.nl d.u.nl (by omega) (by omega) (by omega)).mono ?_;rintro e w9 ⟨v9,rfl,n,f⟩;have Q:=ae n;obtain⟨a9,c9,rfl,-⟩:=n;have S:=ae (O.u.keep f (by omega));have T:=ae (s.u.trans (eD f D (by omega)));clear f;go_wp2
  go_roundw
  case rel=>exact⟨m+1,_,B.2,by omega,by go_num,aa.u,l.u,(c.u.alt d.u).mono (by omega),Q.u,S.u,T.u⟩
  simp[intOf];omega
 obtain rfl:m=6:=by omega
 have e1:R=(t,zs):=j.symm;subst e1;clear j;have BP:=HP.u.blk (p.u.block w.heap.size (by omega) (by omega));obtain⟨p0,p1,p2⟩:=BP.facts;have z0:=World.rowIs.frozen BP 0;have z1:=World.rowIs.frozen BP 1;have z2:=World.rowIs.frozen BP 2;clear BP;go_wp2;refine bodyPost_ret (v:=.agg #[.bool (decide (y%4=1)),.bool (decide (5<y%8)),.slice a3 t.length c3]) (by simp[results,results28,go_sem,p0,p1,p2];rfl) rfl ⟨⟨_,rfl,?_⟩,?_,?_⟩
 ·exact I.u.put3 (by omega)
 ·exact J.u.keep (aI (aI (aI (Below.refl w.heap.size w3) lR _) lR _) lR _) (by omega)
 exact o.u.trans ((p.u.mono (by omega)).trans (Below.mv (aI (aI (aI (Below.refl w.heap.size w3) lR _) lR _) lR _) D))
theorem lh(N D lo:Nat)(xs:List Int)(w:World)(h:bm N D w xs)(hx:bZ xs)(hD:D<lo)(hlo:lo<=w.heap.size) :
  Calls prog 27 #[.pointer (some ⟨D,0,none⟩)] w (zd N D lo w (tL xs)):=by
 have H:=ae h;have HX:=ae hx;have hh:=hx.head;have bt:=hx.tail.head;obtain⟨y,hy⟩ : ∃ y,xs.headD 0=y:=⟨_,rfl⟩;obtain⟨y2,aa⟩ : ∃ y,xs.tail.headD 0=y:=⟨_,rfl⟩;unfold tL;rw[hy,aa];rw[hy]at hh;rw[aa]at bt;obtain⟨L,hL⟩ : ∃ L,L=pM (y%6) (y2%3-1):=⟨_,rfl⟩;rw[<-hL];have HL:=ae hL;have HY:=ae hy;have bv:=ae aa;have d6 : -1<=y2%3-1/\y2%3-1<=1:=by omega
 clear hy aa h hx hL
 go_enter func27,ntmps27
 go_wp2_with fail;refine(aC N D xs w H.u HX.u).mono ?_;rintro e w0 ⟨he,b7,b2⟩;rw[HY.u]at he;subst he
 go_wp2_with fail;refine(aC N D xs.tail w0 b7 HX.u.tail).mono ?_;rintro e w1 ⟨he,b8,b3⟩;rw[bv.u]at he;subst he;have d7:w0.heap.size=w.heap.size:=b2.size;have d8:w1.heap.size=w0.heap.size:=b3.size;have bx:=ae b8;have bz:=ae ((b2.mv w.heap.size).trans (b3.mv w.heap.size));clear b7 b2 b8 b3
 go_wp2_with fail;refine(gD 97 w1 (by unfold aA;omega)).mono ?_;rintro e w2 ⟨v2,rfl,b9,ab⟩;have c0:=ae (b9.mono (lo':=lo) (by omega) lR);obtain⟨a2,c2,rfl,-⟩:=b9;have d9:=ab.size;have c1:=ae (bx.u.keep ab (by omega));have ca:=ae (bz.u.trans (eD ab D (by omega)));clear ab
 go_wp2_with fail;refine(dX lo _ _ w2 c0.u (by omega) (by simp)).mono ?_;rintro e w3 ⟨v3,rfl,bb,ad⟩;have bc:=ae bb;obtain⟨a3,c3,rfl,-⟩:=bb;have db:=ad.size;have cb:=ae (c1.u.keep ad (by omega));have cc:=ae (ca.u.trans (eD ad D (by omega)));clear ad
 go_wp2_with fail;refine(gD 98 w3 (by unfold aA;omega)).mono ?_;rintro e w4 ⟨v4,rfl,bd,T⟩;have cf:=ae (bd.mono (lo':=lo) (by omega) lR);obtain⟨a4,c4,rfl,-⟩:=bd;have ds:=T.size;have ch:=ae (cb.u.keep T (by omega));have ci:=ae (cc.u.trans (eD T D (by omega)));have bf:=ae (bc.u.below T lR);clear T
 go_wp2_with fail;refine(dX lo _ _ w4 cf.u (by omega) (by simp)).mono ?_;rintro e w5 ⟨v5,rfl,bi,U⟩;have an:=ae bi;obtain⟨a5,c5,rfl,-⟩:=bi;have e0:=U.size;have ck:=ae (ch.u.keep U (by omega));have cl:=ae (ci.u.trans (eD U D (by omega)));have ao:=ae (bf.u.below U lR);clear U
 go_wp2_with fail;refine(kz ao.u an.u (NL.one (x:=97) (by omega) (by omega)) (NL.one (x:=98) (by omega) (by omega)) (by omega) (by omega) (by omega)).mono ?_;rintro e w6 ⟨v6,rfl,bj,Q⟩;have i:=ae bj;obtain⟨a6,c6,rfl,-⟩:=bj;have e1:=Q.size;have R:=ae (ck.u.keep Q (by omega));have S:=ae (cl.u.trans (eD Q D (by omega)));have V:=ae (ao.u.below Q lR);have d0:=ae (an.u.below Q lR);clear Q;have hk:0<=y%6/\y%6<6:=by omega
 generalize y%6=k at *;have hc:k=0∨k=1∨k=2∨k=3∨k=4∨k=5:=by omega
 clear hk;rcases hc with rfl|rfl|rfl|rfl|rfl|rfl
 ·have HE:Hi (L=bM (fN (dt 97) (dt 98)) (250+(y2%3-1)) (250+(y2%3-1))):=HL.u
  go_wp2_with fail;refine(fI i.u ((NL.one (x:=97) (by omega) (by omega)).cat (NL.one (x:=98) (by omega) (by omega))) (by omega) (by omega) (p:=(250+(y2%3-1))) (q:=(250+(y2%3-1))) (by unfold aA;omega) (by unfold aA;omega)).mono ?_;rintro e w7 ⟨v7,rfl,g,b⟩;have G:=ae g;obtain⟨a7,c7,rfl,-⟩:=g;have af:=b.size;have B:=ae (R.u.keep b (by omega));have C:=ae (S.u.trans (eD b D (by omega)));have W:=ae (i.u.below b lR);clear b;go_wp2;go_ret;refine⟨⟨_,rfl,?_⟩,B.u,C.u⟩;show az lo _ _ _ L;rw[HE.u];exact G.u
 ·have HE:Hi (L=bM (dt 97) 0 (250+(y2%3-1))):=HL.u
  go_wp2_with fail;refine(fI V.u (NL.one (x:=97) (by omega) (by omega)) (by omega) (by omega) (p:=0) (q:=(250+(y2%3-1))) (by unfold aA;omega) (by unfold aA;omega)).mono ?_;rintro e w7 ⟨v7,rfl,g,b⟩;have G:=ae g;obtain⟨a7,c7,rfl,-⟩:=g;have af:=b.size;have B:=ae (R.u.keep b (by omega));have C:=ae (S.u.trans (eD b D (by omega)));have d1:=ae (V.u.below b lR);clear b;go_wp2;go_ret;refine⟨⟨_,rfl,?_⟩,B.u,C.u⟩;show az lo _ _ _ L;rw[HE.u];exact G.u
 ·go_wp2_with fail;refine(fI i.u ((NL.one (x:=97) (by omega) (by omega)).cat (NL.one (x:=98) (by omega) (by omega))) (by omega) (by omega) (p:=249) (q:=(-1)) (by unfold aA;omega) (by unfold aA;omega)).mono ?_;rintro e w7 ⟨v7,rfl,g,b⟩;have G:=ae g;obtain⟨a7,c7,rfl,-⟩:=g;have af:=b.size;have B:=ae (R.u.keep b (by omega));have C:=ae (S.u.trans (eD b D (by omega)));have W:=ae (i.u.below b lR);clear b;obtain⟨q,hq⟩ : ∃ q:Nat,((y2%3-1)+1).toNat=q:=⟨_,rfl⟩;have e2:y2%3-1=(q:Int)-1:=by omega
  have HE:Hi (L=sQ q (bM (fN (dt 97) (dt 98)) 249 (-1))):=by show L=_;rw[HL.u];unfold pM;rw[if_neg (by decide),if_neg (by decide),if_pos rfl,hq]
  clear hq
  go_wp2_with fail
  go_loopw [7,8] (fun tv iv wr=>∃ m:Nat,m<=q/\iv=.int .i64 (m:Nat)/\az lo wr.heap.size wr tv (sQ m (bM (fN (dt 97) (dt 98)) 249 (-1)))/\bm N D wr xs.tail.tail/\Mv w.heap.size D w wr) (fun _ iv _=>q-(intOf iv).toNat)
  case atStart=>exact⟨0,Nat.zero_le _,rfl,G.u,B.u,C.u⟩
  obtain⟨m,hm,rfl,X,M,E⟩:=hrel;obtain⟨w20,rfl⟩ : ∃ w20,w20=wr:=⟨_,rfl⟩;have d:=ae X;obtain⟨a20,c20,rfl,-⟩:=X;have v:=ae M;have z:=ae E;have bl:=E.size;have l:=pq m (((NL.one (x:=97) (by omega) (by omega)).cat (NL.one (x:=98) (by omega) (by omega))).rep (lo:=249) (hi:=(-1)) (by unfold aA;omega) (by unfold aA;omega))
  by_cases hlt:m<q
  ·have ap:(m:Int)<=y2%3-1:=by omega
   clear M E
   go_wp2_with fail;refine(BG lo w20 (by omega)).mono ?_;rintro e w21 ⟨v21,rfl,f,a⟩;have Y:=ae f;obtain⟨a21,c21,rfl,-⟩:=f;have Z:=a.size;have n:=ae (v.u.keep a (by omega));have o:=ae (z.u.trans (eD a D (by omega)));have r:=ae (d.u.below a lR);clear a
   go_wp2_with fail;refine(pI r.u Y.u l DT.e.nl (by omega) (by omega) (by omega)).mono ?_;rintro e w22 ⟨v22,rfl,j,c⟩;have s:=ae j;obtain⟨a22,c22,rfl,-⟩:=j;have aq:=c.size;have I:=ae (n.u.keep c (by omega));have J:=ae (o.u.trans (eD c D (by omega)));have co:=ae (r.u.below c lR);have cp:=ae (Y.u.below c lR);clear c;go_wp2
   go_roundw
   case rel=>exact⟨m+1,by omega,by go_num,by rw[xN];exact s.u,I.u,J.u⟩
   simp[intOf];omega
  have ap:¬ (m:Int)<=y2%3-1:=by omega
  obtain rfl:m=q:=by omega
  clear M E;go_wp2;go_ret;refine⟨⟨_,rfl,?_⟩,v.u,z.u⟩;show az lo _ _ _ L;rw[HE.u];exact d.u
 ·go_wp2_with fail;refine(fI i.u ((NL.one (x:=97) (by omega) (by omega)).cat (NL.one (x:=98) (by omega) (by omega))) (by omega) (by omega) (p:=5) (q:=5) (by unfold aA;omega) (by unfold aA;omega)).mono ?_;rintro e w7 ⟨v7,rfl,g,b⟩;have ar:=ae g;obtain⟨a7,c7,rfl,-⟩:=g;have af:=b.size;have B:=ae (R.u.keep b (by omega));have C:=ae (S.u.trans (eD b D (by omega)));have W:=ae (i.u.below b lR);clear b
  go_wp2_with fail;refine(fI ar.u (((NL.one (x:=97) (by omega) (by omega)).cat (NL.one (x:=98) (by omega) (by omega))).rep (lo:=5) (hi:=5) (by unfold aA;omega) (by unfold aA;omega)) (by omega) (by omega) (p:=50) (q:=50) (by unfold aA;omega) (by unfold aA;omega)).mono ?_;rintro e w8 ⟨v8,rfl,a0,t⟩;have P:=ae a0;obtain⟨a8,c8,rfl,-⟩:=a0;have cr:=t.size;have ag:=ae (B.u.keep t (by omega));have al:=ae (C.u.trans (eD t D (by omega)));have d2:=ae (ar.u.below t lR);clear t
  by_cases hd1:y2%3-1=1
  ·have HE:Hi (L=ku (bM (bM (fN (dt 97) (dt 98)) 5 5) 50 50) eE):=by show L=_;rw[HL.u];unfold pM;rw[if_neg (by decide),if_neg (by decide),if_neg (by decide),if_pos rfl,if_pos hd1]
   go_wp2_with fail;refine(BG lo w8 (by omega)).mono ?_;rintro e w9 ⟨v9,rfl,bn,a1⟩;have av:=ae bn;obtain⟨a9,c9,rfl,-⟩:=bn;have e3:=a1.size;have cs:=ae (ag.u.keep a1 (by omega));have ct:=ae (al.u.trans (eD a1 D (by omega)));have aw:=ae (P.u.below a1 lR);clear a1
   go_wp2_with fail;refine(pI aw.u av.u ((((NL.one (x:=97) (by omega) (by omega)).cat (NL.one (x:=98) (by omega) (by omega))).rep (lo:=5) (hi:=5) (by unfold aA;omega) (by unfold aA;omega)).rep (lo:=50) (hi:=50) (by unfold aA;omega) (by unfold aA;omega)) DT.e.nl (by omega) (by omega) (by omega)).mono ?_;rintro e w10 ⟨v10,rfl,ax,A⟩;have b4:=ae ax;obtain⟨a10,c10,rfl,-⟩:=ax;have d3:=A.size;have bo:=ae (cs.u.keep A (by omega));have bq:=ae (ct.u.trans (eD A D (by omega)));have cv:=ae (aw.u.below A lR);have cw:=ae (av.u.below A lR);clear A;go_wp2;go_ret;refine⟨⟨_,rfl,?_⟩,bo.u,bq.u⟩;show az lo _ _ _ L;rw[HE.u];exact b4.u
  have HE:Hi (L=bM (bM (fN (dt 97) (dt 98)) 5 5) 50 50):=by show L=_;rw[HL.u];unfold pM;rw[if_neg (by decide),if_neg (by decide),if_neg (by decide),if_pos rfl,if_neg hd1]
  go_wp2;go_ret;refine⟨⟨_,rfl,?_⟩,ag.u,al.u⟩;show az lo _ _ _ L;rw[HE.u];exact P.u
 ·have HE:Hi (L=bM eE 0 (250+(y2%3-1))):=HL.u
  go_wp2_with fail;refine(BG lo w6 (by omega)).mono ?_;rintro e w7 ⟨v7,rfl,g,b⟩;have b0:=ae g;obtain⟨a7,c7,rfl,-⟩:=g;have af:=b.size;have B:=ae (R.u.keep b (by omega));have C:=ae (S.u.trans (eD b D (by omega)));clear b
  go_wp2_with fail;refine(fI b0.u DT.e.nl (by omega) (by omega) (p:=0) (q:=(250+(y2%3-1))) (by unfold aA;omega) (by unfold aA;omega)).mono ?_;rintro e w8 ⟨v8,rfl,a0,t⟩;have P:=ae a0;obtain⟨a8,c8,rfl,-⟩:=a0;have cr:=t.size;have ag:=ae (B.u.keep t (by omega));have al:=ae (C.u.trans (eD t D (by omega)));have d4:=ae (b0.u.below t lR);clear t;go_wp2;go_ret;refine⟨⟨_,rfl,?_⟩,ag.u,al.u⟩;show az lo _ _ _ L;rw[HE.u];exact P.u
 go_wp2_with fail
 go_loopw [11,12] (fun tv iv wr=>∃ m:Nat,m<=30/\iv=.int .i64 (m:Nat)/\az lo wr.heap.size wr tv (ji m (dt 97))/\bm N D wr xs.tail.tail/\Mv w.heap.size D w wr) (fun _ iv _=>30-(intOf iv).toNat)
 case atStart=>exact⟨0,Nat.zero_le _,rfl,V.u,R.u,S.u⟩
 obtain⟨m,hm,rfl,X,M,E⟩:=hrel;obtain⟨w20,rfl⟩ : ∃ w20,w20=wr:=⟨_,rfl⟩;have d:=ae X;obtain⟨a20,c20,rfl,-⟩:=X;have v:=ae M;have z:=ae E;have bl:=E.size;have l:=qr m (NL.one (x:=97) (by omega) (by omega))
 by_cases hlt:m<30
 ·have ap:(m:Int)<30:=by omega
  clear M E
  go_wp2_with fail;refine(fI d.u l (by omega) (by omega) (p:=1) (q:=1) (by unfold aA;omega) (by unfold aA;omega)).mono ?_;rintro e w21 ⟨v21,rfl,f,a⟩;have F:=ae f;obtain⟨a21,c21,rfl,-⟩:=f;have Z:=a.size;have n:=ae (v.u.keep a (by omega));have o:=ae (z.u.trans (eD a D (by omega)));have r:=ae (d.u.below a lR);clear a;go_wp2
  go_roundw
  case rel=>exact⟨m+1,by omega,by go_num,by rw[zN];exact F.u,n.u,o.u⟩
  simp[intOf];omega
 obtain rfl:m=30:=by omega
 clear M E
 by_cases hd1:0<y2%3-1
 ·have HE:Hi (L=bM (fN (bM (ji 30 (dt 97)) 0 0) (bM (ji 30 (dt 97)) 0 0)) (250+(y2%3-1)) (250+(y2%3-1))):=by show L=_;rw[HL.u];unfold pM;rw[if_neg (by decide),if_neg (by decide),if_neg (by decide),if_neg (by decide),if_neg (by decide),if_pos hd1]
  go_wp2_with fail;refine(fI d.u l (by omega) (by omega) (p:=0) (q:=0) (by unfold aA;omega) (by unfold aA;omega)).mono ?_;rintro e w21 ⟨v21,rfl,f,a⟩;have O:=ae f;obtain⟨a21,c21,rfl,-⟩:=f;have Z:=a.size;have n:=ae (v.u.keep a (by omega));have o:=ae (z.u.trans (eD a D (by omega)));have r:=ae (d.u.below a lR);clear a
  go_wp2_with fail;refine(kz O.u O.u (l.rep (lo:=0) (hi:=0) (by unfold aA;omega) (by unfold aA;omega)) (l.rep (lo:=0) (hi:=0) (by unfold aA;omega) (by unfold aA;omega)) (by omega) (by omega) (by omega)).mono ?_;rintro e w22 ⟨v22,rfl,j,c⟩;have s:=ae j;obtain⟨a22,c22,rfl,-⟩:=j;have aq:=c.size;have I:=ae (n.u.keep c (by omega));have J:=ae (o.u.trans (eD c D (by omega)));have cx:=ae (O.u.below c lR);clear c
  go_wp2_with fail;refine(fI s.u ((l.rep (lo:=0) (hi:=0) (by unfold aA;omega) (by unfold aA;omega)).cat (l.rep (lo:=0) (hi:=0) (by unfold aA;omega) (by unfold aA;omega))) (by omega) (by omega) (p:=(250+(y2%3-1))) (q:=(250+(y2%3-1))) (by unfold aA;omega) (by unfold aA;omega)).mono ?_;rintro e w23 ⟨v23,rfl,b1,K⟩;have b5:=ae b1;obtain⟨a23,c23,rfl,-⟩:=b1;have d5:=K.size;have br:=ae (I.u.keep K (by omega));have bs:=ae (J.u.trans (eD K D (by omega)));have cy:=ae (s.u.below K lR);clear K;go_wp2;go_ret;refine⟨⟨_,rfl,?_⟩,br.u,bs.u⟩;show az lo _ _ _ L;rw[HE.u];exact b5.u
 have HE:Hi (L=bM (fN (ji 30 (dt 97)) (ji 30 (dt 97))) (250+(y2%3-1)) (250+(y2%3-1))):=by show L=_;rw[HL.u];unfold pM;rw[if_neg (by decide),if_neg (by decide),if_neg (by decide),if_neg (by decide),if_neg (by decide),if_neg hd1]
 go_wp2_with fail;refine(kz d.u d.u l l (by omega) (by omega) (by omega)).mono ?_;rintro e w21 ⟨v21,rfl,f,a⟩;have F:=ae f;obtain⟨a21,c21,rfl,-⟩:=f;have Z:=a.size;have n:=ae (v.u.keep a (by omega));have o:=ae (z.u.trans (eD a D (by omega)));have r:=ae (d.u.below a lR);clear a
 go_wp2_with fail;refine(fI F.u (l.cat l) (by omega) (by omega) (p:=(250+(y2%3-1))) (q:=(250+(y2%3-1))) (by unfold aA;omega) (by unfold aA;omega)).mono ?_;rintro e w22 ⟨v22,rfl,j,c⟩;have b6:=ae j;obtain⟨a22,c22,rfl,-⟩:=j;have aq:=c.size;have I:=ae (n.u.keep c (by omega));have J:=ae (o.u.trans (eD c D (by omega)));have s:=ae (F.u.below c lR);clear c;go_wp2;go_ret;refine⟨⟨_,rfl,?_⟩,I.u,J.u⟩;show az lo _ _ _ L;rw[HE.u];exact b6.u
end Go.Proofs.YtpmcjimgkabpeaaGreatDoor
