import Derived.Test.YtidfkbghlkcbeaaGreatDoorPk6
import Derived.Test.YtidfkbghlkcbeaaGreatDoorPk2
import Derived.Lib.TrailingZeros
namespace Go.Proofs.YtidfkbghlkcbeaaGreatDoor
open Go.RowKit Go.Proofs.Tryz
set_option maxHeartbeats 16000000
set_option maxRecDepth 100000
theorem aA.pre{lo n:Nat}{w:World}{a:Option Addr}{len cap:Nat}{p q:List El}(h:aA lo n w (.slice a len cap) (p++q)):aA lo n w (.slice a p.length cap) p:=by
 obtain⟨a',cap',e,hl,hc⟩:=h;simp only[Value.slice.injEq]at e;obtain⟨rfl,-,rfl⟩:=e;rw[List.length_append]at hl hc;refine⟨a,cap,rfl,⟨by omega,hl.2⟩,fun hp=>?_⟩;obtain⟨b,off,rfl,h1,h2,h3⟩:=hc (by omega);exact⟨b,off,rfl,h1,h2,fun i hi=>by have:=h3 i (by omega);rwa [List.getElem?_append_left hi]at this⟩
theorem aA.mid{lo n:Nat}{w:World}{b off len cap cap':Nat}{p q r:List El}(h:aA lo n w (.slice (some ⟨b,off,none⟩) len cap) (p++q++r))(hcap:q.length<=cap'/\cap'<=maxLen):aA lo n w (.slice (some ⟨b,off+p.length*4,none⟩) q.length cap') q:=by
 obtain⟨a',cap'',e,hl,hc⟩:=h;simp only[Value.slice.injEq]at e;obtain⟨rfl,-,rfl⟩:=e;rw[List.length_append,List.length_append]at hl hc;refine⟨_,cap',rfl,hcap,fun hp=>?_⟩;obtain⟨b',off',e2,h1,h2,h3⟩:=hc (by omega);simp only[Option.some.injEq,Addr.mk.injEq,and_true]at e2;obtain⟨rfl,rfl⟩:=e2;refine⟨b,_,rfl,h1,h2,fun i hi=>?_⟩;have:=h3 (p.length+i) (by omega);rw[List.append_assoc,List.getElem?_append_right (by omega),show p.length+i-p.length=i by omega,List.getElem?_append_left hi]at this
 rwa [show off+p.length*4+i*4=off+(p.length+i)*4 by omega]
theorem aA.last{lo n:Nat}{w:World}{a:Option Addr}{len cap:Nat}{p:List El}{x:El}(h:aA lo n w (.slice a len cap) (p++[x])) :
  len=p.length+1/\(len<=cap/\cap<=maxLen)/\∃ b off,a=some ⟨b,off,none⟩/\b<n/\sM lo n w b (off+p.length*4) x:=by
 obtain⟨a',cap',e,hl,hc⟩:=h;simp only[Value.slice.injEq]at e;obtain⟨rfl,e1,rfl⟩:=e;rw[List.length_append]at e1 hl hc;simp only[List.length_singleton]at e1 hl hc;obtain⟨b,off,rfl,h1,h2,h3⟩:=hc (by omega);have:=h3 p.length (by omega);exact⟨e1,⟨by omega,hl.2⟩,b,off,rfl,h2,by simpa using this⟩
theorem di(v:Value)(l r:List El)(cr:Int)(x:El)(z:Int)(w:World)(sr:ba r cr)(hv:aA 0 w.heap.size w v (l++r++[x]))(hlen:l.length+r.length+1<=1048576)(hz:z=l.length+r.length) :
  Calls prog 102 #[v,.int .i64 z] w fun e w'=>e=.returned (.int .i64 (l.length:Int))/\w'=w:=by
 subst hz;have pr:=sr.ne;have h:=lw v (l++r++[x]) l.length (l.length+r.length) w hv (by simp;omega) (by omega) (by simp) ?_ ?_
 ·rwa [Int.natCast_add]at h
 ·rw[show l.length+r.length=(l++r).length by simp,List.take_left' rfl,List.drop_left' rfl];exact sr.ws
 intro k h1 h2;rw[show l.length+r.length=(l++r).length by simp,List.take_left' rfl,List.drop_append,List.drop_eq_nil_of_le (by omega),List.nil_append];exact sr.tl _ (by omega) (by omega)
def BM(l:List El)(c:Int):Prop:=∀ (v:Value) (w:World),aA 0 w.heap.size w v l->l.length<=1048576->Calls prog 64 #[v] w fun e w'=>e=.returned (.int .i64 c)/\Below w.heap.size w w'
theorem mQ(k:Int)(hk:k=2∨k=3)(l r:List El)(cl cr:Int)(sl:ba l cl)(sr:ba r cr)(Hl:BM l cl)(Hr:BM r cr)
  (v:Value)(w:World)(hv:aA 0 w.heap.size w v (l++r++[⟨k,[],0,0⟩]))(hlen:(l++r++[(⟨k,[],0,0⟩ : El)]).length<=1048576) :
  Calls prog 64 #[v] w fun e w'=>e=.returned (.int .i64 (cap (cl+cr)))/\Below w.heap.size w w':=by
 have c:=hv;obtain⟨a,cp,rfl,-,-⟩:=id hv;obtain⟨d,f,b,off,rfl,x,i⟩:=hv.last;rw[d]at hv c f ⊢;simp only[List.length_append,List.length_singleton]at hv c hlen d i f ⊢;unfold maxLen at f;obtain⟨i1,i2,i3,sv,c0,c1,c2,c3,g⟩:=i;obtain⟨sa,sc,rfl,-,-,-⟩:=id g;simp only at c0 c2 c3;clear d i1 i2 i3 g;have e1:(((l.length+r.length+1:Nat):Int)-1)=((l.length+r.length:Nat):Int):=by omega
 have bl:=sl.bd;have br:=sr.bd;have pl:=sl.ne;have pr:=sr.ne;have j:aA 0 w.heap.size w (.slice (some ⟨b,off,none⟩) l.length cp) (l):=by rw[List.append_assoc]at c;exact c.pre
 have m:=c.mid (cap':=cp-l.length) (by unfold maxLen;omega);have q:=ae j;have s:=ae m;have t:=ae c;clear j m hv c;rcases hk with rfl|rfl
 all_goals
  go_enter func64,ntmps64
  go_wp2_with fail;refine(di _ l r cr _ _ _ sr (by exact t.u.below (ai w _) lR) hlen rfl).mono ?_;rintro e w1 ⟨rfl,rfl⟩
  go_wp2_with fail;refine(Hl _ _ (by exact q.u.below (ai w _) lR) (by omega)).mono ?_;rintro e w1 ⟨rfl,n⟩;have h:Below w.heap.size w w1:=(ai w _).trans (n.mono (by rw[ah];omega));clear n
  go_wp2_with fail;refine(Hr _ _ (by exact s.u.below h lR) (by omega)).mono ?_;rintro e w2 ⟨rfl,o⟩;have p:Below w.heap.size w w2:=h.trans (o.mono h.size);clear o
  by_cases hc5:500<cl+cr
  ·go_wp2;go_ret;exact⟨md (by unfold cap;rw[if_pos hc5]),p⟩
  go_wp2;go_ret;exact⟨md (by unfold cap;rw[if_neg (by omega)]),p⟩
theorem qo{n:Int}(h:500<n):cap n=501:=by unfold cap;rw[if_pos h]
theorem pT{n:Int}(h:¬ 500<n):cap n=n:=by unfold cap;rw[if_neg h]
theorem iT{c mn:Int}(h:mn<1):bK c mn (-1)=c+1:=by unfold bK;rw[if_pos rfl,if_pos h];omega
theorem iZ{c mn:Int}(h:¬ mn<1):bK c mn (-1)=mn*c+1:=by unfold bK;rw[if_pos rfl,if_neg h]
theorem kJ{c mn:Int}:bK c mn 0=c:=by unfold bK;rw[if_neg (by omega),if_pos rfl]
theorem jb{c mn mx:Int}(h1:mx ≠ -1)(h2:mx≠0):bK c mn mx=mn*c+(mx-mn)*(c+1):=by unfold bK;rw[if_neg h1,if_neg h2]
theorem mW(mn mx:Int)(x:List El)(c:Int)(sx:ba x c)(o2:0<=mn)(o3:mn<=250)(o4:mx = -1∨(mn<=mx/\mx<=250))(Hx:BM x c)
  (v:Value)(w:World)(hv:aA 0 w.heap.size w v (x++[⟨4,[],mn,mx⟩]))(hlen:(x++[(⟨4,[],mn,mx⟩ : El)]).length<=1048576) :
  Calls prog 64 #[v] w fun e w'=>e=.returned (.int .i64 (cap (bK c mn mx)))/\Below w.heap.size w w':=by
 obtain⟨a,cp,rfl,-,-⟩:=id hv;obtain⟨j,k,b,off,rfl,n,m⟩:=hv.last;rw[j]at hv k ⊢;simp only[List.length_append,List.length_singleton]at hv hlen j m k ⊢;unfold maxLen at k;obtain⟨i1,i2,i3,sv,c0,c1,c2,c3,l⟩:=m;obtain⟨sa,sc,rfl,-,-,-⟩:=id l;simp only at c0 c2 c3;clear j i1 i2 i3 l;have bx:=sx.bd;have px:=sx.ne;have i:=ae hv.pre;clear hv;have m1:mn*c<=250*501:=Int.mul_le_mul o3 bx.2 bx.1 (by omega);have m0:0<=mn*c:=Int.mul_nonneg o2 bx.1;rcases o4 with rfl|⟨o4,o5⟩
 ·by_cases hm1:mn<1
  ·rw[iT hm1]
   by_cases hc5:500<c+1
   ·rw[qo hc5]
    go_enter func64,ntmps64
    go_wp2_with fail;refine(Hx _ _ (by exact i.u.below (ai w _) lR) (by omega)).mono ?_;rintro e w1 ⟨rfl,d⟩;obtain⟨f,g⟩:=cu d;simp only[ah]at f g;have h:Below w.heap.size w w1:=(ai w _).trans (d.mono (by rw[ah];omega));clear d;go_wp2;go_ret;exact⟨rfl,h⟩
   rw[pT hc5]
   go_enter func64,ntmps64
   go_wp2_with fail;refine(Hx _ _ (by exact i.u.below (ai w _) lR) (by omega)).mono ?_;rintro e w1 ⟨rfl,d⟩;obtain⟨f,g⟩:=cu d;simp only[ah]at f g;have h:Below w.heap.size w w1:=(ai w _).trans (d.mono (by rw[ah];omega));clear d;go_wp2;go_ret;exact⟨rfl,h⟩
  rw[iZ hm1]
  by_cases hc5:500<mn*c+1
  ·rw[qo hc5]
   go_enter func64,ntmps64
   go_wp2_with fail;refine(Hx _ _ (by exact i.u.below (ai w _) lR) (by omega)).mono ?_;rintro e w1 ⟨rfl,d⟩;obtain⟨f,g⟩:=cu d;simp only[ah]at f g;have h:Below w.heap.size w w1:=(ai w _).trans (d.mono (by rw[ah];omega));clear d;go_wp2;go_ret;exact⟨rfl,h⟩
  rw[pT hc5]
  go_enter func64,ntmps64
  go_wp2_with fail;refine(Hx _ _ (by exact i.u.below (ai w _) lR) (by omega)).mono ?_;rintro e w1 ⟨rfl,d⟩;obtain⟨f,g⟩:=cu d;simp only[ah]at f g;have h:Below w.heap.size w w1:=(ai w _).trans (d.mono (by rw[ah];omega));clear d;go_wp2;go_ret;exact⟨rfl,h⟩
 by_cases hx0:mx=0
 ·subst hx0;rw[kJ]
  by_cases hc5:500<c
  ·rw[qo hc5]
   go_enter func64,ntmps64
   go_wp2_with fail;refine(Hx _ _ (by exact i.u.below (ai w _) lR) (by omega)).mono ?_;rintro e w1 ⟨rfl,d⟩;obtain⟨f,g⟩:=cu d;simp only[ah]at f g;have h:Below w.heap.size w w1:=(ai w _).trans (d.mono (by rw[ah];omega));clear d;go_wp2;go_ret;exact⟨rfl,h⟩
  rw[pT hc5]
  go_enter func64,ntmps64
  go_wp2_with fail;refine(Hx _ _ (by exact i.u.below (ai w _) lR) (by omega)).mono ?_;rintro e w1 ⟨rfl,d⟩;obtain⟨f,g⟩:=cu d;simp only[ah]at f g;have h:Below w.heap.size w w1:=(ai w _).trans (d.mono (by rw[ah];omega));clear d;go_wp2;go_ret;exact⟨rfl,h⟩
 rw[jb (by omega) hx0];have o:(mx == -1)=false:=by simp;omega
 have p:(mx==0)=false:=by simp[hx0]
 have m2:(mx-mn)*(c+1)<=250*502:=Int.mul_le_mul (by omega) (by omega) (by omega) (by omega);have m3:0<=(mx-mn)*(c+1):=Int.mul_nonneg (by omega) (by omega)
 by_cases hc5:500<mn*c+(mx-mn)*(c+1)
 ·rw[qo hc5]
  go_enter func64,ntmps64
  go_wp2_with fail;refine(Hx _ _ (by exact i.u.below (ai w _) lR) (by omega)).mono ?_;rintro e w1 ⟨rfl,d⟩;obtain⟨f,g⟩:=cu d;simp only[ah]at f g;have h:Below w.heap.size w w1:=(ai w _).trans (d.mono (by rw[ah];omega));clear d;go_wp2;go_ret;exact⟨rfl,h⟩
 rw[pT hc5]
 go_enter func64,ntmps64
 go_wp2_with fail;refine(Hx _ _ (by exact i.u.below (ai w _) lR) (by omega)).mono ?_;rintro e w1 ⟨rfl,d⟩;obtain⟨f,g⟩:=cu d;simp only[ah]at f g;have h:Below w.heap.size w w1:=(ai w _).trans (d.mono (by rw[ah];omega));clear d;go_wp2;go_ret;exact⟨rfl,h⟩
theorem fR(k:Int)(hk:k=0∨k=1)(st:List Int)(v:Value)(w:World)(hv:aA 0 w.heap.size w v [⟨k,st,0,0⟩]) :
  Calls prog 64 #[v] w fun e w'=>e=.returned (.int .i64 1)/\Below w.heap.size w w':=by
 obtain⟨a,cp,rfl,-,hc⟩:=hv;obtain⟨b,off,rfl,-,f,d⟩:=hc (by simp);obtain⟨i1,i2,i3,sv,c0,c1,c2,c3,c⟩:=d 0 (by simp);obtain⟨sa,sc,rfl,-,-,-⟩:=id c;simp only[List.getElem?_cons_zero,Option.getD_some,Nat.zero_mul,Nat.add_zero]at c0 c1 c2 c3;clear d hc c i1 i2 i3;rcases hk with rfl|rfl
 all_goals
  go_enter func64,ntmps64
  go_wp2;go_ret;exact⟨rfl,ai w _⟩
theorem dU.szs{st st':List (List El×Int)}{x:El}(h:dU st x st')(ok:gZ x)(hs:∀ s∈st,ba s.1 s.2/\BM s.1 s.2):∀ s∈st',ba s.1 s.2/\BM s.1 s.2:=by
 have a:=h.seg ok (fun s hs'=>(hs s hs').1);refine fun s hm=>⟨a s hm,?_⟩
 obtain⟨k,xs,mn,mx⟩:=x;rcases h with ⟨hk,rfl⟩|⟨hk,b,l,r,rfl,rfl⟩|⟨hk,b,o,rfl,rfl⟩
 ·simp only[List.mem_append,List.mem_singleton]at hm;rcases hm with hm|rfl
  ·exact(hs s hm).2
  intro v w hv _;rcases ok with ⟨q1,q2,q3,q4⟩|⟨q1,q2,q3,q4⟩|⟨q1,q2,q3,q4,q5⟩<;>simp only at hk q1 q2 q3 q4
  ·subst q3 q4;exact fR k hk xs v w hv
  ·subst q3 q4;exact fR k hk xs v w hv
  omega
 ·simp only[List.mem_append,List.mem_singleton]at hm;rcases hm with hm|rfl
  ·exact(hs s (by simp[hm])).2
  rcases ok with ⟨q1,q2,q3,q4⟩|⟨q1,q2,q3,q4⟩|⟨q1,q2,q3,q4,q5⟩<;>simp only at hk q1 q2 q3 q4
  ·omega
  ·subst q3 q4;obtain rfl:=List.eq_nil_of_length_eq_zero q2;exact fun v w hv hlen=>mQ k hk l.1 r.1 l.2 r.2 (hs l (by simp)).1 (hs r (by simp)).1 (hs l (by simp)).2 (hs r (by simp)).2 v w hv hlen
  omega
 simp only[List.mem_append,List.mem_singleton]at hm;rcases hm with hm|rfl
 ·exact(hs s (by simp[hm])).2
 rcases ok with ⟨q1,q2,q3,q4⟩|⟨q1,q2,q3,q4⟩|⟨q1,q2,q3,q4,q5⟩<;>simp only at hk q1 q2 q3 q4
 ·omega
 ·omega
 subst hk;obtain rfl:=List.eq_nil_of_length_eq_zero q2;exact fun v w hv hlen=>mW mn mx o.1 o.2 (hs o (by simp)).1 q3 q4 q5 (hs o (by simp)).2 v w hv hlen
theorem tA{xs:List El}(ok:∀ i:Nat,i<xs.length->gZ (xs[i]?.getD dE))(sh:vh xs):∃ c,ba xs c/\BM xs c:=by
 have key:∀ k:Nat,k<=xs.length->∃ st,flats st=xs.take k/\∀ s∈st,ba s.1 s.2/\BM s.1 s.2:=by
  intro k
  induction k with
  | zero=>intro _;exact⟨[],by simp[flats],by simp⟩
  | succ k ih =>
   intro hk;obtain⟨st,d,hok⟩:=ih (by omega);have hx:=ok k (by omega);have h1:aQ (xs.take (k+1))+aQ (xs.drop (k+1))=1:=by rw[<-aF,List.take_append_drop];exact sh.1
   have h2:=sh.2 (k+1) (by omega) hk;have h3:=dg (fun s hs=>(hok s hs).1.ws);rw[d]at h3;rw[cj (by omega),aF,h3]at h1;simp only[aQ]at h1;obtain⟨st',hp⟩:=dU.ex (st:=st) hx (by omega);exact⟨st',by rw[hp.flats,d,cj (by omega)],hp.szs hx hok⟩
 obtain⟨st,d,hok⟩:=key xs.length lR;rw[List.take_length]at d;have h3:=dg (fun s hs=>(hok s hs).1.ws);rw[d,sh.1]at h3;obtain⟨t,rfl⟩:=List.length_eq_one_iff.1 (show st.length=1 by omega);obtain⟨a,b⟩:=hok t (by simp);rw[kF]at d;rw[d]at a b;exact⟨t.2,a,b⟩
def gG(g:Nat->Nat):Value:=.agg #[.int .u64 (g 0:Nat),.int .u64 (g 1:Nat),.int .u64 (g 2:Nat),.int .u64 (g 3:Nat),.int .u64 (g 4:Nat),.int .u64 (g 5:Nat),.int .u64 (g 6:Nat),.int .u64 (g 7:Nat)]
def dd(x:Nat):List Nat:=(List.range 64).filter (fun j=>x.testBit j)
def ia(g:Nat->Nat)(n:Nat):List Nat:=(List.range n).filter (Bt g)
theorem kT(k m j:Nat):((2 ^ k*(2*m+1)) &&& (2 ^ k*(2*m+1)-1)).testBit j=((2 ^ k*(2*m+1)).testBit j&&decide (j≠k)):=by
 have hp:0<2 ^ k:=Nat.two_pow_pos k;have e1:2 ^ k*(2*m+1)-1=2 ^ k*(2*m)+(2 ^ k-1):=by rw[Nat.mul_add];omega
 have e2:2 ^ k*(2*m+1)=2 ^ k*(2*m+1)+0:=rfl;rw[Nat.testBit_and,e1,Nat.testBit_two_pow_mul_add _ (by omega)]
 conv=>lhs;lhs;rw[e2,Nat.testBit_two_pow_mul_add _ hp]
 conv=>rhs;lhs;rw[e2,Nat.testBit_two_pow_mul_add _ hp]
 by_cases h:j<k
 ·simp[h]
 simp only[h,if_false]
 by_cases he:j=k
 ·subst he;simp[Nat.testBit_zero]
 obtain⟨d,rfl⟩ : ∃ d,j=k+(d+1):=⟨j-k-1,by omega⟩;rw[show k+(d+1)-k=d+1 by omega,Nat.testBit_succ,Nat.testBit_succ,show(2*m+1) / 2=m by omega,show 2*m / 2=m by omega];simp
theorem yM(k m:Nat)(hk:k<64):dd (2 ^ k*(2*m+1))=k::dd ((2 ^ k*(2*m+1)) &&& (2 ^ k*(2*m+1)-1)):=by
 have hp:0<2 ^ k:=Nat.two_pow_pos k;have e:List.range 64=List.range k++(k::List.range' (k+1) (63-k)):=by
  rw[List.range_eq_range',List.range_eq_range',show k::List.range' (k+1) (63-k)=List.range' (0+1*k) (63-k+1) by rw[List.range'_succ];simp,List.range'_append]
  congr 1
  omega
 have t:∀ j,(2 ^ k*(2*m+1)).testBit j=if j<k then false else (2*m+1).testBit (j-k):=fun j=>by
  have:=Nat.testBit_two_pow_mul_add (2*m+1) hp j
  simpa using this
 unfold dd;rw[e,List.filter_append,List.filter_append,List.filter_cons,List.filter_cons];have n1:(List.range k).filter (fun j=>(2 ^ k*(2*m+1)).testBit j)=[]:=List.filter_eq_nil_iff.2 (fun j hj=>by rw[t,if_pos (List.mem_range.1 hj)];simp);have n2:(List.range k).filter (fun j=>((2 ^ k*(2*m+1)) &&& (2 ^ k*(2*m+1)-1)).testBit j)=[]:=List.filter_eq_nil_iff.2 (fun j hj=>by rw[kT,t,if_pos (List.mem_range.1 hj)];simp);rw[n1,n2,if_pos (by rw[t,if_neg (Nat.lt_irrefl _)];simp[Nat.testBit_zero]),if_neg (by rw[kT];simp)];simp only[List.nil_append]
 congr 1
 refine List.filter_congr (fun j hj=>?_)
 have:=(List.mem_range'_1.1 hj).1;rw[kT];simp;omega
theorem oT(x:Nat)(h0:x≠0)(hx:x<18446744073709551616):dd x=Lib.ctz 64 x::dd (x &&& (x-1))/\Lib.ctz 64 x<64/\x &&& (x-1)<x:=by
 obtain⟨m,hm,hk⟩:=Lib.ctzFrom_spec 64 x (by omega) hx;have e:Lib.ctz 64 x=Lib.ctzFrom 64 x:=by simp[Lib.ctz,h0]
 rw[e];refine⟨?_,hk,?_⟩
 ·have h:=yM _ m hk;rw[<-hm]at h;exact h
 have:x &&& (x-1)<=x-1:=Nat.and_le_right;omega
theorem sS:dd 0=[]:=by unfold dd;exact List.filter_eq_nil_iff.2 (fun j _=>by simp)
theorem yH(x:Nat):(dd x).length<=64:=by unfold dd;exact Nat.le_trans (List.length_filter_le _ _) (by simp)
theorem uO(g:Nat->Nat)(n:Nat):(ia g n).length<=n:=by unfold ia;exact Nat.le_trans (List.length_filter_le _ _) (by simp)
theorem sI(g:Nat->Nat)(i:Nat):ia g (64*(i+1))=ia g (64*i)++(dd (g i)).map (64*i + ·):=by
 unfold ia dd;rw[show 64*(i+1)=64*i+64 by omega,List.range_add,List.filter_append,List.filter_map]
 congr 2
 refine List.filter_congr (fun j hj=>?_)
 have:=List.mem_range.1 hj;simp only[Function.comp,Bt];rw[show(64*i+j) / 64=i by omega,show(64*i+j)%64=j by omega]
def TZ(w:World):Prop:=TabAt (Tryz.laysTZ_ren.g 1) Lib.deBruijn64tab w
theorem xU(x:Nat)(h0:x<18446744073709551616)(w:World)(h:TZ w):Calls prog 89 #[.int .u64 (x:Nat)] w fun e w'=>e=.returned (.int .i64 ((Lib.ctz 64 x:Nat):Int))/\w'=w:=
 Any7.bits_TrailingZeros64 Tryz.laysTZ x h0 w (fun _=>h)
theorem TZ.same{w w':World}(h:TZ w)(e:w'.heap[Tryz.laysTZ_ren.g 1]?=w.heap[Tryz.laysTZ_ren.g 1]?):TZ w':=fun j hj=>by
 rw[World.cell?_of_block (w:=w) (a:=⟨Tryz.laysTZ_ren.g 1,j,none⟩) e];exact h j hj
theorem TZ.below{w w':World}{m:Nat}(h:TZ w)(hb:Below m w w')(hm:Tryz.laysTZ_ren.g 1<m):TZ w':=h.same (hb.block _ hm)
theorem EM(g:Nat->Nat)(i:Nat)(h:i<8)(W:World):(Instr.index 102 (.agg #[.int .u64 (g 0:Nat),.int .u64 (g 1:Nat),.int .u64 (g 2:Nat),.int .u64 (g 3:Nat),.int .u64 (g 4:Nat),.int .u64 (g 5:Nat),.int .u64 (g 6:Nat),.int .u64 (g 7:Nat)]) (.int .i64 (i:Int))).run prog W=.ok (.int .u64 (g i:Nat)) W:=by
 obtain rfl|rfl|rfl|rfl|rfl|rfl|rfl|rfl:i=0∨i=1∨i=2∨i=3∨i=4∨i=5∨i=6∨i=7:=by omega
 all_goals kernel_rfl
theorem yC(g:Nat->Nat)(hf:Fit g)(w:World)(b:TZ w)(h0:Tryz.laysTZ_ren.g 1<w.heap.size) :
  Calls prog 113 #[gG g] w fun e w'=>∃ v',e=.returned v'/\w'.ownsRow w.heap.size 3 1 v' (ia g 512).length (((ia g 512).map Int.ofNat).map mI)/\Below w.heap.size w w':=by
 unfold gG;have q:Hi (∀ W,Below w.heap.size w W->TZ W):=fun W hW=>b.below hW h0
 have HF:=ae hf;have f:=ai w (.cells #[.int .u64 (g 0:Nat),.int .u64 (g 1:Nat),.int .u64 (g 2:Nat),.int .u64 (g 3:Nat),.int .u64 (g 4:Nat),.int .u64 (g 5:Nat),.int .u64 (g 6:Nat),.int .u64 (g 7:Nat)] 102);clear b hf
 go_enter func113,ntmps113
 go_wp2_with fail
 go_loopw [3,7] (fun ov iv wr=>∃ i:Nat,i<=8/\iv=.int .i64 i/\wr.ownsRow w.heap.size 3 1 ov (ia g (64*i)).length (((ia g (64*i)).map Int.ofNat).map mI)/\Below w.heap.size w wr) (fun _ iv _=>8-(intOf iv).toNat)
 case atStart=>exact⟨0,by omega,rfl,World.ownsRow_nil _ _ _ _,f⟩
 clear f;obtain⟨i,hi,rfl,a,hb⟩:=hrel;obtain⟨oa,oc,rfl⟩:=aj a;have HO:=ae a;clear a
 by_cases hlt:i<8
 ·have z:(i:Int)<8:=by omega
  have A:=EM g i hlt;have j:=HF.u i;have l:=ae (sI g i);have B:=uO g (64*i);clear HF
  go_wp2_with fail
  go_loopw [3,5] (fun ov xv wr=>∃ (Y:List Nat) (x:Nat),xv=.int .u64 x/\x<18446744073709551616/\Y.length+(dd x).length<=1000/\ia g (64*(i+1))=Y++(dd x).map (64*i + ·)/\wr.ownsRow w.heap.size 3 1 ov Y.length ((Y.map Int.ofNat).map mI)/\Below w.heap.size w wr) (fun _ xv _=>(intOf xv).toNat)
  case atStart=>exact⟨ia g (64*i),g i,rfl,j,by have:=yH (g i);omega,l.u,HO.u,hb⟩
  clear HO hb l j;obtain⟨Y,x,rfl,hx,c,hE,a,hb⟩:=hrel;obtain⟨oa,oc,rfl⟩:=aj a
  by_cases hx0:x=0
  ·subst hx0;rw[sS,List.map_nil,List.append_nil]at hE;subst hE;have HO:=ae a;clear a;go_wp2
   go_roundw
   case rel=>exact⟨i+1,by omega,by go_num,HO.u,hb⟩
   simp[intOf];omega
  obtain⟨n1,n2,n3⟩:=oT x hx0 hx;have C:((x:Int) != 0)=true:=by simp;omega
  have D:((x:Int)==0)=false:=by simp;omega
  have a1:IntKind.u64.wrap ((x:Int)-1)=((x-1:Nat):Int):=by rw[IntKind.wrap_u64];omega
  obtain⟨x',m⟩ : ∃ x',x'=x &&& (x-1):=⟨_,rfl⟩;have a2:=bits_and_u64_nat x (x-1) hx (by omega);rw[<-m]at a2 n3 n1;have HO:=ae a;obtain⟨k,hk⟩ : ∃ k,k=Lib.ctz 64 x:=⟨_,rfl⟩;have b:=xU x hx wr (q.u _ hb);rw[<-hk]at b n2 n1;have HT:=ae b;have a3:IntKind.i64.wrap ((i:Int)*64)=(i:Int)*64:=jf (by omega) (by omega);have a4:IntKind.i64.wrap ((i:Int)*64+(k:Int))=(i:Int)*64+(k:Int):=jf (by omega) (by omega);have E:Y.length<=1000:=by omega
  have HL:Hi ((Y++[64*i+k]).length+(dd x').length<=1000):=by show _<=_;rw[n1]at c;simp only[List.length_cons,List.length_append,List.length_nil]at c ⊢;omega
  have HE:Hi (ia g (64*(i+1))=(Y++[64*i+k])++(dd x').map (64*i + ·)):=by show _=_;rw[hE,n1];simp
  have HM:Hi (((Y++[64*i+k]).map Int.ofNat).map mI=(Y.map Int.ofNat).map mI++[.int .i64 ((i:Int)*64+(k:Int))]):=by show _=_;simp[mI];omega
  have n:=hb.size;obtain⟨i0,r,s,t,v⟩:=info_parts Tryz.zinInt;clear a hE n1 b hk m c
  go_wp2_with fail;refine HT.u.mono ?_;rintro e w2 ⟨rfl,rfl⟩
  go_wp2_with (at_builtin;refine wpList_append_own _ rfl _ _ 27 rfl w.heap.size 3 i0 (.int .i64 0) 1 8 underlying27 r s t v rfl (by decide) _ _ _ rfl (World.ownsRow.alloc (w:=w2) HO.u _) ⟨w2.heap.size,0,none⟩ 1 1 [.int .i64 ((i:Int)*64+(k:Int))] rfl rfl (ef (by simp)) (fun u' hu=>by simp at hu;subst hu;rfl) (by unfold maxLen;omega) (by omega) (by rw[ah];omega) ?_)
  intro v' w3 h5 o _;have d:w3.ownsRow w.heap.size 3 1 v' ((Y.map Int.ofNat).length+1) ((Y.map Int.ofNat).map mI++[.int .i64 ((i:Int)*64+(k:Int))]):=by rw[List.length_map,List.map_map];exact h5
  have p:=rf (os:=Y.map Int.ofNat) (by rw[List.length_map];exact HO.u) n (ay w2 _) d o;have HR:Hi (w3.ownsRow w.heap.size 3 1 v' (Y++[64*i+k]).length (((Y++[64*i+k]).map Int.ofNat).map mI)):=by
   have h:=d;rw[<-HM.u,List.length_map]at h;show World.ownsRow _ _ _ _ _ _ _;rw[List.length_append];exact h
  have y:=ae (hb.trans p.2);clear h5 o d p;go_wp2
  go_roundw
  case rel=>exact⟨Y++[64*i+k],x',by go_num,by omega,HL.u,HE.u,HR.u,y.u⟩
  simp[intOf];omega
 obtain rfl:i=8:=by omega
 go_wp2;go_ret;exact⟨_,rfl,HO.u,hb⟩
def wd(g:Nat->Nat)(j:Nat):Value:=.int .u64 (g j:Nat)
def io(g:Nat->Nat)(k:Nat):Nat->Nat:=fun j=>if j=k / 64 then g (k / 64) ||| 2 ^ (k%64) else g j
theorem pD{g:Nat->Nat}(h:Fit g)(k:Nat):Fit (io g k):=fun j=>by
 unfold io
 split
 ·exact yk _ _ (h _) (by omega)
 exact h j
def cD(g h:Nat->Nat):Nat->Nat:=fun j=>g j ||| h j
theorem qq{g h:Nat->Nat}(a:Fit g)(b:Fit h):Fit (cD g h):=fun j=>by
 have h1:g j<2 ^ 64:=a j;have h2:h j<2 ^ 64:=b j;exact Nat.or_lt_two_pow h1 h2
theorem vv(g h:Nat->Nat)(b:Nat):Bt (cD g h) b=(Bt g b||Bt h b):=by unfold Bt cD;rw[Nat.testBit_or]
theorem Cf(b i:Nat)(g:Nat->Nat)(w:World)(hg:Fit g)(hi:i<512)(hrow:w.rowIs b 102 8 (wd g)) :
  Calls prog 47 #[.pointer (some ⟨b,0,none⟩),.int .i64 i] w fun e w'=>e=.returned (.tuple #[])/\w'.rowIs b 102 8 (wd (io g i))/\ce b w w':=by
 have hq:i / 64<8:=by omega
 have c0:=hrow.cell hq;have f0:=hrow.frozen (i / 64);unfold wd at c0;have d:((i / 64:Nat):Int)<8:=by omega
 have f:(i:Int) / 64<8:=by omega
 have h:0<=(i:Int) / 64:=by omega
 have a:=uj (g (i / 64)) (i%64) (hg _) (by omega);have c:=ae a;have HR:=ae hrow;clear hrow a hg
 go_enter func47,ntmps47
 go_region
 go_wp2;rw[c.u]
 first|(refine bodyPost_ret (results_none rfl _ _ _) rfl ?_)|(refine bodyPost_end (results_none rfl _ _ _) rfl ?_)
 exact⟨rfl,((HR.u.set (i / 64) _).congr (fun j _=>by unfold wd io;by_cases e:j=i / 64<;>simp[e])).drew,(am _ _).drew⟩
theorem ie(b o n c p m:Nat)(t t':TypeId)(F F':Nat->Value)(g h:Nat->Nat)(w:World)(hg:Fit g)(hh:Fit h)(hbc:b≠c)(hrow:w.rowIs b t n F)(hF:∀ j,j<8->F (o+j)=wd g j)(ho:o+8<=n)
  (hrow':w.rowIs c t' m F')(hF':∀ j,j<8->F' (p+j)=wd h j)(hp:p+8<=m) :
  Calls prog 88 #[.pointer (some ⟨b,o,none⟩),.pointer (some ⟨c,p,none⟩)] w fun e w'=>e=.returned (.tuple #[])/\w'.rowIs b t n (fun k=>if o<=k/\k<o+8 then wd (cD g h) (k-o) else F k)/\ce b w w':=by
 have HG:=ae hg;have HH:=ae hh;have HF:=ae hF;have q:=ae hF';have HR:=ae hrow;have r:=ae hrow';clear hg hh hF hF' hrow hrow'
 go_enter func88,ntmps88
 go_wp2_with fail
 go_loopw [5] (fun iv wr=>∃ i:Nat,i<=8/\iv=.int .i64 i/\wr.rowIs b t n (fun k=>if o<=k/\k<o+i then wd (cD g h) (k-o) else F k)/\ce b w wr) (fun iv _=>8-(intOf iv).toNat)
 case atStart=>exact⟨0,by omega,rfl,HR.u.congr (fun k _=>by rw[if_neg (by omega)]),⟨rfl,rfl,rfl,rfl,fun _ _=>rfl⟩⟩
 obtain⟨i,hi,rfl,hr,hb⟩:=hrel
 by_cases hlt:i<8
 ·have v:(i:Int)<8:=by omega
  have c0:wr.cell? ⟨b,o+i,none⟩=some (.int .u64 (g i:Nat)):=by
   rw[hr.cell (by omega),if_neg (by omega),HF.u i hlt];rfl
  have f0:=hr.frozen (o+i);have c1:wr.cell? ⟨c,p+i,none⟩=some (.int .u64 (h i:Nat)):=by
   rw[World.cell?_of_block (w:=w) (a:=⟨c,p+i,none⟩) (hb.block c (fun e=>hbc e.symm)),r.u.cell (by omega),q.u i hlt];rfl
  have l:=bits_or_u64_nat (g i) (h i) (HG.u i) (HH.u i);have f:Hi ((wr.setCell ⟨b,o+i,none⟩ (.int .u64 ((g i ||| h i:Nat):Int))).rowIs b t n (fun k=>if o<=k/\k<o+(i+1) then wd (cD g h) (k-o) else F k)):=(hr.set (o+i) _).congr (fun k hk=>by
   by_cases e:k=o+i
   ·subst e;rw[if_pos rfl,if_pos (by omega),show o+i-o=i by omega];rfl
   rw[if_neg e]
   by_cases e2:o<=k/\k<o+i
   ·rw[if_pos e2,if_pos (by omega)]
   rw[if_neg e2,if_neg (by omega)])
  have d:Hi (ce b w (wr.setCell ⟨b,o+i,none⟩ (.int .u64 ((g i ||| h i:Nat):Int)))):=hb.trans (am _ _);have s:=ae l;clear hr l
  go_wp2_with fail
  go_region
  all_goals
   go_wp2;rw[s.u]
   go_roundw
   case rel=>exact⟨i+1,by omega,by go_num,f.u,⟨d.u.os,d.u.tape,d.u.output,d.u.size,d.u.block⟩⟩
   simp[intOf];omega
 obtain rfl:i=8:=by omega
 have f:=ae hr;clear hr;go_wp2
 first|(refine bodyPost_ret (results_none rfl _ _ _) rfl ?_)|(refine bodyPost_end (results_none rfl _ _ _) rfl ?_)
 exact⟨rfl,f.u,hb⟩
def vk(l:List El)(b:Bool):Prop:=∀ (v:Value) (w:World),aA 0 w.heap.size w v l->l.length<=3000->Calls prog 68 #[v] w fun e w'=>e=.returned (.bool b)/\Below w.heap.size w w'
theorem Fu:vk [⟨0,[],0,0⟩] true:=by
 intro v w hv f;obtain⟨a,cp,rfl,-,-⟩:=id hv;obtain⟨e,g,b,off,rfl,h,d⟩:=aA.last (p:=[]) hv;simp only[List.length_singleton,List.length_nil,Nat.zero_mul,Nat.add_zero]at d hv ⊢;obtain⟨i1,i2,i3,sv,c0,c1,c2,c3,c⟩:=d;obtain⟨sa,sc,rfl,-,-,-⟩:=id c;clear hv c i1 i2 i3
 go_enter func68,ntmps68
 go_wp2;go_ret;exact⟨rfl,ai w _⟩
theorem Fp(xs:List Int):vk [⟨1,xs,0,0⟩] false:=by
 intro v w hv f;obtain⟨a,cp,rfl,-,-⟩:=id hv;obtain⟨e,g,b,off,rfl,h,d⟩:=aA.last (p:=[]) hv;simp only[List.length_singleton,List.length_nil,Nat.zero_mul,Nat.add_zero]at d hv ⊢;obtain⟨i1,i2,i3,sv,c0,c1,c2,c3,c⟩:=d;obtain⟨sa,sc,rfl,-,-,-⟩:=id c;clear hv c i1 i2 i3
 go_enter func68,ntmps68
 go_wp2;go_ret;exact⟨rfl,ai w _⟩
theorem zE(l:List El)(b0:Bool)(mn mx:Int)(hl:vk l b0)(hne:0<l.length):vk (l++[⟨4,[],mn,mx⟩]) (b0||decide (mn=0)):=by
 intro v w hv i;have g:=hv;obtain⟨a,cp,rfl,-,-⟩:=id hv;obtain⟨c,f,b,off,rfl,p,m⟩:=hv.last;rw[c]at hv g f ⊢;simp only[List.length_append,List.length_singleton]at i c;unfold maxLen at f;obtain⟨i1,i2,i3,sv,c0,c1,c2,c3,d⟩:=m;obtain⟨sa,sc,rfl,-,-,-⟩:=id d;simp only at c0 c2 c3;clear c i1 i2 i3 d;have j:aA 0 w.heap.size w (.slice (some ⟨b,off,none⟩) l.length cp) l:=g.pre;have n:=ae j;have e1:(((l.length+1:Nat):Int)-1)=((l.length:Nat):Int):=by omega
 have h:=ai w (.cells #[.int .i64 4,.slice sa 0 sc,.int .i64 mn,.int .i64 mx] 65);have HH:=ae hl;clear j hv g hl
 by_cases h0:mn=0
 ·have HE:Hi ((b0||decide (mn=0))=true):=by show(b0||decide (mn=0))=true;simp[h0]
  rw[HE.u];clear HE;subst h0
  go_enter func68,ntmps68
  go_wp2;go_ret;exact⟨rfl,h⟩
 have HE:Hi ((b0||decide (mn=0))=b0):=by show(b0||decide (mn=0))=b0;simp[h0]
 rw[HE.u];clear HE
 go_enter func68,ntmps68
 go_wp2_with fail;refine(HH.u _ _ (n.u.below h lR) (by omega)).mono ?_;rintro e w1 ⟨rfl,k⟩;have o:=h.trans (k.mono (by rw[ah];omega));clear k;go_wp2;go_ret;exact⟨rfl,o⟩
theorem xZ(l r:List El)(b1 b2:Bool)(cr:Int)(sr:ba r cr)(hl:vk l b1)(hr:vk r b2):vk (l++r++[⟨2,[],0,0⟩]) (b1&&b2):=by
 intro v w hv j;have c:=hv;obtain⟨a,cp,rfl,-,-⟩:=id hv;obtain⟨d,f,b,off,rfl,E,k⟩:=hv.last;rw[d]at hv c f ⊢;simp only[List.length_append,List.length_singleton]at hv c j d k f ⊢;unfold maxLen at f;obtain⟨i1,i2,i3,sv,c0,c1,c2,c3,g⟩:=k;obtain⟨sa,sc,rfl,-,-,-⟩:=id g;simp only at c0 c2 c3;clear d i1 i2 i3 g;have e1:(((l.length+r.length+1:Nat):Int)-1)=((l.length+r.length:Nat):Int):=by omega
 have m:aA 0 w.heap.size w (.slice (some ⟨b,off,none⟩) l.length cp) (l):=by rw[List.append_assoc]at c;exact c.pre
 have n:=c.mid (cap':=cp-l.length) (by unfold maxLen;omega);have f5:l.length+r.length-l.length=r.length:=by omega
 have t:=ae m;have x:=ae n;have y:=ae c;have z:=ae hl;have A:=ae hr;have o:=ai w (.cells #[.int .i64 2,.slice sa 0 sc,.int .i64 0,.int .i64 0] 65);have q:Hi (∀ W,Below (w.heap.size+1) (w.alloc (.cells #[.int .i64 2,.slice sa 0 sc,.int .i64 0,.int .i64 0] 65)) W->W.cell? ⟨w.heap.size,0,none⟩=some (.int .i64 2)):=fun W hW=>(hW.cell (p:=⟨w.heap.size,0,none⟩) (Nat.lt_succ_self _)).trans ((ay w _).news 0 _ rfl)
 clear m n hv c hl hr
 go_enter func68,ntmps68
 go_wp2_with fail;refine(di _ l r cr _ _ _ sr (by exact y.u.below (ai w _) lR) (by omega) rfl).mono ?_;rintro e w1 ⟨rfl,rfl⟩
 go_wp2_with fail;have B:(w.alloc (.cells #[.int .i64 2,.slice sa 0 sc,.int .i64 0,.int .i64 0] 65)).heap.size=w.heap.size+1:=ah _ _;generalize w.alloc (.cells #[.int .i64 2,.slice sa 0 sc,.int .i64 0,.int .i64 0] 65)=W0 at *;have D:w.heap.size+1<=W0.heap.size:=by omega
 clear B c0 c1 c2 c3;refine(A.u _ _ (x.u.below o lR) (by omega)).mono ?_;rintro e w1 ⟨rfl,i⟩;have h:Below w.heap.size w w1:=o.trans (i.mono (by omega));have k0:=q.u w1 (i.mono (by omega));clear i;cases b2 with
 | false =>
  go_wp2;go_ret;exact⟨by simp,h⟩
 | true =>
  go_wp2_with fail;refine(z.u _ _ (t.u.below h lR) (by omega)).mono ?_;rintro e w2 ⟨rfl,s⟩;have C:=h.trans (s.mono h.size);clear s;go_wp2;go_ret;exact⟨by simp,C⟩
theorem Ar(l r:List El)(b1 b2:Bool)(cr:Int)(sr:ba r cr)(hl:vk l b1)(hr:vk r b2):vk (l++r++[⟨3,[],0,0⟩]) (b1||b2):=by
 intro v w hv j;have c:=hv;obtain⟨a,cp,rfl,-,-⟩:=id hv;obtain⟨d,f,b,off,rfl,E,k⟩:=hv.last;rw[d]at hv c f ⊢;simp only[List.length_append,List.length_singleton]at hv c j d k f ⊢;unfold maxLen at f;obtain⟨i1,i2,i3,sv,c0,c1,c2,c3,g⟩:=k;obtain⟨sa,sc,rfl,-,-,-⟩:=id g;simp only at c0 c2 c3;clear d i1 i2 i3 g;have e1:(((l.length+r.length+1:Nat):Int)-1)=((l.length+r.length:Nat):Int):=by omega
 have m:aA 0 w.heap.size w (.slice (some ⟨b,off,none⟩) l.length cp) (l):=by rw[List.append_assoc]at c;exact c.pre
 have n:=c.mid (cap':=cp-l.length) (by unfold maxLen;omega);have f5:l.length+r.length-l.length=r.length:=by omega
 have t:=ae m;have x:=ae n;have y:=ae c;have z:=ae hl;have A:=ae hr;have o:=ai w (.cells #[.int .i64 3,.slice sa 0 sc,.int .i64 0,.int .i64 0] 65);have q:Hi (∀ W,Below (w.heap.size+1) (w.alloc (.cells #[.int .i64 3,.slice sa 0 sc,.int .i64 0,.int .i64 0] 65)) W->W.cell? ⟨w.heap.size,0,none⟩=some (.int .i64 3)):=fun W hW=>(hW.cell (p:=⟨w.heap.size,0,none⟩) (Nat.lt_succ_self _)).trans ((ay w _).news 0 _ rfl)
 clear m n hv c hl hr
 go_enter func68,ntmps68
 go_wp2_with fail;refine(di _ l r cr _ _ _ sr (by exact y.u.below (ai w _) lR) (by omega) rfl).mono ?_;rintro e w1 ⟨rfl,rfl⟩
 go_wp2_with fail;have B:(w.alloc (.cells #[.int .i64 3,.slice sa 0 sc,.int .i64 0,.int .i64 0] 65)).heap.size=w.heap.size+1:=ah _ _;generalize w.alloc (.cells #[.int .i64 3,.slice sa 0 sc,.int .i64 0,.int .i64 0] 65)=W0 at *;have D:w.heap.size+1<=W0.heap.size:=by omega
 clear B c0 c1 c2 c3;refine(A.u _ _ (x.u.below o lR) (by omega)).mono ?_;rintro e w1 ⟨rfl,i⟩;have h:Below w.heap.size w w1:=o.trans (i.mono (by omega));have k0:=q.u w1 (i.mono (by omega));clear i;cases b2 with
 | true =>
  go_wp2;go_ret;exact⟨by simp,h⟩
 | false =>
  go_wp2_with fail;refine(z.u _ _ (t.u.below h lR) (by omega)).mono ?_;rintro e w2 ⟨rfl,s⟩;have C:=h.trans (s.mono h.size);clear s;go_wp2;go_ret;exact⟨by simp,C⟩
def aS:List El->Nat
 | []=>0
 | x::r=>(if x.kind=1 then 1 else 0)+aS r
theorem eZ(a b:List El):aS (a++b)=aS a+aS b:=by
 induction a with
 | nil=>simp[aS]
 | cons x r ih=>simp only[List.cons_append,aS,ih];omega
theorem eT(a:List El):aS a<=a.length:=by
 induction a with
 | nil=>simp[aS]
 | cons x r ih=>simp only[aS,List.length_cons];split<;>omega
theorem BR(s:Ms)(x:El):(eY s x).c=s.c+(if x.kind=1 then 1 else 0):=by
 unfold eY
 split
 ·rw[if_neg (by omega)];rfl
 split
 ·rfl
 split<;>(try split)<;>(try split)<;>simp
theorem Dv(L:List El):∀ s:Ms,(bS s L).c=s.c+aS L:=by
 induction L with
 | nil=>intro s;simp[bS,aS]
 | cons x r ih=>intro s;simp only[bS,aS,ih,BR];omega
theorem co(v:Value)(L:List El)(w:World)(hv:aA 0 w.heap.size w v L)(hlen:L.length<=3000) :
  Calls prog 105 #[v] w fun e w'=>e=.returned (.int .i64 (aS L:Nat))/\w'=w:=by
 obtain⟨a,cp,rfl,d,hc⟩:=hv
 go_enter func105,ntmps105
 go_wp2_with fail
 go_loop [3,4] (fun nv iv=>∃ k:Nat,k<=L.length/\iv=.int .i64 k/\nv=.int .i64 (aS (L.take k):Nat)) (fun _ iv=>L.length-(intOf iv).toNat)
 case atStart=>exact⟨0,Nat.zero_le _,rfl,rfl⟩
 obtain⟨k,hk,rfl,rfl⟩:=hrel;have g:=eT (L.take k);have h:(L.take k).length<=3000:=by rw[List.length_take];omega
 by_cases hlt:k<L.length
 ·have f:(k:Int)<(L.length:Int):=by omega
  obtain⟨b,off,rfl,-,i,c⟩:=hc (by omega);obtain⟨-,-,-,sv,c0,-⟩:=c k hlt;have HS:Hi (aS (L.take (k+1))=aS (L.take k)+(if (L[k]?.getD dE).kind=1 then 1 else 0)):=by
   show aS (L.take (k+1))=_;rw[List.take_add_one,List.getElem?_eq_getElem hlt,eZ];simp[aS]
  clear hc c;generalize (L[k]?.getD dE).kind=kd at *;generalize aS (L.take k)=n at *;have g3:IntKind.i64.wrap ((n:Int)+1)=(n:Int)+1:=jf (by omega) (by omega)
  by_cases hq:kd=1
  ·subst hq;go_wp2
   go_round
   case rel=>exact⟨k+1,by omega,by go_num,by rw[HS.u];go_num⟩
   simp[intOf];omega
  go_wp2
  go_round
  case rel=>exact⟨k+1,by omega,by go_num,by rw[HS.u,if_neg hq];rfl⟩
  simp[intOf];omega
 obtain rfl:k=L.length:=by omega
 rw[List.take_length]at *;go_wp2;go_ret;exact⟨rfl,rfl⟩
def jx(a:It)(n:Nat):Prop:=(∀ i∈a.fi,i<n)/\∀ i∈a.la,i<n
theorem jx.sh{a:It}{n:Nat}(h:jx a n)(c:Nat):jx (a.sh c) (c+n):=by
 refine⟨fun i hi=>?_,fun i hi=>?_⟩
 ·obtain⟨j,hj,rfl⟩:=List.mem_map.1 hi;have:=h.1 j hj;omega
 obtain⟨j,hj,rfl⟩:=List.mem_map.1 hi;have:=h.2 j hj;omega
theorem jx.mono{a:It}{n m:Nat}(h:jx a n)(hm:n<=m):jx a m:=⟨fun i hi=>Nat.lt_of_lt_of_le (h.1 i hi) hm,fun i hi=>Nat.lt_of_lt_of_le (h.2 i hi) hm⟩
theorem jx.cat{a b:It}{n:Nat}(h:jx a n)(k:jx b n):jx (bY a b) n:=by
 refine⟨fun i hi=>?_,fun i hi=>?_⟩
 ·rcases List.mem_append.1 hi with hi|hi
  ·exact h.1 i hi
  split at hi
  ·exact k.1 i hi
  cases hi
 rcases List.mem_append.1 hi with hi|hi
 ·split at hi
  ·exact h.2 i hi
  cases hi
 exact k.2 i hi
theorem jx.alt{a b:It}{n:Nat}(h:jx a n)(k:jx b n):jx (cR a b) n:=⟨fun i hi=>(List.mem_append.1 hi).elim (h.1 i) (k.1 i),fun i hi=>(List.mem_append.1 hi).elim (h.2 i) (k.2 i)⟩
theorem sH(a b:List El)(x:El)(h:x.kind≠1):aS (a++b++[x])=aS a+aS b:=by rw[eZ,eZ];simp[aS,h]
def cm(K:List Lk)(i j:Nat):Bool:=K.any (fun p=>p.1.contains i&&p.2.contains j)
theorem cH(K M:List Lk)(i j:Nat):cm (K++M) i j=(cm K i j||cm M i j):=by unfold cm;rw[List.any_append]
theorem dn(A B:List Nat)(i j:Nat):cm [(A,B)] i j=(A.contains i&&B.contains j):=by simp[cm]
theorem sY(K:List Lk)(A B:List Nat)(x y:Nat)(hx:x<A.length)(hy:y<B.length)(i j:Nat) :
  cm (K++[(A.take x,B)]++[([A[x]],B.take (y+1))]) i j=(cm (K++[(A.take x,B)]++[([A[x]],B.take y)]) i j||(decide (i=A[x])&&decide (j=B[y]))):=by
 rw[cH,cH (K++[(A.take x,B)]),dn,dn,Bool.or_assoc]
 congr 1
 rw[List.take_add_one,List.getElem?_eq_getElem hy];simp only[Option.toList_some,List.contains_append];rw[Bool.and_or_distrib_left]
 congr 1
 simp
theorem vd(K:List Lk)(A B:List Nat)(x:Nat)(hx:x<A.length)(i j:Nat) :
  cm (K++[(A.take x,B)]++[([A[x]],B)]) i j=cm (K++[(A.take (x+1),B)]) i j:=by
 rw[cH,cH,cH,dn,dn,dn,Bool.or_assoc]
 congr 1
 rw[List.take_add_one,List.getElem?_eq_getElem hx];simp only[Option.toList_some,List.contains_append];rw[Bool.and_or_distrib_right]
theorem mC(K:List Lk)(B:List Nat)(i j:Nat):cm (K++[([],B)]) i j=cm K i j:=by rw[cH,dn];simp
theorem pe(K:List Lk)(A:List Nat)(i j:Nat):cm (K++[(A,[])]) i j=cm K i j:=by rw[cH,dn];simp
def gP:Ms:=⟨0,[],[],[]⟩
theorem CA(L:List El):(bS gP L).c=aS L:=by rw[Dv];simp[gP]
theorem jU{base n:Nat}{w:World}{v:Value}{A:List Nat}(h:w.ownsRow base 3 1 v n ((A.map Int.ofNat).map mI))(hA:A.length=n)(hn:n<=10000) :
  ∃ a c,v=.slice a n c/\(0<n->∃ g o,a=some ⟨g,o,none⟩/\base<=g/\g<w.heap.size/\∀ W:World,W.heap[g]?=w.heap[g]?->∀ j (hj:j<A.length),W.cell? ⟨g,o+j,none⟩=some (.int .i64 ((A[j]:Nat):Int))):=by
 obtain⟨a,c,hv,hl,hc⟩:=bW (xs:=A.map Int.ofNat) (lo:=base) h lR (by unfold maxLen;omega);rw[List.length_map,hA]at hv hc;refine⟨a,c,hv,fun hp=>?_⟩;obtain⟨b,off,rfl,h1,h2,-,d⟩:=hc hp;refine⟨b,off,rfl,h1,h2,fun W hW j hj=>?_⟩;rw[World.cell?_of_block (w:=w) (a:=⟨b,off+j,none⟩) hW,d j (by omega)];simp[List.getElem?_eq_getElem hj,mI]
end Go.Proofs.YtidfkbghlkcbeaaGreatDoor
