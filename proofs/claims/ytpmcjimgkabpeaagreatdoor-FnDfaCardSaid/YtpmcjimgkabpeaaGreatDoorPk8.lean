import Derived.Test.YtpmcjimgkabpeaaGreatDoorPk2
import Derived.Test.YtpmcjimgkabpeaaGreatDoorPk3
import Derived.Test.YtpmcjimgkabpeaaGreatDoorPk4
namespace Go.Proofs.YtpmcjimgkabpeaaGreatDoor
def cap(n:Int):Int:=if 500<n then 501 else n
def bJ(c mn mx:Int):Int:=if mx = -1 then (if mn<1 then 1 else mn)*c+1 else if mx=0 then c else mn*c+(mx-mn)*(c+1)
theorem ml{n:Int}(h:0<=n):0<=cap n/\cap n<=501:=by unfold cap;split<;>omega
def mG(st:List Int)(x:El):List Int:=
 if x.kind=0∨x.kind=1 then 1::st else
 match st with
 | []=>[]
 | [o]=>if x.kind=4 then [cap (bJ o x.mn x.mx)] else [o]
 | r::l::b=>if x.kind=4 then cap (bJ r x.mn x.mx)::l::b else cap (l+r)::b
def gR(st:List Int):List El->List Int
 | []=>st
 | x::r=>gR (mG st x) r
theorem gM(st:List Int)(a b:List El):gR st (a++b)=gR (gR st a) b:=by
 induction a generalizing st with
 | nil=>rfl
 | cons x r ih=>simp[gR,ih]
structure aM (seg:List El) (c:Int):Prop where
 ne:0<seg.length
 ws:bI seg=1
 tl:∀ k:Nat,0<k->k<=seg.length->bI (seg.drop k)<=0
 run:∀ st,gR st seg=c::st
 bd:0<=c/\c<=501
theorem aM.leaf{x:El}(h:x.kind=0∨x.kind=1):aM [x] 1:=by
 have hw:wt x=1:=by unfold wt;rw[if_pos h]
 refine⟨by simp,by simp[bI,hw],fun k h0 h1=>?_,fun st=>?_,by omega⟩
 ·simp only[List.length_singleton]at h1;obtain rfl:k=1:=by omega
  simp[bI]
 simp only[gR,mG];rw[if_pos h]
theorem aM.bin{a b:List El}{ca cb:Int}{x:El}(ha:aM a ca)(hb:aM b cb)(h:x.kind=2∨x.kind=3):aM (a++b++[x]) (cap (ca+cb)):=by
 have hx:wt x = -1:=by unfold wt;rw[if_neg (by omega),if_pos h]
 refine⟨by simp;omega,by simp[aX,ha.ws,hb.ws,bI,hx],fun k h0 h1=>?_,fun st=>?_,ml (by have:=ha.bd;have:=hb.bd;omega)⟩
 ·simp only[List.length_append,List.length_singleton]at h1;rw[List.append_assoc,List.drop_append,aX]
  by_cases hk:k<=a.length
  ·have e:k-a.length=0:=by omega
   have:=ha.tl k h0 hk;rw[e,List.drop_zero,aX,hb.ws];simp[bI,hx];omega
  rw[List.drop_eq_nil_of_le (by omega),List.drop_append,aX]
  by_cases hk2:k-a.length<=b.length
  ·have e:k-a.length-b.length=0:=by omega
   have:=hb.tl (k-a.length) (by omega) hk2;rw[e,List.drop_zero];simp[bI,hx];omega
  rw[List.drop_eq_nil_of_le (show b.length<=k-a.length by omega),List.drop_eq_nil_of_le (by simp;omega)];simp[bI]
 rw[gM,gM,ha.run,hb.run];simp only[gR,mG];rw[if_neg (by omega),if_neg (by omega)]
theorem aM.rep{a:List El}{ca:Int}{x:El}(ha:aM a ca)(h:x.kind=4)(o2:0<=x.mn)(o4:x.mx = -1∨(x.mn<=x.mx/\x.mx<=250)):aM (a++[x]) (cap (bJ ca x.mn x.mx)):=by
 have hx:wt x=0:=by unfold wt;rw[if_neg (by omega),if_neg (by omega)]
 have hc:=ha.bd;refine⟨by simp,by simp[aX,ha.ws,bI,hx],fun k h0 h1=>?_,fun st=>?_,ml ?_⟩
 ·simp only[List.length_append,List.length_singleton]at h1;rw[List.drop_append,aX]
  by_cases hk:k<=a.length
  ·have e:k-a.length=0:=by omega
   have:=ha.tl k h0 hk;rw[e,List.drop_zero];simp[bI,hx];omega
  rw[List.drop_eq_nil_of_le (by omega),List.drop_eq_nil_of_le (by simp;omega)];simp[bI]
 ·rw[gM,ha.run];cases st with
  | nil=>simp only[gR,mG];rw[if_neg (by omega),if_pos h]
  | cons q st=>simp only[gR,mG];rw[if_neg (by omega),if_pos h]
 unfold bJ
 split
 ·have:0<=(if x.mn<1 then 1 else x.mn)*ca:=Int.mul_nonneg (by split<;>omega) hc.1;omega
 split
 ·exact hc.1
 have h1:0<=x.mn*ca:=Int.mul_nonneg o2 hc.1;have h2:0<=(x.mx-x.mn)*(ca+1):=Int.mul_nonneg (by omega) (by omega);omega
def dM(st:List (List El×Int))(x:El)(st':List (List El×Int)):Prop:=
 ((x.kind=0∨x.kind=1)/\st'=st++[([x],1)]) ∨
 ((x.kind=2∨x.kind=3)/\∃ b l r,st=b++[l,r]/\st'=b++[(l.1++r.1++[x],cap (l.2+r.2))]) ∨
 (x.kind=4/\∃ b o,st=b++[o]/\st'=b++[(o.1++[x],cap (bJ o.2 x.mn x.mx))])
def flats(st:List (List El×Int)):List El:=(st.map (fun s=>s.1)).flatten
theorem jX(t:List El×Int):flats [t]=t.1:=by simp[flats]
theorem dc{st:List (List El×Int)}(h:∀ s∈st,bI s.1=1):bI (flats st)=st.length:=by
 induction st with
 | nil=>rfl
 | cons t r ih =>
  have e:flats (t::r)=t.1++flats r:=rfl;rw[e,aX,h t (by simp),ih (fun s hs=>h s (by simp[hs]))];simp;omega
theorem dM.flats{st st':List (List El×Int)}{x:El}(h:dM st x st'):flats st'=flats st++[x]:=by
 rcases h with ⟨-,rfl⟩|⟨-,b,l,r,rfl,rfl⟩|⟨-,b,o,rfl,rfl⟩<;>simp[YtpmcjimgkabpeaaGreatDoor.flats]
theorem vl{st:List (List El×Int)}(h:1<=st.length):∃ b o,st=b++[o]:=by
 rcases List.eq_nil_or_concat st with rfl|⟨b,o,rfl⟩
 ·simp at h
 exact⟨b,o,by simp⟩
theorem xJ{st:List (List El×Int)}(h:2<=st.length):∃ b l r,st=b++[l,r]:=by
 obtain⟨b,r,rfl⟩:=vl (st:=st) (by omega);obtain⟨b',l,rfl⟩:=vl (st:=b) (by simp at h;omega);exact⟨b',l,r,by simp⟩
theorem dM.ex{st:List (List El×Int)}{x:El}(ok:iD x)(h:1<=(st.length:Int)+wt x):∃ st',dM st x st':=by
 rcases ok with ⟨q1,q2,q3,q4⟩|⟨q1|q1,q2,q3,q4⟩|⟨q1,q2,q3,q4,q5⟩
 ·exact⟨_,Or.inl ⟨Or.inr q1,rfl⟩⟩
 ·exact⟨_,Or.inl ⟨Or.inl q1,rfl⟩⟩
 ·obtain⟨b,l,r,rfl⟩:=xJ (st:=st) (by
   have e:wt x = -1:=by unfold wt;rw[if_neg (by omega),if_pos q1]
   omega)
  exact⟨_,Or.inr (Or.inl ⟨q1,b,l,r,rfl,rfl⟩)⟩
 obtain⟨b,o,rfl⟩:=vl (st:=st) (by
  have e:wt x=0:=by unfold wt;rw[if_neg (by omega),if_neg (by omega)]
  omega)
 exact⟨_,Or.inr (Or.inr ⟨q1,b,o,rfl,rfl⟩)⟩
theorem dM.seg{st st':List (List El×Int)}{x:El}(h:dM st x st')(ok:iD x)(hs:∀ s∈st,aM s.1 s.2):∀ s∈st',aM s.1 s.2:=by
 rcases h with ⟨hk,rfl⟩|⟨hk,b,l,r,rfl,rfl⟩|⟨hk,b,o,rfl,rfl⟩
 ·intro s hm;simp only[List.mem_append,List.mem_singleton]at hm;rcases hm with hm|rfl
  ·exact hs s hm
  exact aM.leaf hk
 ·intro s hm;simp only[List.mem_append,List.mem_singleton]at hm;rcases hm with hm|rfl
  ·exact hs s (by simp[hm])
  exact aM.bin (hs l (by simp)) (hs r (by simp)) hk
 intro s hm;simp only[List.mem_append,List.mem_singleton]at hm;rcases hm with hm|rfl
 ·exact hs s (by simp[hm])
 rcases ok with ⟨q1,q2,q3,q4⟩|⟨q1,q2,q3,q4⟩|⟨q1,q2,q3,q4,q5⟩
 ·omega
 ·omega
 exact aM.rep (hs o (by simp)) hk q3 q5
theorem cK{xs:List El}{k:Nat}(hk:k<xs.length):xs.take (k+1)=xs.take k++[xs[k]?.getD dE]:=by
 rw[List.take_add_one,List.getElem?_eq_getElem hk];rfl
def bw(xs:List El):Prop:=
 (1<=xs.length/\xs.length<=3000)/\(∀ i:Nat,i<xs.length->iD (xs[i]?.getD dE))/\uQ xs/\∃ c,gR [] xs=[c]/\c<=500
open Go.RowKit Go.Proofs.Tryz
set_option maxHeartbeats 16000000
set_option maxRecDepth 100000
theorem az.pre{lo n:Nat}{w:World}{a:Option Addr}{len cap:Nat}{p q:List El}(h:az lo n w (.slice a len cap) (p++q)):az lo n w (.slice a p.length cap) p:=by
 obtain⟨a',cap',e,hl,hc⟩:=h;simp only[Value.slice.injEq]at e;obtain⟨rfl,-,rfl⟩:=e;rw[List.length_append]at hl hc;refine⟨a,cap,rfl,⟨by omega,hl.2⟩,fun hp=>?_⟩;obtain⟨b,off,rfl,h1,h2,h3⟩:=hc (by omega);exact⟨b,off,rfl,h1,h2,fun i hi=>by have:=h3 i (by omega);rwa [List.getElem?_append_left hi]at this⟩
theorem az.mid{lo n:Nat}{w:World}{b off len cap cap':Nat}{p q r:List El}(h:az lo n w (.slice (some ⟨b,off,none⟩) len cap) (p++q++r))(hcap:q.length<=cap'/\cap'<=maxLen):az lo n w (.slice (some ⟨b,off+p.length*4,none⟩) q.length cap') q:=by
 obtain⟨a',cap'',e,hl,hc⟩:=h;simp only[Value.slice.injEq]at e;obtain⟨rfl,-,rfl⟩:=e;rw[List.length_append,List.length_append]at hl hc;refine⟨_,cap',rfl,hcap,fun hp=>?_⟩;obtain⟨b',off',e2,h1,h2,h3⟩:=hc (by omega);simp only[Option.some.injEq,Addr.mk.injEq,and_true]at e2;obtain⟨rfl,rfl⟩:=e2;refine⟨b,_,rfl,h1,h2,fun i hi=>?_⟩;have:=h3 (p.length+i) (by omega);rw[List.append_assoc,List.getElem?_append_right (by omega),show p.length+i-p.length=i by omega,List.getElem?_append_left hi]at this
 rwa [show off+p.length*4+i*4=off+(p.length+i)*4 by omega]
theorem az.last{lo n:Nat}{w:World}{a:Option Addr}{len cap:Nat}{p:List El}{x:El}(h:az lo n w (.slice a len cap) (p++[x])) :
  len=p.length+1/\(len<=cap/\cap<=maxLen)/\∃ b off,a=some ⟨b,off,none⟩/\b<n/\qS lo n w b (off+p.length*4) x:=by
 obtain⟨a',cap',e,hl,hc⟩:=h;simp only[Value.slice.injEq]at e;obtain⟨rfl,e1,rfl⟩:=e;rw[List.length_append]at e1 hl hc;simp only[List.length_singleton]at e1 hl hc;obtain⟨b,off,rfl,h1,h2,h3⟩:=hc (by omega);have:=h3 p.length (by omega);exact⟨e1,⟨by omega,hl.2⟩,b,off,rfl,h2,by simpa using this⟩
theorem bO(v:Value)(l r:List El)(cr:Int)(x:El)(z:Int)(w:World)(sr:aM r cr)(hv:az 0 w.heap.size w v (l++r++[x]))(hlen:l.length+r.length+1<=1048576)(hz:z=l.length+r.length) :
  Calls prog 70 #[v,.int .i64 z] w fun e w'=>e=.returned (.int .i64 (l.length:Int))/\w'=w:=by
 subst hz;have pr:=sr.ne;have h:=kV v (l++r++[x]) l.length (l.length+r.length) w hv (by simp;omega) (by omega) (by simp) ?_ ?_
 ·rwa [Int.natCast_add]at h
 ·rw[show l.length+r.length=(l++r).length by simp,List.take_left' rfl,List.drop_left' rfl];exact sr.ws
 intro k h1 h2;rw[show l.length+r.length=(l++r).length by simp,List.take_left' rfl,List.drop_append,List.drop_eq_nil_of_le (by omega),List.nil_append];exact sr.tl _ (by omega) (by omega)
def BE(l:List El)(c:Int):Prop:=∀ (v:Value) (w:World),az 0 w.heap.size w v l->l.length<=1048576->Calls prog 35 #[v] w fun e w'=>e=.returned (.int .i64 c)/\Below w.heap.size w w'
theorem mE(k:Int)(hk:k=2∨k=3)(l r:List El)(cl cr:Int)(sl:aM l cl)(sr:aM r cr)(Hl:BE l cl)(Hr:BE r cr)
  (v:Value)(w:World)(hv:az 0 w.heap.size w v (l++r++[⟨k,[],0,0⟩]))(hlen:(l++r++[(⟨k,[],0,0⟩ : El)]).length<=1048576) :
  Calls prog 35 #[v] w fun e w'=>e=.returned (.int .i64 (cap (cl+cr)))/\Below w.heap.size w w':=by
 have c:=hv;obtain⟨a,cp,rfl,-,-⟩:=id hv;obtain⟨d,f,b,off,rfl,x,i⟩:=hv.last;rw[d]at hv c f ⊢;simp only[List.length_append,List.length_singleton]at hv c hlen d i f ⊢;unfold maxLen at f;obtain⟨i1,i2,i3,sv,c0,c1,c2,c3,g⟩:=i;obtain⟨sa,sc,rfl,-,-,-⟩:=id g;simp only at c0 c2 c3;clear d i1 i2 i3 g;have e1:(((l.length+r.length+1:Nat):Int)-1)=((l.length+r.length:Nat):Int):=by omega
 have bl:=sl.bd;have br:=sr.bd;have pl:=sl.ne;have pr:=sr.ne;have j:az 0 w.heap.size w (.slice (some ⟨b,off,none⟩) l.length cp) (l):=by rw[List.append_assoc]at c;exact c.pre
 have m:=c.mid (cap':=cp-l.length) (by unfold maxLen;omega);have q:=ae j;have s:=ae m;have t:=ae c;clear j m hv c;rcases hk with rfl|rfl
 all_goals
  go_enter func35,ntmps35
  go_wp2_with fail;refine(bO _ l r cr _ _ _ sr (by exact t.u.below (ai w _) lR) hlen rfl).mono ?_;rintro e w1 ⟨rfl,rfl⟩
  go_wp2_with fail;refine(Hl _ _ (by exact q.u.below (ai w _) lR) (by omega)).mono ?_;rintro e w1 ⟨rfl,n⟩;have h:Below w.heap.size w w1:=(ai w _).trans (n.mono (by rw[ah];omega));clear n
  go_wp2_with fail;refine(Hr _ _ (by exact s.u.below h lR) (by omega)).mono ?_;rintro e w2 ⟨rfl,o⟩;have p:Below w.heap.size w w2:=h.trans (o.mono h.size);clear o
  by_cases hc5:500<cl+cr
  ·go_wp2;go_ret;exact⟨lF (by unfold cap;rw[if_pos hc5]),p⟩
  go_wp2;go_ret;exact⟨lF (by unfold cap;rw[if_neg (by omega)]),p⟩
theorem qm{n:Int}(h:500<n):cap n=501:=by unfold cap;rw[if_pos h]
theorem qj{n:Int}(h:¬ 500<n):cap n=n:=by unfold cap;rw[if_neg h]
theorem iJ{c mn:Int}(h:mn<1):bJ c mn (-1)=c+1:=by unfold bJ;rw[if_pos rfl,if_pos h];omega
theorem iE{c mn:Int}(h:¬ mn<1):bJ c mn (-1)=mn*c+1:=by unfold bJ;rw[if_pos rfl,if_neg h]
theorem kj{c mn:Int}:bJ c mn 0=c:=by unfold bJ;rw[if_neg (by omega),if_pos rfl]
theorem iK{c mn mx:Int}(h1:mx ≠ -1)(h2:mx≠0):bJ c mn mx=mn*c+(mx-mn)*(c+1):=by unfold bJ;rw[if_neg h1,if_neg h2]
theorem mW(mn mx:Int)(x:List El)(c:Int)(sx:aM x c)(o2:0<=mn)(o3:mn<=250)(o4:mx = -1∨(mn<=mx/\mx<=250))(Hx:BE x c)
  (v:Value)(w:World)(hv:az 0 w.heap.size w v (x++[⟨4,[],mn,mx⟩]))(hlen:(x++[(⟨4,[],mn,mx⟩ : El)]).length<=1048576) :
  Calls prog 35 #[v] w fun e w'=>e=.returned (.int .i64 (cap (bJ c mn mx)))/\Below w.heap.size w w':=by
 obtain⟨a,cp,rfl,-,-⟩:=id hv;obtain⟨j,k,b,off,rfl,n,m⟩:=hv.last;rw[j]at hv k ⊢;simp only[List.length_append,List.length_singleton]at hv hlen j m k ⊢;unfold maxLen at k;obtain⟨i1,i2,i3,sv,c0,c1,c2,c3,l⟩:=m;obtain⟨sa,sc,rfl,-,-,-⟩:=id l;simp only at c0 c2 c3;clear j i1 i2 i3 l;have bx:=sx.bd;have px:=sx.ne;have i:=ae hv.pre;clear hv;have m1:mn*c<=250*501:=Int.mul_le_mul o3 bx.2 bx.1 (by omega);have m0:0<=mn*c:=Int.mul_nonneg o2 bx.1;rcases o4 with rfl|⟨o4,o5⟩
 ·by_cases hm1:mn<1
  ·rw[iJ hm1]
   by_cases hc5:500<c+1
   ·rw[qm hc5]
    go_enter func35,ntmps35
    go_wp2_with fail;refine(Hx _ _ (by exact i.u.below (ai w _) lR) (by omega)).mono ?_;rintro e w1 ⟨rfl,d⟩;obtain⟨f,g⟩:=cq d;simp only[ah]at f g;have h:Below w.heap.size w w1:=(ai w _).trans (d.mono (by rw[ah];omega));clear d;go_wp2;go_ret;exact⟨rfl,h⟩
   rw[qj hc5]
   go_enter func35,ntmps35
   go_wp2_with fail;refine(Hx _ _ (by exact i.u.below (ai w _) lR) (by omega)).mono ?_;rintro e w1 ⟨rfl,d⟩;obtain⟨f,g⟩:=cq d;simp only[ah]at f g;have h:Below w.heap.size w w1:=(ai w _).trans (d.mono (by rw[ah];omega));clear d;go_wp2;go_ret;exact⟨rfl,h⟩
  rw[iE hm1]
  by_cases hc5:500<mn*c+1
  ·rw[qm hc5]
   go_enter func35,ntmps35
   go_wp2_with fail;refine(Hx _ _ (by exact i.u.below (ai w _) lR) (by omega)).mono ?_;rintro e w1 ⟨rfl,d⟩;obtain⟨f,g⟩:=cq d;simp only[ah]at f g;have h:Below w.heap.size w w1:=(ai w _).trans (d.mono (by rw[ah];omega));clear d;go_wp2;go_ret;exact⟨rfl,h⟩
  rw[qj hc5]
  go_enter func35,ntmps35
  go_wp2_with fail;refine(Hx _ _ (by exact i.u.below (ai w _) lR) (by omega)).mono ?_;rintro e w1 ⟨rfl,d⟩;obtain⟨f,g⟩:=cq d;simp only[ah]at f g;have h:Below w.heap.size w w1:=(ai w _).trans (d.mono (by rw[ah];omega));clear d;go_wp2;go_ret;exact⟨rfl,h⟩
 by_cases hx0:mx=0
 ·subst hx0;rw[kj]
  by_cases hc5:500<c
  ·rw[qm hc5]
   go_enter func35,ntmps35
   go_wp2_with fail;refine(Hx _ _ (by exact i.u.below (ai w _) lR) (by omega)).mono ?_;rintro e w1 ⟨rfl,d⟩;obtain⟨f,g⟩:=cq d;simp only[ah]at f g;have h:Below w.heap.size w w1:=(ai w _).trans (d.mono (by rw[ah];omega));clear d;go_wp2;go_ret;exact⟨rfl,h⟩
  rw[qj hc5]
  go_enter func35,ntmps35
  go_wp2_with fail;refine(Hx _ _ (by exact i.u.below (ai w _) lR) (by omega)).mono ?_;rintro e w1 ⟨rfl,d⟩;obtain⟨f,g⟩:=cq d;simp only[ah]at f g;have h:Below w.heap.size w w1:=(ai w _).trans (d.mono (by rw[ah];omega));clear d;go_wp2;go_ret;exact⟨rfl,h⟩
 rw[iK (by omega) hx0];have o:(mx == -1)=false:=by simp;omega
 have p:(mx==0)=false:=by simp[hx0]
 have m2:(mx-mn)*(c+1)<=250*502:=Int.mul_le_mul (by omega) (by omega) (by omega) (by omega);have m3:0<=(mx-mn)*(c+1):=Int.mul_nonneg (by omega) (by omega)
 by_cases hc5:500<mn*c+(mx-mn)*(c+1)
 ·rw[qm hc5]
  go_enter func35,ntmps35
  go_wp2_with fail;refine(Hx _ _ (by exact i.u.below (ai w _) lR) (by omega)).mono ?_;rintro e w1 ⟨rfl,d⟩;obtain⟨f,g⟩:=cq d;simp only[ah]at f g;have h:Below w.heap.size w w1:=(ai w _).trans (d.mono (by rw[ah];omega));clear d;go_wp2;go_ret;exact⟨rfl,h⟩
 rw[qj hc5]
 go_enter func35,ntmps35
 go_wp2_with fail;refine(Hx _ _ (by exact i.u.below (ai w _) lR) (by omega)).mono ?_;rintro e w1 ⟨rfl,d⟩;obtain⟨f,g⟩:=cq d;simp only[ah]at f g;have h:Below w.heap.size w w1:=(ai w _).trans (d.mono (by rw[ah];omega));clear d;go_wp2;go_ret;exact⟨rfl,h⟩
theorem fW(k:Int)(hk:k=0∨k=1)(st:List Int)(v:Value)(w:World)(hv:az 0 w.heap.size w v [⟨k,st,0,0⟩]) :
  Calls prog 35 #[v] w fun e w'=>e=.returned (.int .i64 1)/\Below w.heap.size w w':=by
 obtain⟨a,cp,rfl,-,hc⟩:=hv;obtain⟨b,off,rfl,-,f,d⟩:=hc (by simp);obtain⟨i1,i2,i3,sv,c0,c1,c2,c3,c⟩:=d 0 (by simp);obtain⟨sa,sc,rfl,-,-,-⟩:=id c;simp only[List.getElem?_cons_zero,Option.getD_some,Nat.zero_mul,Nat.add_zero]at c0 c1 c2 c3;clear d hc c i1 i2 i3;rcases hk with rfl|rfl
 all_goals
  go_enter func35,ntmps35
  go_wp2;go_ret;exact⟨rfl,ai w _⟩
theorem dM.szs{st st':List (List El×Int)}{x:El}(h:dM st x st')(ok:iD x)(hs:∀ s∈st,aM s.1 s.2/\BE s.1 s.2):∀ s∈st',aM s.1 s.2/\BE s.1 s.2:=by
 have a:=h.seg ok (fun s hs'=>(hs s hs').1);refine fun s hm=>⟨a s hm,?_⟩
 obtain⟨k,xs,mn,mx⟩:=x;rcases h with ⟨hk,rfl⟩|⟨hk,b,l,r,rfl,rfl⟩|⟨hk,b,o,rfl,rfl⟩
 ·simp only[List.mem_append,List.mem_singleton]at hm;rcases hm with hm|rfl
  ·exact(hs s hm).2
  intro v w hv _;rcases ok with ⟨q1,q2,q3,q4⟩|⟨q1,q2,q3,q4⟩|⟨q1,q2,q3,q4,q5⟩<;>simp only at hk q1 q2 q3 q4
  ·subst q3 q4;exact fW k hk xs v w hv
  ·subst q3 q4;exact fW k hk xs v w hv
  omega
 ·simp only[List.mem_append,List.mem_singleton]at hm;rcases hm with hm|rfl
  ·exact(hs s (by simp[hm])).2
  rcases ok with ⟨q1,q2,q3,q4⟩|⟨q1,q2,q3,q4⟩|⟨q1,q2,q3,q4,q5⟩<;>simp only at hk q1 q2 q3 q4
  ·omega
  ·subst q3 q4;obtain rfl:=List.eq_nil_of_length_eq_zero q2;exact fun v w hv hlen=>mE k hk l.1 r.1 l.2 r.2 (hs l (by simp)).1 (hs r (by simp)).1 (hs l (by simp)).2 (hs r (by simp)).2 v w hv hlen
  omega
 simp only[List.mem_append,List.mem_singleton]at hm;rcases hm with hm|rfl
 ·exact(hs s (by simp[hm])).2
 rcases ok with ⟨q1,q2,q3,q4⟩|⟨q1,q2,q3,q4⟩|⟨q1,q2,q3,q4,q5⟩<;>simp only at hk q1 q2 q3 q4
 ·omega
 ·omega
 subst hk;obtain rfl:=List.eq_nil_of_length_eq_zero q2;exact fun v w hv hlen=>mW mn mx o.1 o.2 (hs o (by simp)).1 q3 q4 q5 (hs o (by simp)).2 v w hv hlen
theorem sS{xs:List El}(ok:∀ i:Nat,i<xs.length->iD (xs[i]?.getD dE))(sh:uQ xs):∃ c,aM xs c/\BE xs c:=by
 have key:∀ k:Nat,k<=xs.length->∃ st,flats st=xs.take k/\∀ s∈st,aM s.1 s.2/\BE s.1 s.2:=by
  intro k
  induction k with
  | zero=>intro _;exact⟨[],by simp[flats],by simp⟩
  | succ k ih =>
   intro hk;obtain⟨st,d,hok⟩:=ih (by omega);have hx:=ok k (by omega);have h1:bI (xs.take (k+1))+bI (xs.drop (k+1))=1:=by rw[<-aX,List.take_append_drop];exact sh.1
   have h2:=sh.2 (k+1) (by omega) hk;have h3:=dc (fun s hs=>(hok s hs).1.ws);rw[d]at h3;rw[cK (by omega),aX,h3]at h1;simp only[bI]at h1;obtain⟨st',hp⟩:=dM.ex (st:=st) hx (by omega);exact⟨st',by rw[hp.flats,d,cK (by omega)],hp.szs hx hok⟩
 obtain⟨st,d,hok⟩:=key xs.length lR;rw[List.take_length]at d;have h3:=dc (fun s hs=>(hok s hs).1.ws);rw[d,sh.1]at h3;obtain⟨t,rfl⟩:=List.length_eq_one_iff.1 (show st.length=1 by omega);obtain⟨a,b⟩:=hok t (by simp);rw[jX]at d;rw[d]at a b;exact⟨t.2,a,b⟩
def vb(l:List El)(b:Bool):Prop:=∀ (v:Value) (w:World),az 0 w.heap.size w v l->l.length<=3000->Calls prog 75 #[v] w fun e w'=>e=.returned (.bool b)/\Below w.heap.size w w'
theorem Fr:vb [⟨0,[],0,0⟩] true:=by
 intro v w hv f;obtain⟨a,cp,rfl,-,-⟩:=id hv;obtain⟨e,g,b,off,rfl,h,d⟩:=az.last (p:=[]) hv;simp only[List.length_singleton,List.length_nil,Nat.zero_mul,Nat.add_zero]at d hv ⊢;obtain⟨i1,i2,i3,sv,c0,c1,c2,c3,c⟩:=d;obtain⟨sa,sc,rfl,-,-,-⟩:=id c;clear hv c i1 i2 i3
 go_enter func75,ntmps75
 go_wp2;go_ret;exact⟨rfl,ai w _⟩
theorem Fs(xs:List Int):vb [⟨1,xs,0,0⟩] false:=by
 intro v w hv f;obtain⟨a,cp,rfl,-,-⟩:=id hv;obtain⟨e,g,b,off,rfl,h,d⟩:=az.last (p:=[]) hv;simp only[List.length_singleton,List.length_nil,Nat.zero_mul,Nat.add_zero]at d hv ⊢;obtain⟨i1,i2,i3,sv,c0,c1,c2,c3,c⟩:=d;obtain⟨sa,sc,rfl,-,-,-⟩:=id c;clear hv c i1 i2 i3
 go_enter func75,ntmps75
 go_wp2;go_ret;exact⟨rfl,ai w _⟩
theorem Ah(l:List El)(b0:Bool)(mn mx:Int)(hl:vb l b0)(hne:0<l.length):vb (l++[⟨4,[],mn,mx⟩]) (b0||decide (mn=0)):=by
 intro v w hv i;have g:=hv;obtain⟨a,cp,rfl,-,-⟩:=id hv;obtain⟨c,f,b,off,rfl,p,m⟩:=hv.last;rw[c]at hv g f ⊢;simp only[List.length_append,List.length_singleton]at i c;unfold maxLen at f;obtain⟨i1,i2,i3,sv,c0,c1,c2,c3,d⟩:=m;obtain⟨sa,sc,rfl,-,-,-⟩:=id d;simp only at c0 c2 c3;clear c i1 i2 i3 d;have j:az 0 w.heap.size w (.slice (some ⟨b,off,none⟩) l.length cp) l:=g.pre;have n:=ae j;have e1:(((l.length+1:Nat):Int)-1)=((l.length:Nat):Int):=by omega
 have h:=ai w (.cells #[.int .i64 4,.slice sa 0 sc,.int .i64 mn,.int .i64 mx] 70);have HH:=ae hl;clear j hv g hl
 by_cases h0:mn=0
 ·have HE:Hi ((b0||decide (mn=0))=true):=by show(b0||decide (mn=0))=true;simp[h0]
  rw[HE.u];clear HE;subst h0
  go_enter func75,ntmps75
  go_wp2;go_ret;exact⟨rfl,h⟩
 have HE:Hi ((b0||decide (mn=0))=b0):=by show(b0||decide (mn=0))=b0;simp[h0]
 rw[HE.u];clear HE
 go_enter func75,ntmps75
 go_wp2_with fail;refine(HH.u _ _ (n.u.below h lR) (by omega)).mono ?_;rintro e w1 ⟨rfl,k⟩;have o:=h.trans (k.mono (by rw[ah];omega));clear k;go_wp2;go_ret;exact⟨rfl,o⟩
theorem xV(l r:List El)(b1 b2:Bool)(cr:Int)(sr:aM r cr)(hl:vb l b1)(hr:vb r b2):vb (l++r++[⟨2,[],0,0⟩]) (b1&&b2):=by
 intro v w hv j;have c:=hv;obtain⟨a,cp,rfl,-,-⟩:=id hv;obtain⟨d,f,b,off,rfl,E,k⟩:=hv.last;rw[d]at hv c f ⊢;simp only[List.length_append,List.length_singleton]at hv c j d k f ⊢;unfold maxLen at f;obtain⟨i1,i2,i3,sv,c0,c1,c2,c3,g⟩:=k;obtain⟨sa,sc,rfl,-,-,-⟩:=id g;simp only at c0 c2 c3;clear d i1 i2 i3 g;have e1:(((l.length+r.length+1:Nat):Int)-1)=((l.length+r.length:Nat):Int):=by omega
 have m:az 0 w.heap.size w (.slice (some ⟨b,off,none⟩) l.length cp) (l):=by rw[List.append_assoc]at c;exact c.pre
 have n:=c.mid (cap':=cp-l.length) (by unfold maxLen;omega);have f5:l.length+r.length-l.length=r.length:=by omega
 have t:=ae m;have x:=ae n;have y:=ae c;have z:=ae hl;have A:=ae hr;have o:=ai w (.cells #[.int .i64 2,.slice sa 0 sc,.int .i64 0,.int .i64 0] 70);have q:Hi (∀ W,Below (w.heap.size+1) (w.alloc (.cells #[.int .i64 2,.slice sa 0 sc,.int .i64 0,.int .i64 0] 70)) W->W.cell? ⟨w.heap.size,0,none⟩=some (.int .i64 2)):=fun W hW=>(hW.cell (p:=⟨w.heap.size,0,none⟩) (Nat.lt_succ_self _)).trans ((au w _).news 0 _ rfl)
 clear m n hv c hl hr
 go_enter func75,ntmps75
 go_wp2_with fail;refine(bO _ l r cr _ _ _ sr (by exact y.u.below (ai w _) lR) (by omega) rfl).mono ?_;rintro e w1 ⟨rfl,rfl⟩
 go_wp2_with fail;have B:(w.alloc (.cells #[.int .i64 2,.slice sa 0 sc,.int .i64 0,.int .i64 0] 70)).heap.size=w.heap.size+1:=ah _ _;generalize w.alloc (.cells #[.int .i64 2,.slice sa 0 sc,.int .i64 0,.int .i64 0] 70)=W0 at *;have D:w.heap.size+1<=W0.heap.size:=by omega
 clear B c0 c1 c2 c3;refine(A.u _ _ (x.u.below o lR) (by omega)).mono ?_;rintro e w1 ⟨rfl,i⟩;have h:Below w.heap.size w w1:=o.trans (i.mono (by omega));have k0:=q.u w1 (i.mono (by omega));clear i;cases b2 with
 | false =>
  go_wp2;go_ret;exact⟨by simp,h⟩
 | true =>
  go_wp2_with fail;refine(z.u _ _ (t.u.below h lR) (by omega)).mono ?_;rintro e w2 ⟨rfl,s⟩;have C:=h.trans (s.mono h.size);clear s;go_wp2;go_ret;exact⟨by simp,C⟩
theorem AA(l r:List El)(b1 b2:Bool)(cr:Int)(sr:aM r cr)(hl:vb l b1)(hr:vb r b2):vb (l++r++[⟨3,[],0,0⟩]) (b1||b2):=by
 intro v w hv j;have c:=hv;obtain⟨a,cp,rfl,-,-⟩:=id hv;obtain⟨d,f,b,off,rfl,E,k⟩:=hv.last;rw[d]at hv c f ⊢;simp only[List.length_append,List.length_singleton]at hv c j d k f ⊢;unfold maxLen at f;obtain⟨i1,i2,i3,sv,c0,c1,c2,c3,g⟩:=k;obtain⟨sa,sc,rfl,-,-,-⟩:=id g;simp only at c0 c2 c3;clear d i1 i2 i3 g;have e1:(((l.length+r.length+1:Nat):Int)-1)=((l.length+r.length:Nat):Int):=by omega
 have m:az 0 w.heap.size w (.slice (some ⟨b,off,none⟩) l.length cp) (l):=by rw[List.append_assoc]at c;exact c.pre
 have n:=c.mid (cap':=cp-l.length) (by unfold maxLen;omega);have f5:l.length+r.length-l.length=r.length:=by omega
 have t:=ae m;have x:=ae n;have y:=ae c;have z:=ae hl;have A:=ae hr;have o:=ai w (.cells #[.int .i64 3,.slice sa 0 sc,.int .i64 0,.int .i64 0] 70);have q:Hi (∀ W,Below (w.heap.size+1) (w.alloc (.cells #[.int .i64 3,.slice sa 0 sc,.int .i64 0,.int .i64 0] 70)) W->W.cell? ⟨w.heap.size,0,none⟩=some (.int .i64 3)):=fun W hW=>(hW.cell (p:=⟨w.heap.size,0,none⟩) (Nat.lt_succ_self _)).trans ((au w _).news 0 _ rfl)
 clear m n hv c hl hr
 go_enter func75,ntmps75
 go_wp2_with fail;refine(bO _ l r cr _ _ _ sr (by exact y.u.below (ai w _) lR) (by omega) rfl).mono ?_;rintro e w1 ⟨rfl,rfl⟩
 go_wp2_with fail;have B:(w.alloc (.cells #[.int .i64 3,.slice sa 0 sc,.int .i64 0,.int .i64 0] 70)).heap.size=w.heap.size+1:=ah _ _;generalize w.alloc (.cells #[.int .i64 3,.slice sa 0 sc,.int .i64 0,.int .i64 0] 70)=W0 at *;have D:w.heap.size+1<=W0.heap.size:=by omega
 clear B c0 c1 c2 c3;refine(A.u _ _ (x.u.below o lR) (by omega)).mono ?_;rintro e w1 ⟨rfl,i⟩;have h:Below w.heap.size w w1:=o.trans (i.mono (by omega));have k0:=q.u w1 (i.mono (by omega));clear i;cases b2 with
 | true =>
  go_wp2;go_ret;exact⟨by simp,h⟩
 | false =>
  go_wp2_with fail;refine(z.u _ _ (t.u.below h lR) (by omega)).mono ?_;rintro e w2 ⟨rfl,s⟩;have C:=h.trans (s.mono h.size);clear s;go_wp2;go_ret;exact⟨by simp,C⟩
def aO:List El->Nat
 | []=>0
 | x::r=>(if x.kind=1 then 1 else 0)+aO r
theorem eo(a b:List El):aO (a++b)=aO a+aO b:=by
 induction a with
 | nil=>simp[aO]
 | cons x r ih=>simp only[List.cons_append,aO,ih];omega
theorem eO(a:List El):aO a<=a.length:=by
 induction a with
 | nil=>simp[aO]
 | cons x r ih=>simp only[aO,List.length_cons];split<;>omega
theorem Bc(s:Ms)(x:El):(eU s x).c=s.c+(if x.kind=1 then 1 else 0):=by
 unfold eU
 split
 ·rw[if_neg (by omega)];rfl
 split
 ·rfl
 split<;>(try split)<;>(try split)<;>simp
theorem DC(L:List El):∀ s:Ms,(bR s L).c=s.c+aO L:=by
 induction L with
 | nil=>intro s;simp[bR,aO]
 | cons x r ih=>intro s;simp only[bR,aO,ih,Bc];omega
theorem cj(v:Value)(L:List El)(w:World)(hv:az 0 w.heap.size w v L)(hlen:L.length<=3000) :
  Calls prog 111 #[v] w fun e w'=>e=.returned (.int .i64 (aO L:Nat))/\w'=w:=by
 obtain⟨a,cp,rfl,d,hc⟩:=hv
 go_enter func111,ntmps111
 go_wp2_with fail
 go_loop [3,4] (fun nv iv=>∃ k:Nat,k<=L.length/\iv=.int .i64 k/\nv=.int .i64 (aO (L.take k):Nat)) (fun _ iv=>L.length-(intOf iv).toNat)
 case atStart=>exact⟨0,Nat.zero_le _,rfl,rfl⟩
 obtain⟨k,hk,rfl,rfl⟩:=hrel;have g:=eO (L.take k);have h:(L.take k).length<=3000:=by rw[List.length_take];omega
 by_cases hlt:k<L.length
 ·have f:(k:Int)<(L.length:Int):=by omega
  obtain⟨b,off,rfl,-,i,c⟩:=hc (by omega);obtain⟨-,-,-,sv,c0,-⟩:=c k hlt;have HS:Hi (aO (L.take (k+1))=aO (L.take k)+(if (L[k]?.getD dE).kind=1 then 1 else 0)):=by
   show aO (L.take (k+1))=_;rw[List.take_add_one,List.getElem?_eq_getElem hlt,eo];simp[aO]
  clear hc c;generalize (L[k]?.getD dE).kind=kd at *;generalize aO (L.take k)=n at *;have g3:IntKind.i64.wrap ((n:Int)+1)=(n:Int)+1:=lf (by omega) (by omega)
  by_cases hq:kd=1
  ·subst hq;go_wp2
   go_round
   case rel=>exact⟨k+1,by omega,by go_num,by rw[HS.u];go_num⟩
   simp[intOf];omega
  go_wp2
  go_round
  case rel=>exact⟨k+1,by omega,by go_num,by rw[HS.u,if_neg hq];rfl⟩
  simp[intOf];omega
 obtain rfl:k=L.length:=by omega
 rw[List.take_length]at *;go_wp2;go_ret;exact⟨rfl,rfl⟩
def ig(a:It)(n:Nat):Prop:=(∀ i∈a.fi,i<n)/\∀ i∈a.la,i<n
theorem ig.sh{a:It}{n:Nat}(h:ig a n)(c:Nat):ig (a.sh c) (c+n):=by
 refine⟨fun i hi=>?_,fun i hi=>?_⟩
 ·obtain⟨j,hj,rfl⟩:=List.mem_map.1 hi;have:=h.1 j hj;omega
 obtain⟨j,hj,rfl⟩:=List.mem_map.1 hi;have:=h.2 j hj;omega
theorem ig.mono{a:It}{n m:Nat}(h:ig a n)(hm:n<=m):ig a m:=⟨fun i hi=>Nat.lt_of_lt_of_le (h.1 i hi) hm,fun i hi=>Nat.lt_of_lt_of_le (h.2 i hi) hm⟩
theorem ig.cat{a b:It}{n:Nat}(h:ig a n)(k:ig b n):ig (bV a b) n:=by
 refine⟨fun i hi=>?_,fun i hi=>?_⟩
 ·rcases List.mem_append.1 hi with hi|hi
  ·exact h.1 i hi
  split at hi
  ·exact k.1 i hi
  cases hi
 rcases List.mem_append.1 hi with hi|hi
 ·split at hi
  ·exact h.2 i hi
  cases hi
 exact k.2 i hi
theorem ig.alt{a b:It}{n:Nat}(h:ig a n)(k:ig b n):ig (cP a b) n:=⟨fun i hi=>(List.mem_append.1 hi).elim (h.1 i) (k.1 i),fun i hi=>(List.mem_append.1 hi).elim (h.2 i) (k.2 i)⟩
theorem sD(a b:List El)(x:El)(h:x.kind≠1):aO (a++b++[x])=aO a+aO b:=by rw[eo,eo];simp[aO,h]
def ce(K:List Lk)(i j:Nat):Bool:=K.any (fun p=>p.1.contains i&&p.2.contains j)
theorem cI(K M:List Lk)(i j:Nat):ce (K++M) i j=(ce K i j||ce M i j):=by unfold ce;rw[List.any_append]
theorem di(A B:List Nat)(i j:Nat):ce [(A,B)] i j=(A.contains i&&B.contains j):=by simp[ce]
theorem rD(K:List Lk)(A B:List Nat)(x y:Nat)(hx:x<A.length)(hy:y<B.length)(i j:Nat) :
  ce (K++[(A.take x,B)]++[([A[x]],B.take (y+1))]) i j=(ce (K++[(A.take x,B)]++[([A[x]],B.take y)]) i j||(decide (i=A[x])&&decide (j=B[y]))):=by
 rw[cI,cI (K++[(A.take x,B)]),di,di,Bool.or_assoc]
 congr 1
 rw[List.take_add_one,List.getElem?_eq_getElem hy];simp only[Option.toList_some,List.contains_append];rw[Bool.and_or_distrib_left]
 congr 1
 simp
theorem uY(K:List Lk)(A B:List Nat)(x:Nat)(hx:x<A.length)(i j:Nat) :
  ce (K++[(A.take x,B)]++[([A[x]],B)]) i j=ce (K++[(A.take (x+1),B)]) i j:=by
 rw[cI,cI,cI,di,di,di,Bool.or_assoc]
 congr 1
 rw[List.take_add_one,List.getElem?_eq_getElem hx];simp only[Option.toList_some,List.contains_append];rw[Bool.and_or_distrib_right]
theorem mu(K:List Lk)(B:List Nat)(i j:Nat):ce (K++[([],B)]) i j=ce K i j:=by rw[cI,di];simp
theorem oL(K:List Lk)(A:List Nat)(i j:Nat):ce (K++[(A,[])]) i j=ce K i j:=by rw[cI,di];simp
def gL:Ms:=⟨0,[],[],[]⟩
theorem Co(L:List El):(bR gL L).c=aO L:=by rw[DC];simp[gL]
theorem jm{base n:Nat}{w:World}{v:Value}{A:List Nat}(h:w.ownsRow base 3 1 v n ((A.map Int.ofNat).map mI))(hA:A.length=n)(hn:n<=10000) :
  ∃ a c,v=.slice a n c/\(0<n->∃ g o,a=some ⟨g,o,none⟩/\base<=g/\g<w.heap.size/\∀ W:World,W.heap[g]?=w.heap[g]?->∀ j (hj:j<A.length),W.cell? ⟨g,o+j,none⟩=some (.int .i64 ((A[j]:Nat):Int))):=by
 obtain⟨a,c,hv,hl,hc⟩:=bP (xs:=A.map Int.ofNat) (lo:=base) h lR (by unfold maxLen;omega);rw[List.length_map,hA]at hv hc;refine⟨a,c,hv,fun hp=>?_⟩;obtain⟨b,off,rfl,h1,h2,-,d⟩:=hc hp;refine⟨b,off,rfl,h1,h2,fun W hW j hj=>?_⟩;rw[World.cell?_of_block (w:=w) (a:=⟨b,off+j,none⟩) hW,d j (by omega)];simp[List.getElem?_eq_getElem hj,mI]
end Go.Proofs.YtpmcjimgkabpeaaGreatDoor
