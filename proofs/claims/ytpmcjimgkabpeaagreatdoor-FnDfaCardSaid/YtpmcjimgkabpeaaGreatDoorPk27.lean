import Derived.Test.YtpmcjimgkabpeaaGreatDoorPk22
namespace Go.Proofs.YtpmcjimgkabpeaaGreatDoor
open Go.RowKit Go.Proofs.Tryz
set_option maxHeartbeats 16000000
set_option maxRecDepth 100000
def jl:List (List El)->Nat
 | []=>0
 | p::r=>p.length+1+jl r
theorem yb(a b:List (List El)):jl (a++b)=jl a+jl b:=by
 induction a with
 | nil=>simp[jl]
 | cons p r ih=>simp only[List.cons_append,jl,ih];omega
theorem tr(p:List El)(n:Nat):jl (List.replicate n p)=n*(p.length+1):=by
 induction n with
 | zero=>simp[jl]
 | succ n ih=>simp only[List.replicate_succ,jl,ih,Nat.succ_mul];omega
theorem Es(ps:List (List El))(h:ps≠[]):(jn ps).length+1=jl ps:=by
 match ps with
 | p::r =>
  have key:∀ (r:List (List El)) (acc:List El),(r.foldl (fun acc q=>acc++q++[lu]) acc).length=acc.length+jl r:=by
   intro r
   induction r with
   | nil=>intro acc;simp[jl]
   | cons q r ih=>intro acc;simp only[List.foldl_cons,ih,jl,List.length_append,List.length_singleton];omega
  simp only[jn,key,jl];omega
theorem wX(X:List El)(mn mx:Int)(h:mx = -1∨(0<mx/\mn<=mx/\0<=mn)):bH X mn mx≠[]:=by
 unfold bH;rcases h with h|⟨h1,h2,h3⟩
 ·rw[if_pos h];simp
 rw[if_neg (by omega)];intro e;have:=congrArg List.length e;simp at this;omega
theorem dz(U:Value)(mn mx:Int)(h:mx = -1∨(0<mx/\mn<=mx/\0<=mn)):cB U mn mx≠[]:=by
 unfold cB;rcases h with h|⟨h1,h2,h3⟩
 ·rw[if_pos h];simp
 rw[if_neg (by omega)];intro e;have:=congrArg List.length e;simp at this;omega
theorem iF(X:List El)(c mn mx:Int)(hX:(X.length:Int)<=2*c-1)(o2:0<=mn)(h:mx = -1∨(0<mx/\mn<=mx)):((jn (bH X mn mx)).length:Int)<=2*bJ c mn mx-1:=by
 have hne:=wX X mn mx (h.imp id (fun q=>⟨q.1,q.2,o2⟩));have h1:=Es _ hne;rcases h with h|⟨h3,h4⟩
 ·subst h;have e:jl (bH X mn (-1))=(mn-1).toNat*(X.length+1)+(X.length+2):=by
   unfold bH;rw[if_pos rfl,yb,tr];simp[jl]
  have hm:(((mn-1).toNat*(X.length+1):Nat):Int)<=((mn-1).toNat:Int)*(2*c):=by
   rw[Int.natCast_mul];exact Int.mul_le_mul_of_nonneg_left (by omega) (by omega)
  by_cases hmn:mn<1
  ·rw[show(mn-1).toNat=0 by omega]at e hm;rw[iJ hmn];omega
  rw[iE hmn];have e2:((mn-1).toNat:Int)*(2*c)=2*(mn*c)-2*c:=by
   rw[show((mn-1).toNat:Int)=mn-1 by omega,Int.sub_mul,Int.one_mul,<-Int.mul_assoc,Int.mul_comm mn 2,Int.mul_assoc]
  omega
 have e:jl (bH X mn mx)=mn.toNat*(X.length+1)+(mx-mn).toNat*(X.length+3):=by
  unfold bH;rw[if_neg (by omega),yb,tr,tr];simp[ph]
 have hm:((mn.toNat*(X.length+1):Nat):Int)<=mn*(2*c):=by
  rw[Int.natCast_mul,show(mn.toNat:Int)=mn by omega];exact Int.mul_le_mul_of_nonneg_left (by omega) (by omega)
 have a:(((mx-mn).toNat*(X.length+3):Nat):Int)<=(mx-mn)*(2*(c+1)):=by
  rw[Int.natCast_mul,show((mx-mn).toNat:Int)=mx-mn by omega];exact Int.mul_le_mul_of_nonneg_left (by omega) (by omega)
 rw[iK (by omega) (by omega)];have e2:mn*(2*c)=2*(mn*c):=by rw[<-Int.mul_assoc,Int.mul_comm mn 2,Int.mul_assoc]
 have e3:(mx-mn)*(2*(c+1))=2*((mx-mn)*(c+1)):=by rw[<-Int.mul_assoc,Int.mul_comm (mx-mn) 2,Int.mul_assoc]
 omega
theorem Av(c mn mx:Int)(hc:0<=c)(o2:0<=mn)(h:mx = -1∨(mn<=mx/\mx<=250)):c<=bJ c mn mx:=by
 rcases h with h|⟨h1,-⟩
 ·subst h
  by_cases hmn:mn<1
  ·rw[iJ hmn];omega
  rw[iE hmn];have:1*c<=mn*c:=Int.mul_le_mul_of_nonneg_right (by omega) hc;omega
 by_cases h0:mx=0
 ·subst h0;rw[kj];exact Int.le_refl _
 rw[iK (by omega) h0];have p1:0<=mn*c:=Int.mul_nonneg o2 hc;have p2:0<=(mx-mn)*(c+1):=Int.mul_nonneg (by omega) (by omega)
 by_cases h2:0<mn
 ·have:1*c<=mn*c:=Int.mul_le_mul_of_nonneg_right (by omega) hc;omega
 have:1*(c+1)<=(mx-mn)*(c+1):=Int.mul_le_mul_of_nonneg_right (by omega) (by omega);omega
def rn(st:List (List El))(x:El):List (List El):=
 if x.kind=0∨x.kind=1 then [x]::st else
 match st with
 | []=>[]
 | [o]=>if x.kind=4 then [mV o x.mn x.mx] else [o]
 | r::l::b=>if x.kind=4 then mV r x.mn x.mx::l::b else (l++r++[x])::b
def nT(st:List (List El)):List El->List (List El)
 | []=>st
 | x::r=>nT (rn st x) r
theorem im(st:List (List El))(a b:List El):nT st (a++b)=nT (nT st a) b:=by
 induction a generalizing st with
 | nil=>rfl
 | cons x r ih=>simp[nT,ih]
def cG(seg L:List El):Prop:=∀ st,nT st seg=L::st
theorem cG.leaf{x:El}(h:x.kind=0∨x.kind=1):cG [x] [x]:=fun st=>by simp only[nT,rn];rw[if_pos h]
theorem cG.bin{a b A B:List El}{x:El}(ha:cG a A)(hb:cG b B)(h:x.kind=2∨x.kind=3):cG (a++b++[x]) (A++B++[x]):=fun st=>by
 rw[im,im,ha,hb];simp only[nT,rn];rw[if_neg (by omega),if_neg (by omega)]
theorem cG.rep{a A:List El}{x:El}(ha:cG a A)(h:x.kind=4):cG (a++[x]) (mV A x.mn x.mx):=fun st=>by
 rw[im,ha];cases st with
 | nil=>simp only[nT,rn];rw[if_neg (by omega),if_pos h]
 | cons q st=>simp only[nT,rn];rw[if_neg (by omega),if_pos h]
theorem cG.one{a A B:List El}(h:cG a A)(k:cG a B):A=B:=by
 have:=(h []).symm.trans (k [])
 simpa using this
theorem fu{n:Int}(h:cap n<=500):cap n=n/\n<=500:=by
 unfold cap at h ⊢
 by_cases e:500<n
 ·rw[if_pos e]at h;omega
 rw[if_neg e];exact⟨rfl,by omega⟩
theorem gq{xs:List Int}(h:cU xs):xs.length<=300:=by
 by_cases q:xs.length<=258
 ·omega
 have h1:=zL h 129 (by omega);have h2:=(h.2.1 (2*129) (by omega)).2;omega
theorem jk{xs:List Int}(h:cU xs):aY [⟨1,xs,0,0⟩]:=by
 refine⟨fun i=>?_,fun i=>?_⟩
 ·cases i with
  | zero =>
   refine⟨by simp[aA],by simp[aA],by simp[aA],fun j=>?_⟩
   by_cases hj:j<xs.length
   ·have:=h.2.1 j hj;show aA (xs[j]?.getD 0);unfold aA;omega
   show aA (xs[j]?.getD 0);rw[List.getElem?_eq_none (by omega)];simp[aA]
  | succ i=>simp[dE,aA]
 cases i with
 | zero=>have:=gq h;show xs.length<=1048576;omega
 | succ i=>simp[dE]
theorem nk{X:List El}(h:aY X)(mn mx:Int)(o2:0<=mn)(o3:mn<=250):aY (jn (bH X mn mx)):=by
 refine Bk _ (fun p hp=>?_)
 unfold bH at hp
 by_cases e:mx = -1
 ·rw[if_pos e]at hp;rcases List.mem_append.1 hp with hp|hp
  ·rw[(List.mem_replicate.1 hp).2];exact h
  rw[List.mem_singleton.1 hp];exact h.app (aY.op _ _ _ (by simp[aA]) (by unfold aA;split<;>omega) (by simp[aA]))
 rw[if_neg e]at hp;rcases List.mem_append.1 hp with hp|hp
 ·rw[(List.mem_replicate.1 hp).2];exact h
 rw[(List.mem_replicate.1 hp).2];exact oy h
theorem jT{vs:List Value}(h:vs≠[])(hi:∀ u∈vs,∃ T x,u=.iface T x):∃ T x,jV vs=.iface T x:=by
 match vs with
 | p::r=>exact CF r p (hi p (by simp))
 | []=>exact absurd rfl h
theorem fX{U:Value}(h:∃ T x,U=.iface T x)(mn mx:Int):∀ u∈cB U mn mx,∃ T x,u=.iface T x:=by
 intro u hu;unfold cB at hu
 by_cases e:mx = -1
 ·rw[if_pos e]at hu;rcases List.mem_append.1 hu with hu|hu
  ·rw[(List.mem_replicate.1 hu).2];exact h
  rw[List.mem_singleton.1 hu];exact⟨_,_,rfl⟩
 rw[if_neg e]at hu;rcases List.mem_append.1 hu with hu|hu
 ·rw[(List.mem_replicate.1 hu).2];exact h
 rw[(List.mem_replicate.1 hu).2];exact⟨_,_,rfl⟩
def tG(p:Nat->Bool):Nat->Nat->Nat
 | 0=>fun _=>0
 | n+1=>if p n then (fun j=>if j=n / 64 then tG p n (n / 64) ||| 2 ^ (n%64) else tG p n j) else tG p n
theorem lJ(p:Nat->Bool):∀ n:Nat,Fit (tG p n)
 | 0=>fun j=>by show 0<18446744073709551616;omega
 | n+1=>fun j=>by
  simp only[tG]
  split
  ·by_cases e:j=n / 64
   ·simp only[e,if_true];exact yU _ _ (lJ p n _) (by omega)
   simp only[e,if_false];exact lJ p n j
  exact lJ p n j
theorem yg(p:Nat->Bool)(b:Nat):∀ n:Nat,Bt (tG p n) b=(decide (b<n)&&p b)
 | 0=>by simp[tG,Bt]
 | n+1=>by
  have ih:=yg p b n
  by_cases hp:p n=true
  ·have e:tG p (n+1)=(fun j=>if j=n / 64 then tG p n (n / 64) ||| 2 ^ (n%64) else tG p n j):=by simp[tG,hp]
   rw[e,pQ,ih]
   by_cases e2:b=n
   ·subst e2;simp[hp]
   have:b<n+1↔b<n:=by omega
   simp[e2,this]
  have e:tG p (n+1)=tG p n:=by simp[tG,hp]
  rw[e,ih]
  by_cases e2:b=n
  ·subst e2;simp[hp]
  have:b<n+1↔b<n:=by omega
  simp[this]
theorem jA{xs:List Int}(h:cU xs):∃ g,du xs g:=by
 refine⟨tG (nm xs (xs.length / 2)) 256,lJ _ _,fun b=>?_⟩;rw[yg]
 by_cases hb:b<256
 ·simp[hb]
 have:nm xs (xs.length / 2) b=false:=by
  rw[Bool.eq_false_iff];intro q;obtain⟨j,h1,h2,h3⟩:=(ur _ _ _).1 q;have:=(h.2.1 (2*j+1) (by omega)).2;omega
 rw[this];simp
theorem dM.gg{G:Value->List El×Int->Prop}(hG:iN G){st st':List (List El×Int)}{x:El}(h:dM st x st')(ok:iD x)(hs:∀ s∈st,∃ u,G u s):∀ s∈st',∃ u,G u s:=by
 intro s hm;obtain⟨k,xs,mn,mx⟩:=x;rcases h with ⟨hk,rfl⟩|⟨hk,b,l,r,rfl,rfl⟩|⟨hk,b,o,rfl,rfl⟩
 ·simp only[List.mem_append,List.mem_singleton]at hm;rcases hm with hm|rfl
  ·exact hs s hm
  rcases ok with ⟨q1,q2,q3,q4⟩|⟨q1,q2,q3,q4⟩|⟨q1,q2,q3,q4,q5⟩<;>simp only at hk q1 q2 q3 q4
  ·subst q1 q3 q4;obtain⟨g,hg⟩:=jA q2;exact⟨_,hG.s q2 hg⟩
  ·subst q3 q4;obtain rfl:=List.eq_nil_of_length_eq_zero q2;obtain rfl:k=0:=by omega
   exact⟨_,hG.e⟩
  omega
 ·simp only[List.mem_append,List.mem_singleton]at hm;rcases hm with hm|rfl
  ·exact hs s (by simp[hm])
  obtain⟨u,hu⟩:=hs l (by simp);obtain⟨v,hv⟩:=hs r (by simp);rcases ok with ⟨q1,q2,q3,q4⟩|⟨q1,q2,q3,q4⟩|⟨q1,q2,q3,q4,q5⟩<;>simp only at hk q1 q2 q3 q4
  ·omega
  ·subst q3 q4;obtain rfl:=List.eq_nil_of_length_eq_zero q2;rcases hk with rfl|rfl
   ·exact⟨_,hG.cat hu hv⟩
   exact⟨_,hG.alt hu hv⟩
  omega
 simp only[List.mem_append,List.mem_singleton]at hm;rcases hm with hm|rfl
 ·exact hs s (by simp[hm])
 obtain⟨u,hu⟩:=hs o (by simp);rcases ok with ⟨q1,q2,q3,q4⟩|⟨q1,q2,q3,q4⟩|⟨q1,q2,q3,q4,q5⟩<;>simp only at hk q1 q2 q3 q4
 ·omega
 ·omega
 subst hk;obtain rfl:=List.eq_nil_of_length_eq_zero q2;exact⟨_,hG.rep hu q3 q4 q5⟩
theorem jJ{G:Value->List El×Int->Prop}(hG:iN G){xs:List El}(h:bw xs):∃ u c,G u (xs,c):=by
 obtain⟨h1,ok,sh,c,d,e⟩:=h;have key:∀ k:Nat,k<=xs.length->∃ st,flats st=xs.take k/\(∀ s∈st,aM s.1 s.2)/\∀ s∈st,∃ u,G u s:=by
  intro k
  induction k with
  | zero=>intro _;exact⟨[],by simp[flats],by simp,by simp⟩
  | succ k ih =>
   intro hk;obtain⟨st,a,hok,b⟩:=ih (by omega);have hx:=ok k (by omega);have h1:bI (xs.take (k+1))+bI (xs.drop (k+1))=1:=by rw[<-aX,List.take_append_drop];exact sh.1
   have h2:=sh.2 (k+1) (by omega) hk;have h3:=dc (fun s hs=>(hok s hs).ws);rw[a]at h3;rw[cK (by omega),aX,h3]at h1;simp only[bI]at h1;obtain⟨st',hp⟩:=dM.ex (st:=st) hx (by omega);exact⟨st',by rw[hp.flats,a,cK (by omega)],hp.seg hx hok,hp.gg hG hx b⟩
 obtain⟨st,a,hok,b⟩:=key xs.length lR;rw[List.take_length]at a;have h3:=dc (fun s hs=>(hok s hs).ws);rw[a,sh.1]at h3;obtain⟨t,rfl⟩:=List.length_eq_one_iff.1 (show st.length=1 by omega);obtain⟨u,hu⟩:=b t (by simp);rw[jX]at a;obtain⟨t1,t2⟩:=t;simp only at a;subst a;exact⟨u,t2,hu⟩
def aN(L:List El):Prop:=∀ x∈L,x.kind=4->x.mx = -1/\0<=x.mn/\x.mn<=1
theorem aN.left{a b:List El}(h:aN (a++b)):aN a:=fun x hx=>h x (List.mem_append.2 (Or.inl hx))
theorem aN.right{a b:List El}(h:aN (a++b)):aN b:=fun x hx=>h x (List.mem_append.2 (Or.inr hx))
theorem aN.app{a b:List El}(h:aN a)(k:aN b):aN (a++b):=fun x hx=>(List.mem_append.1 hx).elim (h x) (k x)
theorem aN.op{k:Int}{xs:List Int}(hk:k≠4)(mn mx:Int):aN [⟨k,xs,mn,mx⟩]:=fun x hx e=>by
 rw[List.mem_singleton]at hx;subst hx;exact absurd e hk
theorem aN.rep(mn:Int)(h0:0<=mn)(h1:mn<=1):aN [⟨4,[],mn,-1⟩]:=fun x hx _=>by
 rw[List.mem_singleton]at hx;subst hx;exact⟨rfl,h0,h1⟩
theorem ot:∀ {r:List (List El)} {p:List El},aN p->(∀ q∈r,aN q)->aN (r.foldl (fun acc q=>acc++q++[lu]) p)
 | [],_,h,_=>h
 | q::r,_,h,k=>ot (r:=r) ((h.app (k q (List.mem_cons_self ..))).app (aN.op (by decide) 0 0)) (fun x hx=>k x (List.mem_cons_of_mem _ hx))
theorem aN.jn{ps:List (List El)}(h:∀ q∈ps,aN q):aN (jn ps):=by
 cases ps with
 | nil=>intro x hx;cases hx
 | cons p r=>exact ot (h p (List.mem_cons_self ..)) (fun q hq=>h q (List.mem_cons_of_mem _ hq))
theorem aN.repx{a:List El}(h:aN a)(mn mx:Int)(o2:0<=mn):aN (mV a mn mx):=by
 unfold mV
 split
 ·exact aN.op (by decide) 0 0
 refine aN.jn (fun q hq=>?_)
 unfold bH at hq
 split at hq
 ·rcases List.mem_append.1 hq with hq|hq
  ·rw[(List.mem_replicate.1 hq).2];exact h
  rw[List.mem_singleton]at hq;subst hq;exact h.app (aN.rep _ (by split<;>omega) (by split<;>omega))
 rcases List.mem_append.1 hq with hq|hq
 ·rw[(List.mem_replicate.1 hq).2];exact h
 rw[(List.mem_replicate.1 hq).2];exact(h.app (aN.op (by decide) 0 0)).app (aN.op (by decide) 0 0)
section
variable {n:Nat} {hs:List Int->Nat->Prop}
def GB(n:Nat)(hs:List Int->Nat->Prop)(u:Value)(t:List El×Int):Prop:=ft u t.2/\∃ R L,bp n hs t.1 R/\cG t.1 L/\bp n hs L R/\aN L
theorem CV:iN (GB n hs):=by
 refine⟨fun h=>h.1,?_,?_,?_,?_,?_⟩
 ·exact⟨ft.e,_,_,bp.e,cG.leaf (Or.inl rfl),bp.e,aN.op (by decide) 0 0⟩
 ·intro xs g hc hw;exact⟨ft.s _ _ _ _,_,_,bp.s xs,cG.leaf (Or.inr rfl),bp.s xs,aN.op (by decide) 0 0⟩
 ·rintro u v l r ⟨hu,A,L,a1,a2,a3,a4⟩ ⟨hv,B,R,b1,b2,b3,b4⟩;exact⟨ft.cat hu hv,_,_,a1.cat b1,cG.bin a2 b2 (Or.inl rfl),a3.cat b3,(a4.app b4).app (aN.op (by decide) 0 0)⟩
 ·rintro u v l r ⟨hu,A,L,a1,a2,a3,a4⟩ ⟨hv,B,R,b1,b2,b3,b4⟩;exact⟨ft.alt hu hv,_,_,a1.alt b1,cG.bin a2 b2 (Or.inr rfl),a3.alt b3,(a4.app b4).app (aN.op (by decide) 0 0)⟩
 rintro u o mn mx ⟨hu,A,L,a1,a2,a3,a4⟩ o2 o3 o4;exact⟨ft.rep hu o2 o3 o4,_,_,a1.rep mn mx,cG.rep a2 rfl,a3.repx mn mx o2 o4,a4.repx mn mx o2⟩
theorem wF{xs L:List El}(h:bw xs)(hx:cG xs L):∃ R,bp n hs xs R/\bp n hs L R/\aN L:=by
 obtain⟨u,c,-,R,L',h1,h2,h3,h4⟩:=jJ (CV (n:=n) (hs:=hs)) h;obtain rfl:=cG.one h2 hx;exact⟨R,h1,h3,h4⟩
end
theorem En(x:Value)(w:World):Sem.run prog (Instr.typeAssert (.iface 95 x) 48 95 true) w=.ok (.tuple #[x,.bool true]) w:=by kernel_rfl
theorem Ep(x:Value)(w:World):Sem.run prog (Instr.typeAssert (.iface 149 x) 48 95 true) w=.ok (.tuple #[.agg #[.nilIface,.nilIface],.bool false]) w:=by kernel_rfl
theorem Eu(x:Value)(w:World):Sem.run prog (Instr.typeAssert (.iface 149 x) 48 149 true) w=.ok (.tuple #[x,.bool true]) w:=by kernel_rfl
theorem Ei(x:Value)(w:World):Sem.run prog (Instr.typeAssert (.iface 93 x) 48 95 true) w=.ok (.tuple #[.agg #[.nilIface,.nilIface],.bool false]) w:=by kernel_rfl
theorem FB(x:Value)(w:World):Sem.run prog (Instr.typeAssert (.iface 93 x) 48 149 true) w=.ok (.tuple #[.agg #[.nilIface,.nilIface],.bool false]) w:=by kernel_rfl
theorem Ft(x:Value)(w:World):Sem.run prog (Instr.typeAssert (.iface 93 x) 48 93 true) w=.ok (.tuple #[x,.bool true]) w:=by kernel_rfl
theorem ED(w:World):Sem.run prog (Instr.typeAssert (.iface 186 (.agg #[])) 48 95 true) w=.ok (.tuple #[.agg #[.nilIface,.nilIface],.bool false]) w:=by kernel_rfl
theorem Ek(w:World):Sem.run prog (Instr.typeAssert (.iface 186 (.agg #[])) 48 149 true) w=.ok (.tuple #[.agg #[.nilIface,.nilIface],.bool false]) w:=by kernel_rfl
theorem Fa(w:World):Sem.run prog (Instr.typeAssert (.iface 186 (.agg #[])) 48 93 true) w=.ok (.tuple #[.agg #[.nilIface,.int .i64 0,.int .i64 0],.bool false]) w:=by kernel_rfl
theorem EJ(x:Value)(w:World):Sem.run prog (Instr.typeAssert (.iface 91 x) 48 95 true) w=.ok (.tuple #[.agg #[.nilIface,.nilIface],.bool false]) w:=by kernel_rfl
theorem Eo(x:Value)(w:World):Sem.run prog (Instr.typeAssert (.iface 91 x) 48 149 true) w=.ok (.tuple #[.agg #[.nilIface,.nilIface],.bool false]) w:=by kernel_rfl
theorem Fc(x:Value)(w:World):Sem.run prog (Instr.typeAssert (.iface 91 x) 48 93 true) w=.ok (.tuple #[.agg #[.nilIface,.int .i64 0,.int .i64 0],.bool false]) w:=by kernel_rfl
theorem dd.e:dd eV eV:=by
 refine⟨⟨_,_,rfl⟩,fun w=>?_⟩;unfold eV;have t1:=ED;have t2:=Ek;have t3:=Fa
 go_enter func43,ntmps43
 go_wp2;go_ret;exact⟨rfl,Below.refl _ _⟩
theorem dd.s(g:Nat->Nat):dd (sV g) (sV g):=by
 refine⟨⟨_,_,rfl⟩,fun w=>?_⟩;unfold sV fZ;have t1:=EJ;have t2:=Eo;have t3:=Fc
 go_enter func43,ntmps43
 go_wp2;go_ret;exact⟨rfl,Below.refl _ _⟩
theorem dd.cat{u v U V:Value}(iu:∃ T x,u=.iface T x)(iv:∃ T x,v=.iface T x)(hu:dd u U)(hv:dd v V):dd (cV u v) (cV U V):=by
 refine⟨⟨_,_,rfl⟩,fun w=>?_⟩;obtain⟨T,x,rfl⟩:=iu;obtain⟨T',x',rfl⟩:=iv;obtain⟨⟨T1,x1,rfl⟩,hu⟩:=hu;obtain⟨⟨T2,x2,rfl⟩,hv⟩:=hv;have HF:=ae hu;have HG:=ae hv;clear hu hv;unfold cV;have t1:=En
 go_enter func43,ntmps43
 go_wp2_with fail
 go_region_with ((first|((with_reducible refine(HF.u _).mono ?_);rintro e w1 ⟨rfl,a⟩;have b:Below (w.heap.size+1) (w.alloc (.cells #[.iface T x,.iface T' x'] 95)) w1:=⟨a.os,a.tape,a.output,a.size,fun k hk=>a.block k (by simpa using hk)⟩;have d:=(cq b).1;clear a)|((with_reducible refine(HG.u _).mono ?_);rintro e w2 ⟨rfl,hb2⟩)))
 all_goals
  have c:Below w.heap.size w w1:=(ai w _).trans (b.mono (by omega));have f:Below w.heap.size w w2:=c.trans ⟨hb2.os,hb2.tape,hb2.output,hb2.size,fun k hk=>hb2.block k (Nat.lt_of_lt_of_le hk c.size)⟩;clear d b hb2;go_wp2;go_ret;exact⟨rfl,f⟩
theorem dd.alt{u v U V:Value}(iu:∃ T x,u=.iface T x)(iv:∃ T x,v=.iface T x)(hu:dd u U)(hv:dd v V):dd (aV u v) (aV U V):=by
 refine⟨⟨_,_,rfl⟩,fun w=>?_⟩;obtain⟨T,x,rfl⟩:=iu;obtain⟨T',x',rfl⟩:=iv;obtain⟨⟨T1,x1,rfl⟩,hu⟩:=hu;obtain⟨⟨T2,x2,rfl⟩,hv⟩:=hv;have HF:=ae hu;have HG:=ae hv;clear hu hv;unfold aV;have t1:=Ep;have t2:=Eu
 go_enter func43,ntmps43
 go_wp2_with fail
 go_region_with ((first|((with_reducible refine(HF.u _).mono ?_);rintro e w1 ⟨rfl,a⟩;have b:Below (w.heap.size+1) (w.alloc (.cells #[.iface T x,.iface T' x'] 149)) w1:=⟨a.os,a.tape,a.output,a.size,fun k hk=>a.block k (by simpa using hk)⟩;have d:=(cq b).1;clear a)|((with_reducible refine(HG.u _).mono ?_);rintro e w2 ⟨rfl,hb2⟩)))
 all_goals
  have c:Below w.heap.size w w1:=(ai w _).trans (b.mono (by omega));have f:Below w.heap.size w w2:=c.trans ⟨hb2.os,hb2.tape,hb2.output,hb2.size,fun k hk=>hb2.block k (Nat.lt_of_lt_of_le hk c.size)⟩;clear d b hb2;go_wp2;go_ret;exact⟨rfl,f⟩
theorem dd.rep0{u W:Value}{mn mx:Int}(iu:∃ T x,u=.iface T x)(iw:∃ T x,W=.iface T x)(h:∀ w,Calls prog 84 #[.agg #[u,.int .i64 mn,.int .i64 mx]] w fun e w'=>e=.returned W/\Below w.heap.size w w'):dd (rV u mn mx) W:=by
 refine⟨iw,fun w=>?_⟩;obtain⟨T,x,rfl⟩:=iu;have HF:=ae h;clear h;unfold rV;have t1:=Ei;have t2:=FB;have t3:=Ft
 go_enter func43,ntmps43
 go_wp2_with fail;refine(HF.u _).mono ?_;rintro e w1 ⟨rfl,a⟩;have b:Below w.heap.size w w1:=(ai w _).trans (a.mono (by rw[ah];omega));clear a;go_wp2;go_ret;exact⟨rfl,b⟩
open Classical in
theorem vI(v:Value)(set:List Int)(b:Int)(w:World)(hv:aP mI 0 0 w.heap.size w v set)(hl:set.length<=1048576) :
  Calls prog 72 #[v,.int .i64 b] w fun e w'=>e=.returned (.bool (decide (dP set b)))/\w'=w:=
 (oM v set b w hv hl).mono (fun e w' ⟨⟨r,h1,h2⟩,h3⟩=>⟨by rw[h1];congr 2;rw[Bool.eq_iff_iff,h2,decide_eq_true_eq],h3⟩)
open Classical in
theorem FU(bs xs:List Int)(hxs:xs.length<=1048576):vE bs [⟨1,xs,0,0⟩] (wW bs.length (mY bs xs)):=by
 intro v lv bq F w hv N m n t;obtain⟨a,cp,rfl,-,-⟩:=id hv;obtain⟨H,O,b,off,rfl,T,y⟩:=az.last (p:=[]) hv;simp only[List.length_singleton,List.length_nil,Nat.zero_mul,Nat.add_zero]at y hv ⊢;obtain⟨i1,i2,i3,sv,c0,c1,c2,c3,d⟩:=y;have o:aP mI 0 0 w.heap.size w sv xs:=vD d;obtain⟨sa,sc,rfl,-,-⟩:=id o;have I:=ae o;have J:=ae m;have K:=ae n.2;have hn:=n.1;have z:=run_make_row' (P:=prog) 31 4 (.bool false) 1 underlying31 Tryz.zinBoolM rfl .i64 .i64 (bs.length+1) (by omega) (by omega);simp only[Int.natCast_add,Int.natCast_one]at z;have A:=aH w (.cells #[.int .i64 1,.slice sa xs.length sc,.int .i64 0,.int .i64 0] 70) (.cells (madeCells #[.bool false] (bs.length+1)) 4);have h0:=fT (w.alloc (.cells #[.int .i64 1,.slice sa xs.length sc,.int .i64 0,.int .i64 0] 70)) bs.length;rw[ah]at h0;have B:((w.alloc (.cells #[.int .i64 1,.slice sa xs.length sc,.int .i64 0,.int .i64 0] 70)).alloc (.cells (madeCells #[.bool false] (bs.length+1)) 4)).cell? ⟨w.heap.size,1,none⟩=some (.slice sa xs.length sc):=
  ((ai _ _).cell (p:=⟨w.heap.size,1,none⟩) (by rw[ah];exact Nat.lt_succ_self _)).trans ((au w _).news 1 _ rfl)
 have L:=ae t;have H0:=ae h0;have C:=ae A;have D:=ae B;obtain⟨la,lc,rfl,-,-⟩:=id m;clear hv d i1 i2 i3 m t A h0 B o n
 go_enter func36,ntmps36
 go_wp2_with fail
 go_loopw [10] (fun iv wr=>∃ (i:Nat) (G:Nat->Bool),i<=bs.length/\iv=.int .i64 i/\BR wr bs.length (w.heap.size+1) G/\(∀ j,G j=true↔∃ k,k<i/\j=k+1/\F k=true/\mY bs xs k)/\wr.cell? ⟨w.heap.size,1,none⟩=some (.slice sa xs.length sc)/\w.heap.size+2<=wr.heap.size/\Below w.heap.size w wr) (fun iv _=>bs.length-(intOf iv).toNat)
 case atStart=>exact⟨0,_,Nat.zero_le _,rfl,H0.u,fun j=>⟨fun h=>(by cases h),fun ⟨k,hk,_⟩=>absurd hk (Nat.not_lt_zero _)⟩,D.u,by rw[ah,ah];omega,C.u⟩
 clear H0 C D z c0 c1 c2 c3;obtain⟨i,G,hi,rfl,hG,s,hq,hz,hB⟩:=hrel;have HG:=ae hG;have E:=ae s
 by_cases hlt:i<bs.length
 ·have Q:(i:Int)<(bs.length:Int):=by omega
  have R:(i:Int)<(bs.length:Int)+1:=by omega
  have S:(i:Int)+1<(bs.length:Int)+1:=by omega
  have U:IntKind.i64.wrap ((i:Int)+1)=(i:Int)+1:=lf (by omega) (by omega);have V:(0:Int)<=(i:Int)+1:=by omega
  have hF:=L.u.below hB lR;have d1:=World.rowIs.cell hF (i:=i) (by omega);have d2:=World.rowIs.cell hG (i:=i+1) (by omega);have f2:=World.rowIs.frozen hG (i+1);obtain⟨_,_,e,-,hc⟩:=J.u.below hB lR;cases e;obtain⟨lb,lo,rfl,-,-,f⟩:=hc (by omega);have d3:=f i hlt;obtain⟨x,hx⟩ : ∃ x,x=bs[i]?.getD 0:=⟨_,rfl⟩;have X:0<=x/\x<=255:=K.u x (by rw[hx,List.getElem?_eq_getElem hlt];exact List.getElem_mem hlt);rw[<-hx]at d3;have HX:=ae hx;have M:=ae (I.u.below hB lR);have g:=ae hB;unfold mB at d3;clear hF hc f hx hG s hB;have l:∀ r:Bool,(r=true↔F i=true/\mY bs xs i)->∀ W0:World,BR W0 bs.length (w.heap.size+1) G->W0.cell? ⟨w.heap.size,1,none⟩=some (.slice sa xs.length sc)->w.heap.size+2<=W0.heap.size->Below w.heap.size w W0->∀ W:World,W=W0.setCell ⟨w.heap.size+1,i+1,none⟩ (.bool r)->∃ (i':Nat) (G:Nat->Bool),i'<=bs.length/\(Value.int .i64 ((i:Int)+1))=.int .i64 i'/\BR W bs.length (w.heap.size+1) G/\(∀ j,G j=true↔∃ k,k<i'/\j=k+1/\F k=true/\mY bs xs k)/\W.cell? ⟨w.heap.size,1,none⟩=some (.slice sa xs.length sc)/\w.heap.size+2<=W.heap.size/\Below w.heap.size w W:=by
   intro r hr W0 HG hq hz g W hW;subst hW;refine⟨i+1,fun j=>if j=i+1 then r else G j,by omega,by simp,?_,fun j=>?_,?_,?_,?_⟩
   ·refine World.rowIs.congr (World.rowIs.set HG (i+1) (.bool r)) (fun j hj=>?_)
    by_cases e:j=i+1<;>simp[e]
   ·by_cases e:j=i+1
    ·subst e;simp only[if_pos];rw[hr]
     constructor
     ·intro h;exact⟨i,by omega,rfl,h⟩
     rintro⟨k,hk,e,h⟩;obtain rfl:i=k:=by omega
     exact h
    simp only[if_neg e];rw[E.u j]
    constructor
    ·rintro⟨k,hk,h⟩;exact⟨k,by omega,h⟩
    rintro⟨k,hk,e2,h⟩;exact⟨k,by omega,e2,h⟩
   ·rw[aE (Or.inl (by omega))];exact hq
   ·rw[aJ];exact hz
   exact aI g (by omega) _
  have c:=ae l;clear l;cases hFi:F i with
  | false =>
   rw[hFi]at d1;have HR:=ae (c.u false ⟨fun h=>(by cases h),fun h=>absurd h.1 (by rw[hFi];decide)⟩);clear hFi c
   go_wp2_with fail;refine aL 18 (by kernel_rfl) (by kernel_rfl) ?_;simp only[List.take_succ_cons,List.take_zero,List.drop_succ_cons,List.drop_zero]
   repeat (first|go_big_quiet_skip|(go_big_quiet_want;go_big_quiet_op;go_big_quiet_on))
   refine wpQuiet_nil ?_;go_wp2
   go_roundw
   case rel=>exact HR.u wr.drew (by exact HG.u) (by exact hq) (by exact hz) g.u.drew _ rfl
   simp[intOf];omega
  | true =>
   rw[hFi]at d1;have HR:Hi (∀ r:Bool,(r=true↔dP xs x)->_):=fun r h=>c.u r (by rw[h];unfold mY;rw[<-HX.u];exact⟨fun q=>⟨hFi,q⟩,fun q=>q.2⟩)
   clear hFi c
   go_wp2_with fail;refine aL 18 (by kernel_rfl) (by kernel_rfl) ?_;simp only[List.take_succ_cons,List.take_zero,List.drop_succ_cons,List.drop_zero]
   repeat (first|go_big_quiet_skip|(go_big_quiet_want;go_big_quiet_op;go_big_quiet_on))
   go_big_quiet_want
   go_big_quiet_op;refine⟨_,vI _ xs x _ (by exact M.u) hxs,?_⟩
   go_big_quiet_on
   repeat (first|go_big_quiet_skip|(go_big_quiet_want;go_big_quiet_op;go_big_quiet_on))
   refine wpQuiet_nil ?_;go_wp2
   go_roundw
   case rel=>exact HR.u _ (by rw[decide_eq_true_eq]) wr.drew (by exact HG.u) (by exact hq) (by exact hz) g.u.drew _ rfl
   simp[intOf];omega
 have e:i=bs.length:=by omega
 have HB:=ae hB;subst e;clear hG s hB hq;go_wp2;go_ret;refine⟨_,G,rfl,by omega,HG.u,fun j hj=>?_,HB.u⟩;rw[E.u]
 constructor
 ·rintro⟨k,h1,h2,h3,h4⟩;exact⟨k,h3,h2,h1,h4⟩
 rintro⟨k,h3,h2,h1,h4⟩;exact⟨k,h1,h2,h3,h4⟩
end Go.Proofs.YtpmcjimgkabpeaaGreatDoor
