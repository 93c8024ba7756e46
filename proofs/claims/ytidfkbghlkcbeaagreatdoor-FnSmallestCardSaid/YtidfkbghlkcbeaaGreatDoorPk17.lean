import Derived.Test.YtidfkbghlkcbeaaGreatDoorPk13
import Derived.Test.YtidfkbghlkcbeaaGreatDoorPk10
import Derived.Test.YtidfkbghlkcbeaaGreatDoorPk16
namespace Go.Proofs.YtidfkbghlkcbeaaGreatDoor
open Go.RowKit Go.Proofs.Tryz
set_option maxHeartbeats 16000000
set_option maxRecDepth 100000
theorem wF{xs:List El}{st:List (List El×Int)}{k:Nat}(hk:k<xs.length)(hst:flats st=xs.take k)(hw:∀ s∈st,ba s.1 s.2)(ok:gZ (xs[k]?.getD dE))(hlt:(st.length:Int)<CD (xs[k]?.getD dE).kind):¬ bO xs:=by
 intro hv;have sh:=hv.2.2.1;have a:=cj hk;have h1:aQ (xs.take (k+1))+aQ (xs.drop (k+1))=1:=by rw[<-aF,List.take_append_drop];exact sh.1
 have h2:=sh.2 (k+1) (by omega) (by omega);have h3:=dg (fun s hs=>(hw s hs).ws);rw[hst]at h3;rw[a,aF,h3]at h1;simp only[aQ]at h1;generalize xs[k]?.getD dE=x at *;rcases ok with ⟨q1,-⟩|⟨q1|q1|q1,-⟩|⟨q1,-⟩<;>simp[CD,wt,q1]at hlt h1<;>omega
theorem wC{base n:Nat}{w:World}{v:Value}{vals:List Value}(a:w.ownsRow base 51 1 v n vals):∃ ao c,v=.slice ao n c:=by
 rcases a.2 with ⟨rfl,hn⟩|⟨g,cap,cur,rfl,d,hg,e,f,h,b⟩
 ·exact⟨none,0,by rw[hn]⟩
 exact⟨_,_,rfl⟩
def bG:List El->List (List Int)
 | []=>[]
 | x::r=>(if x.kind=1 then [x.set] else [])++bG r
theorem zX(s:Ms)(x:El):(eY s x).ss=s.ss++(if x.kind=1 then [x.set] else []):=by
 unfold eY
 repeat' split
 all_goals simp_all
theorem Ch(L:List El):∀ s:Ms,(bS s L).ss=s.ss++bG L:=by
 induction L with
 | nil=>intro s;simp[bS,bG]
 | cons x r ih=>intro s;simp only[bS,bG];rw[ih,zX,List.append_assoc]
theorem cK.sets{L:List El}{n:Nat}{a:It}{ln:List Lk}{ss:List (List Int)}(h:cK L n a ln ss):ss=bG L:=by
 have h1:=Ch L gP;rw[h gP]at h1
 simpa[gP]using h1
theorem dy:∀ L:List El,(bG L).length=aS L
 | []=>rfl
 | x::r=>by
  have:=dy r;simp only[bG,aS,List.length_append]
  split<;>simp<;>omega
def pX(a:It):Prop:=a.fi.Pairwise (· < ·)/\a.la.Pairwise (· < ·)
theorem yw{xs:List Nat}(h:xs.Pairwise (· < ·))(c:Nat):(xs.map (c + ·)).Pairwise (· < ·):=by
 rw[List.pairwise_map];exact h.imp (fun q=>by omega)
theorem mh{xs ys:List Nat}{n:Nat}(hx:xs.Pairwise (· < ·))(hy:ys.Pairwise (· < ·))(b:∀ x∈xs,x<n):(xs++ys.map (n + ·)).Pairwise (· < ·):=by
 rw[List.pairwise_append];refine⟨hx,yw hy n,fun p hp q hq=>?_⟩;obtain⟨z,-,rfl⟩:=List.mem_map.1 hq;have:=b p hp;omega
theorem pX.cat{a b:It}{n:Nat}(ha:pX a)(hb:pX b)(k:jx a n):pX (bY a (b.sh n)):=by
 refine⟨?_,?_⟩
 ·show(a.fi++(if a.nl then b.fi.map (n + ·) else [])).Pairwise (· < ·)
  split
  ·exact mh ha.1 hb.1 k.1
  rw[List.append_nil];exact ha.1
 show((if b.nl then a.la else [])++b.la.map (n + ·)).Pairwise (· < ·)
 split
 ·exact mh ha.2 hb.2 k.2
 rw[List.nil_append];exact yw hb.2 n
theorem pX.alt{a b:It}{n:Nat}(ha:pX a)(hb:pX b)(k:jx a n):pX (cR a (b.sh n)):=⟨mh ha.1 hb.1 k.1,mh ha.2 hb.2 k.2⟩
theorem pq:∀ {xs ys:List Nat},xs.Pairwise (· < ·)->ys.Pairwise (· < ·)->(∀ z,z∈xs↔z∈ys)->xs=ys
 | [],[],_,_,_=>rfl
 | [],y::ys,_,_,h=>by have:=(h y).2 (List.mem_cons_self ..);simp at this
 | x::xs,[],_,_,h=>by have:=(h x).1 (List.mem_cons_self ..);simp at this
 | x::xs,y::ys,hx,hy,h=>by
  rw[List.pairwise_cons]at hx hy;have e:x=y:=by
   have h1:=(h x).1 (List.mem_cons_self ..);have h2:=(h y).2 (List.mem_cons_self ..);rcases List.mem_cons.1 h1 with e|e
   ·exact e
   rcases List.mem_cons.1 h2 with e2|e2
   ·exact e2.symm
   have:=hy.1 x e;have:=hx.1 y e2;omega
  subst e;rw[pq hx.2 hy.2 (fun z=>?_)]
  constructor
  ·intro hz;have:=hx.1 z hz;rcases List.mem_cons.1 ((h z).1 (List.mem_cons_of_mem _ hz)) with e|e
   ·omega
   exact e
  intro hz;have:=hy.1 z hz;rcases List.mem_cons.1 ((h z).2 (List.mem_cons_of_mem _ hz)) with e|e
  ·omega
  exact e
theorem vH(n:Nat):(List.range n).Pairwise (· < ·):=List.pairwise_lt_range
theorem Ey{f:Nat->Nat}{xs:List Nat}(h:bH f xs)(ha:xs.Pairwise (· < ·))(hb:∀ x∈xs,x<512):ia f 512=xs:=by
 refine pq (List.Pairwise.filter _ (vH 512)) ha (fun z=>?_)
 have:=AB h hb z;rw[Bool.eq_iff_iff,List.contains_iff_mem,List.contains_iff_mem]at this;exact this
def fT(L:List El):Prop:=∀ k:Nat,k<L.length->gZ (L[k]?.getD dE)
theorem fT.app{a b:List El}(h:fT a)(k:fT b):fT (a++b):=fun i hi=>by
 by_cases e:i<a.length
 ·rw[List.getElem?_append_left e];exact h i e
 rw[List.getElem?_append_right (by omega)];exact k _ (by rw[List.length_append]at hi;omega)
theorem fT.one{x:El}(h:gZ x):fT [x]:=fun i hi=>by
 obtain rfl:i=0:=by simpa using hi
 exact h
theorem lV(L R:List El)(k:Int)(hk:k≠1):aS (L++R++[⟨k,[],0,0⟩])=aS L+aS R:=sH L R _ hk
theorem nk:∀ L:List El,2*(aS L:Int)<=L.length+aQ L
 | []=>by simp[aS,aQ]
 | x::r=>by
  have:=nk r;simp only[aS,aQ,List.length_cons];unfold wt
  repeat' split
  all_goals simp_all
  all_goals omega
def lh(g:Nat->Nat)(j:Nat):Nat:=if j<4 then 18446744073709551615-g j else 0
theorem zy(g:Nat->Nat):Fit (lh g):=fun j=>by unfold lh;split<;>omega
theorem Bv{g:Nat->Nat}(hg:Fit g)(b:Nat):Bt (lh g) b=(decide (b<256) && !Bt g b):=by
 unfold Bt lh
 by_cases hb:b<256
 ·rw[if_pos (by omega)];have:=Nat.testBit_two_pow_sub_succ (show g (b / 64)<2 ^ 64 from hg (b / 64)) (b%64);rw[show(2:Nat) ^ 64-(g (b / 64)+1)=18446744073709551615-g (b / 64) by omega]at this;rw[this];simp[hb,show b%64<64 by omega]
 rw[if_neg (by omega)];simp[hb]
theorem AW{a:Nat}(h:a<18446744073709551616):18446744073709551615 ^^^ a=18446744073709551615-a:=by
 apply Nat.eq_of_testBit_eq
 intro i;have h1:=Nat.testBit_two_pow_sub_one 64 i;have h2:=Nat.testBit_two_pow_sub_succ (show a<2 ^ 64 from h) i;rw[show(2:Nat) ^ 64-1=18446744073709551615 by decide]at h1;rw[show(2:Nat) ^ 64-(a+1)=18446744073709551615-a by omega]at h2;rw[Nat.testBit_xor,h1,h2]
 by_cases hi:i<64
 ·simp[hi]
 have:a.testBit i=false:=Nat.testBit_lt_two_pow (Nat.lt_of_lt_of_le h (by
  have:(2:Nat) ^ 64<=2 ^ i:=Nat.pow_le_pow_right (by decide) (by omega);exact this))
 simp[hi,this]
theorem Bf{a:Nat}(h:a<18446744073709551616):bits BinOp.xor IntKind.u64 (if IntKind.u64.signed=true then -1 else IntKind.u64.max) (a:Int)=((18446744073709551615-a:Nat):Int):=by
 rw[<-AW h];exact bits_xor_u64_nat 18446744073709551615 a (by decide) h
theorem pU(g:Nat->Nat)(w:World)(hg:Fit g):Calls prog 79 #[gb g] w fun e w'=>e=.returned (gb (lh g))/\Below w.heap.size w w':=by
 unfold gb;have Hg:=ae hg;clear hg
 go_enter func79,ntmps79
 go_wp2
 go_loopw [4] (fun iv wr=>∃ i:Nat,i<=4/\iv=.int .i64 i/\wr.rowIs w.heap.size 88 4 (fun j=>.int .u64 ((if j<i then lh g j else g j:Nat):Int))/\(∃ g:Nat->Value,wr.rowIs (w.heap.size+1) 88 4 g)/\Below w.heap.size w wr) (fun iv _=>4-(intOf iv).toNat)
 case atStart =>
  refine⟨0,by omega,rfl,((ib w _ g).alloc _).congr (fun j hj=>by simp),⟨fun j=>.int .u64 ((fun _=>0:Nat->Nat) j:Nat),?_⟩,aI w _ _⟩;have h:=iG (w.alloc (.cells #[.int .u64 (g 0:Nat),.int .u64 (g 1:Nat),.int .u64 (g 2:Nat),.int .u64 (g 3:Nat)] 88)) 88;rw[ah]at h;exact h
 obtain⟨i,hi,rfl,b,⟨g2,a⟩,hb⟩:=hrel
 by_cases hlt:i<4
 ·have k:(i:Int)<4:=by omega
  have c0:=b.cell hlt;rw[if_neg (Nat.lt_irrefl _)]at c0;have f0:=b.frozen i;have f:=Hg.u i;have d:=ae b;have c:=ae a;clear b a;have hx:=Bf f;have HX:=ae hx;clear hx;go_wp2;rw[HX.u];refine⟨⟨i+1,by omega,by go_num,?_,⟨g2,?_⟩,?_⟩,by simp[intOf];omega⟩
  ·refine(d.u.set i _).congr (fun j hj=>?_)
   by_cases e:j=i
   ·subst e;simp[lh,hlt]
   have e2:(j<i+1)↔j<i:=by omega
   simp[e,e2]
  ·exact c.u.setOther (by show w.heap.size+1≠w.heap.size;omega) _
  exact aD hb lR _
 obtain rfl:i=4:=by omega
 have c0:=b.cell (i:=0) (by omega);have c1:=b.cell (i:=1) (by omega);have c2:=b.cell (i:=2) (by omega);have c3:=b.cell (i:=3) (by omega);rw[if_pos (by omega)]at c0 c1 c2 c3;have d0:=a.cell (i:=0) (by omega);have d1:=a.cell (i:=1) (by omega);have d2:=a.cell (i:=2) (by omega);have d3:=a.cell (i:=3) (by omega);have f0:=a.frozen 0;have f1:=a.frozen 1;have f2:=a.frozen 2;have f3:=a.frozen 3;clear b a;go_wp2;refine bodyPost_ret (v:=.agg #[.int .u64 (lh g 0:Nat),.int .u64 (lh g 1:Nat),.int .u64 (lh g 2:Nat),.int .u64 (lh g 3:Nat)]) (by simp[results,results79,go_sem,d0,d1,d2,d3]) rfl ⟨rfl,?_⟩;exact aD (aD (aD (aD hb (by omega) _) (by omega) _) (by omega) _) (by omega) _
theorem rF:Fit (fun _=>0):=fun _=>by show 0<18446744073709551616;omega
theorem Br(b:Nat):Bt (fun _=>0) b=false:=by simp[Bt]
theorem dH:cZ [0,255]:=⟨rfl,fun i hi=>by
  match i,hi with
  | 0,_=>simp
  | 1,_=>simp,fun m hm=>by
  obtain rfl:m=0:=by simp at hm;omega
  simp[ni]⟩
theorem ww:dx [0,255] (lh (fun _=>0)):=⟨zy _,fun b=>by
 rw[Bv rF,Br];show(decide (b<256) && !false)=(false||decide ((0:Int)<=(b:Int)/\(b:Int)<=255));simp;omega⟩
theorem FX{w w1:World}{t:TypeId}(hb:Below (w.heap.size+1) (w.alloc (.cells #[.int .u64 0,.int .u64 0,.int .u64 0,.int .u64 0] t)) w1):w1.rowIs w.heap.size t 4 (fun j=>.int .u64 ((fun _=>0:Nat->Nat) j:Nat)):=
 World.rowIs.of_block (iG w t) (hb.block _ (Nat.lt_succ_self _))
theorem tY(w:World):Calls prog 44 #[] w fun e w'=>(∃ g,e=.returned (gb g)/\dx [0,255] g)/\Below w.heap.size w w':=by
 have c:=ai w (.cells #[.int .u64 0,.int .u64 0,.int .u64 0,.int .u64 0] 88)
 go_enter func44,ntmps44
 go_wp2_with fail;refine(pU (fun _=>0) _ rF).mono ?_;rintro e w1 ⟨rfl,b⟩;have a:=FX (b.mono (by rw[ah];omega));have d:Below w.heap.size w w1:=c.trans (b.mono (by rw[ah];omega));have d0:=a.cell (i:=0) (by omega);have d1:=a.cell (i:=1) (by omega);have d2:=a.cell (i:=2) (by omega);have d3:=a.cell (i:=3) (by omega);have f0:=a.frozen 0;have f1:=a.frozen 1;have f2:=a.frozen 2;have f3:=a.frozen 3;have HW:=ae ww;clear a b;generalize lh (fun _=>0)=q at *;unfold gb;go_wp2;refine bodyPost_ret (v:=.agg #[.int .u64 (q 0:Nat),.int .u64 (q 1:Nat),.int .u64 (q 2:Nat),.int .u64 (q 3:Nat)]) (by simp[results,results44,go_sem,d0,d1,d2,d3]) rfl ⟨⟨q,rfl,HW.u⟩,?_⟩;exact aD (aD (aD (aD d (by omega) _) (by omega) _) (by omega) _) (by omega) _
/-! The list that is made of marks is canonical. -/
def nY(C:List Int):Int:=C.getLastD (-2)
theorem oS(C:List Int)(s e:Int):nY (C++[s,e])=e:=by simp[nY]
theorem BS{C:List Int}(h:0<C.length):C[C.length-1]?.getD 0=nY C:=by
 unfold nY;rw[List.getLastD_eq_getLast?,List.getLast?_eq_getElem?];rw[List.getElem?_eq_getElem (by omega)]
 rfl
theorem fF{C D:List Int}{i:Nat}(h:i<C.length):(C++D)[i]?.getD 0=C[i]?.getD 0:=by rw[List.getElem?_append_left h]
theorem sX(C:List Int)(s e:Int):(C++[s,e])[C.length]?.getD 0=s/\(C++[s,e])[C.length+1]?.getD 0=e:=by
 constructor
 ·rw[List.getElem?_append_right lR];simp
 rw[List.getElem?_append_right (by omega),show C.length+1-C.length=1 by omega];rfl
theorem mM{C:List Int}(h:cZ C){s e:Int}(h0:0<=s)(h1:s<=e)(h2:e<=255)(h3:nY C+2<=s):cZ (C++[s,e]):=by
 obtain⟨a,b,c⟩:=h;obtain⟨n1,n2⟩:=sX C s e;refine⟨by simp;omega,fun i hi=>?_,fun m hm=>?_⟩
 ·simp at hi
  by_cases e1:i<C.length
  ·rw[fF e1];exact b i e1
  by_cases e2:i=C.length
  ·subst e2;rw[n1];omega
  obtain rfl:i=C.length+1:=by omega
  rw[n2];omega
 simp at hm
 by_cases e1:2*m<C.length
 ·have:=c m e1;unfold ni at this ⊢;rw[fF e1,fF (show 2*m+1<C.length by omega)];refine⟨this.1,fun h=>?_⟩;rw[fF (show 2*m-1<C.length by omega)];exact this.2 h
 obtain e2:2*m=C.length:=by omega
 unfold ni;rw[e2,n1,n2];refine⟨h1,fun h=>?_⟩;rw[fF (show C.length-1<C.length by omega),BS h];omega
theorem uX(C D:List Int):∀ (k b:Nat),2*k<=C.length->nO (C++D) k b=nO C k b
 | 0,_,_=>rfl
 | k+1,b,h=>by
  simp only[nO];rw[uX C D k b (by omega),fF (show 2*k<C.length by omega),fF (show 2*k+1<C.length by omega)]
theorem qY{C:List Int}(h:C.length%2=0)(s e:Int)(b:Nat):nO (C++[s,e]) ((C++[s,e]).length / 2) b=(nO C (C.length / 2) b||decide (s<=(b:Int)/\(b:Int)<=e)):=by
 have hl:(C++[s,e]).length / 2=C.length / 2+1:=by simp
 obtain⟨n1,n2⟩:=sX C s e;rw[hl];simp only[nO];rw[uX C _ _ _ (by omega),show 2*(C.length / 2)=C.length by omega,n1,n2]
structure Gf (p:Nat->Bool) (n:Nat) (C:List Int):Prop where
 can:cZ C
 inp:∀ b:Nat,nO C (C.length / 2) b=(decide (b<n)&&p b)
 last:nY C<=(n:Int)-1
 next:n<256->p n=true->nY C+2<=(n:Int)/\(n=0∨p (n-1)=false)
structure Gr (p:Nat->Bool) (n:Nat) (C:List Int) (s:Nat):Prop where
 can:cZ C
 inp:∀ b:Nat,nO C (C.length / 2) b=(decide (b<s)&&p b)
 lt:s<n
 last:nY C+2<=(s:Int)
 run:∀ i,s<=i->i<n->p i=true
 top:n<256
 now:p n=true
theorem sB(p:Nat->Bool):∀ n:Nat,n<=256->Gf p n ((List.range n).flatMap (lE p))∨∃ (C:List Int) (s:Nat),(List.range n).flatMap (lE p)=C++[(s:Int)]/\Gr p n C s
 | 0,_=>.inl ⟨⟨rfl,fun i hi=>by simp at hi,fun m hm=>by simp at hm⟩,fun b=>by simp[nO],by simp[nY],fun _ _=>by simp[nY]⟩
 | n+1,hn=>by
  have e0:(List.range (n+1)).flatMap (lE p)=(List.range n).flatMap (lE p)++lE p n:=by rw[List.range_succ,List.flatMap_append];simp
  rw[e0];rcases sB p n (by omega) with h|⟨C,s,e,h⟩
  ·generalize (List.range n).flatMap (lE p)=C at h ⊢;cases hp:p n with
   | false =>
    have em:lE p n=[]:=by simp[lE,hp]
    rw[em,List.append_nil];refine .inl ⟨h.can,fun b=>?_,by have:=h.last;omega,fun _ hq=>⟨by have:=h.last;omega,.inr hp⟩⟩;rw[h.inp b]
    by_cases e:b=n
    ·subst e;simp[hp]
    have:(b<n+1)↔b<n:=by omega
    simp[this]
   | true =>
    obtain⟨h1,h2⟩:=h.next (by omega) hp;have st:(p n&&(n==0 || !p (n-1)))=true:=by
     rcases h2 with rfl|h2
     ·simp[hp]
     simp[hp,h2]
    by_cases hc:n=255∨p (n+1)=false
    ·have cl:(p n&&(n==255 || !p (n+1)))=true:=by
      rcases hc with rfl|hc
      ·simp[hp]
      simp[hp,hc]
     have em:lE p n=[(n:Int),(n:Int)]:=by simp only[lE];rw[if_pos st,if_pos cl];rfl
     rw[em];refine .inl ⟨mM h.can (by omega) (by omega) (by omega) h1,fun b=>?_,by rw[oS];omega,fun hq hq2=>?_⟩
     ·rw[qY h.can.1,h.inp b]
      by_cases e:b=n
      ·subst e;simp[hp]
      have:(b<n+1)↔b<n:=by omega
      have e2:decide ((n:Int)<=(b:Int)/\(b:Int)<=(n:Int))=false:=decide_eq_false (by omega);rw[e2];simp[this]
     rcases hc with rfl|hc
     ·omega
     rw[hc]at hq2;cases hq2
    have c:n≠255:=fun e=>hc (.inl e)
    have a:p (n+1)=true:=by cases e:p (n+1) with
     | true=>rfl
     | false=>exact absurd (.inr e) hc
    have cl:¬ (p n&&(n==255 || !p (n+1)))=true:=by simp[c,a]
    have em:lE p n=[(n:Int)]:=by simp only[lE];rw[if_pos st,if_neg cl];rfl
    rw[em];exact .inr ⟨C,n,rfl,h.can,h.inp,by omega,h1,fun i i1 i2=>by rw[show i=n by omega];exact hp,by omega,a⟩
  have hp:=h.now;have hlt:=h.lt;have hq:p (n-1)=true:=h.run (n-1) (by omega) (by omega);have st:¬ (p n&&(n==0 || !p (n-1)))=true:=by simp[hq];omega
  rw[e]
  by_cases hc:n=255∨p (n+1)=false
  ·have cl:(p n&&(n==255 || !p (n+1)))=true:=by
    rcases hc with rfl|hc
    ·simp[hp]
    simp[hp,hc]
   have em:lE p n=[(n:Int)]:=by simp only[lE];rw[if_neg st,if_pos cl];rfl
   rw[em,List.append_assoc];show Gf p (n+1) (C++[(s:Int),(n:Int)])∨_;refine .inl ⟨mM h.can (by omega) (by omega) (by have:=h.top;omega) h.last,fun b=>?_,by rw[oS];omega,fun hq hq2=>?_⟩
   ·rw[qY h.can.1,h.inp b]
    by_cases e1:b<s
    ·have e2:b<n+1:=by omega
     have e3:decide ((s:Int)<=(b:Int)/\(b:Int)<=(n:Int))=false:=decide_eq_false (by omega);rw[e3];simp[e1,e2]
    by_cases e2:b<=n
    ·have e3:decide ((s:Int)<=(b:Int)/\(b:Int)<=(n:Int))=true:=decide_eq_true (by omega);have e4:b<n+1:=by omega
     have e5:p b=true:=by
      by_cases e6:b=n
      ·rw[e6];exact hp
      exact h.run b (by omega) (by omega)
     rw[e3];simp[e1,e4,e5]
    have e3:decide ((s:Int)<=(b:Int)/\(b:Int)<=(n:Int))=false:=decide_eq_false (by omega);have e4:¬ b<n+1:=by omega
    rw[e3];simp[e1,e4]
   rcases hc with rfl|hc
   ·omega
   rw[hc]at hq2;cases hq2
  have c:n≠255:=fun e=>hc (.inl e)
  have a:p (n+1)=true:=by cases e:p (n+1) with
   | true=>rfl
   | false=>exact absurd (.inr e) hc
  have cl:¬ (p n&&(n==255 || !p (n+1)))=true:=by simp[c,a]
  have em:lE p n=[]:=by simp only[lE];rw[if_neg st,if_neg cl];rfl
  rw[em,List.append_nil];refine .inr ⟨C,s,rfl,h.can,h.inp,by omega,h.last,fun i i1 i2=>?_,by have:=h.top;omega,a⟩
  by_cases e6:i=n
  ·rw[e6];exact hp
  exact h.run i i1 (by omega)
theorem CP(p:Nat->Bool):cZ (wT p)/\∀ b:Nat,nO (wT p) ((wT p).length / 2) b=(decide (b<256)&&p b):=by
 rcases sB p 256 lR with h|⟨C,s,-,h⟩
 ·exact⟨h.can,h.inp⟩
 exact absurd h.top (by omega)
end Go.Proofs.YtidfkbghlkcbeaaGreatDoor
