import Derived.Test.YtpmcjimgkabpeaaGreatDoorPk5
import Derived.Test.YtpmcjimgkabpeaaGreatDoorPk8
import Derived.Deep.RegionWith
import Derived.RegionTactic
namespace Go.Proofs.YtpmcjimgkabpeaaGreatDoor
open Go.RowKit Go.Proofs.Tryz
set_option maxHeartbeats 16000000
set_option maxRecDepth 100000
def kM(xs ys bs:List Int)(nc:Int):Nat->Int
 | 0=>0
 | n+1=>ys[(kM xs ys bs nc n*nc+xs[(bs[n]?.getD 0).toNat]?.getD 0).toNat]?.getD 0
def gz(xs ys bs:List Int)(nc:Int)(n:Nat):List Int:=(List.range n).map (kM xs ys bs nc)
theorem kD(xs ys bs:List Int)(nc:Int)(n:Nat):(gz xs ys bs nc n).length=n:=by simp[gz]
theorem vQ(xs ys bs:List Int)(nc:Int)(n i:Nat)(h:i<n):(gz xs ys bs nc n)[i]?.getD 0=kM xs ys bs nc i:=by simp[gz,h]
theorem tP(xs ys bs:List Int)(nc:Int)(n:Nat):gz xs ys bs nc (n+1)=gz xs ys bs nc n++[kM xs ys bs nc n]:=by simp[gz,List.range_succ]
theorem xU{s c nc S:Int}(s0:0<=s)(s1:s<S)(c0:0<=c)(c1:c<nc)(hn:nc<=256)(hS:S<=1024):0<=s*nc/\s*nc<=262144/\s*nc+c<S*nc:=by
 have h1:0<=s*nc:=Int.mul_nonneg s0 (by omega);have h2:s*nc+nc<=S*nc:=by
  have:(s+1)*nc<=S*nc:=Int.mul_le_mul_of_nonneg_right (by omega) (by omega);rw[Int.add_mul,Int.one_mul]at this;exact this
 have h3:s*nc<=1024*256:=Int.mul_le_mul (by omega) (by omega) (by omega) (by omega);omega
theorem Dp{xs ys bs:List Int}{zs:List Bool}{nc:Int}(h:jq xs ys zs nc)(hb:∀ i:Nat,0<=bs[i]?.getD 0/\bs[i]?.getD 0<=255):∀ n:Nat,0<=kM xs ys bs nc n/\kM xs ys bs nc n<zs.length:=by
 intro n
 induction n with
 | zero=>have:=h.st;simp[kM];omega
 | succ n ih =>
  have hc:=h.cls (b:=(bs[n]?.getD 0).toNat) (by have:=hb n;omega);have hi:=xU ih.1 ih.2 hc.1 hc.2 h.hn.2 (by have:=h.st;omega);have hx:=h.nx;simp only[kM];exact h.to _ (by omega)
def Dq(e:Ending)(w w':World)(xs ys bs:List Int)(zs:List Bool)(nc:Int):Prop:=
 (¬ jq xs ys zs nc/\e=.returned (.tuple #[.bool false,.slice none 0 0])) ∨
 (jq xs ys zs nc/\∃ v,e=.returned (.tuple #[.bool (zs[(kM xs ys bs nc bs.length).toNat]?.getD false),v])/\lz mI 0 w.heap.size w'.heap.size w' v (gz xs ys bs nc (bs.length+1)))
theorem ri{xs ys bs:List Int}{nc:Int}{n:Nat}{w1 wr w2:World}{tv v':Value}{o:Obj}{q:Nat}(hown:wr.ownsRow w1.heap.size 3 1 tv n ((gz xs ys bs nc n).map mI))(hb:Below w1.heap.size w1 wr)
  (h1:w2.ownsRow w1.heap.size 3 1 v' (n+1) ((gz xs ys bs nc n).map mI++[.int .i64 (kM xs ys bs nc n)]))(hg:((wr.drewN q).alloc o).grownBy w2 tv.ownBlock) :
  w2.ownsRow w1.heap.size 3 1 v' (n+1) ((gz xs ys bs nc (n+1)).map mI)/\Below w1.heap.size w1 w2:=by
 refine⟨by rw[tP,List.map_append];exact h1,((below_drewN hb q).alloc hb.size o).grown hg (by rw[ah];exact Nat.le_succ_of_le hb.size) (fun k hk=>(hown.lt k hk).1)⟩
def kP(w:World)(b o:Nat)(x:El)(sv:Value):Prop:=
 w.cell? ⟨b,o,none⟩=some (.int .i64 x.kind)/\w.cell? ⟨b,o+1,none⟩=some sv/\w.cell? ⟨b,o+2,none⟩=some (.int .i64 x.mn)/\w.cell? ⟨b,o+3,none⟩=some (.int .i64 x.mx)
theorem kP.same{w w':World}{b o:Nat}{x:El}{sv:Value}(h:kP w b o x sv)(e:w'.heap[b]?=w.heap[b]?):kP w' b o x sv:=by
 obtain⟨h0,h1,h2,h3⟩:=h;refine⟨?_,?_,?_,?_⟩<;>rw[World.cell?_of_block (w:=w) (by exact e)]<;>assumption
theorem kP.put{w:World}{b o o':Nat}{x:El}{sv u:Value}(h:kP w b o x sv)(hne:o'<o∨o+3<o'):kP (w.setCell ⟨b,o',none⟩ u) b o x sv:=by
 obtain⟨h0,h1,h2,h3⟩:=h;refine⟨?_,?_,?_,?_⟩<;>rw[aE (Or.inr (by omega))]<;>assumption
theorem pA{lo n:Nat}{w:World}{v:Value}{xs:List Int}(h:aT lo n w v xs):aP mI 0 lo n w v xs:=by
 obtain⟨a,cap,rfl,hl,hr,hc⟩:=h;exact⟨a,cap,rfl,hl,hc⟩
theorem kP.putK{w:World}{b o:Nat}{x:El}{sv:Value}(h:kP w b o x sv)(k:Int):kP (w.setCell ⟨b,o,none⟩ (.int .i64 k)) b o ⟨k,x.set,x.mn,x.mx⟩ sv:=by
 obtain⟨h0,h1,h2,h3⟩:=h;exact⟨dI h0,by rw[aE (Or.inr (by omega))];exact h1,by rw[aE (Or.inr (by omega))];exact h2,by rw[aE (Or.inr (by omega))];exact h3⟩
theorem kP.putM{w:World}{b o:Nat}{x:El}{sv:Value}(h:kP w b o x sv)(k:Int):kP (w.setCell ⟨b,o+2,none⟩ (.int .i64 k)) b o ⟨x.kind,x.set,k,x.mx⟩ sv:=by
 obtain⟨h0,h1,h2,h3⟩:=h;exact⟨by rw[aE (Or.inr (by omega))];exact h0,by rw[aE (Or.inr (by omega))];exact h1,dI h2,by rw[aE (Or.inr (by omega))];exact h3⟩
theorem kP.putX{w:World}{b o:Nat}{x:El}{sv:Value}(h:kP w b o x sv)(k:Int):kP (w.setCell ⟨b,o+3,none⟩ (.int .i64 k)) b o ⟨x.kind,x.set,x.mn,k⟩ sv:=by
 obtain⟨h0,h1,h2,h3⟩:=h;exact⟨by rw[aE (Or.inr (by omega))];exact h0,by rw[aE (Or.inr (by omega))];exact h1,by rw[aE (Or.inr (by omega))];exact h2,dI h3⟩
def ko(S:Nat->Prop)(w:World)(v:Value)(xs:List El):Prop:=
 ∃ a cap,v=.slice a xs.length cap/\(xs.length<=cap/\cap<=maxLen)/\(0<xs.length->∃ (b off:Nat) (sv:Nat->Value) (T:Nat->Nat->Prop),a=some ⟨b,off,none⟩/\S b/\vT w b/\
  (∀ i:Nat,i<xs.length->kP w b (off+i*4) (xs[i]?.getD dE) (sv i))/\(∀ i:Nat,i<xs.length->ij mI 0 (T i) w (sv i) (xs[i]?.getD dE).set)/\
  (∀ i:Nat,i<xs.length->∀ k,T i k->S k/\k≠b)/\∀ i j:Nat,i<xs.length->j<xs.length->i≠j->∀ k,T i k->¬ T j k)
theorem ko.same{S:Nat->Prop}{w w':World}{v:Value}{xs:List El}(h:ko S w v xs)(hs:∀ k,S k->w'.heap[k]?=w.heap[k]?):ko S w' v xs:=by
 obtain⟨a,cap,rfl,hl,hc⟩:=h;refine⟨a,cap,rfl,hl,fun hp=>?_⟩;obtain⟨b,off,sv,T,e,h1,h2,h3,h4,h5,h6⟩:=hc hp;exact⟨b,off,sv,T,e,h1,h2.same (hs b h1),fun i hi=>(h3 i hi).same (hs b h1),fun i hi=>(h4 i hi).same (fun k hk=>hs k (h5 i hi k hk).1),h5,h6⟩
def Gk(xs:List El):Prop:=∀ i:Nat,aA (xs[i]?.getD dE).kind/\aA (xs[i]?.getD dE).mn/\aA (xs[i]?.getD dE).mx/\∀ j:Nat,aA ((xs[i]?.getD dE).set[j]?.getD 0)
theorem ko.at{S:Nat->Prop}{N:Nat}{w:World}{v:Value}{xs:List El}(h:ko S w v xs)(hs:∀ k,S k->k<N)(hr:Gk xs):az 0 N w v xs:=by
 obtain⟨a,cap,rfl,hl,hc⟩:=h;refine⟨a,cap,rfl,hl,fun hp=>?_⟩;obtain⟨b,off,sv,T,e,h1,h2,h3,h4,h5,h6⟩:=hc hp;refine⟨b,off,e,Nat.zero_le _,hs b h1,fun i hi=>?_⟩;obtain⟨r1,r2,r3,r4⟩:=hr i;obtain⟨q0,q1,q2,q3⟩:=h3 i hi;refine⟨r1,r2,r3,sv i,q0,q1,q2,q3,?_⟩;obtain⟨a',cap',e',c,d⟩:=(h4 i hi).at (N:=N) (fun k hk=>hs k (h5 i hi k hk).1);refine⟨a',cap',e',c,r4,fun hp'=>?_⟩;obtain⟨b',off',e2,k1,k2,k4⟩:=d hp';exact⟨b',off',e2,k1,k2,k4⟩
structure Pc where
 x:El
 s:Value
 T:Nat->Prop
def eH(x:El)(s:Value):List Value:=[.int .i64 x.kind,s,.int .i64 x.mn,.int .i64 x.mx]
def bU:List Pc->List Value
 | []=>[]
 | p::r=>eH p.x p.s++bU r
theorem nJ(a b:List Pc):bU (a++b)=bU a++bU b:=by
 induction a with
 | nil=>rfl
 | cons p r ih=>simp[bU,ih]
theorem mj(a:List Pc):(bU a).length=a.length*4:=by
 induction a with
 | nil=>rfl
 | cons p r ih=>simp[bU,ih,eH];omega
theorem nf(a:List Pc)(i:Nat)(p:Pc)(h:a[i]?=some p)(j:Nat)(hj:j<4):(bU a)[i*4+j]?=(eH p.x p.s)[j]? :=by
 induction a generalizing i with
 | nil=>simp at h
 | cons q r ih =>
  cases i with
  | zero =>
   simp at h;subst h;rw[bU,List.getElem?_append_left (by simp[eH];omega)];simp
  | succ i =>
   rw[bU,List.getElem?_append_right (by simp[eH];omega),show(i+1)*4+j-(eH q.x q.s).length=i*4+j by simp[eH];omega];exact ih i (by simpa using h)
theorem tn(a:List Pc)(hs:∀ p∈a,p.s.oneCell'=true):∀ u∈bU a,u.oneCell'=true:=by
 induction a with
 | nil=>intro u hu;simp[bU]at hu
 | cons p r ih =>
  intro u hu;simp only[bU,eH,List.mem_append,List.mem_cons,List.not_mem_nil,or_false]at hu;rcases hu with (rfl|rfl|rfl|rfl)|hu
  ·rfl
  ·exact hs p (by simp)
  ·rfl
  ·rfl
  exact ih (fun q hq=>hs q (by simp[hq])) u hu
def CA(ps:List Pc):Prop:=ps.Pairwise (fun p q=>∀ k,p.T k->¬ q.T k)
structure dH (base:Nat) (w:World) (v:Value) (ps:List Pc):Prop where
 own:w.ownsRow base 70 4 v ps.length (bU ps)
 set:∀ p∈ps,ij mI 0 p.T w p.s p.x.set
 blk:∀ p∈ps,∀ k,p.T k->base<=k/\k<w.heap.size/\v.ownBlock≠some k
 dis:CA ps
def aQ(base:Nat)(w:World)(v:Value)(xs:List El):Prop:=∃ ps:List Pc,ps.map Pc.x=xs/\dH base w v ps
theorem aQ.nil(base:Nat)(w:World):aQ base w (.slice none 0 0) []:=⟨[],rfl,World.ownsRow_nil _ _ _ _,by simp,by simp,List.Pairwise.nil⟩
theorem dH.keep{base m:Nat}{w w':World}{v:Value}{ps:List Pc}(h:dH base w v ps)(hb:Below m w w')(hm:w.heap.size<=m):dH base w' v ps:=
 ⟨h.own.kept (show w.grownBy w' none from⟨hb.os,hb.tape,hb.output,hb.size,fun k hk _=>hb.block k (by omega)⟩) (by cases v.ownBlock<;>simp),
  fun p hp=>(h.set p hp).same (fun k hk=>hb.block k (by have:=(h.blk p hp k hk).2.1;omega)),fun p hp k hk=>by have h1:=h.blk p hp k hk;have h2:=hb.size;exact⟨h1.1,by omega,h1.2.2⟩,h.dis⟩
theorem aQ.keep{base m:Nat}{w w':World}{v:Value}{xs:List El}(h:aQ base w v xs)(hb:Below m w w')(hm:w.heap.size<=m):aQ base w' v xs:=by
 obtain⟨ps,e,h1⟩:=h;exact⟨ps,e,h1.keep hb hm⟩
theorem dH.app{base:Nat}{w0 w w':World}{v v':Value}{ps qs:List Pc}(h:dH base w0 v ps)(hbase:base<=w0.heap.size)(hb:Below w0.heap.size w0 w)(hq:∀ p∈qs,ij mI 0 p.T w p.s p.x.set)(hT:∀ p∈qs,∀ k,p.T k->w0.heap.size<=k/\k<w.heap.size)(hd:CA qs)
  (h1:w'.ownsRow base 70 4 v' (ps.length+qs.length) (bU ps++bU qs))(hg:w.grownBy w' v.ownBlock)(ho:v'.ownBlock=v.ownBlock∨v'.ownBlock=some w.heap.size):dH base w' v' (ps++qs):=by
 have hs:=hb.size;have d:w.heap.size<=w'.heap.size:=hg.size;have c:∀ k,w0.heap.size<=k->v.ownBlock≠some k:=fun k hk e=>by have:=(h.own.lt k e).2;omega
 have a:∀ k,k<w.heap.size->v.ownBlock≠some k->v'.ownBlock≠some k:=fun k hk hne e=>by
  rcases ho with ho|ho
  ·exact hne (by rw[<-ho,e])
  rw[ho]at e;simp at e;omega
 have b:∀ k,k<w.heap.size->v.ownBlock≠some k->w'.heap[k]?=w.heap[k]? :=fun k hk hne=>hg.block k hk (fun e=>hne e.symm)
 refine⟨by rw[List.length_append,nJ];exact h1,fun p hp=>?_,fun p hp k hk=>?_,List.pairwise_append.2 ⟨h.dis,hd,fun p hp q hq2 k hk hk'=>?_⟩⟩
 ·rcases List.mem_append.1 hp with hp|hp
  ·refine((h.set p hp).same (w':=w) (fun k hk=>hb.block k (h.blk p hp k hk).2.1)).same (fun k hk=>?_)
   have:=h.blk p hp k hk;exact b k (by omega) this.2.2
  exact(hq p hp).same (fun k hk=>b k (hT p hp k hk).2 (c k (hT p hp k hk).1))
 ·rcases List.mem_append.1 hp with hp|hp
  ·have:=h.blk p hp k hk;exact⟨this.1,by omega,a k (by omega) this.2.2⟩
  have:=hT p hp k hk;exact⟨by omega,by omega,a k this.2 (c k this.1)⟩
 have h3:=h.blk p hp k hk;have h4:=hT q hq2 k hk';omega
theorem dH.foot{base:Nat}{w:World}{v:Value}{ps:List Pc}(h:dH base w v ps):ko (kJ base w.heap.size) w v (ps.map Pc.x):=by
 rcases h.own.2 with ⟨rfl,hz⟩|⟨g,cap,cur,rfl,b,c,d,f,n,l⟩
 ·obtain rfl:ps=[]:=List.eq_nil_of_length_eq_zero hz;exact⟨none,0,rfl,⟨Nat.le_refl _,by unfold maxLen;omega⟩,fun hp=>absurd hp (by simp)⟩
 have hlt:=(h.own.lt g rfl).2;refine⟨_,cap,by simp,⟨by simpa using d,f⟩,fun _=>⟨g,0,fun i=>(ps[i]?.map Pc.s).getD undef,fun i k=>∃ p,ps[i]?=some p/\p.T k,rfl,⟨b,hlt⟩,⟨cur,_,c⟩,fun i hi=>?_,fun i hi=>?_,fun i hi k hk=>?_,fun i j hi hj hne k hk a=>?_⟩⟩
 ·rw[List.length_map]at hi;have hp:ps[i]?=some ps[i]:=List.getElem?_eq_getElem hi;have e:(ps.map Pc.x)[i]?.getD dE=ps[i].x:=by rw[List.getElem?_map,hp];rfl
  simp only[hp,Option.map_some,Option.getD_some,e,Nat.zero_add];have hc:∀ j,j<4->w.cell? ⟨g,i*4+j,none⟩=(eH ps[i].x ps[i].s)[j]? :=fun j hj=>by
   rw[h.own.cellAt (i*4+j) (by omega)];exact nf ps i _ hp j hj
  exact⟨hc 0 (by omega),hc 1 (by omega),hc 2 (by omega),hc 3 (by omega)⟩
 ·rw[List.length_map]at hi;have hp:ps[i]?=some ps[i]:=List.getElem?_eq_getElem hi;have e:(ps.map Pc.x)[i]?.getD dE=ps[i].x:=by rw[List.getElem?_map,hp];rfl
  simp only[hp,Option.map_some,Option.getD_some,e];exact(h.set _ (List.getElem_mem hi)).mono (fun k hk=>⟨_,rfl,hk⟩)
 ·obtain⟨p,hp,hk⟩:=hk;have hm:=List.mem_of_getElem? hp;have:=h.blk p hm k hk;exact⟨⟨this.1,this.2.1⟩,fun e=>this.2.2 (by rw[e];rfl)⟩
 obtain⟨p,hp,hk⟩:=hk;obtain⟨q,hq,a⟩:=a;rw[List.length_map]at hi hj;rw[List.getElem?_eq_getElem hi]at hp;rw[List.getElem?_eq_getElem hj]at hq;simp only[Option.some.injEq]at hp hq;subst hp hq;rcases Nat.lt_or_gt_of_ne hne with hlt|m
 ·exact List.pairwise_iff_getElem.1 h.dis i j hi hj hlt k hk a
 exact List.pairwise_iff_getElem.1 h.dis j i hj hi m k a hk
theorem aQ.foot{base:Nat}{w:World}{v:Value}{xs:List El}(h:aQ base w v xs):ko (kJ base w.heap.size) w v xs:=by
 obtain⟨ps,rfl,h1⟩:=h;exact h1.foot
theorem aQ.base{base base':Nat}{w:World}{v:Value}{xs:List El}(h:aQ base w v xs)(hb:base'<=base):aQ base' w v xs:=by
 obtain⟨ps,e,h1⟩:=h;refine⟨ps,e,⟨h1.own.1,h1.own.2.imp id (fun ⟨g,cap,cur,q1,q2,q3⟩=>⟨g,cap,cur,q1,by omega,q3⟩)⟩,h1.set,fun p hp k hk=>⟨by have:=(h1.blk p hp k hk).1;omega,(h1.blk p hp k hk).2⟩,h1.dis⟩
theorem aQ.form{base:Nat}{w:World}{v:Value}{xs:List El}(h:aQ base w v xs):∃ a c,v=.slice a xs.length c:=by
 obtain⟨ps,rfl,h1⟩:=h;rcases h1.own.2 with ⟨rfl,hz⟩|⟨g,cap,cur,rfl,-⟩
 ·exact⟨none,0,by rw[List.length_map,hz]⟩
 exact⟨_,cap,by rw[List.length_map]⟩
theorem bX(n:Int)(w:World):Calls prog 148 #[.int .i64 n] w fun e w'=>e=.returned (.int .i64 (cap n))/\w'=w:=by
 go_enter func148,ntmps148
 go_wp2
 all_goals
  go_ret;exact⟨lF (by unfold cap;split<;>omega),rfl⟩
def kx(u:Value)(n:Int):Prop:=∃ (T:TypeId) (x:Value) (F:FuncId),u=.iface T x/\
 (∀ w,Sem.run prog (method 324 T x "loop.example/s0027/impl.size") w=.ok (F,x) w)/\(∀ w,Sem.run prog (callFunc F #[x]) w=.ok (.enter F #[x]) w)/\
 ∀ w,Calls prog F #[x] w fun e w'=>e=.returned (.int .i64 n)/\Below w.heap.size w w'
theorem qH(a b:Int)(u v:Value)(w:World)(hu:kx u a)(hv:kx v b)(a0:0<=a)(a1:a<=501)(b0:0<=b)(b1:b<=501):Calls prog 150 #[.agg #[u,v]] w fun e w'=>e=.returned (.int .i64 (cap (a+b)))/\Below w.heap.size w w':=by
 obtain⟨T,x,F,rfl,hm,l,hF⟩:=hu;obtain⟨T',x',F',rfl,m,j,f⟩:=hv;have n:IntKind.i64.wrap (a+b)=a+b:=by rw[IntKind.wrap_i64];omega
 have o:wrap64 (a+b)=a+b:=by unfold wrap64;omega
 have HF:=ae hF;have HG:=ae f;clear hF f
 go_enter func150,ntmps150
 go_wp2
 go_region_with ((first|((with_reducible refine(HF.u _).mono ?_);rintro e w1 ⟨rfl,c⟩;have d:Below (w.heap.size+1) (w.alloc (.cells #[.iface T x,.iface T' x'] 95)) w1:=⟨c.os,c.tape,c.output,c.size,fun k hk=>c.block k (by simpa using hk)⟩;have h:=(cq d).1;clear c)|((with_reducible refine(HG.u _).mono ?_);rintro e w2 ⟨rfl,hb2⟩)|(go_at_call 148;refine(bX _ _).mono ?_;rintro e w3 ⟨rfl,rfl⟩)))
 all_goals
  have g:Below w.heap.size w w1:=(ai w _).trans (d.mono (by omega));have i:Below w.heap.size w w3:=g.trans (hb2.mono g.size);clear h d hb2;go_wp2;go_ret;exact⟨rfl,i⟩
theorem qC(a b:Int)(u v:Value)(w:World)(hu:kx u a)(hv:kx v b)(a0:0<=a)(a1:a<=501)(b0:0<=b)(b1:b<=501):Calls prog 153 #[.agg #[u,v]] w fun e w'=>e=.returned (.int .i64 (cap (a+b)))/\Below w.heap.size w w':=by
 obtain⟨T,x,F,rfl,hm,l,hF⟩:=hu;obtain⟨T',x',F',rfl,m,j,f⟩:=hv;have n:IntKind.i64.wrap (a+b)=a+b:=by rw[IntKind.wrap_i64];omega
 have o:wrap64 (a+b)=a+b:=by unfold wrap64;omega
 have HF:=ae hF;have HG:=ae f;clear hF f
 go_enter func153,ntmps153
 go_wp2
 go_region_with ((first|((with_reducible refine(HF.u _).mono ?_);rintro e w1 ⟨rfl,c⟩;have d:Below (w.heap.size+1) (w.alloc (.cells #[.iface T x,.iface T' x'] 149)) w1:=⟨c.os,c.tape,c.output,c.size,fun k hk=>c.block k (by simpa using hk)⟩;have h:=(cq d).1;clear c)|((with_reducible refine(HG.u _).mono ?_);rintro e w2 ⟨rfl,hb2⟩)|(go_at_call 148;refine(bX _ _).mono ?_;rintro e w3 ⟨rfl,rfl⟩)))
 all_goals
  have g:Below w.heap.size w w1:=(ai w _).trans (d.mono (by omega));have i:Below w.heap.size w w3:=g.trans (hb2.mono g.size);clear h d hb2;go_wp2;go_ret;exact⟨rfl,i⟩
theorem km(v:Value)(x:El)(w:World)(hv:aT 0 w.heap.size w v x.set) :
  Calls prog 81 #[.agg #[.int .i64 x.kind,v,.int .i64 x.mn,.int .i64 x.mx]] w fun e w'=>aF e (iD x)/\Below w.heap.size w w':=by
 obtain⟨a,cap,rfl,hl,-,-⟩:=id hv;unfold maxLen at hl;obtain⟨k,xs,mn,mx⟩:=x;simp only at *;have Hv:=ae hv;clear hv
 by_cases h1:k=1
 ·subst h1
  go_enter func81,ntmps81
  go_wp2_with fail;refine(om _ xs _ (by exact Hv.u.below (ai w _) lR)).mono ?_;rintro e w1 ⟨g,i⟩;obtain⟨j,l⟩:=cq i;simp only[ah]at j l;have hB:Below w.heap.size w w1:=(ai w _).trans (i.mono (by rw[ah];omega));clear i;rcases g.cases with ⟨rfl,c⟩|⟨rfl,c⟩
  ·have d:=ae c;clear c
   by_cases h2:mn=0
   ·by_cases h3:mx=0
    ·go_wp2;go_ret;exact⟨aF.yes (Or.inl ⟨rfl,d.u,h2,h3⟩),hB⟩
    have m:(mx==0)=false:=by simp[h3]
    go_wp2;go_ret;exact⟨aF.no (by rintro(⟨q1,q2,q3,q4⟩|⟨q1,q2,q3,q4⟩|⟨q1,q2,q3,q4,q5⟩)<;>simp only at * <;> omega),hB⟩
   have n:(mn==0)=false:=by simp[h2]
   go_wp2;go_ret;exact⟨aF.no (by rintro(⟨q1,q2,q3,q4⟩|⟨q1,q2,q3,q4⟩|⟨q1,q2,q3,q4,q5⟩)<;>simp only at * <;> omega),hB⟩
  have d:=ae c;clear c;go_wp2;go_ret;exact⟨aF.no (by rintro(⟨q1,q2,q3,q4⟩|⟨q1,q2,q3,q4⟩|⟨q1,q2,q3,q4,q5⟩)<;>simp only at * <;> first|exact d.u q2|omega),hB⟩
 have b1:(k==1)=false:=by simp[h1]
 by_cases h4:k=4
 ·subst h4
  by_cases b:xs.length=0
  ·have f:((xs.length:Int)==0)=true:=by simp;exact List.eq_nil_of_length_eq_zero b
   have h:=ae b;clear b
   go_enter func81,ntmps81
   go_wp2_with fail;refine(ld mn mx _).mono ?_;rintro e w1 ⟨g,rfl⟩;rcases g.cases with ⟨rfl,c⟩|⟨rfl,c⟩
   ·have d:=ae c;clear c;go_wp2;go_ret;exact⟨aF.yes (Or.inr (Or.inr ⟨rfl,h.u,d.u⟩)),ai w _⟩
   have d:=ae c;clear c;go_wp2;go_ret;exact⟨aF.no (by rintro(⟨q1,q2,q3,q4⟩|⟨q1,q2,q3,q4⟩|⟨q1,q2,q3⟩)<;>simp only at * <;> first|exact d.u q3|omega),ai w _⟩
  have f:((xs.length:Int)==0)=false:=by simp;intro e;exact b (by rw[e];rfl)
  go_enter func81,ntmps81
  go_wp2;go_ret;exact⟨aF.no (by rintro(⟨q1,q2,q3,q4⟩|⟨q1,q2,q3,q4⟩|⟨q1,q2,q3⟩)<;>simp only at * <;> omega),ai w _⟩
 have b4:(k==4)=false:=by simp[h4]
 by_cases hk:k=0∨k=2∨k=3
 ·by_cases b:xs.length=0
  ·have f:((xs.length:Int)==0)=true:=by simp;exact List.eq_nil_of_length_eq_zero b
   have h:=ae b;clear b h1 h4
   by_cases h2:mn=0
   ·by_cases h3:mx=0
    ·rcases hk with rfl|rfl|rfl
     all_goals
      go_enter func81,ntmps81
      go_wp2;go_ret;exact⟨aF.yes (Or.inr (Or.inl ⟨by simp,h.u,h2,h3⟩)),ai w _⟩
    have m:(mx==0)=false:=by simp[h3]
    rcases hk with rfl|rfl|rfl
    all_goals
     go_enter func81,ntmps81
     go_wp2;go_ret;exact⟨aF.no (by rintro(⟨q1,q2,q3,q4⟩|⟨q1,q2,q3,q4⟩|⟨q1,q2,q3,q4,q5⟩)<;>simp only at * <;> omega),ai w _⟩
   have n:(mn==0)=false:=by simp[h2]
   rcases hk with rfl|rfl|rfl
   all_goals
    go_enter func81,ntmps81
    go_wp2;go_ret;exact⟨aF.no (by rintro(⟨q1,q2,q3,q4⟩|⟨q1,q2,q3,q4⟩|⟨q1,q2,q3,q4,q5⟩)<;>simp only at * <;> omega),ai w _⟩
  have f:((xs.length:Int)==0)=false:=by simp;intro e;exact b (by rw[e];rfl)
  clear h1 h4;rcases hk with rfl|rfl|rfl
  all_goals
   go_enter func81,ntmps81
   go_wp2;go_ret;exact⟨aF.no (by rintro(⟨q1,q2,q3,q4⟩|⟨q1,q2,q3,q4⟩|⟨q1,q2,q3,q4,q5⟩)<;>simp only at * <;> omega),ai w _⟩
 have b0:(k==0)=false:=by simp;omega
 have b2:(k==2)=false:=by simp;omega
 have b3:(k==3)=false:=by simp;omega
 go_enter func81,ntmps81
 go_wp2;go_ret;exact⟨aF.no (by rintro(⟨q1,q2,q3,q4⟩|⟨q1,q2,q3,q4⟩|⟨q1,q2,q3,q4,q5⟩)<;>simp only at * <;> omega),ai w _⟩
end Go.Proofs.YtpmcjimgkabpeaaGreatDoor
