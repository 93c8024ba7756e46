import Derived.Test.YtidfkbghlkcbeaaGreatDoorPk6
import Derived.Deep.RegionWith
namespace Go.Proofs.YtidfkbghlkcbeaaGreatDoor
open Go.RowKit Go.Proofs.Tryz
set_option maxHeartbeats 16000000
set_option maxRecDepth 100000
def jD(w:World)(b o:Nat)(x:El)(sv:Value):Prop:=
 w.cell? ⟨b,o,none⟩=some (.int .i64 x.kind)/\w.cell? ⟨b,o+1,none⟩=some sv/\w.cell? ⟨b,o+2,none⟩=some (.int .i64 x.mn)/\w.cell? ⟨b,o+3,none⟩=some (.int .i64 x.mx)
theorem jD.same{w w':World}{b o:Nat}{x:El}{sv:Value}(h:jD w b o x sv)(e:w'.heap[b]?=w.heap[b]?):jD w' b o x sv:=by
 obtain⟨h0,h1,h2,h3⟩:=h;refine⟨?_,?_,?_,?_⟩<;>rw[World.cell?_of_block (w:=w) (by exact e)]<;>assumption
theorem jD.put{w:World}{b o o':Nat}{x:El}{sv u:Value}(h:jD w b o x sv)(hne:o'<o∨o+3<o'):jD (w.setCell ⟨b,o',none⟩ u) b o x sv:=by
 obtain⟨h0,h1,h2,h3⟩:=h;refine⟨?_,?_,?_,?_⟩<;>rw[aL (Or.inr (by omega))]<;>assumption
theorem qk{lo n:Nat}{w:World}{v:Value}{xs:List Int}(h:aR lo n w v xs):aK mI 0 lo n w v xs:=by
 obtain⟨a,cap,rfl,hl,hr,hc⟩:=h;exact⟨a,cap,rfl,hl,hc⟩
theorem jD.putK{w:World}{b o:Nat}{x:El}{sv:Value}(h:jD w b o x sv)(k:Int):jD (w.setCell ⟨b,o,none⟩ (.int .i64 k)) b o ⟨k,x.set,x.mn,x.mx⟩ sv:=by
 obtain⟨h0,h1,h2,h3⟩:=h;exact⟨dX h0,by rw[aL (Or.inr (by omega))];exact h1,by rw[aL (Or.inr (by omega))];exact h2,by rw[aL (Or.inr (by omega))];exact h3⟩
theorem jD.putM{w:World}{b o:Nat}{x:El}{sv:Value}(h:jD w b o x sv)(k:Int):jD (w.setCell ⟨b,o+2,none⟩ (.int .i64 k)) b o ⟨x.kind,x.set,k,x.mx⟩ sv:=by
 obtain⟨h0,h1,h2,h3⟩:=h;exact⟨by rw[aL (Or.inr (by omega))];exact h0,by rw[aL (Or.inr (by omega))];exact h1,dX h2,by rw[aL (Or.inr (by omega))];exact h3⟩
theorem jD.putX{w:World}{b o:Nat}{x:El}{sv:Value}(h:jD w b o x sv)(k:Int):jD (w.setCell ⟨b,o+3,none⟩ (.int .i64 k)) b o ⟨x.kind,x.set,x.mn,k⟩ sv:=by
 obtain⟨h0,h1,h2,h3⟩:=h;exact⟨by rw[aL (Or.inr (by omega))];exact h0,by rw[aL (Or.inr (by omega))];exact h1,by rw[aL (Or.inr (by omega))];exact h2,dX h3⟩
def kX(S:Nat->Prop)(w:World)(v:Value)(xs:List El):Prop:=
 ∃ a cap,v=.slice a xs.length cap/\(xs.length<=cap/\cap<=maxLen)/\(0<xs.length->∃ (b off:Nat) (sv:Nat->Value) (T:Nat->Nat->Prop),a=some ⟨b,off,none⟩/\S b/\vT w b/\
  (∀ i:Nat,i<xs.length->jD w b (off+i*4) (xs[i]?.getD dE) (sv i))/\(∀ i:Nat,i<xs.length->ir mI 0 (T i) w (sv i) (xs[i]?.getD dE).set)/\
  (∀ i:Nat,i<xs.length->∀ k,T i k->S k/\k≠b)/\∀ i j:Nat,i<xs.length->j<xs.length->i≠j->∀ k,T i k->¬ T j k)
theorem kX.same{S:Nat->Prop}{w w':World}{v:Value}{xs:List El}(h:kX S w v xs)(hs:∀ k,S k->w'.heap[k]?=w.heap[k]?):kX S w' v xs:=by
 obtain⟨a,cap,rfl,hl,hc⟩:=h;refine⟨a,cap,rfl,hl,fun hp=>?_⟩;obtain⟨b,off,sv,T,e,h1,h2,h3,h4,h5,h6⟩:=hc hp;exact⟨b,off,sv,T,e,h1,h2.same (hs b h1),fun i hi=>(h3 i hi).same (hs b h1),fun i hi=>(h4 i hi).same (fun k hk=>hs k (h5 i hi k hk).1),h5,h6⟩
def Gd(xs:List El):Prop:=∀ i:Nat,az (xs[i]?.getD dE).kind/\az (xs[i]?.getD dE).mn/\az (xs[i]?.getD dE).mx/\∀ j:Nat,az ((xs[i]?.getD dE).set[j]?.getD 0)
theorem kX.at{S:Nat->Prop}{N:Nat}{w:World}{v:Value}{xs:List El}(h:kX S w v xs)(hs:∀ k,S k->k<N)(hr:Gd xs):aA 0 N w v xs:=by
 obtain⟨a,cap,rfl,hl,hc⟩:=h;refine⟨a,cap,rfl,hl,fun hp=>?_⟩;obtain⟨b,off,sv,T,e,h1,h2,h3,h4,h5,h6⟩:=hc hp;refine⟨b,off,e,Nat.zero_le _,hs b h1,fun i hi=>?_⟩;obtain⟨r1,r2,r3,r4⟩:=hr i;obtain⟨q0,q1,q2,q3⟩:=h3 i hi;refine⟨r1,r2,r3,sv i,q0,q1,q2,q3,?_⟩;obtain⟨a',cap',e',c,d⟩:=(h4 i hi).at (N:=N) (fun k hk=>hs k (h5 i hi k hk).1);refine⟨a',cap',e',c,r4,fun hp'=>?_⟩;obtain⟨b',off',e2,k1,k2,k4⟩:=d hp';exact⟨b',off',e2,k1,k2,k4⟩
structure Pc where
 x:El
 s:Value
 T:Nat->Prop
def dG(x:El)(s:Value):List Value:=[.int .i64 x.kind,s,.int .i64 x.mn,.int .i64 x.mx]
def bD:List Pc->List Value
 | []=>[]
 | p::r=>dG p.x p.s++bD r
theorem gi(a b:List Pc):bD (a++b)=bD a++bD b:=by
 induction a with
 | nil=>rfl
 | cons p r ih=>simp[bD,ih]
theorem gM(a:List Pc):(bD a).length=a.length*4:=by
 induction a with
 | nil=>rfl
 | cons p r ih=>simp[bD,ih,dG];omega
theorem jt(a:List Pc)(i:Nat)(p:Pc)(h:a[i]?=some p)(j:Nat)(hj:j<4):(bD a)[i*4+j]?=(dG p.x p.s)[j]? :=by
 induction a generalizing i with
 | nil=>simp at h
 | cons q r ih =>
  cases i with
  | zero =>
   simp at h;subst h;rw[bD,List.getElem?_append_left (by simp[dG];omega)];simp
  | succ i =>
   rw[bD,List.getElem?_append_right (by simp[dG];omega),show(i+1)*4+j-(dG q.x q.s).length=i*4+j by simp[dG];omega];exact ih i (by simpa using h)
theorem mK(a:List Pc)(hs:∀ p∈a,p.s.oneCell'=true):∀ u∈bD a,u.oneCell'=true:=by
 induction a with
 | nil=>intro u hu;simp[bD]at hu
 | cons p r ih =>
  intro u hu;simp only[bD,dG,List.mem_append,List.mem_cons,List.not_mem_nil,or_false]at hu;rcases hu with (rfl|rfl|rfl|rfl)|hu
  ·rfl
  ·exact hs p (by simp)
  ·rfl
  ·rfl
  exact ih (fun q hq=>hs q (by simp[hq])) u hu
def Cu(ps:List Pc):Prop:=ps.Pairwise (fun p q=>∀ k,p.T k->¬ q.T k)
structure dS (base:Nat) (w:World) (v:Value) (ps:List Pc):Prop where
 own:w.ownsRow base 65 4 v ps.length (bD ps)
 set:∀ p∈ps,ir mI 0 p.T w p.s p.x.set
 blk:∀ p∈ps,∀ k,p.T k->base<=k/\k<w.heap.size/\v.ownBlock≠some k
 dis:Cu ps
def aP(base:Nat)(w:World)(v:Value)(xs:List El):Prop:=∃ ps:List Pc,ps.map Pc.x=xs/\dS base w v ps
theorem aP.nil(base:Nat)(w:World):aP base w (.slice none 0 0) []:=⟨[],rfl,World.ownsRow_nil _ _ _ _,by simp,by simp,List.Pairwise.nil⟩
theorem dS.keep{base m:Nat}{w w':World}{v:Value}{ps:List Pc}(h:dS base w v ps)(hb:Below m w w')(hm:w.heap.size<=m):dS base w' v ps:=
 ⟨h.own.kept (show w.grownBy w' none from⟨hb.os,hb.tape,hb.output,hb.size,fun k hk _=>hb.block k (by omega)⟩) (by cases v.ownBlock<;>simp),
  fun p hp=>(h.set p hp).same (fun k hk=>hb.block k (by have:=(h.blk p hp k hk).2.1;omega)),fun p hp k hk=>by have h1:=h.blk p hp k hk;have h2:=hb.size;exact⟨h1.1,by omega,h1.2.2⟩,h.dis⟩
theorem aP.keep{base m:Nat}{w w':World}{v:Value}{xs:List El}(h:aP base w v xs)(hb:Below m w w')(hm:w.heap.size<=m):aP base w' v xs:=by
 obtain⟨ps,e,h1⟩:=h;exact⟨ps,e,h1.keep hb hm⟩
theorem dS.app{base:Nat}{w0 w w':World}{v v':Value}{ps qs:List Pc}(h:dS base w0 v ps)(hbase:base<=w0.heap.size)(hb:Below w0.heap.size w0 w)(hq:∀ p∈qs,ir mI 0 p.T w p.s p.x.set)(hT:∀ p∈qs,∀ k,p.T k->w0.heap.size<=k/\k<w.heap.size)(hd:Cu qs)
  (h1:w'.ownsRow base 65 4 v' (ps.length+qs.length) (bD ps++bD qs))(hg:w.grownBy w' v.ownBlock)(ho:v'.ownBlock=v.ownBlock∨v'.ownBlock=some w.heap.size):dS base w' v' (ps++qs):=by
 have hs:=hb.size;have d:w.heap.size<=w'.heap.size:=hg.size;have c:∀ k,w0.heap.size<=k->v.ownBlock≠some k:=fun k hk e=>by have:=(h.own.lt k e).2;omega
 have a:∀ k,k<w.heap.size->v.ownBlock≠some k->v'.ownBlock≠some k:=fun k hk hne e=>by
  rcases ho with ho|ho
  ·exact hne (by rw[<-ho,e])
  rw[ho]at e;simp at e;omega
 have b:∀ k,k<w.heap.size->v.ownBlock≠some k->w'.heap[k]?=w.heap[k]? :=fun k hk hne=>hg.block k hk (fun e=>hne e.symm)
 refine⟨by rw[List.length_append,gi];exact h1,fun p hp=>?_,fun p hp k hk=>?_,List.pairwise_append.2 ⟨h.dis,hd,fun p hp q hq2 k hk hk'=>?_⟩⟩
 ·rcases List.mem_append.1 hp with hp|hp
  ·refine((h.set p hp).same (w':=w) (fun k hk=>hb.block k (h.blk p hp k hk).2.1)).same (fun k hk=>?_)
   have:=h.blk p hp k hk;exact b k (by omega) this.2.2
  exact(hq p hp).same (fun k hk=>b k (hT p hp k hk).2 (c k (hT p hp k hk).1))
 ·rcases List.mem_append.1 hp with hp|hp
  ·have:=h.blk p hp k hk;exact⟨this.1,by omega,a k (by omega) this.2.2⟩
  have:=hT p hp k hk;exact⟨by omega,by omega,a k this.2 (c k this.1)⟩
 have h3:=h.blk p hp k hk;have h4:=hT q hq2 k hk';omega
theorem dS.foot{base:Nat}{w:World}{v:Value}{ps:List Pc}(h:dS base w v ps):kX (li base w.heap.size) w v (ps.map Pc.x):=by
 rcases h.own.2 with ⟨rfl,hz⟩|⟨g,cap,cur,rfl,b,c,d,f,n,l⟩
 ·obtain rfl:ps=[]:=List.eq_nil_of_length_eq_zero hz;exact⟨none,0,rfl,⟨Nat.le_refl _,by unfold maxLen;omega⟩,fun hp=>absurd hp (by simp)⟩
 have hlt:=(h.own.lt g rfl).2;refine⟨_,cap,by simp,⟨by simpa using d,f⟩,fun _=>⟨g,0,fun i=>(ps[i]?.map Pc.s).getD undef,fun i k=>∃ p,ps[i]?=some p/\p.T k,rfl,⟨b,hlt⟩,⟨cur,_,c⟩,fun i hi=>?_,fun i hi=>?_,fun i hi k hk=>?_,fun i j hi hj hne k hk a=>?_⟩⟩
 ·rw[List.length_map]at hi;have hp:ps[i]?=some ps[i]:=List.getElem?_eq_getElem hi;have e:(ps.map Pc.x)[i]?.getD dE=ps[i].x:=by rw[List.getElem?_map,hp];rfl
  simp only[hp,Option.map_some,Option.getD_some,e,Nat.zero_add];have hc:∀ j,j<4->w.cell? ⟨g,i*4+j,none⟩=(dG ps[i].x ps[i].s)[j]? :=fun j hj=>by
   rw[h.own.cellAt (i*4+j) (by omega)];exact jt ps i _ hp j hj
  exact⟨hc 0 (by omega),hc 1 (by omega),hc 2 (by omega),hc 3 (by omega)⟩
 ·rw[List.length_map]at hi;have hp:ps[i]?=some ps[i]:=List.getElem?_eq_getElem hi;have e:(ps.map Pc.x)[i]?.getD dE=ps[i].x:=by rw[List.getElem?_map,hp];rfl
  simp only[hp,Option.map_some,Option.getD_some,e];exact(h.set _ (List.getElem_mem hi)).mono (fun k hk=>⟨_,rfl,hk⟩)
 ·obtain⟨p,hp,hk⟩:=hk;have hm:=List.mem_of_getElem? hp;have:=h.blk p hm k hk;exact⟨⟨this.1,this.2.1⟩,fun e=>this.2.2 (by rw[e];rfl)⟩
 obtain⟨p,hp,hk⟩:=hk;obtain⟨q,hq,a⟩:=a;rw[List.length_map]at hi hj;rw[List.getElem?_eq_getElem hi]at hp;rw[List.getElem?_eq_getElem hj]at hq;simp only[Option.some.injEq]at hp hq;subst hp hq;rcases Nat.lt_or_gt_of_ne hne with hlt|m
 ·exact List.pairwise_iff_getElem.1 h.dis i j hi hj hlt k hk a
 exact List.pairwise_iff_getElem.1 h.dis j i hj hi m k a hk
theorem aP.foot{base:Nat}{w:World}{v:Value}{xs:List El}(h:aP base w v xs):kX (li base w.heap.size) w v xs:=by
 obtain⟨ps,rfl,h1⟩:=h;exact h1.foot
theorem aP.base{base base':Nat}{w:World}{v:Value}{xs:List El}(h:aP base w v xs)(hb:base'<=base):aP base' w v xs:=by
 obtain⟨ps,e,h1⟩:=h;refine⟨ps,e,⟨h1.own.1,h1.own.2.imp id (fun ⟨g,cap,cur,q1,q2,q3⟩=>⟨g,cap,cur,q1,by omega,q3⟩)⟩,h1.set,fun p hp k hk=>⟨by have:=(h1.blk p hp k hk).1;omega,(h1.blk p hp k hk).2⟩,h1.dis⟩
theorem aP.form{base:Nat}{w:World}{v:Value}{xs:List El}(h:aP base w v xs):∃ a c,v=.slice a xs.length c:=by
 obtain⟨ps,rfl,h1⟩:=h;rcases h1.own.2 with ⟨rfl,hz⟩|⟨g,cap,cur,rfl,-⟩
 ·exact⟨none,0,by rw[List.length_map,hz]⟩
 exact⟨_,cap,by rw[List.length_map]⟩
theorem cd(n:Int)(w:World):Calls prog 144 #[.int .i64 n] w fun e w'=>e=.returned (.int .i64 (cap n))/\w'=w:=by
 go_enter func144,ntmps144
 go_wp2
 all_goals
  go_ret;exact⟨md (by unfold cap;split<;>omega),rfl⟩
def kV(u:Value)(n:Int):Prop:=∃ (T:TypeId) (x:Value) (F:FuncId),u=.iface T x/\
 (∀ w,Sem.run prog (method 317 T x "loop.example/s0027/impl.size") w=.ok (F,x) w)/\(∀ w,Sem.run prog (callFunc F #[x]) w=.ok (.enter F #[x]) w)/\
 ∀ w,Calls prog F #[x] w fun e w'=>e=.returned (.int .i64 n)/\Below w.heap.size w w'
theorem rX(a b:Int)(u v:Value)(w:World)(hu:kV u a)(hv:kV v b)(a0:0<=a)(a1:a<=501)(b0:0<=b)(b1:b<=501):Calls prog 146 #[.agg #[u,v]] w fun e w'=>e=.returned (.int .i64 (cap (a+b)))/\Below w.heap.size w w':=by
 obtain⟨T,x,F,rfl,hm,l,hF⟩:=hu;obtain⟨T',x',F',rfl,m,j,f⟩:=hv;have n:IntKind.i64.wrap (a+b)=a+b:=by rw[IntKind.wrap_i64];omega
 have o:wrap64 (a+b)=a+b:=by unfold wrap64;omega
 have HF:=ae hF;have HG:=ae f;clear hF f
 go_enter func146,ntmps146
 go_wp2
 go_region_with ((first|((with_reducible refine(HF.u _).mono ?_);rintro e w1 ⟨rfl,c⟩;have d:Below (w.heap.size+1) (w.alloc (.cells #[.iface T x,.iface T' x'] 95)) w1:=⟨c.os,c.tape,c.output,c.size,fun k hk=>c.block k (by simpa using hk)⟩;have h:=(cu d).1;clear c)|((with_reducible refine(HG.u _).mono ?_);rintro e w2 ⟨rfl,hb2⟩)|(go_at_call 144;refine(cd _ _).mono ?_;rintro e w3 ⟨rfl,rfl⟩)))
 all_goals
  have g:Below w.heap.size w w1:=(ai w _).trans (d.mono (by omega));have i:Below w.heap.size w w3:=g.trans (hb2.mono g.size);clear h d hb2;go_wp2;go_ret;exact⟨rfl,i⟩
theorem th(a b:Int)(u v:Value)(w:World)(hu:kV u a)(hv:kV v b)(a0:0<=a)(a1:a<=501)(b0:0<=b)(b1:b<=501):Calls prog 149 #[.agg #[u,v]] w fun e w'=>e=.returned (.int .i64 (cap (a+b)))/\Below w.heap.size w w':=by
 obtain⟨T,x,F,rfl,hm,l,hF⟩:=hu;obtain⟨T',x',F',rfl,m,j,f⟩:=hv;have n:IntKind.i64.wrap (a+b)=a+b:=by rw[IntKind.wrap_i64];omega
 have o:wrap64 (a+b)=a+b:=by unfold wrap64;omega
 have HF:=ae hF;have HG:=ae f;clear hF f
 go_enter func149,ntmps149
 go_wp2
 go_region_with ((first|((with_reducible refine(HF.u _).mono ?_);rintro e w1 ⟨rfl,c⟩;have d:Below (w.heap.size+1) (w.alloc (.cells #[.iface T x,.iface T' x'] 142)) w1:=⟨c.os,c.tape,c.output,c.size,fun k hk=>c.block k (by simpa using hk)⟩;have h:=(cu d).1;clear c)|((with_reducible refine(HG.u _).mono ?_);rintro e w2 ⟨rfl,hb2⟩)|(go_at_call 144;refine(cd _ _).mono ?_;rintro e w3 ⟨rfl,rfl⟩)))
 all_goals
  have g:Below w.heap.size w w1:=(ai w _).trans (d.mono (by omega));have i:Below w.heap.size w w3:=g.trans (hb2.mono g.size);clear h d hb2;go_wp2;go_ret;exact⟨rfl,i⟩
end Go.Proofs.YtidfkbghlkcbeaaGreatDoor
