import Derived.Test.YtidfkbghlkcbeaaGreatDoorPk10
namespace Go.Proofs.YtidfkbghlkcbeaaGreatDoor
open Go.RowKit Go.Proofs.Tryz
set_option maxHeartbeats 16000000
set_option maxRecDepth 100000
theorem Tryz.zinOp:(prog.info? 65).map (fun i=>(i.zero,i.size,i.bytes))=some (some (.agg #[.int .i64 0,.slice none 0 0,.int .i64 0,.int .i64 0]),4,48):=by kernel_rfl
theorem dS.app1{base:Nat}{wr w1 W w':World}{v v':Value}{ps:List Pc}{x:El}{s:Value}{T:Nat->Prop}{o:Obj}(h:dS base wr v ps)(hbase:base<=wr.heap.size)(hb:Below wr.heap.size wr w1)(hs:ir mI 0 T w1 s x.set)(hT:∀ k,T k->wr.heap.size<=k/\k<w1.heap.size)(hP:aH w1 W o)
  (h1:w'.ownsRow base 65 4 v' (ps.length+1) (bD ps++dG x s))(hg:W.grownBy w' v.ownBlock)(ho:v'.ownBlock=v.ownBlock∨v'.ownBlock=some W.heap.size):dS base w' v' (ps++[⟨x,s,T⟩])/\Below base wr w':=by
 have hB:Below wr.heap.size wr W:=hb.trans (hP.below.mono hb.size);refine⟨h.app (qs:=[⟨x,s,T⟩]) hbase hB (fun p hp=>?_) (fun p hp k hk=>?_) (List.pairwise_singleton _ _) (by simpa[bD]using h1) hg ho,(hB.mono hbase).grown hg (by have:=hB.size;omega) (fun k hk=>(h.own.lt k hk).1)⟩
 ·obtain rfl:=List.mem_singleton.1 hp;exact hs.same (fun k hk=>hP.old (hT k hk).2)
 obtain rfl:=List.mem_singleton.1 hp;have:=hT k hk;have:=hP.size;exact⟨(hT k hk).1,by omega⟩
def uW(base:Nat)(w:World)(ps:List Pc):Prop:=∀ p∈ps,w.ownsRow base 3 1 p.s p.x.set.length (p.x.set.map mI)/\∀ k,p.s.ownBlock=some k->p.T k
def gE(base:Nat)(w:World)(v:Value)(xs:List El):Prop:=∃ ps:List Pc,ps.map Pc.x=xs/\dS base w v ps/\uW base w ps
theorem gE.nil(base:Nat)(w:World):gE base w (.slice none 0 0) []:=⟨[],rfl,⟨World.ownsRow_nil _ _ _ _,by simp,by simp,List.Pairwise.nil⟩,fun p hp=>by cases hp⟩
theorem uW.app1{base:Nat}{wr w1 W w':World}{v:Value}{ps:List Pc}{x:El}{s:Value}{o:Obj}(hS:uW base wr ps)(h:dS base wr v ps)(hbase:base<=wr.heap.size)(hb:Below wr.heap.size wr w1)(hs:w1.ownsRow wr.heap.size 3 1 s x.set.length (x.set.map mI))(hP:aH w1 W o)(hg:W.grownBy w' v.ownBlock):uW base w' (ps++[⟨x,s,li wr.heap.size w1.heap.size⟩]):=by
 have hB:Below wr.heap.size wr W:=hb.trans (hP.below.mono hb.size);intro p hp;rcases List.mem_append.1 hp with hp|hp
 ·obtain⟨h1,h2⟩:=hS p hp;refine⟨(aG h1 hB lR).kept hg ?_,h2⟩;cases hk:p.s.ownBlock with
  | none=>exact .inl rfl
  | some k=>exact .inr (fun e=>(h.blk p hp k (h2 k hk)).2.2 e.symm)
 obtain rfl:=List.mem_singleton.1 hp;refine⟨(aO (aG hs hP.below lR) hbase).kept hg ?_,fun k hk=>hs.lt k hk⟩;cases hk:s.ownBlock with
 | none=>exact .inl rfl
 | some k =>
  refine .inr (fun e=>?_)
  have h1:=(hs.lt k hk).1;have h2:=(h.own.lt k e.symm).2;omega
theorem td(v:Value)(xs:List El)(w:World)(hv:aA 0 w.heap.size w v xs)(hlen:xs.length<=1048576)(hset:∀ i:Nat,(xs[i]?.getD dE).set.length<=1048576) :
  Calls prog 32 #[v] w fun e w'=>∃ v',e=.returned v'/\gE w.heap.size w' v' xs/\Below w.heap.size w w':=by
 obtain⟨a,cap,rfl,hl,hc⟩:=hv;obtain⟨i0,hi,U,V,X⟩:=info_parts Tryz.zinInt;obtain⟨j0,hj,D,E,F⟩:=info_parts Tryz.zinOp;have z:=ae hset;clear hset
 go_enter func32,ntmps32
 go_wp2
 go_loopw [3,4] (fun ov i wr=>∃ k:Nat,k<=xs.length/\i=.int .i64 k/\gE w.heap.size wr ov (xs.take k)/\Below w.heap.size w wr) (fun _ i _=>xs.length-(intOf i).toNat)
 case atStart=>exact⟨0,Nat.zero_le _,rfl,gE.nil _ _,Below.refl _ _⟩
 obtain⟨k,hk,rfl,h,hb⟩:=hrel;have j:=hb.size
 by_cases hlt:k<xs.length
 ·obtain⟨b,off,rfl,-,G,A⟩:=hc (by omega);obtain⟨i1,i2,i3,sv,c0,c1,c2,c3,d⟩:=(A k hlt).same (dm.of_below hb lR) (Nat.zero_le _) G;have H:=z.u k;have I:=ae (cj hlt);have J:=ae (qk (d.mono lR hb.size));generalize xs[k]?.getD dE=x at *;obtain⟨sa,sc,rfl,-,-,-⟩:=id d;obtain⟨ps,l,m,B⟩:=h;have K:=ae B;have L:=ae l;have n:=ae m;have M:ps.length=k:=by
   have:=congrArg List.length l;rw[List.length_map,List.length_take]at this;omega
  subst M;obtain⟨oa,oc,rfl⟩:=aj m.own;have R:(ps.length:Int)<(xs.length:Int):=by omega
  have q:b<wr.heap.size:=by omega
  clear A hc d i1 i2 i3 l m B
  go_wp2_with (at_builtin;refine kj rfl _ _ rfl rfl _ rfl x.set J.u H ?_)
  intro sv' w1 f r Y;have s:=bW r (lo:=wr.heap.size) lR (by unfold maxLen;omega);have N:=ae r;have d0:w1.cell? ⟨b,off+ps.length*4,none⟩=some (.int .i64 x.kind):=by rw[f.cell (p:=⟨b,off+ps.length*4,none⟩) q];exact c0
  have d2:w1.cell? ⟨b,off+ps.length*4+2,none⟩=some (.int .i64 x.mn):=by rw[f.cell (p:=⟨b,off+ps.length*4+2,none⟩) q];exact c2
  have d3:w1.cell? ⟨b,off+ps.length*4+3,none⟩=some (.int .i64 x.mx):=by rw[f.cell (p:=⟨b,off+ps.length*4+3,none⟩) q];exact c3
  have O:=ae s;obtain⟨sa',sc',rfl⟩ : ∃ a c,sv'=.slice a x.set.length c:=by obtain⟨a,c,e,-⟩:=s;exact⟨a,c,e⟩
  clear s r c0 c1 c2 c3;have y:=ae (aG n.u.own f lR);have S:=f.size;have P:Hi (∀ (W w':World) (v':Value) (o:Obj),aH w1 W o->w'.ownsRow w.heap.size 65 4 v' (ps.length+1) (bD ps++dG x (.slice sa' x.set.length sc'))->W.grownBy w' (Value.slice oa ps.length oc).ownBlock->(v'.ownBlock=(Value.slice oa ps.length oc).ownBlock∨v'.ownBlock=some W.heap.size)->gE w.heap.size w' v' (xs.take (ps.length+1))/\Below w.heap.size wr w'):=fun W w' v' o hP q1 q2 q3=>by
   obtain⟨r1,r2⟩:=n.u.app1 (T:=li wr.heap.size w1.heap.size) j f O.u.foot (fun k hk=>hk) hP q1 q2 q3;exact⟨⟨_,by rw[List.map_append,L.u,I.u];rfl,r1,K.u.app1 n.u j f N.u hP q2⟩,r2⟩
  have C:Hi (∀ u∈dG x (.slice sa' x.set.length sc'),u.oneCell'=true):=fun u hu=>by
   simp only[dG,List.mem_cons,List.not_mem_nil,or_false]at hu;rcases hu with rfl|rfl|rfl|rfl<;>rfl
  go_wp2
  go_region_law (refine step_append_lies _ rfl (.tmp 19) (.tmp 37) 23 rfl w.heap.size 65 j0 (.agg #[.int .i64 0,.slice none 0 0,.int .i64 0,.int .i64 0]) 4 48 underlying23 hj D E F rfl (by decide) (.slice oa ps.length oc) ps.length (bD ps) (by simp[Act.eval]) (by refine aH.own (w:=w1) (o:=.cells #[.int .i64 x.kind,.slice sa' x.set.length sc',.int .i64 x.mn,.int .i64 x.mx] 65) ?_ y.u;exact⟨rfl,rfl,rfl,rfl⟩) ⟨w1.heap.size,0,none⟩ 1 1 (dG x (.slice sa' x.set.length sc')) (by simp[Act.eval]) rfl (by refine aH.news (w:=w1) (cs:=#[.int .i64 x.kind,.slice sa' x.set.length sc',.int .i64 x.mn,.int .i64 x.mx]) (t:=65) ?_;exact⟨rfl,rfl,rfl,rfl⟩) C.u (by decide) (by unfold maxLen;omega) (by omega) (by show w.heap.size<=(w1.alloc _).heap.size;rw[ah];omega) (w1.heap.size+1) (ah w1 _) (fun g cap' w' q1 q2 q3 q4=>?_);have hs:=ae (P.u _ w' (.slice (some ⟨g,0,none⟩) (ps.length+1) cap') (.cells #[.int .i64 x.kind,.slice sa' x.set.length sc',.int .i64 x.mn,.int .i64 x.mx] 65) (by exact⟨rfl,rfl,rfl,rfl⟩) q1 q2 (q3.elim (fun e=>Or.inl e.symm) (fun e=>Or.inr (by subst e;simp[Value.ownBlock]))));clear q1 q2 q3 q4)
  all_goals
   go_wp2;exact⟨⟨ps.length+1,by omega,by go_num,hs.u.1,hb.trans hs.u.2⟩,by simp[intOf];omega⟩
 obtain rfl:k=xs.length:=by omega
 rw[List.take_length]at h;have Q:=ae h;clear hc h;go_wp2;go_ret;exact⟨_,rfl,Q.u,hb⟩
theorem eH(v:Value)(xs:List El)(w:World)(hv:aA 0 w.heap.size w v xs)(hlen:xs.length<=1048576)(hset:∀ i:Nat,(xs[i]?.getD dE).set.length<=1048576) :
  Calls prog 32 #[v] w fun e w'=>∃ v',e=.returned v'/\aP w.heap.size w' v' xs/\Below w.heap.size w w':=
 (td v xs w hv hlen hset).mono (fun _ _ ⟨v',he,⟨ps,e1,h1,_⟩,hb⟩=>⟨v',he,⟨ps,e1,h1⟩,hb⟩)
theorem ir.none(w:World):ir mI 0 (fun _=>False) w (.slice none 0 0) []:=⟨0,0,⟨.none,0,rfl,Nat.zero_le _,fun h=>absurd h (by simp)⟩,fun k h1 h2=>by omega⟩
theorem js{base:Nat}{wr w1 W:World}{ops:Array Oper}{rest:List Oper}{o:Oper}{a:Act}{Q:Exit->Act->World->Prop}{v:Value}{ps:List Pc}(x:El)(sv:Value)(T:Nat->Prop)(hgd:o.guard=none)(s y:Operand)
  (ho:o.op=.call { callee:=.builtin .append,args:=#[s,y],argTypes:=#[23,23] })(hs:a.eval s=v)(hy:a.eval y=.slice (some ⟨w1.heap.size,0,none⟩) 1 1)
  (h:dS base wr v ps)(hbase:base<=wr.heap.size)(hb:Below wr.heap.size wr w1)(hsl:ir mI 0 T w1 sv x.set)(hT:∀ k,T k->wr.heap.size<=k/\k<w1.heap.size)(h1c:sv.oneCell'=true)
  (hP:aH w1 W (.cells #[.int .i64 x.kind,sv,.int .i64 x.mn,.int .i64 x.mx] 65))(hlen:ps.length<=16777216)
  (K:∀ v' w',dS base w' v' (ps++[⟨x,sv,T⟩])->Below base wr w'->wpList prog ops Q rest (a.put o.dst v') w'):wpList prog ops Q (o::rest) a W:=by
 obtain⟨j0,hj,c,d,e⟩:=info_parts Tryz.zinOp;have b:=hP.own (aG h.own hb lR);refine wpList_append_own_at W hgd s y 23 ho base 65 j0 (.agg #[.int .i64 0,.slice none 0 0,.int .i64 0,.int .i64 0]) 4 48 underlying23 hj c d e rfl (by decide) v ps.length (bD ps) hs b ⟨w1.heap.size,0,none⟩ 1 1 (dG x sv) hy rfl ?_ ?_ ?_ ?_ ?_ ?_
 ·exact aH.news hP
 ·intro u hu;simp only[dG,List.mem_cons,List.not_mem_nil,or_false]at hu;rcases hu with rfl|rfl|rfl|rfl
  ·rfl
  ·exact h1c
  ·rfl
  rfl
 ·unfold maxLen;omega
 ·omega
 ·have:=hP.size;have:=hb.size;omega
 intro v' w' q1 q2 _ q3;obtain⟨r1,r2⟩:=h.app1 hbase hb hsl hT hP q1 q2 q3;exact K v' w' r1 r2
theorem mw{base:Nat}{wr W:World}{ops:Array Oper}{rest:List Oper}{o:Oper}{a:Act}{Q:Exit->Act->World->Prop}{v u:Value}{ps qs:List Pc}(hgd:o.guard=none)(s y:Operand)
  (ho:o.op=.call { callee:=.builtin .append,args:=#[s,y],argTypes:=#[23,23] })(hs:a.eval s=v)(hy:a.eval y=u)
  (h:dS base wr v ps)(hbase:base<=wr.heap.size)(hb:Below wr.heap.size wr W)(hq:dS wr.heap.size W u qs)(hq1:∀ p∈qs,p.s.oneCell'=true)(hlen:ps.length<=16777216)(hlen2:qs.length<=16777216)
  (K:∀ v' w',dS base w' v' (ps++qs)->Below base wr w'->wpList prog ops Q rest (a.put o.dst v') w'):wpList prog ops Q (o::rest) a W:=by
 obtain⟨j0,hj,d,e,f⟩:=info_parts Tryz.zinOp;have b:=aG h.own hb lR;rcases hq.own.2 with ⟨rfl,hz⟩|⟨g,cap,cur,rfl,l,m,n,q,r,i⟩
 ·obtain rfl:qs=[]:=List.eq_nil_of_length_eq_zero hz;refine bw hgd s y 23 ho base 65 j0 4 underlying23 hj v ps.length (bD ps) hs b 0 hy (K v W ?_ (hb.mono hbase));rw[List.append_nil];exact h.keep hb lR
 refine wpList_append_own_at W hgd s y 23 ho base 65 j0 (.agg #[.int .i64 0,.slice none 0 0,.int .i64 0,.int .i64 0]) 4 48 underlying23 hj d e f rfl (by decide) v ps.length (bD ps) hs b ⟨g,0,none⟩ qs.length cap (bD qs) hy (gM qs) ?_ (mK qs hq1) ?_ ?_ ?_ ?_
 ·intro j y c;have e3:(⟨g,0,none⟩ : Addr).add j=⟨g,j,none⟩:=by cases j<;>simp[Addr.add]
  rw[e3,hq.own.cellAt j (by have:=(List.getElem?_eq_some_iff.1 c).1;rw[gM]at this;exact this)];exact c
 ·unfold maxLen;omega
 ·omega
 ·have:=hb.size;omega
 intro v' w' q1 q2 _ q3;exact K v' w' (h.app hbase hb hq.set (fun p hp k hk=>⟨(hq.blk p hp k hk).1,(hq.blk p hp k hk).2.1⟩) hq.dis q1 q2 q3) ((hb.mono hbase).grown q2 (by have:=hb.size;omega) (fun k hk=>(h.own.lt k hk).1))
theorem Pc.one{w:World}{p:Pc}(h:ir mI 0 p.T w p.s p.x.set):p.s.oneCell'=true:=by
 obtain⟨a,c,e⟩:=h.val;rw[e];rfl
theorem pA(k:Int)(vx vy:Value)(xs ys:List El)(w:World)(hx:aA 0 w.heap.size w vx xs)(hy:aA 0 w.heap.size w vy ys)(hlx:xs.length<=1048576)(hly:ys.length<=1048576)(hsx:∀ i:Nat,(xs[i]?.getD dE).set.length<=1048576)(hsy:∀ i:Nat,(ys[i]?.getD dE).set.length<=1048576) :
  Calls prog 31 #[.int .i64 k,vx,vy] w fun e w'=>∃ v',e=.returned v'/\aP w.heap.size w' v' (xs++ys++[⟨k,[],0,0⟩])/\Below w.heap.size w w':=by
 obtain⟨a1,c1,rfl,-,-⟩:=id hx;obtain⟨a2,c2,rfl,-,-⟩:=id hy;have Hx:=ae hx;have Hy:=ae hy;have Sx:=ae hsx;have Sy:=ae hsy;clear hx hy hsx hsy
 go_enter func31,ntmps31
 go_wp2_with fail;refine(eH _ xs _ Hx.u hlx Sx.u).mono ?_;rintro e w1 ⟨v1,rfl,a,c⟩;obtain⟨o1,d1,rfl⟩:=a.form;obtain⟨ps,d,a⟩:=a;have z:ps.length=xs.length:=by rw[<-d,List.length_map]
 have n:=ae a;have o:=ae d;have q:=c.size;clear a d
 go_wp2_with fail;refine(eH _ ys _ (by exact Hy.u.below c lR) hly Sy.u).mono ?_;rintro e w2 ⟨v2,rfl,b,r⟩;obtain⟨o2,d2,rfl⟩:=b.form;obtain⟨qs,f,b⟩:=b;have A:qs.length=ys.length:=by rw[<-f,List.length_map]
 have h:=ae b;have s:=ae f;clear b f
 go_wp2_with (at_builtin;refine mw rfl _ _ rfl rfl rfl n.u q r h.u (fun p hp=>Pc.one (h.u.set p hp)) (by omega) (by omega) ?_)
 intro v3 w3 g t;obtain⟨o3,d3,rfl⟩:=aj g.own;have v:=ae g;have j:Below w.heap.size w w3:=c.trans t;have x:=j.size;clear g
 go_wp2_with (at_builtin;refine js ⟨k,[],0,0⟩ (.slice none 0 0) (fun _=>False) rfl _ _ rfl rfl rfl v.u x (Below.refl _ _) (ir.none _) (fun k hk=>hk.elim) rfl ⟨rfl,rfl,rfl,rfl⟩ (by rw[List.length_append];omega) ?_)
 intro v4 w4 l y;have m:Hi (aP w.heap.size w4 v4 (xs++ys++[⟨k,[],0,0⟩])):=⟨_,by simp[o.u,s.u],l⟩;clear l;go_wp2;go_ret;exact⟨_,rfl,m.u,j.trans y⟩
theorem uw(vx vy:Value)(xs ys:List El)(w:World)(hx:aA 0 w.heap.size w vx xs)(hy:aA 0 w.heap.size w vy ys)(hlx:xs.length<=1048576)(hly:ys.length<=1048576)(hsx:∀ i:Nat,(xs[i]?.getD dE).set.length<=1048576)(hsy:∀ i:Nat,(ys[i]?.getD dE).set.length<=1048576) :
  Calls prog 14 #[vx,vy] w fun e w'=>∃ v',e=.returned v'/\aP w.heap.size w' v' (xs++ys++[⟨3,[],0,0⟩])/\Below w.heap.size w w':=by
 obtain⟨a1,c1,rfl,-,-⟩:=id hx;obtain⟨a2,c2,rfl,-,-⟩:=id hy;have Hx:=ae hx;have Hy:=ae hy;have Sx:=ae hsx;have Sy:=ae hsy;clear hx hy hsx hsy
 go_enter func14,ntmps14
 go_wp2_with fail;refine(pA 3 _ _ xs ys _ Hx.u Hy.u hlx hly Sx.u Sy.u).mono ?_;rintro e w1 ⟨v1,rfl,a,b⟩;have c:=ae a;clear a;go_wp2;go_ret;exact⟨_,rfl,c.u,b⟩
theorem ml(lo hi:Int)(vx:Value)(xs:List El)(w:World)(hx:aA 0 w.heap.size w vx xs)(hlx:xs.length<=1048576)(hsx:∀ i:Nat,(xs[i]?.getD dE).set.length<=1048576) :
  Calls prog 15 #[vx,.int .i64 lo,.int .i64 hi] w fun e w'=>∃ v',e=.returned v'/\aP w.heap.size w' v' (xs++[⟨4,[],lo,hi⟩])/\Below w.heap.size w w':=by
 obtain⟨a1,c1,rfl,-,-⟩:=id hx;have Hx:=ae hx;have Sx:=ae hsx;clear hx hsx
 go_enter func15,ntmps15
 go_wp2_with fail;refine(eH _ xs _ Hx.u hlx Sx.u).mono ?_;rintro e w1 ⟨v1,rfl,a,c⟩;obtain⟨o1,d1,rfl⟩:=a.form;obtain⟨ps,b,a⟩:=a;have m:ps.length=xs.length:=by rw[<-b,List.length_map]
 have g:=ae a;have h:=ae b;have j:=c.size;clear a b
 go_wp2_with (at_builtin;refine js ⟨4,[],lo,hi⟩ (.slice none 0 0) (fun _=>False) rfl _ _ rfl rfl rfl g.u j (Below.refl _ _) (ir.none _) (fun k hk=>hk.elim) rfl ⟨rfl,rfl,rfl,rfl⟩ (by omega) ?_)
 intro v4 w4 d l;have f:Hi (aP w.heap.size w4 v4 (xs++[⟨4,[],lo,hi⟩])):=⟨_,by simp[h.u],d⟩;clear d;go_wp2;go_ret;exact⟨_,rfl,f.u,c.trans l⟩
theorem aP.lit(w:World):aP w.heap.size (w.alloc (.cells #[.int .i64 0,.slice none 0 0,.int .i64 0,.int .i64 0] 65)) (.slice (some ⟨w.heap.size,0,none⟩) 1 1) [⟨0,[],0,0⟩]:=by
 refine⟨[⟨⟨0,[],0,0⟩,.slice none 0 0,fun _=>False⟩],rfl,World.ownsRow_lit w _ 1 lR (by unfold maxLen;omega) rfl,fun p hp=>?_,fun p hp k hk=>?_,List.pairwise_singleton _ _⟩
 ·obtain rfl:=List.mem_singleton.1 hp;exact ir.none _
 obtain rfl:=List.mem_singleton.1 hp;exact hk.elim
theorem kW(w:World):Calls prog 61 #[] w fun e w'=>∃ v',e=.returned v'/\aP w.heap.size w' v' [⟨0,[],0,0⟩]/\Below w.heap.size w w':=by
 have hl:=ae (aP.lit w)
 go_enter func61,ntmps61
 go_wp2;go_ret;exact⟨_,rfl,hl.u,ai w _⟩
structure aY (xs:List El):Prop where
 num:Gd xs
 len:∀ i:Nat,(xs[i]?.getD dE).set.length<=1048576
theorem aY.nil:aY []:=⟨fun i=>by simp[dE,az],fun i=>by simp[dE]⟩
theorem aY.app{a b:List El}(ha:aY a)(hb:aY b):aY (a++b):=by
 refine⟨fun i=>?_,fun i=>?_⟩
 ·by_cases h:i<a.length
  ·rw[List.getElem?_append_left h];exact ha.num i
  rw[List.getElem?_append_right (by omega)];exact hb.num _
 by_cases h:i<a.length
 ·rw[List.getElem?_append_left h];exact ha.len i
 rw[List.getElem?_append_right (by omega)];exact hb.len _
theorem aY.op(k mn mx:Int)(h1:az k)(h2:az mn)(h3:az mx):aY [⟨k,[],mn,mx⟩]:=by
 refine⟨fun i=>?_,fun i=>?_⟩
 ·cases i with
  | zero=>exact⟨h1,h2,h3,fun j=>by simp[az]⟩
  | succ i=>simp[dE,az]
 cases i with
 | zero=>simp
 | succ i=>simp[dE]
theorem aP.els{base:Nat}{w:World}{v:Value}{xs:List El}(h:aP base w v xs)(hn:aY xs):aA 0 w.heap.size w v xs:=h.foot.at (fun _ hk=>hk.2) hn.num
def vV(l L:List El):Prop:=∀ (v:Value) (w:World),aA 0 w.heap.size w v l->l.length<=3000->Calls prog 104 #[v] w fun e w'=>∃ v',e=.returned v'/\aP w.heap.size w' v' L/\Below w.heap.size w w'
theorem sU(x:El)(hk:x.kind=0∨x.kind=1)(hs:x.set.length<=1048576):vV [x] [x]:=by
 intro v w hv l;have h:=hv;obtain⟨a,cp,rfl,-,-⟩:=id hv;obtain⟨k,m,b,off,rfl,n,j⟩:=aA.last (p:=[]) hv;simp only[List.length_singleton,List.length_nil,Nat.zero_mul,Nat.add_zero]at j hv h ⊢;obtain⟨i1,i2,i3,sv,c0,c1,c2,c3,c⟩:=j;obtain⟨sa,sc,rfl,-,-,-⟩:=id c;have Hv:=ae (hv.below (ai w (.cells #[.int .i64 x.kind,.slice sa x.set.length sc,.int .i64 x.mn,.int .i64 x.mx] 65)) lR);have Hs:Hi (∀ i:Nat,(([x]:List El)[i]?.getD dE).set.length<=1048576):=fun i=>by
  cases i with
  | zero=>exact hs
  | succ i=>simp[dE]
 clear hv h c i1 i2 i3;rcases hk with hk|hk
 ·rw[hk]at c0;have Hk:=ae hk;rw[hk]at Hv;clear hk
  go_enter func104,ntmps104
  go_wp2_with fail;refine(eH _ [x] _ Hv.u (by simp) Hs.u).mono ?_;rintro e w1 ⟨v1,rfl,d,f⟩;have hB:Below w.heap.size w w1:=(ai w _).trans (f.mono (by rw[ah];omega));have g:Hi (aP w.heap.size w1 v1 [x]):=d.base (by rw[ah];omega);clear d;go_wp2;go_ret;exact⟨_,rfl,g.u,hB⟩
 rw[hk]at c0;have Hk:=ae hk;rw[hk]at Hv;clear hk
 go_enter func104,ntmps104
 go_wp2_with fail;refine(eH _ [x] _ Hv.u (by simp) Hs.u).mono ?_;rintro e w1 ⟨v1,rfl,d,f⟩;have hB:Below w.heap.size w w1:=(ai w _).trans (f.mono (by rw[ah];omega));have g:Hi (aP w.heap.size w1 v1 [x]):=d.base (by rw[ah];omega);clear d;go_wp2;go_ret;exact⟨_,rfl,g.u,hB⟩
theorem uE(k:Int)(hk:k=2∨k=3)(l r L R:List El)(cl cr:Int)(sl:ba l cl)(sr:ba r cr)(Hl:vV l L)(Hr:vV r R)(nl:aY L)(nr:aY R)(ll:L.length<=3000)(lr:R.length<=3000):vV (l++r++[⟨k,[],0,0⟩]) (L++R++[⟨k,[],0,0⟩]):=by
 intro v w hv p;have c:=hv;obtain⟨a,cp,rfl,-,-⟩:=id hv;obtain⟨d,f,b,off,rfl,I,q⟩:=hv.last;rw[d]at hv c f ⊢;simp only[List.length_append,List.length_singleton]at hv c p d q f ⊢;unfold maxLen at f;obtain⟨i1,i2,i3,sv,c0,c1,c2,c3,g⟩:=q;obtain⟨sa,sc,rfl,-,-,-⟩:=id g;simp only at c0 c2 c3;clear d i1 i2 i3 g;have e1:(((l.length+r.length+1:Nat):Int)-1)=((l.length+r.length:Nat):Int):=by omega
 have pl:=sl.ne;have pr:=sr.ne;have s:aA 0 w.heap.size w (.slice (some ⟨b,off,none⟩) l.length cp) (l):=by rw[List.append_assoc]at c;exact c.pre
 have t:=c.mid (cap':=cp-l.length) (by unfold maxLen;omega);have C:=ae s;have D:=ae t;have E:=ae c;have NL:=ae nl;have NR:=ae nr;clear s t hv c nl nr;rcases hk with rfl|rfl
 all_goals
  go_enter func104,ntmps104
  go_wp2_with fail;refine(di _ l r cr _ _ _ sr (by exact E.u.below (ai w _) lR) (by omega) rfl).mono ?_;rintro e w1 ⟨rfl,rfl⟩
  go_wp2_with fail;refine(Hl _ _ (by exact C.u.below (ai w _) lR) (by omega)).mono ?_;rintro e w1 ⟨v1,rfl,i,j⟩;obtain⟨o1,d1,rfl⟩:=i.form;have m:Below w.heap.size w w1:=(ai w _).trans (j.mono (by rw[ah];omega));have F:=ae i;have x:=ae j;clear j i
  go_wp2_with fail;refine(Hr _ _ (by exact D.u.below m lR) (by omega)).mono ?_;rintro e w2 ⟨v2,rfl,n,h⟩;obtain⟨o2,d2,rfl⟩:=n.form;have o:Below w.heap.size w w2:=m.trans (h.mono m.size);have hX:=ae ((F.u.keep h lR).els NL.u);have hY:=ae (n.els NR.u);have y:=x.u.size;obtain⟨z,-⟩:=cu (x.u.trans (h.mono y));simp only[ah]at z;clear h n y
  go_wp2_with fail;refine(pA _ _ _ L R _ hX.u hY.u (by omega) (by omega) NL.u.len NR.u.len).mono ?_;rintro e w3 ⟨v3,rfl,A,B⟩;have G:=ae (A.base o.size);have H:Below w.heap.size w w3:=o.trans (B.mono o.size);clear A B z;go_wp2;go_ret;exact⟨_,rfl,G.u,H⟩
structure Pt where
 P:List El
 s:Value
 T:Nat->Prop
theorem Tryz.zinOpS:(prog.info? 23).map (fun i=>(i.zero,i.size,i.bytes))=some (some (.slice none 0 0),1,24):=by kernel_rfl
structure jp (base:Nat) (w:World) (v:Value) (ps:List Pt):Prop where
 own:w.ownsRow base 23 1 v ps.length (ps.map Pt.s)
 els:∀ p∈ps,kX p.T w p.s p.P
 blk:∀ p∈ps,∀ k,p.T k->k<w.heap.size/\v.ownBlock≠some k
theorem jp.nil(base:Nat)(w:World):jp base w (.slice none 0 0) []:=⟨World.ownsRow_nil _ _ _ _,by simp,by simp⟩
theorem kX.one{S:Nat->Prop}{w:World}{v:Value}{xs:List El}(h:kX S w v xs):v.oneCell'=true:=by
 obtain⟨a,cap,rfl,-⟩:=h
 rfl
theorem ig{base:Nat}{wr w1 W:World}{ops:Array Oper}{rest:List Oper}{o:Oper}{a:Act}{Q:Exit->Act->World->Prop}{v:Value}{ps:List Pt}(p:Pt)(hgd:o.guard=none)(s y:Operand)
  (ho:o.op=.call { callee:=.builtin .append,args:=#[s,y],argTypes:=#[63,63] })(hs:a.eval s=v)(hy:a.eval y=.slice (some ⟨w1.heap.size,0,none⟩) 1 1)
  (h:jp base wr v ps)(hbase:base<=wr.heap.size)(hb:Below wr.heap.size wr w1)(hE:kX p.T w1 p.s p.P)(hT:∀ k,p.T k->k<w1.heap.size/\v.ownBlock≠some k)
  (hP:aH w1 W (.cells #[p.s] 23))(hlen:ps.length<=16777216)
  (K:∀ v' w',jp base w' v' (ps++[p])->Below base wr w'->wpList prog ops Q rest (a.put o.dst v') w'):wpList prog ops Q (o::rest) a W:=by
 obtain⟨j0,hj,f,g,i⟩:=info_parts Tryz.zinOpS;have d:=hP.own (aG h.own hb lR);have hz:=hb.size;have hZ:=hP.size;refine wpList_append_own_at W hgd s y 63 ho base 23 j0 (.slice none 0 0) 1 24 underlying63 hj f g i rfl (by decide) v ps.length (ps.map Pt.s) hs d ⟨w1.heap.size,0,none⟩ 1 1 [p.s] hy rfl ?_ ?_ ?_ ?_ ?_ ?_
 ·exact aH.news hP
 ·intro u hu;obtain rfl:=List.mem_singleton.1 hu;exact hE.one
 ·unfold maxLen;omega
 ·omega
 ·omega
 intro v' w' q1 q2 _ q3;have j:W.heap.size<=w'.heap.size:=q2.size;have b:∀ k,k<W.heap.size->v.ownBlock≠some k->v'.ownBlock≠some k:=fun k hk hne e=>by
  rcases q3 with ho|ho
  ·exact hne (by rw[<-ho,e])
  rw[ho]at e;simp at e;omega
 have c:∀ k,k<W.heap.size->v.ownBlock≠some k->w'.heap[k]?=W.heap[k]? :=fun k hk hne=>q2.block k hk (fun e=>hne e.symm)
 have hB:Below wr.heap.size wr W:=hb.trans (hP.below.mono hb.size);refine K v' w' ⟨by rw[List.length_append,List.map_append];exact q1,fun q hq=>?_,fun q hq k hk=>?_⟩ ((hB.mono hbase).grown q2 (by omega) (fun k hk=>(h.own.lt k hk).1))
 ·rcases List.mem_append.1 hq with hq|hq
  ·refine((h.els q hq).same (w':=W) (fun k hk=>hB.block k (h.blk q hq k hk).1)).same (fun k hk=>?_)
   have:=h.blk q hq k hk;exact c k (by omega) this.2
  obtain rfl:=List.mem_singleton.1 hq;refine(hE.same (w':=W) (fun k hk=>hP.old (hT k hk).1)).same (fun k hk=>?_)
  have:=hT k hk;exact c k (by omega) this.2
 rcases List.mem_append.1 hq with hq|hq
 ·have:=h.blk q hq k hk;exact⟨by omega,b k (by omega) this.2⟩
 obtain rfl:=List.mem_singleton.1 hq;have:=hT k hk;exact⟨by omega,b k (by omega) this.2⟩
def lJ:El:=⟨2,[],0,0⟩
def jn:List (List El)->List El
 | []=>[]
 | p::r=>r.foldl (fun acc q=>acc++q++[lJ]) p
theorem pC{ps:List (List El)}(h:ps≠[])(q:List El):jn (ps++[q])=jn ps++q++[lJ]:=by
 cases ps with
 | nil=>exact absurd rfl h
 | cons p r=>simp[jn,List.foldl_append]
def qx(X:List El):List El:=X++[⟨0,[],0,0⟩]++[⟨3,[],0,0⟩]
def bJ(X:List El)(mn mx:Int):List (List El):=
 if mx = -1 then List.replicate (mn-1).toNat X++[X++[⟨4,[],if 1<mn then 1 else mn,-1⟩]]
 else List.replicate mn.toNat X++List.replicate (mx-mn).toNat (qx X)
def mH(X:List El)(mn mx:Int):List El:=if mx=0 then [⟨0,[],0,0⟩] else jn (bJ X mn mx)
theorem xS(mn:Int)(x X:List El)(cx:Int)(sx:ba x cx)(Hx:vV x X):vV (x++[⟨4,[],mn,0⟩]) [⟨0,[],0,0⟩]:=by
 intro v w hv i;obtain⟨a,cp,rfl,-,-⟩:=id hv;obtain⟨c,d,b,off,rfl,s,j⟩:=hv.last;rw[c]at hv d ⊢;simp only[List.length_append,List.length_singleton]at hv i c j d ⊢;unfold maxLen at d;obtain⟨i1,i2,i3,sv,c0,c1,c2,c3,f⟩:=j;obtain⟨sa,sc,rfl,-,-,-⟩:=id f;simp only at c0 c2 c3;clear c i1 i2 i3 f;have pl:=sx.ne;have k:aA 0 w.heap.size w (.slice (some ⟨b,off,none⟩) x.length cp) x:=hv.pre;have o:=ae k;clear k hv
 go_enter func104,ntmps104
 go_wp2_with fail;refine(Hx _ _ (by exact o.u.below (ai w _) lR) (by omega)).mono ?_;rintro e w1 ⟨v1,rfl,p,g⟩;have h:Below w.heap.size w w1:=(ai w _).trans (g.mono (by rw[ah];omega));obtain⟨l,-⟩:=cu g;simp only[ah]at l;clear g p
 go_wp2_with fail;refine(kW _).mono ?_;rintro e w2 ⟨v2,rfl,m,n⟩;have q:=ae (m.base h.size);have r:Below w.heap.size w w2:=h.trans (n.mono h.size);clear m n l;go_wp2;go_ret;exact⟨_,rfl,q.u,r⟩
end Go.Proofs.YtidfkbghlkcbeaaGreatDoor
