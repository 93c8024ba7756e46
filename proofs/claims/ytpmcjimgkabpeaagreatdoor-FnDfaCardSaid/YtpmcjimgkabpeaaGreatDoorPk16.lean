import Derived.Test.YtpmcjimgkabpeaaGreatDoorPk9
import Derived.Test.YtpmcjimgkabpeaaGreatDoorPk11
namespace Go.Proofs.YtpmcjimgkabpeaaGreatDoor
open Go.RowKit Go.Proofs.Tryz
set_option maxHeartbeats 16000000
set_option maxRecDepth 100000
theorem ur(xs:List Int)(k b:Nat):nm xs k b=true↔∃ j:Nat,j<k/\xs[2*j]?.getD 0<=(b:Int)/\(b:Int)<=xs[2*j+1]?.getD 0:=by
 induction k with
 | zero=>simp[nm]
 | succ k ih =>
  simp only[nm,Bool.or_eq_true,decide_eq_true_eq,ih]
  constructor
  ·rintro(⟨j,h1,h2⟩|h)
   ·exact⟨j,by omega,h2⟩
   exact⟨k,by omega,h⟩
  rintro⟨j,h1,h2⟩
  by_cases e:j=k
  ·subst e;exact Or.inr h2
  exact Or.inl ⟨j,by omega,h2⟩
theorem tu{xs:List Int}(h:cU xs)(j:Nat):∀ d:Nat,2*(j+d+1)<xs.length->xs[2*j+1]?.getD 0+2<=xs[2*(j+d+1)]?.getD 0:=by
 intro d
 induction d with
 | zero =>
  intro hlt;have h1:=(h.2.2 (j+1) (by omega)).2 (by omega);rw[show 2*(j+1)-1=2*j+1 by omega]at h1;rw[show j+0+1=j+1 by omega];omega
 | succ d ih =>
  intro hlt;have h0:=ih (by omega);have h1:=(h.2.2 (j+d+1+1) (by omega)).2 (by omega);have h2:=(h.2.2 (j+d+1) (by omega)).1;rw[show 2*(j+d+1+1)-1=2*(j+d+1)+1 by omega]at h1;rw[show j+(d+1)+1=j+d+1+1 by omega];omega
def cut(xs:List Int)(m b:Nat):List Int:=(xs.take (2*m)).set (2*m-1) (min (xs[2*m-1]?.getD 0) ((b:Int)-1))
theorem Bl(a i:Nat)(ha:a<18446744073709551616):(bits .and .u64 ((a:Int) / 2 ^ i) 1==1)=a.testBit i:=by
 have h1:(a:Int) / 2 ^ i=((a / 2 ^ i:Nat):Int):=by rw[Int.natCast_ediv,Int.natCast_pow];rfl
 have h2:a / 2 ^ i<18446744073709551616:=Nat.lt_of_le_of_lt (Nat.div_le_self _ _) ha;rw[h1,show(1:Int)=((1:Nat):Int) from rfl,bits_and_u64_nat _ _ h2 (by omega),Nat.and_one_is_mod,Nat.testBit_eq_decide_div_mod_eq]
 by_cases e:a / 2 ^ i%2=1
 ·simp[e]
 have e0:a / 2 ^ i%2=0:=by omega
 simp[e0]
theorem Ez(g:Nat->Nat)(b:Nat)(w:World)(hg:Fit g)(hb:b<256) :
  Calls prog 118 #[fZ g,.int .i64 b] w fun e w'=>e=.returned (.bool (Bt g b))/\Below w.heap.size w w':=by
 unfold fZ;have c:Hi ((bits .and .u64 ((g (b / 64):Int) / 2 ^ (b%64)) 1==1)=Bt g b):=Bl _ _ (hg _);have a:=ir w 88 g;have hq:b / 64<4:=by omega
 have c0:=a.cell hq;have d:(b:Int) / 64<4:=by omega
 have f:0<=(b:Int) / 64:=by omega
 clear a hg
 go_enter func118,ntmps118
 go_wp2;go_ret;exact⟨zv c.u,ai w _⟩
theorem zL{xs:List Int}(h:cU xs):∀ j:Nat,2*j<xs.length->2*(j:Int)<=xs[2*j]?.getD 0:=by
 intro j
 induction j with
 | zero=>intro hlt;have:=(h.2.1 0 hlt).1;simpa using this
 | succ j ih =>
  intro hlt;have h1:=ih (by omega);have h2:=(h.2.2 j (by omega)).1;have h3:=tu h j 0 (by omega);rw[show j+0+1=j+1 by omega]at h3;omega
theorem Tryz.zinOp:(prog.info? 70).map (fun i=>(i.zero,i.size,i.bytes))=some (some (.agg #[.int .i64 0,.slice none 0 0,.int .i64 0,.int .i64 0]),4,48):=by kernel_rfl
theorem dH.app1{base:Nat}{wr w1 W w':World}{v v':Value}{ps:List Pc}{x:El}{s:Value}{T:Nat->Prop}{o:Obj}(h:dH base wr v ps)(hbase:base<=wr.heap.size)(hb:Below wr.heap.size wr w1)(hs:ij mI 0 T w1 s x.set)(hT:∀ k,T k->wr.heap.size<=k/\k<w1.heap.size)(hP:aK w1 W o)
  (h1:w'.ownsRow base 70 4 v' (ps.length+1) (bU ps++eH x s))(hg:W.grownBy w' v.ownBlock)(ho:v'.ownBlock=v.ownBlock∨v'.ownBlock=some W.heap.size):dH base w' v' (ps++[⟨x,s,T⟩])/\Below base wr w':=by
 have hB:Below wr.heap.size wr W:=hb.trans (hP.below.mono hb.size);refine⟨h.app (qs:=[⟨x,s,T⟩]) hbase hB (fun p hp=>?_) (fun p hp k hk=>?_) (List.pairwise_singleton _ _) (by simpa[bU]using h1) hg ho,(hB.mono hbase).grown hg (by have:=hB.size;omega) (fun k hk=>(h.own.lt k hk).1)⟩
 ·obtain rfl:=List.mem_singleton.1 hp;exact hs.same (fun k hk=>hP.old (hT k hk).2)
 obtain rfl:=List.mem_singleton.1 hp;have:=hT k hk;have:=hP.size;exact⟨(hT k hk).1,by omega⟩
def ul(base:Nat)(w:World)(ps:List Pc):Prop:=∀ p∈ps,w.ownsRow base 3 1 p.s p.x.set.length (p.x.set.map mI)/\∀ k,p.s.ownBlock=some k->p.T k
def gy(base:Nat)(w:World)(v:Value)(xs:List El):Prop:=∃ ps:List Pc,ps.map Pc.x=xs/\dH base w v ps/\ul base w ps
theorem gy.nil(base:Nat)(w:World):gy base w (.slice none 0 0) []:=⟨[],rfl,⟨World.ownsRow_nil _ _ _ _,by simp,by simp,List.Pairwise.nil⟩,fun p hp=>by cases hp⟩
theorem ul.app1{base:Nat}{wr w1 W w':World}{v:Value}{ps:List Pc}{x:El}{s:Value}{o:Obj}(hS:ul base wr ps)(h:dH base wr v ps)(hbase:base<=wr.heap.size)(hb:Below wr.heap.size wr w1)(hs:w1.ownsRow wr.heap.size 3 1 s x.set.length (x.set.map mI))(hP:aK w1 W o)(hg:W.grownBy w' v.ownBlock):ul base w' (ps++[⟨x,s,kJ wr.heap.size w1.heap.size⟩]):=by
 have hB:Below wr.heap.size wr W:=hb.trans (hP.below.mono hb.size);intro p hp;rcases List.mem_append.1 hp with hp|hp
 ·obtain⟨h1,h2⟩:=hS p hp;refine⟨(aG h1 hB lR).kept hg ?_,h2⟩;cases hk:p.s.ownBlock with
  | none=>exact .inl rfl
  | some k=>exact .inr (fun e=>(h.blk p hp k (h2 k hk)).2.2 e.symm)
 obtain rfl:=List.mem_singleton.1 hp;refine⟨(aS (aG hs hP.below lR) hbase).kept hg ?_,fun k hk=>hs.lt k hk⟩;cases hk:s.ownBlock with
 | none=>exact .inl rfl
 | some k =>
  refine .inr (fun e=>?_)
  have h1:=(hs.lt k hk).1;have h2:=(h.own.lt k e.symm).2;omega
theorem qN(v:Value)(xs:List El)(w:World)(hv:az 0 w.heap.size w v xs)(hlen:xs.length<=1048576)(hset:∀ i:Nat,(xs[i]?.getD dE).set.length<=1048576) :
  Calls prog 69 #[v] w fun e w'=>∃ v',e=.returned v'/\gy w.heap.size w' v' xs/\Below w.heap.size w w':=by
 obtain⟨a,cap,rfl,hl,hc⟩:=hv;obtain⟨i0,hi,U,V,X⟩:=info_parts Tryz.zinInt;obtain⟨j0,hj,D,E,F⟩:=info_parts Tryz.zinOp;have z:=ae hset;clear hset
 go_enter func69,ntmps69
 go_wp2
 go_loopw [3,4] (fun ov i wr=>∃ k:Nat,k<=xs.length/\i=.int .i64 k/\gy w.heap.size wr ov (xs.take k)/\Below w.heap.size w wr) (fun _ i _=>xs.length-(intOf i).toNat)
 case atStart=>exact⟨0,Nat.zero_le _,rfl,gy.nil _ _,Below.refl _ _⟩
 obtain⟨k,hk,rfl,h,hb⟩:=hrel;have j:=hb.size
 by_cases hlt:k<xs.length
 ·obtain⟨b,off,rfl,-,G,A⟩:=hc (by omega);obtain⟨i1,i2,i3,sv,c0,c1,c2,c3,d⟩:=(A k hlt).same (ew.of_below hb lR) (Nat.zero_le _) G;have H:=z.u k;have I:=ae (cK hlt);have J:=ae (pA (d.mono lR hb.size));generalize xs[k]?.getD dE=x at *;obtain⟨sa,sc,rfl,-,-,-⟩:=id d;obtain⟨ps,l,m,B⟩:=h;have K:=ae B;have L:=ae l;have n:=ae m;have M:ps.length=k:=by
   have:=congrArg List.length l;rw[List.length_map,List.length_take]at this;omega
  subst M;obtain⟨oa,oc,rfl⟩:=aj m.own;have R:(ps.length:Int)<(xs.length:Int):=by omega
  have q:b<wr.heap.size:=by omega
  clear A hc d i1 i2 i3 l m B
  go_wp2_with (at_builtin;refine jL rfl _ _ rfl rfl _ rfl x.set J.u H ?_)
  intro sv' w1 f r Y;have s:=bP r (lo:=wr.heap.size) lR (by unfold maxLen;omega);have N:=ae r;have d0:w1.cell? ⟨b,off+ps.length*4,none⟩=some (.int .i64 x.kind):=by rw[f.cell (p:=⟨b,off+ps.length*4,none⟩) q];exact c0
  have d2:w1.cell? ⟨b,off+ps.length*4+2,none⟩=some (.int .i64 x.mn):=by rw[f.cell (p:=⟨b,off+ps.length*4+2,none⟩) q];exact c2
  have d3:w1.cell? ⟨b,off+ps.length*4+3,none⟩=some (.int .i64 x.mx):=by rw[f.cell (p:=⟨b,off+ps.length*4+3,none⟩) q];exact c3
  have O:=ae s;obtain⟨sa',sc',rfl⟩ : ∃ a c,sv'=.slice a x.set.length c:=by obtain⟨a,c,e,-⟩:=s;exact⟨a,c,e⟩
  clear s r c0 c1 c2 c3;have y:=ae (aG n.u.own f lR);have S:=f.size;have P:Hi (∀ (W w':World) (v':Value) (o:Obj),aK w1 W o->w'.ownsRow w.heap.size 70 4 v' (ps.length+1) (bU ps++eH x (.slice sa' x.set.length sc'))->W.grownBy w' (Value.slice oa ps.length oc).ownBlock->(v'.ownBlock=(Value.slice oa ps.length oc).ownBlock∨v'.ownBlock=some W.heap.size)->gy w.heap.size w' v' (xs.take (ps.length+1))/\Below w.heap.size wr w'):=fun W w' v' o hP q1 q2 q3=>by
   obtain⟨r1,r2⟩:=n.u.app1 (T:=kJ wr.heap.size w1.heap.size) j f O.u.foot (fun k hk=>hk) hP q1 q2 q3;exact⟨⟨_,by rw[List.map_append,L.u,I.u];rfl,r1,K.u.app1 n.u j f N.u hP q2⟩,r2⟩
  have C:Hi (∀ u∈eH x (.slice sa' x.set.length sc'),u.oneCell'=true):=fun u hu=>by
   simp only[eH,List.mem_cons,List.not_mem_nil,or_false]at hu;rcases hu with rfl|rfl|rfl|rfl<;>rfl
  go_wp2
  go_region_law (refine step_append_lies _ rfl (.tmp 19) (.tmp 37) 23 rfl w.heap.size 70 j0 (.agg #[.int .i64 0,.slice none 0 0,.int .i64 0,.int .i64 0]) 4 48 underlying23 hj D E F rfl (by decide) (.slice oa ps.length oc) ps.length (bU ps) (by simp[Act.eval]) (by refine aK.own (w:=w1) (o:=.cells #[.int .i64 x.kind,.slice sa' x.set.length sc',.int .i64 x.mn,.int .i64 x.mx] 70) ?_ y.u;exact⟨rfl,rfl,rfl,rfl⟩) ⟨w1.heap.size,0,none⟩ 1 1 (eH x (.slice sa' x.set.length sc')) (by simp[Act.eval]) rfl (by refine aK.news (w:=w1) (cs:=#[.int .i64 x.kind,.slice sa' x.set.length sc',.int .i64 x.mn,.int .i64 x.mx]) (t:=70) ?_;exact⟨rfl,rfl,rfl,rfl⟩) C.u (by decide) (by unfold maxLen;omega) (by omega) (by show w.heap.size<=(w1.alloc _).heap.size;rw[ah];omega) (w1.heap.size+1) (ah w1 _) (fun g cap' w' q1 q2 q3 q4=>?_);have hs:=ae (P.u _ w' (.slice (some ⟨g,0,none⟩) (ps.length+1) cap') (.cells #[.int .i64 x.kind,.slice sa' x.set.length sc',.int .i64 x.mn,.int .i64 x.mx] 70) (by exact⟨rfl,rfl,rfl,rfl⟩) q1 q2 (q3.elim (fun e=>Or.inl e.symm) (fun e=>Or.inr (by subst e;simp[Value.ownBlock]))));clear q1 q2 q3 q4)
  all_goals
   go_wp2;exact⟨⟨ps.length+1,by omega,by go_num,hs.u.1,hb.trans hs.u.2⟩,by simp[intOf];omega⟩
 obtain rfl:k=xs.length:=by omega
 rw[List.take_length]at h;have Q:=ae h;clear hc h;go_wp2;go_ret;exact⟨_,rfl,Q.u,hb⟩
theorem eI(v:Value)(xs:List El)(w:World)(hv:az 0 w.heap.size w v xs)(hlen:xs.length<=1048576)(hset:∀ i:Nat,(xs[i]?.getD dE).set.length<=1048576) :
  Calls prog 69 #[v] w fun e w'=>∃ v',e=.returned v'/\aQ w.heap.size w' v' xs/\Below w.heap.size w w':=
 (qN v xs w hv hlen hset).mono (fun _ _ ⟨v',he,⟨ps,e1,h1,_⟩,hb⟩=>⟨v',he,⟨ps,e1,h1⟩,hb⟩)
theorem ij.none(w:World):ij mI 0 (fun _=>False) w (.slice none 0 0) []:=⟨0,0,⟨.none,0,rfl,Nat.zero_le _,fun h=>absurd h (by simp)⟩,fun k h1 h2=>by omega⟩
theorem iZ{base:Nat}{wr w1 W:World}{ops:Array Oper}{rest:List Oper}{o:Oper}{a:Act}{Q:Exit->Act->World->Prop}{v:Value}{ps:List Pc}(x:El)(sv:Value)(T:Nat->Prop)(hgd:o.guard=none)(s y:Operand)
  (ho:o.op=.call { callee:=.builtin .append,args:=#[s,y],argTypes:=#[23,23] })(hs:a.eval s=v)(hy:a.eval y=.slice (some ⟨w1.heap.size,0,none⟩) 1 1)
  (h:dH base wr v ps)(hbase:base<=wr.heap.size)(hb:Below wr.heap.size wr w1)(hsl:ij mI 0 T w1 sv x.set)(hT:∀ k,T k->wr.heap.size<=k/\k<w1.heap.size)(h1c:sv.oneCell'=true)
  (hP:aK w1 W (.cells #[.int .i64 x.kind,sv,.int .i64 x.mn,.int .i64 x.mx] 70))(hlen:ps.length<=16777216)
  (K:∀ v' w',dH base w' v' (ps++[⟨x,sv,T⟩])->Below base wr w'->wpList prog ops Q rest (a.put o.dst v') w'):wpList prog ops Q (o::rest) a W:=by
 obtain⟨j0,hj,c,d,e⟩:=info_parts Tryz.zinOp;have b:=hP.own (aG h.own hb lR);refine wpList_append_own_at W hgd s y 23 ho base 70 j0 (.agg #[.int .i64 0,.slice none 0 0,.int .i64 0,.int .i64 0]) 4 48 underlying23 hj c d e rfl (by decide) v ps.length (bU ps) hs b ⟨w1.heap.size,0,none⟩ 1 1 (eH x sv) hy rfl ?_ ?_ ?_ ?_ ?_ ?_
 ·exact aK.news hP
 ·intro u hu;simp only[eH,List.mem_cons,List.not_mem_nil,or_false]at hu;rcases hu with rfl|rfl|rfl|rfl
  ·rfl
  ·exact h1c
  ·rfl
  rfl
 ·unfold maxLen;omega
 ·omega
 ·have:=hP.size;have:=hb.size;omega
 intro v' w' q1 q2 _ q3;obtain⟨r1,r2⟩:=h.app1 hbase hb hsl hT hP q1 q2 q3;exact K v' w' r1 r2
theorem lC{base:Nat}{wr W:World}{ops:Array Oper}{rest:List Oper}{o:Oper}{a:Act}{Q:Exit->Act->World->Prop}{v u:Value}{ps qs:List Pc}(hgd:o.guard=none)(s y:Operand)
  (ho:o.op=.call { callee:=.builtin .append,args:=#[s,y],argTypes:=#[23,23] })(hs:a.eval s=v)(hy:a.eval y=u)
  (h:dH base wr v ps)(hbase:base<=wr.heap.size)(hb:Below wr.heap.size wr W)(hq:dH wr.heap.size W u qs)(hq1:∀ p∈qs,p.s.oneCell'=true)(hlen:ps.length<=16777216)(hlen2:qs.length<=16777216)
  (K:∀ v' w',dH base w' v' (ps++qs)->Below base wr w'->wpList prog ops Q rest (a.put o.dst v') w'):wpList prog ops Q (o::rest) a W:=by
 obtain⟨j0,hj,d,e,f⟩:=info_parts Tryz.zinOp;have b:=aG h.own hb lR;rcases hq.own.2 with ⟨rfl,hz⟩|⟨g,cap,cur,rfl,l,m,n,q,r,i⟩
 ·obtain rfl:qs=[]:=List.eq_nil_of_length_eq_zero hz;refine bk hgd s y 23 ho base 70 j0 4 underlying23 hj v ps.length (bU ps) hs b 0 hy (K v W ?_ (hb.mono hbase));rw[List.append_nil];exact h.keep hb lR
 refine wpList_append_own_at W hgd s y 23 ho base 70 j0 (.agg #[.int .i64 0,.slice none 0 0,.int .i64 0,.int .i64 0]) 4 48 underlying23 hj d e f rfl (by decide) v ps.length (bU ps) hs b ⟨g,0,none⟩ qs.length cap (bU qs) hy (mj qs) ?_ (tn qs hq1) ?_ ?_ ?_ ?_
 ·intro j y c;have e3:(⟨g,0,none⟩ : Addr).add j=⟨g,j,none⟩:=by cases j<;>simp[Addr.add]
  rw[e3,hq.own.cellAt j (by have:=(List.getElem?_eq_some_iff.1 c).1;rw[mj]at this;exact this)];exact c
 ·unfold maxLen;omega
 ·omega
 ·have:=hb.size;omega
 intro v' w' q1 q2 _ q3;exact K v' w' (h.app hbase hb hq.set (fun p hp k hk=>⟨(hq.blk p hp k hk).1,(hq.blk p hp k hk).2.1⟩) hq.dis q1 q2 q3) ((hb.mono hbase).grown q2 (by have:=hb.size;omega) (fun k hk=>(h.own.lt k hk).1))
theorem Pc.one{w:World}{p:Pc}(h:ij mI 0 p.T w p.s p.x.set):p.s.oneCell'=true:=by
 obtain⟨a,c,e⟩:=h.val;rw[e];rfl
theorem pY(k:Int)(vx vy:Value)(xs ys:List El)(w:World)(hx:az 0 w.heap.size w vx xs)(hy:az 0 w.heap.size w vy ys)(hlx:xs.length<=1048576)(hly:ys.length<=1048576)(hsx:∀ i:Nat,(xs[i]?.getD dE).set.length<=1048576)(hsy:∀ i:Nat,(ys[i]?.getD dE).set.length<=1048576) :
  Calls prog 105 #[.int .i64 k,vx,vy] w fun e w'=>∃ v',e=.returned v'/\aQ w.heap.size w' v' (xs++ys++[⟨k,[],0,0⟩])/\Below w.heap.size w w':=by
 obtain⟨a1,c1,rfl,-,-⟩:=id hx;obtain⟨a2,c2,rfl,-,-⟩:=id hy;have Hx:=ae hx;have Hy:=ae hy;have Sx:=ae hsx;have Sy:=ae hsy;clear hx hy hsx hsy
 go_enter func105,ntmps105
 go_wp2_with fail;refine(eI _ xs _ Hx.u hlx Sx.u).mono ?_;rintro e w1 ⟨v1,rfl,a,c⟩;obtain⟨o1,d1,rfl⟩:=a.form;obtain⟨ps,d,a⟩:=a;have z:ps.length=xs.length:=by rw[<-d,List.length_map]
 have n:=ae a;have o:=ae d;have q:=c.size;clear a d
 go_wp2_with fail;refine(eI _ ys _ (by exact Hy.u.below c lR) hly Sy.u).mono ?_;rintro e w2 ⟨v2,rfl,b,r⟩;obtain⟨o2,d2,rfl⟩:=b.form;obtain⟨qs,f,b⟩:=b;have A:qs.length=ys.length:=by rw[<-f,List.length_map]
 have h:=ae b;have s:=ae f;clear b f
 go_wp2_with (at_builtin;refine lC rfl _ _ rfl rfl rfl n.u q r h.u (fun p hp=>Pc.one (h.u.set p hp)) (by omega) (by omega) ?_)
 intro v3 w3 g t;obtain⟨o3,d3,rfl⟩:=aj g.own;have v:=ae g;have j:Below w.heap.size w w3:=c.trans t;have x:=j.size;clear g
 go_wp2_with (at_builtin;refine iZ ⟨k,[],0,0⟩ (.slice none 0 0) (fun _=>False) rfl _ _ rfl rfl rfl v.u x (Below.refl _ _) (ij.none _) (fun k hk=>hk.elim) rfl ⟨rfl,rfl,rfl,rfl⟩ (by rw[List.length_append];omega) ?_)
 intro v4 w4 l y;have m:Hi (aQ w.heap.size w4 v4 (xs++ys++[⟨k,[],0,0⟩])):=⟨_,by simp[o.u,s.u],l⟩;clear l;go_wp2;go_ret;exact⟨_,rfl,m.u,j.trans y⟩
theorem uB(vx vy:Value)(xs ys:List El)(w:World)(hx:az 0 w.heap.size w vx xs)(hy:az 0 w.heap.size w vy ys)(hlx:xs.length<=1048576)(hly:ys.length<=1048576)(hsx:∀ i:Nat,(xs[i]?.getD dE).set.length<=1048576)(hsy:∀ i:Nat,(ys[i]?.getD dE).set.length<=1048576) :
  Calls prog 65 #[vx,vy] w fun e w'=>∃ v',e=.returned v'/\aQ w.heap.size w' v' (xs++ys++[⟨3,[],0,0⟩])/\Below w.heap.size w w':=by
 obtain⟨a1,c1,rfl,-,-⟩:=id hx;obtain⟨a2,c2,rfl,-,-⟩:=id hy;have Hx:=ae hx;have Hy:=ae hy;have Sx:=ae hsx;have Sy:=ae hsy;clear hx hy hsx hsy
 go_enter func65,ntmps65
 go_wp2_with fail;refine(pY 3 _ _ xs ys _ Hx.u Hy.u hlx hly Sx.u Sy.u).mono ?_;rintro e w1 ⟨v1,rfl,a,b⟩;have c:=ae a;clear a;go_wp2;go_ret;exact⟨_,rfl,c.u,b⟩
theorem lD(lo hi:Int)(vx:Value)(xs:List El)(w:World)(hx:az 0 w.heap.size w vx xs)(hlx:xs.length<=1048576)(hsx:∀ i:Nat,(xs[i]?.getD dE).set.length<=1048576) :
  Calls prog 64 #[vx,.int .i64 lo,.int .i64 hi] w fun e w'=>∃ v',e=.returned v'/\aQ w.heap.size w' v' (xs++[⟨4,[],lo,hi⟩])/\Below w.heap.size w w':=by
 obtain⟨a1,c1,rfl,-,-⟩:=id hx;have Hx:=ae hx;have Sx:=ae hsx;clear hx hsx
 go_enter func64,ntmps64
 go_wp2_with fail;refine(eI _ xs _ Hx.u hlx Sx.u).mono ?_;rintro e w1 ⟨v1,rfl,a,c⟩;obtain⟨o1,d1,rfl⟩:=a.form;obtain⟨ps,b,a⟩:=a;have m:ps.length=xs.length:=by rw[<-b,List.length_map]
 have g:=ae a;have h:=ae b;have j:=c.size;clear a b
 go_wp2_with (at_builtin;refine iZ ⟨4,[],lo,hi⟩ (.slice none 0 0) (fun _=>False) rfl _ _ rfl rfl rfl g.u j (Below.refl _ _) (ij.none _) (fun k hk=>hk.elim) rfl ⟨rfl,rfl,rfl,rfl⟩ (by omega) ?_)
 intro v4 w4 d l;have f:Hi (aQ w.heap.size w4 v4 (xs++[⟨4,[],lo,hi⟩])):=⟨_,by simp[h.u],d⟩;clear d;go_wp2;go_ret;exact⟨_,rfl,f.u,c.trans l⟩
theorem aQ.lit(w:World):aQ w.heap.size (w.alloc (.cells #[.int .i64 0,.slice none 0 0,.int .i64 0,.int .i64 0] 70)) (.slice (some ⟨w.heap.size,0,none⟩) 1 1) [⟨0,[],0,0⟩]:=by
 refine⟨[⟨⟨0,[],0,0⟩,.slice none 0 0,fun _=>False⟩],rfl,World.ownsRow_lit w _ 1 lR (by unfold maxLen;omega) rfl,fun p hp=>?_,fun p hp k hk=>?_,List.pairwise_singleton _ _⟩
 ·obtain rfl:=List.mem_singleton.1 hp;exact ij.none _
 obtain rfl:=List.mem_singleton.1 hp;exact hk.elim
theorem kE(w:World):Calls prog 66 #[] w fun e w'=>∃ v',e=.returned v'/\aQ w.heap.size w' v' [⟨0,[],0,0⟩]/\Below w.heap.size w w':=by
 have hl:=ae (aQ.lit w)
 go_enter func66,ntmps66
 go_wp2;go_ret;exact⟨_,rfl,hl.u,ai w _⟩
structure aY (xs:List El):Prop where
 num:Gk xs
 len:∀ i:Nat,(xs[i]?.getD dE).set.length<=1048576
theorem aY.nil:aY []:=⟨fun i=>by simp[dE,aA],fun i=>by simp[dE]⟩
theorem aY.app{a b:List El}(ha:aY a)(hb:aY b):aY (a++b):=by
 refine⟨fun i=>?_,fun i=>?_⟩
 ·by_cases h:i<a.length
  ·rw[List.getElem?_append_left h];exact ha.num i
  rw[List.getElem?_append_right (by omega)];exact hb.num _
 by_cases h:i<a.length
 ·rw[List.getElem?_append_left h];exact ha.len i
 rw[List.getElem?_append_right (by omega)];exact hb.len _
theorem aY.op(k mn mx:Int)(h1:aA k)(h2:aA mn)(h3:aA mx):aY [⟨k,[],mn,mx⟩]:=by
 refine⟨fun i=>?_,fun i=>?_⟩
 ·cases i with
  | zero=>exact⟨h1,h2,h3,fun j=>by simp[aA]⟩
  | succ i=>simp[dE,aA]
 cases i with
 | zero=>simp
 | succ i=>simp[dE]
theorem aQ.els{base:Nat}{w:World}{v:Value}{xs:List El}(h:aQ base w v xs)(hn:aY xs):az 0 w.heap.size w v xs:=h.foot.at (fun _ hk=>hk.2) hn.num
def wS(l L:List El):Prop:=∀ (v:Value) (w:World),az 0 w.heap.size w v l->l.length<=3000->Calls prog 109 #[v] w fun e w'=>∃ v',e=.returned v'/\aQ w.heap.size w' v' L/\Below w.heap.size w w'
theorem sA(x:El)(hk:x.kind=0∨x.kind=1)(hs:x.set.length<=1048576):wS [x] [x]:=by
 intro v w hv l;have h:=hv;obtain⟨a,cp,rfl,-,-⟩:=id hv;obtain⟨k,m,b,off,rfl,n,j⟩:=az.last (p:=[]) hv;simp only[List.length_singleton,List.length_nil,Nat.zero_mul,Nat.add_zero]at j hv h ⊢;obtain⟨i1,i2,i3,sv,c0,c1,c2,c3,c⟩:=j;obtain⟨sa,sc,rfl,-,-,-⟩:=id c;have Hv:=ae (hv.below (ai w (.cells #[.int .i64 x.kind,.slice sa x.set.length sc,.int .i64 x.mn,.int .i64 x.mx] 70)) lR);have Hs:Hi (∀ i:Nat,(([x]:List El)[i]?.getD dE).set.length<=1048576):=fun i=>by
  cases i with
  | zero=>exact hs
  | succ i=>simp[dE]
 clear hv h c i1 i2 i3;rcases hk with hk|hk
 ·rw[hk]at c0;have Hk:=ae hk;rw[hk]at Hv;clear hk
  go_enter func109,ntmps109
  go_wp2_with fail;refine(eI _ [x] _ Hv.u (by simp) Hs.u).mono ?_;rintro e w1 ⟨v1,rfl,d,f⟩;have hB:Below w.heap.size w w1:=(ai w _).trans (f.mono (by rw[ah];omega));have g:Hi (aQ w.heap.size w1 v1 [x]):=d.base (by rw[ah];omega);clear d;go_wp2;go_ret;exact⟨_,rfl,g.u,hB⟩
 rw[hk]at c0;have Hk:=ae hk;rw[hk]at Hv;clear hk
 go_enter func109,ntmps109
 go_wp2_with fail;refine(eI _ [x] _ Hv.u (by simp) Hs.u).mono ?_;rintro e w1 ⟨v1,rfl,d,f⟩;have hB:Below w.heap.size w w1:=(ai w _).trans (f.mono (by rw[ah];omega));have g:Hi (aQ w.heap.size w1 v1 [x]):=d.base (by rw[ah];omega);clear d;go_wp2;go_ret;exact⟨_,rfl,g.u,hB⟩
theorem ut(k:Int)(hk:k=2∨k=3)(l r L R:List El)(cl cr:Int)(sl:aM l cl)(sr:aM r cr)(Hl:wS l L)(Hr:wS r R)(nl:aY L)(nr:aY R)(ll:L.length<=3000)(lr:R.length<=3000):wS (l++r++[⟨k,[],0,0⟩]) (L++R++[⟨k,[],0,0⟩]):=by
 intro v w hv p;have c:=hv;obtain⟨a,cp,rfl,-,-⟩:=id hv;obtain⟨d,f,b,off,rfl,I,q⟩:=hv.last;rw[d]at hv c f ⊢;simp only[List.length_append,List.length_singleton]at hv c p d q f ⊢;unfold maxLen at f;obtain⟨i1,i2,i3,sv,c0,c1,c2,c3,g⟩:=q;obtain⟨sa,sc,rfl,-,-,-⟩:=id g;simp only at c0 c2 c3;clear d i1 i2 i3 g;have e1:(((l.length+r.length+1:Nat):Int)-1)=((l.length+r.length:Nat):Int):=by omega
 have pl:=sl.ne;have pr:=sr.ne;have s:az 0 w.heap.size w (.slice (some ⟨b,off,none⟩) l.length cp) (l):=by rw[List.append_assoc]at c;exact c.pre
 have t:=c.mid (cap':=cp-l.length) (by unfold maxLen;omega);have C:=ae s;have D:=ae t;have E:=ae c;have NL:=ae nl;have NR:=ae nr;clear s t hv c nl nr;rcases hk with rfl|rfl
 all_goals
  go_enter func109,ntmps109
  go_wp2_with fail;refine(bO _ l r cr _ _ _ sr (by exact E.u.below (ai w _) lR) (by omega) rfl).mono ?_;rintro e w1 ⟨rfl,rfl⟩
  go_wp2_with fail;refine(Hl _ _ (by exact C.u.below (ai w _) lR) (by omega)).mono ?_;rintro e w1 ⟨v1,rfl,i,j⟩;obtain⟨o1,d1,rfl⟩:=i.form;have m:Below w.heap.size w w1:=(ai w _).trans (j.mono (by rw[ah];omega));have F:=ae i;have x:=ae j;clear j i
  go_wp2_with fail;refine(Hr _ _ (by exact D.u.below m lR) (by omega)).mono ?_;rintro e w2 ⟨v2,rfl,n,h⟩;obtain⟨o2,d2,rfl⟩:=n.form;have o:Below w.heap.size w w2:=m.trans (h.mono m.size);have hX:=ae ((F.u.keep h lR).els NL.u);have hY:=ae (n.els NR.u);have y:=x.u.size;obtain⟨z,-⟩:=cq (x.u.trans (h.mono y));simp only[ah]at z;clear h n y
  go_wp2_with fail;refine(pY _ _ _ L R _ hX.u hY.u (by omega) (by omega) NL.u.len NR.u.len).mono ?_;rintro e w3 ⟨v3,rfl,A,B⟩;have G:=ae (A.base o.size);have H:Below w.heap.size w w3:=o.trans (B.mono o.size);clear A B z;go_wp2;go_ret;exact⟨_,rfl,G.u,H⟩
end Go.Proofs.YtpmcjimgkabpeaaGreatDoor
