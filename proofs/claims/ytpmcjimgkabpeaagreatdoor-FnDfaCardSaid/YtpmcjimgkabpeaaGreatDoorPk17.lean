import Derived.Test.YtpmcjimgkabpeaaGreatDoorPk16
import Derived.Test.YtpmcjimgkabpeaaGreatDoorPk15
namespace Go.Proofs.YtpmcjimgkabpeaaGreatDoor
open Go.RowKit Go.Proofs.Tryz
set_option maxHeartbeats 16000000
set_option maxRecDepth 100000
structure Pt where
 P:List El
 s:Value
 T:Nat->Prop
theorem Tryz.zinOpS:(prog.info? 23).map (fun i=>(i.zero,i.size,i.bytes))=some (some (.slice none 0 0),1,24):=by kernel_rfl
structure iY (base:Nat) (w:World) (v:Value) (ps:List Pt):Prop where
 own:w.ownsRow base 23 1 v ps.length (ps.map Pt.s)
 els:∀ p∈ps,ko p.T w p.s p.P
 blk:∀ p∈ps,∀ k,p.T k->k<w.heap.size/\v.ownBlock≠some k
theorem iY.nil(base:Nat)(w:World):iY base w (.slice none 0 0) []:=⟨World.ownsRow_nil _ _ _ _,by simp,by simp⟩
theorem ko.one{S:Nat->Prop}{w:World}{v:Value}{xs:List El}(h:ko S w v xs):v.oneCell'=true:=by
 obtain⟨a,cap,rfl,-⟩:=h
 rfl
theorem gV{base:Nat}{wr w1 W:World}{ops:Array Oper}{rest:List Oper}{o:Oper}{a:Act}{Q:Exit->Act->World->Prop}{v:Value}{ps:List Pt}(p:Pt)(hgd:o.guard=none)(s y:Operand)
  (ho:o.op=.call { callee:=.builtin .append,args:=#[s,y],argTypes:=#[202,202] })(hs:a.eval s=v)(hy:a.eval y=.slice (some ⟨w1.heap.size,0,none⟩) 1 1)
  (h:iY base wr v ps)(hbase:base<=wr.heap.size)(hb:Below wr.heap.size wr w1)(hE:ko p.T w1 p.s p.P)(hT:∀ k,p.T k->k<w1.heap.size/\v.ownBlock≠some k)
  (hP:aK w1 W (.cells #[p.s] 23))(hlen:ps.length<=16777216)
  (K:∀ v' w',iY base w' v' (ps++[p])->Below base wr w'->wpList prog ops Q rest (a.put o.dst v') w'):wpList prog ops Q (o::rest) a W:=by
 obtain⟨j0,hj,f,g,i⟩:=info_parts Tryz.zinOpS;have d:=hP.own (aG h.own hb lR);have hz:=hb.size;have hZ:=hP.size;refine wpList_append_own_at W hgd s y 202 ho base 23 j0 (.slice none 0 0) 1 24 underlying202 hj f g i rfl (by decide) v ps.length (ps.map Pt.s) hs d ⟨w1.heap.size,0,none⟩ 1 1 [p.s] hy rfl ?_ ?_ ?_ ?_ ?_ ?_
 ·exact aK.news hP
 ·intro u hu;obtain rfl:=List.mem_singleton.1 hu;exact hE.one
 ·unfold maxLen;omega
 ·omega
 ·omega
 intro v' w' q1 q2 _ q3;have j:W.heap.size<=w'.heap.size:=q2.size;have b:∀ k,k<W.heap.size->v.ownBlock≠some k->v'.ownBlock≠some k:=fun k hk hne e=>by
  rcases q3 with ho|ho
  ·exact hne (by rw[<-ho,e])
  rw[ho]at e;simp at e;omega
 have c:∀ k,k<W.heap.size->v.ownBlock≠some k->w'.heap[k]?=W.heap[k]? :=fun k hk hne=>q2.block k hk (fun e=>hne e.symm)
 have hB:Below wr.heap.size wr W:=hb.trans (hP.below.mono hb.size);refine K v' w' ⟨by rw[List.length_append,List.map_append];exact q1,fun q hq=>?_,fun q hq k hk=>?_⟩ ((hB.mono hbase).grown q2 (by omega) (fun k hk=>(h.own.lt k hk).1))
 ·rcases List.mem_append.1 hq with hq|hq
  ·refine((h.els q hq).same (w':=W) (fun k hk=>hB.block k (h.blk q hq k hk).1)).same (fun k hk=>?_)
   have:=h.blk q hq k hk;exact c k (by omega) this.2
  obtain rfl:=List.mem_singleton.1 hq;refine(hE.same (w':=W) (fun k hk=>hP.old (hT k hk).1)).same (fun k hk=>?_)
  have:=hT k hk;exact c k (by omega) this.2
 rcases List.mem_append.1 hq with hq|hq
 ·have:=h.blk q hq k hk;exact⟨by omega,b k (by omega) this.2⟩
 obtain rfl:=List.mem_singleton.1 hq;have:=hT k hk;exact⟨by omega,b k (by omega) this.2⟩
def lu:El:=⟨2,[],0,0⟩
def jn:List (List El)->List El
 | []=>[]
 | p::r=>r.foldl (fun acc q=>acc++q++[lu]) p
theorem pT{ps:List (List El)}(h:ps≠[])(q:List El):jn (ps++[q])=jn ps++q++[lu]:=by
 cases ps with
 | nil=>exact absurd rfl h
 | cons p r=>simp[jn,List.foldl_append]
def ph(X:List El):List El:=X++[⟨0,[],0,0⟩]++[⟨3,[],0,0⟩]
def bH(X:List El)(mn mx:Int):List (List El):=
 if mx = -1 then List.replicate (mn-1).toNat X++[X++[⟨4,[],if 1<mn then 1 else mn,-1⟩]]
 else List.replicate mn.toNat X++List.replicate (mx-mn).toNat (ph X)
def mV(X:List El)(mn mx:Int):List El:=if mx=0 then [⟨0,[],0,0⟩] else jn (bH X mn mx)
theorem Au(mn:Int)(x X:List El)(cx:Int)(sx:aM x cx)(Hx:wS x X):wS (x++[⟨4,[],mn,0⟩]) [⟨0,[],0,0⟩]:=by
 intro v w hv i;obtain⟨a,cp,rfl,-,-⟩:=id hv;obtain⟨c,d,b,off,rfl,s,j⟩:=hv.last;rw[c]at hv d ⊢;simp only[List.length_append,List.length_singleton]at hv i c j d ⊢;unfold maxLen at d;obtain⟨i1,i2,i3,sv,c0,c1,c2,c3,f⟩:=j;obtain⟨sa,sc,rfl,-,-,-⟩:=id f;simp only at c0 c2 c3;clear c i1 i2 i3 f;have pl:=sx.ne;have k:az 0 w.heap.size w (.slice (some ⟨b,off,none⟩) x.length cp) x:=hv.pre;have o:=ae k;clear k hv
 go_enter func109,ntmps109
 go_wp2_with fail;refine(Hx _ _ (by exact o.u.below (ai w _) lR) (by omega)).mono ?_;rintro e w1 ⟨v1,rfl,p,g⟩;have h:Below w.heap.size w w1:=(ai w _).trans (g.mono (by rw[ah];omega));obtain⟨l,-⟩:=cq g;simp only[ah]at l;clear g p
 go_wp2_with fail;refine(kE _).mono ?_;rintro e w2 ⟨v2,rfl,m,n⟩;have q:=ae (m.base h.size);have r:Below w.heap.size w w2:=h.trans (n.mono h.size);clear m n l;go_wp2;go_ret;exact⟨_,rfl,q.u,r⟩
theorem ie{base n e:Nat}{w:World}{v:Value}{xs:List Value}(h:w.ownsRow base e 1 v n xs)(hp:0<n):∃ g cap,v=.slice (some ⟨g,0,none⟩) n cap/\∀ j:Nat,j<n->w.cell? ⟨g,j,none⟩=xs[j]? :=by
 rcases h.2 with ⟨rfl,hz⟩|⟨g,cap,cur,rfl,b,hg,c,d,f,a⟩
 ·omega
 exact⟨g,cap,rfl,fun j hj=>h.cellAt j (by omega)⟩
theorem tN(ps:List (List El))(h:∀ p∈ps,p.length<=3002):(jn ps).length<=ps.length*3003:=by
 cases ps with
 | nil=>simp[jn]
 | cons p r =>
  have key:∀ (r:List (List El)) (acc:List El),(∀ p∈r,p.length<=3002)->(r.foldl (fun acc q=>acc++q++[lu]) acc).length<=acc.length+r.length*3003:=by
   intro r
   induction r with
   | nil=>intro acc _;simp
   | cons q r ih =>
    intro acc hq;have h1:=ih (acc++q++[lu]) (fun p hp=>hq p (by simp[hp]));have h2:=hq q (by simp);simp only[List.foldl_cons,List.length_cons,List.length_append,List.length_nil]at h1 ⊢;omega
  have h1:=key r p (fun q hq=>h q (by simp[hq]));have h2:=h p (by simp);simp only[jn,List.length_cons];omega
theorem Bk(ps:List (List El))(h:∀ p∈ps,aY p):aY (jn ps):=by
 cases ps with
 | nil=>exact aY.nil
 | cons p r =>
  have key:∀ (r:List (List El)) (acc:List El),aY acc->(∀ p∈r,aY p)->aY (r.foldl (fun acc q=>acc++q++[lu]) acc):=by
   intro r
   induction r with
   | nil=>intro acc h _;exact h
   | cons q r ih =>
    intro acc ha hq;exact ih _ ((ha.app (hq q (by simp))).app (aY.op 2 0 0 (by simp[aA]) (by simp[aA]) (by simp[aA]))) (fun p hp=>hq p (by simp[hp]))
  exact key r p (h p (by simp)) (fun q hq=>h q (by simp[hq]))
theorem qg{ps:List Pt}{k:Nat}(h:k<ps.length):jn ((ps.take (k+1)).map Pt.P)=if k=0 then (ps[k]).P else jn ((ps.take k).map Pt.P)++(ps[k]).P++[lu]:=by
 rw[List.take_succ_eq_append_getElem h,List.map_append]
 by_cases e:k=0
 ·subst e;simp[jn]
 rw[if_neg e];exact pT (by intro q;have:=congrArg List.length q;rw[List.length_map,List.length_take,List.length_nil]at this;omega) _
theorem xW(mn:Int)(x X:List El)(cx:Int)(sx:aM x cx)(Hx:wS x X)(o2:0<=mn)(o3:mn<=250)(nx:aY X)(lx:X.length<=3000):wS (x++[⟨4,[],mn,-1⟩]) (jn (bH X mn (-1))):=by
 intro v w hv ax;obtain⟨a,cp,rfl,-,-⟩:=id hv;obtain⟨C,Q,b,off,rfl,bl,b0⟩:=hv.last;rw[C]at hv Q ⊢;simp only[List.length_append,List.length_singleton]at hv ax C b0 Q ⊢;unfold maxLen at Q;obtain⟨i1,i2,i3,sv,c0,c1,c2,c3,R⟩:=b0;obtain⟨sa,sc,rfl,-,-,-⟩:=id R;simp only at c0 c2 c3;clear C i1 i2 i3 R;have pl:=sx.ne;have b1:az 0 w.heap.size w (.slice (some ⟨b,off,none⟩) x.length cp) x:=hv.pre;have b7:=ae b1;have NX:=ae nx;clear b1 hv nx
 go_enter func109,ntmps109
 go_wp2_with fail;refine(Hx _ _ (by exact b7.u.below (ai w _) lR) (by omega)).mono ?_;rintro e w1 ⟨v1,rfl,ad,a7⟩;obtain⟨o1,d1,rfl⟩:=ad.form;have b2:Below w.heap.size w w1:=(ai w _).trans (a7.mono (by rw[ah];omega));have b8:=a7.size;rw[ah]at b8;have RA:=ae ((aD.new w 70 (.int .i64 4) (.slice sa 0 sc) (.int .i64 mn) (.int .i64 (-1))).below a7 (by rw[ah];omega));have af:=ad.foot;rw[ah]at af;have HX:=ae af;obtain⟨q0,q1,q2,q3,-⟩:=aD.facts RA.u;clear a7 ad af;go_wp2
 go_loopw [9,10] (fun pv i wr=>∃ j:Nat,i=.int .i64 ((j:Int)+1)/\(j=0∨(j:Int)+1<=mn)/\iY w1.heap.size wr pv (List.replicate j ⟨X,.slice o1 X.length d1,kJ (w.heap.size+1) w1.heap.size⟩)/\Below w1.heap.size w1 wr) (fun _ i _=>(mn-intOf i).toNat)
 case atStart=>exact⟨0,rfl,Or.inl rfl,iY.nil _ _,Below.refl _ _⟩
 obtain⟨j,rfl,hj,ag,O⟩:=hrel;clear q0 q1 q2 q3;obtain⟨q0,q1,q2,q3,-⟩:=aD.facts (RA.u.below O (by omega));have a8:=O.size;have z:=ae ag;have a9:=ae (HX.u.same (w':=wr) (fun k hk=>O.block k hk.2));have aa:Hi (∀ k,kJ (w.heap.size+1) w1.heap.size k->k<wr.heap.size):=fun k hk=>Nat.lt_of_lt_of_le hk.2 a8
 have S:Hi (∀ k,kJ (w.heap.size+1) w1.heap.size k->∀ (u:Value) (n:Nat) (vs:List Value),wr.ownsRow w1.heap.size 23 1 u n vs->u.ownBlock≠some k):=fun k hk u n vs h e=>by
  have:=(h.lt k e).1;unfold kJ at hk;omega
 obtain⟨pa,pc,rfl⟩:=aj ag.own;rw[List.length_replicate]at z ⊢;clear ag
 by_cases hlt:(j:Int)+1<mn
 ·go_wp2_with (at_builtin;refine gV ⟨X,.slice o1 X.length d1,kJ (w.heap.size+1) w1.heap.size⟩ rfl _ _ rfl rfl rfl z.u a8 (Below.refl _ _) a9.u (fun k hk=>⟨aa.u k hk,S.u k hk _ _ _ z.u.own⟩) ⟨rfl,rfl,rfl,rfl⟩ (by rw[List.length_replicate];omega) ?_)
  intro v2 w2 y D;have b9:Hi (iY w1.heap.size w2 v2 (List.replicate (j+1) ⟨X,.slice o1 X.length d1,kJ (w.heap.size+1) w1.heap.size⟩)):=by rw[List.replicate_succ'];exact y
  clear y;go_wp2
  go_roundw
  case rel=>exact⟨j+1,by go_num,Or.inr (by omega),b9.u,O.trans D⟩
  simp[intOf];omega
 have b3:Hi (j=(mn-1).toNat):=by show j=(mn-1).toNat;omega
 have ab:=ae (a9.u.at (fun k hk=>aa.u k hk) NX.u.num)
 by_cases h1:1<mn
 ·go_wp2_with fail;refine(lD 1 (-1) _ X _ ab.u (by omega) NX.u.len).mono ?_;rintro e w2 ⟨v2,rfl,y,D⟩;obtain⟨p2,d2,rfl⟩ : ∃ a c,v2=.slice a (X.length+1) c:=by have:=y.form;rwa [List.length_append]at this
  have T:=ae y.foot;clear y
  go_wp2_with (at_builtin;refine gV ⟨X++[⟨4,[],1,-1⟩],.slice p2 (X.length+1) d2,kJ wr.heap.size w2.heap.size⟩ rfl _ _ rfl rfl rfl z.u a8 D T.u (fun k hk=>⟨hk.2,fun e=>by have:=(z.u.own.lt k e).2;unfold kJ at hk;omega⟩) ⟨rfl,rfl,rfl,rfl⟩ (by rw[List.length_replicate];omega) ?_)
  intro v3 w3 A U;have V:Below w1.heap.size w1 w3:=O.trans U;obtain⟨ps,f⟩ : ∃ ps,ps=List.replicate j (⟨X,.slice o1 X.length d1,kJ (w.heap.size+1) w1.heap.size⟩ : Pt)++[⟨X++[⟨4,[],1,-1⟩],.slice p2 (X.length+1) d2,kJ wr.heap.size w2.heap.size⟩]:=⟨_,rfl⟩;rw[<-f]at A;have al:Hi (jn (ps.map Pt.P)=jn (bH X mn (-1))):=by
   rw[f,List.map_append,List.map_replicate,b3.u];unfold bH;rw[if_pos rfl,if_pos h1]
   rfl
  have bb:ps.length<=251:=by rw[f,List.length_append,List.length_replicate];simp;omega
  have W:Hi (∀ p∈ps,aY p.P/\p.P.length<=3002):=fun p hp=>by
   rw[f]at hp;rcases List.mem_append.1 hp with hp|hp
   ·rw[(List.mem_replicate.1 hp).2];exact⟨NX.u,by show X.length<=3002;omega⟩
   rw[List.mem_singleton.1 hp];exact⟨NX.u.app (aY.op _ _ _ (by simp[aA]) (by unfold aA;omega) (by simp[aA])),by show(X++[_]).length<=3002;rw[List.length_append];simp;omega⟩
  have E:=ae A;have hB:Below w.heap.size w w3:=b2.trans (V.mono (by omega));have bc:=V.size;obtain⟨pa3,pc3,rfl⟩:=aj A.own;clear A f U D T q0 q1 q2 q3 z a9 aa S ab;go_wp2
  go_loopw [13,14] (fun ov i wl=>∃ k:Nat,k<=ps.length/\i=.int .i64 k/\aQ w3.heap.size wl ov (jn ((ps.take k).map Pt.P))/\Below w3.heap.size w3 wl) (fun _ i _=>ps.length-(intOf i).toNat)
  case atStart=>exact⟨0,Nat.zero_le _,rfl,aQ.nil _ _,Below.refl _ _⟩
  obtain⟨k,hk,rfl,l,m⟩:=hrel;have Y:=m.size
  by_cases hlt2:k<ps.length
  ·have d:=List.getElem_mem hlt2;have hE:=E.u.els _ d;have F:=E.u.blk _ d;have B:=W.u _ d;have G:=ae ((hE.same (w':=wr) (fun k hk=>m.block k (F k hk).1)).at (N:=wr.heap.size) (fun k hk=>Nat.lt_of_lt_of_le (F k hk).1 Y) B.1.num);obtain⟨g,cap,ev,o⟩:=ie (aG E.u.own m lR) (by omega);simp only[Value.slice.injEq,true_and]at ev;obtain⟨rfl,rfl⟩:=ev;have hx:=o k hlt2;rw[List.getElem?_map,List.getElem?_eq_getElem hlt2,Option.map_some]at hx;have r:=ae (qg hlt2);obtain⟨sa2,sc2,H,-⟩:=hE;have bd:=ae H;rw[H]at hx G;have Z:=ae B.1;have b4:=B.2;clear o F d B H;generalize (ps[k]).P=P at *;have b5:(k:Int)<(ps.length:Int):=by omega
   obtain⟨qa,qc,rfl⟩:=l.form;obtain⟨os,I,a0⟩:=l;have bf:os.length=(jn ((ps.take k).map Pt.P)).length:=by rw[<-I,List.length_map]
   have a1:=tN ((ps.take k).map Pt.P) (fun p hp=>by obtain⟨q,hq,rfl⟩:=List.mem_map.1 hp;exact(W.u q (List.mem_of_mem_take hq)).2);rw[List.length_map,List.length_take]at a1;have b6:os.length<=800000:=by omega
   have a2:=ae I;have an:=ae a0;clear I a0 a1;have ao:Hi (k=0->jn ((ps.take k).map Pt.P)=[]):=fun e=>by subst e;rfl
   generalize jn ((ps.take k).map Pt.P)=J at *
   go_wp2_with fail;refine(eI _ P _ G.u (by omega) Z.u.len).mono ?_;rintro e w4 ⟨v4,rfl,s,ap⟩;obtain⟨qb,qd,rfl⟩:=s.form;obtain⟨us,K,s⟩:=s;have bi:us.length=P.length:=by rw[<-K,List.length_map]
   have a3:=ae K;have a4:=ae s;clear K s hx G
   go_wp2_with (at_builtin;refine lC rfl _ _ rfl rfl rfl an.u Y ap a4.u (fun p hp=>Pc.one (a4.u.set p hp)) (by omega) (by omega) ?_)
   intro v5 w5 L aq;obtain⟨qe,qf,rfl⟩:=aj L.own;have M:Below w3.heap.size w3 w5:=m.trans aq;have ar:=M.size;have a5:=ae L;clear L
   by_cases hk0:k=0
   ·subst hk0;have t:Hi (aQ w3.heap.size w5 (.slice qe (os++us).length qf) (jn ((ps.take (0+1)).map Pt.P))):=⟨_,by rw[r.u,if_pos rfl,List.map_append,a2.u,a3.u,ao.u rfl];rfl,a5.u⟩;go_wp2;exact⟨⟨1,by omega,rfl,t.u,M⟩,by simp[intOf];omega⟩
   have bj:(0:Int)<(k:Int):=by omega
   go_wp2_with (at_builtin;refine iZ ⟨2,[],0,0⟩ (.slice none 0 0) (fun _=>False) rfl _ _ rfl rfl rfl a5.u ar (Below.refl _ _) (ij.none _) (fun k hk=>hk.elim) rfl ⟨rfl,rfl,rfl,rfl⟩ (by rw[List.length_append];omega) ?_)
   intro v6 w6 a6 av;have t:Hi (aQ w3.heap.size w6 v6 (jn ((ps.take (k+1)).map Pt.P))):=⟨_,by rw[r.u,if_neg hk0];simp[a2.u,a3.u,lu],a6⟩;clear a6;go_wp2;exact⟨⟨k+1,by omega,by go_num,t.u,M.trans av⟩,by simp[intOf];omega⟩
  obtain rfl:k=ps.length:=by omega
  rw[List.take_length,al.u]at l;have aw:=ae (l.base hB.size);clear l;go_wp2;go_ret;exact⟨_,rfl,aw.u,hB.trans (m.mono hB.size)⟩
 go_wp2_with fail;refine(lD mn (-1) _ X _ ab.u (by omega) NX.u.len).mono ?_;rintro e w2 ⟨v2,rfl,y,D⟩;obtain⟨p2,d2,rfl⟩ : ∃ a c,v2=.slice a (X.length+1) c:=by have:=y.form;rwa [List.length_append]at this
 have T:=ae y.foot;clear y
 go_wp2_with (at_builtin;refine gV ⟨X++[⟨4,[],mn,-1⟩],.slice p2 (X.length+1) d2,kJ wr.heap.size w2.heap.size⟩ rfl _ _ rfl rfl rfl z.u a8 D T.u (fun k hk=>⟨hk.2,fun e=>by have:=(z.u.own.lt k e).2;unfold kJ at hk;omega⟩) ⟨rfl,rfl,rfl,rfl⟩ (by rw[List.length_replicate];omega) ?_)
 intro v3 w3 A U;have V:Below w1.heap.size w1 w3:=O.trans U;obtain⟨ps,f⟩ : ∃ ps,ps=List.replicate j (⟨X,.slice o1 X.length d1,kJ (w.heap.size+1) w1.heap.size⟩ : Pt)++[⟨X++[⟨4,[],mn,-1⟩],.slice p2 (X.length+1) d2,kJ wr.heap.size w2.heap.size⟩]:=⟨_,rfl⟩;rw[<-f]at A;have al:Hi (jn (ps.map Pt.P)=jn (bH X mn (-1))):=by
  rw[f,List.map_append,List.map_replicate,b3.u];unfold bH;rw[if_pos rfl,if_neg (by omega)]
  rfl
 have bb:ps.length<=251:=by rw[f,List.length_append,List.length_replicate];simp;omega
 have W:Hi (∀ p∈ps,aY p.P/\p.P.length<=3002):=fun p hp=>by
  rw[f]at hp;rcases List.mem_append.1 hp with hp|hp
  ·rw[(List.mem_replicate.1 hp).2];exact⟨NX.u,by show X.length<=3002;omega⟩
  rw[List.mem_singleton.1 hp];exact⟨NX.u.app (aY.op _ _ _ (by simp[aA]) (by unfold aA;omega) (by simp[aA])),by show(X++[_]).length<=3002;rw[List.length_append];simp;omega⟩
 have E:=ae A;have hB:Below w.heap.size w w3:=b2.trans (V.mono (by omega));have bc:=V.size;obtain⟨pa3,pc3,rfl⟩:=aj A.own;clear A f U D T q0 q1 q2 q3 z a9 aa S ab;go_wp2
 go_loopw [13,14] (fun ov i wl=>∃ k:Nat,k<=ps.length/\i=.int .i64 k/\aQ w3.heap.size wl ov (jn ((ps.take k).map Pt.P))/\Below w3.heap.size w3 wl) (fun _ i _=>ps.length-(intOf i).toNat)
 case atStart=>exact⟨0,Nat.zero_le _,rfl,aQ.nil _ _,Below.refl _ _⟩
 obtain⟨k,hk,rfl,l,m⟩:=hrel;have Y:=m.size
 by_cases hlt2:k<ps.length
 ·have d:=List.getElem_mem hlt2;have hE:=E.u.els _ d;have F:=E.u.blk _ d;have B:=W.u _ d;have G:=ae ((hE.same (w':=wr) (fun k hk=>m.block k (F k hk).1)).at (N:=wr.heap.size) (fun k hk=>Nat.lt_of_lt_of_le (F k hk).1 Y) B.1.num);obtain⟨g,cap,ev,o⟩:=ie (aG E.u.own m lR) (by omega);simp only[Value.slice.injEq,true_and]at ev;obtain⟨rfl,rfl⟩:=ev;have hx:=o k hlt2;rw[List.getElem?_map,List.getElem?_eq_getElem hlt2,Option.map_some]at hx;have r:=ae (qg hlt2);obtain⟨sa2,sc2,H,-⟩:=hE;have bd:=ae H;rw[H]at hx G;have Z:=ae B.1;have b4:=B.2;clear o F d B H;generalize (ps[k]).P=P at *;have b5:(k:Int)<(ps.length:Int):=by omega
  obtain⟨qa,qc,rfl⟩:=l.form;obtain⟨os,I,a0⟩:=l;have bf:os.length=(jn ((ps.take k).map Pt.P)).length:=by rw[<-I,List.length_map]
  have a1:=tN ((ps.take k).map Pt.P) (fun p hp=>by obtain⟨q,hq,rfl⟩:=List.mem_map.1 hp;exact(W.u q (List.mem_of_mem_take hq)).2);rw[List.length_map,List.length_take]at a1;have b6:os.length<=800000:=by omega
  have a2:=ae I;have an:=ae a0;clear I a0 a1;have ao:Hi (k=0->jn ((ps.take k).map Pt.P)=[]):=fun e=>by subst e;rfl
  generalize jn ((ps.take k).map Pt.P)=J at *
  go_wp2_with fail;refine(eI _ P _ G.u (by omega) Z.u.len).mono ?_;rintro e w4 ⟨v4,rfl,s,ap⟩;obtain⟨qb,qd,rfl⟩:=s.form;obtain⟨us,K,s⟩:=s;have bi:us.length=P.length:=by rw[<-K,List.length_map]
  have a3:=ae K;have a4:=ae s;clear K s hx G
  go_wp2_with (at_builtin;refine lC rfl _ _ rfl rfl rfl an.u Y ap a4.u (fun p hp=>Pc.one (a4.u.set p hp)) (by omega) (by omega) ?_)
  intro v5 w5 L aq;obtain⟨qe,qf,rfl⟩:=aj L.own;have M:Below w3.heap.size w3 w5:=m.trans aq;have ar:=M.size;have a5:=ae L;clear L
  by_cases hk0:k=0
  ·subst hk0;have t:Hi (aQ w3.heap.size w5 (.slice qe (os++us).length qf) (jn ((ps.take (0+1)).map Pt.P))):=⟨_,by rw[r.u,if_pos rfl,List.map_append,a2.u,a3.u,ao.u rfl];rfl,a5.u⟩;go_wp2;exact⟨⟨1,by omega,rfl,t.u,M⟩,by simp[intOf];omega⟩
  have bj:(0:Int)<(k:Int):=by omega
  go_wp2_with (at_builtin;refine iZ ⟨2,[],0,0⟩ (.slice none 0 0) (fun _=>False) rfl _ _ rfl rfl rfl a5.u ar (Below.refl _ _) (ij.none _) (fun k hk=>hk.elim) rfl ⟨rfl,rfl,rfl,rfl⟩ (by rw[List.length_append];omega) ?_)
  intro v6 w6 a6 av;have t:Hi (aQ w3.heap.size w6 v6 (jn ((ps.take (k+1)).map Pt.P))):=⟨_,by rw[r.u,if_neg hk0];simp[a2.u,a3.u,lu],a6⟩;clear a6;go_wp2;exact⟨⟨k+1,by omega,by go_num,t.u,M.trans av⟩,by simp[intOf];omega⟩
 obtain rfl:k=ps.length:=by omega
 rw[List.take_length,al.u]at l;have aw:=ae (l.base hB.size);clear l;go_wp2;go_ret;exact⟨_,rfl,aw.u,hB.trans (m.mono hB.size)⟩
theorem th(T:TypeId)(y:Value)(n:Int)(w:World)(hn:n<=1000) :
  Calls prog 117 #[.iface T y,.int .i64 n] w fun e w'=>∃ v,e=.returned v/\w'.ownsRow w.heap.size 48 1 v n.toNat (List.replicate n.toNat (.iface T y))/\Below w.heap.size w w':=by
 obtain⟨i0,hi,c,d,f⟩:=info_parts Tryz.info48
 go_enter func117,ntmps117
 go_wp2
 go_loopw [5,7] (fun ov i wr=>∃ j:Nat,i=.int .i64 (j:Int)/\(j=0∨(j:Int)<=n)/\wr.ownsRow w.heap.size 48 1 ov j (List.replicate j (.iface T y))/\Below w.heap.size w wr) (fun _ i _=>(n-intOf i).toNat)
 case atStart=>exact⟨0,rfl,Or.inl rfl,World.ownsRow_nil _ _ _ _,Below.refl _ _⟩
 obtain⟨j,rfl,hj,a,hb⟩:=hrel;have hz:=hb.size;have b:=ae a;obtain⟨oa,oc,rfl⟩:=aj a;clear a
 by_cases hlt:(j:Int)<n
 ·go_wp2_with (at_builtin;refine wpList_append_own _ rfl _ _ 146 rfl w.heap.size 48 i0 .nilIface 1 16 underlying146 hi c d f rfl (by decide) _ _ _ rfl (b.u.alloc _) ⟨wr.heap.size,0,none⟩ 1 1 [.iface T y] rfl rfl ?_ ?_ ?_ ?_ ?_ ?_)
  ·exact dm (by simp)
  ·intro u hu;simp at hu;subst hu;rfl
  ·unfold maxLen;omega
  ·omega
  ·simp only[ah];omega
  intro v' w' h1 hg _;have H1:Hi (w'.ownsRow w.heap.size 48 1 v' (j+1) (List.replicate (j+1) (.iface T y))):=by rw[List.replicate_succ'];exact h1
  have hB:Below w.heap.size w w':=(hb.alloc hz (.cells #[.iface T y] 48)).grown hg (by rw[ah];omega) (fun k hk=>(b.u.lt k hk).1);clear h1 hg;go_wp2
  go_roundw
  case rel=>exact⟨j+1,by go_num,Or.inr (by omega),H1.u,hB⟩
  simp[intOf];omega
 have g:Hi (n.toNat=j):=by show n.toNat=j;omega
 go_wp2;go_ret;exact⟨_,rfl,by rw[g.u];exact b.u,hb⟩
def jV:List Value->Value
 | []=>undef
 | p::r=>r.foldl cV p
theorem CF(r:List Value):∀ p:Value,(∃ T x,p=.iface T x)->∃ T x,r.foldl cV p=.iface T x:=by
 induction r with
 | nil=>intro p h;exact h
 | cons q r ih=>intro p _;exact ih (cV p q) ⟨_,_,rfl⟩
theorem tF(r:List Value)(p:Value)(j:Nat)(h:j<r.length):(r.take (j+1)).foldl cV p=cV ((r.take j).foldl cV p) r[j]:=by
 rw[List.take_succ_eq_append_getElem h,List.foldl_append];rfl
theorem nt(base:Nat)(v p:Value)(r:List Value)(w:World)(b:w.ownsRow base 48 1 v (r.length+1) (p::r))(hif:∀ u∈p::r,∃ T x,u=.iface T x)(hl:r.length<=1000000) :
  Calls prog 116 #[v] w fun e w'=>e=.returned (jV (p::r))/\w'=w:=by
 obtain⟨g,cap,rfl,a⟩:=ie b (by omega);have k:r.length+1<=cap:=by
  rcases b.2 with ⟨e,-⟩|⟨g',cap',cur,e,-,-,c,-⟩
  ·simp at e
  simp only[Value.slice.injEq]at e;rw[e.2.2];exact c
 have m:w.cell? ⟨g,0,none⟩=some p:=a 0 (by omega);have d:Hi (∀ j:Nat,(h:j<r.length)->w.cell? ⟨g,1+j,none⟩=some r[j]):=fun j h=>by
  rw[a (1+j) (by omega),Nat.add_comm 1 j,List.getElem?_cons_succ,List.getElem?_eq_getElem h]
 obtain⟨T0,x0,rfl⟩:=hif p (by simp);have f:=ae hif;have n:((r.length+1:Nat):Int)<=(cap:Int):=by omega
 clear a b hif
 by_cases hc1:cap=1
 ·subst hc1;obtain rfl:r=[]:=List.eq_nil_of_length_eq_zero (by omega)
  go_enter func116,ntmps116
  go_wp2
  go_loop [3,12] (fun q i=>q=.iface T0 x0/\i=.int .i64 0) (fun _ _=>0)
  case atStart=>exact⟨rfl,rfl⟩
  obtain⟨rfl,rfl⟩:=hrel;go_wp2;go_ret;exact⟨rfl,rfl⟩
 go_enter func116,ntmps116
 go_wp2
 go_loop [3,12] (fun q i=>∃ j:Nat,j<=r.length/\i=.int .i64 (j:Int)/\q=(r.take j).foldl cV (.iface T0 x0)) (fun _ i=>r.length-(intOf i).toNat)
 case atStart=>exact⟨0,Nat.zero_le _,rfl,rfl⟩
 obtain⟨j,hj,rfl,hq⟩:=hrel;obtain⟨T1,x1,e1⟩:=CF (r.take j) _ ⟨T0,x0,rfl⟩
 by_cases hlt:j<r.length
 ·have hx:=d.u j hlt;obtain⟨T2,x2,e2⟩:=f.u r[j] (by simp);have Hn:=ae (tF r (.iface T0 x0) j hlt);rw[e1]at hq Hn;rw[e2]at hx Hn;subst hq;have l:(j:Int)<(r.length:Int):=by omega
  clear e1 e2;go_wp2
  go_round
  case rel=>exact⟨j+1,by omega,by go_num,by rw[Hn.u];rfl⟩
  simp[intOf];omega
 obtain rfl:j=r.length:=by omega
 rw[List.take_length]at hq e1;have He:=ae e1;rw[e1]at hq;subst hq;clear e1;go_wp2;go_ret;exact⟨by rw[<-He.u];rfl,rfl⟩
structure iN (G:Value->List El×Int->Prop):Prop where
 sz:∀ {u:Value} {t:List El×Int},G u t->ft u t.2
 e:G eV ([⟨0,[],0,0⟩],1)
 s:∀ {xs:List Int} {g:Nat->Nat},cU xs->du xs g->G (sV g) ([⟨1,xs,0,0⟩],1)
 cat:∀ {u v:Value} {l r:List El×Int},G u l->G v r->G (cV u v) (l.1++r.1++[⟨2,[],0,0⟩],cap (l.2+r.2))
 alt:∀ {u v:Value} {l r:List El×Int},G u l->G v r->G (aV u v) (l.1++r.1++[⟨3,[],0,0⟩],cap (l.2+r.2))
 rep:∀ {u:Value} {o:List El×Int} {mn mx:Int},G u o->0<=mn->mn<=250->(mx = -1∨(mn<=mx/\mx<=250))->G (rV u mn mx) (o.1++[⟨4,[],mn,mx⟩],cap (bJ o.2 mn mx))
def cE(G:Value->List El×Int->Prop):List (List El×Int)->List Value->Prop
 | [],[]=>True
 | t::ts,u::us=>G u t/\cE G ts us
 | _,_=>False
theorem cE.len{G:Value->List El×Int->Prop}:∀ {ts:List (List El×Int)} {us:List Value},cE G ts us->ts.length=us.length
 | [],[],_=>rfl
 | _::_,_::_,h=>by simp[cE.len h.2]
 | [],_::_,h=>h.elim
 | _::_,[],h=>h.elim
theorem cE.append{G:Value->List El×Int->Prop}:∀ {a b:List (List El×Int)} {us vs:List Value},cE G a us->cE G b vs->cE G (a++b) (us++vs)
 | [],_,[],_,_,k=>k
 | _::_,_,_::_,_,h,k=>⟨h.1,cE.append h.2 k⟩
 | [],_,_::_,_,h,_=>h.elim
 | _::_,_,[],_,h,_=>h.elim
theorem cE.split{G:Value->List El×Int->Prop}:∀ {a b:List (List El×Int)} {us:List Value},cE G (a++b) us->∃ u v,us=u++v/\cE G a u/\cE G b v
 | [],_,us,h=>⟨[],us,rfl,trivial,h⟩
 | _::_,_,y::_,h=>by
  obtain⟨u,v,rfl,hu,hv⟩:=cE.split h.2;exact⟨y::u,v,rfl,⟨h.1,hu⟩,hv⟩
 | _::_,_,[],h=>h.elim
theorem cE.one{G:Value->List El×Int->Prop}{t:List El×Int}{us:List Value}(h:cE G [t] us):∃ u,us=[u]/\G u t:=by
 match us,h with
 | [u],h=>exact⟨u,rfl,h.1⟩
theorem cE.two{G:Value->List El×Int->Prop}{s t:List El×Int}{us:List Value}(h:cE G [s,t] us):∃ u v,us=[u,v]/\G u s/\G v t:=by
 match us,h with
 | [u,v],h=>exact⟨u,v,rfl,h.1,h.2.1⟩
def fq(G:Value->List El×Int->Prop)(base:Nat)(w w':World)(e:Ending)(st:List (List El×Int))(x:El):Prop:=
 ∃ v' vals' st',e=.returned v'/\w'.ownsRow base 48 1 v' vals'.length vals'/\dM st x st'/\cE G st' vals'/\Below base w w'
theorem dx{G:Value->List El×Int->Prop}{base:Nat}{w W w':World}{v' v0:Value}{n:Nat}{xs:List Value}{u:Value}{st st':List (List El×Int)}{x:El}(hW:Below base w W)(hB:base<=W.heap.size)(h0:W.ownsRow base 48 1 v0 n xs)
  (hg:W.grownBy w' v0.ownBlock)(h1:w'.ownsRow base 48 1 v' (n+1) (xs++[u]))(hp:dM st x st')(hn:cE G st' (xs++[u])):fq G base w w' (.returned v') st x:=by
 have hl:=h1.1;rw[Nat.mul_one]at hl;refine⟨v',xs++[u],st',rfl,by rw[hl];exact h1,hp,hn,hW.grown hg hB (fun k hk=>?_)⟩;exact(h0.lt k hk).1
theorem sJ{G:Value->List El×Int->Prop}(hG:iN G)(base:Nat)(w:World)(hown:w.ownsRow base 48 1 (.slice none 0 0) 0 [])(hbase:base<=w.heap.size)(a:Option Addr)(cp:Nat) :
  Calls prog 83 #[.slice none 0 0,.agg #[.int .i64 0,.slice a 0 cp,.int .i64 0,.int .i64 0]] w fun e w'=>fq G base w w' e [] ⟨0,[],0,0⟩:=by
 obtain⟨i0,hi,d,f,g⟩:=info_parts Tryz.info48;have b:=ae hown;clear hown
 go_enter func83,ntmps83
 go_wp2_with (first|(go_at_call 82;refine(oc _ 0 rfl _).mono ?_;rintro e w1 ⟨rfl,h⟩;subst h)|(at_builtin;refine wpList_append_own _ rfl _ _ 146 rfl base 48 i0 .nilIface 1 16 underlying146 hi d f g rfl (by decide) _ _ _ rfl ((b.u.alloc _).alloc _) ⟨w.heap.size+1,0,none⟩ 1 1 [.iface 186 (.agg #[])] rfl rfl ?c1 ?c2 ?c3 ?c4 ?c5 ?_))
 case c1=>exact dm (by simp)
 case c2=>intro u hu;simp at hu;subst hu;rfl
 case c3=>unfold maxLen;simp
 case c4=>simp
 case c5=>simp only[ah];omega
 intro v' w' h1 hg _;have c:=ae (dx ((aH w _ _).mono hbase) (by simp only[ah];omega) ((b.u.alloc _).alloc _) hg h1 (st:=[]) (x:=⟨0,[],0,0⟩) (Or.inl ⟨Or.inl rfl,rfl⟩) ⟨hG.e,trivial⟩);clear hg h1;go_wp2;go_ret;exact c.u
theorem BV{G:Value->List El×Int->Prop}(hG:iN G)(base:Nat)(g cap:Nat)(vals:List Value)(st:List (List El×Int))(w:World)(hown:w.ownsRow base 48 1 (.slice (some ⟨g,0,none⟩) vals.length cap) vals.length vals)(hst:cE G st vals)(hbase:base<=w.heap.size)(hlen:vals.length<=3000)(hnc:vals.length<=cap)(a:Option Addr)(cp:Nat) :
  Calls prog 83 #[.slice (some ⟨g,0,none⟩) vals.length cap,.agg #[.int .i64 0,.slice a 0 cp,.int .i64 0,.int .i64 0]] w fun e w'=>fq G base w w' e st ⟨0,[],0,0⟩:=by
 obtain⟨i0,hi,d,f,h⟩:=info_parts Tryz.info48;have b:=ae hown;clear hown;have j:(vals.length:Int)<=(cap:Int):=by omega
 go_enter func83,ntmps83
 go_wp2_with (first|(go_at_call 82;refine(oc _ 0 rfl _).mono ?_;rintro e w1 ⟨rfl,i⟩;subst i)|(at_builtin;refine wpList_append_own _ rfl _ _ 146 rfl base 48 i0 .nilIface 1 16 underlying146 hi d f h rfl (by decide) _ _ _ rfl ((b.u.alloc _).alloc _) ⟨w.heap.size+1,0,none⟩ 1 1 [.iface 186 (.agg #[])] rfl rfl ?_ ?_ ?_ ?_ ?_ ?_))
 ·exact dm (by simp)
 ·intro u hu;simp at hu;subst hu;rfl
 ·unfold maxLen;omega
 ·omega
 ·simp only[ah];omega
 all_goals
  intro v' w' h1 hg _;have c:=ae (dx (v0:=.slice (some ⟨g,0,none⟩) vals.length cap) (x:=⟨0,[],0,0⟩) ((aH w _ _).mono hbase) (by simp only[ah];omega) ((b.u.alloc _).alloc _) hg h1 (Or.inl ⟨Or.inl rfl,rfl⟩) (hst.append ⟨hG.e,trivial⟩));clear hg h1;go_wp2;go_ret;exact c.u
theorem sy{G:Value->List El×Int->Prop}(hG:iN G)(base:Nat)(sv:Value)(xs:List Int)(w:World)(hown:w.ownsRow base 48 1 (.slice none 0 0) 0 [])(hbase:base<=w.heap.size)(hv:aT 0 w.heap.size w sv xs)(hcn:cU xs) :
  Calls prog 83 #[.slice none 0 0,.agg #[.int .i64 1,sv,.int .i64 0,.int .i64 0]] w fun e w'=>fq G base w w' e [] ⟨1,xs,0,0⟩:=by
 obtain⟨i0,hi,h,i,j⟩:=info_parts Tryz.info48;obtain⟨a,cp,rfl,-,-,-⟩:=id hv;have c:=ae hown;have Hv:=ae hv;clear hown hv
 go_enter func83,ntmps83
 go_wp2_with (first|(go_at_call 82;refine(oc _ 0 rfl _).mono ?_;rintro e w1 ⟨rfl,k⟩;subst k));refine(uo _ xs _ (by exact Hv.u.below (ai w _) lR) hcn).mono ?_;rintro e w1 ⟨q,rfl,d,f⟩;unfold fZ;have l:=ae d;clear d;have hB:Below w.heap.size w w1:=(ai w _).trans (f.mono (by rw[ah];omega));have b:=ae (kw c.u hB lR);have m:=hB.size;clear f
 go_wp2_with (at_builtin;refine wpList_append_own _ rfl _ _ 146 rfl base 48 i0 .nilIface 1 16 underlying146 hi h i j rfl (by decide) _ _ _ rfl (b.u.alloc _) ⟨w1.heap.size,0,none⟩ 1 1 [.iface 91 (.agg #[.int .u64 (q 0:Nat),.int .u64 (q 1:Nat),.int .u64 (q 2:Nat),.int .u64 (q 3:Nat)])] rfl rfl ?_ ?_ ?_ ?_ ?_ ?_)
 ·exact dm (by simp)
 ·intro u hu;simp at hu;subst hu;rfl
 ·unfold maxLen;simp
 ·simp
 ·simp only[ah];omega
 all_goals
  intro v' w' h1 hg _;have g:=ae (dx (v0:=.slice none 0 0) (st:=[]) (x:=⟨1,xs,0,0⟩) (((hB.mono hbase)).alloc (by omega) _) (by simp only[ah];omega) (b.u.alloc _) hg h1 (Or.inl ⟨Or.inr rfl,rfl⟩) ⟨hG.s hcn l.u,trivial⟩);clear hg h1;go_wp2;go_ret;exact g.u
theorem BN{G:Value->List El×Int->Prop}(hG:iN G)(base:Nat)(g cap:Nat)(vals:List Value)(st:List (List El×Int))(sv:Value)(xs:List Int)(w:World)(hown:w.ownsRow base 48 1 (.slice (some ⟨g,0,none⟩) vals.length cap) vals.length vals)(hst:cE G st vals)(hbase:base<=w.heap.size)(hlen:vals.length<=3000)(i:vals.length<=cap)(hcm:cap<=maxLen)(hv:aT 0 w.heap.size w sv xs)(hcn:cU xs) :
  Calls prog 83 #[.slice (some ⟨g,0,none⟩) vals.length cap,.agg #[.int .i64 1,sv,.int .i64 0,.int .i64 0]] w fun e w'=>fq G base w w' e st ⟨1,xs,0,0⟩:=by
 obtain⟨i0,hi,j,k,l⟩:=info_parts Tryz.info48;obtain⟨a,cp,rfl,-,-,-⟩:=id hv;have c:=ae hown;have Hv:=ae hv;clear hown hv;unfold maxLen at hcm;rcases Nat.lt_or_eq_of_le i with hlt|rfl
 all_goals
  go_enter func83,ntmps83
  go_wp2_with (first|(go_at_call 82;refine(oc _ 0 rfl _).mono ?_;rintro e w1 ⟨rfl,m⟩;subst m));refine(uo _ xs _ (by exact Hv.u.below (ai w _) lR) hcn).mono ?_;rintro e w1 ⟨q,rfl,d,f⟩;unfold fZ;have n:=ae d;clear d;have hB:Below w.heap.size w w1:=(ai w _).trans (f.mono (by rw[ah];omega));have b:=ae (kw c.u hB lR);have o:=hB.size;clear f
  go_wp2_with (at_builtin;refine wpList_append_own _ rfl _ _ 146 rfl base 48 i0 .nilIface 1 16 underlying146 hi j k l rfl (by decide) _ _ _ rfl (b.u.alloc _) ⟨w1.heap.size,0,none⟩ 1 1 [.iface 91 (.agg #[.int .u64 (q 0:Nat),.int .u64 (q 1:Nat),.int .u64 (q 2:Nat),.int .u64 (q 3:Nat)])] rfl rfl ?_ ?_ ?_ ?_ ?_ ?_)
  ·exact dm (by simp)
  ·intro u hu;simp at hu;subst hu;rfl
  ·unfold maxLen;omega
  ·omega
  ·simp only[ah];omega
  intro v' w' h1 hg _;have h:=ae (dx (v0:=_) (x:=⟨1,xs,0,0⟩) (((hB.mono hbase)).alloc (by omega) _) (by simp only[ah];omega) (b.u.alloc _) hg h1 (Or.inl ⟨Or.inr rfl,rfl⟩) (hst.append ⟨hG.s hcn n.u,trivial⟩));clear hg h1;go_wp2;go_ret;exact h.u
theorem wC{G:Value->List El×Int->Prop}(hG:iN G)(base:Nat)(g cap:Nat)(vals:List Value)(T:TypeId)(y:Value)(st:List (List El×Int))(o:List El×Int)(mn mx:Int)(w:World)
  (hown:w.ownsRow base 48 1 (.slice (some ⟨g,0,none⟩) (vals.length+1) cap) (vals.length+1) (vals++[.iface T y]))(hst:cE G st vals)(ho:G (.iface T y) o)(o2:0<=mn)(o3:mn<=250)(o4:mx = -1∨(mn<=mx/\mx<=250))(hbase:base<=w.heap.size)(hlen:vals.length+1<=3000)(hnc:vals.length+1<=cap)(a:Option Addr)(cp:Nat) :
  Calls prog 83 #[.slice (some ⟨g,0,none⟩) (vals.length+1) cap,.agg #[.int .i64 4,.slice a 0 cp,.int .i64 mn,.int .i64 mx]] w fun e w'=>fq G base w w' e (st++[o]) ⟨4,[],mn,mx⟩:=by
 obtain⟨i0,hi,d,f,h⟩:=info_parts Tryz.info48;have l:g<w.heap.size:=(hown.lt g rfl).2;have i:w.cell? ⟨g,vals.length,none⟩=some (.iface T y):=by rw[hown.cellAt vals.length (by omega)];simp
 have b:=ae (ownsRow_pop (by omega) hown);clear hown;have k:(vals.length:Int)+1<=(cap:Int):=by omega
 go_enter func83,ntmps83
 go_wp2_with (first|(go_at_call 82;refine(oc _ 1 rfl _).mono ?_;rintro e w1 ⟨rfl,j⟩;subst j))
 go_quiet (fail)
 go_wp2_with (at_builtin;refine wpList_append_own _ rfl _ _ 146 rfl base 48 i0 .nilIface 1 16 underlying146 hi d f h rfl (by decide) _ _ _ rfl ((gx (b.u.alloc _)).alloc _) ⟨w.heap.size+1,0,none⟩ 1 1 [.iface 93 (.agg #[.iface T y,.int .i64 mn,.int .i64 mx])] rfl rfl ?_ ?_ ?_ ?_ ?_ ?_)
 ·refine dm ?_;rw[World.cell?_alloc_at _ _ _ _ (by rw[cR,ah])]
  rfl
 ·intro u hu;simp at hu;subst hu;rfl
 ·unfold maxLen;omega
 ·omega
 ·simp only[ah,cR];omega
 intro v' w' h1 hg _;have c:=ae (dx (st:=st++[o]) (x:=⟨4,[],mn,mx⟩) ((below_drewN ((ai w _).mono hbase) nq).alloc (by simp only[ah,cR];omega) _) (by simp only[ah,cR];omega) ((gx (b.u.alloc _)).alloc _) hg h1 (Or.inr (Or.inr ⟨rfl,st,o,rfl,rfl⟩)) (hst.append ⟨hG.rep ho o2 o3 o4,trivial⟩));clear hg h1;go_wp2;go_ret;exact c.u
theorem vX{G:Value->List El×Int->Prop}(hG:iN G)(base:Nat)(g cap:Nat)(vals:List Value)(T T':TypeId)(y y':Value)(st:List (List El×Int))(l r:List El×Int)(w:World)
  (hown:w.ownsRow base 48 1 (.slice (some ⟨g,0,none⟩) (vals.length+2) cap) (vals.length+2) (vals++[.iface T y,.iface T' y']))(hst:cE G st vals)(hl:G (.iface T y) l)(hr:G (.iface T' y') r)(hbase:base<=w.heap.size)(hlen:vals.length+2<=3000)(hnc:vals.length+2<=cap)(a:Option Addr)(cp:Nat) :
  Calls prog 83 #[.slice (some ⟨g,0,none⟩) (vals.length+2) cap,.agg #[.int .i64 2,.slice a 0 cp,.int .i64 0,.int .i64 0]] w fun e w'=>fq G base w w' e (st++[l,r]) ⟨2,[],0,0⟩:=by
 obtain⟨i0,hi,h,i,j⟩:=info_parts Tryz.info48;have p:g<w.heap.size:=(hown.lt g rfl).2;have k:w.cell? ⟨g,vals.length,none⟩=some (.iface T y):=by rw[hown.cellAt vals.length (by omega)];simp
 have f:w.cell? ⟨g,vals.length+1,none⟩=some (.iface T' y'):=by rw[hown.cellAt (vals.length+1) (by omega)];simp
 have b:w.ownsRow base 48 1 (.slice (some ⟨g,0,none⟩) (vals.length+1) cap) (vals.length+1) (vals++[.iface T y]):=ownsRow_pop (n:=vals.length+1) (last:=[.iface T' y']) (by simp) (by rw[List.append_assoc];exact hown);have c:=ae (ownsRow_pop (by omega) b);clear hown b;have o:(vals.length:Int)+2<=(cap:Int):=by omega
 go_enter func83,ntmps83
 go_wp2_with (first|(go_at_call 82;refine(oc _ 2 rfl _).mono ?_;rintro e w1 ⟨rfl,m⟩;subst m))
 go_quiet (fail)
 go_wp2_with (at_builtin;refine wpList_append_own _ rfl _ _ 146 rfl base 48 i0 .nilIface 1 16 underlying146 hi h i j rfl (by decide) _ _ _ rfl ((gx (c.u.alloc _)).alloc _) ⟨w.heap.size+1,0,none⟩ 1 1 [.iface 95 (.agg #[.iface T y,.iface T' y'])] rfl rfl ?_ ?_ ?_ ?_ ?_ ?_)
 ·refine dm ?_;rw[World.cell?_alloc_at _ _ _ _ (by rw[cR,ah])]
  rfl
 ·intro u hu;simp at hu;subst hu;rfl
 ·unfold maxLen;omega
 ·omega
 ·simp only[ah,cR];omega
 intro v' w' h1 hg _;have d:=ae (dx (st:=st++[l,r]) (x:=⟨2,[],0,0⟩) ((below_drewN ((ai w _).mono hbase) nq).alloc (by simp only[ah,cR];omega) _) (by simp only[ah,cR];omega) ((gx (c.u.alloc _)).alloc _) hg h1 (Or.inr (Or.inl ⟨Or.inl rfl,st,l,r,rfl,rfl⟩)) (hst.append ⟨hG.cat hl hr,trivial⟩));clear hg h1;go_wp2;go_ret;exact d.u
theorem vJ{G:Value->List El×Int->Prop}(hG:iN G)(base:Nat)(g cap:Nat)(vals:List Value)(T T':TypeId)(y y':Value)(st:List (List El×Int))(l r:List El×Int)(w:World)
  (hown:w.ownsRow base 48 1 (.slice (some ⟨g,0,none⟩) (vals.length+2) cap) (vals.length+2) (vals++[.iface T y,.iface T' y']))(hst:cE G st vals)(hl:G (.iface T y) l)(hr:G (.iface T' y') r)(hbase:base<=w.heap.size)(hlen:vals.length+2<=3000)(hnc:vals.length+2<=cap)(a:Option Addr)(cp:Nat) :
  Calls prog 83 #[.slice (some ⟨g,0,none⟩) (vals.length+2) cap,.agg #[.int .i64 3,.slice a 0 cp,.int .i64 0,.int .i64 0]] w fun e w'=>fq G base w w' e (st++[l,r]) ⟨3,[],0,0⟩:=by
 obtain⟨i0,hi,h,i,j⟩:=info_parts Tryz.info48;have p:g<w.heap.size:=(hown.lt g rfl).2;have k:w.cell? ⟨g,vals.length,none⟩=some (.iface T y):=by rw[hown.cellAt vals.length (by omega)];simp
 have f:w.cell? ⟨g,vals.length+1,none⟩=some (.iface T' y'):=by rw[hown.cellAt (vals.length+1) (by omega)];simp
 have b:w.ownsRow base 48 1 (.slice (some ⟨g,0,none⟩) (vals.length+1) cap) (vals.length+1) (vals++[.iface T y]):=ownsRow_pop (n:=vals.length+1) (last:=[.iface T' y']) (by simp) (by rw[List.append_assoc];exact hown);have c:=ae (ownsRow_pop (by omega) b);clear hown b;have o:(vals.length:Int)+2<=(cap:Int):=by omega
 go_enter func83,ntmps83
 go_wp2_with (first|(go_at_call 82;refine(oc _ 2 rfl _).mono ?_;rintro e w1 ⟨rfl,m⟩;subst m))
 go_quiet (fail)
 go_wp2_with (at_builtin;refine wpList_append_own _ rfl _ _ 146 rfl base 48 i0 .nilIface 1 16 underlying146 hi h i j rfl (by decide) _ _ _ rfl ((gx (c.u.alloc _)).alloc _) ⟨w.heap.size+1,0,none⟩ 1 1 [.iface 149 (.agg #[.iface T y,.iface T' y'])] rfl rfl ?_ ?_ ?_ ?_ ?_ ?_)
 ·refine dm ?_;rw[World.cell?_alloc_at _ _ _ _ (by rw[cR,ah])]
  rfl
 ·intro u hu;simp at hu;subst hu;rfl
 ·unfold maxLen;omega
 ·omega
 ·simp only[ah,cR];omega
 intro v' w' h1 hg _;have d:=ae (dx (st:=st++[l,r]) (x:=⟨3,[],0,0⟩) ((below_drewN ((ai w _).mono hbase) nq).alloc (by simp only[ah,cR];omega) _) (by simp only[ah,cR];omega) ((gx (c.u.alloc _)).alloc _) hg h1 (Or.inr (Or.inl ⟨Or.inr rfl,st,l,r,rfl,rfl⟩)) (hst.append ⟨hG.alt hl hr,trivial⟩));clear hg h1;go_wp2;go_ret;exact d.u
theorem kG{G:Value->List El×Int->Prop}(hG:iN G)(base:Nat)(v sv:Value)(vals:List Value)(st:List (List El×Int))(x:El)(w:World)(c:w.ownsRow base 48 1 v vals.length vals)(hst:cE G st vals)(hbase:base<=w.heap.size)(hlen:vals.length<=3000)
  (hv:aT 0 w.heap.size w sv x.set)(ok:iD x)(hcnt:Cu x.kind<=vals.length) :
  Calls prog 83 #[v,.agg #[.int .i64 x.kind,sv,.int .i64 x.mn,.int .i64 x.mx]] w fun e w'=>fq G base w w' e st x:=by
 obtain⟨k,xs,mn,mx⟩:=x;have i:=hst.len;rcases ok with ⟨q1,q2,q3,q4⟩|⟨q1,q2,q3,q4⟩|⟨q1,q2,q3⟩
 ·simp only at q1 q2 q3 q4 hv;subst q1 q3 q4;rcases c.2 with ⟨rfl,hn⟩|⟨g,cap,cur,rfl,j,hg,d,f,m,h⟩
  ·obtain rfl:vals=[]:=List.eq_nil_of_length_eq_zero hn;obtain rfl:st=[]:=List.eq_nil_of_length_eq_zero (by simpa using i);exact sy hG base sv xs w c hbase hv q2
  exact BN hG base g cap vals st sv xs w c hst hbase hlen d f hv q2
 ·simp only at q1 q2 q3 q4 hv;subst q3 q4;obtain rfl:=List.eq_nil_of_length_eq_zero q2;obtain⟨a,cp,rfl,-,-,-⟩:=hv;rcases q1 with rfl|rfl|rfl
  ·rcases c.2 with ⟨rfl,hn⟩|⟨g,cap,cur,rfl,j,hg,d,f,m,h⟩
   ·obtain rfl:vals=[]:=List.eq_nil_of_length_eq_zero hn;obtain rfl:st=[]:=List.eq_nil_of_length_eq_zero (by simpa using i);exact sJ hG base w c hbase a cp
   exact BV hG base g cap vals st w c hst hbase hlen d a cp
  ·have n:(2:Int)<=vals.length:=hcnt;obtain⟨b,l,r,rfl⟩:=xJ (st:=st) (by omega);obtain⟨u,z,rfl,hu,hz⟩:=hst.split;obtain⟨y1,y2,rfl,h1,h2⟩:=hz.two;obtain⟨T,y,rfl⟩:=(hG.sz h1).iface;obtain⟨T',y',rfl⟩:=(hG.sz h2).iface;obtain⟨g,cap,rfl,d,f⟩:=lP c (by omega);simp only[List.length_append,List.length_cons,List.length_nil]at c hlen d ⊢;exact vX hG base g cap u T T' y y' b l r w c hu h1 h2 hbase hlen d a cp
  have n:(2:Int)<=vals.length:=hcnt;obtain⟨b,l,r,rfl⟩:=xJ (st:=st) (by omega);obtain⟨u,z,rfl,hu,hz⟩:=hst.split;obtain⟨y1,y2,rfl,h1,h2⟩:=hz.two;obtain⟨T,y,rfl⟩:=(hG.sz h1).iface;obtain⟨T',y',rfl⟩:=(hG.sz h2).iface;obtain⟨g,cap,rfl,d,f⟩:=lP c (by omega);simp only[List.length_append,List.length_cons,List.length_nil]at c hlen d ⊢;exact vJ hG base g cap u T T' y y' b l r w c hu h1 h2 hbase hlen d a cp
 simp only at q1 q2 q3 hv;subst q1;obtain rfl:=List.eq_nil_of_length_eq_zero q2;obtain⟨a,cp,rfl,-,-,-⟩:=hv;have p:(1:Int)<=vals.length:=hcnt;obtain⟨b,o,rfl⟩:=vl (st:=st) (by omega);obtain⟨u,z,rfl,hu,hz⟩:=hst.split;obtain⟨y1,rfl,h1⟩:=hz.one;obtain⟨T,y,rfl⟩:=(hG.sz h1).iface;obtain⟨g,cap,rfl,d,f⟩:=lP c (by simp);simp only[List.length_append,List.length_cons,List.length_nil]at c hlen d ⊢;exact wC hG base g cap u T y b o mn mx w c hu h1 q3.1 q3.2.1 q3.2.2 hbase hlen d a cp
def jG(G:Value->List El×Int->Prop)(e:Ending)(xs:List El):Prop:=
 (∃ u c,e=.returned (.tuple #[u,.bool true])/\bw xs/\G u (xs,c)/\c<=500/\aM xs c)∨(e=.returned (.tuple #[.nilIface,.bool false])/\¬ bw xs)
theorem jG.no{G:Value->List El×Int->Prop}{xs:List El}(h:¬ bw xs):jG G (.returned (.tuple #[.nilIface,.bool false])) xs:=Or.inr ⟨rfl,h⟩
theorem se{G:Value->List El×Int->Prop}(hG:iN G)(v:Value)(xs:List El)(w:World)(hv:az 0 w.heap.size w v xs) :
  Calls prog 42 #[v] w fun e w'=>jG G e xs/\Below w.heap.size w w':=by
 obtain⟨a,cp,rfl,hl,hc⟩:=hv;unfold maxLen at hl
 by_cases n1:xs.length<1
 ·have n1':(xs.length:Int)<1:=by omega
  go_enter func42,ntmps42
  go_wp2
  go_ret2;exact⟨jG.no (fun h=>by have:=h.1;omega),Below.refl _ _⟩
 have n1':¬ (xs.length:Int)<1:=by omega
 by_cases n2:3000<xs.length
 ·have n2':3000<(xs.length:Int):=by omega
  go_enter func42,ntmps42
  go_wp2
  go_ret2;exact⟨jG.no (fun h=>by have:=h.1;omega),Below.refl _ _⟩
 have n2':¬ 3000<(xs.length:Int):=by omega
 go_enter func42,ntmps42
 go_wp2
 go_loopw [4,17] (fun sv i wr=>∃ (k:Nat) (vals:List Value) (st:List (List El×Int)),k<=xs.length/\i=.int .i64 k/\wr.ownsRow w.heap.size 48 1 sv vals.length vals/\cE G st vals/\flats st=xs.take k/\(∀ s∈st,aM s.1 s.2)/\(∀ j:Nat,j<k->iD (xs[j]?.getD dE))/\Below w.heap.size w wr) (fun _ i _=>xs.length-(intOf i).toNat)
 case atStart=>exact⟨0,[],[],Nat.zero_le _,rfl,World.ownsRow_nil _ _ _ _,trivial,by simp[flats],by simp,fun j hj=>absurd hj (Nat.not_lt_zero _),Below.refl _ _⟩
 obtain⟨k,vals,st,hk,rfl,p,D,E,H,hok,hb⟩:=hrel;have P:=D.len;have a8:vals.length<=k:=by
  have h1:=dc (fun s hs=>(H s hs).ws);have h2:=(oY (flats st)).2;rw[h1,E,List.length_take]at h2;omega
 obtain⟨ao,sc,rfl⟩:=ww p;have o:=ae p;have Q:=ae D;have z:=ae E;have A:=ae H;have R:=ae hok;clear p D E H hok
 by_cases hlt:k<xs.length
 ·obtain⟨b,off,rfl,-,Z,S⟩:=hc (by omega);obtain⟨i1,i2,i3,v,c0,c1,c2,c3,f⟩:=(S k hlt).same (ew.of_below hb lR) (Nat.zero_le _) Z;have a5:(k:Int)<(xs.length:Int):=by omega
  generalize hX:xs[k]?.getD dE=x at *;have HX:=ae hX;clear hX S;obtain⟨a',cap',rfl,-,-,-⟩:=id f
  go_wp2_with fail;refine(km _ x _ (by exact(f.mono lR hb.size).below (ai wr _) lR)).mono ?_;rintro e w1 ⟨U,l⟩;obtain⟨I,J⟩:=cq l;simp only[ah]at I J;have m:Below wr.heap.size wr w1:=(ai wr _).trans (l.mono (by rw[ah];omega));have K:Below w.heap.size w w1:=hb.trans (m.mono hb.size);have a6:=m.size;have a7:=hb.size;clear l;rcases U.cases with ⟨rfl,q⟩|⟨rfl,B⟩
  ·have d:=ae q;clear q
   by_cases hcn:(vals.length:Int)<Cu x.kind
   ·go_wp2_with (go_at_call 82;refine(dY _ _).mono ?_;rintro e w2 ⟨rfl,L⟩;subst L)
    go_ret2;exact⟨jG.no (vK hlt z.u A.u (by rw[HX.u];exact d.u) (by rw[HX.u,P];exact hcn)),K⟩
   go_wp2_with (go_at_call 82;refine(dY _ _).mono ?_;rintro e w2 ⟨rfl,L⟩;subst L);refine(kG hG w.heap.size _ _ vals st x _ (kw o.u m lR) Q.u (by omega) (by omega) ((f.mono lR hb.size).below m lR) d.u (by omega)).mono ?_;rintro e w3 ⟨v',vals',st',rfl,r,hp,hn,V⟩;have n:=ae (show flats st'=xs.take (k+1)/\(∀ s∈st',aM s.1 s.2)/\cE G st' vals' from⟨hp.flats.trans (by rw[z.u,cK hlt,HX.u]),hp.seg d.u A.u,hn⟩);have M:=ae r;have a0:=K.trans V;clear r hp hn V I J;go_wp2
   go_roundw
   case rel=>exact⟨k+1,vals',st',by omega,by go_num,M.u,n.u.2.2,n.u.1,n.u.2.1,fun j hj=>by
    by_cases e:j=k
    ·subst e;rw[HX.u];exact d.u
    exact R.u j (by omega),a0⟩
   simp[intOf];omega
  have W:=ae B;clear B;go_wp2
  go_ret2;exact⟨jG.no (fun h=>by have:=h.2.1 k hlt;rw[HX.u]at this;exact W.u this),K⟩
 obtain rfl:k=xs.length:=by omega
 have X:flats st=xs:=by have h:=z.u;rwa [List.take_length]at h
 have Y:=ae X;clear X z
 by_cases hone:vals.length=1
 ·obtain⟨u,rfl⟩:=List.length_eq_one_iff.1 hone;obtain⟨t,rfl⟩:=List.length_eq_one_iff.1 (P.trans hone);obtain⟨u',e1,hu⟩:=Q.u.one;simp only[List.cons.injEq,and_true]at e1;subst e1;have hT:=A.u t (by simp);have N:xs=t.1:=by rw[<-Y.u,jX]
  have a1:Hi (G u (xs,t.2)):=by rw[N];exact hu
  rw[<-N]at hT;have HT:Hi (aM xs t.2):=hT;have C:=ae (hT.run []);have a2:=ae (show uQ xs from⟨hT.ws,hT.tl⟩);clear N hT;have O:=hG.sz hu;have bt:=O.2;obtain⟨T,y,F,rfl,hm,a9,hF⟩:=O.1;generalize t.2=c at *;have HF:=ae hF;clear hF hu O;obtain⟨g,cap,e2,aa,ab⟩:=lP o.u (by simp);simp only[Value.slice.injEq]at e2;obtain⟨rfl,-,rfl⟩:=e2;have a3:wr.cell? ⟨g,0,none⟩=some (.iface T y):=by rw[o.u.cellAt 0 (by simp)];rfl
  have ad:g<wr.heap.size:=(o.u.lt g rfl).2;clear hone;simp only[List.length_cons,List.length_nil,Nat.zero_add]at *
  go_wp2_with fail
  with_reducible refine(HF.u _).mono ?_
  rintro e w1 ⟨rfl,l⟩;obtain⟨I,J⟩:=cq l;have m:=hb.trans (l.mono hb.size);clear l
  by_cases h5:500<c
  ·go_wp2
   go_ret2;exact⟨jG.no (fun h=>by obtain⟨-,-,-,t2,e2,h2⟩:=h;rw[C.u]at e2;simp only[List.cons.injEq,and_true]at e2;omega),m⟩
  go_wp2
  go_ret2;exact⟨Or.inl ⟨_,c,rfl,⟨⟨by omega,by omega⟩,R.u,a2.u,c,C.u,by omega⟩,a1.u,by omega,HT.u⟩,m⟩
 have a4:((vals.length:Int)!=1)=true:=by simp;omega
 go_wp2
 go_ret2;exact⟨jG.no (fun h=>by have h1:=dc (fun s hs=>(A.u s hs).ws);rw[Y.u,h.2.2.1.1]at h1;omega),hb⟩
theorem fV(base n:Nat)(v:Value)(vals:List Value)(w:World)(hown:w.ownsRow base 48 1 v n vals)(hn:0<n)(hif:∀ u∈vals,∃ T x,u=.iface T x)(hl:n<=1000000) :
  Calls prog 116 #[v] w fun e w'=>e=.returned (jV vals)/\w'=w:=by
 have h1:=hown.1;rw[Nat.mul_one]at h1;cases vals with
 | nil=>simp at h1;omega
 | cons p r =>
  have e:n=r.length+1:=by rw[<-h1];rfl
  subst e;exact nt base v p r w hown hif (by omega)
def cB(U:Value)(mn mx:Int):List Value:=
 if mx = -1 then List.replicate (mn-1).toNat U++[rV U (if 1<mn then 1 else mn) (-1)]
 else List.replicate mn.toNat U++List.replicate (mx-mn).toNat (aV U eV)
def dd(u U:Value):Prop:=(∃ T x,U=.iface T x)/\∀ w,Calls prog 43 #[u] w fun e w'=>e=.returned U/\Below w.heap.size w w'
theorem fE(T:TypeId)(y:Value)(n:Int)(k:Nat)(hk:n.toNat=k)(w:World)(hn:n<=1000) :
  Calls prog 117 #[.iface T y,.int .i64 n] w fun e w'=>∃ v,e=.returned v/\w'.ownsRow w.heap.size 48 1 v k (List.replicate k (.iface T y))/\Below w.heap.size w w':=by
 subst hk;exact th T y n w hn
theorem jz{b b' e size n:Nat}{w:World}{v:Value}{xs:List Value}(h:w.ownsRow b e size v n xs)(hb:b=b'):w.ownsRow b' e size v n xs:=hb ▸ h
theorem gZ(T:TypeId)(y:Value)(mn:Int)(w:World) :
  Calls prog 84 #[.agg #[.iface T y,.int .i64 mn,.int .i64 0]] w fun e w'=>e=.returned eV/\Below w.heap.size w w':=by
 go_enter func84,ntmps84
 go_wp2;go_ret;exact⟨rfl,ai w _⟩
theorem ib(T:TypeId)(y:Value)(T':TypeId)(y':Value)(mn:Int)(w:World)(h:dd (.iface T y) (.iface T' y'))(o2:0<=mn)(o3:mn<=250) :
  Calls prog 84 #[.agg #[.iface T y,.int .i64 mn,.int .i64 (-1)]] w fun e w'=>e=.returned (jV (cB (.iface T' y') mn (-1)))/\Below w.heap.size w w':=by
 obtain⟨i0,hi,r,s,v⟩:=info_parts Tryz.info48;have HE:=ae h.2;clear h;have E:IntKind.i64.wrap (mn-1)=mn-1:=by rw[IntKind.wrap_i64];omega
 have F:wrap64 (mn-1)=mn-1:=by unfold wrap64;omega
 obtain⟨K,B⟩ : ∃ K:Nat,(mn-1).toNat=K:=⟨_,rfl⟩;have G:K<=250:=by omega
 have HK:=ae B;clear B
 by_cases h1:1<mn
 ·have D:min mn 1=1:=by omega
  go_enter func84,ntmps84
  go_wp2_with fail;refine(HE.u _).mono ?_;rintro e w1 ⟨rfl,i⟩;have x:Below w.heap.size w w1:=(ai w _).trans (i.mono (by rw[ah];omega));obtain⟨j,-⟩:=cq i;have m:=i.size;rw[ah]at m;have q0:w1.cell? ⟨w.heap.size,0,none⟩=some (.iface T y):=by rw[j _ _ (by rw[ah];omega)];simp
  have q1:w1.cell? ⟨w.heap.size,1,none⟩=some (.int .i64 mn):=by rw[j _ _ (by rw[ah];omega)];simp
  have q2:w1.cell? ⟨w.heap.size,2,none⟩=some (.int .i64 (-1)):=by rw[j _ _ (by rw[ah];omega)];simp
  have C:w.heap.size<w1.heap.size:=by omega
  clear i j;have z:Hi (∀ (w2 w3:World) (v3:Value),Below (w1.heap.size+1) (w1.alloc (.cells #[.iface T' y',.int .i64 1,.int .i64 (-1)] 93)) w2->Below (w1.heap.size+1) w2 w3->Below w.heap.size w w3):=fun w2 w3 v3 a1 a2 =>
   x.trans (((ai w1 _).mono (by omega)).trans ((a1.mono (by omega)).trans (a2.mono (by omega))))
  have hJ:Hi (List.replicate K (.iface T' y')++[.iface 93 (.agg #[.iface T' y',.int .i64 1,.int .i64 (-1)])]=cB (.iface T' y') mn (-1)):=by
   unfold cB;rw[if_pos rfl,HK.u]
   first|rw[if_pos h1] | rw[if_neg (by omega)]
   rfl
  go_wp2_with fail
  go_region_law (((first|(refine dS 117 #[.iface T' y',.int .i64 (mn-1)] rfl (by kernel_rfl) (fE T' y' (mn-1) K HK.u _ (by omega)) ?_;rintro e w2 ⟨v2,rfl,b,a⟩;refine⟨_,rfl,?_⟩;have c:Below (w1.heap.size+1) (w1.alloc (.cells #[.iface T' y',.int .i64 1,.int .i64 (-1)] 93)) w2:=⟨a.os,a.tape,a.output,a.size,fun k hk=>a.block k (by simpa using hk)⟩;have f:w1.heap.size+1<=w2.heap.size:=(by have:=c.size;rwa [ah]at this);have c0:w2.cell? ⟨w1.heap.size,0,none⟩=some (.iface T' y'):=(by rw[c.cell (p:=⟨w1.heap.size,0,none⟩) (by show w1.heap.size<w1.heap.size+1;omega)];simp);have c1:w2.cell? ⟨w1.heap.size,1,none⟩=some (.int .i64 1):=(by rw[c.cell (p:=⟨w1.heap.size,1,none⟩) (by show w1.heap.size<w1.heap.size+1;omega)];simp);have c2:w2.cell? ⟨w1.heap.size,2,none⟩=some (.int .i64 (-1)):=(by rw[c.cell (p:=⟨w1.heap.size,2,none⟩) (by show w1.heap.size<w1.heap.size+1;omega)];simp);have d:Hi (w2.ownsRow (w1.heap.size+1) 48 1 v2 K (List.replicate K (.iface T' y'))):=jz b (ah w1 (.cells #[.iface T' y',.int .i64 1,.int .i64 (-1)] 93));clear b a)|(refine dS 117 #[.iface T' y',.int .i64 (mn-1)] rfl (by kernel_rfl) (fE T' y' (mn-1) K HK.u _ (by omega)) ?_;rintro e w2 ⟨v2,rfl,b,a⟩;refine⟨_,rfl,?_⟩;have c:Below (w1.heap.size+1) (w1.alloc (.cells #[.iface T' y',.int .i64 1,.int .i64 (-1)] 93)) w2:=(ai _ (.cells #[.iface 93 (.agg #[.iface T' y',.int .i64 1,.int .i64 (-1)])] 48)).mono (by rw[ah];omega) |>.trans ⟨a.os,a.tape,a.output,a.size,fun k hk=>a.block k (by simp;omega)⟩;have f:w1.heap.size+1<=w2.heap.size:=(by have:=c.size;rwa [ah]at this);have n:w2.cell? ⟨w1.heap.size+1,0,none⟩=some (.iface 93 (.agg #[.iface T' y',.int .i64 1,.int .i64 (-1)])):=(by rw[a.cell (p:=⟨w1.heap.size+1,0,none⟩) (by show w1.heap.size+1<_;simp)];simp);have d:Hi (w2.ownsRow (w1.heap.size+1) 48 1 v2 K (List.replicate K (.iface T' y'))):=aS b (by simp);have A:=ae n;clear b a n)|(refine step_append_lies _ rfl (.tmp 26) (.tmp 29) 146 rfl (w1.heap.size+1) 48 i0 .nilIface 1 16 underlying146 hi r s v rfl (by decide) v2 K (List.replicate K (.iface T' y')) (by simp[Act.eval]) (by refine aK.own (w:=w2) (o:=(.cells #[.iface 93 (.agg #[.iface T' y',.int .i64 1,.int .i64 (-1)])] 48)) ?_ d.u;exact⟨rfl,rfl,rfl,rfl⟩) ⟨w2.heap.size,0,none⟩ 1 1 [.iface 93 (.agg #[.iface T' y',.int .i64 1,.int .i64 (-1)])] (by simp[Act.eval]) rfl (by refine aK.news (w:=w2) (cs:=#[.iface 93 (.agg #[.iface T' y',.int .i64 1,.int .i64 (-1)])]) (t:=48) ?_;exact⟨rfl,rfl,rfl,rfl⟩) (fun u hu=>by obtain rfl:=List.mem_singleton.1 hu;rfl) (by decide) (by unfold maxLen;omega) (by omega) (by show w1.heap.size+1<=(w2.alloc _).heap.size;rw[ah];omega) (w2.heap.size+1) (ah w2 _) (fun g cap' w3 r1 r2 r3 r4=>?_);have q:Below (w1.heap.size+1) w2 w3:=(((ai w2 _).mono f).grown r2 (by show w1.heap.size+1<=(w2.alloc _).heap.size;rw[ah];omega) (fun k hk=>(d.u.lt k hk).1));have R1:=ae r1;clear r1 r2 r3 r4)|(refine step_append_lies _ rfl (.tmp 26) (.tmp 29) 146 rfl (w1.heap.size+1) 48 i0 .nilIface 1 16 underlying146 hi r s v rfl (by decide) v2 K (List.replicate K (.iface T' y')) (by simp[Act.eval]) d.u ⟨w1.heap.size+1,0,none⟩ 1 1 [.iface 93 (.agg #[.iface T' y',.int .i64 1,.int .i64 (-1)])] (by simp[Act.eval]) rfl (dm A.u) (fun u hu=>by obtain rfl:=List.mem_singleton.1 hu;rfl) (by decide) (by unfold maxLen;omega) (by omega) f w2.heap.size rfl (fun g cap' w3 r1 r2 r3 r4=>?_);have q:Below (w1.heap.size+1) w2 w3:=((Below.refl (w1.heap.size+1) w2).grown r2 f (fun k hk=>(d.u.lt k hk).1));have R1:=ae r1;clear r1 r2 r3 r4)|(refine dS 116 #[.slice (some ⟨g,0,none⟩) (K+1) cap'] rfl (by kernel_rfl) (fV _ _ _ _ w3 R1.u (by omega) (fun u hu=>by rcases List.mem_append.1 hu with hu|hu;exact⟨_,_,(List.mem_replicate.1 hu).2⟩;exact⟨_,_,List.mem_singleton.1 hu⟩) (by omega)) ?_;rintro e w4 ⟨rfl,rfl⟩;refine⟨_,rfl,?_⟩))))
  all_goals
   go_wp2;go_ret;exact⟨congrArg (fun l=>Ending.returned (jV l)) hJ.u,z.u _ _ v2 c q⟩
 have D:min mn 1=mn:=by omega
 go_enter func84,ntmps84
 go_wp2_with fail;refine(HE.u _).mono ?_;rintro e w1 ⟨rfl,i⟩;have x:Below w.heap.size w w1:=(ai w _).trans (i.mono (by rw[ah];omega));obtain⟨j,-⟩:=cq i;have m:=i.size;rw[ah]at m;have q0:w1.cell? ⟨w.heap.size,0,none⟩=some (.iface T y):=by rw[j _ _ (by rw[ah];omega)];simp
 have q1:w1.cell? ⟨w.heap.size,1,none⟩=some (.int .i64 mn):=by rw[j _ _ (by rw[ah];omega)];simp
 have q2:w1.cell? ⟨w.heap.size,2,none⟩=some (.int .i64 (-1)):=by rw[j _ _ (by rw[ah];omega)];simp
 have C:w.heap.size<w1.heap.size:=by omega
 clear i j;have z:Hi (∀ (w2 w3:World) (v3:Value),Below (w1.heap.size+1) (w1.alloc (.cells #[.iface T' y',.int .i64 mn,.int .i64 (-1)] 93)) w2->Below (w1.heap.size+1) w2 w3->Below w.heap.size w w3):=fun w2 w3 v3 a1 a2 =>
  x.trans (((ai w1 _).mono (by omega)).trans ((a1.mono (by omega)).trans (a2.mono (by omega))))
 have hJ:Hi (List.replicate K (.iface T' y')++[.iface 93 (.agg #[.iface T' y',.int .i64 mn,.int .i64 (-1)])]=cB (.iface T' y') mn (-1)):=by
  unfold cB;rw[if_pos rfl,HK.u]
  first|rw[if_pos h1] | rw[if_neg (by omega)]
  rfl
 go_wp2_with fail
 go_region_law (((first|(refine dS 117 #[.iface T' y',.int .i64 (mn-1)] rfl (by kernel_rfl) (fE T' y' (mn-1) K HK.u _ (by omega)) ?_;rintro e w2 ⟨v2,rfl,b,a⟩;refine⟨_,rfl,?_⟩;have c:Below (w1.heap.size+1) (w1.alloc (.cells #[.iface T' y',.int .i64 mn,.int .i64 (-1)] 93)) w2:=⟨a.os,a.tape,a.output,a.size,fun k hk=>a.block k (by simpa using hk)⟩;have f:w1.heap.size+1<=w2.heap.size:=(by have:=c.size;rwa [ah]at this);have c0:w2.cell? ⟨w1.heap.size,0,none⟩=some (.iface T' y'):=(by rw[c.cell (p:=⟨w1.heap.size,0,none⟩) (by show w1.heap.size<w1.heap.size+1;omega)];simp);have c1:w2.cell? ⟨w1.heap.size,1,none⟩=some (.int .i64 mn):=(by rw[c.cell (p:=⟨w1.heap.size,1,none⟩) (by show w1.heap.size<w1.heap.size+1;omega)];simp);have c2:w2.cell? ⟨w1.heap.size,2,none⟩=some (.int .i64 (-1)):=(by rw[c.cell (p:=⟨w1.heap.size,2,none⟩) (by show w1.heap.size<w1.heap.size+1;omega)];simp);have d:Hi (w2.ownsRow (w1.heap.size+1) 48 1 v2 K (List.replicate K (.iface T' y'))):=jz b (ah w1 (.cells #[.iface T' y',.int .i64 mn,.int .i64 (-1)] 93));clear b a)|(refine dS 117 #[.iface T' y',.int .i64 (mn-1)] rfl (by kernel_rfl) (fE T' y' (mn-1) K HK.u _ (by omega)) ?_;rintro e w2 ⟨v2,rfl,b,a⟩;refine⟨_,rfl,?_⟩;have c:Below (w1.heap.size+1) (w1.alloc (.cells #[.iface T' y',.int .i64 mn,.int .i64 (-1)] 93)) w2:=(ai _ (.cells #[.iface 93 (.agg #[.iface T' y',.int .i64 mn,.int .i64 (-1)])] 48)).mono (by rw[ah];omega) |>.trans ⟨a.os,a.tape,a.output,a.size,fun k hk=>a.block k (by simp;omega)⟩;have f:w1.heap.size+1<=w2.heap.size:=(by have:=c.size;rwa [ah]at this);have n:w2.cell? ⟨w1.heap.size+1,0,none⟩=some (.iface 93 (.agg #[.iface T' y',.int .i64 mn,.int .i64 (-1)])):=(by rw[a.cell (p:=⟨w1.heap.size+1,0,none⟩) (by show w1.heap.size+1<_;simp)];simp);have d:Hi (w2.ownsRow (w1.heap.size+1) 48 1 v2 K (List.replicate K (.iface T' y'))):=aS b (by simp);have A:=ae n;clear b a n)|(refine step_append_lies _ rfl (.tmp 26) (.tmp 29) 146 rfl (w1.heap.size+1) 48 i0 .nilIface 1 16 underlying146 hi r s v rfl (by decide) v2 K (List.replicate K (.iface T' y')) (by simp[Act.eval]) (by refine aK.own (w:=w2) (o:=(.cells #[.iface 93 (.agg #[.iface T' y',.int .i64 mn,.int .i64 (-1)])] 48)) ?_ d.u;exact⟨rfl,rfl,rfl,rfl⟩) ⟨w2.heap.size,0,none⟩ 1 1 [.iface 93 (.agg #[.iface T' y',.int .i64 mn,.int .i64 (-1)])] (by simp[Act.eval]) rfl (by refine aK.news (w:=w2) (cs:=#[.iface 93 (.agg #[.iface T' y',.int .i64 mn,.int .i64 (-1)])]) (t:=48) ?_;exact⟨rfl,rfl,rfl,rfl⟩) (fun u hu=>by obtain rfl:=List.mem_singleton.1 hu;rfl) (by decide) (by unfold maxLen;omega) (by omega) (by show w1.heap.size+1<=(w2.alloc _).heap.size;rw[ah];omega) (w2.heap.size+1) (ah w2 _) (fun g cap' w3 r1 r2 r3 r4=>?_);have q:Below (w1.heap.size+1) w2 w3:=(((ai w2 _).mono f).grown r2 (by show w1.heap.size+1<=(w2.alloc _).heap.size;rw[ah];omega) (fun k hk=>(d.u.lt k hk).1));have R1:=ae r1;clear r1 r2 r3 r4)|(refine step_append_lies _ rfl (.tmp 26) (.tmp 29) 146 rfl (w1.heap.size+1) 48 i0 .nilIface 1 16 underlying146 hi r s v rfl (by decide) v2 K (List.replicate K (.iface T' y')) (by simp[Act.eval]) d.u ⟨w1.heap.size+1,0,none⟩ 1 1 [.iface 93 (.agg #[.iface T' y',.int .i64 mn,.int .i64 (-1)])] (by simp[Act.eval]) rfl (dm A.u) (fun u hu=>by obtain rfl:=List.mem_singleton.1 hu;rfl) (by decide) (by unfold maxLen;omega) (by omega) f w2.heap.size rfl (fun g cap' w3 r1 r2 r3 r4=>?_);have q:Below (w1.heap.size+1) w2 w3:=((Below.refl (w1.heap.size+1) w2).grown r2 f (fun k hk=>(d.u.lt k hk).1));have R1:=ae r1;clear r1 r2 r3 r4)|(refine dS 116 #[.slice (some ⟨g,0,none⟩) (K+1) cap'] rfl (by kernel_rfl) (fV _ _ _ _ w3 R1.u (by omega) (fun u hu=>by rcases List.mem_append.1 hu with hu|hu;exact⟨_,_,(List.mem_replicate.1 hu).2⟩;exact⟨_,_,List.mem_singleton.1 hu⟩) (by omega)) ?_;rintro e w4 ⟨rfl,rfl⟩;refine⟨_,rfl,?_⟩))))
 all_goals
  go_wp2;go_ret;exact⟨congrArg (fun l=>Ending.returned (jV l)) hJ.u,z.u _ _ v2 c q⟩
theorem gJ(x y:Value)(w:World):Sem.run prog (callFunc 117 #[x,y]) w=.ok (.enter 117 #[x,y]) w:=by kernel_rfl
theorem re(x:Value)(w:World):Sem.run prog (callFunc 116 #[x]) w=.ok (.enter 116 #[x]) w:=by kernel_rfl
end Go.Proofs.YtpmcjimgkabpeaaGreatDoor
