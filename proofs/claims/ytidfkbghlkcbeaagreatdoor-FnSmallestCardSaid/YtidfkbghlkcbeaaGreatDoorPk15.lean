import Derived.Test.YtidfkbghlkcbeaaGreatDoorPk14
import Derived.Test.YtidfkbghlkcbeaaGreatDoorPk13
namespace Go.Proofs.YtidfkbghlkcbeaaGreatDoor
open Go.RowKit Go.Proofs.Tryz
set_option maxHeartbeats 16000000
set_option maxRecDepth 100000
theorem iM{base n e:Nat}{w:World}{v:Value}{xs:List Value}(h:w.ownsRow base e 1 v n xs)(hp:0<n):∃ g cap,v=.slice (some ⟨g,0,none⟩) n cap/\∀ j:Nat,j<n->w.cell? ⟨g,j,none⟩=xs[j]? :=by
 rcases h.2 with ⟨rfl,hz⟩|⟨g,cap,cur,rfl,b,hg,c,d,f,a⟩
 ·omega
 exact⟨g,cap,rfl,fun j hj=>h.cellAt j (by omega)⟩
theorem tO(ps:List (List El))(h:∀ p∈ps,p.length<=3002):(jn ps).length<=ps.length*3003:=by
 cases ps with
 | nil=>simp[jn]
 | cons p r =>
  have key:∀ (r:List (List El)) (acc:List El),(∀ p∈r,p.length<=3002)->(r.foldl (fun acc q=>acc++q++[lJ]) acc).length<=acc.length+r.length*3003:=by
   intro r
   induction r with
   | nil=>intro acc _;simp
   | cons q r ih =>
    intro acc hq;have h1:=ih (acc++q++[lJ]) (fun p hp=>hq p (by simp[hp]));have h2:=hq q (by simp);simp only[List.foldl_cons,List.length_cons,List.length_append,List.length_nil]at h1 ⊢;omega
  have h1:=key r p (fun q hq=>h q (by simp[hq]));have h2:=h p (by simp);simp only[jn,List.length_cons];omega
theorem BH(ps:List (List El))(h:∀ p∈ps,aY p):aY (jn ps):=by
 cases ps with
 | nil=>exact aY.nil
 | cons p r =>
  have key:∀ (r:List (List El)) (acc:List El),aY acc->(∀ p∈r,aY p)->aY (r.foldl (fun acc q=>acc++q++[lJ]) acc):=by
   intro r
   induction r with
   | nil=>intro acc h _;exact h
   | cons q r ih =>
    intro acc ha hq;exact ih _ ((ha.app (hq q (by simp))).app (aY.op 2 0 0 (by simp[az]) (by simp[az]) (by simp[az]))) (fun p hp=>hq p (by simp[hp]))
  exact key r p (h p (by simp)) (fun q hq=>h q (by simp[hq]))
theorem qg{ps:List Pt}{k:Nat}(h:k<ps.length):jn ((ps.take (k+1)).map Pt.P)=if k=0 then (ps[k]).P else jn ((ps.take k).map Pt.P)++(ps[k]).P++[lJ]:=by
 rw[List.take_succ_eq_append_getElem h,List.map_append]
 by_cases e:k=0
 ·subst e;simp[jn]
 rw[if_neg e];exact pC (by intro q;have:=congrArg List.length q;rw[List.length_map,List.length_take,List.length_nil]at this;omega) _
theorem xM(mn:Int)(x X:List El)(cx:Int)(sx:ba x cx)(Hx:vV x X)(o2:0<=mn)(o3:mn<=250)(nx:aY X)(lx:X.length<=3000):vV (x++[⟨4,[],mn,-1⟩]) (jn (bJ X mn (-1))):=by
 intro v w hv ax;obtain⟨a,cp,rfl,-,-⟩:=id hv;obtain⟨C,Q,b,off,rfl,bn,b0⟩:=hv.last;rw[C]at hv Q ⊢;simp only[List.length_append,List.length_singleton]at hv ax C b0 Q ⊢;unfold maxLen at Q;obtain⟨i1,i2,i3,sv,c0,c1,c2,c3,R⟩:=b0;obtain⟨sa,sc,rfl,-,-,-⟩:=id R;simp only at c0 c2 c3;clear C i1 i2 i3 R;have pl:=sx.ne;have b1:aA 0 w.heap.size w (.slice (some ⟨b,off,none⟩) x.length cp) x:=hv.pre;have b7:=ae b1;have NX:=ae nx;clear b1 hv nx
 go_enter func104,ntmps104
 go_wp2_with fail;refine(Hx _ _ (by exact b7.u.below (ai w _) lR) (by omega)).mono ?_;rintro e w1 ⟨v1,rfl,ad,a7⟩;obtain⟨o1,d1,rfl⟩:=ad.form;have b2:Below w.heap.size w w1:=(ai w _).trans (a7.mono (by rw[ah];omega));have b8:=a7.size;rw[ah]at b8;have RA:=ae ((aC.new w 65 (.int .i64 4) (.slice sa 0 sc) (.int .i64 mn) (.int .i64 (-1))).below a7 (by rw[ah];omega));have af:=ad.foot;rw[ah]at af;have HX:=ae af;obtain⟨q0,q1,q2,q3,-⟩:=aC.facts RA.u;clear a7 ad af;go_wp2
 go_loopw [9,10] (fun pv i wr=>∃ j:Nat,i=.int .i64 ((j:Int)+1)/\(j=0∨(j:Int)+1<=mn)/\jp w1.heap.size wr pv (List.replicate j ⟨X,.slice o1 X.length d1,li (w.heap.size+1) w1.heap.size⟩)/\Below w1.heap.size w1 wr) (fun _ i _=>(mn-intOf i).toNat)
 case atStart=>exact⟨0,rfl,Or.inl rfl,jp.nil _ _,Below.refl _ _⟩
 obtain⟨j,rfl,hj,ag,O⟩:=hrel;clear q0 q1 q2 q3;obtain⟨q0,q1,q2,q3,-⟩:=aC.facts (RA.u.below O (by omega));have a8:=O.size;have z:=ae ag;have a9:=ae (HX.u.same (w':=wr) (fun k hk=>O.block k hk.2));have aa:Hi (∀ k,li (w.heap.size+1) w1.heap.size k->k<wr.heap.size):=fun k hk=>Nat.lt_of_lt_of_le hk.2 a8
 have S:Hi (∀ k,li (w.heap.size+1) w1.heap.size k->∀ (u:Value) (n:Nat) (vs:List Value),wr.ownsRow w1.heap.size 23 1 u n vs->u.ownBlock≠some k):=fun k hk u n vs h e=>by
  have:=(h.lt k e).1;unfold li at hk;omega
 obtain⟨pa,pc,rfl⟩:=aj ag.own;rw[List.length_replicate]at z ⊢;clear ag
 by_cases hlt:(j:Int)+1<mn
 ·go_wp2_with (at_builtin;refine ig ⟨X,.slice o1 X.length d1,li (w.heap.size+1) w1.heap.size⟩ rfl _ _ rfl rfl rfl z.u a8 (Below.refl _ _) a9.u (fun k hk=>⟨aa.u k hk,S.u k hk _ _ _ z.u.own⟩) ⟨rfl,rfl,rfl,rfl⟩ (by rw[List.length_replicate];omega) ?_)
  intro v2 w2 y D;have b9:Hi (jp w1.heap.size w2 v2 (List.replicate (j+1) ⟨X,.slice o1 X.length d1,li (w.heap.size+1) w1.heap.size⟩)):=by rw[List.replicate_succ'];exact y
  clear y;go_wp2
  go_roundw
  case rel=>exact⟨j+1,by go_num,Or.inr (by omega),b9.u,O.trans D⟩
  simp[intOf];omega
 have b3:Hi (j=(mn-1).toNat):=by show j=(mn-1).toNat;omega
 have ab:=ae (a9.u.at (fun k hk=>aa.u k hk) NX.u.num)
 by_cases h1:1<mn
 ·go_wp2_with fail;refine(ml 1 (-1) _ X _ ab.u (by omega) NX.u.len).mono ?_;rintro e w2 ⟨v2,rfl,y,D⟩;obtain⟨p2,d2,rfl⟩ : ∃ a c,v2=.slice a (X.length+1) c:=by have:=y.form;rwa [List.length_append]at this
  have T:=ae y.foot;clear y
  go_wp2_with (at_builtin;refine ig ⟨X++[⟨4,[],1,-1⟩],.slice p2 (X.length+1) d2,li wr.heap.size w2.heap.size⟩ rfl _ _ rfl rfl rfl z.u a8 D T.u (fun k hk=>⟨hk.2,fun e=>by have:=(z.u.own.lt k e).2;unfold li at hk;omega⟩) ⟨rfl,rfl,rfl,rfl⟩ (by rw[List.length_replicate];omega) ?_)
  intro v3 w3 A U;have V:Below w1.heap.size w1 w3:=O.trans U;obtain⟨ps,f⟩ : ∃ ps,ps=List.replicate j (⟨X,.slice o1 X.length d1,li (w.heap.size+1) w1.heap.size⟩ : Pt)++[⟨X++[⟨4,[],1,-1⟩],.slice p2 (X.length+1) d2,li wr.heap.size w2.heap.size⟩]:=⟨_,rfl⟩;rw[<-f]at A;have al:Hi (jn (ps.map Pt.P)=jn (bJ X mn (-1))):=by
   rw[f,List.map_append,List.map_replicate,b3.u];unfold bJ;rw[if_pos rfl,if_pos h1]
   rfl
  have bb:ps.length<=251:=by rw[f,List.length_append,List.length_replicate];simp;omega
  have W:Hi (∀ p∈ps,aY p.P/\p.P.length<=3002):=fun p hp=>by
   rw[f]at hp;rcases List.mem_append.1 hp with hp|hp
   ·rw[(List.mem_replicate.1 hp).2];exact⟨NX.u,by show X.length<=3002;omega⟩
   rw[List.mem_singleton.1 hp];exact⟨NX.u.app (aY.op _ _ _ (by simp[az]) (by unfold az;omega) (by simp[az])),by show(X++[_]).length<=3002;rw[List.length_append];simp;omega⟩
  have E:=ae A;have hB:Below w.heap.size w w3:=b2.trans (V.mono (by omega));have bc:=V.size;obtain⟨pa3,pc3,rfl⟩:=aj A.own;clear A f U D T q0 q1 q2 q3 z a9 aa S ab;go_wp2
  go_loopw [13,14] (fun ov i wl=>∃ k:Nat,k<=ps.length/\i=.int .i64 k/\aP w3.heap.size wl ov (jn ((ps.take k).map Pt.P))/\Below w3.heap.size w3 wl) (fun _ i _=>ps.length-(intOf i).toNat)
  case atStart=>exact⟨0,Nat.zero_le _,rfl,aP.nil _ _,Below.refl _ _⟩
  obtain⟨k,hk,rfl,l,m⟩:=hrel;have Y:=m.size
  by_cases hlt2:k<ps.length
  ·have d:=List.getElem_mem hlt2;have hE:=E.u.els _ d;have F:=E.u.blk _ d;have B:=W.u _ d;have G:=ae ((hE.same (w':=wr) (fun k hk=>m.block k (F k hk).1)).at (N:=wr.heap.size) (fun k hk=>Nat.lt_of_lt_of_le (F k hk).1 Y) B.1.num);obtain⟨g,cap,ev,o⟩:=iM (aG E.u.own m lR) (by omega);simp only[Value.slice.injEq,true_and]at ev;obtain⟨rfl,rfl⟩:=ev;have hx:=o k hlt2;rw[List.getElem?_map,List.getElem?_eq_getElem hlt2,Option.map_some]at hx;have r:=ae (qg hlt2);obtain⟨sa2,sc2,H,-⟩:=hE;have bd:=ae H;rw[H]at hx G;have Z:=ae B.1;have b4:=B.2;clear o F d B H;generalize (ps[k]).P=P at *;have b5:(k:Int)<(ps.length:Int):=by omega
   obtain⟨qa,qc,rfl⟩:=l.form;obtain⟨os,I,a0⟩:=l;have be:os.length=(jn ((ps.take k).map Pt.P)).length:=by rw[<-I,List.length_map]
   have a1:=tO ((ps.take k).map Pt.P) (fun p hp=>by obtain⟨q,hq,rfl⟩:=List.mem_map.1 hp;exact(W.u q (List.mem_of_mem_take hq)).2);rw[List.length_map,List.length_take]at a1;have b6:os.length<=800000:=by omega
   have a2:=ae I;have an:=ae a0;clear I a0 a1;have ao:Hi (k=0->jn ((ps.take k).map Pt.P)=[]):=fun e=>by subst e;rfl
   generalize jn ((ps.take k).map Pt.P)=J at *
   go_wp2_with fail;refine(eH _ P _ G.u (by omega) Z.u.len).mono ?_;rintro e w4 ⟨v4,rfl,s,ap⟩;obtain⟨qb,qd,rfl⟩:=s.form;obtain⟨us,K,s⟩:=s;have bf:us.length=P.length:=by rw[<-K,List.length_map]
   have a3:=ae K;have a4:=ae s;clear K s hx G
   go_wp2_with (at_builtin;refine mw rfl _ _ rfl rfl rfl an.u Y ap a4.u (fun p hp=>Pc.one (a4.u.set p hp)) (by omega) (by omega) ?_)
   intro v5 w5 L aq;obtain⟨qe,qf,rfl⟩:=aj L.own;have M:Below w3.heap.size w3 w5:=m.trans aq;have ar:=M.size;have a5:=ae L;clear L
   by_cases hk0:k=0
   ·subst hk0;have t:Hi (aP w3.heap.size w5 (.slice qe (os++us).length qf) (jn ((ps.take (0+1)).map Pt.P))):=⟨_,by rw[r.u,if_pos rfl,List.map_append,a2.u,a3.u,ao.u rfl];rfl,a5.u⟩;go_wp2;exact⟨⟨1,by omega,rfl,t.u,M⟩,by simp[intOf];omega⟩
   have bl:(0:Int)<(k:Int):=by omega
   go_wp2_with (at_builtin;refine js ⟨2,[],0,0⟩ (.slice none 0 0) (fun _=>False) rfl _ _ rfl rfl rfl a5.u ar (Below.refl _ _) (ir.none _) (fun k hk=>hk.elim) rfl ⟨rfl,rfl,rfl,rfl⟩ (by rw[List.length_append];omega) ?_)
   intro v6 w6 a6 av;have t:Hi (aP w3.heap.size w6 v6 (jn ((ps.take (k+1)).map Pt.P))):=⟨_,by rw[r.u,if_neg hk0];simp[a2.u,a3.u,lJ],a6⟩;clear a6;go_wp2;exact⟨⟨k+1,by omega,by go_num,t.u,M.trans av⟩,by simp[intOf];omega⟩
  obtain rfl:k=ps.length:=by omega
  rw[List.take_length,al.u]at l;have aw:=ae (l.base hB.size);clear l;go_wp2;go_ret;exact⟨_,rfl,aw.u,hB.trans (m.mono hB.size)⟩
 go_wp2_with fail;refine(ml mn (-1) _ X _ ab.u (by omega) NX.u.len).mono ?_;rintro e w2 ⟨v2,rfl,y,D⟩;obtain⟨p2,d2,rfl⟩ : ∃ a c,v2=.slice a (X.length+1) c:=by have:=y.form;rwa [List.length_append]at this
 have T:=ae y.foot;clear y
 go_wp2_with (at_builtin;refine ig ⟨X++[⟨4,[],mn,-1⟩],.slice p2 (X.length+1) d2,li wr.heap.size w2.heap.size⟩ rfl _ _ rfl rfl rfl z.u a8 D T.u (fun k hk=>⟨hk.2,fun e=>by have:=(z.u.own.lt k e).2;unfold li at hk;omega⟩) ⟨rfl,rfl,rfl,rfl⟩ (by rw[List.length_replicate];omega) ?_)
 intro v3 w3 A U;have V:Below w1.heap.size w1 w3:=O.trans U;obtain⟨ps,f⟩ : ∃ ps,ps=List.replicate j (⟨X,.slice o1 X.length d1,li (w.heap.size+1) w1.heap.size⟩ : Pt)++[⟨X++[⟨4,[],mn,-1⟩],.slice p2 (X.length+1) d2,li wr.heap.size w2.heap.size⟩]:=⟨_,rfl⟩;rw[<-f]at A;have al:Hi (jn (ps.map Pt.P)=jn (bJ X mn (-1))):=by
  rw[f,List.map_append,List.map_replicate,b3.u];unfold bJ;rw[if_pos rfl,if_neg (by omega)]
  rfl
 have bb:ps.length<=251:=by rw[f,List.length_append,List.length_replicate];simp;omega
 have W:Hi (∀ p∈ps,aY p.P/\p.P.length<=3002):=fun p hp=>by
  rw[f]at hp;rcases List.mem_append.1 hp with hp|hp
  ·rw[(List.mem_replicate.1 hp).2];exact⟨NX.u,by show X.length<=3002;omega⟩
  rw[List.mem_singleton.1 hp];exact⟨NX.u.app (aY.op _ _ _ (by simp[az]) (by unfold az;omega) (by simp[az])),by show(X++[_]).length<=3002;rw[List.length_append];simp;omega⟩
 have E:=ae A;have hB:Below w.heap.size w w3:=b2.trans (V.mono (by omega));have bc:=V.size;obtain⟨pa3,pc3,rfl⟩:=aj A.own;clear A f U D T q0 q1 q2 q3 z a9 aa S ab;go_wp2
 go_loopw [13,14] (fun ov i wl=>∃ k:Nat,k<=ps.length/\i=.int .i64 k/\aP w3.heap.size wl ov (jn ((ps.take k).map Pt.P))/\Below w3.heap.size w3 wl) (fun _ i _=>ps.length-(intOf i).toNat)
 case atStart=>exact⟨0,Nat.zero_le _,rfl,aP.nil _ _,Below.refl _ _⟩
 obtain⟨k,hk,rfl,l,m⟩:=hrel;have Y:=m.size
 by_cases hlt2:k<ps.length
 ·have d:=List.getElem_mem hlt2;have hE:=E.u.els _ d;have F:=E.u.blk _ d;have B:=W.u _ d;have G:=ae ((hE.same (w':=wr) (fun k hk=>m.block k (F k hk).1)).at (N:=wr.heap.size) (fun k hk=>Nat.lt_of_lt_of_le (F k hk).1 Y) B.1.num);obtain⟨g,cap,ev,o⟩:=iM (aG E.u.own m lR) (by omega);simp only[Value.slice.injEq,true_and]at ev;obtain⟨rfl,rfl⟩:=ev;have hx:=o k hlt2;rw[List.getElem?_map,List.getElem?_eq_getElem hlt2,Option.map_some]at hx;have r:=ae (qg hlt2);obtain⟨sa2,sc2,H,-⟩:=hE;have bd:=ae H;rw[H]at hx G;have Z:=ae B.1;have b4:=B.2;clear o F d B H;generalize (ps[k]).P=P at *;have b5:(k:Int)<(ps.length:Int):=by omega
  obtain⟨qa,qc,rfl⟩:=l.form;obtain⟨os,I,a0⟩:=l;have be:os.length=(jn ((ps.take k).map Pt.P)).length:=by rw[<-I,List.length_map]
  have a1:=tO ((ps.take k).map Pt.P) (fun p hp=>by obtain⟨q,hq,rfl⟩:=List.mem_map.1 hp;exact(W.u q (List.mem_of_mem_take hq)).2);rw[List.length_map,List.length_take]at a1;have b6:os.length<=800000:=by omega
  have a2:=ae I;have an:=ae a0;clear I a0 a1;have ao:Hi (k=0->jn ((ps.take k).map Pt.P)=[]):=fun e=>by subst e;rfl
  generalize jn ((ps.take k).map Pt.P)=J at *
  go_wp2_with fail;refine(eH _ P _ G.u (by omega) Z.u.len).mono ?_;rintro e w4 ⟨v4,rfl,s,ap⟩;obtain⟨qb,qd,rfl⟩:=s.form;obtain⟨us,K,s⟩:=s;have bf:us.length=P.length:=by rw[<-K,List.length_map]
  have a3:=ae K;have a4:=ae s;clear K s hx G
  go_wp2_with (at_builtin;refine mw rfl _ _ rfl rfl rfl an.u Y ap a4.u (fun p hp=>Pc.one (a4.u.set p hp)) (by omega) (by omega) ?_)
  intro v5 w5 L aq;obtain⟨qe,qf,rfl⟩:=aj L.own;have M:Below w3.heap.size w3 w5:=m.trans aq;have ar:=M.size;have a5:=ae L;clear L
  by_cases hk0:k=0
  ·subst hk0;have t:Hi (aP w3.heap.size w5 (.slice qe (os++us).length qf) (jn ((ps.take (0+1)).map Pt.P))):=⟨_,by rw[r.u,if_pos rfl,List.map_append,a2.u,a3.u,ao.u rfl];rfl,a5.u⟩;go_wp2;exact⟨⟨1,by omega,rfl,t.u,M⟩,by simp[intOf];omega⟩
  have bl:(0:Int)<(k:Int):=by omega
  go_wp2_with (at_builtin;refine js ⟨2,[],0,0⟩ (.slice none 0 0) (fun _=>False) rfl _ _ rfl rfl rfl a5.u ar (Below.refl _ _) (ir.none _) (fun k hk=>hk.elim) rfl ⟨rfl,rfl,rfl,rfl⟩ (by rw[List.length_append];omega) ?_)
  intro v6 w6 a6 av;have t:Hi (aP w3.heap.size w6 v6 (jn ((ps.take (k+1)).map Pt.P))):=⟨_,by rw[r.u,if_neg hk0];simp[a2.u,a3.u,lJ],a6⟩;clear a6;go_wp2;exact⟨⟨k+1,by omega,by go_num,t.u,M.trans av⟩,by simp[intOf];omega⟩
 obtain rfl:k=ps.length:=by omega
 rw[List.take_length,al.u]at l;have aw:=ae (l.base hB.size);clear l;go_wp2;go_ret;exact⟨_,rfl,aw.u,hB.trans (m.mono hB.size)⟩
theorem tC(T:TypeId)(y:Value)(n:Int)(w:World)(hn:n<=1000) :
  Calls prog 111 #[.iface T y,.int .i64 n] w fun e w'=>∃ v,e=.returned v/\w'.ownsRow w.heap.size 51 1 v n.toNat (List.replicate n.toNat (.iface T y))/\Below w.heap.size w w':=by
 obtain⟨i0,hi,c,d,f⟩:=info_parts Tryz.info51
 go_enter func111,ntmps111
 go_wp2
 go_loopw [5,7] (fun ov i wr=>∃ j:Nat,i=.int .i64 (j:Int)/\(j=0∨(j:Int)<=n)/\wr.ownsRow w.heap.size 51 1 ov j (List.replicate j (.iface T y))/\Below w.heap.size w wr) (fun _ i _=>(n-intOf i).toNat)
 case atStart=>exact⟨0,rfl,Or.inl rfl,World.ownsRow_nil _ _ _ _,Below.refl _ _⟩
 obtain⟨j,rfl,hj,a,hb⟩:=hrel;have hz:=hb.size;have b:=ae a;obtain⟨oa,oc,rfl⟩:=aj a;clear a
 by_cases hlt:(j:Int)<n
 ·go_wp2_with (at_builtin;refine wpList_append_own _ rfl _ _ 139 rfl w.heap.size 51 i0 .nilIface 1 16 underlying139 hi c d f rfl (by decide) _ _ _ rfl (b.u.alloc _) ⟨wr.heap.size,0,none⟩ 1 1 [.iface T y] rfl rfl ?_ ?_ ?_ ?_ ?_ ?_)
  ·exact dq (by simp)
  ·intro u hu;simp at hu;subst hu;rfl
  ·unfold maxLen;omega
  ·omega
  ·simp only[ah];omega
  intro v' w' h1 hg _;have H1:Hi (w'.ownsRow w.heap.size 51 1 v' (j+1) (List.replicate (j+1) (.iface T y))):=by rw[List.replicate_succ'];exact h1
  have hB:Below w.heap.size w w':=(hb.alloc hz (.cells #[.iface T y] 51)).grown hg (by rw[ah];omega) (fun k hk=>(b.u.lt k hk).1);clear h1 hg;go_wp2
  go_roundw
  case rel=>exact⟨j+1,by go_num,Or.inr (by omega),H1.u,hB⟩
  simp[intOf];omega
 have g:Hi (n.toNat=j):=by show n.toNat=j;omega
 go_wp2;go_ret;exact⟨_,rfl,by rw[g.u];exact b.u,hb⟩
def jV:List Value->Value
 | []=>undef
 | p::r=>r.foldl cV p
theorem CC(r:List Value):∀ p:Value,(∃ T x,p=.iface T x)->∃ T x,r.foldl cV p=.iface T x:=by
 induction r with
 | nil=>intro p h;exact h
 | cons q r ih=>intro p _;exact ih (cV p q) ⟨_,_,rfl⟩
theorem uh(r:List Value)(p:Value)(j:Nat)(h:j<r.length):(r.take (j+1)).foldl cV p=cV ((r.take j).foldl cV p) r[j]:=by
 rw[List.take_succ_eq_append_getElem h,List.foldl_append];rfl
theorem oj(base:Nat)(v p:Value)(r:List Value)(w:World)(b:w.ownsRow base 51 1 v (r.length+1) (p::r))(hif:∀ u∈p::r,∃ T x,u=.iface T x)(hl:r.length<=1000000) :
  Calls prog 110 #[v] w fun e w'=>e=.returned (jV (p::r))/\w'=w:=by
 obtain⟨g,cap,rfl,a⟩:=iM b (by omega);have k:r.length+1<=cap:=by
  rcases b.2 with ⟨e,-⟩|⟨g',cap',cur,e,-,-,c,-⟩
  ·simp at e
  simp only[Value.slice.injEq]at e;rw[e.2.2];exact c
 have m:w.cell? ⟨g,0,none⟩=some p:=a 0 (by omega);have d:Hi (∀ j:Nat,(h:j<r.length)->w.cell? ⟨g,1+j,none⟩=some r[j]):=fun j h=>by
  rw[a (1+j) (by omega),Nat.add_comm 1 j,List.getElem?_cons_succ,List.getElem?_eq_getElem h]
 obtain⟨T0,x0,rfl⟩:=hif p (by simp);have f:=ae hif;have n:((r.length+1:Nat):Int)<=(cap:Int):=by omega
 clear a b hif
 by_cases hc1:cap=1
 ·subst hc1;obtain rfl:r=[]:=List.eq_nil_of_length_eq_zero (by omega)
  go_enter func110,ntmps110
  go_wp2
  go_loop [3,12] (fun q i=>q=.iface T0 x0/\i=.int .i64 0) (fun _ _=>0)
  case atStart=>exact⟨rfl,rfl⟩
  obtain⟨rfl,rfl⟩:=hrel;go_wp2;go_ret;exact⟨rfl,rfl⟩
 go_enter func110,ntmps110
 go_wp2
 go_loop [3,12] (fun q i=>∃ j:Nat,j<=r.length/\i=.int .i64 (j:Int)/\q=(r.take j).foldl cV (.iface T0 x0)) (fun _ i=>r.length-(intOf i).toNat)
 case atStart=>exact⟨0,Nat.zero_le _,rfl,rfl⟩
 obtain⟨j,hj,rfl,hq⟩:=hrel;obtain⟨T1,x1,e1⟩:=CC (r.take j) _ ⟨T0,x0,rfl⟩
 by_cases hlt:j<r.length
 ·have hx:=d.u j hlt;obtain⟨T2,x2,e2⟩:=f.u r[j] (by simp);have Hn:=ae (uh r (.iface T0 x0) j hlt);rw[e1]at hq Hn;rw[e2]at hx Hn;subst hq;have l:(j:Int)<(r.length:Int):=by omega
  clear e1 e2;go_wp2
  go_round
  case rel=>exact⟨j+1,by omega,by go_num,by rw[Hn.u];rfl⟩
  simp[intOf];omega
 obtain rfl:j=r.length:=by omega
 rw[List.take_length]at hq e1;have He:=ae e1;rw[e1]at hq;subst hq;clear e1;go_wp2;go_ret;exact⟨by rw[<-He.u];rfl,rfl⟩
theorem fV(base n:Nat)(v:Value)(vals:List Value)(w:World)(hown:w.ownsRow base 51 1 v n vals)(hn:0<n)(hif:∀ u∈vals,∃ T x,u=.iface T x)(hl:n<=1000000) :
  Calls prog 110 #[v] w fun e w'=>e=.returned (jV vals)/\w'=w:=by
 have h1:=hown.1;rw[Nat.mul_one]at h1;cases vals with
 | nil=>simp at h1;omega
 | cons p r =>
  have e:n=r.length+1:=by rw[<-h1];rfl
  subst e;exact oj base v p r w hown hif (by omega)
def cz(U:Value)(mn mx:Int):List Value:=
 if mx = -1 then List.replicate (mn-1).toNat U++[rV U (if 1<mn then 1 else mn) (-1)]
 else List.replicate mn.toNat U++List.replicate (mx-mn).toNat (aV U eV)
def dc(u U:Value):Prop:=(∃ T x,U=.iface T x)/\∀ w,Calls prog 43 #[u] w fun e w'=>e=.returned U/\Below w.heap.size w w'
theorem fI(T:TypeId)(y:Value)(n:Int)(k:Nat)(hk:n.toNat=k)(w:World)(hn:n<=1000) :
  Calls prog 111 #[.iface T y,.int .i64 n] w fun e w'=>∃ v,e=.returned v/\w'.ownsRow w.heap.size 51 1 v k (List.replicate k (.iface T y))/\Below w.heap.size w w':=by
 subst hk;exact tC T y n w hn
theorem jZ{b b' e size n:Nat}{w:World}{v:Value}{xs:List Value}(h:w.ownsRow b e size v n xs)(hb:b=b'):w.ownsRow b' e size v n xs:=hb ▸ h
theorem im(T:TypeId)(y:Value)(mn:Int)(w:World) :
  Calls prog 78 #[.agg #[.iface T y,.int .i64 mn,.int .i64 0]] w fun e w'=>e=.returned eV/\Below w.heap.size w w':=by
 go_enter func78,ntmps78
 go_wp2;go_ret;exact⟨rfl,ai w _⟩
theorem iE(T:TypeId)(y:Value)(T':TypeId)(y':Value)(mn:Int)(w:World)(h:dc (.iface T y) (.iface T' y'))(o2:0<=mn)(o3:mn<=250) :
  Calls prog 78 #[.agg #[.iface T y,.int .i64 mn,.int .i64 (-1)]] w fun e w'=>e=.returned (jV (cz (.iface T' y') mn (-1)))/\Below w.heap.size w w':=by
 obtain⟨i0,hi,r,s,v⟩:=info_parts Tryz.info51;have HE:=ae h.2;clear h;have E:IntKind.i64.wrap (mn-1)=mn-1:=by rw[IntKind.wrap_i64];omega
 have F:wrap64 (mn-1)=mn-1:=by unfold wrap64;omega
 obtain⟨K,B⟩ : ∃ K:Nat,(mn-1).toNat=K:=⟨_,rfl⟩;have G:K<=250:=by omega
 have HK:=ae B;clear B
 by_cases h1:1<mn
 ·have D:min mn 1=1:=by omega
  go_enter func78,ntmps78
  go_wp2_with fail;refine(HE.u _).mono ?_;rintro e w1 ⟨rfl,i⟩;have x:Below w.heap.size w w1:=(ai w _).trans (i.mono (by rw[ah];omega));obtain⟨j,-⟩:=cu i;have m:=i.size;rw[ah]at m;have q0:w1.cell? ⟨w.heap.size,0,none⟩=some (.iface T y):=by rw[j _ _ (by rw[ah];omega)];simp
  have q1:w1.cell? ⟨w.heap.size,1,none⟩=some (.int .i64 mn):=by rw[j _ _ (by rw[ah];omega)];simp
  have q2:w1.cell? ⟨w.heap.size,2,none⟩=some (.int .i64 (-1)):=by rw[j _ _ (by rw[ah];omega)];simp
  have C:w.heap.size<w1.heap.size:=by omega
  clear i j;have z:Hi (∀ (w2 w3:World) (v3:Value),Below (w1.heap.size+1) (w1.alloc (.cells #[.iface T' y',.int .i64 1,.int .i64 (-1)] 93)) w2->Below (w1.heap.size+1) w2 w3->Below w.heap.size w w3):=fun w2 w3 v3 a1 a2 =>
   x.trans (((ai w1 _).mono (by omega)).trans ((a1.mono (by omega)).trans (a2.mono (by omega))))
  have hJ:Hi (List.replicate K (.iface T' y')++[.iface 93 (.agg #[.iface T' y',.int .i64 1,.int .i64 (-1)])]=cz (.iface T' y') mn (-1)):=by
   unfold cz;rw[if_pos rfl,HK.u]
   first|rw[if_pos h1] | rw[if_neg (by omega)]
   rfl
  go_wp2_with fail
  go_region_law (((first|(refine ei 111 #[.iface T' y',.int .i64 (mn-1)] rfl (by kernel_rfl) (fI T' y' (mn-1) K HK.u _ (by omega)) ?_;rintro e w2 ⟨v2,rfl,b,a⟩;refine⟨_,rfl,?_⟩;have c:Below (w1.heap.size+1) (w1.alloc (.cells #[.iface T' y',.int .i64 1,.int .i64 (-1)] 93)) w2:=⟨a.os,a.tape,a.output,a.size,fun k hk=>a.block k (by simpa using hk)⟩;have f:w1.heap.size+1<=w2.heap.size:=(by have:=c.size;rwa [ah]at this);have c0:w2.cell? ⟨w1.heap.size,0,none⟩=some (.iface T' y'):=(by rw[c.cell (p:=⟨w1.heap.size,0,none⟩) (by show w1.heap.size<w1.heap.size+1;omega)];simp);have c1:w2.cell? ⟨w1.heap.size,1,none⟩=some (.int .i64 1):=(by rw[c.cell (p:=⟨w1.heap.size,1,none⟩) (by show w1.heap.size<w1.heap.size+1;omega)];simp);have c2:w2.cell? ⟨w1.heap.size,2,none⟩=some (.int .i64 (-1)):=(by rw[c.cell (p:=⟨w1.heap.size,2,none⟩) (by show w1.heap.size<w1.heap.size+1;omega)];simp);have d:Hi (w2.ownsRow (w1.heap.size+1) 51 1 v2 K (List.replicate K (.iface T' y'))):=jZ b (ah w1 (.cells #[.iface T' y',.int .i64 1,.int .i64 (-1)] 93));clear b a)|(refine ei 111 #[.iface T' y',.int .i64 (mn-1)] rfl (by kernel_rfl) (fI T' y' (mn-1) K HK.u _ (by omega)) ?_;rintro e w2 ⟨v2,rfl,b,a⟩;refine⟨_,rfl,?_⟩;have c:Below (w1.heap.size+1) (w1.alloc (.cells #[.iface T' y',.int .i64 1,.int .i64 (-1)] 93)) w2:=(ai _ (.cells #[.iface 93 (.agg #[.iface T' y',.int .i64 1,.int .i64 (-1)])] 51)).mono (by rw[ah];omega) |>.trans ⟨a.os,a.tape,a.output,a.size,fun k hk=>a.block k (by simp;omega)⟩;have f:w1.heap.size+1<=w2.heap.size:=(by have:=c.size;rwa [ah]at this);have n:w2.cell? ⟨w1.heap.size+1,0,none⟩=some (.iface 93 (.agg #[.iface T' y',.int .i64 1,.int .i64 (-1)])):=(by rw[a.cell (p:=⟨w1.heap.size+1,0,none⟩) (by show w1.heap.size+1<_;simp)];simp);have d:Hi (w2.ownsRow (w1.heap.size+1) 51 1 v2 K (List.replicate K (.iface T' y'))):=aO b (by simp);have A:=ae n;clear b a n)|(refine step_append_lies _ rfl (.tmp 26) (.tmp 29) 139 rfl (w1.heap.size+1) 51 i0 .nilIface 1 16 underlying139 hi r s v rfl (by decide) v2 K (List.replicate K (.iface T' y')) (by simp[Act.eval]) (by refine aH.own (w:=w2) (o:=(.cells #[.iface 93 (.agg #[.iface T' y',.int .i64 1,.int .i64 (-1)])] 51)) ?_ d.u;exact⟨rfl,rfl,rfl,rfl⟩) ⟨w2.heap.size,0,none⟩ 1 1 [.iface 93 (.agg #[.iface T' y',.int .i64 1,.int .i64 (-1)])] (by simp[Act.eval]) rfl (by refine aH.news (w:=w2) (cs:=#[.iface 93 (.agg #[.iface T' y',.int .i64 1,.int .i64 (-1)])]) (t:=51) ?_;exact⟨rfl,rfl,rfl,rfl⟩) (fun u hu=>by obtain rfl:=List.mem_singleton.1 hu;rfl) (by decide) (by unfold maxLen;omega) (by omega) (by show w1.heap.size+1<=(w2.alloc _).heap.size;rw[ah];omega) (w2.heap.size+1) (ah w2 _) (fun g cap' w3 r1 r2 r3 r4=>?_);have q:Below (w1.heap.size+1) w2 w3:=(((ai w2 _).mono f).grown r2 (by show w1.heap.size+1<=(w2.alloc _).heap.size;rw[ah];omega) (fun k hk=>(d.u.lt k hk).1));have R1:=ae r1;clear r1 r2 r3 r4)|(refine step_append_lies _ rfl (.tmp 26) (.tmp 29) 139 rfl (w1.heap.size+1) 51 i0 .nilIface 1 16 underlying139 hi r s v rfl (by decide) v2 K (List.replicate K (.iface T' y')) (by simp[Act.eval]) d.u ⟨w1.heap.size+1,0,none⟩ 1 1 [.iface 93 (.agg #[.iface T' y',.int .i64 1,.int .i64 (-1)])] (by simp[Act.eval]) rfl (dq A.u) (fun u hu=>by obtain rfl:=List.mem_singleton.1 hu;rfl) (by decide) (by unfold maxLen;omega) (by omega) f w2.heap.size rfl (fun g cap' w3 r1 r2 r3 r4=>?_);have q:Below (w1.heap.size+1) w2 w3:=((Below.refl (w1.heap.size+1) w2).grown r2 f (fun k hk=>(d.u.lt k hk).1));have R1:=ae r1;clear r1 r2 r3 r4)|(refine ei 110 #[.slice (some ⟨g,0,none⟩) (K+1) cap'] rfl (by kernel_rfl) (fV _ _ _ _ w3 R1.u (by omega) (fun u hu=>by rcases List.mem_append.1 hu with hu|hu;exact⟨_,_,(List.mem_replicate.1 hu).2⟩;exact⟨_,_,List.mem_singleton.1 hu⟩) (by omega)) ?_;rintro e w4 ⟨rfl,rfl⟩;refine⟨_,rfl,?_⟩))))
  all_goals
   go_wp2;go_ret;exact⟨congrArg (fun l=>Ending.returned (jV l)) hJ.u,z.u _ _ v2 c q⟩
 have D:min mn 1=mn:=by omega
 go_enter func78,ntmps78
 go_wp2_with fail;refine(HE.u _).mono ?_;rintro e w1 ⟨rfl,i⟩;have x:Below w.heap.size w w1:=(ai w _).trans (i.mono (by rw[ah];omega));obtain⟨j,-⟩:=cu i;have m:=i.size;rw[ah]at m;have q0:w1.cell? ⟨w.heap.size,0,none⟩=some (.iface T y):=by rw[j _ _ (by rw[ah];omega)];simp
 have q1:w1.cell? ⟨w.heap.size,1,none⟩=some (.int .i64 mn):=by rw[j _ _ (by rw[ah];omega)];simp
 have q2:w1.cell? ⟨w.heap.size,2,none⟩=some (.int .i64 (-1)):=by rw[j _ _ (by rw[ah];omega)];simp
 have C:w.heap.size<w1.heap.size:=by omega
 clear i j;have z:Hi (∀ (w2 w3:World) (v3:Value),Below (w1.heap.size+1) (w1.alloc (.cells #[.iface T' y',.int .i64 mn,.int .i64 (-1)] 93)) w2->Below (w1.heap.size+1) w2 w3->Below w.heap.size w w3):=fun w2 w3 v3 a1 a2 =>
  x.trans (((ai w1 _).mono (by omega)).trans ((a1.mono (by omega)).trans (a2.mono (by omega))))
 have hJ:Hi (List.replicate K (.iface T' y')++[.iface 93 (.agg #[.iface T' y',.int .i64 mn,.int .i64 (-1)])]=cz (.iface T' y') mn (-1)):=by
  unfold cz;rw[if_pos rfl,HK.u]
  first|rw[if_pos h1] | rw[if_neg (by omega)]
  rfl
 go_wp2_with fail
 go_region_law (((first|(refine ei 111 #[.iface T' y',.int .i64 (mn-1)] rfl (by kernel_rfl) (fI T' y' (mn-1) K HK.u _ (by omega)) ?_;rintro e w2 ⟨v2,rfl,b,a⟩;refine⟨_,rfl,?_⟩;have c:Below (w1.heap.size+1) (w1.alloc (.cells #[.iface T' y',.int .i64 mn,.int .i64 (-1)] 93)) w2:=⟨a.os,a.tape,a.output,a.size,fun k hk=>a.block k (by simpa using hk)⟩;have f:w1.heap.size+1<=w2.heap.size:=(by have:=c.size;rwa [ah]at this);have c0:w2.cell? ⟨w1.heap.size,0,none⟩=some (.iface T' y'):=(by rw[c.cell (p:=⟨w1.heap.size,0,none⟩) (by show w1.heap.size<w1.heap.size+1;omega)];simp);have c1:w2.cell? ⟨w1.heap.size,1,none⟩=some (.int .i64 mn):=(by rw[c.cell (p:=⟨w1.heap.size,1,none⟩) (by show w1.heap.size<w1.heap.size+1;omega)];simp);have c2:w2.cell? ⟨w1.heap.size,2,none⟩=some (.int .i64 (-1)):=(by rw[c.cell (p:=⟨w1.heap.size,2,none⟩) (by show w1.heap.size<w1.heap.size+1;omega)];simp);have d:Hi (w2.ownsRow (w1.heap.size+1) 51 1 v2 K (List.replicate K (.iface T' y'))):=jZ b (ah w1 (.cells #[.iface T' y',.int .i64 mn,.int .i64 (-1)] 93));clear b a)|(refine ei 111 #[.iface T' y',.int .i64 (mn-1)] rfl (by kernel_rfl) (fI T' y' (mn-1) K HK.u _ (by omega)) ?_;rintro e w2 ⟨v2,rfl,b,a⟩;refine⟨_,rfl,?_⟩;have c:Below (w1.heap.size+1) (w1.alloc (.cells #[.iface T' y',.int .i64 mn,.int .i64 (-1)] 93)) w2:=(ai _ (.cells #[.iface 93 (.agg #[.iface T' y',.int .i64 mn,.int .i64 (-1)])] 51)).mono (by rw[ah];omega) |>.trans ⟨a.os,a.tape,a.output,a.size,fun k hk=>a.block k (by simp;omega)⟩;have f:w1.heap.size+1<=w2.heap.size:=(by have:=c.size;rwa [ah]at this);have n:w2.cell? ⟨w1.heap.size+1,0,none⟩=some (.iface 93 (.agg #[.iface T' y',.int .i64 mn,.int .i64 (-1)])):=(by rw[a.cell (p:=⟨w1.heap.size+1,0,none⟩) (by show w1.heap.size+1<_;simp)];simp);have d:Hi (w2.ownsRow (w1.heap.size+1) 51 1 v2 K (List.replicate K (.iface T' y'))):=aO b (by simp);have A:=ae n;clear b a n)|(refine step_append_lies _ rfl (.tmp 26) (.tmp 29) 139 rfl (w1.heap.size+1) 51 i0 .nilIface 1 16 underlying139 hi r s v rfl (by decide) v2 K (List.replicate K (.iface T' y')) (by simp[Act.eval]) (by refine aH.own (w:=w2) (o:=(.cells #[.iface 93 (.agg #[.iface T' y',.int .i64 mn,.int .i64 (-1)])] 51)) ?_ d.u;exact⟨rfl,rfl,rfl,rfl⟩) ⟨w2.heap.size,0,none⟩ 1 1 [.iface 93 (.agg #[.iface T' y',.int .i64 mn,.int .i64 (-1)])] (by simp[Act.eval]) rfl (by refine aH.news (w:=w2) (cs:=#[.iface 93 (.agg #[.iface T' y',.int .i64 mn,.int .i64 (-1)])]) (t:=51) ?_;exact⟨rfl,rfl,rfl,rfl⟩) (fun u hu=>by obtain rfl:=List.mem_singleton.1 hu;rfl) (by decide) (by unfold maxLen;omega) (by omega) (by show w1.heap.size+1<=(w2.alloc _).heap.size;rw[ah];omega) (w2.heap.size+1) (ah w2 _) (fun g cap' w3 r1 r2 r3 r4=>?_);have q:Below (w1.heap.size+1) w2 w3:=(((ai w2 _).mono f).grown r2 (by show w1.heap.size+1<=(w2.alloc _).heap.size;rw[ah];omega) (fun k hk=>(d.u.lt k hk).1));have R1:=ae r1;clear r1 r2 r3 r4)|(refine step_append_lies _ rfl (.tmp 26) (.tmp 29) 139 rfl (w1.heap.size+1) 51 i0 .nilIface 1 16 underlying139 hi r s v rfl (by decide) v2 K (List.replicate K (.iface T' y')) (by simp[Act.eval]) d.u ⟨w1.heap.size+1,0,none⟩ 1 1 [.iface 93 (.agg #[.iface T' y',.int .i64 mn,.int .i64 (-1)])] (by simp[Act.eval]) rfl (dq A.u) (fun u hu=>by obtain rfl:=List.mem_singleton.1 hu;rfl) (by decide) (by unfold maxLen;omega) (by omega) f w2.heap.size rfl (fun g cap' w3 r1 r2 r3 r4=>?_);have q:Below (w1.heap.size+1) w2 w3:=((Below.refl (w1.heap.size+1) w2).grown r2 f (fun k hk=>(d.u.lt k hk).1));have R1:=ae r1;clear r1 r2 r3 r4)|(refine ei 110 #[.slice (some ⟨g,0,none⟩) (K+1) cap'] rfl (by kernel_rfl) (fV _ _ _ _ w3 R1.u (by omega) (fun u hu=>by rcases List.mem_append.1 hu with hu|hu;exact⟨_,_,(List.mem_replicate.1 hu).2⟩;exact⟨_,_,List.mem_singleton.1 hu⟩) (by omega)) ?_;rintro e w4 ⟨rfl,rfl⟩;refine⟨_,rfl,?_⟩))))
 all_goals
  go_wp2;go_ret;exact⟨congrArg (fun l=>Ending.returned (jV l)) hJ.u,z.u _ _ v2 c q⟩
theorem gH(x y:Value)(w:World):Sem.run prog (callFunc 111 #[x,y]) w=.ok (.enter 111 #[x,y]) w:=by kernel_rfl
theorem sg(x:Value)(w:World):Sem.run prog (callFunc 110 #[x]) w=.ok (.enter 110 #[x]) w:=by kernel_rfl
end Go.Proofs.YtidfkbghlkcbeaaGreatDoor
