import Derived.Test.YtpmcjimgkabpeaaGreatDoorPk33
import Derived.Test.YtpmcjimgkabpeaaGreatDoorPk32
namespace Go.Proofs.YtpmcjimgkabpeaaGreatDoor
open Go.RowKit Go.Proofs.Tryz
set_option maxHeartbeats 16000000
set_option maxRecDepth 100000
theorem cz:aY gY:=(jk ef).app (aY.op _ _ _ (by simp[aA]) (by simp[aA]) (by simp[aA]))
theorem go{a b:List El}(ha:aY a)(hb:aY b):aY (a++b++[⟨2,[],0,0⟩]):=(ha.app hb).app (aY.op _ _ _ (by simp[aA]) (by simp[aA]) (by simp[aA]))
theorem Bd(l r:Bool){L:List El}(h:aY L):aY (fS l r L):=by
 unfold fS;cases l<;>cases r
 ·exact go (go cz h) cz
 ·exact go cz h
 ·exact go h cz
 exact h
theorem qY(l r:Bool)(v:Value)(xs L:List El)(w:World)(hv:az 0 w.heap.size w v xs)(hlen:xs.length<=3000)(hx:wS xs L)(hn:aY L)(hL:L.length<=1000) :
  Calls prog 74 #[.agg #[.bool l,.bool r,v]] w fun e w'=>∃ v',e=.returned v'/\aQ w.heap.size w' v' (fS l r L)/\Below w.heap.size w w':=by
 obtain⟨a,cp,rfl,-,-⟩:=id hv;have Hv:=ae hv;have HX:=ae hx;have HN:=ae hn;have D:=ai w (.cells #[.bool l,.bool r,.slice a xs.length cp] 25);have HC:Hi (∀ W,Below (w.heap.size+1) (w.alloc (.cells #[.bool l,.bool r,.slice a xs.length cp] 25)) W->W.cell? ⟨w.heap.size,0,none⟩=some (.bool l)/\W.cell? ⟨w.heap.size,1,none⟩=some (.bool r)):=fun W hW =>
  ⟨(hW.cell (p:=⟨w.heap.size,0,none⟩) (Nat.lt_succ_self _)).trans ((au w _).news 0 _ rfl),(hW.cell (p:=⟨w.heap.size,1,none⟩) (Nat.lt_succ_self _)).trans ((au w _).news 1 _ rfl)⟩
 clear hv hx hn
 go_enter func74,ntmps74
 go_wp2_with fail;have Z:(w.alloc (.cells #[.bool l,.bool r,.slice a xs.length cp] 25)).heap.size=w.heap.size+1:=ah _ _;generalize w.alloc (.cells #[.bool l,.bool r,.slice a xs.length cp] 25)=W0 at *;refine(HX.u _ _ (Hv.u.below D lR) hlen).mono ?_;rintro e w1 ⟨v1,rfl,E,x⟩;have a0:=x.size;have O:=ae E;obtain⟨a1,c1,rfl⟩:=E.form;have P:=ae (x.mono (show w.heap.size+1<=W0.heap.size by omega));have y:=ae (D.trans (x.mono (by omega)));clear E x D
 go_wp2_with fail;refine(wL _).mono ?_;rintro e w2 ⟨v2,rfl,F,k⟩;have a7:=k.size;have Q:=ae F;obtain⟨a2,c2,rfl,-,-⟩:=id F;have R:=ae (O.u.keep k lR);have S:=ae (P.u.trans (k.mono (by omega)));have z:=ae (y.u.trans (k.mono (by omega)));clear F k O P y
 go_wp2_with fail;refine(BZ _ [0,255] _ Q.u (by simp)).mono ?_;rintro e w3 ⟨v3,rfl,G,m⟩;have a8:=m.size;have T:=ae G;obtain⟨a3,c3,rfl⟩:=G.form;have A:=ae (R.u.keep m lR);have U:=ae (S.u.trans (m.mono (by omega)));have B:=ae (z.u.trans (m.mono (by omega)));clear G m R S z Q
 go_wp2_with fail;refine(lD 0 (-1) _ [⟨1,[0,255],0,0⟩] _ (T.u.els (jk ef)) (by simp) (jk ef).len).mono ?_;rintro e w4 ⟨v4,rfl,H,n⟩;have a9:=n.size;have o:Hi (aQ w3.heap.size w4 v4 gY):=H;obtain⟨a4,c4,rfl⟩:=H.form;have h:=ae (A.u.keep n lR);have I:=ae (U.u.trans (n.mono (by omega)));have i:=ae (B.u.trans (n.mono (by omega)));obtain⟨k0,k1⟩:=HC.u _ I.u;clear H n A T U B;have j:gY.length=2:=rfl;cases l<;>cases r
 ·go_wp2_with fail;refine(jB _ _ gY L _ (o.u.els cz) (h.u.els HN.u) (by rw[j];omega) (by omega) cz.len HN.u.len).mono ?_;rintro e w5 ⟨v5,rfl,d,b⟩;have V:=b.size;obtain⟨M,hM⟩ : ∃ M,M=gY++L++[⟨2,[],0,0⟩]:=⟨_,rfl⟩;rw[<-hM]at d;have J:=ae d;have C:=ae (o.u.keep b lR);have X:M.length<=1003:=by rw[hM,List.length_append,List.length_append,j];simp;omega
  obtain⟨a5,c5,rfl⟩:=d.form;have q:=ae (i.u.trans (b.mono (by omega)));obtain⟨-,k5⟩:=HC.u _ (I.u.trans (b.mono (by omega)));have K:Hi (aY M):=by rw[hM];exact go cz HN.u
  have HM:=ae hM;clear d b hM k0 k1
  go_wp2_with fail;refine(jB _ _ M gY _ (J.u.els K.u) (C.u.els cz) (by omega) (by rw[j];omega) K.u.len cz.len).mono ?_;rintro e w6 ⟨v6,rfl,f,s⟩;obtain⟨Y,hY⟩ : ∃ Y,Y=M++gY++[⟨2,[],0,0⟩]:=⟨_,rfl⟩;rw[<-hY]at f;have HY:=ae hY;have N:=ae f;obtain⟨a6,c6,rfl⟩:=f.form;have t:=ae (q.u.trans (s.mono (by omega)));clear f s hY;go_wp2;go_ret;have c:aQ w.heap.size _ _ Y:=N.u.base (by omega);have g:Y=fS false false L:=(by rw[HY.u,HM.u];rfl);exact⟨_,rfl,by rw[<-g];exact c,t.u⟩
 ·go_wp2_with fail;refine(jB _ _ gY L _ (o.u.els cz) (h.u.els HN.u) (by rw[j];omega) (by omega) cz.len HN.u.len).mono ?_;rintro e w5 ⟨v5,rfl,d,b⟩;have V:=b.size;obtain⟨M,hM⟩ : ∃ M,M=gY++L++[⟨2,[],0,0⟩]:=⟨_,rfl⟩;rw[<-hM]at d;have J:=ae d;have C:=ae (o.u.keep b lR);have X:M.length<=1003:=by rw[hM,List.length_append,List.length_append,j];simp;omega
  obtain⟨a5,c5,rfl⟩:=d.form;have q:=ae (i.u.trans (b.mono (by omega)));obtain⟨-,k5⟩:=HC.u _ (I.u.trans (b.mono (by omega)));have K:Hi (aY M):=by rw[hM];exact go cz HN.u
  have HM:=ae hM;clear d b hM k0 k1;go_wp2;go_ret;have c:aQ w.heap.size _ _ M:=J.u.base (by omega);have g:M=fS false true L:=HM.u;exact⟨_,rfl,by rw[<-g];exact c,q.u⟩
 ·go_wp2_with fail;refine(jB _ _ L gY _ (h.u.els HN.u) (o.u.els cz) (by omega) (by rw[j];omega) HN.u.len cz.len).mono ?_;rintro e w6 ⟨v6,rfl,f,s⟩;obtain⟨Y,hY⟩ : ∃ Y,Y=L++gY++[⟨2,[],0,0⟩]:=⟨_,rfl⟩;rw[<-hY]at f;have HY:=ae hY;have N:=ae f;obtain⟨a6,c6,rfl⟩:=f.form;have t:=ae (i.u.trans (s.mono (by omega)));clear f s hY;go_wp2;go_ret;have c:aQ w.heap.size _ _ Y:=N.u.base (by omega);have g:Y=fS true false L:=HY.u;exact⟨_,rfl,by rw[<-g];exact c,t.u⟩
 go_wp2;go_ret;have c:aQ w.heap.size _ _ L:=h.u.base (by omega);have g:L=fS true true L:=rfl;exact⟨_,rfl,by rw[<-g];exact c,i.u⟩
def mU(v:Value)(ps:List (Cl Int))(k:Nat):Prop:=v.ownBlock=some k∨∃ p∈ps,0<p.xs.length/\k=p.b
abbrev LI (base:Nat) (w:World) (v:Value) (ps:List (Cl Int)):Prop:=LL mI 0 3 30 base w v ps
theorem Cr:30≠3:=by decide
section
variable {base:Nat} {w w':World} {v:Value} {ps:List (Cl Int)}
theorem LI.lt(h:LI base w v ps){k:Nat}(hk:mU v ps k):base<=k/\k<w.heap.size:=by
 rcases hk with hk|⟨p,hp,h0,rfl⟩
 ·exact h.own.lt k hk
 exact⟨h.lo p hp h0,(h.ok p hp).lt h0⟩
theorem LI.keepF(h:LI base w v ps)(e:∀ k,mU v ps k->w'.heap[k]?=w.heap[k]?):LI base w' v ps:=
 ⟨ak h.own (fun q hq=>e q (Or.inl hq)),fun p hp=>(h.ok p hp).same (fun h0=>e _ (Or.inr ⟨p,hp,h0,rfl⟩)),h.lo,h.apart⟩
theorem LI.footX(h:LI base w v ps)(_:ps.length<=maxLen):Df mI 0 (mU v ps) w v (ps.map Cl.xs):=by
 have t:=h.own.1;rcases h.own.2 with ⟨rfl,hz⟩|⟨g,cap,cur,rfl,u,hg,n,o,x,r⟩
 ·have:ps=[]:=List.eq_nil_of_length_eq_zero hz;subst this;exact Df.nil _ _ _ _ _ _ (Nat.zero_le _)
 have c:∀ i:Nat,i<ps.length->∃ p,ps[i]?=some p/\p∈ps:=fun i hi=>⟨ps[i],by simp[hi],List.getElem_mem hi⟩
 refine⟨some ⟨g,0,none⟩,cap,by rw[List.length_map],⟨by rw[List.length_map];exact n,o⟩,fun _=>⟨g,0,fun i=>((ps[i]?).map Cl.v).getD undef,fun i k=>∃ p,ps[i]?=some p/\0<p.xs.length/\k=p.b,rfl,Or.inl rfl,⟨cur,_,hg⟩,fun i hi=>?_,fun i hi=>?_,fun i hi k hk=>?_,fun i j hi hj hne k hk hk'=>?_⟩⟩
 ·rw[List.length_map]at hi;obtain⟨p,hp,-⟩:=c i hi;show w.cell? ⟨g,0+i,none⟩=some (((ps[i]?).map Cl.v).getD undef);rw[Nat.zero_add,h.own.cellAt i (by omega),List.getElem?_map,hp]
  rfl
 ·rw[List.length_map]at hi;obtain⟨p,hp,hm⟩:=c i hi;have e1:((ps[i]?).map Cl.v).getD undef=p.v:=by rw[hp];rfl
  have e2:((ps.map Cl.xs)[i]?).getD []=p.xs:=by rw[List.getElem?_map,hp];rfl
  show ij mI 0 _ w (((ps[i]?).map Cl.v).getD undef) (((ps.map Cl.xs)[i]?).getD [])/\dj (((ps[i]?).map Cl.v).getD undef);rw[e1,e2];exact⟨(h.ok p hm).foot.mono (fun k hk=>⟨p,hp,hk.1,hk.2⟩),(h.ok p hm).cap⟩
 ·obtain⟨p,hp,a,rfl⟩:=hk;have hm:p∈ps:=List.mem_of_getElem? hp;refine⟨Or.inr ⟨p,hm,a,rfl⟩,fun e1=>?_⟩;exact h.not_row Cr (h.ok p hm) rfl a (by rw[e1];rfl)
 obtain⟨p,hp,a,rfl⟩:=hk;obtain⟨q,hq,d,e1⟩:=hk';have e:=(List.getElem?_eq_some_iff.1 hp).1;have f:=(List.getElem?_eq_some_iff.1 hq).1;have l:=(List.getElem?_eq_some_iff.1 hp).2;have m:=(List.getElem?_eq_some_iff.1 hq).2;rcases Nat.lt_or_gt_of_ne hne with hlt|s
 ·have:=List.pairwise_iff_getElem.1 h.apart i j e f hlt;rw[l,m]at this;exact this a d e1
 have:=List.pairwise_iff_getElem.1 h.apart j i f e s;rw[l,m]at this;exact this d a e1.symm
theorem LI.pushed{W w7:World}{g cap:Nat}{p:Cl Int}(h:LI base w v ps)(hbase:base<=w.heap.size)(hp:p.ok mI 0 3 w)(hplo:0<p.xs.length->base<=p.b)(hnew:∀ q∈ps,0<q.xs.length->0<p.xs.length->q.b≠p.b)(hP:aK w W (.cells #[p.v] 30))
  (r1:w7.ownsRow base 30 1 (.slice (some ⟨g,0,none⟩) (ps.length+1) cap) (ps.length+1) (ps.map Cl.v++[p.v]))(r2:W.grownBy w7 v.ownBlock)(r3:v.ownBlock=some g∨g=w.heap.size+1) :
  LI base w7 (.slice (some ⟨g,0,none⟩) (ps.length+1) cap) (ps++[p])/\aR (fun k=>v.ownBlock=some k∨w.heap.size<=k) w w7/\∀ k,mU (.slice (some ⟨g,0,none⟩) (ps.length+1) cap) (ps++[p]) k->mU v ps k∨(0<p.xs.length/\k=p.b)∨w.heap.size<=k:=by
 obtain⟨a,-⟩:=LL.app Cr h hbase hp hplo hnew hP r1 r2;have hz:=hP.size;have c:=r2.size;refine⟨a,⟨r2.os.trans hP.below.os,r2.tape.trans hP.below.tape,r2.output.trans hP.below.output,by omega,fun k hk=>?_⟩,fun k hk=>?_⟩
 ·have h1:k<w.heap.size:=by apply Nat.lt_of_not_le;intro e;exact hk (Or.inr e)
  exact(r2.block k (by omega) (fun e=>hk (Or.inl e.symm))).trans (hP.old h1)
 rcases hk with hk|⟨q,hq,h0,rfl⟩
 ·have e:g=k:=Option.some.inj hk;rcases r3 with r3|r3
  ·exact Or.inl (Or.inl (by rw[r3,e]))
  exact Or.inr (Or.inr (by omega))
 rcases List.mem_append.1 hq with hq|hq
 ·exact Or.inl (Or.inr ⟨q,hq,h0,rfl⟩)
 rw[List.mem_singleton]at hq;subst hq;exact Or.inr (Or.inl ⟨h0,rfl⟩)
end
theorem Tryz.zinIS:(prog.info? 30).map (fun i=>(i.zero,i.size,i.bytes))=some (some (.slice none 0 0),1,24):=by kernel_rfl
theorem qA{ops:Array Oper}{rest:List Oper}{o:Oper}{a:Act}{Q:Exit->Act->World->Prop}(hgd:o.guard=none)(s y:Operand)(ho:o.op=.call { callee:=.builtin .append,args:=#[s,y],argTypes:=#[73,73] })
  {base:Nat}{w W:World}{v:Value}{ps:List (Cl Int)}{p:Cl Int}(h:LI base w v ps)(hs:a.eval s=v)(hbase:base<=w.heap.size)(hp:p.ok mI 0 3 w)(hplo:0<p.xs.length->base<=p.b)(hnew:∀ q∈ps,0<q.xs.length->0<p.xs.length->q.b≠p.b)(hP:aK w W (.cells #[p.v] 30))
  (hy:a.eval y=.slice (some ⟨w.heap.size,0,none⟩) 1 1)(hl:ps.length<=1048576)
  (K:∀ g cap w7,LI base w7 (.slice (some ⟨g,0,none⟩) (ps.length+1) cap) (ps++[p])->aR (fun k=>v.ownBlock=some k∨w.heap.size<=k) w w7->(∀ k,mU (.slice (some ⟨g,0,none⟩) (ps.length+1) cap) (ps++[p]) k->mU v ps k∨(0<p.xs.length/\k=p.b)∨w.heap.size<=k)->wpList prog ops Q rest (a.put o.dst (.slice (some ⟨g,0,none⟩) (ps.length+1) cap)) w7):wpList prog ops Q (o::rest) a W:=by
 obtain⟨j0,hj,c,d,f⟩:=info_parts Tryz.zinIS;have hz:=hP.size;refine wpList_append_own_at W hgd s y 73 ho base 30 j0 (.slice none 0 0) 1 24 underlying73 hj c d f rfl (by decide) v ps.length (ps.map Cl.v) hs (hP.own h.own) ⟨w.heap.size,0,none⟩ 1 1 [p.v] hy rfl (aK.news hP) (fun u hu=>by rw[List.mem_singleton]at hu;subst hu;exact hp.one) (by unfold maxLen;omega) (by omega) (by omega) ?_;intro v' w7 r1 r2 _ r3;obtain⟨g,cap,rfl⟩:=zH r1 (by omega);obtain⟨q1,q2,q3⟩:=h.pushed hbase hp hplo hnew hP r1 r2 (r3.imp (fun e=>e.symm) (fun e=>by have:=Option.some.inj e;exact this.trans hz));exact K g cap w7 q1 q2 q3
def kQ(s:Value)(b:Bool)(f l k:Value):Nat->Value:=fun j=>if j=0 then s else if j=1 then .bool b else if j=2 then f else if j=3 then l else k
def cg(w:World)(D:Nat)(s:Value)(b:Bool)(f l k:Value):Prop:=w.rowIs D 75 5 (kQ s b f l k)
theorem cg.new(w:World)(s:Value)(b:Bool)(f l k:Value):cg (w.alloc (.cells #[s,.bool b,f,l,k] 75)) w.heap.size s b f l k:=by
 refine World.rowIs_alloc w #[s,.bool b,f,l,k] 75 _ (fun i hi=>?_)
 match i,hi with
 | 0,_=>rfl
 | 1,_=>rfl
 | 2,_=>rfl
 | 3,_=>rfl
 | 4,_=>rfl
theorem cg.put0{w:World}{D:Nat}{s f l k:Value}{b:Bool}(h:cg w D s b f l k)(s':Value):cg (w.setCell ⟨D,0,none⟩ s') D s' b f l k:=by
 refine World.rowIs.congr (World.rowIs.set h 0 _) (fun j hj=>?_)
 match j,hj with
 | 0,_=>simp[kQ]
 | 1,_=>simp[kQ]
 | 2,_=>simp[kQ]
 | 3,_=>simp[kQ]
 | 4,_=>simp[kQ]
theorem cg.put1{w:World}{D:Nat}{s f l k:Value}{b:Bool}(h:cg w D s b f l k)(b':Bool):cg (w.setCell ⟨D,1,none⟩ (.bool b')) D s b' f l k:=by
 refine World.rowIs.congr (World.rowIs.set h 1 _) (fun j hj=>?_)
 match j,hj with
 | 0,_=>simp[kQ]
 | 1,_=>simp[kQ]
 | 2,_=>simp[kQ]
 | 3,_=>simp[kQ]
 | 4,_=>simp[kQ]
theorem cg.put2{w:World}{D:Nat}{s f l k:Value}{b:Bool}(h:cg w D s b f l k)(f':Value):cg (w.setCell ⟨D,2,none⟩ f') D s b f' l k:=by
 refine World.rowIs.congr (World.rowIs.set h 2 _) (fun j hj=>?_)
 match j,hj with
 | 0,_=>simp[kQ]
 | 1,_=>simp[kQ]
 | 2,_=>simp[kQ]
 | 3,_=>simp[kQ]
 | 4,_=>simp[kQ]
theorem cg.put3{w:World}{D:Nat}{s f l k:Value}{b:Bool}(h:cg w D s b f l k)(l':Value):cg (w.setCell ⟨D,3,none⟩ l') D s b f l' k:=by
 refine World.rowIs.congr (World.rowIs.set h 3 _) (fun j hj=>?_)
 match j,hj with
 | 0,_=>simp[kQ]
 | 1,_=>simp[kQ]
 | 2,_=>simp[kQ]
 | 3,_=>simp[kQ]
 | 4,_=>simp[kQ]
theorem cg.put4{w:World}{D:Nat}{s f l k:Value}{b:Bool}(h:cg w D s b f l k)(k':Value):cg (w.setCell ⟨D,4,none⟩ k') D s b f l k':=by
 refine World.rowIs.congr (World.rowIs.set h 4 _) (fun j hj=>?_)
 match j,hj with
 | 0,_=>simp[kQ]
 | 1,_=>simp[kQ]
 | 2,_=>simp[kQ]
 | 3,_=>simp[kQ]
 | 4,_=>simp[kQ]
theorem cg.on{w w':World}{D:Nat}{s f l k:Value}{b:Bool}(h:cg w D s b f l k)(e:w'.heap[D]?=w.heap[D]?):cg w' D s b f l k:=World.rowIs.of_block h e
theorem cg.lt{w:World}{D:Nat}{s f l k:Value}{b:Bool}(h:cg w D s b f l k):D<w.heap.size:=World.rowIs.lt h
theorem cg.facts{w:World}{D:Nat}{s f l k:Value}{b:Bool}(h:cg w D s b f l k):w.cell? ⟨D,0,none⟩=some s/\w.cell? ⟨D,1,none⟩=some (.bool b)/\w.cell? ⟨D,2,none⟩=some f/\w.cell? ⟨D,3,none⟩=some l/\w.cell? ⟨D,4,none⟩=some k:=
 ⟨World.rowIs.cell h (i:=0) (by omega),World.rowIs.cell h (i:=1) (by omega),World.rowIs.cell h (i:=2) (by omega),World.rowIs.cell h (i:=3) (by omega),World.rowIs.cell h (i:=4) (by omega)⟩
theorem cg.blk{w:World}{D:Nat}{s f l k:Value}{b:Bool}(h:cg w D s b f l k):w.heap[D]?=some (.cells #[s,.bool b,f,l,k] 75):=by
 obtain⟨cur,h1,h2,h3⟩:=h;rw[h1]
 congr 2
 refine Array.ext (by rw[h2];rfl) (fun i hi hj=>?_)
 have h4:=h3 i (by omega);rw[Array.getElem?_eq_getElem hi]at h4;rw[Option.some.inj h4];have a:i<5:=by omega
 match i,a with
 | 0,_=>rfl
 | 1,_=>rfl
 | 2,_=>rfl
 | 3,_=>rfl
 | 4,_=>rfl
theorem BH{w:World}{D:Nat}{s f l k:Value}{b:Bool}(h:w.heap[D]?=some (.cells #[s,.bool b,f,l,k] 75)):cg w D s b f l k:=by
 refine⟨_,h,rfl,fun i hi=>?_⟩
 match i,hi with
 | 0,_=>rfl
 | 1,_=>rfl
 | 2,_=>rfl
 | 3,_=>rfl
 | 4,_=>rfl
theorem cg.row{w:World}{D:Nat}{s0 f0 l0 k0:Value}{b0:Bool}(h:cg w D s0 b0 f0 l0 k0)(s:Value)(b:Bool)(f l k:Value):cg (w.setRow D #[s,.bool b,f,l,k]) D s b f l k:=BH (setRow_heap w D _ _ _ _ h.blk)
theorem Fk(b:Bool)(a1 a2 a3 a4:Option Addr)(n1 n2 n3 n4 c1 c2 c3 c4:Nat):(#[.slice a1 n1 c1,.bool b,.slice a2 n2 c2,.slice a3 n3 c3,.slice a4 n4 c4]:Array Value).all (·.oneCell')=true:=by kernel_rfl
theorem As{w:World}{B:Nat}{s f l k:Value}{b:Bool}(h:cg w B s b f l k){fn:Func}{p:Tmp}(hr:fn.results=#[.cell p 75])(tmps:Array Value)(hp:tmps.getD p undef=.pointer (some ⟨B,0,none⟩)):(results fn tmps).run prog w=.ok (.agg #[s,.bool b,f,l,k]) w:=
 results_cell_row hr tmps w B _ _ _ _ hp h.blk underlying75 rfl (by kernel_rfl)
def xC(K:List Lk)(n i:Nat):List Int:=((List.range n).filter (ce K i)).map (fun j:Nat=>(j:Int))
def eT(K:List Lk)(n:Nat):List (List Int):=(List.range n).map (xC K n)
def mz(l r:Bool)(xs:List El)(S:List (List Int))(b:Bool)(F L:List Int)(W:List (List Int)):Prop:=
 (bw xs/\∃ L0 a ln ss,cG xs L0/\L0.length<=1000/\cu (fS l r L0) (aO (fS l r L0)) a ln ss/\S=bu (fS l r L0)/\b=a.nl/\F=cZ a false 0/\L=cZ a true 0/\W=eT ln (aO (fS l r L0)))∨(¬ bw xs/\S=[]/\b=false/\F=[]/\L=[]/\W=[])
theorem sh0(a:It):a.sh 0=a:=by obtain⟨b,f,l⟩:=a;simp[It.sh]
theorem yh(ln:List Lk):cT 0 ln=ln:=by unfold cT;simp
theorem mz.one{l r:Bool}{xs:List El}{S S':List (List Int)}{b b':Bool}{F F' L L':List Int}{W W':List (List Int)}(h:mz l r xs S b F L W)(k:mz l r xs S' b' F' L' W'):S=S'/\b=b'/\F=F'/\L=L'/\W=W':=by
 rcases h with ⟨h1,L0,a,ln,ss,h2,-,h3,rfl,rfl,rfl,rfl,rfl⟩|⟨h1,rfl,rfl,rfl,rfl,rfl⟩<;>rcases k with ⟨k1,M0,a',ln',ss',k2,-,k3,rfl,rfl,rfl,rfl,rfl⟩|⟨k1,rfl,rfl,rfl,rfl,rfl⟩
 ·obtain rfl:=h2.one k2;obtain⟨-,e1,e2,-⟩:=h3.one k3;rw[sh0,sh0]at e1;rw[yh,yh]at e2;subst e1 e2;exact⟨rfl,rfl,rfl,rfl,rfl⟩
 ·exact absurd h1 k1
 ·exact absurd k1 h1
 exact⟨rfl,rfl,rfl,rfl,rfl⟩
def Fo(w:World)(v:Value)(S:List (List Int))(b:Bool)(F L:List Int)(W:List (List Int)):Prop:=
 ∃ sv fv lv wv,v=.agg #[sv,.bool b,fv,lv,wv]/\kY mI 0 w.heap.size w sv S/\aP mI 0 0 w.heap.size w fv F/\aP mI 0 0 w.heap.size w lv L/\kY mI 0 w.heap.size w wv W
theorem zl{ops:Array Oper}{rest:List Oper}{o:Oper}{a:Act}{Q:Exit->Act->World->Prop}(hgd:o.guard=none)(s y:Operand)(ho:o.op=.call { callee:=.builtin .append,args:=#[s,y],argTypes:=#[30,30] })
  {base:Nat}{w W:World}{v:Value}{os:List Int}{u:Int}(h:w.ownsRow base 3 1 v os.length (os.map mI))(hs:a.eval s=v)(hbase:base<=w.heap.size)(hP:aK w W (.cells #[.int .i64 u] 3))
  (hy:a.eval y=.slice (some ⟨w.heap.size,0,none⟩) 1 1)(hl:os.length<=1048576)
  (K:∀ v' w7,w7.ownsRow base 3 1 v' (os++[u]).length ((os++[u]).map mI)->Below base w w7->wpList prog ops Q rest (a.put o.dst v') w7):wpList prog ops Q (o::rest) a W:=by
 obtain⟨j0,hj,b,c,d⟩:=info_parts Tryz.zinInt;have hz:=hP.size;refine wpList_append_own_at W hgd s y 30 ho base 3 j0 (.int .i64 0) 1 8 underlying30 hj b c d rfl (by decide) v os.length (os.map mI) hs (hP.own h) ⟨w.heap.size,0,none⟩ 1 1 [.int .i64 u] hy rfl (aK.news hP) (fun x hx=>by rw[List.mem_singleton]at hx;subst hx;rfl) (by unfold maxLen;omega) (by omega) (by omega) ?_;intro v' w7 r1 r2 _ _;obtain⟨q1,q2⟩:=qF h hbase hP r1 r2;exact K v' w7 q1 q2
theorem Mx.on{w w':World}{G n:Nat}{f:Nat->Nat->Bool}(h:Mx w G n f)(e:∀ k,G<=k->k<G+1+n->w'.heap[k]?=w.heap[k]?):Mx w' G n f:=
 ⟨h.top.of_block (e G lR (by omega)),fun i hi=>(h.row i hi).of_block (e _ (by omega) (by omega))⟩
theorem rH{M:List El}{k:Nat}(h:k<M.length):bu (M.take (k+1))=bu (M.take k)++(if (M[k]?.getD dE).kind=1 then [(M[k]?.getD dE).set] else []):=by
 have key:∀ (A B:List El),bu (A++B)=bu A++bu B:=by
  intro A B
  induction A with
  | nil=>rfl
  | cons x r ih=>simp[bu,ih]
 rw[cK h,key];simp[bu]
theorem vN(K:List Lk)(i j:Nat):((List.range (j+1)).filter (ce K i)).map (fun j:Nat=>(j:Int))=((List.range j).filter (ce K i)).map (fun j:Nat=>(j:Int))++(if ce K i j then [(j:Int)] else []):=by
 rw[List.range_succ,List.filter_append,List.map_append]
 congr 1
 by_cases h:ce K i j=true
 ·simp[h]
 simp[h]
theorem wM(K:List Lk)(n i:Nat)(h:i<n):(eT K n).take (i+1)=(eT K n).take i++[xC K n i]:=by
 unfold eT;rw[List.take_add_one];simp[h]
theorem rX(l r:Bool)(v:Value)(xs:List El)(w:World)(hv:az 0 w.heap.size w v xs) :
  Calls prog 37 #[.agg #[.bool l,.bool r,v]] w fun e w'=>∃ v' S b F L W,e=.returned v'/\mz l r xs S b F L W/\Fo w' v' S b F L W/\Below w.heap.size w w':=by
 obtain⟨a,cp,rfl,-,-⟩:=id hv;have Hv:=ae hv;obtain⟨W0,T⟩ : ∃ W0,W0=(w.alloc (.cells #[.bool l,.bool r,.slice a xs.length cp] 25)).alloc (.cells #[.slice none 0 0,.bool false,.slice none 0 0,.slice none 0 0,.slice none 0 0] 75):=⟨_,rfl⟩;have ex:W0.heap.size=w.heap.size+2:=by rw[T,ah,ah]
 have bn:Below w.heap.size w W0:=by rw[T];exact aH w _ _
 have HC:Hi (∀ W,Below (w.heap.size+2) W0 W->W.cell? ⟨w.heap.size,0,none⟩=some (.bool l)/\W.cell? ⟨w.heap.size,1,none⟩=some (.bool r)/\W.cell? ⟨w.heap.size,2,none⟩=some (.slice a xs.length cp)):=fun W hW=>by
  have bo:Below (w.heap.size+1) (w.alloc (.cells #[.bool l,.bool r,.slice a xs.length cp] 25)) W:=by
   have:=(ai (w.alloc (.cells #[.bool l,.bool r,.slice a xs.length cp] 25)) (.cells #[.slice none 0 0,.bool false,.slice none 0 0,.slice none 0 0,.slice none 0 0] 75));rw[ah,<-T]at this;exact this.trans (hW.mono (by omega))
  exact⟨(bo.cell (p:=⟨w.heap.size,0,none⟩) (Nat.lt_succ_self _)).trans ((au w _).news 0 _ rfl),(bo.cell (p:=⟨w.heap.size,1,none⟩) (Nat.lt_succ_self _)).trans ((au w _).news 1 _ rfl),(bo.cell (p:=⟨w.heap.size,2,none⟩) (Nat.lt_succ_self _)).trans ((au w _).news 2 _ rfl)⟩
 have HR:Hi (cg W0 (w.heap.size+1) (.slice none 0 0) false (.slice none 0 0) (.slice none 0 0) (.slice none 0 0)):=by
  have:=cg.new (w.alloc (.cells #[.bool l,.bool r,.slice a xs.length cp] 25)) (.slice none 0 0) false (.slice none 0 0) (.slice none 0 0) (.slice none 0 0);rw[ah,<-T]at this;exact this
 have ca:=ae T;clear hv T
 go_enter func37,ntmps37
 go_wp2_with fail;rw[<-ca.u];clear ca;refine(eh l r _ xs _ (Hv.u.below bn lR)).mono ?_;rintro e w1 ⟨a3,ar⟩;have ey:=ar.size;have av:=ae (ar.mono (show w.heap.size+2<=W0.heap.size by omega));have Q:=ae (bn.trans (ar.mono (by omega)));have aw:=ae (HR.u.on (av.u.block _ (by omega)));clear ar bn HR;rcases a3.cases with ⟨rfl,hok⟩|⟨rfl,b7⟩
 ·obtain⟨k0,k1,k2⟩:=HC.u _ av.u;obtain⟨L0,hx,hn,hl,cb,⟨U,D⟩,-⟩:=uv bS hok
  -- what the model finds at the whole list
  have cc:∃ U',Eb U' (fS l r L0):=by
   obtain⟨g,hg⟩:=jA ef;unfold fS;cases l<;>cases r
   ·exact⟨_,bS.cat (bS.cat (bS.all hg) D) (bS.all hg)⟩
   ·exact⟨_,bS.cat (bS.all hg) D⟩
   ·exact⟨_,bS.cat D (bS.all hg)⟩
   exact⟨_,D⟩
  have cf:=lG l r L0;have ax:=ae (Bd l r hn);have bq:=ae (qY l r (.slice a xs.length cp) xs L0 w1 (Hv.u.below Q.u lR) hok.1.2 hx hn hl);obtain⟨M,hM⟩ : ∃ M,M=fS l r L0:=⟨_,rfl⟩;rw[<-hM]at cc cf ax bq;obtain⟨U',A,ln,ss,c,-,ch,ci,br,e5,ck,cl,b8⟩:=cc;have E:Hi (mz l r xs (bu M) A.nl (cZ A false 0) (cZ A true 0) (eT ln (aO M))):=Or.inl ⟨hok,L0,A,ln,ss,cb,hl,by rw[<-hM];exact br,by rw[<-hM],rfl,rfl,rfl,by rw[<-hM]⟩;have co:=ae ch;have a4:=ae ci;have bs:=ae cl;have b9:=ae b8;have cr:Hi ((bR gL M).ln=ln):=by
   show(bR gL M).ln=ln;rw[br gL];simp[gL,yh]
  have er:M.length<=1006:=by omega
  have e6:=eO M;clear a3 hok hx hn cb D hM cf ch ci br e5 ck cl b8 hl
  go_wp2_with fail;refine bq.u.mono ?_;rintro e w2 ⟨v2,rfl,bt,a5⟩;have f5:=a5.size;have a6:=ae (bt.els ax.u);obtain⟨a2,c2,rfl⟩:=bt.form;have f6:=ae (av.u.trans (a5.mono (by omega)));have cs:=ae (Q.u.trans (a5.mono (by omega)));have e7:=ae (aw.u.on (a5.block _ (by omega)));clear bt a5 bq k0 k1 k2 av Q aw;have ct:=cg.new w2 (.slice none 0 0) false (.slice none 0 0) (.slice none 0 0) (.slice none 0 0);have H:=ai w2 (.cells #[.slice none 0 0,.bool false,.slice none 0 0,.slice none 0 0,.slice none 0 0] 75)
  go_wp2_with fail
  go_loopw [5] (fun iv wr=>∃ (k:Nat) (sv:Value) (ps:List (Cl Int)),k<=M.length/\iv=.int .i64 k/\cg wr w2.heap.size sv false (.slice none 0 0) (.slice none 0 0) (.slice none 0 0)/\LI (w2.heap.size+1) wr sv ps/\ps.map Cl.xs=bu (M.take k)/\Below w2.heap.size w2 wr) (fun iv _=>M.length-(intOf iv).toNat)
  case atStart=>exact⟨0,_,[],Nat.zero_le _,rfl,ct,LL.nil,rfl,H⟩
  clear ct H;obtain⟨k,sv,ps,hk,rfl,d,s,X,hb⟩:=hrel;have es:=d.lt
  by_cases hlt:k<M.length
  ·have cv:(k:Int)<(M.length:Int):=by omega
   obtain⟨x1,x2,e9,-,hc⟩:=id a6.u;cases e9;obtain⟨b,off,rfl,-,e8,cw⟩:=hc (by omega);obtain⟨i1,i2,i3,sv',c0,c1,c2',c3,K⟩:=(cw k hlt).same (ew.of_below hb lR) (Nat.zero_le _) e8;have ea:=ax.u.len k;have eb:=ae (pA (K.mono lR hb.size));have a7:=ae (rH hlt);generalize M[k]?.getD dE=x at *;obtain⟨sa',sc',rfl,-,-,-⟩:=id K;obtain⟨sa,sc,rfl⟩:=aj s.own;have ec:ps.length<=1006:=by
    have h1:=congrArg List.length X;rw[List.length_map,dv]at h1;have h2:=eO (M.take k);rw[List.length_take]at h2;omega
   have f7:b<wr.heap.size:=by omega
   have z:=ae s;have a8:=ae X;have B:=ae d;have N:=ae hb;clear cw hc K i1 i2 i3 s X d hb c2' c3
   by_cases hq:x.kind=1
   ·go_wp2_with (first
     | (at_builtin;refine jL rfl _ _ rfl rfl _ rfl x.set eb.u ea ?_;intro sv1 w3 H f ee;obtain⟨pb,I,J⟩:=xT f;obtain⟨s1,s2,rfl⟩:=aj f;have f8:=H.size;have HP:=ae I;have a9:=ae J;have ek:=ae H;have cx:=ae (z.u.keep H lR);have cy:=ae (B.u.on (H.block _ (by omega)));obtain⟨f0,f1,f2,f3,f4⟩:=cy.u.facts;clear f ee I J H)
     | (at_builtin;refine qA rfl _ _ rfl (p:=⟨.slice s1 x.set.length s2,x.set,pb⟩) cx.u rfl (by omega) HP.u (fun h0=>by have:=a9.u h0;show w2.heap.size+1<=pb;omega) (fun q hq h0 h1=>by have h2:=a9.u h1;have h3:=(z.u.ok q hq).lt h0;show q.b≠pb;omega) (au w3 _) rfl (by omega) ?_;intro g cap w7 q1 q2 q3;have aa:¬ ((Value.slice sa ps.length sc).ownBlock=some w2.heap.size∨w3.heap.size<=w2.heap.size):=(by rintro(h|h);(have:=(z.u.own.lt _ h).1;omega);omega);have y:=ae (cy.u.on (q2.block _ aa));have O:=ae q1;have ab:=ae q2;obtain⟨g0,-,-,-,-⟩:=y.u.facts;have y0:=World.rowIs.frozen y.u 0;clear q1 q2 q3 aa))
    go_roundw
    case rel =>
     refine⟨k+1,_,ps++[⟨.slice s1 x.set.length s2,x.set,pb⟩],by omega,by go_num,y.u.put0 _,?_,?_,?_⟩
     ·exact O.u.keepF (fun j hj=>Below.heap_setCell _ _ _ _ (by have:=(LI.lt O.u hj).1;show j≠w2.heap.size;omega))
     ·rw[List.map_append,a8.u,a7.u,if_pos hq];rfl
     refine aI (N.u.trans ((ek.u.mono (by omega)).trans (ab.u.below (fun j hj=>?_)))) lR _;rintro(h|h)
     ·have:=(z.u.own.lt _ h).1;omega
     omega
    simp[intOf];omega
   go_wp2
   go_roundw
   case rel=>exact⟨k+1,_,ps,by omega,by go_num,B.u,z.u,by rw[a8.u,a7.u,if_neg hq,List.append_nil],N.u⟩
   simp[intOf];omega
  obtain rfl:k=M.length:=by omega
  rw[List.take_length]at X;obtain⟨sa,sc,rfl⟩:=aj s.own;have a8:=ae X;have z:=ae s;have B:=ae d;have HB:=ae hb;clear X s d hb
  go_wp2_with fail;refine(co.u _ _ (a6.u.below HB.u lR) (by omega)).mono ?_;rintro e w4 ⟨rfl,ad⟩;have f9:=ad.size;have b0:=B.u.on (ad.block _ (by omega));have af:Hi (LI (w2.heap.size+1) (w4.setCell ⟨w2.heap.size,1,none⟩ (.bool A.nl)) (.slice sa ps.length sc) ps):=LI.keepF (z.u.keep ad lR) (fun j hj=>Below.heap_setCell _ _ _ _ (by have:=(LI.lt z.u hj).1;show j≠w2.heap.size;omega));have d0:=ae (b0.put1 A.nl);have bv:=ae (aI (HB.u.trans (ad.mono (by omega))) lR (o:=1) (.bool A.nl));obtain⟨-,g1,-,-,-⟩:=b0.facts;have y1:=World.rowIs.frozen b0 1;have fb:(w4.setCell ⟨w2.heap.size,1,none⟩ (.bool A.nl)).heap.size=w4.heap.size:=aJ _ _ _;clear ad b0 z B HB co
  go_wp2_with fail;generalize w4.setCell ⟨w2.heap.size,1,none⟩ (.bool A.nl)=w5 at *;have el:=ae E.u;obtain⟨F,hF⟩ : ∃ F,F=cZ A false 0:=⟨_,rfl⟩;obtain⟨Z,hZ⟩ : ∃ Z,Z=cZ A true 0:=⟨_,rfl⟩;have fd:F.length<=1006:=by have:=iH a4.u false 0;rw[<-hF]at this;omega
  have ff:Z.length<=1006:=by have:=iH a4.u true 0;rw[<-hZ]at this;omega
  have bx:=a4.u.2.2 (.slice a2 M.length c2) w5 0 false (a6.u.below bv.u lR) (by omega) (by omega);rw[<-hF]at bx;have d1:=ae bx;have d2:=ae hF;have bz:=ae hZ;clear bx el g1 y1 hF hZ;refine d1.u.mono ?_;rintro e w6 ⟨fv,rfl,b1,ag⟩;obtain⟨fa,fc,rfl⟩:=aj b1;have fg:=ag.size;have b2:=d0.u.on (ag.block _ (by omega));have al:Hi (LI (w2.heap.size+1) (w6.setCell ⟨w2.heap.size,2,none⟩ (.slice fa F.length fc)) (.slice sa ps.length sc) ps):=LI.keepF (af.u.keep ag lR) (fun j hj=>Below.heap_setCell _ _ _ _ (by have:=(LI.lt af.u hj).1;show j≠w2.heap.size;omega));have y:=ae (b2.put2 (.slice fa F.length fc));have c4:=ae (aI (bv.u.trans (ag.mono (by omega))) lR (o:=2) (.slice fa F.length fc));have b3:Hi ((w6.setCell ⟨w2.heap.size,2,none⟩ (.slice fa F.length fc)).ownsRow w5.heap.size 3 1 (.slice fa F.length fc) F.length (F.map mI)):=ak b1 (fun q hq=>Below.heap_setCell _ _ _ _ (by have:=(b1.lt q hq).1;show q≠w2.heap.size;omega));obtain⟨-,-,g2,-,-⟩:=b2.facts;have y2:=World.rowIs.frozen b2 2;have fh:(w6.setCell ⟨w2.heap.size,2,none⟩ (.slice fa F.length fc)).heap.size=w6.heap.size:=aJ _ _ _;clear ag b2 b1 af d0 bv d1
  go_wp2_with fail;generalize w6.setCell ⟨w2.heap.size,2,none⟩ (.slice fa F.length fc)=w7 at *;have c5:=a4.u.2.2 (.slice a2 M.length c2) w7 0 true (a6.u.below c4.u lR) (by omega) (by omega);rw[<-bz.u]at c5;have d3:=ae c5;clear c5 g2 y2;refine d3.u.mono ?_;rintro e w8 ⟨lv,rfl,b4,a0⟩;obtain⟨la,lc,rfl⟩:=aj b4;have fi:=a0.size;have b5:=y.u.on (a0.block _ (by omega));have bc:Hi (LI (w2.heap.size+1) (w8.setCell ⟨w2.heap.size,3,none⟩ (.slice la Z.length lc)) (.slice sa ps.length sc) ps):=LI.keepF (al.u.keep a0 lR) (fun j hj=>Below.heap_setCell _ _ _ _ (by have:=(LI.lt al.u hj).1;show j≠w2.heap.size;omega));have d4:=ae (b5.put3 (.slice la Z.length lc));have c6:=ae (aI (c4.u.trans (a0.mono (by omega))) lR (o:=3) (.slice la Z.length lc));have d5:Hi ((w8.setCell ⟨w2.heap.size,3,none⟩ (.slice la Z.length lc)).ownsRow (w2.heap.size+1) 3 1 (.slice fa F.length fc) F.length (F.map mI)):=aS (ak b3.u (fun q hq=>(Below.heap_setCell _ _ _ _ (by have:=(b3.u.lt q hq).1;show q≠w2.heap.size;omega)).trans (a0.block q (b3.u.lt q hq).2))) (by omega);have d6:Hi ((w8.setCell ⟨w2.heap.size,3,none⟩ (.slice la Z.length lc)).ownsRow (w2.heap.size+1) 3 1 (.slice la Z.length lc) Z.length (Z.map mI)):=aS (ak b4 (fun q hq=>Below.heap_setCell _ _ _ _ (by have:=(b4.lt q hq).1;show q≠w2.heap.size;omega))) (by omega);obtain⟨-,-,-,g3,-⟩:=b5.facts;have y3:=World.rowIs.frozen b5 3;have fj:(w8.setCell ⟨w2.heap.size,3,none⟩ (.slice la Z.length lc)).heap.size=w8.heap.size:=aJ _ _ _;clear a0 b5 b4 al y c4 d3 b3
  go_wp2_with fail;generalize w8.setCell ⟨w2.heap.size,3,none⟩ (.slice la Z.length lc)=w9 at *;have hK:=qD (.slice a2 M.length c2) M w9 (a6.u.below c6.u lR) (by omega) b9.u bs.u.ws (fun k h1 h2=>bs.u.tl k (by omega) h2);rw[cr.u]at hK;obtain⟨n,hn⟩ : ∃ n,n=aO M:=⟨_,rfl⟩;rw[<-d2.u,<-bz.u,<-hn]at E;rw[<-hn]at hK e6;have HK:=ae hK;clear hK g3 y3 hn d2 bz;refine HK.u.mono ?_;rintro e w10 ⟨G,gc,rfl,hG,P,fk,t⟩;have em:=ae P;have an:=ae (bc.u.keep t lR);have d7:=ae (d4.u.on (t.block _ (by omega)));have bd:=ae (c6.u.trans (t.mono (by omega)));have bf:=ae (aG d5.u t lR);have bi:=ae (aG d6.u t lR);have et:=t.size;clear P t HK bc d4 c6 d5 d6 cr b9 bs a4 ax
  go_wp2_with fail
  go_loopw [8] (fun iv wr=>∃ (i:Nat) (wv:Value) (qs:List (Cl Int)),i<=n/\iv=.int .i64 i/\cg wr w2.heap.size (.slice sa ps.length sc) A.nl (.slice fa F.length fc) (.slice la Z.length lc) wv/\LI w10.heap.size wr wv qs/\qs.map Cl.xs=(eT ln n).take i/\aR (fun k=>k=w2.heap.size∨w10.heap.size<=k) w10 wr) (fun iv _=>n-(intOf iv).toNat)
  case atStart=>exact⟨0,_,[],Nat.zero_le _,rfl,d7.u,LL.nil,by simp,aR.refl _ _⟩
  obtain⟨i,wv,qs,hi,rfl,d,s,ao,C⟩:=hrel;obtain⟨V,rfl⟩ : ∃ V,V=wr:=⟨_,rfl⟩;have fl:=C.size;obtain⟨wa,wc,rfl⟩:=aj s.own;have fn:qs.length<=1006:=by
   have h1:=congrArg List.length ao;rw[List.length_map,List.length_take]at h1;omega
  have en:=ae ao;have a1:=ae s;have B:=ae d;have d8:=ae C
  by_cases hlt:i<n
  ·have cv:(i:Int)<(n:Int):=by omega
   have P:=em.u.on (w':=V) (fun k h1 h2=>C.block k (by rintro(h|h)<;>omega));have t0:=P.top.cell hlt;have ep:=ae (P.row i hlt);have d9:=ae P.top;clear ao s d C P
   go_wp2_with fail
   go_loopw [9,10] (fun fvv jv wq=>∃ (j:Nat) (os:List Int),j<=n/\jv=.int .i64 j/\wq.ownsRow V.heap.size 3 1 fvv os.length (os.map mI)/\os=((List.range j).filter (ce ln i)).map (fun j:Nat=>(j:Int))/\Below V.heap.size V wq) (fun _ jv _=>n-(intOf jv).toNat)
   case atStart=>exact⟨0,[],Nat.zero_le _,rfl,World.ownsRow_nil _ _ _ _,rfl,Below.refl _ _⟩
   clear t0;obtain⟨j,os,hj,rfl,f,ap,hb⟩:=hrel;obtain⟨fva,fvc,rfl⟩:=aj f;have fo:=hb.size
   by_cases hlj:j<n
   ·have ev:(j:Int)<(n:Int):=by omega
    have t0:=(d9.u.of_block (hb.block _ (by omega))).cell hlt;have t1:=(ep.u.of_block (hb.block _ (by omega))).cell hlj;have fp:os.length<=1006:=by
     rw[ap,List.length_map];have:=List.length_filter_le (ce ln i) (List.range j);rw[List.length_range]at this;omega
    have a7:=ae (vN ln i j);have b6:=ae ap;have bj:=ae f;have N:=ae hb;generalize ce ln i j=bb at *;clear ap f hb;cases bb
    ·go_wp2
     go_roundw
     case rel=>exact⟨j+1,os,by omega,by go_num,bj.u,by rw[a7.u,<-b6.u];simp,N.u⟩
     simp[intOf];omega
    go_wp2_with (at_builtin;refine zl rfl _ _ rfl (u:=(j:Int)) bj.u rfl (by omega) (au wr _) rfl (by omega) ?_;intro v7 w7 q1 q2;obtain⟨Y,hY⟩ : ∃ Y,Y=os++[(j:Int)]:=⟨_,rfl⟩;rw[<-hY]at q1;obtain⟨ya,yc,rfl⟩:=aj q1;have HY:=ae hY;have O:=ae q1;have ab:=ae q2;clear q1 q2 hY)
    go_roundw
    case rel=>exact⟨j+1,Y,by omega,by go_num,O.u,by rw[a7.u,<-b6.u,HY.u];simp,N.u.trans ab.u⟩
    simp[intOf];omega
   obtain rfl:j=n:=by omega
   have b6:Hi (os=xC ln j i):=ap;obtain⟨pb,I,J⟩:=xT f;have t0:=(d9.u.of_block (hb.block _ (by omega))).cell hlt;have eq:=B.u.lt;have HP:=ae I;have a9:=ae J;have db:=ae (a1.u.keep hb lR);have bl:=ae (B.u.on (hb.block _ eq));have N:=ae hb;obtain⟨-,-,-,-,f4⟩:=bl.u.facts;clear ap f hb I J
   go_wp2_with (at_builtin;refine qA rfl _ _ rfl (p:=⟨.slice fva os.length fvc,os,pb⟩) db.u rfl (by omega) HP.u (fun h0=>by have:=a9.u h0;show w10.heap.size<=pb;omega) (fun q hq h0 h1=>by have h2:=a9.u h1;have h3:=(a1.u.ok q hq).lt h0;show q.b≠pb;omega) (au wr _) rfl (by omega) ?_;intro g cap w7 q1 q2 q3;have aa:¬ ((Value.slice wa qs.length wc).ownBlock=some w2.heap.size∨wr.heap.size<=w2.heap.size):=(by rintro(h|h);(have:=(a1.u.own.lt _ h).1;omega);omega);have y:=ae (bl.u.on (q2.block _ aa));have O:=ae q1;have ab:=ae q2;obtain⟨-,-,-,-,g4⟩:=y.u.facts;have y4:=World.rowIs.frozen y.u 4;clear q1 q2 q3 aa)
   go_roundw
   case rel =>
    refine⟨i+1,_,qs++[⟨.slice fva os.length fvc,os,pb⟩],by omega,by go_num,y.u.put4 _,?_,?_,?_⟩
    ·exact LI.keepF O.u (fun k hk=>Below.heap_setCell _ _ _ _ (by have:=(LI.lt O.u hk).1;show k≠w2.heap.size;omega))
    ·rw[List.map_append,en.u,wM _ _ _ hlt,<-b6.u];rfl
    refine d8.u.trans ((bh N.u (fun k hk=>Or.inr (by omega))).trans ((ab.u.mono (fun k hk=>?_)).trans ((am _ _).fro (Or.inl rfl))));rcases hk with hk|hk
    ·exact Or.inr (a1.u.own.lt _ hk).1
    exact Or.inr (by omega)
   simp[intOf];omega
  obtain rfl:i=n:=by omega
  have aq:qs.map Cl.xs=eT ln i:=by rw[ao,List.take_of_length_le (by simp[eT])]
  have c7:=ae aq;have ds:=(e7.u.on (bd.u.block _ (by omega))).on (C.block _ (by rintro(h|h)<;>omega));have e0:=ae ds;have e1:=ae (LI.keepF (w':=V) an.u (fun k hk=>C.block k (by have:=LI.lt an.u hk;rintro(h|h)<;>omega)));have e2:=ae (ak (w':=V) bf.u (fun k hk=>C.block k (by have:=bf.u.lt k hk;rintro(h|h)<;>omega)));have e3:=ae (ak (w':=V) bi.u (fun k hk=>C.block k (by have:=bi.u.lt k hk;rintro(h|h)<;>omega)));clear ao aq s d C ds
  go_wp2_with (first|(refine wpList_load_row rfl 75 (.tmp 4) rfl w2.heap.size (by first|(simp[Act.eval];done)|(simp[Act.eval,Act.put];done)) 75 _ _ _ (cg.blk B.u) underlying75 rfl (by kernel_rfl) ?_)|(refine wpList_store_row rfl 75 (.tmp 2) (.tmp 85) rfl (w.heap.size+1) #[.slice sa ps.length sc,.bool A.nl,.slice fa F.length fc,.slice la Z.length lc,.slice wa qs.length wc] (by first|(simp[Act.eval];done)|(simp[Act.eval,Act.put];done)) (by first|(simp[Act.eval];done)|(simp[Act.eval,Act.put];done)) 75 _ (cg.blk e0.u) (by kernel_rfl) rfl (Fk _ _ _ _ _ _ _ _ _ _ _ _ _) ?_));refine bodyPost_ret (As (cg.row e0.u _ _ _ _ _) rfl _ rfl) rfl ?_;have R:∀ k,k≠w.heap.size+1->(V.setRow (w.heap.size+1) #[.slice sa ps.length sc,.bool A.nl,.slice fa F.length fc,.slice la Z.length lc,.slice wa qs.length wc]).heap[k]?=V.heap[k]? :=fun k hk=>setRow_other _ _ _ _ hk
  generalize hWF:V.setRow (w.heap.size+1) #[.slice sa ps.length sc,.bool A.nl,.slice fa F.length fc,.slice la Z.length lc,.slice wa qs.length wc]=WF at *;have l1:LI _ WF _ ps:=LI.keepF e1.u (fun k hk=>R k (by have:=(LI.lt e1.u hk).1;omega));have l2:LI _ WF _ qs:=LI.keepF a1.u (fun k hk=>R k (by have:=(LI.lt a1.u hk).1;omega));have l3:=ak (w':=WF) e2.u (fun k hk=>R k (by have:=(e2.u.lt k hk).1;omega));have l4:=ak (w':=WF) e3.u (fun k hk=>R k (by have:=(e3.u.lt k hk).1;omega));have ec:ps.length<=1006:=by
   have h1:=congrArg List.length a8.u;rw[List.length_map,dv]at h1;have h2:=eO M;omega
  refine⟨_,bu M,A.nl,F,Z,eT ln i,rfl,E.u,⟨_,_,_,_,rfl,?_,(bP l3 (Nat.zero_le _) (by unfold maxLen;omega)).at,(bP l4 (Nat.zero_le _) (by unfold maxLen;omega)).at,?_⟩,?_⟩
  ·have:=(l1.footX (by unfold maxLen;omega)).at (fun k hk=>(l1.lt hk).2);rw[a8.u]at this;exact this
  ·have:=(l2.footX (by unfold maxLen;omega)).at (fun k hk=>(l2.lt hk).2);rw[c7.u]at this;exact this
  rw[<-hWF];exact(cs.u.trans (bd.u.mono (by omega))).trans ((d8.u.below (m:=w.heap.size) (fun k hk=>by rintro(h|h)<;>omega)).trans ((dO _ _ _).below (by omega)))
 have E:Hi (mz l r xs [] false [] [] []):=Or.inr ⟨b7,rfl,rfl,rfl,rfl,rfl⟩;clear a3 b7
 go_wp2_with (refine wpList_store_row rfl 75 (.tmp 2) (.tmp 14) rfl (w.heap.size+1) #[.slice none 0 0,.bool false,.slice none 0 0,.slice none 0 0,.slice none 0 0] (by simp[Act.eval]) (by simp[Act.eval]) 75 _ (cg.blk aw.u) (by kernel_rfl) rfl (Fk _ _ _ _ _ _ _ _ _ _ _ _ _) ?_)
 refine bodyPost_ret (As (cg.row aw.u _ _ _ _ _) rfl _ rfl) rfl ?_;have hn:∀ (w':World),kY mI 0 w'.heap.size w' (.slice none 0 0) []:=fun w'=>(Df.nil mI 0 (fun _=>False) w' none 0 (Nat.zero_le _)).at (fun _ h=>h.elim)
 have e4:∀ (w':World),aP mI 0 0 w'.heap.size w' (.slice none 0 0) []:=fun w'=>⟨none,0,rfl,by unfold maxLen;simp,fun h=>absurd h (by simp)⟩
 exact⟨_,[],false,[],[],[],rfl,E.u,⟨_,_,_,_,rfl,hn _,e4 _,e4 _,hn _⟩,Q.u.trans ((dO _ _ _).below (by omega))⟩
structure pO (w wr:World) (N:Nat) (sv fv lv wv pv:Value) (nl e0:Bool) (mk:Nat->Bool) (ee:Bool) (ov:Value):Prop where
 a:cg wr w.heap.size sv nl fv lv wv
 p:eJ wr (w.heap.size+1) 79 pv (.bool e0)
 r:eJ wr (w.heap.size+2) 79 (.slice none 0 0) (.bool false)
 m:wr.rowIs (w.heap.size+3) 4 N (fun j=>.bool (mk j))
 o:eJ wr (w.heap.size+4) 79 ov (.bool ee)
 lo:Below w.heap.size w wr
 z:w.heap.size+5<=wr.heap.size
section
variable {w wr wr':World} {N:Nat} {sv fv lv wv pv ov:Value} {nl e0 ee:Bool} {mk:Nat->Bool}
theorem pO.keep(h:pO w wr N sv fv lv wv pv nl e0 mk ee ov)(hb:Below (w.heap.size+5) wr wr'):pO w wr' N sv fv lv wv pv nl e0 mk ee ov:=
 ⟨h.a.on (hb.block _ (by omega)),h.p.on (hb.block _ (by omega)),h.r.on (hb.block _ (by omega)),h.m.of_block (hb.block _ (by omega)),h.o.on (hb.block _ (by omega)),h.lo.trans (hb.mono (by omega)),Nat.le_trans h.z hb.size⟩
theorem pO.mark(h:pO w wr N sv fv lv wv pv nl e0 mk ee ov)(y:Nat):pO w (wr.setCell ⟨w.heap.size+3,y,none⟩ (.bool true)) N sv fv lv wv pv nl e0 (fun j=>if j=y then true else mk j) ee ov:=by
 have hb:=am (w:=wr) (b:=w.heap.size+3) y (.bool true);refine⟨h.a.on (hb.block _ (by omega)),h.p.on (hb.block _ (by omega)),h.r.on (hb.block _ (by omega)),(World.rowIs.set h.m y _).congr (fun j _=>by by_cases e:j=y<;>simp[e]),h.o.on (hb.block _ (by omega)),h.lo.trans ⟨hb.os,hb.tape,hb.output,Nat.le_of_eq hb.size.symm,fun k hk=>hb.block k (by omega)⟩,by rw[hb.size];exact h.z⟩
theorem pO.yes(h:pO w wr N sv fv lv wv pv nl e0 mk ee ov):pO w (wr.setCell ⟨w.heap.size+4,1,none⟩ (.bool true)) N sv fv lv wv pv nl e0 mk true ov:=by
 have hb:=am (w:=wr) (b:=w.heap.size+4) 1 (.bool true);exact⟨h.a.on (hb.block _ (by omega)),h.p.on (hb.block _ (by omega)),h.r.on (hb.block _ (by omega)),h.m.of_block (hb.block _ (by omega)),h.o.put1,h.lo.trans ⟨hb.os,hb.tape,hb.output,Nat.le_of_eq hb.size.symm,fun k hk=>hb.block k (by omega)⟩,by rw[hb.size];exact h.z⟩
theorem pO.out(h:pO w wr N sv fv lv wv pv nl e0 mk ee ov)(u:Value):pO w (wr.setCell ⟨w.heap.size+4,0,none⟩ u) N sv fv lv wv pv nl e0 mk ee u:=by
 have hb:=am (w:=wr) (b:=w.heap.size+4) 0 u;exact⟨h.a.on (hb.block _ (by omega)),h.p.on (hb.block _ (by omega)),h.r.on (hb.block _ (by omega)),h.m.of_block (hb.block _ (by omega)),h.o.put0,h.lo.trans ⟨hb.os,hb.tape,hb.output,Nat.le_of_eq hb.size.symm,fun k hk=>hb.block k (by omega)⟩,by rw[hb.size];exact h.z⟩
theorem pO.congr(h:pO w wr N sv fv lv wv pv nl e0 mk ee ov){mk':Nat->Bool}(e:∀ j,j<N->mk j=mk' j):pO w wr N sv fv lv wv pv nl e0 mk' ee ov:=
 ⟨h.a,h.p,h.r,h.m.congr (fun j hj=>by rw[e j hj]),h.o,h.lo,h.z⟩
end
def DJ(mk:Nat->Bool)(Y:List Nat):Nat->Bool:=fun j=>mk j||Y.contains j
theorem AD(mk:Nat->Bool)(Y:List Nat)(y j:Nat):DJ mk (Y++[y]) j=(if j=y then true else DJ mk Y j):=by
 unfold DJ
 by_cases e:j=y
 ·subst e;simp
 simp[e]
theorem sZ(S W:List (List Int))(F L:List Int)(nl e0:Bool)(sv fv lv wv pv:Value)(X:List Nat)(b N:Nat)(hold fol:Nat->Nat->Bool)(last:Nat->Bool)(w:World)(hS:kY mI 0 w.heap.size w sv S)(hF:aP mI 0 0 w.heap.size w fv F)(hL:aP mI 0 0 w.heap.size w lv L)(hW:kY mI 0 w.heap.size w wv W)(hp:aP mI 0 0 w.heap.size w pv (X.map fun (x:Nat)=>(x:Int)))
  (hSn:S.length=N)(hWn:W.length=N)(hN:N<=512)(hX:∀ x∈X,x<N)(hSl:∀ i:Nat,i<N->(S[i]?.getD []).length<=1048576)(hh:∀ i,i<N->(hold i b=true↔dP (S[i]?.getD []) (b:Int)))(hf:∀ i,i<N->W[i]?.getD []=((List.range N).filter (fol i)).map fun (j:Nat)=>(j:Int))(hl:∀ i:Nat,i<N->(last i=true↔(i:Int)∈L)) :
  Calls prog 39 #[.agg #[sv,.bool nl,fv,lv,wv],.agg #[pv,.bool e0],.int .i64 (b:Nat)] w fun x w'=>∃ ov:Value,x=.returned (.agg #[ov,.bool (bN N hold fol last (X,e0) b).2])/\w'.ownsRow w.heap.size 3 1 ov (bN N hold fol last (X,e0) b).1.length ((bN N hold fol last (X,e0) b).1.map mN)/\Below w.heap.size w w':=by
 obtain⟨sa,sc,rfl,E,aa⟩:=id hS;obtain⟨fa,fc,rfl,-,-⟩:=id hF;obtain⟨la,lc,rfl,-,-⟩:=id hL;obtain⟨wa,wc,rfl,G,ab⟩:=id hW;obtain⟨pa,pc,rfl,ax,ad⟩:=id hp;rw[List.length_map]at ax ad;rw[hSn]at E aa;rw[hWn]at G ab;simp only[List.length_map,hSn,hWn];have H:=run_make_row' (P:=prog) 31 4 (.bool false) 1 underlying31 Tryz.zinBoR rfl .i64 .i64 N (by omega) (by omega);obtain⟨W5,d⟩ : ∃ W5,W5=((((w.alloc (.cells #[.slice sa N sc,.bool nl,.slice fa F.length fc,.slice la L.length lc,.slice wa N wc] 75)).alloc (.cells #[.slice pa X.length pc,.bool e0] 79)).alloc (.cells #[.slice none 0 0,.bool false] 79)).alloc (.cells (madeCells #[.bool false] N) 4)).alloc (.cells #[.slice none 0 0,.bool false] 79):=⟨_,rfl⟩;have b0:Below w.heap.size w W5:=by
  rw[d];exact(((aH w _ _).alloc (by rw[ah,ah];omega) _).alloc (by rw[ah,ah,ah];omega) _).alloc (by rw[ah,ah,ah,ah];omega) _
 have I:pO w W5 N (.slice sa N sc) (.slice fa F.length fc) (.slice la L.length lc) (.slice wa N wc) (.slice pa X.length pc) nl e0 (fun _=>false) false (.slice none 0 0):=by
  refine⟨?_,?_,?_,?_,?_,b0,by rw[d];simp only[ah];omega⟩
  ·rw[d];exact World.rowIs.alloc (World.rowIs.alloc (World.rowIs.alloc (World.rowIs.alloc (cg.new w _ _ _ _ _) _) _) _) _
  ·rw[d];have:=eJ.new (w.alloc (.cells #[.slice sa N sc,.bool nl,.slice fa F.length fc,.slice la L.length lc,.slice wa N wc] 75)) 79 (.slice pa X.length pc) (.bool e0);rw[ah]at this;exact((this.alloc _).alloc _).alloc _
  ·rw[d];have:=eJ.new ((w.alloc (.cells #[.slice sa N sc,.bool nl,.slice fa F.length fc,.slice la L.length lc,.slice wa N wc] 75)).alloc (.cells #[.slice pa X.length pc,.bool e0] 79)) 79 (.slice none 0 0) (.bool false);simp only[ah]at this;exact(this.alloc _).alloc _
  ·rw[d];have:=World.rowIs_made (((w.alloc (.cells #[.slice sa N sc,.bool nl,.slice fa F.length fc,.slice la L.length lc,.slice wa N wc] 75)).alloc (.cells #[.slice pa X.length pc,.bool e0] 79)).alloc (.cells #[.slice none 0 0,.bool false] 79)) (.bool false) N 4;simp only[ah]at this;exact this.alloc _
  rw[d];have:=eJ.new ((((w.alloc (.cells #[.slice sa N sc,.bool nl,.slice fa F.length fc,.slice la L.length lc,.slice wa N wc] 75)).alloc (.cells #[.slice pa X.length pc,.bool e0] 79)).alloc (.cells #[.slice none 0 0,.bool false] 79)).alloc (.cells (madeCells #[.bool false] N) 4)) 79 (.slice none 0 0) (.bool false);simp only[ah]at this;exact this
 have b1:=ae d;have U:=ae I;have HL:=ae hL;have bn:=ae aa;have bo:=ae ab;have bq:=ae ad;have br:=ae hSl;have HX:=ae hX;have HH:=ae hh;have HF:=ae hf;have b2:=ae hl;clear hS hF hL hW hp d I b0 aa ab ad hSl hX hh hf hl hSn hWn E G;unfold maxLen at ax
 go_enter func39,ntmps39
 go_wp2_with fail;rw[<-b1.u];clear b1 H;simp only[Nat.add_assoc,Nat.reduceAdd]
 go_loopw [9] (fun iv wr=>∃ i:Nat,i<=X.length/\iv=.int .i64 (i:Nat)/\pO w wr N (.slice sa N sc) (.slice fa F.length fc) (.slice la L.length lc) (.slice wa N wc) (.slice pa X.length pc) nl e0 (fun j=>(X.take i).any fun x=>hold x b&&fol x j) ((X.take i).any fun x=>hold x b&&last x) (.slice none 0 0)) (fun iv _=>X.length-(intOf iv).toNat)
 case atStart=>exact⟨0,by omega,rfl,by simpa using U.u⟩
 clear U;obtain⟨i,hi,rfl,hM⟩:=hrel;obtain⟨w1,rfl⟩ : ∃ w1,w1=wr:=⟨_,rfl⟩;obtain⟨p0,p1⟩:=hM.p.cells
 by_cases hlt:i<X.length
 ·have b3:(i:Int)<(X.length:Int):=by omega
  obtain⟨x,hx⟩ : ∃ x,X[i]?=some x:=⟨_,List.getElem?_eq_getElem hlt⟩;have g:=HX.u x (List.mem_of_getElem? hx);have ci:(x:Int)<(N:Int):=by omega
  obtain⟨pb,po,era,-,bs,l⟩:=bq.u (by omega);have y0:w1.cell? ⟨pb,po+i,none⟩=some (.int .i64 (x:Nat)):=by
   rw[hM.lo.cell (p:=⟨pb,po+i,none⟩) bs,l i hlt,List.getElem?_map,hx];rfl
  obtain⟨sb,so,esa,bt,a5⟩:=bn.u (by omega);obtain⟨s,b4,af,-⟩:=a5 x g;have y1:w1.cell? ⟨sb,so+x,none⟩=some s:=by rw[hM.lo.cell (p:=⟨sb,so+x,none⟩) bt];exact b4
  obtain⟨ss,scap,es,-,-⟩:=id af;obtain⟨a0,a1,a2,a3,a4⟩:=hM.a.facts;obtain⟨rh,ag⟩ : ∃ rh,rh=hold x b:=⟨_,rfl⟩;have al:=ae (ze s _ b w1.heap.size rh w1 (by rw[ag];exact HH.u x g) (af.below hM.lo lR) lR (br.u x g));have a6:∀ p:Nat->Bool,(X.take (i+1)).any p=((X.take i).any p||p x):=fun p=>by rw[List.take_add_one,hx,List.any_append];simp
  obtain⟨mk0,J⟩ : ∃ mk0:Nat->Bool,mk0=fun j=>(X.take i).any fun x=>hold x b&&fol x j:=⟨_,rfl⟩
  obtain⟨ee0,K⟩ : ∃ ee0:Bool,ee0=(X.take i).any fun x=>hold x b&&last x:=⟨_,rfl⟩
  rw[<-J,<-K]at hM;have HM:=ae hM;have n:=ae a6;have a7:=ae J;have a8:=ae K;have V:=ae ag;obtain⟨sn,b5⟩ : ∃ sn,sn=(S[x]?.getD []).length:=⟨_,rfl⟩;rw[<-b5]at es;subst es;subst era;subst esa;clear hM a6 J K ag b4 af a5 l hx b5;cases rh
  ·go_wp2_with fail;refine al.u.mono ?_;rintro e w2 ⟨rfl,rfl⟩;go_wp2
   go_roundw
   case rel =>
    refine⟨i+1,by omega,by go_num,?_⟩;have h:=HM.u;simp only[n.u,<-V.u,Bool.false_and,Bool.or_false];rw[a7.u,a8.u]at h;exact h
   simp[intOf];omega
  obtain⟨wb,wo,ewa,b6,a9⟩:=bo.u (by omega);obtain⟨t,an,ao,-⟩:=a9 x g;obtain⟨Yx,M⟩ : ∃ Yx,Yx=(List.range N).filter (fol x):=⟨_,rfl⟩;rw[HF.u x g,<-M]at ao;have bv:Yx.length<=512:=by
   rw[M];exact Nat.le_trans (List.length_filter_le _ _) (by rw[List.length_range];exact hN)
  have b7:∀ q,q<N->Yx.contains q=fol x q:=fun q hq=>by
   rw[M,Bool.eq_iff_iff,List.contains_iff_mem,List.mem_filter,List.mem_range];exact⟨fun h=>h.2,fun h=>⟨hq,h⟩⟩
  have b8:∀ y∈Yx,y<N:=fun y hy=>by
   rw[M,List.mem_filter,List.mem_range]at hy;exact hy.1
  obtain⟨ta,tc,et,-,ap⟩:=id ao;rw[List.length_map]at et ap;subst et;subst ewa;have bx:=ae an;have bz:=ae ap;have c2:=ae b7;have c3:=ae b8;have A:w1.cell? ⟨wb,wo+x,none⟩=some (.slice ta Yx.length tc):=by rw[HM.u.lo.cell (p:=⟨wb,wo+x,none⟩) b6];exact an
  clear a9 an ao M ap b7 b8
  go_wp2_with fail;refine al.u.mono ?_;rintro e w2 ⟨rfl,rfl⟩
  go_wp2_with fail;clear p0 p1 y0 y1 a0 a1 a2 a3 a4 A al
  go_loopw [11] (fun jv wx=>∃ j:Nat,j<=Yx.length/\jv=.int .i64 (j:Nat)/\pO w wx N (.slice (some ⟨sb,so,none⟩) N sc) (.slice fa F.length fc) (.slice la L.length lc) (.slice (some ⟨wb,wo,none⟩) N wc) (.slice (some ⟨pb,po,none⟩) X.length pc) nl e0 (DJ mk0 (Yx.take j)) ee0 (.slice none 0 0)) (fun jv _=>Yx.length-(intOf jv).toNat)
  case atStart=>exact⟨0,by omega,rfl,HM.u.congr (fun j _=>by simp[DJ])⟩
  clear HM;obtain⟨j,hj,rfl,hM⟩:=hrel;obtain⟨w3,rfl⟩ : ∃ w3,w3=wr:=⟨_,rfl⟩;obtain⟨a0,a1,a2,a3,a4⟩:=hM.a.facts;have A:w3.cell? ⟨wb,wo+x,none⟩=some (.slice ta Yx.length tc):=by rw[hM.lo.cell (p:=⟨wb,wo+x,none⟩) b6];exact bx.u
  by_cases hjl:j<Yx.length
  ·have b9:(j:Int)<(Yx.length:Int):=by omega
   obtain⟨y,hy⟩ : ∃ y,Yx[j]?=some y:=⟨_,List.getElem?_eq_getElem hjl⟩;have c4:=c3.u y (List.mem_of_getElem? hy);have ck:(y:Int)<(N:Int):=by omega
   obtain⟨tb,to',eta,-,c5,B⟩:=bz.u (by omega);have y0:w3.cell? ⟨tb,to'+j,none⟩=some (.int .i64 (y:Nat)):=by
    rw[hM.lo.cell (p:=⟨tb,to'+j,none⟩) c5,B j hjl,List.getElem?_map,hy];rfl
   have m0:=hM.m.cell (i:=y) c4;have m1:=hM.m.frozen y;have O:=(hM.mark y).congr (mk':=DJ mk0 (Yx.take (j+1))) (fun q _=>by rw[List.take_add_one,hy];exact(AD mk0 (Yx.take j) y q).symm);have Q:=ae O;subst eta;clear hM O hy B;go_wp2
   go_roundw
   case rel=>exact⟨j+1,by omega,by go_num,Q.u⟩
   simp[intOf];omega
  have b9:¬ (j:Int)<(Yx.length:Int):=by omega
  obtain rfl:j=Yx.length:=by omega
  have O:=hM.congr (mk':=fun q=>(X.take (i+1)).any fun x=>hold x b&&fol x q) (fun q hq=>by
   rw[n.u,<-V.u,Bool.true_and,a7.u];simp only[DJ,List.take_length,c2.u q hq])
  have cl:=hM.lo.size;have aq:=ae (pe (.slice la L.length lc) L (x:Nat) w3 (HL.u.below hM.lo lR));have o1:=hM.o.cells.2;have o2:=World.rowIs.frozen hM.o 1;have Q:=ae O;clear hM O
  go_wp2_with fail;refine aq.u.mono ?_;rintro e w4 ⟨hr,q,rfl⟩;have f:=Q.u.keep (wr':=w3.drewN q) ⟨rfl,rfl,rfl,Nat.le_refl _,fun _ _=>rfl⟩;rcases hr.cases with ⟨rfl,bb⟩|⟨rfl,c6⟩
  ·have I:=f.yes;have Y:(true:Bool)=(X.take (i+1)).any fun x=>hold x b&&last x:=by rw[n.u,<-V.u,Bool.true_and,(b2.u x g).2 bb,Bool.or_true]
   have c7:=ae Y;have U:=ae I;clear f I Y Q aq hr;go_wp2
   go_roundw
   case rel=>exact⟨i+1,by omega,by go_num,by rw[<-c7.u];exact U.u⟩
   simp[intOf];omega
  have Y:ee0=(X.take (i+1)).any fun x=>hold x b&&last x:=by
   rw[n.u,<-V.u,Bool.true_and,a8.u];have:last x=false:=by
    cases hlx:last x
    ·rfl
    exact absurd ((b2.u x g).1 hlx) c6
   rw[this,Bool.or_false]
  rw[Y]at f;have ar:=ae f;clear f Q aq hr;go_wp2
  go_roundw
  case rel=>exact⟨i+1,by omega,by go_num,ar.u⟩
  simp[intOf];omega
 have b3:¬ (i:Int)<(X.length:Int):=by omega
 obtain rfl:i=X.length:=by omega
 rw[List.take_length]at hM;obtain⟨mk,H⟩ : ∃ mk:Nat->Bool,mk=fun j=>X.any fun x=>hold x b&&fol x j:=⟨_,rfl⟩
 obtain⟨ee,av⟩ : ∃ ee:Bool,ee=X.any fun x=>hold x b&&last x:=⟨_,rfl⟩
 rw[<-H,<-av]at hM;have ca:=ae H;have cb:=ae av;have HM:=ae hM;have co:N<=512:=hN;clear hM H av
 go_wp2_with fail;clear p0 p1
 go_loopw [12] (fun iv wr=>∃ (i:Nat) (ov:Value),i<=N/\iv=.int .i64 (i:Nat)/\pO w wr N (.slice sa N sc) (.slice fa F.length fc) (.slice la L.length lc) (.slice wa N wc) (.slice pa X.length pc) nl e0 mk ee ov/\wr.ownsRow (w.heap.size+5) 3 1 ov ((List.range i).filter mk).length (((List.range i).filter mk).map mN)) (fun iv _=>N-(intOf iv).toNat)
 case atStart=>exact⟨0,_,by omega,rfl,HM.u,World.ownsRow_nil _ _ _ _⟩
 clear HM;obtain⟨i,ov,hi,rfl,hM,c⟩:=hrel;obtain⟨w2,rfl⟩ : ∃ w2,w2=wr:=⟨_,rfl⟩;obtain⟨Yi,C⟩ : ∃ Yi,Yi=(List.range i).filter mk:=⟨_,rfl⟩;rw[<-C]at c;have bv:Yi.length<=512:=by
  rw[C];exact Nat.le_trans (List.length_filter_le _ _) (by rw[List.length_range];omega)
 obtain⟨oa,oc,rfl⟩:=aj c;obtain⟨o0,o1⟩:=hM.o.cells;have bc:=hM.z
 by_cases hil:i<N
 ·have bd:(i:Int)<(N:Int):=by omega
  have m0:=hM.m.cell (i:=i) hil;have aw:(List.range (i+1)).filter mk=Yi++(if mk i then [i] else []):=by rw[List.range_succ,List.filter_append,C];simp[List.filter_cons]
  obtain⟨mi,bf⟩ : ∃ mi,mi=mk i:=⟨_,rfl⟩;rw[<-bf]at m0 aw;have HM:=ae hM;have HO:=ae c;have bi:=ae aw;clear hM c aw bf C;cases mi
  ·go_wp2
   go_roundw
   case rel=>exact⟨i+1,_,by omega,by go_num,HM.u,by rw[bi.u];simpa using HO.u⟩
   simp[intOf];omega
  go_wp2_with (at_builtin;refine dw rfl _ _ rfl (w.heap.size+5) (.slice oa Yi.length oc) rfl i rfl Yi HO.u bc (by omega) ?_)
  intro ov3 w3 r1 r2 r3;have bj:Below (w.heap.size+5) w2 w3:=r2.belowG HO.u lR bc;have Z:=HM.u.keep bj;have r1:w3.ownsRow (w.heap.size+5) 3 1 ov3 (Yi++[i]).length ((Yi++[i]).map mN):=by rw[List.length_append,List.map_append];exact r1
  have f:=Z.out ov3;have R:=ak (w':=w3.setCell ⟨w.heap.size+4,0,none⟩ ov3) r1 (fun q hq=>(am 0 _).block q (by have:=(r1.lt q hq).1;omega));have c0:=Z.o.cells.1;have c1:=World.rowIs.frozen Z.o 0;obtain⟨oa3,oc3,e3⟩:=aj r1;obtain⟨l3,bl⟩ : ∃ l3,l3=(Yi++[i]).length:=⟨_,rfl⟩;rw[<-bl]at e3;subst e3;have ar:=ae f;have cc:=ae R;clear r1 r2 r3 bj Z f R o0 o1 m0 HM HO bl;go_wp2
  go_roundw
  case rel=>exact⟨i+1,_,by omega,by go_num,ar.u,by rw[bi.u];exact cc.u⟩
  simp[intOf];omega
 have bd:¬ (i:Int)<(N:Int):=by omega
 obtain rfl:i=N:=by omega
 obtain⟨r0,r1⟩:=hM.r.cells;have rf0:=World.rowIs.frozen hM.r 0;have rf1:=World.rowIs.frozen hM.r 1;have HM:=ae hM;have HO:=ae c;have cf:=ae C;clear hM c C;go_wp2;generalize hWf:World.setCell _ _ _=Wf;have D:cd (w.heap.size+2) w2 Wf:=by rw[<-hWf];exact(am _ _).trans (am _ _)
 have ch:eJ Wf (w.heap.size+2) 79 (.slice oa Yi.length oc) (.bool ee):=by rw[<-hWf];exact HM.u.r.put0.put1
 obtain⟨x0,x1⟩:=ch.cells;refine bodyPost_ret (v:=.agg #[.slice oa Yi.length oc,.bool ee]) (by simp[results,results39,go_sem,x0,x1]) rfl ?_;have T:=HM.u.lo;have e1:(bN i hold fol last (X,e0) b).1=Yi:=by rw[cf.u,ca.u];rfl
 have e2:(bN i hold fol last (X,e0) b).2=ee:=by rw[cb.u];rfl
 rw[e1,e2];exact⟨_,rfl,aS (ak HO.u (fun q hq=>D.block q (by have:=(HO.u.lt q hq).1;omega))) (by omega),⟨D.os.trans T.os,D.tape.trans T.tape,D.output.trans T.output,Nat.le_trans T.size (Nat.le_of_eq D.size.symm),fun k hk=>(D.block k (by omega)).trans (T.block k hk)⟩⟩
structure sO (out:Nat->Nat) (b:Nat) (cls:Nat->Nat) (fs:List Nat):Prop where
 sf:∀ (j x:Nat),fs[j]?=some x->x<b/\out x=x/\cls x=j
 up:∀ (i j x y:Nat),i<j->fs[i]?=some x->fs[j]?=some y->x<y
 cl:∀ x,x<b->fs[cls x]?=some (out x)
def oh(f:Nat->Nat)(b v:Nat):Nat->Nat:=fun x=>if x=b then v else f x
theorem pE(f:Nat->Nat)(b v:Nat):oh f b v b=v:=by simp[oh]
theorem lM(f:Nat->Nat){b v x:Nat}(h:x≠b):oh f b v x=f x:=by simp[oh,h]
theorem sO.start(out cls:Nat->Nat):sO out 0 cls []:=⟨fun j x h=>by simp at h,fun i j x y _ h=>by simp at h,fun x hx=>by omega⟩
theorem sO.le{out cls:Nat->Nat}{b:Nat}{fs:List Nat}(h:sO out b cls fs):fs.length<=b:=by
 refine cm b fs ?_ (fun x hx=>?_)
 ·rw[List.nodup_iff_pairwise_ne,List.pairwise_iff_getElem];intro i j hi hj a e;have:=h.up i j _ _ a (List.getElem?_eq_getElem hi) (List.getElem?_eq_getElem hj);omega
 obtain⟨j,hj⟩:=List.getElem?_of_mem hx;exact(h.sf j x hj).1
theorem sO.new{out cls:Nat->Nat}{b:Nat}{fs:List Nat}(h:sO out b cls fs)(hb:out b=b):sO out (b+1) (oh cls b fs.length) (fs++[b]):=by
 refine⟨fun j x hx=>?_,fun i j x y hij hx hy=>?_,fun x hx=>?_⟩
 ·by_cases hj:j<fs.length
  ·rw[List.getElem?_append_left hj]at hx;obtain⟨h1,h2,h3⟩:=h.sf j x hx;exact⟨by omega,h2,by rw[lM _ (by omega)];exact h3⟩
  rw[List.getElem?_append_right (by omega)]at hx;have:j=fs.length/\x=b:=by
   by_cases e:j=fs.length
   ·subst e;simp at hx;exact⟨rfl,hx.symm⟩
   rw[List.getElem?_eq_none (by simp;omega)]at hx;cases hx
  obtain⟨rfl,rfl⟩:=this;exact⟨by omega,hb,pE _ _ _⟩
 ·have hi:i<fs.length:=by
   have:=(List.getElem?_eq_some_iff.1 hy).1;simp at this;omega
  rw[List.getElem?_append_left hi]at hx
  by_cases hj:j<fs.length
  ·rw[List.getElem?_append_left hj]at hy;exact h.up i j x y hij hx hy
  rw[List.getElem?_append_right (by omega)]at hy;have:=(h.sf i x hx).1;have a:y=b:=by
   have hm:=List.mem_of_getElem? hy
   simpa using hm
  omega
 by_cases e:x=b
 ·subst e;rw[pE,hb];simp
 rw[lM _ e];have:=h.cl x (by omega);rw[List.getElem?_append_left (List.getElem?_eq_some_iff.1 this).1];exact this
theorem sO.old{out cls:Nat->Nat}{b:Nat}{fs:List Nat}(h:sO out b cls fs)(hlt:out b<b)(hid:out (out b)=out b):sO out (b+1) (oh cls b (cls (out b))) fs:=by
 refine⟨fun j x hx=>?_,h.up,fun x hx=>?_⟩
 ·obtain⟨h1,h2,h3⟩:=h.sf j x hx;exact⟨by omega,h2,by rw[lM _ (by omega)];exact h3⟩
 by_cases e:x=b
 ·subst e;rw[pE,h.cl _ hlt,hid]
 rw[lM _ e];exact h.cl x (by omega)
theorem sO.num1{out cls:Nat->Nat}{fs:List Nat}(h:sO out 256 cls fs)(hle:∀ x,x<256->out x<=x):fM 256 fs.length cls (fun e=>fs[e]?.getD 0):=by
 refine⟨fun s hs=>(List.getElem?_eq_some_iff.1 (h.cl s hs)).1,fun j hj=>?_,fun s hs=>?_,fun i j hij hj=>?_⟩
 ·have:=h.sf j _ (List.getElem?_eq_getElem hj);simp only[List.getElem?_eq_getElem hj,Option.getD_some];exact⟨this.1,this.2.2⟩
 ·simp only[h.cl s hs,Option.getD_some];exact hle s hs
 have hi:i<fs.length:=by omega
 simp only[List.getElem?_eq_getElem hi,List.getElem?_eq_getElem hj,Option.getD_some];exact h.up i j _ _ hij (List.getElem?_eq_getElem hi) (List.getElem?_eq_getElem hj)
theorem sO.rep{out cls:Nat->Nat}{fs:List Nat}(h:sO out 256 cls fs){x:Nat}(hx:x<256):fs[cls x]?.getD 0=out x:=by rw[h.cl x hx];rfl
theorem Tryz.zinLp:(prog.info? 79).map (fun i=>(i.zero,i.size,i.bytes))=some (some (.agg #[.slice none 0 0,.bool false]),2,32):=by kernel_rfl
theorem pP{w w':World}{v:Value}{X:List Nat}(h:aP mI 0 0 w.heap.size w v (iL X))(hz:w.heap.size<=w'.heap.size)(hb:0<X.length->∀ b off n c,v=.slice (some ⟨b,off,none⟩) n c->w'.heap[b]?=w.heap[b]?):aP mI 0 0 w'.heap.size w' v (iL X):=by
 obtain⟨a,c,rfl,hl,hc⟩:=h;refine⟨a,c,rfl,hl,fun hp=>?_⟩;obtain⟨b,off,rfl,h1,h2,h3⟩:=hc hp;refine⟨b,off,rfl,h1,by omega,fun i hi=>?_⟩;rw[World.cell?_of_block (a:=⟨b,off+i,none⟩) (hb (by simpa[iL]using hp) b off _ _ rfl)];exact h3 i hi
theorem jN{w:World}{v:Value}{X:List Nat}(h:aP mI 0 0 w.heap.size w v (iL X))(hp:0<X.length){b off n c:Nat}(e:v=.slice (some ⟨b,off,none⟩) n c):b<w.heap.size:=by
 obtain⟨a,c',rfl,hl,hc⟩:=h;obtain⟨b',off',rfl,h1,h2,-⟩:=hc (by simpa[iL]using hp);cases e;exact h2
theorem CX{w:World}{ops:Array Oper}{rest:List Oper}{o:Oper}{a:Act}{Q:Exit->Act->World->Prop}(hgd:o.guard=none)(s x:Operand)
  (ho:o.op=.call { callee:=.builtin .append,args:=#[s,x],argTypes:=#[80,80] })(base:Nat)(lv:Value)(hs:a.eval s=lv)(oa:Option Addr)(on oc:Nat)(X:List Nat)(e:Bool)(hx:a.eval x=.slice (some ⟨w.heap.size,0,none⟩) 1 1)(ps:List (Value×List Nat×Bool))
  (h1:EH w base lv ps)(hov:aP mI 0 0 w.heap.size w (.slice oa on oc) (iL X))(hfar:0<X.length->∀ b off n c,(Value.slice oa on oc)=.slice (some ⟨b,off,none⟩) n c->lv.ownBlock≠some b)(hb:base<=w.heap.size)(hl:ps.length<=1000000)
  (h:∀ lv' w',EH w' base lv' (ps++[(.slice oa on oc,X,e)])->aR (uX lv w.heap.size) w w'->(∀ q,lv'.ownBlock=some q->lv.ownBlock=some q∨w.heap.size<=q)->wpList prog ops Q rest (a.put o.dst lv') w'):wpList prog ops Q (o::rest) a (w.alloc (.cells #[.slice oa on oc,.bool e] 79)):=by
 obtain⟨i0,hi,g,i,l⟩:=info_parts Tryz.zinLp;refine wpList_append_own_at _ hgd s x 80 ho base 79 i0 (.agg #[.slice none 0 0,.bool false]) 2 32 underlying80 hi g i l rfl (by decide) lv ps.length (AM ps) hs (h1.own.alloc _) ⟨w.heap.size,0,none⟩ 1 1 [.slice oa on oc,.bool e] hx rfl (fun j u hu=>?_) (fun u hu=>?_) (by unfold maxLen;omega) (by omega) (by rw[ah];omega) ?_
 ·have hr:=eJ.new w 79 (.slice oa on oc) (.bool e)
  match j,hu with
  | 0,hu=>simp at hu;subst hu;exact hr.cells.1
  | 1,hu=>simp at hu;subst hu;exact hr.cells.2
 ·simp only[List.mem_cons,List.not_mem_nil,or_false]at hu;rcases hu with rfl|rfl<;>rfl
 intro lv' w' r1 r2 _ r3;have d:=tR r2;have f:∀ q,lv'.ownBlock=some q->lv.ownBlock=some q∨w.heap.size<=q:=fun q hq=>by
  rcases r3 with k|k
  ·rw[k]at hq;exact .inl hq
  rw[k]at hq;cases hq;rw[ah];exact .inr (by omega)
 refine h lv' w' ⟨?_,fun p hp=>?_⟩ d f
 ·rw[yi,List.length_append];exact r1
 have hold:aP mI 0 0 w.heap.size w p.1 (iL p.2.1)/\(0<p.2.1.length->∀ b off n c,p.1=.slice (some ⟨b,off,none⟩) n c->lv.ownBlock≠some b):=by
  rcases List.mem_append.1 hp with hp|hp
  ·exact h1.at_ p hp
  rw[List.mem_singleton]at hp;subst hp;exact⟨hov,hfar⟩
 refine⟨pP hold.1 d.size (fun hp b off n c he=>d.block b (fun hg=>?_)),fun hp b off n c he hq=>?_⟩
 ·rcases hg with k|k
  ·exact hold.2 hp b off n c he k
  have:=jN hold.1 hp he;omega
 rcases f b hq with k|k
 ·exact hold.2 hp b off n c he k
 have:=jN hold.1 hp he;omega
def Gl(pst:List Nat×Bool->Nat->List Nat×Bool)(s0:List Nat×Bool)(x:Ending)(w w':World):Prop:=
 (∃ (cb k:Nat) (nv av:Value) (cls rep:Nat->Nat) (o:List (List Nat×Bool)) (ys:List Nat),x=.returned (.tuple #[.agg #[.slice (some ⟨cb,0,none⟩) 256 256,.int .i64 (k:Nat),nv,av],.bool true])/\fL pst s0 k cls rep o ys/\ys.length=o.length*k/\o.length<=1024/\k<=256/\w'.rowIs cb 3 256 (fun x=>.int .i64 (cls x:Nat))/\w'.ownsRow w.heap.size 3 1 nv ys.length (ys.map mN)/\w'.ownsRow w.heap.size 4 1 av o.length ((o.map Prod.snd).map mT)) ∨
 (∃ (k:Nat) (cls rep:Nat->Nat) (o:List (List Nat×Bool)) (ys:List Nat),x=.returned (.tuple #[.agg #[.slice none 0 0,.int .i64 0,.slice none 0 0,.slice none 0 0],.bool false])/\fL pst s0 k cls rep o ys/\1024<o.length)
structure xe (w7 wr:World) (lv nv:Value) (ps:List (Value×List Nat×Bool)) (ys:List Nat):Prop where
 l:EH wr w7.heap.size lv ps
 n:wr.ownsRow w7.heap.size 3 1 nv ys.length (ys.map mN)
 ap:Ap lv nv
 far:∀ p∈ps,0<p.2.1.length->∀ b off n c,p.1=.slice (some ⟨b,off,none⟩) n c->nv.ownBlock≠some b
 lo:Below w7.heap.size w7 wr
theorem xe.keep{w7 wr wr':World}{lv nv:Value}{ps:List (Value×List Nat×Bool)}{ys:List Nat}(h:xe w7 wr lv nv ps ys)(hb:Below wr.heap.size wr wr'):xe w7 wr' lv nv ps ys where
 l:=⟨aG h.l.own hb lR,fun p hp=>⟨(h.l.at_ p hp).1.below hb lR,(h.l.at_ p hp).2⟩⟩
 n:=aG h.n hb lR
 ap:=h.ap
 far:=h.far
 lo:=h.lo.trans (hb.mono h.lo.size)
theorem Gn{w10 w11:World}(h:Below ((w10.alloc (.cells #[.slice none 0 0,.bool false] 79)).drew).heap.size ((w10.alloc (.cells #[.slice none 0 0,.bool false] 79)).drew) w11):eJ w11 w10.heap.size 79 (.slice none 0 0) (.bool false):=
 (eJ.new w10 79 (.slice none 0 0) (.bool false)).on (h.block w10.heap.size (by show w10.heap.size<(w10.alloc (.cells #[.slice none 0 0,.bool false] 79)).heap.size;rw[ah];omega))
theorem AF{w:World}{b:Nat}(h:eJ w b 79 (.slice none 0 0) (.bool false)):w.cell? ⟨b,0,none⟩=some (.slice none 0 0)/\w.cell? ⟨b,1,none⟩=some (.bool false)/\w.frozen? ⟨b,0,none⟩=false/\w.frozen? ⟨b,1,none⟩=false:=⟨h.cells.1,h.cells.2,World.rowIs.frozen h 0,World.rowIs.frozen h 1⟩
theorem DY{w:World}{ops:Array Oper}{rest:List Oper}{o:Oper}{a:Act}{Q:Exit->Act->World->Prop}(H:Nat)(hH:w.heap.size=H)(hgd:o.guard=none)(s x:Operand)
  (ho:o.op=.call { callee:=.builtin .append,args:=#[s,x],argTypes:=#[30,30] })(base:Nat)(v:Value)(hs:a.eval s=v)(y:Nat)(hx:a.eval x=.slice (some ⟨H,0,none⟩) 1 1)(xs:List Nat)
  (h1:w.ownsRow base 3 1 v xs.length (xs.map mN))(hb:base<=w.heap.size)(hl:xs.length<=1000000)
  (h:∀ v' w',w'.ownsRow base 3 1 v' (xs++[y]).length ((xs++[y]).map mN)->aR (uX v w.heap.size) w w'->(∀ q,v'.ownBlock=some q->v.ownBlock=some q∨w.heap.size<=q)->wpList prog ops Q rest (a.put o.dst v') w'):wpList prog ops Q (o::rest) a (w.alloc (.cells #[.int .i64 (y:Nat)] 3)):=by
 subst hH;exact dw hgd s x ho base v hs y hx xs h1 hb hl h
def ye(w10 wx:World)(bx:Value)(R1:List Nat)(R2:Bool):Prop:=∃ (rb:Nat) (oa:Option Addr) (oc:Nat),bx=.pointer (some ⟨rb,0,none⟩)/\w10.heap.size<=rb/\eJ wx rb 79 (.slice oa R1.length oc) (.bool R2)/\aP mI 0 0 wx.heap.size wx (.slice oa R1.length oc) (iL R1)/\(0<R1.length->∀ b off n c,Value.slice oa R1.length oc=.slice (some ⟨b,off,none⟩) n c->w10.heap.size<=b)/\Below w10.heap.size w10 wx
theorem xI{w:World}{base:Nat}{v:Value}{X:List Nat}(h:w.ownsRow base 3 1 v X.length (X.map mN))(hl:X.length<=1048576):aP mI 0 0 w.heap.size w v (iL X):=by
 have h2:w.ownsRow base 3 1 v (iL X).length ((iL X).map mI):=by
  have e1:(iL X).length=X.length:=by simp[iL]
  have e2:(iL X).map mI=X.map mN:=by simp[iL,mN]
  rw[e1,e2];exact h
 exact(bP h2 (Nat.zero_le _) (by have e9:(iL X).length=X.length:=by { simp[iL] };unfold maxLen;omega)).at
theorem lX{w:World}{base n:Nat}{oa:Option Addr}{l oc:Nat}{xs:List Value}(h:w.ownsRow base 3 1 (.slice oa l oc) n xs):∀ b off m c,Value.slice oa l oc=.slice (some ⟨b,off,none⟩) m c->base<=b:=fun b off m c e=>(h.lt b (by cases e;rfl)).1
theorem Bn{w10 w11:World}{oa:Option Addr}{oc:Nat}{R1:List Nat}{R2:Bool}(hown:w11.ownsRow w10.heap.size 3 1 (.slice oa R1.length oc) R1.length (R1.map mN))(hl:R1.length<=512)(hb:Below w10.heap.size w10 w11):ye w10 (w11.alloc (.cells #[.slice oa R1.length oc,.bool R2] 79)) (.pointer (some ⟨w11.heap.size,0,none⟩)) R1 R2:=by
 have a:=ai w11 (.cells #[.slice oa R1.length oc,.bool R2] 79);exact⟨_,oa,oc,rfl,hb.size,eJ.new _ _ _ _,(xI hown (by omega)).below a lR,fun _=>lX hown,hb.trans (a.mono hb.size)⟩
theorem BI{w10 w11:World}{oa:Option Addr}{oc:Nat}{R1:List Nat}{R2:Bool}(hown:w11.ownsRow (w10.heap.size+1) 3 1 (.slice oa R1.length oc) R1.length (R1.map mN))(hl:R1.length<=512)(hR:eJ w11 w10.heap.size 79 (.slice none 0 0) (.bool false))(hb:Below w10.heap.size w10 w11):ye w10 ((w11.setCell ⟨w10.heap.size,0,none⟩ (.slice oa R1.length oc)).setCell ⟨w10.heap.size,1,none⟩ (.bool R2)) (.pointer (some ⟨w10.heap.size,0,none⟩)) R1 R2:=by
 have ho:cd w10.heap.size w11 ((w11.setCell ⟨w10.heap.size,0,none⟩ (.slice oa R1.length oc)).setCell ⟨w10.heap.size,1,none⟩ (.bool R2)):=(am _ _).trans (am _ _);refine⟨_,oa,oc,rfl,Nat.le_refl _,hR.put0.put1,pP (xI hown (by omega)) (Nat.le_of_eq ho.size.symm) (fun _ b off n c e=>ho.block b (by have:=lX hown b off n c e;omega)),fun _ b off n c e=>by have:=lX hown b off n c e;omega,hb.trans (ho.bel lR)⟩
theorem FSx(w:World):(w.alloc (.cells #[.slice none 0 0,.bool false] 79)).cell? ⟨w.heap.size,0,none⟩=some (.slice none 0 0)/\(w.alloc (.cells #[.slice none 0 0,.bool false] 79)).cell? ⟨w.heap.size,1,none⟩=some (.bool false)/\(w.alloc (.cells #[.slice none 0 0,.bool false] 79)).frozen? ⟨w.heap.size,0,none⟩=false/\(w.alloc (.cells #[.slice none 0 0,.bool false] 79)).frozen? ⟨w.heap.size,1,none⟩=false:=AF (eJ.new w _ _ _)
theorem wV(N:Nat)(hold fol:Nat->Nat->Bool)(last:Nat->Bool)(x:List Nat×Bool)(b:Nat):(bN N hold fol last x b).1.length<=N/\∀ y∈(bN N hold fol last x b).1,y<N:=by
 refine⟨Nat.le_trans (List.length_filter_le _ _) (by simp),fun y hy=>?_⟩;exact List.mem_range.1 (List.mem_filter.1 hy).1
theorem rC{N:Nat}{S:List (List Int)}{hold fol:Nat->Nat->Bool}{last:Nat->Bool}(hSn:S.length=N)(hh:∀ b,b<256->∀ i,i<N->(hold i b=true↔dP (S[i]?.getD []) (b:Int)))(hho:∀ i b,N<=i->hold i b=false){a b:Nat}(ha:a<256)(hb:b<256)(h:xg S a b)(x:List Nat×Bool):bN N hold fol last x a=bN N hold fol last x b:=by
 refine mD x fun i _=>?_
 by_cases hi:i<N
 ·rw[Bool.eq_iff_iff,hh a ha i hi,hh b hb i hi];exact h i (by omega)
 rw[hho i a (by omega),hho i b (by omega)]
theorem xS{w w':World}{h:Nat}(hb:Below (w.drew).heap.size w.drew w')(hh:h=w.heap.size):Below h w w':=by subst hh;exact⟨hb.os,hb.tape,hb.output,hb.size,fun k hk=>hb.block k hk⟩
theorem Ac{k:Nat}{fn:List Nat×Bool->Nat->List Nat×Bool}{s0 x r:List Nat×Bool}{ps:List (Value×List Nat×Bool)}{ys:List Nat}{i e j:Nat}{pv:Value}{p:Value×List Nat×Bool}(h:eK k fn s0 (ps.map Prod.snd) ys)(hd:ys.length / k=i/\ys.length%k=e)(hi:ps[i]?=some (pv,x))(hr:fn x e=r)(hj:ps[j]?=some p)(hp:p.2=r):eK k fn s0 (ps.map Prod.snd) (ys++[j]):=
 h.old (x:=x) (by rw[hd.1,List.getElem?_map,hi];rfl) (by rw[hd.2,List.getElem?_map,hj,hr,<-hp];rfl)
theorem Al{k:Nat}{fn:List Nat×Bool->Nat->List Nat×Bool}{s0 x r:List Nat×Bool}{ps:List (Value×List Nat×Bool)}{ys:List Nat}{i e:Nat}{pv:Value}(h:eK k fn s0 (ps.map Prod.snd) ys)(hd:ys.length / k=i/\ys.length%k=e)(hi:ps[i]?=some (pv,x))(hr:fn x e=r)(hno:∀ (i:Nat) (p:Value×List Nat×Bool),ps[i]?=some p->p.2≠r)(ov:Value):eK k fn s0 ((ps++[(ov,r)]).map Prod.snd) (ys++[ps.length]):=by
 have:=h.new (x:=x) (by rw[hd.1,List.getElem?_map,hi];rfl) (fun j hj e9=>by
  rw[hd.2,hr,List.getElem?_map]at e9;cases e8:ps[j]? with
  | none=>rw[e8]at e9;cases e9
  | some p=>rw[e8]at e9;exact hno j p e8 (Option.some.inj e9))
 rw[hd.2,hr,List.length_map]at this;rw[List.map_append];exact this
theorem xe.pushL{w7 w w':World}{lv lv' nv ov:Value}{ps:List (Value×List Nat×Bool)}{ys:List Nat}{X:List Nat}{e:Bool}(h:xe w7 w lv nv ps ys)(hl:EH w' w7.heap.size lv' (ps++[(ov,X,e)]))(hf:aR (uX lv w.heap.size) w w')(hg:∀ q,lv'.ownBlock=some q->lv.ownBlock=some q∨w.heap.size<=q)(hfar:0<X.length->∀ b off n c,ov=.slice (some ⟨b,off,none⟩) n c->nv.ownBlock≠some b):xe w7 w' lv' nv (ps++[(ov,X,e)]) ys where
 l:=hl
 n:=hf.own h.n h.ap.symm
 ap:=(h.ap.symm.grow h.n hg).symm
 far:=fun p hp hx b off n c he=>by
  rcases List.mem_append.1 hp with hp|hp
  ·exact h.far p hp hx b off n c he
  rw[List.mem_singleton]at hp;subst hp;exact hfar hx b off n c he
 lo:=h.lo.trans (hf.belowG h.l.own lR h.lo.size)
theorem xe.pushN{w7 w w':World}{lv nv nv':Value}{ps:List (Value×List Nat×Bool)}{ys ys':List Nat}(h:xe w7 w lv nv ps ys)(hn:w'.ownsRow w7.heap.size 3 1 nv' ys'.length (ys'.map mN))(hf:aR (uX nv w.heap.size) w w')(hg:∀ q,nv'.ownBlock=some q->nv.ownBlock=some q∨w.heap.size<=q):xe w7 w' lv nv' ps ys' where
 l:=⟨hf.own h.l.own h.ap,fun p hp=>⟨pP (h.l.at_ p hp).1 hf.size (fun hx b off n c he=>hf.block b (fun k=>by
  rcases k with k|k
  ·exact h.far p hp hx b off n c he k
  have:=jN (h.l.at_ p hp).1 hx he;omega)),(h.l.at_ p hp).2⟩⟩
 n:=hn
 ap:=h.ap.grow h.l.own hg
 far:=fun p hp hx b off n c he e=>by
  rcases hg b e with k|k
  ·exact h.far p hp hx b off n c he k
  have:=jN (h.l.at_ p hp).1 hx he;omega
 lo:=h.lo.trans (hf.belowG h.n lR h.lo.size)
theorem nC(l r:Bool)(v:Value)(xs:List El)(w:World)(hv:az 0 w.heap.size w v xs)(S W:List (List Int))(nl:Bool)(X0:List Nat)(L:List Int)(N:Nat)(hold fol:Nat->Nat->Bool)(last:Nat->Bool)
  (hA:∀ S' b' F' L' W',mz l r xs S' b' F' L' W'->S'=S/\b'=nl/\F'=iL X0/\L'=L/\W'=W)
  (hSn:S.length=N)(hWn:W.length=N)(hN:N<=512)(hX:∀ x∈X0,x<N)(hSl:∀ i:Nat,i<N->(S[i]?.getD []).length<=1048576)(hh:∀ b,b<256->∀ i,i<N->(hold i b=true↔dP (S[i]?.getD []) (b:Int)))(hf:∀ i,i<N->W[i]?.getD []=((List.range N).filter (fol i)).map fun (j:Nat)=>(j:Int))(hl:∀ i:Nat,i<N->(last i=true↔(i:Int)∈L))(hho:∀ i b,N<=i->hold i b=false) :
  Calls prog 16 #[.agg #[.bool l,.bool r,v]] w fun x w'=>Below w.heap.size w w'/\Gl (bN N hold fol last) (X0,nl) x w w':=by
 obtain⟨a,cp,rfl,-,-⟩:=id hv;obtain⟨W2,ar⟩ : ∃ W2,W2=(w.alloc (.cells #[.bool l,.bool r,.slice a xs.length cp] 25)).alloc (.cells #[.slice none 0 0,.int .i64 0,.slice none 0 0,.slice none 0 0] 33):=⟨_,rfl⟩;have ek:Below w.heap.size w W2:=by rw[ar];exact aH w _ _
 have ll:W2.heap.size=w.heap.size+2:=by rw[ar,ah,ah]
 have fd:aD W2 (w.heap.size+1) 33 (.slice none 0 0) (.int .i64 0) (.slice none 0 0) (.slice none 0 0):=by
  have:=aD.new (w.alloc (.cells #[.bool l,.bool r,.slice a xs.length cp] 25)) 33 (.slice none 0 0) (.int .i64 0) (.slice none 0 0) (.slice none 0 0);rw[ah]at this;rw[ar];exact this
 have ff:=ae (rX l r _ xs W2 (hv.below ek lR));have fg:=run_make_row' (P:=prog) 30 3 (.int .i64 0) 8 underlying30 Tryz.zinInt rfl .i64 .i64 256 (by omega) (by omega);simp only[show((256:Nat):Int)=256 from rfl]at fg;have HA:=ae hA;have HX:=ae hX;have aw:=ae hSl;have HH:=ae hh;have HF:=ae hf;have iu:=ae hl;have fh:=ae hho;have ax:=ae hSn;have iw:=ae hWn;have fi:=ae ar;have fj:=ae ek;have c7:=ae fd;clear hA hX hSl hh hf hl hho hSn hWn ar ek fd hv
 go_enter func16,ntmps16
 go_wp2_with fail;rw[<-fi.u];refine ff.u.mono ?_;rintro e w3 ⟨v',S',nl',F',L',WW,rfl,cs,⟨sv,fv,lv,wv,rfl,s1,s2,s3,s4⟩,ca⟩;obtain⟨rfl,rfl,rfl,rfl,rfl⟩:=HA.u _ _ _ _ _ cs;have lm:=ca.size;obtain⟨w4,an⟩ : ∃ w4,w4=w3.alloc (.cells #[sv,.bool nl',fv,lv,wv] 75):=⟨_,rfl⟩;have a2:Below w3.heap.size w3 w4:=by rw[an];exact ai w3 _
 have ln:w3.heap.size+1<=w4.heap.size:=by rw[an,ah];omega
 have el:cg w4 w3.heap.size sv nl' fv lv wv:=by rw[an];exact cg.new w3 _ _ _ _ _
 have fk:Below w.heap.size w w4:=fj.u.trans ((ca.mono (by omega)).trans (a2.mono (by omega)));have fl:=(c7.u.below ca (by omega)).below a2 (by omega);have em:kY mI 0 w4.heap.size w4 sv S'/\aP mI 0 0 w4.heap.size w4 fv (iL X0)/\aP mI 0 0 w4.heap.size w4 lv L'/\kY mI 0 w4.heap.size w4 wv WW:=⟨s1.below a2 lR,s2.below a2 lR,s3.below a2 lR,s4.below a2 lR⟩;have fn:=ae (rl sv S' w4 em.1 (by rw[ax.u];omega) (by rw[ax.u];exact aw.u));obtain⟨q1,qc1,rfl,-,-⟩:=id s1;obtain⟨q2,qc2,rfl,-,-⟩:=id s2;obtain⟨q3,qc3,rfl,-,-⟩:=id s3;obtain⟨q4,qc4,rfl,-,-⟩:=id s4;have b4:=ae em;have j0:=ae el;have fo:=ae fk;have j1:=ae fl;have fp:=ae an;obtain⟨f0,f1,f2,f3,f4⟩:=el.facts;rw[an]at f0 f1 f2 f3 f4;clear s1 s2 s3 s4 ca a2 el fk fl em an cs ff fi fj c7 HA
 go_wp2_with fail;rw[<-fp.u];clear fp f0 f1 f2 f3 f4;refine fn.u.mono ?_;rintro e w5 ⟨av,out,rfl,b5,j2,a7,en⟩;have j3:=en.size;obtain⟨ag,acap,rfl,-,-,-,a8⟩:=dA b5 (by omega);obtain⟨w6,b6⟩ : ∃ w6,w6=w5.alloc (.cells (madeCells #[.int .i64 0] 256) 3):=⟨_,rfl⟩;have fr:w6.rowIs w5.heap.size 3 256 (fun _=>.int .i64 (((0:Nat):Nat):Int)):=by rw[b6];exact World.rowIs_made w5 _ 256 _
 have fx:w5.heap.size+1<=w6.heap.size:=by rw[b6,ah];omega
 have fz:Below w5.heap.size w5 w6:=by rw[b6];exact ai w5 _
 obtain⟨outf,t⟩ : ∃ outf:Nat->Nat,outf=fun x=>out[x]?.getD 0:=⟨_,rfl⟩
 have ct:∀ x,x<256->outf x<=x:=fun x hx=>by rw[t];exact(a7 x hx).le
 have cv:∀ x,x<256->outf (outf x)=outf x:=fun x hx=>by
  rw[t];rcases a7 x hx with ⟨k1,-,k3,-⟩|⟨k1,-⟩
  ·exact k3
  show out[out[x]?.getD 0]?.getD 0=out[x]?.getD 0;rw[k1,k1]
 have cw:∀ x,x<256->xg S' (outf x) x:=fun x hx=>by
  rw[t];rcases a7 x hx with ⟨-,-,-,k4,-⟩|⟨k1,-⟩
  ·exact k4
  show xg S' (out[x]?.getD 0) x;rw[k1];exact(BT S').rfl' x trivial
 have F:∀ x,x<256->w5.cell? ⟨ag,x,none⟩=some (.int .i64 (outf x:Nat)):=fun x hx=>by
  rw[a8 x (by omega),List.getElem?_map,List.getElem?_eq_getElem (by omega:x<out.length),t];simp only[List.getElem?_eq_getElem (by omega:x<out.length),Option.getD_some]
  rfl
 have g5:ag<w5.heap.size:=World.block_lt_of_cell? _ _ (F 0 (by omega));have M:=ae ct;have g6:=ae cv;have cx:=ae cw;have j4:=ae F;have g7:=ae fr;have g8:=ae fz;have g9:=ae en;have ga:=ae b6;clear ct cv cw F fr fz en b6 t a7 j2 b5 a8 fn
 go_wp2_with fail;rw[<-ga.u];clear ga fg
 go_loopw [6,8] (fun rv bv wr=>∃ (b:Nat) (fs:List Nat) (cls:Nat->Nat),b<=256/\bv=.int .i64 (b:Nat)/\wr.ownsRow (w5.heap.size+1) 3 1 rv fs.length (fs.map mN)/\wr.rowIs w5.heap.size 3 256 (fun x=>.int .i64 (cls x:Nat))/\Below w5.heap.size w5 wr/\w5.heap.size+1<=wr.heap.size/\sO outf b cls fs) (fun _ bv _=>256-(intOf bv).toNat)
 case atStart=>exact⟨0,[],fun _=>0,by omega,rfl,World.ownsRow_nil _ _ _ _,g7.u,g8.u,fx,sO.start _ _⟩
 clear g7 g8 fx;obtain⟨b,fs,cls,hb,rfl,f,hP,hB,j5,hC⟩:=hrel;obtain⟨w7,rfl⟩ : ∃ w7,w7=wr:=⟨_,rfl⟩;have cb:=hC.le;obtain⟨ra,rc,rfl⟩:=aj f
 by_cases hlt:b<256
 ·have gc:(b:Int)<256:=by omega
  have y0:w7.cell? ⟨ag,b,none⟩=some (.int .i64 (outf b:Nat)):=by rw[hB.cell (p:=⟨ag,b,none⟩) g5];exact j4.u b hlt
  have eq:=M.u b hlt;have cc:=g6.u b hlt;obtain⟨ob,s⟩ : ∃ ob,ob=outf b:=⟨_,rfl⟩;rw[<-s]at y0 eq cc;have y1:=hP.cell (i:=b) hlt;have y2:=hP.frozen b;have y3:=hP.cell (i:=ob) (by omega);have l2:(ob:Int)<256:=by omega
  by_cases heq:ob=b
  ·have ao:=hC.new (by rw[<-s];exact heq);obtain⟨w8,G⟩ : ∃ w8,w8=w7.setCell ⟨w5.heap.size,b,none⟩ (.int .i64 (fs.length:Nat)):=⟨_,rfl⟩;have b7:w8.rowIs w5.heap.size 3 256 (fun x=>.int .i64 (oh cls b fs.length x:Nat)):=by
    rw[G];exact(World.rowIs.set hP b _).congr (fun j _=>by by_cases e:j=b<;>simp[oh,e])
   have d:cd w5.heap.size w7 w8:=by rw[G];exact am _ _
   have lp:=Nat.le_of_eq d.size.symm;have er:=ae d.size;have z:=ak f (fun q hq=>d.block q (by have:=(f.lt q hq).1;omega));have b8:Below w5.heap.size w5 w8:=hB.trans d.blw;rw[heq]at y0;have cf:=ae ao;have es:=ae b7;have ch:=ae z;have et:=ae b8;have ci:=ae G;clear f hP hB hC ao b7 z b8 G s cc eq y3 heq d
   go_wp2_with (at_builtin;rw[<-ci.u];refine DY w7.heap.size er.u rfl _ _ rfl (w5.heap.size+1) (.slice ra fs.length rc) rfl b rfl fs ch.u (by omega) (by omega) ?_)
   intro rv9 w9 r1 r2 r3;have ck:Below (w5.heap.size+1) w8 w9:=r2.belowG ch.u lR (by omega);obtain⟨fs2,b9⟩ : ∃ fs2,fs2=fs++[b]:=⟨_,rfl⟩;have r1:w9.ownsRow (w5.heap.size+1) 3 1 rv9 fs2.length (fs2.map mN):=by rw[b9,List.length_append,List.map_append];exact r1
   rw[<-b9]at cf;have gf:=es.u.of_block (ck.block w5.heap.size (by omega));have gg:Below w5.heap.size w5 w9:=et.u.trans (ck.mono (by omega));have j6:=ck.size;have j7:=ae r1;have j8:=ae gf;have j9:=ae gg;clear r1 r2 r3 ck gf gg b9 y0 y1 y2;go_wp2
   go_roundw
   case rel=>exact⟨b+1,fs2,_,by omega,by go_num,j7.u,j8.u,j9.u,by omega,cf.u⟩
   simp[intOf];omega
  have gh:ob<b:=by omega
  have hne:¬ (ob:Int)=(b:Int):=by omega
  have ao:=hC.old (by rw[<-s];exact gh) (by rw[<-s];rw[cc]);rw[<-s]at ao;have b7:(w7.setCell ⟨w5.heap.size,b,none⟩ (.int .i64 (cls ob:Nat))).rowIs w5.heap.size 3 256 (fun x=>.int .i64 (oh cls b (cls ob) x:Nat)):=(World.rowIs.set hP b _).congr (fun j _=>by by_cases e:j=b<;>simp[oh,e]);have d:cd w5.heap.size w7 (w7.setCell ⟨w5.heap.size,b,none⟩ (.int .i64 (cls ob:Nat))):=am _ _;have z:=ak f (fun q hq=>d.block q (by have:=(f.lt q hq).1;omega));have b8:=hB.trans d.blw;have er:Hi (w5.heap.size+1<=(w7.setCell ⟨w5.heap.size,b,none⟩ (.int .i64 (cls ob:Nat))).heap.size):=by show _<=_;rw[d.size];exact j5
  have cf:=ae ao;have es:=ae b7;have ch:=ae z;have et:=ae b8;clear f hP hB hC ao b7 z b8 s cc eq heq d;go_wp2
  go_roundw
  case rel=>exact⟨b+1,fs,_,by omega,by go_num,ch.u,es.u,et.u,er.u,cf.u⟩
  simp[intOf];omega
 have gc:¬ (b:Int)<256:=by omega
 obtain rfl:b=256:=by omega
 have lr:=hB.size;have ex:=j0.u.on (w':=w7) ((hB.block _ (by omega)).trans (g9.u.block _ (by omega)));obtain⟨f0,f1,f2,f3,f4⟩:=ex.facts;have O:Below w4.heap.size w4 w7:=g9.u.trans (hB.mono j3);obtain⟨w8,G⟩ : ∃ w8,w8=w7.alloc (.cells #[.slice q2 (iL X0).length qc2,.bool nl'] 79):=⟨_,rfl⟩;have ey:Below w7.heap.size w7 w8:=by rw[G];exact ai w7 _
 have f5:=b4.u.2.1.below O lR;have gl:xe w7 w8 (.slice (some ⟨w7.heap.size,0,none⟩) 1 1) (.slice none 0 0) [(.slice q2 (iL X0).length qc2,X0,nl')] []:=by
  refine⟨⟨?_,fun p hp=>?_⟩,World.ownsRow_nil _ _ _ _,fun q _ h=>(by cases h),fun p _ _ b off n c _ h=>(by cases h),ey⟩
  ·refine⟨rfl,.inr ⟨_,1,#[.slice q2 (iL X0).length qc2,.bool nl'],rfl,Nat.le_refl _,?_,Nat.le_refl _,by unfold maxLen;omega,rfl,rfl⟩⟩;rw[G];exact(MapKept.heap_alloc _ _).1
  rw[List.mem_singleton]at hp;subst hp;refine⟨f5.below ey lR,fun hp b off n c he hq=>?_⟩;have h1:=jN f5 hp he;have k0:some w7.heap.size=some b:=hq;have:=Option.some.inj k0;omega
 have k5:=ae f;have k6:=ae hP;have ls:=ae hB;have HC:=ae hC;have gm:=ae ex;have gp:=ae O;have gs:=ae (j1.u.below O (by omega));have cy:Hi (Below w.heap.size w w7):=fo.u.trans (O.mono fo.u.size);have h0:=ae gl;have ci:=ae G;clear f hP hB hC ex O ey gl G f5
 go_wp2_with fail;rw[<-ci.u];clear ci f0 f1 f2 f3 f4
 go_loopw [9,10,11] (fun lv nv iv wr=>∃ (i:Nat) (ps:List (Value×List Nat×Bool)) (ys:List Nat),i<=ps.length/\iv=.int .i64 (i:Nat)/\xe w7 wr lv nv ps ys/\eK fs.length (fun x e=>bN N hold fol last x (fs[e]?.getD 0)) (X0,nl') (ps.map Prod.snd) ys/\ys.length=i*fs.length/\ps.length<=1024/\∀ p∈ps,∀ x∈p.2.1,x<N) (fun _ _ iv _=>1024-(intOf iv).toNat)
 case atStart=>exact⟨0,_,[],by simp,rfl,h0.u,eK.start _ _ _,by simp,by simp,fun p hp=>by rw[List.mem_singleton]at hp;subst hp;exact HX.u⟩
 clear h0;obtain⟨i,ps,ys,hi,rfl,hM,a3,H,a4,Q⟩:=hrel;obtain⟨w9,rfl⟩ : ∃ w9,w9=wr:=⟨_,rfl⟩;obtain⟨la,lc,e1⟩:=aj hM.l.own;subst e1;obtain⟨na,nc,e2⟩:=aj hM.n;subst e2;have h5:ys.length<=1024*256:=by rw[H];exact Nat.mul_le_mul (Nat.le_trans hi a4) cb
 have HM:=ae hM;have R:=ae a3;have I:=ae H;have a5:=ae Q;clear hM a3 H Q
 by_cases hlt2:i<ps.length
 ·have bb:(i:Int)<(ps.length:Int):=by omega
  obtain⟨p,C⟩ : ∃ p,ps[i]?=some p:=⟨_,List.getElem?_eq_getElem hlt2⟩;have a6:=ae C;clear C
  go_wp2_with fail
  go_loopw [9,10,12] (fun lv nv ev wr=>∃ (e:Nat) (ps:List (Value×List Nat×Bool)) (ys:List Nat),e<=fs.length/\ev=.int .i64 (e:Nat)/\ps[i]?=some p/\xe w7 wr lv nv ps ys/\eK fs.length (fun x e=>bN N hold fol last x (fs[e]?.getD 0)) (X0,nl') (ps.map Prod.snd) ys/\ys.length=i*fs.length+e/\ps.length<=1024/\∀ p∈ps,∀ x∈p.2.1,x<N) (fun _ _ ev _=>fs.length-(intOf ev).toNat)
  case atStart=>exact⟨0,ps,ys,by omega,rfl,a6.u,HM.u,R.u,by rw[I.u];rfl,a4,a5.u⟩
  clear HM R I a5 a6 hlt2 bb hi a4 h5;obtain⟨e,ps,ys,he,rfl,C,hM,a3,H,a4,Q⟩:=hrel;obtain⟨w10,rfl⟩ : ∃ w10,w10=wr:=⟨_,rfl⟩;have d5:=da C;have h5:ys.length<=1024*256+256:=by
   rw[H];exact Nat.add_le_add (Nat.mul_le_mul (Nat.le_trans (Nat.le_of_lt d5) a4) cb) (Nat.le_trans he cb)
  have l3:=hM.lo.size
  by_cases hel:e<fs.length
  ·have h6:(e:Int)<(fs.length:Int):=by omega
   obtain⟨y,hy⟩ : ∃ y,fs[e]?=some y:=⟨_,List.getElem?_eq_getElem hel⟩;have h7:=HC.u.sf e y hy;have k7:(i:Int)<(ps.length:Int):=by omega
   obtain⟨lg,lcap,e9,-,ap,k⟩:=jg hM.l.own (by omega);subst e9;obtain⟨pv,X,ep⟩:=p;obtain⟨c1,c2⟩:=ug ps C;have y0:w10.cell? ⟨lg,i*2,none⟩=some pv:=by rw[k _ (by omega),c1]
   have y1:w10.cell? ⟨lg,i*2+1,none⟩=some (.bool ep):=by rw[k _ (by omega),c2]
   obtain⟨d6,-⟩:=hM.l.at_ _ (List.mem_of_getElem? C);have f6:aP mI 0 0 w10.heap.size w10 pv (iL X):=d6;clear d6;obtain⟨pa,pc,e8,-,-⟩:=id f6;subst e8;obtain⟨rg,rcap,e7,-,k8,-,a9⟩:=dA k5.u (by omega);have h8:ra=some ⟨rg,0,none⟩/\rc=rcap:=by simpa using e7
   obtain⟨era,erc⟩:=h8;have y2:w10.cell? ⟨rg,e,none⟩=some (.int .i64 (y:Nat)):=by
    rw[hM.lo.cell (p:=⟨rg,e,none⟩) k8,a9 e hel,List.getElem?_map,hy];rfl
   have bc:Below w4.heap.size w4 w10:=gp.u.trans (hM.lo.mono (by omega));obtain⟨f0,f1,f2,f3,f4⟩:=(gm.u.on (hM.lo.block _ (by omega))).facts;have A:=ae (gm.u.on (hM.lo.block _ (by omega)));have bd:rg<w10.heap.size:=by omega
   have g0:∀ o:Obj,(w10.alloc o).cell? ⟨w3.heap.size,0,none⟩=some (.slice q1 S'.length qc1):=fun o=>(A.u.on ((ai w10 o).block _ (by omega))).facts.1
   have g1:∀ o:Obj,(w10.alloc o).cell? ⟨w3.heap.size,1,none⟩=some (.bool nl'):=fun o=>(A.u.on ((ai w10 o).block _ (by omega))).facts.2.1
   have g2:∀ o:Obj,(w10.alloc o).cell? ⟨w3.heap.size,2,none⟩=some (.slice q2 (iL X0).length qc2):=fun o=>(A.u.on ((ai w10 o).block _ (by omega))).facts.2.2.1
   have g3:∀ o:Obj,(w10.alloc o).cell? ⟨w3.heap.size,3,none⟩=some (.slice q3 L'.length qc3):=fun o=>(A.u.on ((ai w10 o).block _ (by omega))).facts.2.2.2.1
   have g4:∀ o:Obj,(w10.alloc o).cell? ⟨w3.heap.size,4,none⟩=some (.slice q4 WW.length qc4):=fun o=>(A.u.on ((ai w10 o).block _ (by omega))).facts.2.2.2.2
   have y0a:∀ o:Obj,(w10.alloc o).cell? ⟨lg,i*2,none⟩=some (.slice pa (iL X).length pc):=fun o=>by rw[(ai w10 o).cell (p:=⟨lg,i*2,none⟩) ap];exact y0
   have y1a:∀ o:Obj,(w10.alloc o).cell? ⟨lg,i*2+1,none⟩=some (.bool ep):=fun o=>by rw[(ai w10 o).cell (p:=⟨lg,i*2+1,none⟩) ap];exact y1
   have y2a:∀ o:Obj,(w10.alloc o).cell? ⟨rg,e,none⟩=some (.int .i64 (y:Nat)):=fun o=>by rw[(ai w10 o).cell (p:=⟨rg,e,none⟩) bd];exact y2
   have ab:Hi (∀ V:World,Below w10.heap.size w10 V->Calls prog 39 #[.agg #[.slice q1 S'.length qc1,.bool nl',.slice q2 (iL X0).length qc2,.slice q3 L'.length qc3,.slice q4 WW.length qc4],.agg #[.slice pa (iL X).length pc,.bool ep],.int .i64 (y:Nat)] V fun x w'=>∃ ov:Value,x=.returned (.agg #[ov,.bool (bN N hold fol last (X,ep) y).2])/\w'.ownsRow V.heap.size 3 1 ov (bN N hold fol last (X,ep) y).1.length ((bN N hold fol last (X,ep) y).1.map mN)/\Below V.heap.size V w'):=fun V hV=>by
    have h4:Below w4.heap.size w4 V:=bc.trans (hV.mono (by omega));exact sZ S' WW (iL X0) L' nl' ep _ _ _ _ _ X y N hold fol last V (b4.u.1.below h4 lR) (b4.u.2.1.below h4 lR) (b4.u.2.2.1.below h4 lR) (b4.u.2.2.2.below h4 lR) (f6.below hV lR) ax.u iw.u hN (Q _ (List.mem_of_getElem? C)) aw.u (HH.u y h7.1) HF.u iu.u
   obtain⟨R1,cl⟩ : ∃ R1,R1=(bN N hold fol last (X,ep) y).1:=⟨_,rfl⟩;obtain⟨R2,f7⟩ : ∃ R2,R2=(bN N hold fol last (X,ep) y).2:=⟨_,rfl⟩;rw[<-cl,<-f7]at ab;have ha:R1.length<=512/\∀ y∈R1,y<N:=by rw[cl];have:=wV N hold fol last (X,ep) y;exact⟨by omega,this.2⟩
   have d7:=ae ((ab.u w10.drew (Below.refl _ _).drew).mono (R':=fun x w11=>∃ (oa:Option Addr) (oc:Nat),x=.returned (.agg #[.slice oa R1.length oc,.bool R2])/\w11.ownsRow w10.heap.size 3 1 (.slice oa R1.length oc) R1.length (R1.map mN)/\Below w10.heap.size w10 w11) (fun x w11 ⟨ov,h1,h2,h3⟩=>by
    obtain⟨oa,oc,e6⟩:=aj h2;subst e6;exact⟨oa,oc,h1,h2,xS h3 rfl⟩))
   have d8:=ae ((ab.u (w10.alloc (.cells #[.slice none 0 0,.bool false] 79)).drew (ai w10 _).drew).mono (R':=fun x w11=>∃ (oa:Option Addr) (oc:Nat),x=.returned (.agg #[.slice oa R1.length oc,.bool R2])/\w11.ownsRow (w10.heap.size+1) 3 1 (.slice oa R1.length oc) R1.length (R1.map mN)/\eJ w11 w10.heap.size 79 (.slice none 0 0) (.bool false)/\Below w10.heap.size w10 w11) (fun x w11 ⟨ov,h1,h2,h3⟩=>by
    obtain⟨oa,oc,e6⟩:=aj h2;subst e6;have k9:(w10.alloc (.cells #[.slice none 0 0,.bool false] 79)).drew.heap.size=w10.heap.size+1:=ah w10 _;rw[k9]at h2;refine⟨oa,oc,h1,h2,Gn h3,?_⟩;exact(ai w10 _).trans ((xS h3 (ah w10 _).symm).mono (by omega))))
   have kb:=ae cl;have kc:=ae f7;have f8:=ae ha;clear cl f7 ab ha;obtain⟨na,nc,e2⟩:=aj hM.n;subst e2;subst era;subst erc;have hS:Hi (∀ W':World,Below w10.heap.size w10 W'->W'.cell? ⟨w3.heap.size,0,none⟩=some (.slice q1 S'.length qc1)/\W'.cell? ⟨w3.heap.size,1,none⟩=some (.bool nl')/\W'.cell? ⟨w3.heap.size,2,none⟩=some (.slice q2 (iL X0).length qc2)/\W'.cell? ⟨w3.heap.size,3,none⟩=some (.slice q3 L'.length qc3)/\W'.cell? ⟨w3.heap.size,4,none⟩=some (.slice q4 WW.length qc4)/\W'.cell? ⟨lg,i*2,none⟩=some (.slice pa (iL X).length pc)/\W'.cell? ⟨lg,i*2+1,none⟩=some (.bool ep)/\W'.cell? ⟨rg,e,none⟩=some (.int .i64 (y:Nat))):=fun V hV=>by
    obtain⟨d0,d1,d2,d3,d4⟩:=(A.u.on (hV.block _ (by omega))).facts;exact⟨d0,d1,d2,d3,d4,by rw[hV.cell (p:=⟨lg,i*2,none⟩) ap];exact y0,by rw[hV.cell (p:=⟨lg,i*2+1,none⟩) ap];exact y1,by rw[hV.cell (p:=⟨rg,e,none⟩) bd];exact y2⟩
   have d9:∀ o:Obj,Below w10.heap.size w10 (w10.alloc o):=fun o=>ai _ o
   have HM:=ae hM;have R:=ae a3;have I:=ae H;have a5:=ae Q;have a6:=ae C;have HY:=ae hy;clear hM a3 H Q C hy k a9 c1 c2 f6 bc e7 h7
   go_upto_region 20 with fail
   go_cut [13] (fun bx wx=>ye w10 wx bx R1 R2)
   case first =>
    go_region_held3 (fun W'=>W'.cell? ⟨w3.heap.size,0,none⟩=some (.slice q1 S'.length qc1)/\W'.cell? ⟨w3.heap.size,1,none⟩=some (.bool nl')/\W'.cell? ⟨w3.heap.size,2,none⟩=some (.slice q2 (iL X0).length qc2)/\W'.cell? ⟨w3.heap.size,3,none⟩=some (.slice q3 L'.length qc3)/\W'.cell? ⟨w3.heap.size,4,none⟩=some (.slice q4 WW.length qc4)/\W'.cell? ⟨lg,i*2,none⟩=some (.slice pa (iL X).length pc)/\W'.cell? ⟨lg,i*2+1,none⟩=some (.bool ep)/\W'.cell? ⟨rg,e,none⟩=some (.int .i64 (y:Nat)))
     (first|(with_reducible exact hS.u _ J)|(with_reducible exact hS.u _ (db _))|(with_reducible exact hS.u _ (d9 _))|(with_reducible exact hS.u _ kd)|go_keep)
     (first
      | (go_at_call 39;(with_reducible refine d8.u.mono ?_);rintro x w11 ⟨oa,oc,rfl,K,T,J⟩;obtain⟨b0,b1,b2,b3⟩:=AF T;have kd:=J.trans (((am (w:=w11) (b:=w10.heap.size) 0 (.slice oa R1.length oc)).trans (am 1 (.bool R2))).bel lR);have db:∀ o:Obj,Below w10.heap.size w10 (w11.alloc o):=fun o=>J.alloc J.size o)
      | (go_at_call 39;(with_reducible refine d7.u.mono ?_);rintro x w11 ⟨oa,oc,rfl,K,J⟩;obtain⟨b0,b1,b2,b3⟩:=FSx w11;have db:∀ o:Obj,Below w10.heap.size w10 (w11.alloc o):=fun o=>J.alloc J.size o))
    all_goals go_wp2_with fail
    all_goals go_meet
    all_goals first
     | exact BI K f8.u.1 T J
     | exact Bn K f8.u.1 J
   obtain⟨rb,oa,oc,rfl,lw,T,co,bf,ad⟩:=hcut;obtain⟨w11,ds⟩ : ∃ w11,w11=wc:=⟨_,rfl⟩;rw[<-ds]at T co ad ⊢;have bi:=HM.u.keep ad;have l4:=ad.size;have kf:=World.rowIs.lt T;have e0:∀ b,w10.heap.size<=b->(Value.slice na ys.length nc).ownBlock≠some b:=fun b hb e9=>by have:=aB HM.u.n b e9;omega
   have bj:0<R1.length->∀ b off n c,Value.slice oa R1.length oc=.slice (some ⟨b,off,none⟩) n c->(Value.slice na ys.length nc).ownBlock≠some b:=fun hp b off n c he=>e0 b (bf hp b off n c he)
   have bl:0<R1.length->∀ b off n c,Value.slice oa R1.length oc=.slice (some ⟨b,off,none⟩) n c->(Value.slice (some ⟨lg,0,none⟩) ps.length lcap).ownBlock≠some b:=fun hp b off n c he hq=>by
    have:=bf hp b off n c he;have h9:some lg=some b:=hq;have:=Option.some.inj h9;omega
   obtain⟨c0,c1⟩:=T.cells;have hc:=ae (tI w7.heap.size _ _ ps R1 R2 w11 bi.l (by omega) co);have hd:=ae T;have aw:=ae co;have kk:=ae bj;have hg:=ae bl;have e3:=ae bi;clear T co bf ad bi ds hS d9 d7 d8 f0 f1 f2 f3 f4 g0 g1 g2 g3 g4 y0 y1 y2 y0a y1a y2a e0 bj bl HM A
   go_wp2_with fail;refine hc.u.mono ?_;rintro x w12 ⟨U,kl⟩;have e4:=e3.u.keep U;have l5:=U.size;have bn:=aw.u.below U lR;obtain⟨c0,c1⟩:=(hd.u.on (U.block _ kf)).cells;have e5:fs[e]?.getD 0=y:=by rw[HY.u];rfl
   have hk:bN N hold fol last (X,ep) (fs[e]?.getD 0)=(R1,R2):=by rw[e5,kb.u,kc.u]
   have hm:=ae hk;have hn:ys.length / fs.length=i/\ys.length%fs.length=e:=by rw[I.u];exact eg hel
   have ho:=ae hn;have Y:=ae e4;have bo:=ae bn;clear U e4 bn aw e3 hd hc e5 hk hn;rcases kl with ⟨rfl,hr⟩|⟨j,rfl,p2,hs,ht⟩
   ·have kn:=ae hr;clear hr
    go_wp2_with (at_builtin;refine CX rfl _ _ rfl w7.heap.size (.slice (some ⟨lg,0,none⟩) ps.length lcap) rfl oa R1.length oc R1 R2 rfl ps Y.u.l bo.u hg.u ?_ ?_ ?_)
    ·omega
    ·omega
    intro lv13 w13 r1 r2 r3;have Z:=Y.u.pushL r1 r2 r3 kk.u;have l6:=r2.size;obtain⟨ps2,D⟩ : ∃ ps2,ps2=ps++[(Value.slice oa R1.length oc,R1,R2)]:=⟨_,rfl⟩;have f9:=Al R.u ho.u a6.u hm.u kn.u (.slice oa R1.length oc);have af:ps2.length=ps.length+1:=by rw[D,List.length_append];rfl
    have ea:ps2[i]?=some (.slice pa (iL X).length pc,X,ep):=by rw[D,List.getElem?_append_left d5];exact a6.u
    have eb:∀ p∈ps2,∀ x∈p.2.1,x<N:=fun p hp=>by
     rw[D]at hp;rcases List.mem_append.1 hp with hp|hp
     ·exact a5.u p hp
     rw[List.mem_singleton]at hp;subst hp;exact f8.u.2
    rw[<-D]at Z f9;obtain⟨la3,lc3,e13⟩:=aj Z.l.own;subst e13;have ec:=gs.u.below Z.lo (by omega);have al:=ae Z;have hu:=ae f9;have hw:=ae ea;have hz:=ae eb;have l7:=ae D;have E:=ae ec;clear r1 r2 r3 Z f9 ea eb D Y bo hg c0 c1 ec
    by_cases hbig:1024<ps2.length
    ·have bq:(1024:Int)<(ps2.length:Int):=by omega
     obtain⟨z0,z1,z2,z3,-⟩:=E.u.facts;have t0:=World.rowIs.frozen E.u 0;have t1:=World.rowIs.frozen E.u 1;have t2:=World.rowIs.frozen E.u 2;have t3:=World.rowIs.frozen E.u 3;have i0:=ae af;have l8:=al.u.lo.size;clear af;go_wp2;refine bodyPost_ret (dq (dp E.u (.slice none 0 0) (.int .i64 0) (.slice none 0 0) (.slice none 0 0)) rfl _ rfl rfl) rfl ?_;have br:=cy.u;refine⟨(br.trans (al.u.lo.mono br.size)).trans ((ei w13 (w.heap.size+1) _ _ _ _).bel (by omega)),.inr ⟨fs.length,_,_,_,_,rfl,⟨HC.u.num1 M.u,?_,hu.u⟩,by rw[List.length_map];exact hbig⟩⟩;intro b hb x;show bN N hold fol last x (fs[_]?.getD 0)=_;rw[HC.u.rep hb];exact rC ax.u HH.u fh.u (by have:=M.u b hb;omega) hb (cx.u b hb) x
    have bq:¬ (1024:Int)<(ps2.length:Int):=by omega
    have lb:ps2.length<=1024:=by omega
    have i0:=ae af;clear af;have bs:=ae al.u.n
    go_wp2_with (at_builtin;refine dw rfl _ _ rfl w7.heap.size (.slice na ys.length nc) rfl ps.length rfl ys bs.u ?_ ?_ ?_)
    ·omega
    ·omega
    intro nv14 w14 r1 r2 r3;obtain⟨ys2,g⟩ : ∃ ys2,ys2=ys++[ps.length]:=⟨_,rfl⟩;have r1:w14.ownsRow w7.heap.size 3 1 nv14 ys2.length (ys2.map mN):=by rw[g,List.length_append,List.map_append];exact r1
    have a0:=al.u.pushN r1 r2 r3;obtain⟨na4,nc4,e14⟩:=aj r1;subst e14;have m:ys2.length=i*fs.length+(e+1):=by rw[g,List.length_append,I.u];rfl
    have a1:eK fs.length (fun x e=>bN N hold fol last x (fs[e]?.getD 0)) (X0,nl') (ps2.map Prod.snd) ys2:=by rw[g];exact hu.u
    have bt:=ae a0;have bz:=ae m;have c3:=ae a1;clear a0 m a1 r1 r2 r3 g bs;go_wp2
    go_roundw
    case rel=>exact⟨e+1,ps2,ys2,by omega,by go_num,hw.u,bt.u,c3.u,bz.u,by omega,hz.u⟩
    simp[intOf];omega
   have ly:¬ (j:Int)<0:=by omega
   have bq:¬ (1024:Int)<(ps.length:Int):=by omega
   have kr:=ae hs;have c7:=ae ht;clear hs ht;have bs:=ae Y.u.n
   go_wp2_with (at_builtin;refine dw rfl _ _ rfl w7.heap.size (.slice na ys.length nc) rfl j rfl ys bs.u ?_ ?_ ?_)
   ·omega
   ·omega
   intro nv14 w14 r1 r2 r3;obtain⟨ys2,g⟩ : ∃ ys2,ys2=ys++[j]:=⟨_,rfl⟩;have r1:w14.ownsRow w7.heap.size 3 1 nv14 ys2.length (ys2.map mN):=by rw[g,List.length_append,List.map_append];exact r1
   have a0:=Y.u.pushN r1 r2 r3;obtain⟨na4,nc4,e14⟩:=aj r1;subst e14;have m:ys2.length=i*fs.length+(e+1):=by rw[g,List.length_append,I.u];rfl
   have a1:eK fs.length (fun x e=>bN N hold fol last x (fs[e]?.getD 0)) (X0,nl') (ps.map Prod.snd) ys2:=by rw[g];exact Ac R.u ho.u a6.u hm.u kr.u c7.u
   have bt:=ae a0;have bz:=ae m;have c3:=ae a1;clear a0 m a1 r1 r2 r3 g bs;go_wp2
   go_roundw
   case rel=>exact⟨e+1,ps,ys2,by omega,by go_num,a6.u,bt.u,c3.u,bz.u,by omega,a5.u⟩
   simp[intOf];omega
  have h6:¬ (e:Int)<(fs.length:Int):=by omega
  have i1:e=fs.length:=by omega
  have m:ys.length=(i+1)*fs.length:=by rw[H,i1,Nat.add_mul,Nat.one_mul]
  obtain⟨la,lc,e1⟩:=aj hM.l.own;subst e1;obtain⟨na,nc,e2⟩:=aj hM.n;subst e2;have HM:=ae hM;have R:=ae a3;have I:=ae m;have a5:=ae Q;clear hM a3 H m Q C i1;go_wp2
  go_roundw
  case rel=>exact⟨i+1,ps,ys,by omega,by go_num,HM.u,R.u,I.u,a4,a5.u⟩
  simp[intOf];omega
 have bb:¬ (i:Int)<(ps.length:Int):=by omega
 have i2:i=ps.length:=by omega
 have j6:=HM.u.lo.size;have ks:=ae i2;clear i2
 go_wp2_with fail
 go_loopw [15,16] (fun av jv wr=>∃ (j:Nat) (zs:List Bool),j<=ps.length/\jv=.int .i64 (j:Nat)/\wr.ownsRow w9.heap.size 4 1 av zs.length (zs.map mT)/\zs=((ps.map Prod.snd).map Prod.snd).take j/\Below w9.heap.size w9 wr) (fun _ jv _=>ps.length-(intOf jv).toNat)
 case atStart=>exact⟨0,[],by omega,rfl,World.ownsRow_nil _ _ _ _,by simp,Below.refl _ _⟩
 obtain⟨j,zs,hj,rfl,c4,c5,hB⟩:=hrel;obtain⟨w15,rfl⟩ : ∃ w15,w15=wr:=⟨_,rfl⟩;have i3:=hB.size;have cr:zs.length=j:=by rw[c5];simp;omega
 have lk:zs.length<=1024:=by omega
 obtain⟨aa,ac,e15⟩:=aj c4;subst e15
 by_cases hjl:j<ps.length
 ·have i4:(j:Int)<(ps.length:Int):=by omega
  obtain⟨p,fa⟩ : ∃ p,ps[j]?=some p:=⟨_,List.getElem?_eq_getElem hjl⟩;obtain⟨lg,lcap,e9,-,ap,k⟩:=jg HM.u.l.own (by omega);have i5:la=some ⟨lg,0,none⟩/\lc=lcap:=by simpa using e9
  obtain⟨rfl,rfl⟩:=i5;obtain⟨-,k2⟩:=ug ps fa;have y1:w15.cell? ⟨lg,j*2+1,none⟩=some (.bool p.2.2):=by rw[hB.cell (p:=⟨lg,j*2+1,none⟩) ap,k _ (by omega),k2]
  obtain⟨px,fb⟩ : ∃ px,px=p.2.2:=⟨_,rfl⟩;rw[<-fb]at y1;obtain⟨zs2,c6⟩ : ∃ zs2,zs2=zs++[px]:=⟨_,rfl⟩;have i6:zs2=((ps.map Prod.snd).map Prod.snd).take (j+1):=by rw[c6,c5,fb,List.take_add_one,List.getElem?_map,List.getElem?_map,fa];rfl
  have kt:=ae i6;have kv:=ae c6;have aq:=ae c4;have HB:=ae hB;clear c4 hB c5 k k2 e9 fa fb i6 c6 cr
  go_wp2_with (at_builtin;refine tZ rfl _ _ rfl w9.heap.size (.slice aa zs.length ac) rfl px rfl zs aq.u ?_ ?_ ?_)
  ·omega
  ·omega
  intro av16 w16 r1 r2 r3;have r1:w16.ownsRow w9.heap.size 4 1 av16 zs2.length (zs2.map mT):=by rw[kv.u,List.length_append,List.map_append];exact r1
  have ee:Below w9.heap.size w9 w16:=HB.u.trans (r2.belowG aq.u lR i3);obtain⟨aa7,ac7,e16⟩:=aj r1;subst e16;have i7:=ae r1;have i8:=ae ee;clear r1 r2 r3 ee y1 aq HB;go_wp2
  go_roundw
  case rel=>exact⟨j+1,zs2,by omega,by go_num,i7.u,kt.u,i8.u⟩
  simp[intOf];omega
 have i4:¬ (j:Int)<(ps.length:Int):=by omega
 have fc:j=ps.length:=by omega
 have B:=(gs.u.below HM.u.lo (by omega)).below hB (by omega);obtain⟨z0,z1,z2,z3,-⟩:=B.facts;have t0:=World.rowIs.frozen B 0;have t1:=World.rowIs.frozen B 1;have t2:=World.rowIs.frozen B 2;have t3:=World.rowIs.frozen B 3;have i9:zs=(ps.map Prod.snd).map Prod.snd:=by rw[c5,fc,List.take_of_length_le (by simp)]
 have ky:=ae i9;have aq:=ae c4;have HB:=ae hB;have ih:=ae B;have ip:=cr;have l0:=ae cr;have l1:=ae fc;clear c4 hB c5 B fc i9 cr ip;go_wp2;refine bodyPost_ret (dq (dp ih.u _ _ _ _) rfl _ rfl rfl) rfl ?_;have br:=cy.u;have iq:=HM.u.lo;have it:=br.size;have s:=ei w15 (w.heap.size+1) (.slice (some ⟨w5.heap.size,0,none⟩) 256 256) (.int .i64 (fs.length:Nat)) (.slice na ys.length nc) (.slice aa zs.length ac);refine⟨((br.trans (iq.mono it)).trans (HB.u.mono (by omega))).trans (s.bel (by omega)),.inl ⟨w5.heap.size,fs.length,_,_,cls,fun e=>fs[e]?.getD 0,ps.map Prod.snd,ys,rfl,⟨HC.u.num1 M.u,?_,R.u⟩,?_,?_,cb,?_,?_,?_⟩⟩
 ·intro b hb x;show bN N hold fol last x (fs[_]?.getD 0)=_;rw[HC.u.rep hb];exact rC ax.u HH.u fh.u (by have:=M.u b hb;omega) hb (cx.u b hb) x
 ·rw[List.length_map,I.u,ks.u]
 ·rw[List.length_map];exact a4
 ·exact k6.u.of_block ((s.block _ (by omega)).trans ((HB.u.block _ (by omega)).trans (iq.block _ (by omega))))
 ·exact aS (ak (aG HM.u.n HB.u lR) (fun q hq=>s.block q (by have:=(HM.u.n.lt q hq).1;omega))) (by omega)
 rw[<-ky.u,show(ps.map Prod.snd).length=zs.length by rw[List.length_map,l0.u,l1.u]];exact aS (ak aq.u (fun q hq=>s.block q (by have:=(aq.u.lt q hq).1;omega))) (by omega)
end Go.Proofs.YtpmcjimgkabpeaaGreatDoor
