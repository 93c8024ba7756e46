import Derived.Test.YtidfkbghlkcbeaaGreatDoorPk21
namespace Go.Proofs.YtidfkbghlkcbeaaGreatDoor
def je(f:Nat->Bool):Nat->Nat
 | 0=>0
 | n+1=>je f n+(if f n then 1 else 0)
theorem uT(f:Nat->Bool):∀ n,je f n<=n
 | 0=>Nat.le_refl _
 | n+1=>by have:=uT f n;simp only[je];split<;>omega
theorem oV{f g:Nat->Bool}:∀ n,(∀ q,q<n->f q=true->g q=true)->je f n<=je g n
 | 0,_=>Nat.le_refl _
 | n+1,h=>by
  have h1:=oV n fun q hq=>h q (by omega)
  have h2:=h n (by omega);simp only[je]
  by_cases hf:f n=true
  ·rw[if_pos hf,if_pos (h2 hf)];omega
  rw[if_neg hf];omega
theorem uC{f g:Nat->Bool}:∀ n,(∀ q,q<n->f q=true->g q=true)->(∃ q,q<n/\g q=true/\f q=false)->je f n<je g n
 | 0,_,⟨q,hq,_⟩=>by omega
 | n+1,h,⟨q,hq,hg,hf⟩=>by
  simp only[je]
  by_cases he:q=n
  ·subst he;have h1:=oV (f:=f) (g:=g) q fun p hp=>h p (by omega)
   rw[hf,hg];simp;omega
  have h1:=uC n (fun p hp=>h p (by omega)) ⟨q,by omega,hg,hf⟩;have h2:=h n (by omega)
  by_cases hfn:f n=true
  ·rw[if_pos hfn,if_pos (h2 hfn)];omega
  rw[if_neg hfn];omega
theorem oM.grow{A:Tb}{C:Nat->Nat->Prop}{P N:Nat->Nat}(h:oM A C P)(g:oM A (rnd A C) N)(hw:A.Wf){r:Nat->Bool}(hr:∀ q,q<A.n->(r q=true↔A.Rch q))(hne:∃ q,A.Rch q/\N q≠P q) :
  je (fun q=>r q&&P q==q) A.n<je (fun q=>r q&&N q==q) A.n:=by
 refine uC _ (fun q hq hf=>?_) ?_
 ·simp only[Bool.and_eq_true,beq_iff_eq]at hf ⊢;have rq:=(hr q hq).mp hf.1;refine⟨hf.1,?_⟩;have h1:=g.lst q rq;have h2:=(h.lst q rq).2.2 _ h1.1 h1.2.1.1;have h3:=g.lst.le g.equ rq;omega
 obtain⟨q,rq,hd⟩:=hne;have h1:=g.lst q rq;have hl:=h1.1.lt hw;refine⟨N q,hl,?_,?_⟩
 ·simp only[Bool.and_eq_true,beq_iff_eq];exact⟨(hr _ hl).mpr h1.1,g.lst.idem g.equ rq⟩
 have h2:=(h.lst.eq_iff h.equ h1.1 rq).mpr h1.2.1.1;have:¬ P (N q)=N q:=fun he=>hd (by rw[<-h2,he])
 simp[this]
theorem bT:∀ (n:Nat) (l:List Nat),l.Nodup->(∀ x∈l,x<n)->l.length<=n
 | 0,[],_,_=>Nat.le_refl _
 | 0,x::l,_,h=>absurd (h x (.head _)) (by omega)
 | n+1,l,hn,h=>by
  have h1:=bT n (l.filter (· ≠ n)) (hn.filter _) (fun x hx=>by
   rw[List.mem_filter]at hx;have:=h x hx.1;have:=of_decide_eq_true hx.2;omega)
  have h2:l.length<=(l.filter (· ≠ n)).length+1:=by
   clear h1 h
   induction l with
   | nil=>simp
   | cons x l ih =>
    rw[List.nodup_cons]at hn
    by_cases e:x=n
    ·subst e;have:l.filter (· ≠ x)=l:=List.filter_eq_self.mpr (fun y hy=>by
      have:y≠x:=fun e=>hn.1 (e ▸ hy)
      simpa using this)
     rw[List.filter_cons_of_neg (by simp),this,List.length_cons];exact Nat.le_refl _
    have:=ih hn.2;rw[List.filter_cons_of_pos (by simpa using e),List.length_cons,List.length_cons];omega
  omega
theorem eW.few{n N:Nat}{ms ps bs fr mk tt:Nat->Nat}(h:eW n N ms ps bs fr mk tt):N<=n:=by
 have h1:((List.range N).map fr).Nodup:=by
  rw[List.nodup_iff_pairwise_ne,List.pairwise_map];refine(List.nodup_range (n:=N)).imp_of_mem (fun {a b} ha hb hne he=>hne ?_)
  have ha:=List.mem_range.1 ha;have hb:=List.mem_range.1 hb;have b1:=h.b1 a ha;have b2:=h.b1 b hb;obtain⟨q1,q2⟩:=h.m1 (fr a) (by omega);rw[<-h.s2 (ms (fr a)) a q1 ha (by omega) (by omega),<-h.s2 (ms (fr a)) b q1 hb (by omega) (by omega)]
 have:=bT n _ h1 (fun x hx=>by
  obtain⟨a,ha,rfl⟩:=List.mem_map.1 hx;have:=h.b1 a (List.mem_range.1 ha);omega)
 simpa using this
structure wi (n N:Nat) (S:Nat->Prop) (bs fr mk tt:Nat->Nat) (U:Nat->Prop) (N':Nat) (bs' fr' mk' tt':Nat->Nat):Prop where
 le:N<=N'
 un:∀ b,U b->b<N/\fr' b=fr b/\mk' b=mk b/\tt' b=tt b
 ub:∀ t,t<n->(U (bs t)∨U (bs' t))->bs' t=bs t
 or:∀ t,t<n->bs' t=bs t∨N<=bs' t
 same:∀ p q,p<n->q<n->(bs' p=bs' q↔bs p=bs q/\(¬ U (bs p)->(S p↔S q)))
 um:∀ b,b<N'->¬ U b->mk' b=fr' b
section
variable {n N:Nat} {S U:Nat->Prop} {ms ps bs fr mk tt:Nat->Nat} {N':Nat} {bs' fr' mk' tt':Nat->Nat}
theorem wi.start(h:eW n N ms ps bs fr mk tt)(hS:∀ t,t<n->(ps t<mk (bs t)↔S t)):wi n N S bs fr mk tt (fun b=>b<N/\mk b≠fr b) N bs fr mk tt where
 le:=Nat.le_refl _
 un:=fun b hb=>⟨hb.1,rfl,rfl,rfl⟩
 ub:=fun _ _ _=>rfl
 or:=fun _ _=>.inl rfl
 same:=fun p q hp hq=>⟨fun e=>⟨e,fun hu=>by
  have b1:=h.s1 p hp;have b2:=h.s1 q hq;have:mk (bs p)=fr (bs p):=Classical.byContradiction fun hne=>hu ⟨b1.1,hne⟩
  rw[<-hS p hp,<-hS q hq,<-e,this];rw[<-e]at b2;omega⟩,fun e=>e.1⟩
 um:=fun b hb hu=>Classical.byContradiction fun hne=>hu ⟨hb,hne⟩
theorem wi.unmark(h:wi n N S bs fr mk tt U N' bs' fr' mk' tt')(hP:eW n N' ms ps bs' fr' mk' tt')(hS:∀ t,t<n->(ps t<mk (bs t)↔S t)){b:Nat}(hb:U b)(hw:mk' b=fr' b∨mk' b=tt' b) :
  wi n N S bs fr mk tt (fun x=>U x/\x≠b) N' bs' fr' (bX mk' b (fr' b)) tt' where
 le:=h.le
 un:=fun x hx=>by rw[aW _ hx.2];exact h.un x hx.1
 ub:=fun t ht hu=>h.ub t ht (hu.imp And.left And.left)
 or:=h.or
 same:=fun p q hp hq=>by
  rw[h.same p q hp hq];refine⟨fun ⟨e,hs⟩=>⟨e,fun hu=>?_⟩,fun ⟨e,hs⟩=>⟨e,fun hu=>hs (fun k=>hu k.1)⟩⟩
  by_cases hub:U (bs p)
  ·have e1:bs p=b:=Classical.byContradiction fun hne=>hu ⟨hub,hne⟩
   have p1:=h.ub p hp (.inl hub);have q1:=h.ub q hq (.inl (e ▸ hub));have b1:=hP.s1 p hp;have b2:=hP.s1 q hq;have u1:=h.un b hb;rw[<-hS p hp,<-hS q hq,<-e,e1];rw[p1,e1]at b1;rw[q1,<-e,e1]at b2;omega
  exact hs hub
 um:=fun x hx hu=>by
  by_cases e:x=b
  ·subst e;rw[bI]
  rw[aW _ e];exact h.um x hx (fun k=>hu ⟨k,e⟩)
theorem wi.cut(h:wi n N S bs fr mk tt U N' bs' fr' mk' tt')(hP:eW n N' ms ps bs' fr' mk' tt')(hS:∀ t,t<n->(ps t<mk (bs t)↔S t)){b r1 r2 o1 o2:Nat}{bs2:Nat->Nat}(hb:U b)
  (hs2:∀ p q,p<n->q<n->(bs2 p=bs2 q↔bs' p=bs' q/\(bs' p=b->(ps p<mk' b↔ps q<mk' b))))(hk:∀ p,p<n->bs' p≠b->bs2 p=bs' p)(hn:∀ p,p<n->bs' p=b->bs2 p=b∨bs2 p=N') :
  wi n N S bs fr mk tt (fun x=>U x/\x≠b) (N'+1) bs2 (bX (bX fr' b r1) N' o1) (bX (bX mk' b r1) N' o1) (bX (bX tt' b r2) N' o2):=by
 have c:=h.le;have ub:=h.un b hb;have no:∀ t,t<n->bs' t=b->bs t=b:=fun t ht e=>by rw[<-h.ub t ht (.inr (e ▸ hb)),e]
 have on:∀ t,t<n->bs t=b->bs' t=b:=fun t ht e=>by rw[h.ub t ht (.inl (e ▸ hb)),e]
 refine⟨by omega,fun x hx=>?_,fun t ht hu=>?_,fun t ht=>?_,fun p q hp hq=>?_,fun x hx hu=>?_⟩
 ·have h1:=h.un x hx.1;have a:x≠N':=by omega
  rw[aW _ a,aW _ a,aW _ a,aW _ hx.2,aW _ hx.2,aW _ hx.2];exact h1
 ·by_cases e:bs' t=b
  ·rcases hu with hu|hu
   ·exact absurd (no t ht e) hu.2
   rcases hn t ht e with e2|e2
   ·exact absurd e2 hu.2
   have:=(h.un _ hu.1).1;omega
  rw[hk t ht e]at hu ⊢;exact h.ub t ht (hu.imp And.left And.left)
 ·by_cases e:bs' t=b
  ·rcases hn t ht e with e2|e2
   ·exact .inl (by rw[e2,no t ht e])
   exact .inr (by omega)
  rw[hk t ht e];exact h.or t ht
 ·rw[hs2 p q hp hq,h.same p q hp hq];refine⟨fun ⟨⟨e,hs⟩,hc⟩=>⟨e,fun hu=>?_⟩,fun ⟨e,hs⟩=>⟨⟨e,fun hu=>hs (fun k=>hu k.1)⟩,fun hc=>?_⟩⟩
  ·by_cases hub:U (bs p)
   ·have e1:bs p=b:=Classical.byContradiction fun hne=>hu ⟨hub,hne⟩
    have:=hc (on p hp e1);rw[<-hS p hp,<-hS q hq,<-e,e1,<-ub.2.2.1];exact this
   exact hs hub
  have e1:=no p hp hc;have:=hs (fun k=>k.2 e1);rw[<-hS p hp,<-hS q hq,<-e,e1,<-ub.2.2.1]at this;exact this
 by_cases e:x=N'
 ·subst e;rw[bI,bI]
 rw[aW _ e,aW _ e]
 by_cases e2:x=b
 ·subst e2;rw[bI,bI]
 rw[aW _ e2,aW _ e2];exact h.um x (by omega) (fun k=>hu ⟨k,e2⟩)
theorem wi.fin(h:wi n N S bs fr mk tt U N' bs' fr' mk' tt')(hU:∀ b,¬ U b){W W':Nat->Prop}(hW:∀ x,W x->W' x)(hN:∀ x,N<=x->x<N'->W' x)(hlt:∀ p,p<n->bs' p<N'):zi n S bs bs' W W' where
 same:=fun p q hp hq=>by
  rw[h.same p q hp hq];exact⟨fun k=>⟨k.1,k.2 (hU _)⟩,fun k=>⟨k.1,fun _=>k.2⟩⟩
 keep:=fun p hp hw=>by
  rcases h.or p hp with e|e
  ·rw[e];exact hW _ hw
  exact hN _ e (hlt p hp)
 new:=fun p q hp hq e hne=>by
  rcases h.or p hp with e1|e1
  ·rcases h.or q hq with e2|e2
   ·exact absurd (by rw[e1,e2,e]) hne
   exact .inr (hN _ e2 (hlt q hq))
  exact .inl (hN _ e1 (hlt p hp))
end
open Go.RowKit Go.Proofs.Tryz
set_option maxHeartbeats 16000000
set_option maxRecDepth 100000
theorem kp(cl ac:Value)(b off l c:Nat)(nc q:Nat)(w:World)(hq:(q+1)*nc<=l)(hl:l<=1000000)(hlc:l<=c)(hqn:q<=1024)(hnc:1<=nc/\nc<=256) :
  Calls prog 91 #[.agg #[cl,.int .i64 nc,.slice (some ⟨b,off,none⟩) l c,ac],.int .i64 q] w fun e w'=>e=.returned (.slice (some ⟨b,off+q*nc,none⟩) nc (c-q*nc))/\Below w.heap.size w w':=by
 have h1:q*nc+nc<=l:=by rw[Nat.add_mul,Nat.one_mul]at hq;exact hq
 obtain⟨m,hm⟩ : ∃ m,m=q*nc:=⟨_,rfl⟩;have h2:(q:Int)*(nc:Int)=(m:Int):=by rw[hm];exact(Int.natCast_mul ..).symm
 have h3:((q:Int)+1)*(nc:Int)=(m:Int)+nc:=by rw[Int.add_mul,h2,Int.one_mul]
 rw[<-hm]at h1 ⊢;have h4:wrap64 ((m:Int)+nc)=(m:Int)+nc:=CB (by omega) (by omega);have h5:wrap64 (m:Int)=m:=CB (by omega) (by omega);have h6:wrap64 ((q:Int)+1)=(q:Int)+1:=CB (by omega) (by omega);have h7:¬ c=m:=by omega
 clear hm hq
 go_enter func91,ntmps91
 go_wp2_with fail;rw[show m+nc-m=nc by omega];go_ret;exact⟨rfl,ai w _⟩
def jg(nx:Nat->Nat->Nat)(m s c:Nat):List Nat:=(List.range m).filter (fun p=>nx p c=s)
theorem vR(nx:Nat->Nat->Nat)(s c:Nat):jg nx 0 s c=[]:=rfl
theorem vU(nx:Nat->Nat->Nat)(m s c:Nat):jg nx (m+1) s c=if nx m c=s then jg nx m s c++[m] else jg nx m s c:=by
 unfold jg;rw[List.range_succ,List.filter_append]
 by_cases h:nx m c=s<;>simp[h]
theorem qP{nx:Nat->Nat->Nat}{m s c p:Nat}:p∈jg nx m s c↔p<m/\nx p c=s:=by simp[jg]
theorem ug(nx:Nat->Nat->Nat)(m s c:Nat):(jg nx m s c).Nodup:=List.nodup_range.filter _
theorem nh(nx:Nat->Nat->Nat)(m s c:Nat):(jg nx m s c).length<=m:=by
 have:=List.length_filter_le (fun p=>decide (nx p c=s)) (List.range m);rw[List.length_range]at this;exact this
def jE(nx:Nat->Nat->Nat)(k q c i:Nat):List Nat:=jg nx (if i%k<c then q+1 else q) (i / k) (i%k)
theorem mL(nx:Nat->Nat->Nat)(k q i:Nat):jE nx k q 0 i=jg nx q (i / k) (i%k):=by simp[jE]
theorem yO(nx:Nat->Nat->Nat){k:Nat}(hk:0<k)(q i:Nat):jE nx k q k i=jE nx k (q+1) 0 i:=by
 unfold jE;rw[if_pos (Nat.mod_lt _ hk),if_neg (Nat.not_lt_zero _)]
theorem wO(nx:Nat->Nat->Nat){k q c:Nat}(hc:c<k)(i:Nat):jE nx k q (c+1) i=if i=nx q c*k+c then jE nx k q c i++[q] else jE nx k q c i:=by
 unfold jE
 by_cases h:i%k=c
 ·rw[h,if_pos (Nat.lt_succ_self c),if_neg (Nat.lt_irrefl c),vU]
  by_cases e:i=nx q c*k+c
  ·have:i / k=nx q c:=by rw[e,Nat.add_comm,Nat.add_mul_div_right _ _ (by omega),Nat.div_eq_of_lt hc,Nat.zero_add]
   rw[if_pos e,if_pos this.symm]
  have:¬ nx q c=i / k:=fun e2=>e (by rw[e2,<-h,Nat.mul_comm];exact(Nat.div_add_mod i k).symm)
  rw[if_neg e,if_neg this]
 have e:¬ i=nx q c*k+c:=fun e=>h (by rw[e,Nat.add_comm,Nat.add_mul_mod_self_right,Nat.mod_eq_of_lt hc])
 rw[if_neg e]
 by_cases h2:i%k<c
 ·rw[if_pos h2,if_pos (by omega)]
 rw[if_neg h2,if_neg (by omega)]
theorem zq(nx:Nat->Nat->Nat)(k q c i:Nat):(jE nx k q c i).length<=q+1:=by
 unfold jE
 split
 ·exact nh _ _ _ _
 exact Nat.le_succ_of_le (nh _ _ _ _)
structure fP (lo B L:Nat) (w:World) (vs:Nat->Value) (ls:Nat->List Nat):Prop where
 row:w.rowIs B 27 L vs
 lt:B<lo
 own:∀ i,i<L->w.ownsRow lo 3 1 (vs i) (ls i).length ((ls i).map (fun x:Nat=>mI (x:Int)))
 ap:∀ i j,i<L->j<L->i≠j->∀ q,(vs i).ownBlock=some q->(vs j).ownBlock≠some q
theorem fP.keep{lo B L:Nat}{w w':World}{vs:Nat->Value}{ls:Nat->List Nat}(h:fP lo B L w vs ls)(hk:∀ k,k=B∨(lo<=k/\k<w.heap.size)->w'.heap[k]?=w.heap[k]?):fP lo B L w' vs ls:=
 ⟨h.row.of_block (hk B (.inl rfl)),h.lt,fun i hi=>ak (h.own i hi) (fun q hq=>hk q (.inr ((h.own i hi).lt q hq))),h.ap⟩
theorem fP.congr{lo B L:Nat}{w:World}{vs:Nat->Value}{ls ls':Nat->List Nat}(h:fP lo B L w vs ls)(e:∀ i,i<L->ls i=ls' i):fP lo B L w vs ls':=
 ⟨h.row,h.lt,fun i hi=>by rw[<-e i hi];exact h.own i hi,h.ap⟩
theorem fP.push{lo B L:Nat}{w w2:World}{vs:Nat->Value}{ls:Nat->List Nat}{i x:Nat}{v':Value}{o:Obj}(h:fP lo B L w vs ls)(hi:i<L)
  (r1:w2.ownsRow lo 3 1 v' ((ls i).length+1) ((ls i).map (fun x:Nat=>mI (x:Int))++[.int .i64 (x:Nat)]))(r2:(w.alloc o).grownBy w2 (vs i).ownBlock)(r3:v'.ownBlock=(vs i).ownBlock∨v'.ownBlock=some (w.heap.size+1)) :
  w2.cell? ⟨B,i,none⟩=some (vs i)/\w2.frozen? ⟨B,i,none⟩=false/\fP lo B L (w2.setCell ⟨B,i,none⟩ v') (fun j=>if j=i then v' else vs j) (fun j=>if j=i then ls j++[x] else ls j)/\Below B w (w2.setCell ⟨B,i,none⟩ v'):=by
 have hB:=h.row.lt;have hl:=h.lt;have c:=r2.size;rw[ah]at c;have k2:∀ k,k<w.heap.size->(vs i).ownBlock≠some k->w2.heap[k]?=w.heap[k]? :=fun k hk hne=>(r2.block k (by rw[ah];omega) (fun e=>hne e.symm)).trans ((ai w o).block k hk)
 have nB:(vs i).ownBlock≠some B:=fun e=>by have:=((h.own i hi).lt B e).1;omega
 have hF:=h.row.of_block (k2 B hB nB);have ks:∀ k,k≠B->(w2.setCell ⟨B,i,none⟩ v').heap[k]?=w2.heap[k]? :=fun k hk=>Below.heap_setCell _ _ _ _ (by show k≠B;exact hk)
 refine⟨hF.cell hi,hF.frozen i,⟨hF.set i v',hl,fun j hj=>?_,fun a b ha hb hab q hq hq2=>?_⟩,⟨r2.os,r2.tape,r2.output,by rw[aM];omega,fun k hk=>?_⟩⟩
 ·by_cases e:j=i
  ·subst e;simp only[if_true];rw[List.length_append,List.map_append];exact ak r1 (fun q hq=>ks q (by have:=(r1.lt q hq).1;omega))
  simp only[e,if_false];refine ak (h.own j hj) (fun q hq=>?_)
  have:=(h.own j hj).lt q hq;rw[ks q (by omega)];exact k2 q this.2 (fun e2=>h.ap i j hi hj (fun e3=>e e3.symm) q e2 hq)
 ·have old:∀ j,j<L->∀ q,(vs j).ownBlock=some q->q<w.heap.size:=fun j hj q hq=>((h.own j hj).lt q hq).2
  by_cases e1:a=i
  ·subst e1;have e2:¬ b=a:=fun e=>hab e.symm
   simp only[if_true,e2,if_false]at hq hq2;rcases r3 with e|e
   ·rw[e]at hq;exact h.ap a b ha hb hab q hq hq2
   rw[e]at hq;cases hq;have:=old b hb _ hq2;omega
  simp only[e1,if_false]at hq
  by_cases e2:b=i
  ·subst e2;simp only[if_true]at hq2;rcases r3 with e|e
   ·rw[e]at hq2;exact h.ap a b ha hb hab q hq hq2
   rw[e]at hq2;cases hq2;have:=old a ha _ hq;omega
  simp only[e2,if_false]at hq2;exact h.ap a b ha hb hab q hq hq2
 rw[ks k (by omega)];exact k2 k (by omega) (fun e=>by have:=((h.own i hi).lt k e).1;omega)
theorem Tryz.zinISl:(prog.info? 27).map (fun i=>(i.zero,i.size,i.bytes))=some (some (.slice none 0 0),1,24):=by kernel_rfl
def mN(x:Nat):Value:=mI (x:Int)
def kw(w:World)(b off n k:Nat)(nx:Nat->Nat->Nat):Prop:=∀ q c,q<n->c<k->nx q c<n/\w.cell? ⟨b,off+(q*k+c),none⟩=some (.int .i64 (nx q c:Nat))
theorem cO{q c n k:Nat}(hq:q<n)(hc:c<k):q*k+c<n*k:=by
 have:(q+1)*k<=n*k:=Nat.mul_le_mul_right _ hq;rw[Nat.add_mul,Nat.one_mul]at this;omega
theorem cP{x k c L:Nat}(hL:L<=262144)(hat:x*k+c<L):∃ m t:Nat,((x:Nat):Int)*(k:Int)=(m:Int)/\t=x*k+c/\t<L/\wrap64 (m:Int)=m/\wrap64 ((m:Int)+(c:Nat))=(t:Int)/\(t:Int)<(L:Int):=by
 refine⟨x*k,x*k+c,(Int.natCast_mul ..).symm,rfl,hat,?_,?_,?_⟩
 ·exact CB (by omega) (by omega)
 ·rw[CB (by omega) (by omega)];omega
 omega
theorem oC(cl:Value)(aa:Option Addr)(b off cN ca n k:Nat)(nx:Nat->Nat->Nat)(w:World)(hn:1<=n/\n<=1024)(hk:1<=k/\k<=256)(hcN:n*k<=cN)(hb:b<w.heap.size)(hx:kw w b off n k nx) :
  Calls prog 115 #[.agg #[cl,.int .i64 (k:Nat),.slice (some ⟨b,off,none⟩) (n*k) cN,.slice aa n ca]] w fun e w'=>∃ B,e=.returned (.slice (some ⟨B,0,none⟩) (n*k) (n*k))/\Below w.heap.size w w'/\w.heap.size<=B/\
   ∃ lo vs,fP lo B (n*k) w' vs (fun i=>jg nx n (i / k) (i%k)):=by
 obtain⟨i0,U,V,W,X⟩:=info_parts Tryz.zinInt;have Y:n*k<=1024*256:=Nat.mul_le_mul hn.2 hk.2;obtain⟨L,hL⟩ : ∃ L,L=n*k:=⟨_,rfl⟩;have Z:=run_make_row' (P:=prog) 73 27 (.slice none 0 0) 24 underlying73 Tryz.zinISl rfl .i64 .i64 L (by omega) (by omega);rw[<-hL]at hcN Y ⊢;have HL:=ae hL;have HX:=ae hx;obtain⟨W1,h⟩ : ∃ W1,W1=w.alloc (.cells #[cl,.int .i64 (k:Nat),.slice (some ⟨b,off,none⟩) L cN,.slice aa n ca] 30):=⟨_,rfl⟩;have D:aC W1 w.heap.size 30 cl (.int .i64 (k:Nat)) (.slice (some ⟨b,off,none⟩) L cN) (.slice aa n ca):=by rw[h];exact aC.new w _ _ _ _ _
 have C:W1.heap.size=w.heap.size+1:=by rw[h,ah]
 have I:Below w.heap.size w W1:=by rw[h];exact ai w _
 obtain⟨W2,d⟩ : ∃ W2,W2=W1.alloc (.cells (madeCells #[.slice none 0 0] L) 27):=⟨_,rfl⟩;have f:aC W2 w.heap.size 30 cl (.int .i64 (k:Nat)) (.slice (some ⟨b,off,none⟩) L cN) (.slice aa n ca):=by rw[d];exact D.alloc _
 have l:fP (w.heap.size+2) (w.heap.size+1) L W2 (fun _=>.slice none 0 0) (fun i=>jE nx k 0 0 i):=by
  refine⟨?_,by omega,fun i hi=>?_,fun i j _ _ _ q hq=>by cases hq⟩
  ·rw[d,<-C];exact World.rowIs_made W1 _ L _
  rw[mL,vR];exact World.ownsRow_nil _ _ _ _
 have o:Below w.heap.size w W2:=by rw[d];exact I.trans ((ai W1 _).mono (by omega))
 have a3:W2.heap.size=w.heap.size+2:=by rw[d,ah,C]
 obtain⟨e0,e1,e2,e3,-⟩:=D.facts;obtain⟨f0,f1,f2,f3,-⟩:=f.facts;have J:=ae h;have K:=ae d;have r:=ae f;have s:=ae l;have v:=ae o;clear hL hx h d D f l I o
 go_enter func115,ntmps115
 go_wp2_with fail;rw[<-J.u,<-K.u];clear J K e0 e1 e2 e3 f0 f1 f2 f3 Z
 go_loopw [15] (fun iv wr=>∃ (q:Nat) (vs:Nat->Value),q<=n/\iv=.int .i64 (q:Nat)/\fP (w.heap.size+2) (w.heap.size+1) L wr vs (fun i=>jE nx k q 0 i)/\aC wr w.heap.size 30 cl (.int .i64 (k:Nat)) (.slice (some ⟨b,off,none⟩) L cN) (.slice aa n ca)/\Below w.heap.size w wr) (fun iv _=>n-(intOf iv).toNat)
 case atStart=>exact⟨0,_,by omega,rfl,s.u,r.u,v.u⟩
 obtain⟨q,vs,hq,rfl,hS,hR,hB⟩:=hrel;obtain⟨w1,rfl⟩ : ∃ w1,w1=wr:=⟨_,rfl⟩;clear s r v
 by_cases hlt:q<n
 ·have M:(q:Int)<(n:Int):=by omega
  obtain⟨f0,f1,f2,f3,-⟩:=hR.facts;have N:(q+1)*k<=L:=by rw[HL.u];exact Nat.mul_le_mul_right _ hlt
  have E:=kp cl (.slice aa n ca) b off L cN k q w1 N (by omega) hcN (by omega) hk;obtain⟨rq,F⟩ : ∃ rq,rq=q*k:=⟨_,rfl⟩;rw[<-F]at E;have O:=ae E;have a0:=ae F;clear E F;have HS:=ae hS;have HR:=ae hR;have HB:=ae hB;have a1:=hS.row.lt;clear hS hR hB;clear N
  go_wp2_with fail;refine O.u.mono ?_;rintro e w2 ⟨rfl,z⟩;have l:=HS.u.keep (w':=w2) (fun k hk=>z.block k (by omega));have f:=HR.u.below z (by omega);have o:Below w.heap.size w w2:=HB.u.trans (z.mono HB.u.size);have s:=ae l;have r:=ae f;have v:=ae o;clear O HS HR HB z l f o f0 f1 f2 f3
  go_wp2_with fail
  go_loopw [22] (fun iv wx=>∃ (c:Nat) (vs:Nat->Value),c<=k/\iv=.int .i64 (c:Nat)/\fP (w.heap.size+2) (w.heap.size+1) L wx vs (fun i=>jE nx k q c i)/\aC wx w.heap.size 30 cl (.int .i64 (k:Nat)) (.slice (some ⟨b,off,none⟩) L cN) (.slice aa n ca)/\Below w.heap.size w wx) (fun iv _=>k-(intOf iv).toNat)
  case atStart=>exact⟨0,_,by omega,rfl,s.u,r.u,v.u⟩
  obtain⟨c,vs,hc,rfl,hS,hR,hB⟩:=hrel;clear s r v
  by_cases hcl:c<k
  ·have Q:(c:Int)<(k:Int):=by omega
   obtain⟨x1,x2⟩:=HX.u q c hlt hcl;have x3:wr.cell? ⟨b,off+rq+c,none⟩=some (.int .i64 (nx q c:Nat)):=by rw[a0.u,Nat.add_assoc,hB.cell (p:=⟨b,off+(q*k+c),none⟩) hb];exact x2
   obtain⟨f0,f1,f2,f3,-⟩:=hR.facts;have g:nx q c*k+c<L:=by rw[HL.u];exact cO x1 hcl
   obtain⟨m,t,m1,ht,g,m2,m3,m4⟩:=cP (by omega) g;have HT:=ae ht;obtain⟨y,hy⟩ : ∃ y,y=nx q c:=⟨_,rfl⟩;rw[<-hy]at m1 x1 x3;have m1':=m1;rw[Int.mul_comm]at m1';have HY:=ae hy;clear ht hy;have y0:=hS.row.cell (i:=t) g;have a:=hS.own t g;have HS:=ae hS;have HR:=ae hR;have HB:=ae hB;have R:=zq nx k q c t;have a1:=hS.row.lt;obtain⟨oa,oc,e9⟩:=aj (hS.own t g);rw[e9]at y0 a;have G:=ae e9;obtain⟨sl,H⟩ : ∃ sl,sl=jE nx k q c t:=⟨_,rfl⟩;rw[<-H]at y0 a R;have A:=ae H;have S:=ae a;clear hS hR hB x2 f0 f2 f3 e9 a H
   go_wp2_with (at_builtin;refine wpList_append_own_at _ rfl _ _ 27 rfl (w.heap.size+2) 3 i0 (.int .i64 0) 1 8 underlying27 U V W X rfl (by decide) _ _ _ rfl (S.u.alloc _) ⟨wr.heap.size,0,none⟩ 1 1 [.int .i64 (q:Nat)] rfl rfl ?_ ?_ ?_ ?_ ?_ ?_)
   ·exact ef (dt _ _ _)
   ·intro u hu;simp at hu;subst hu;rfl
   ·unfold maxLen;omega
   ·omega
   ·rw[ah];omega
   intro v' w3 r1 r2 _ r3;have h3:=HS.u.push (i:=t) (x:=q) g (by rw[<-A.u];exact r1) (by rw[G.u,<-A.u];exact r2) (by rw[G.u,<-A.u];exact r3);obtain⟨z1,z2,z3,z4⟩:=h3;obtain⟨va,vc,rfl⟩:=aj r1;have a2:=ae z3;have T:=ae z4;rw[G.u,<-A.u]at z1;clear r1 r2 r3 z3 z4 S y0 x3;go_wp2
   go_roundw
   case rel =>
    refine⟨c+1,_,by omega,by go_num,a2.u.congr (fun i hi=>?_),HR.u.below T.u (by omega),HB.u.trans (T.u.mono (by omega))⟩;rw[wO nx hcl i,<-HT.u]
   simp[intOf];omega
  have Q:¬ (c:Int)<(k:Int):=by omega
  obtain rfl:c=k:=by omega
  have HS:=ae hS;have HR:=ae hR;have HB:=ae hB;clear hS hR hB;go_wp2
  go_roundw
  case rel=>exact⟨q+1,_,by omega,by go_num,HS.u.congr (fun i _=>yO nx (by omega) q i),HR.u,HB.u⟩
  simp[intOf];omega
 have M:¬ (q:Int)<(n:Int):=by omega
 obtain rfl:q=n:=by omega
 have HS:=ae hS;have HB:=ae hB;clear hS hB;go_wp2;go_ret;exact⟨_,rfl,HB.u,by omega,_,_,HS.u.congr (fun i _=>mL nx k q i)⟩
theorem eX.congr{R R' L L':Nat->Prop}{C C':Nat->Nat->Prop}{q v:Nat}(h:eX R L C q v)(hR:∀ p,p<q->(R p↔R' p))(hL:∀ p,p<q->(R p->(L p↔L' p)))(hC:∀ p,p<q->R p->(C p q↔C' p q)):eX R' L' C' q v:=by
 rcases h with ⟨k1,k2,k3,k4,k5⟩|⟨k1,k2⟩
 ·exact .inl ⟨k1,(hR v k1).1 k2,(hL v k1 k2).1 k3,(hC v k1 k2).1 k4,fun p hp r l c=>by
   have r':=(hR p (by omega)).2 r;exact k5 p hp r' ((hL p (by omega) r').2 l) ((hC p (by omega) r').2 c)⟩
 exact .inr ⟨k1,fun p hp r l c=>by
  have r':=(hR p hp).2 r;exact k2 p hp r' ((hL p hp r').2 l) ((hC p hp r').2 c)⟩
def AN(r:Nat->Bool)(L:Nat->Prop)(C:Nat->Nat->Prop)(j:Nat)(v:Int):Prop:=
 (r j=false/\v = -1)∨(r j=true/\∃ m:Nat,v=m/\eX (fun p=>r p=true) L C j m)
theorem AN.congrL{r:Nat->Bool}{L L':Nat->Prop}{C:Nat->Nat->Prop}{j:Nat}{v:Int}(h:AN r L C j v)(hL:∀ p,p<j->(L p↔L' p)):AN r L' C j v:=by
 rcases h with h|⟨h1,m,h2,h3⟩
 ·exact .inl h
 exact .inr ⟨h1,m,h2,h3.congr (fun _ _=>Iff.rfl) (fun p hp _=>hL p hp) (fun _ _ _=>Iff.rfl)⟩
def qH(r:Nat->Bool)(n:Nat)(pv:Nat->Int):Prop:=∀ j,j<n->(r j=false/\pv j = -1)∨(r j=true/\∃ m:Nat,pv j=m/\m<=j)
theorem eX.le{R L:Nat->Prop}{C:Nat->Nat->Prop}{q v:Nat}(h:eX R L C q v):v<=q:=by
 rcases h with h|h
 ·omega
 omega
theorem tU{r:Nat->Bool}{L:Nat->Nat->Prop}{C:Nat->Nat->Prop}{n:Nat}{pv:Nat->Int}(h:∀ j,j<n->AN r (L j) C j (pv j)):qH r n pv:=fun j hj=>by
 rcases h j hj with h|⟨h1,m,h2,h3⟩
 ·exact .inl h
 exact .inr ⟨h1,m,h2,h3.le⟩
theorem qH.nat{r:Nat->Bool}{n:Nat}{pv:Nat->Int}(h:qH r n pv){j:Nat}(hj:j<n)(hr:r j=true):pv j=((pv j).toNat:Int):=by
 rcases h j hj with ⟨h1,-⟩|⟨-,m,h2,-⟩
 ·rw[hr]at h1;cases h1
 omega
theorem qH.eq{r:Nat->Bool}{n:Nat}{pv:Nat->Int}(h:qH r n pv){i j:Nat}(hi:i<n)(hri:r i=true)(hj:j<n)(hrj:r j=true):pv i=pv j↔(pv i).toNat=(pv j).toNat:=by
 have h1:=h.nat hi hri;have h2:=h.nat hj hrj;omega
theorem qH.self{r:Nat->Bool}{n:Nat}{pv:Nat->Int}(h:qH r n pv){j:Nat}(hj:j<n):pv j=(j:Int)↔r j=true/\(pv j).toNat=j:=by
 rcases h j hj with ⟨h1,h2⟩|⟨h1,m,h2,-⟩
 ·rw[h1];simp;omega
 rw[h1];simp;omega
theorem yW{A:Tb}{r:Nat->Bool}{pv:Nat->Int}(hw:A.Wf)(hr:∀ q,q<A.n->(r q=true↔A.Rch q))(h:∀ j,j<A.n->AN r (fun _=>True) (fun a b=>A.ac a=A.ac b) j (pv j)):oM A (fun p q=>A.ac p=A.ac q) (fun j=>(pv j).toNat):=
 oM.start fun q hq=>by
  have c:=hq.lt hw;rcases h q c with ⟨h1,-⟩|⟨-,m,h2,h3⟩
  ·rw[(hr q c).2 hq]at h1;cases h1
  rw[h2];exact h3.congr (fun p hp=>hr p (by omega)) (fun _ _ _=>Iff.rfl) (fun _ _ _=>Iff.rfl)
def DJ(A:Tb)(pv:Nat->Int)(a b:Nat):Prop:=pv a=pv b/\∀ c,c<A.k->pv (A.nx a c)=pv (A.nx b c)
theorem BG{A:Tb}{C:Nat->Nat->Prop}{r:Nat->Bool}{pv nv:Nat->Int}(h:oM A C (fun j=>(pv j).toNat))(hw:A.Wf)(hf:A.Full)(hr:∀ q,q<A.n->(r q=true↔A.Rch q))(hp:qH r A.n pv)
  (hN:∀ j,j<A.n->AN r (fun p=>nv p=(p:Int)) (DJ A pv) j (nv j)):oM A (rnd A C) (fun j=>(nv j).toNat):=
 h.next hf fun q hq=>by
  have a:=hq.lt hw;have b:=(hr q a).2 hq;have d:qH r A.n nv:=tU (L:=fun _ p=>nv p=(p:Int)) hN;rcases hN q a with ⟨h1,-⟩|⟨-,m,h2,h3⟩
  ·rw[b]at h1;cases h1
  show eX _ _ _ _ (nv q).toNat;rw[h2];refine h3.congr (fun p hp=>hr p (by omega)) (fun p hp hrp=>?_) (fun p hp' hrp=>?_)
  ·rw[d.self (by omega)];exact⟨fun k=>k.2,fun k=>⟨hrp,k⟩⟩
  have f:=(hr p (by omega)).1 hrp;have e:∀ c,c<A.k->(pv (A.nx p c)=pv (A.nx q c)↔(pv (A.nx p c)).toNat=(pv (A.nx q c)).toNat):=fun c hc=>by
   have a1:=hw.nxt p c (by omega) hc;have a2:=hw.nxt q c a hc;exact hp.eq a1 ((hr _ a1).2 (f.nx hf hc)) a2 ((hr _ a2).2 (hq.nx hf hc))
  unfold DJ;rw[hp.eq (by omega) hrp a b];exact⟨fun k=>⟨k.1,fun c hc=>(e c hc).1 (k.2 c hc)⟩,fun k=>⟨k.1,fun c hc=>(e c hc).2 (k.2 c hc)⟩⟩
def nP(pv:Nat->Int)(n:Nat):Nat:=je (fun q=>decide (pv q=(q:Int))) n
theorem gI{f g:Nat->Bool}:∀ n,(∀ q,q<n->f q=g q)->je f n=je g n
 | 0,_=>rfl
 | n+1,h=>by simp only[je];rw[gI n fun q hq=>h q (by omega),h n (by omega)]
theorem vA{r:Nat->Bool}{n:Nat}{pv:Nat->Int}(h:qH r n pv):nP pv n=je (fun q=>r q&&(pv q).toNat==q) n:=
 gI n fun q hq=>by
  rw[Bool.eq_iff_iff];simp only[decide_eq_true_eq,Bool.and_eq_true,beq_iff_eq];exact h.self hq
theorem uK(pv:Nat->Int)(n:Nat):nP pv n<=n:=uT _ n
theorem AZ{A:Tb}{C:Nat->Nat->Prop}{r:Nat->Bool}{pv nv:Nat->Int}(h:oM A C (fun j=>(pv j).toNat))(g:oM A (rnd A C) (fun j=>(nv j).toNat))(hw:A.Wf)(hr:∀ q,q<A.n->(r q=true↔A.Rch q))(hp:qH r A.n pv)(hn:qH r A.n nv)(hne:∃ q,q<A.n/\nv q≠pv q):nP pv A.n<nP nv A.n:=by
 rw[vA hp,vA hn];refine h.grow g hw hr ?_;obtain⟨q,hq,hd⟩:=hne;have a:r q=true:=by
  rcases hp q hq with ⟨h1,h2⟩|⟨h1,-⟩
  ·rcases hn q hq with ⟨h3,h4⟩|⟨h3,-⟩
   ·rw[h2,h4]at hd;exact absurd rfl hd
   exact h3
  exact h1
 refine⟨q,(hr q hq).1 a,fun e=>hd ?_⟩;rw[hn.nat hq a,hp.nat hq a,e]
theorem CS{A:Tb}{C:Nat->Nat->Prop}{pv nv:Nat->Int}(h:oM A C (fun j=>(pv j).toNat))(g:oM A (rnd A C) (fun j=>(nv j).toNat))(hw:A.Wf)(he:∀ q,q<A.n->nv q=pv q):AP A (fun j=>(nv j).toNat):=by
 have hf:=h.fin g hw fun q hq=>by rw[he q (hq.lt hw)]
 have e:∀ q,A.Rch q->(nv q).toNat=(pv q).toNat:=fun q hq=>by rw[he q (hq.lt hw)]
 exact⟨fun q hq=>by rw[e q hq];exact hf.rch q hq,fun q hq=>by rw[e q hq];exact hf.tel q hq,fun p q hp hq ht=>by rw[e p hp,e q hq];exact hf.one p q hp hq ht⟩
def my(A:Tb)(pv:Nat->Int)(b:Nat):Nat->Int:=fun q=>if q<A.n/\pv q=(q:Int) then pv (A.stp q b) else 0
theorem Dh{A:Tb}{r:Nat->Bool}{pv:Nat->Int}(hw:A.Wf)(hr:∀ q,q<A.n->(r q=true↔A.Rch q))(hp:qH r A.n pv)(hF:AP A (fun j=>(pv j).toNat)){b b':Nat}(hb:b<256)(hb':b'<256):my A pv b=my A pv b'↔Gc A b b':=by
 have Dc:∀ {x y:Nat},A.Rch x->A.Rch y->(pv x=pv y↔(pv x).toNat=(pv y).toNat):=fun {x y} hx hy=>hp.eq (hx.lt hw) ((hr _ (hx.lt hw)).2 hx) (hy.lt hw) ((hr _ (hy.lt hw)).2 hy)
 constructor
 ·intro he q hq;have hP:A.Rch (pv q).toNat:=hF.rch q hq;have a:=hP.lt hw;have ht:cW A A (pv q).toNat q:=hF.tel q hq;have d:(pv (pv q).toNat).toNat=(pv q).toNat:=hF.idem hq;obtain⟨p,e⟩ : ∃ p,p=(pv q).toNat:=⟨_,rfl⟩;rw[<-e]at hP a ht d;have c:pv p=(p:Int):=(hp.self a).2 ⟨(hr p a).2 hP,d⟩;have h1:=congrFun he p;simp only[my,a,c,and_self,if_true]at h1;have hx:=hP.stp hb;have hy:=hP.stp hb';have t1:cW A A (pv (A.stp p b)).toNat (A.stp p b):=hF.tel _ hx;have t2:cW A A (pv (A.stp p b')).toNat (A.stp p b'):=hF.tel _ hy;rw[(Dc hx hy).1 h1]at t1;exact(ht.stp hb).symm.trans (t1.symm.trans (t2.trans (ht.stp hb')))
 intro hs
 funext q
 simp only[my]
 split
 ·rename_i h
  have hq:A.Rch q:=(hr q h.1).1 ((hp.self h.1).1 h.2).1;exact(Dc (hq.stp hb) (hq.stp hb')).2 (hF.one _ _ (hq.stp hb) (hq.stp hb') (hs q hq))
 rfl
theorem xz{A:Tb}{r:Nat->Bool}{pv:Nat->Int}{ns fs o ys:List Nat}(hw:A.Wf)(hr:∀ q,q<A.n->(r q=true↔A.Rch q))(hp:qH r A.n pv)(hF:AP A (fun j=>(pv j).toNat))(hN:ft (my A pv) (fs.map (my A pv)) ns fs)(hl:ns.length=256)
  (hB:eM fs.length (fun q e=>(pv (A.stp q (fs[e]?.getD 0))).toNat) (pv 0).toNat o ys)(hy:ys.length=o.length*fs.length):dD A (fun j=>(pv j).toNat) fs.length (fun b=>ns[b]?.getD 0) (fun e=>fs[e]?.getD 0) o ys where
 wf:=hw
 fst:=hF
 num:=by
  have:=hN.num1;rw[hl,List.length_map]at this;exact this
 sm:=fun b b' hb hb'=>by
  have:=hN.eq_iff (p:=b) (q:=b') (by omega) (by omega);rw[this];exact Dh hw hr hp hF hb hb'
 bfs:=hB
 len:=hy
theorem Dt{k:Nat}{ns o ys:List Nat}{ac:Nat->Bool}(hl:ns.length=256):gW (bg k (fun b=>ns[b]?.getD 0) ac o ys)=ns.map fun (x:Nat)=>(x:Int):=by
 apply List.ext_getElem?
 intro i;simp only[gW,bg,List.getElem?_map]
 by_cases hi:i<256
 ·rw[List.getElem?_range hi,List.getElem?_eq_getElem (l:=ns) (i:=i) (by omega)];simp only[Option.map_some,List.getElem?_eq_getElem (l:=ns) (i:=i) (by omega),Option.getD_some]
 rw[List.getElem?_eq_none (by simp;omega),List.getElem?_eq_none (by omega)];rfl
theorem Ds{k:Nat}{cl:Nat->Nat}{o ys:List Nat}{ac:Nat->Bool}(hy:ys.length=o.length*k):gT (bg k cl ac o ys)=ys.map fun (x:Nat)=>(x:Int):=by
 apply List.ext_getElem?
 intro i;simp only[gT,bg,List.getElem?_map]
 by_cases hi:i<ys.length
 ·rw[List.getElem?_range (by omega),List.getElem?_eq_getElem (l:=ys) hi];simp only[Option.map_some,Nat.div_add_mod',List.getElem?_eq_getElem (l:=ys) hi,Option.getD_some]
 rw[List.getElem?_eq_none (by simp;omega),List.getElem?_eq_none (by omega)];rfl
theorem DA{k:Nat}{cl:Nat->Nat}{o ys:List Nat}{ac:Nat->Bool}:iO (bg k cl ac o ys)=o.map ac:=by
 apply List.ext_getElem?
 intro i;simp only[iO,bg,List.getElem?_map]
 by_cases hi:i<o.length
 ·rw[List.getElem?_range hi,List.getElem?_eq_getElem (l:=o) hi];simp[hi]
 rw[List.getElem?_eq_none (by simp;omega),List.getElem?_eq_none (by omega)];rfl
theorem Ak(g mb mo pb po n c1 c2:Nat)(i j x y:Nat)(w:World)(hi:i<n)(hj:j<n)(hx:x<n)(hy:y<n)(d1:mb≠g)(d2:pb≠g)(d3:mb≠pb)
  (f0:w.cell? ⟨g,0,none⟩=some (.slice (some ⟨mb,mo,none⟩) n c1))(f1:w.cell? ⟨g,1,none⟩=some (.slice (some ⟨pb,po,none⟩) n c2))
  (m1:w.cell? ⟨mb,mo+i,none⟩=some (.int .i64 x))(m2:w.cell? ⟨mb,mo+j,none⟩=some (.int .i64 y))(p1:∃ v,w.cell? ⟨pb,po+x,none⟩=some v)(p2:∃ v,w.cell? ⟨pb,po+y,none⟩=some v)
  (zm:∀ k,w.frozen? ⟨mb,k,none⟩=false)(zp:∀ k,w.frozen? ⟨pb,k,none⟩=false) :
  Calls prog 122 #[.pointer (some ⟨g,0,none⟩),.int .i64 i,.int .i64 j] w fun e w'=>e=.returned (.tuple #[])/\
   ∃ q,w'=((((w.drewN q).setCell ⟨mb,mo+i,none⟩ (.int .i64 y)).setCell ⟨mb,mo+j,none⟩ (.int .i64 x)).setCell ⟨pb,po+y,none⟩ (.int .i64 i)).setCell ⟨pb,po+x,none⟩ (.int .i64 j):=by
 have f:(i:Int)<(n:Int):=by omega
 have h:(j:Int)<(n:Int):=by omega
 have z1:=zm (mo+i);have z2:=zm (mo+j);have hA:(w.setCell ⟨mb,mo+i,none⟩ (.int .i64 y)).cell? ⟨mb,mo+j,none⟩=some (.int .i64 y):=by
  by_cases he:i=j
  ·subst he;exact dX m1
  rw[aL (by right;omega)];exact m2
 have zA:(w.setCell ⟨mb,mo+i,none⟩ (.int .i64 y)).frozen? ⟨mb,mo+j,none⟩=false:=by rw[<-z2];exact World.frozen?_setCell ..
 obtain⟨v1,p1⟩:=p1;obtain⟨v2,p2⟩:=p2;have l:(x:Int)<(n:Int):=by omega
 have m:(y:Int)<(n:Int):=by omega
 obtain⟨W1,a⟩ : ∃ W1,W1=(w.setCell ⟨mb,mo+i,none⟩ (.int .i64 y)).setCell ⟨mb,mo+j,none⟩ (.int .i64 x):=⟨_,rfl⟩;have g0:W1.cell? ⟨g,0,none⟩=some (.slice (some ⟨mb,mo,none⟩) n c1):=by rw[a,aL (by left;exact d1),aL (by left;exact d1)];exact f0
 have g1:W1.cell? ⟨g,1,none⟩=some (.slice (some ⟨pb,po,none⟩) n c2):=by rw[a,aL (by left;exact d1),aL (by left;exact d1)];exact f1
 have k1:W1.cell? ⟨mb,mo+i,none⟩=some (.int .i64 y):=by
  rw[a]
  by_cases he:i=j
  ·subst he;rw[m1]at m2;cases m2;exact dX hA
  rw[aL (by right;omega)];exact dX m1
 have k2:W1.cell? ⟨mb,mo+j,none⟩=some (.int .i64 x):=by rw[a];exact dX hA
 have k3:W1.cell? ⟨pb,po+y,none⟩=some v2:=by rw[a,aL (by left;exact d3),aL (by left;exact d3)];exact p2
 have k4:W1.cell? ⟨pb,po+x,none⟩=some v1:=by rw[a,aL (by left;exact d3),aL (by left;exact d3)];exact p1
 have z3:W1.frozen? ⟨pb,po+y,none⟩=false:=by rw[a,World.frozen?_setCell,World.frozen?_setCell];exact zp _
 have z4:W1.frozen? ⟨pb,po+x,none⟩=false:=by rw[a,World.frozen?_setCell,World.frozen?_setCell];exact zp _
 obtain⟨W2,b⟩ : ∃ W2,W2=W1.setCell ⟨pb,po+y,none⟩ (.int .i64 i):=⟨_,rfl⟩;have e0:W2.cell? ⟨g,0,none⟩=some (.slice (some ⟨mb,mo,none⟩) n c1):=by rw[b,aL (by left;exact d2)];exact g0
 have e1:W2.cell? ⟨g,1,none⟩=some (.slice (some ⟨pb,po,none⟩) n c2):=by rw[b,aL (by left;exact d2)];exact g1
 have e2:W2.cell? ⟨mb,mo+j,none⟩=some (.int .i64 x):=by rw[b,aL (by left;exact Ne.symm d3)];exact k2
 have e3:∃ v,W2.cell? ⟨pb,po+x,none⟩=some v:=by
  rw[b]
  by_cases he:x=y
  ·subst he;exact⟨_,dX k3⟩
  rw[aL (by right;omega)];exact⟨_,k4⟩
 obtain⟨v3,e3⟩:=e3;have z5:W2.frozen? ⟨pb,po+x,none⟩=false:=by rw[b,World.frozen?_setCell];exact z4
 have c:=ae a;have d:=ae b;clear a b zm zp d1 d2 d3 p1 p2 z4 k4
 go_enter func122,ntmps122
 go_wp2_with fail
 go_region
 rw[<-c.u];clear hA zA m1 m2 f0 f1 z1 z2
 go_wp2_with fail
 go_region
 rw[<-d.u];clear g0 g1 k1 k2 k3 z3
 go_wp2_with fail
 go_region
 go_wp2
 first|(refine bodyPost_ret (results_none rfl _ _ _) rfl ?_)|(refine bodyPost_end (results_none rfl _ _ _) rfl ?_)
 refine⟨rfl,3,?_⟩;rw[d.u,c.u]
 rfl
theorem aU.drewN{O:Nat->Prop}{g mb mc pb pc bb bc:Nat}{w:World}{n N:Nat}{ms ps bs fr mk tt:Nat->Nat}{kb kc:Nat}{qv:Value}{qs:List Int}{tk:Nat}(h:aU O g mb mc pb pc bb bc w n N ms ps bs fr mk tt kb kc qv qs tk)(q:Nat):aU O g mb mc pb pc bb bc (w.drewN q) n N ms ps bs fr mk tt kb kc qv qs tk:=h.keep (fun _ _ _=>rfl)
theorem iS{O:Nat->Prop}(w:World)(q:Nat):aT O w (w.drewN q):=⟨rfl,rfl,rfl,Nat.le_refl _,fun _ _=>rfl⟩
theorem vi{O:Nat->Prop}{g mb mc pb pc bb bc:Nat}{w:World}{n N:Nat}{ms ps bs fr mk tt:Nat->Nat}{kb kc:Nat}{qv:Value}{qs:List Int}{tk:Nat}(h:aU O g mb mc pb pc bb bc w n N ms ps bs fr mk tt kb kc qv qs tk)(hI:eW n N ms ps bs fr mk tt){s:Nat}(hs:s<n)(hm:mk (bs s)<=ps s) :
  Calls prog 122 #[.pointer (some ⟨g,0,none⟩),.int .i64 (ps s:Nat),.int .i64 (mk (bs s):Nat)] w fun e w'=>e=.returned (.tuple #[])/\
   aU O g mb mc pb pc bb bc w' n N (bX (bX ms (ps s) (ms (mk (bs s)))) (mk (bs s)) s) (bX (bX ps (ms (mk (bs s))) (ps s)) s (mk (bs s))) bs fr mk tt kb kc qv qs tk/\aT O w w'/\w'.heap.size=w.heap.size:=by
 obtain⟨a1,a2,a3⟩:=hI.s1 s hs;have b1:=hI.b1 _ a1;obtain⟨p1,p2⟩:=hI.p1 s hs;obtain⟨m1,m2⟩:=hI.m1 (mk (bs s)) (by omega);obtain⟨c0,c1,-⟩:=h.facts;refine(Ak g mb 0 pb 0 n mc pc (ps s) (mk (bs s)) s (ms (mk (bs s))) w p1 (by omega) hs m1 (Ne.symm h.ng.1) (Ne.symm h.ng.2.1) h.ne.1 c0 c1 ?_ ?_ ?_ ?_ (fun k=>h.rm.frozen k) (fun k=>h.rp.frozen k)).mono ?_
 ·rw[Nat.zero_add,h.rm.cell p1,p2]
 ·rw[Nat.zero_add,h.rm.cell (by omega)]
 ·rw[Nat.zero_add];exact⟨_,h.rp.cell hs⟩
 ·rw[Nat.zero_add];exact⟨_,h.rp.cell m1⟩
 rintro e w' ⟨rfl,q,rfl⟩;simp only[Nat.zero_add];have k0:=h.drewN q;have k1:=k0.setM (ps s) (ms (mk (bs s)));have k2:=k1.setM (mk (bs s)) s;have k3:=k2.setP (ms (mk (bs s))) (ps s);have k4:=k3.setP s (mk (bs s));refine⟨trivial,k4,?_,by simp only[aM];rfl⟩;obtain⟨o1,o2,o3,o4,o5⟩:=h.oo;exact(iS w q).trans ((((am _ _).fro o2).trans ((am _ _).fro o2)).trans (((am _ _).fro o3).trans ((am _ _).fro o3)))
theorem qW(g o:Nat)(a:Option Addr)(l c:Nat)(w:World)(h0:w.cell? ⟨g,o,none⟩=some (.slice a l c))(h1:w.cell? ⟨g,o+1,none⟩=some (.int .i64 l)) :
  Calls prog 98 #[.pointer (some ⟨g,o,none⟩)] w fun e w'=>e=.returned (.tuple #[.int .i64 0,.bool false])/\∃ q,w'=w.drewN q:=by
 go_enter func98,ntmps98
 go_wp2_with fail
 go_quiet (fail);go_wp2
 go_ret2;exact⟨rfl,_,rfl⟩
theorem rn(g o b off:Nat)(t:Nat)(x:Int)(l c:Nat)(w:World)(hl:l<=1000000)(ht:t<l)(h0:w.cell? ⟨g,o,none⟩=some (.slice (some ⟨b,off,none⟩) l c))(h1:w.cell? ⟨g,o+1,none⟩=some (.int .i64 t))(h2:w.cell? ⟨b,off+t,none⟩=some (.int .i64 x))(hz:w.frozen? ⟨g,o+1,none⟩=false) :
  Calls prog 98 #[.pointer (some ⟨g,o,none⟩)] w fun e w'=>e=.returned (.tuple #[.int .i64 x,.bool true])/\∃ q,w'=(w.drewN q).setCell ⟨g,o+1,none⟩ (.int .i64 ((t:Int)+1)):=by
 have a:(t:Int)≠(l:Int):=by omega
 have d:(t:Int)<(l:Int):=by omega
 have hw:wrap64 ((t:Int)+1)=(t:Int)+1:=CB (by omega) (by omega)
 go_enter func98,ntmps98
 go_wp2_with fail
 go_quiet (fail)
 go_wp2_with fail
 go_quiet (fail);go_wp2
 go_ret2;exact⟨rfl,_,rfl⟩
end Go.Proofs.YtidfkbghlkcbeaaGreatDoor
