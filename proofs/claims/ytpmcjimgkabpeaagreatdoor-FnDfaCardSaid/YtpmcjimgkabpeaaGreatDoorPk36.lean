import Derived.Test.YtpmcjimgkabpeaaGreatDoorPk32
import Derived.Test.YtpmcjimgkabpeaaGreatDoorPk33
namespace Go.Proofs.YtpmcjimgkabpeaaGreatDoor
open Go.RowKit Go.Proofs.Tryz
set_option maxHeartbeats 16000000
set_option maxRecDepth 100000
theorem Cv{g h:Nat->Nat}(e:fZ g=fZ h)(b:Nat)(hb:b<256):Bt g b=Bt h b:=by
 unfold fZ at e;simp only[Value.agg.injEq,Array.mk.injEq,List.cons.injEq,Value.int.injEq,Int.natCast_inj,true_and,and_true]at e;obtain⟨e0,e1,e2,e3⟩:=e;have:∀ j,j<4->g j=h j:=fun j hj=>by
  match j,hj with
  | 0,_=>exact e0
  | 1,_=>exact e1
  | 2,_=>exact e2
  | 3,_=>exact e3
 unfold Bt;rw[this (b / 64) (by omega)]
theorem uA(g:Nat->Nat)(k i:Nat):Bt (iA g k) i=true↔(Bt g i=true∨i=k):=by
 have h:=pQ g k i;unfold iA;rw[h];simp
structure xd (gs:Nat->Nat->Nat) (x m:Nat) (ds ps:Nat->Nat->Nat) (ks:List Value):Prop where
 len:ks.length=m
 at_:∀ j,j<m->ks[j]?=some (fZ (ds j))
 fd:∀ j,j<m->Fit (ds j)
 fp:∀ j,j<m->Fit (ps j)
 bt:∀ j,j<m->∀ i,Bt (ps j) i=true↔(i<x/\fZ (gs i)=fZ (ds j))
 cov:∀ i,i<x->∃ j,j<m/\fZ (gs i)=fZ (ds j)
 le:m<=x
 nd:ks.Nodup
def dQ(ps:Nat->Nat->Nat)(i:Nat)(v:Nat->Nat):Nat->Nat->Nat:=fun j=>if j=i then v else ps j
theorem xd.start(gs ds ps:Nat->Nat->Nat):xd gs 0 0 ds ps []:=
 ⟨rfl,fun _ h=>absurd h (Nat.not_lt_zero _),fun _ h=>absurd h (Nat.not_lt_zero _),fun _ h=>absurd h (Nat.not_lt_zero _),fun _ h=>absurd h (Nat.not_lt_zero _),fun _ h=>absurd h (Nat.not_lt_zero _),Nat.le_refl _,List.nodup_nil⟩
theorem Aj{ks:List Value}(h:ks.Nodup){i j:Nat}{v:Value}(hi:ks[i]?=some v)(hj:ks[j]?=some v):i=j:=by
 have h1:i<ks.length:=by apply Nat.lt_of_not_le;intro q;rw[List.getElem?_eq_none q]at hi;cases hi
 have h2:j<ks.length:=by apply Nat.lt_of_not_le;intro q;rw[List.getElem?_eq_none q]at hj;cases hj
 rw[List.getElem?_eq_getElem h1]at hi;rw[List.getElem?_eq_getElem h2]at hj;have h3:ks[i]=ks[j]:=(Option.some.inj hi).trans (Option.some.inj hj).symm;rcases Nat.lt_trichotomy i j with q|q|q
 ·exact absurd h3 (List.pairwise_iff_getElem.1 h i j h1 h2 q)
 ·exact q
 exact absurd h3.symm (List.pairwise_iff_getElem.1 h j i h2 h1 q)
section
variable {gs ds ps:Nat->Nat->Nat} {x m i:Nat} {ks ks':List Value} {f:Bool}
theorem xd.old(h:xd gs x m ds ps ks)(hr:lB ks (fZ (gs x)) ks' i false):i<m/\xd gs (x+1) m ds (dQ ps i (iA (ps i) x)) ks':=by
 rcases hr with ⟨h1,rfl,h2,-⟩|⟨-,-,-,h⟩
 ·have hi:i<m:=by
   rw[<-h.len]
   apply Nat.lt_of_not_le
   intro q;rw[List.getElem?_eq_none q]at h2;cases h2
  have hv:fZ (gs x)=fZ (ds i):=by have:=h.at_ i hi;rw[h2]at this;exact Option.some.inj this
  refine⟨hi,h.len,h.at_,h.fd,fun j hj=>?_,fun j hj t=>?_,fun t ht=>?_,by have:=h.le;omega,h.nd⟩
  ·unfold dQ
   by_cases e:j=i
   ·rw[if_pos e];exact pU (h.fp i hi) x
   rw[if_neg e];exact h.fp j hj
  ·unfold dQ
   by_cases e:j=i
   ·subst e;rw[if_pos rfl,uA,h.bt j hj t]
    constructor
    ·rintro(⟨q1,q2⟩|rfl)
     ·exact⟨by omega,q2⟩
     exact⟨by omega,hv⟩
    rintro⟨q1,q2⟩
    by_cases e:t=x
    ·exact Or.inr e
    exact Or.inl ⟨by omega,q2⟩
   rw[if_neg e,h.bt j hj t]
   constructor
   ·rintro⟨q1,q2⟩;exact⟨by omega,q2⟩
   rintro⟨q1,q2⟩;refine⟨?_,q2⟩
   by_cases e2:t=x
   ·subst e2;exact absurd (Aj h.nd (by rw[h.at_ j hj,<-q2]) h2) e
   omega
  by_cases e:t=x
  ·subst e;exact⟨i,hi,hv⟩
  exact h.cov t (by omega)
 cases h
theorem xd.new(h:xd gs x m ds ps ks)(hg:Fit (gs x))(hr:lB ks (fZ (gs x)) ks' i true):i=m/\xd gs (x+1) (m+1) (dQ ds m (gs x)) (dQ (dQ ps m (fun _=>0)) m (iA (fun _=>0) x)) ks':=by
 rcases hr with ⟨-,-,-,h⟩|⟨h1,rfl,h2,-⟩
 ·cases h
 refine⟨h2.trans h.len,by rw[List.length_append,h.len];rfl,fun j hj=>?_,fun j hj=>?_,fun j hj=>?_,fun j hj t=>?_,fun t ht=>?_,by have:=h.le;omega,?_⟩
 ·unfold dQ
  by_cases e:j=m
  ·subst e;rw[if_pos rfl,List.getElem?_append_right (by rw[h.len];exact Nat.le_refl _),h.len,Nat.sub_self]
   rfl
  rw[if_neg e,List.getElem?_append_left (by rw[h.len];omega)];exact h.at_ j (by omega)
 ·unfold dQ
  by_cases e:j=m
  ·rw[if_pos e];exact hg
  rw[if_neg e];exact h.fd j (by omega)
 ·unfold dQ
  by_cases e:j=m
  ·rw[if_pos e];exact pU vg x
  rw[if_neg e,if_neg e];exact h.fp j (by omega)
 ·unfold dQ
  by_cases e:j=m
  ·subst e;rw[if_pos rfl,if_pos rfl,uA]
   constructor
   ·rintro(q|rfl)
    ·simp[Bt]at q
    exact⟨by omega,rfl⟩
   rintro⟨q1,q2⟩
   right
   apply Classical.byContradiction
   intro e;obtain⟨j',h3,h4⟩:=h.cov t (by omega);refine h1 ?_;rw[<-q2,h4];exact List.mem_of_getElem? (h.at_ j' h3)
  rw[if_neg e,if_neg e,if_neg e,h.bt j (by omega) t]
  constructor
  ·rintro⟨q1,q2⟩;exact⟨by omega,q2⟩
  rintro⟨q1,q2⟩;refine⟨?_,q2⟩
  by_cases e2:t=x
  ·subst e2;refine absurd ?_ h1;rw[q2];exact List.mem_of_getElem? (h.at_ j (by omega))
  omega
 ·unfold dQ
  by_cases e:t=x
  ·subst e;exact⟨m,by omega,by rw[if_pos rfl]⟩
  obtain⟨j,h3,h4⟩:=h.cov t (by omega);exact⟨j,by omega,by rw[if_neg (by omega)];exact h4⟩
 rw[List.nodup_append];refine⟨h.nd,by simp,fun a ha c hc e=>?_⟩;rw[List.mem_singleton]at hc;subst hc e;exact h1 ha
theorem xd.holds(h:xd gs x m ds ps ks)(b:Nat)(hb:b<256)(i:Nat):Bt (bY ds ps b m) i=true↔(i<x/\Bt (gs i) b=true):=by
 rw[pV]
 constructor
 ·rintro⟨j,hj,h1,h2⟩;have:=(h.bt j hj i).1 h2;exact⟨this.1,by rw[Cv this.2 b hb];exact h1⟩
 rintro⟨h1,h2⟩;obtain⟨j,hj,h3⟩:=h.cov i h1;exact⟨j,hj,by rw[<-Cv h3 b hb];exact h2,(h.bt j hj i).2 ⟨h1,h3⟩⟩
end
theorem wN{base n gg cap:Nat}{w WA w7:World}{v:Value}{hs:Nat->Nat->Nat}{x:Nat->Nat}{o:Obj}(hP:aK w WA o)
  (r1:w7.ownsRow base 88 4 (.slice (some ⟨gg,0,none⟩) (n+1) cap) (n+1) (be 4 n hs++[wd x 0,wd x 1,wd x 2,wd x 3]))(r2:WA.grownBy w7 v.ownBlock) :
  w7.ownsRow base 88 4 (.slice (some ⟨gg,0,none⟩) (n+1) cap) (n+1) (be 4 (n+1) (dQ hs n x))/\aR (fun k=>v.ownBlock=some k∨w.heap.size<=k) w w7:=by
 refine⟨?_,⟨r2.os.trans hP.os,r2.tape.trans hP.tape,r2.output.trans hP.output,by have:=r2.size;have:=hP.size;omega,fun k hk=>?_⟩⟩
 ·have e:be 4 (n+1) (dQ hs n x)=be 4 n hs++[wd x 0,wd x 1,wd x 2,wd x 3]:=by
   rw[gK _ _ (by omega),ix (h:=hs) (by omega) (fun i hi=>by unfold dQ;rw[if_neg (by omega)])];simp[List.range_succ,dQ]
  rw[e];exact r1
 have a:k<w.heap.size:=by apply Nat.lt_of_not_le;intro q;exact hk (Or.inr q)
 have b:v.ownBlock≠some k:=fun q=>hk (Or.inl q)
 exact(r2.block k (by have:=hP.size;omega) (fun q=>b q.symm)).trans (hP.old a)
structure nN (N1:Nat) (W1 wr:World) (sv pv:Value) (n m:Nat) (ds ps:Nat->Nat->Nat) (ks:List Value):Prop where
 so:wr.ownsRow (N1+3) 88 4 sv n (be 4 n ds)
 po:wr.ownsRow (N1+3) 102 8 pv m (be 8 m ps)
 ap:∀ q,sv.ownBlock=some q->pv.ownBlock≠some q
 num:ba 88 wr (N1+1) ks
 nb:wr.heap[N1+2]?=some (.cells #[.map (some (N1+1))] 98 (0,0))
 fr:Below N1 W1 wr
 sz:N1+3<=wr.heap.size
section
variable {N1 n m:Nat} {W1 wr wr':World} {sv pv:Value} {ds ps:Nat->Nat->Nat} {ks ks':List Value}
theorem nN.below(h:nN N1 W1 wr sv pv n m ds ps ks)(hb:Below wr.heap.size wr wr'):nN N1 W1 wr' sv pv n m ds ps ks:=
 ⟨aG h.so hb lR,aG h.po hb lR,h.ap,h.num.keep (hb.block _ h.num.lt),(hb.block _ (Array.getElem?_eq_some_iff.1 h.nb).1).trans h.nb,h.fr.trans (hb.mono (by have:=h.sz;omega)),Nat.le_trans h.sz hb.size⟩
theorem nN.num'(h:nN N1 W1 wr sv pv n m ds ps ks)(hn:ba 88 wr' (N1+1) ks')(hf:aR (dD wr (N1+1)) wr wr'):nN N1 W1 wr' sv pv n m ds ps ks':=by
 have hz:=h.sz;have hk:∀ k,k<wr.heap.size->k≠N1+1->wr'.heap[k]?=wr.heap[k]? :=fun k h1 h2=>hf.block k (by rintro(q|q)<;>omega)
 exact⟨ak h.so (fun q hq=>hk q (h.so.lt q hq).2 (by have:=(h.so.lt q hq).1;omega)),ak h.po (fun q hq=>hk q (h.po.lt q hq).2 (by have:=(h.po.lt q hq).1;omega)),h.ap,hn,(hk _ (by omega) (by omega)).trans h.nb,h.fr.trans (hf.below (fun k hk=>by rintro(q|q)<;>omega)),Nat.le_trans h.sz hf.size⟩
theorem nN.pushS{w7:World}{gg cap:Nat}{x:Nat->Nat}(h:nN N1 W1 wr sv pv n m ds ps ks)(r1:w7.ownsRow (N1+3) 88 4 (.slice (some ⟨gg,0,none⟩) (n+1) cap) (n+1) (be 4 (n+1) (dQ ds n x)))(hf:aR (fun k=>sv.ownBlock=some k∨wr.heap.size<=k) wr w7)(hg:sv.ownBlock=some gg∨wr.heap.size<=gg) :
  nN N1 W1 w7 (.slice (some ⟨gg,0,none⟩) (n+1) cap) pv (n+1) m (dQ ds n x) ps ks:=by
 have hz:=h.sz;have hk:∀ k,k<N1+3->w7.heap[k]?=wr.heap[k]? :=fun k hk=>hf.block k (by rintro(q|q);(have:=(h.so.lt k q).1;omega);omega)
 refine⟨r1,ak h.po (fun q hq=>hf.block q (by rintro(e|e);exact h.ap q e hq;(have:=(h.po.lt q hq).2;omega))),fun q hq hq2=>?_,h.num.keep (hk _ (by omega)),(hk _ (by omega)).trans h.nb,h.fr.trans (hf.below (fun k hk=>by rintro(q|q);(have:=(h.so.lt k q).1;omega);omega)),Nat.le_trans h.sz hf.size⟩;cases hq;rcases hg with hg|hg
 ·exact h.ap gg hg hq2
 have:=(h.po.lt gg hq2).2;omega
theorem nN.pushP{w7:World}{gg cap:Nat}{x:Nat->Nat}(h:nN N1 W1 wr sv pv n m ds ps ks)(r1:w7.ownsRow (N1+3) 102 8 (.slice (some ⟨gg,0,none⟩) (m+1) cap) (m+1) (be 8 (m+1) (fun i=>if i=m then x else ps i)))(hf:aR (fun k=>pv.ownBlock=some k∨wr.heap.size<=k) wr w7)(hg:pv.ownBlock=some gg∨wr.heap.size<=gg) :
  nN N1 W1 w7 sv (.slice (some ⟨gg,0,none⟩) (m+1) cap) n (m+1) ds (dQ ps m x) ks:=by
 have hz:=h.sz;have hk:∀ k,k<N1+3->w7.heap[k]?=wr.heap[k]? :=fun k hk=>hf.block k (by rintro(q|q);(have:=(h.po.lt k q).1;omega);omega)
 refine⟨ak h.so (fun q hq=>hf.block q (by rintro(e|e);exact h.ap q hq e;(have:=(h.so.lt q hq).2;omega))),r1,fun q hq hq2=>?_,h.num.keep (hk _ (by omega)),(hk _ (by omega)).trans h.nb,h.fr.trans (hf.below (fun k hk=>by rintro(q|q);(have:=(h.po.lt k q).1;omega);omega)),Nat.le_trans h.sz hf.size⟩;cases hq2;rcases hg with hg|hg
 ·exact h.ap gg hq hg
 have:=(h.so.lt gg hq).2;omega
theorem nN.puts(h:nN N1 W1 wr sv pv n m ds ps ks){i:Nat}(hi:i<m):∃ g cap M F,pv=.slice (some ⟨g,0,none⟩) m cap/\wr.rowIs g 102 M F/\i*8+8<=M/\(∀ j,j<8->F (i*8+j)=wd (ps i) j)/\
  ∀ (w':World) (x:Nat->Nat),w'.rowIs g 102 M (fun k=>if i*8<=k/\k<i*8+8 then wd x (k-i*8) else F k)->cd g wr w'->nN N1 W1 w' sv pv n m ds (dQ ps i x) ks:=by
 obtain⟨g,cap,M,F,rfl,hlt,hr,hM,hF,a⟩:=fe h.po (by omega);have b:=(h.po.lt g rfl).1;refine⟨g,cap,M,F,rfl,hr,by omega,fun j hj=>?_,fun w' x hr' hob=>⟨ak h.so (fun q hq=>hob.block q (fun e=>h.ap q hq (by rw[e];rfl))),?_,h.ap,h.num.keep (hob.block _ (by omega)),(hob.block _ (by omega)).trans h.nb,h.fr.trans (hob.bel2 (by omega)),by rw[hob.size];exact h.sz⟩⟩
 ·have h1:=hF (i*8+j) (by omega);rw[dr _ _ _ (by omega),show(i*8+j) / 8=i by omega,show(i*8+j)%8=j by omega]at h1;exact(Option.some.inj h1).symm
 refine a w' _ _ hr' (kK _ _ _) (fun k hk=>?_)
 rw[dr _ _ _ hk];unfold dQ
 by_cases e:i*8<=k/\k<i*8+8
 ·rw[if_pos e,if_pos (by omega),show k%8=k-i*8 by omega]
 rw[if_neg e,if_neg (by omega)];have h2:=hF k hk;rw[dr _ _ _ hk]at h2;exact h2
end
theorem FR(A g:Nat)(c:Value)(hc:c.oneCell'=true):(#[.pointer (some ⟨A,0,none⟩),.slice (some ⟨g,0,none⟩) 256 256,c]:Array Value).all (·.oneCell')=true:=by
 have h1:(Value.pointer (some ⟨A,0,none⟩)).oneCell'=true:=rfl;have h2:(Value.slice (some ⟨g,0,none⟩) 256 256).oneCell'=true:=rfl;simp[h1,h2,hc]
theorem DH{w:World}{B:Nat}{cs:Array Value}(h:w.heap[B]?=some (.cells cs 54 (0,0))){fn:Func}{p:Tmp}(hr:fn.results=#[.cell p 54])(tmps:Array Value)(hp:tmps.getD p undef=.pointer (some ⟨B,0,none⟩))(hs:(prog.info? 54).map (·.size)=some cs.size):(results fn tmps).run prog w=.ok (.agg cs) w:=
 results_cell_row hr tmps w B _ _ _ _ hp h underlying54 rfl hs
def EQ(A N:Nat)(gs:Nat->Nat->Nat)(e:Ending)(w':World):Prop:=∃ gc mm K hs hv ks H,e=.returned (.agg #[.pointer (some ⟨A,0,none⟩),.slice (some ⟨gc,0,none⟩) 256 256,hv])/\w'.rowIs gc 3 256 (fun x=>.int .i64 (K x:Nat))/\AK w' hv mm hs/\tB H 256 mm K hs ks/\(∀ x,x<256->Fit (H x)/\∀ i,Bt (H x) i=true↔(i<N/\Bt (gs i) x=true))
theorem jH(A N:Nat)(av:Value)(gs:Nat->Nat->Nat)(w:World)(ha:w.cell? ⟨A,0,none⟩=some av)(hA:A<w.heap.size)(hS:Ec w av N gs)(hg:∀ i,i<N->Fit (gs i))(hN:N<=512) :
  Calls prog 19 #[.pointer (some ⟨A,0,none⟩)] w fun e w'=>EQ A N gs e w'/\Below w.heap.size w w':=by
 obtain⟨aa,ac,rfl⟩:=aj hS;have W:=run_make_row' (P:=prog) 30 3 (.int .i64 0) 8 underlying30 Tryz.zinInt rfl .i64 .i64 256 (by omega) (by omega);simp only[show((256:Nat):Int)=256 from rfl]at W;obtain⟨W1,c⟩ : ∃ W1,W1=((w.alloc (.cells #[.pointer none,.slice none 0 0,.slice none 0 0] 54)).alloc (.cells (madeCells #[.int .i64 0] 256) 3)).alloc (.cells #[.pointer (some ⟨A,0,none⟩),.slice (some ⟨w.heap.size+1,0,none⟩) 256 256,.slice none 0 0] 54):=⟨_,rfl⟩;have Y:Below w.heap.size w W1:=by rw[c];exact(aH w _ _).alloc (by rw[ah,ah];omega) _
 have C:W1.heap.size=w.heap.size+3:=by rw[c,ah,ah,ah]
 have HS:=ae hS;have HG:=ae hg;have Z:=ae Y;have a0:=ae c;have aw:=ae C;have a3:=ae (wj W1);clear hS hg Y c C
 go_enter func19,ntmps19
 go_wp2_with fail;rw[<-a0.u];refine a3.u.mono ?_;rintro e w2 ⟨rfl,Q,j,D⟩;obtain⟨N1,R⟩ : ∃ N1,N1=W1.heap.size:=⟨_,rfl⟩;rw[<-R]at Q j D ⊢;have E:N1=w.heap.size+3:=R.trans aw.u;have s:Below w.heap.size w w2:=Z.u.trans (D.mono (by omega));have hV:Below w.heap.size w (w2.alloc (.cells #[.map (some (N1+1))] 98)):=s.alloc (by have:=s.size;omega) _;have a4:Hi (nN N1 W1 (w2.alloc (.cells #[.map (some (N1+1))] 98)) (.slice none 0 0) (.slice none 0 0) 0 0 (fun _ _=>0) (fun _ _=>0) []):=by
  refine⟨World.ownsRow_nil _ _ _ _,World.ownsRow_nil _ _ _ _,fun q hq=>(by cases hq),Q.keep ((ai w2 _).block _ (by omega)),?_,D.alloc (by omega) _,by rw[ah];omega⟩;have:=(au w2 (.cells #[.map (some (N1+1))] 98)).new;rw[j]at this;exact this
 have ax:(w2.alloc (.cells #[.map (some (N1+1))] 98)).cell? ⟨A,0,none⟩=some (.slice aa N ac):=(hV.cell (p:=⟨A,0,none⟩) hA).trans ha;have a5:=ae j;have b0:=ae E;have bj:w.heap.size+3<=N1:=by omega
 have bl:N1<=W1.heap.size:=by omega
 clear Q j D s hV a3 R E ha
 go_wp2_with fail;rw[a5.u]
 go_loopw [5,6,20] (fun sv pv iv wr=>∃ (x m:Nat) (ds ps:Nat->Nat->Nat) (ks:List Value),x<=N/\iv=.int .i64 x/\nN N1 W1 wr sv pv m m ds ps ks/\xd gs x m ds ps ks) (fun _ _ iv _=>N-(intOf iv).toNat)
 case atStart=>exact⟨0,0,_,_,_,by omega,rfl,a4.u,xd.start _ _ _⟩
 clear a4 ax a5 W;obtain⟨x,m,ds,ps,ks,hx,rfl,hW,hD⟩:=hrel;obtain⟨sa,sc,rfl⟩:=aj hW.so;obtain⟨pa,pc,rfl⟩:=aj hW.po;have G:Below w.heap.size w wr:=Z.u.trans (hW.fr.mono (by omega))
 by_cases hlt:x<N
 ·have bn:(x:Int)<(N:Int):=by omega
  obtain⟨ga,ca,e,b1,v⟩:=zE HS.u hlt;cases e;obtain⟨g,y⟩ : ∃ g,g=gs x:=⟨_,rfl⟩;have d:=v wr (G.block ga b1);rw[<-y]at d;have d0:=d 0 (by omega);have d1:=d 1 (by omega);have d2:=d 2 (by omega);have d3:=d 3 (by omega);unfold wd at d0 d1 d2 d3;rw[Nat.add_zero]at d0;have b2:Fit g:=by rw[y];exact HG.u x hlt
  obtain⟨X,hX⟩ : ∃ X,X=wr.alloc (.cells #[.int .u64 (g 0:Nat),.int .u64 (g 1:Nat),.int .u64 (g 2:Nat),.int .u64 (g 3:Nat)] 88):=⟨_,rfl⟩;have H:nN N1 W1 X (.slice sa m sc) (.slice pa m pc) m m ds ps ks:=hW.below (by rw[hX];exact ai _ _);have hE:X.rowIs wr.heap.size 88 4 (wd g):=by
   rw[hX];refine⟨_,(au wr _).new,rfl,fun i hi=>?_⟩
   match i,hi with
   | 0,_=>rfl
   | 1,_=>rfl
   | 2,_=>rfl
   | 3,_=>rfl
  have n0:(wr.alloc (.cells #[.int .u64 (g 0:Nat),.int .u64 (g 1:Nat),.int .u64 (g 2:Nat),.int .u64 (g 3:Nat)] 88)).cell? ⟨N1+2,0,none⟩=some (.map (some (N1+1))):=by rw[<-hX];exact World.news_of_block H.nb 0 _ rfl
  have bt:=hD.le;have a6:=xX (N1+1) g ks X H.num b2 (by rw[hD.len];omega);have h9:fZ (gs x)=.agg #[.int .u64 (g 0:Nat),.int .u64 (g 1:Nat),.int .u64 (g 2:Nat),.int .u64 (g 3:Nat)]:=by rw[<-y];rfl
  have a7:Hi (Calls prog 46 #[.agg #[.map (some (N1+1))],.agg #[.int .u64 (g 0:Nat),.int .u64 (g 1:Nat),.int .u64 (g 2:Nat),.int .u64 (g 3:Nat)]] X fun e w'=>∃ i ks' f,e=.returned (.tuple #[.int .i64 (i:Nat),.bool f])/\lB ks (fZ (gs x)) ks' i f/\ba 88 w' (N1+1) ks'/\aR (dD X (N1+1)) X w'):=by
   rw[h9];exact a6
  have HX:=ae hX;have S:=ae H;have HD:=ae hD;have HE:=ae hE;have b3:=ae y;have bo:=hW.sz;have bv:=hE.lt;clear hW hD v d hX H hE a6 y G h9
  go_wp2_with fail;rw[<-HX.u];refine a7.u.mono ?_;rintro e w3 ⟨i,ks',fl,rfl,I,T,J⟩;have l:=S.u.num' T J;have n:=HE.u.of_block (J.block wr.heap.size (by rintro(q|q)<;>omega));clear n0 HX a7;cases fl with
  | false =>
   obtain⟨z,r⟩:=HD.u.old I;obtain⟨gp,cp,M,F,e,h,hM,hF,a⟩:=l.puts z;cases e;have bq:(i:Int)<(m:Int):=by omega
   have HJ:=ae (uG gp (i*8) M x 102 F (ps i) w3 (HD.u.fp i z) (by omega) h hF (by omega));have B:=ae a;have U:=ae r;clear I T J l n r h hF a HD HE S
   go_wp2_with fail;refine HJ.u.mono ?_;rintro e w4 ⟨rfl,a8,a9⟩;have b4:=ae (B.u w4 _ a8 a9);clear a8 a9 HJ B;go_wp2
   go_roundw
   case rel=>exact⟨x+1,m,ds,_,ks',by omega,by go_num,b4.u,U.u⟩
   simp[intOf];omega
  | true =>
   have ab:Fit (gs x):=HG.u x hlt;obtain⟨z,r⟩:=HD.u.new ab I;rw[<-b3.u]at r;have x0:=n.cell (i:=0) (by omega);have x1:=n.cell (i:=1) (by omega);have x2:=n.cell (i:=2) (by omega);have x3:=n.cell (i:=3) (by omega);unfold wd at x0 x1 x2 x3;obtain⟨i0,b5,b6,C,j⟩:=info_parts Tryz.zinBS;obtain⟨j0,b7,b8,b9,bb⟩:=info_parts Tryz.zinPS;have ad:=ae l.so;have br:=l.sz;have U:=ae r;have bs:m<=512:=by omega
   have af:Hi (∀ (WA w7:World) (gg cap:Nat),w7.ownsRow (N1+3) 88 4 (.slice (some ⟨gg,0,none⟩) (m+1) cap) (m+1) (be 4 m ds++[wd g 0,wd g 1,wd g 2,wd g 3])->WA.grownBy w7 (Value.slice sa m sc).ownBlock->((Value.slice sa m sc).ownBlock=some gg∨gg=w3.heap.size+1)->aK w3 WA (.cells #[wd g 0,wd g 1,wd g 2,wd g 3] 88)->nN N1 W1 w7 (.slice (some ⟨gg,0,none⟩) (m+1) cap) (.slice pa m pc) (m+1) m (dQ ds m g) ps ks'):=fun WA w7 gg cap r1 r2 r3 hP=>by
    obtain⟨q1,q2⟩:=wN (x:=g) hP r1 r2;exact l.pushS q1 q2 (r3.imp id (fun q=>by omega))
   have ag:=z.symm;subst ag;have al:Hi (∀ (w7 WA w8:World) (sv':Value) (gg cap:Nat),nN N1 W1 w7 sv' (.slice pa m pc) (m+1) m (dQ ds m g) ps ks'->w8.ownsRow (N1+3) 102 8 (.slice (some ⟨gg,0,none⟩) (m+1) cap) (m+1) (be 8 m ps++[wd (fun _=>0) 0,wd (fun _=>0) 1,wd (fun _=>0) 2,wd (fun _=>0) 3,wd (fun _=>0) 4,wd (fun _=>0) 5,wd (fun _=>0) 6,wd (fun _=>0) 7])->WA.grownBy w8 (Value.slice pa m pc).ownBlock->((Value.slice pa m pc).ownBlock=some gg∨gg=w7.heap.size+1)->aK w7 WA (.cells #[wd (fun _=>0) 0,wd (fun _=>0) 1,wd (fun _=>0) 2,wd (fun _=>0) 3,wd (fun _=>0) 4,wd (fun _=>0) 5,wd (fun _=>0) 6,wd (fun _=>0) 7] 102)->nN N1 W1 w8 sv' (.slice (some ⟨gg,0,none⟩) (m+1) cap) (m+1) (m+1) (dQ ds m g) (dQ ps m (fun _=>0)) ks'):=fun w7 WA w8 sv' gg cap h7 r1 r2 r3 hP=>by
    obtain⟨q1,q2⟩:=oK (x:=fun _=>0) h7.po hP r1 r2;exact h7.pushP q1 q2 (r3.imp id (fun q=>by omega))
   clear I T J l n r HD HE S z
   go_wp2_with (first
    | (at_builtin;refine wpList_append_lies _ rfl (.tmp 32) (.tmp 34) 100 rfl (N1+3) 88 i0 (.agg #[.int .u64 0,.int .u64 0,.int .u64 0,.int .u64 0]) 4 32 underlying100 b5 b6 C j rfl (by decide) (.slice sa m sc) m (be 4 m ds) (by first|(simp[Act.eval];done)|(simp[Act.eval,Act.put];done)) (by refine aK.own (w:=w3) (o:=.cells #[wd g 0,wd g 1,wd g 2,wd g 3] 88) ?_ ad.u;exact⟨rfl,rfl,rfl,rfl⟩) ⟨w3.heap.size,0,none⟩ 1 1 [wd g 0,wd g 1,wd g 2,wd g 3] (by first|(simp[Act.eval];done)|(simp[Act.eval,Act.put];done)) rfl (by refine aK.news (w:=w3) (cs:=#[wd g 0,wd g 1,wd g 2,wd g 3]) (t:=88) ?_;exact⟨rfl,rfl,rfl,rfl⟩) (by intro u hu;simp only[List.mem_cons,List.not_mem_nil,or_false]at hu;rcases hu with rfl|rfl|rfl|rfl<;>rfl) (by decide) (by unfold maxLen;omega) (by omega) (by show N1+3<=(World.alloc _ _).heap.size;rw[ah];omega) (w3.heap.size+1) (ah w3 _) (fun gg cap w7 r1 r2 r3 r4=>?_);have h7:=ae (af.u _ w7 gg cap r1 r2 r3 (by exact⟨rfl,rfl,rfl,rfl⟩));clear r1 r2 r3 r4 x0 x1 x2 x3)
    | (at_builtin;refine wpList_append_lies _ rfl (.tmp 36) (.tmp 38) 52 rfl (N1+3) 102 j0 (.agg #[.int .u64 0,.int .u64 0,.int .u64 0,.int .u64 0,.int .u64 0,.int .u64 0,.int .u64 0,.int .u64 0]) 8 64 underlying52 b7 b8 b9 bb rfl (by decide) (.slice pa m pc) m (be 8 m ps) (by first|(simp[Act.eval];done)|(simp[Act.eval,Act.put];done)) (by refine aK.own (w:=w7) (o:=.cells #[wd (fun _=>0) 0,wd (fun _=>0) 1,wd (fun _=>0) 2,wd (fun _=>0) 3,wd (fun _=>0) 4,wd (fun _=>0) 5,wd (fun _=>0) 6,wd (fun _=>0) 7] 102) ?_ h7.u.po;exact⟨rfl,rfl,rfl,rfl⟩) ⟨w7.heap.size,0,none⟩ 1 1 [wd (fun _=>0) 0,wd (fun _=>0) 1,wd (fun _=>0) 2,wd (fun _=>0) 3,wd (fun _=>0) 4,wd (fun _=>0) 5,wd (fun _=>0) 6,wd (fun _=>0) 7] (by first|(simp[Act.eval];done)|(simp[Act.eval,Act.put];done)) rfl (by refine aK.news (w:=w7) (cs:=#[wd (fun _=>0) 0,wd (fun _=>0) 1,wd (fun _=>0) 2,wd (fun _=>0) 3,wd (fun _=>0) 4,wd (fun _=>0) 5,wd (fun _=>0) 6,wd (fun _=>0) 7]) (t:=102) ?_;exact⟨rfl,rfl,rfl,rfl⟩) (by intro u hu;simp only[List.mem_cons,List.not_mem_nil,or_false]at hu;rcases hu with rfl|rfl|rfl|rfl|rfl|rfl|rfl|rfl<;>rfl) (by decide) (by unfold maxLen;omega) (by omega) (by have:=h7.u.sz;show N1+3<=(World.alloc _ _).heap.size;rw[ah];omega) (w7.heap.size+1) (ah w7 _) (fun gg2 cap2 w8 r1 r2 r3 r4=>?_);have h8:=ae (al.u w7 _ w8 _ gg2 cap2 h7.u r1 r2 r3 (by exact⟨rfl,rfl,rfl,rfl⟩));clear r1 r2 r3 r4;have bx:(m:Int)<(m:Int)+1:=(by omega))|fail)
   obtain⟨gp,cp,M,F,e,h,hM,hF,a⟩:=h8.u.puts (Nat.lt_succ_self m);cases e;have HJ:=ae (uG _ (m*8) M x 102 F (dQ ps m (fun _=>0) m) w8 (by unfold dQ;rw[if_pos rfl];exact vg) (by omega) h hF (by omega));have B:=ae a;clear h hF a;refine HJ.u.mono ?_;rintro e w9 ⟨rfl,an,L⟩;have V:=B.u w9 _ an L;rw[show dQ ps m (fun _=>0) m=fun _=>0 by unfold dQ;rw[if_pos rfl]]at V;have bc:=ae V;clear an L HJ B V h7 h8 af al ad;go_wp2
   go_roundw
   case rel=>exact⟨x+1,m+1,_,_,ks',by omega,by go_num,bc.u,U.u⟩
   simp[intOf];omega
 obtain rfl:x=N:=by omega
 have E:=b0.u;have c:=a0.u;have O:W1.rowIs (w.heap.size+1) 3 256 (fun _=>.int .i64 0):=by
  have h1:=World.rowIs_made (w.alloc (.cells #[.pointer none,.slice none 0 0,.slice none 0 0] 54)) (.int .i64 0) 256 3;rw[ah]at h1;rw[c];exact h1.alloc _
 have ao:fR W1 (w.heap.size+2) A (.slice (some ⟨w.heap.size+1,0,none⟩) 256 256) (.slice none 0 0):=by
  have h1:=(au ((w.alloc (.cells #[.pointer none,.slice none 0 0,.slice none 0 0] 54)).alloc (.cells (madeCells #[.int .i64 0] 256) 3)) (.cells #[.pointer (some ⟨A,0,none⟩),.slice (some ⟨w.heap.size+1,0,none⟩) 256 256,.slice none 0 0] 54)).new;rw[ah,ah,<-c]at h1;exact h1
 have ap:W1.heap[w.heap.size]?=some (.cells #[.pointer none,.slice none 0 0,.slice none 0 0] 54 (0,0)):=by
  have h1:=(au w (.cells #[.pointer none,.slice none 0 0,.slice none 0 0] 54)).new;have h2:=aH (w.alloc (.cells #[.pointer none,.slice none 0 0,.slice none 0 0] 54)) (.cells (madeCells #[.int .i64 0] 256) 3) (.cells #[.pointer (some ⟨A,0,none⟩),.slice (some ⟨w.heap.size+1,0,none⟩) 256 256,.slice none 0 0] 54);rw[<-c,ah]at h2;exact(h2.block _ (Nat.lt_succ_self _)).trans h1
 have bz:=hW.sz;have aq:=qi (w.heap.size+1+1) A (w.heap.size+1) m (.slice sa m sc) (.slice pa m pc) ds ps wr (ao.keep (hW.fr.block _ (by omega))) (O.of_block (hW.fr.block _ (by omega))) (by omega) (by have:=hD.le;omega) (aS hW.so (Nat.zero_le _)) (aS hW.po (Nat.zero_le _)) hD.fd hD.fp (fun q hq=>by have:=(hW.so.lt q hq).1;exact⟨by omega,by omega⟩) (fun q hq=>by have:=(hW.po.lt q hq).1;exact⟨by omega,by omega⟩);have ar:=ae aq;have HR:Hi (wr.heap[w.heap.size]?=_):=(hW.fr.block _ (by omega)).trans ap;have bd:=ae G;have HD:=ae hD;have c0:w.heap.size<wr.heap.size:=by omega
 clear aq hW hD G ap ao O c E
 go_wp2_with fail;refine ar.u.mono ?_;rintro e w3 ⟨mm,K,hs,hv,ks9,rfl,b⟩;have HA:Hi (w3.heap[w.heap.size+1+1]?=some (.cells #[.pointer (some ⟨A,0,none⟩),.slice (some ⟨w.heap.size+1,0,none⟩) 256 256,hv] 54 (0,0))):=b.p.box;have HZ:Hi (w3.heap[w.heap.size]?=some (.cells #[.pointer none,.slice none 0 0,.slice none 0 0] 54 (0,0))):=(b.p.fr.block _ (by rintro(q|q|q)<;>omega)).trans HR.u;have bf:=ae b;have bi:hv.oneCell'=true:=by
  obtain⟨a1,a2,rfl⟩:=aj b.p.hol
  rfl
 clear b ar HR
 go_wp2_with (first
  | (refine wpList_load_row rfl 54 (.tmp 3) rfl (w.heap.size+1+1) (by first|(simp[Act.eval];done)|(simp[Act.eval,Act.put];done)) 54 _ _ _ HA.u underlying54 rfl (by kernel_rfl) ?_)
  | (refine wpList_store_row rfl 54 (.tmp 2) (.tmp 49) rfl (w.heap.size) #[.pointer (some ⟨A,0,none⟩),.slice (some ⟨w.heap.size+1,0,none⟩) 256 256,hv] (by first|(simp[Act.eval];done)|(simp[Act.eval,Act.put];done)) (by first|(simp[Act.eval];done)|(simp[Act.eval,Act.put];done)) 54 _ HZ.u (by kernel_rfl) rfl (FR _ _ hv bi) ?_))
 refine bodyPost_ret (DH (setRow_heap _ _ _ _ _ _ HZ.u) rfl _ rfl (by kernel_rfl)) rfl ?_;have b:=bf.u;have hk:∀ k,k≠w.heap.size->(w3.setRow w.heap.size #[.pointer (some ⟨A,0,none⟩),.slice (some ⟨w.heap.size+1,0,none⟩) 256 256,hv]).heap[k]?=w3.heap[k]? :=fun k hk=>setRow_other _ _ k _ hk
 refine⟨⟨w.heap.size+1,mm,K,hs,hv,ks9,fun x=>bY ds ps x m,rfl,b.p.row.of_block (hk _ (by omega)),aS (ak b.p.hol (fun q hq=>hk q (by have:=(b.p.hol.lt q hq).1;omega))) (Nat.zero_le _),b.cls,fun x hx=>⟨ic HD.u.fp,fun i=>HD.u.holds x hx i⟩⟩,?_⟩;have h1:Below w.heap.size w w3:=bd.u.trans (b.p.fr.below (m:=w.heap.size) (fun k hk=>by rintro(q|q|q)<;>omega));exact h1.trans (cd.bel2 ⟨rfl,rfl,rfl,by simp[World.setRow],fun k hk=>setRow_other _ _ k _ hk⟩ lR)
def Gp(U:Value)(L:List El):Prop:=∃ a ln ss c,dR U (aO L) a ln ss/\cu L (aO L) a ln ss/\ig a (aO L)/\aM L c
theorem yt:dN Gp:=by
 refine⟨?_,?_,?_,?_,?_⟩
 ·exact⟨⟨true,[],[]⟩,[],[],1,dR.e,cu.e,by constructor<;>simp,aM.leaf (Or.inl rfl)⟩
 ·intro xs g hc hw;exact⟨⟨false,[0],[0]⟩,[],[xs],1,dR.s hw hc,cu.s xs,by constructor<;>simp[aO],aM.leaf (Or.inr rfl)⟩
 ·rintro u v L R ⟨a,la,sa,c,u1,u4,u5,u7⟩ ⟨b,lb,sb,d,v1,v4,v5,v7⟩;have e:=iG L R 2 (by decide);have h1:=dR.cat u1 v1 u5;have h4:=u4.cat v4;have h5:ig (bV a (b.sh (aO L))) (aO L+aO R):=(u5.mono (Nat.le_add_right _ _)).cat (v5.sh (aO L));rw[<-e]at h1 h4 h5;exact⟨_,_,_,_,h1,h4,h5,aM.bin u7 v7 (Or.inl rfl)⟩
 ·rintro u v L R ⟨a,la,sa,c,u1,u4,u5,u7⟩ ⟨b,lb,sb,d,v1,v4,v5,v7⟩;have e:=iG L R 3 (by decide);have h1:=dR.alt u1 v1 u5;have h4:=u4.alt v4;have h5:ig (cP a (b.sh (aO L))) (aO L+aO R):=(u5.mono (Nat.le_add_right _ _)).alt (v5.sh (aO L));rw[<-e]at h1 h4 h5;exact⟨_,_,_,_,h1,h4,h5,aM.bin u7 v7 (Or.inr rfl)⟩
 rintro u L mn mx ⟨a,la,sa,c,u1,u4,u5,u7⟩ o2 o3 o4;have e:aO (L++[⟨4,[],mn,mx⟩])=aO L:=by rw[eo];simp[aO]
 have h1:=dR.rep u1 u5 mn mx;have h4:=u4.rep mn mx;have h5:ig (dL a mn) (aO L):=u5;rw[<-e]at h1 h4 h5;exact⟨_,_,_,_,h1,h4,h5,aM.rep u7 rfl o2 o4⟩
theorem It.sh0(a:It):a.sh 0=a:=by unfold It.sh;rw[xB,xB]
theorem EY(ln:List Lk):cT 0 ln=ln:=by unfold cT;simp
theorem oC.rd{O:Nat->Prop}{A N:Nat}{w:World}{S:List (List Int)}{K:List Lk}{b:Bool}{f l:Nat->Nat}(h:oC O A w N S K b f l):∃ sv gs fv fs,w.cell? ⟨A,0,none⟩=some sv/\Ec w sv N gs/\S.length=N/\(∀ i,i<N->du (S[i]?.getD []) (gs i))/\nz w A N fv fs b f l/\(∀ i,Fit (fs i))/\∀ i j,Bt (fs i) j=ce K i j:=by
 obtain⟨⟨sv,fv,gs,hs,hM,h2,h3,h4,h5,-⟩,F2,a,hE⟩:=h;obtain⟨F,hF,h0,h1⟩:=hM.box;refine⟨sv,gs,fv,hs,by rw[hF.cell (by omega),h0],hM.so,h2,fun i hi=>(h3 i hi).2,⟨⟨F2,a,?_,hE⟩,hM.fo⟩,h4,h5⟩;have q1:=hF.cell (i:=1) (by omega);have q2:=a.cell (i:=1) (by omega);rw[q1]at q2;rw[<-Option.some.inj q2,h1]
theorem xP{w w' W:World}{A N:Nat}{fv:Value}{fs gs:Nat->Nat->Nat}{b:Bool}{f l:Nat->Nat}{gc mm:Nat}{K:Nat->Nat}{hs H:Nat->Nat->Nat}{hv:Value}{ks:List Value}(hA:nz w A N fv fs b f l)(hb:Below w.heap.size w w')(hW:W=w'.alloc (.cells #[.pointer (some ⟨A,0,none⟩),.slice (some ⟨gc,0,none⟩) 256 256,hv] 54))
  (hrow:w'.rowIs gc 3 256 (fun x=>.int .i64 (K x:Nat)))(hhol:AK w' hv mm hs)(hcl:tB H 256 mm K hs ks)(hH:∀ x,x<256->Fit (H x)/\∀ i,Bt (H x) i=true↔(i<N/\Bt (gs i) x=true))(hf:Fit f)(hl:Fit l)(hfs:∀ i,Fit (fs i)):Ef W w'.heap.size A N mm gc hv fv K hs fs b f l:=by
 subst hW;have a:=ai w' (.cells #[.pointer (some ⟨A,0,none⟩),.slice (some ⟨gc,0,none⟩) 256 256,hv] 54);refine⟨(au w' _).new,(hA.keep hb lR).keep a lR,hrow.alloc _,aG hhol a lR,fun x hx=>(hcl.cl x hx).1,fun j hj=>?_,hf,hl,hfs,fun j hj i hi=>?_⟩
 ·obtain⟨x,h1,h2⟩:=hcl.src j hj;rw[h2];exact(hH x h1).1
 obtain⟨x,h1,h2⟩:=hcl.src j hj;rw[h2]at hi;exact(((hH x h1).2 i).1 hi).1
def fK(N:Nat)(p:(Nat->Nat)×Bool):List Nat×Bool:=(gj p.1 N,p.2)
def xj(N:Nat)(g:Nat->Nat):Prop:=Fit g/\∀ i,Bt g i=true->i<N
theorem BD{g h:Nat->Nat}(hg:Fit g)(hh:Fit h)(e:∀ i,i<512->Bt g i=Bt h i)(k:Nat)(hk:k<8):g k=h k:=by
 apply Nat.eq_of_testBit_eq
 intro j
 by_cases hj:j<64
 ·have:=e (k*64+j) (by omega);unfold Bt at this;rw[show(k*64+j) / 64=k by omega,show(k*64+j)%64=j by omega]at this;exact this
 rw[Nat.testBit_lt_two_pow (Nat.lt_of_lt_of_le (hg k) (by
  show(2:Nat) ^ 64<=2 ^ j;exact Nat.pow_le_pow_right (by omega) (by omega))),Nat.testBit_lt_two_pow (Nat.lt_of_lt_of_le (hh k) (by
  show(2:Nat) ^ 64<=2 ^ j;exact Nat.pow_le_pow_right (by omega) (by omega)))]
theorem Ff{g h:Nat->Nat}{e e':Bool}(hw:∀ k,k<8->g k=h k)(he:e=e'):pd g e=pd h e':=by
 unfold pd;rw[hw 0 (by omega),hw 1 (by omega),hw 2 (by omega),hw 3 (by omega),hw 4 (by omega),hw 5 (by omega),hw 6 (by omega),hw 7 (by omega),he]
theorem CK{g h:Nat->Nat}{e e':Bool}(hp:pd g e=pd h e'):(∀ k,k<8->g k=h k)/\e=e':=by
 unfold pd at hp;simp only[Value.agg.injEq,Array.mk.injEq,List.cons.injEq,Value.int.injEq,Value.bool.injEq,true_and,and_true]at hp;obtain⟨a0,a1,a2,a3,a4,a5,a6,a7,a8⟩:=hp;refine⟨fun k hk=>?_,a8⟩
 match k,hk with
 | 0,_=>exact Int.ofNat.inj a0
 | 1,_=>exact Int.ofNat.inj a1
 | 2,_=>exact Int.ofNat.inj a2
 | 3,_=>exact Int.ofNat.inj a3
 | 4,_=>exact Int.ofNat.inj a4
 | 5,_=>exact Int.ofNat.inj a5
 | 6,_=>exact Int.ofNat.inj a6
 | 7,_=>exact Int.ofNat.inj a7
theorem ej(g:Nat->Nat)(N i:Nat):i∈gj g N↔i<N/\Bt g i=true:=by
 unfold gj;rw[List.mem_filter,List.mem_range]
theorem uT{N:Nat}(hN:N<=512){g h:Nat->Nat}{e e':Bool}(hg:xj N g)(hh:xj N h):pd g e=pd h e'↔fK N (g,e)=fK N (h,e'):=by
 constructor
 ·intro hp;obtain⟨h1,h2⟩:=CK hp;have:gj g N=gj h N:=by
   unfold gj;refine List.filter_congr fun i hi=>?_
   have:=List.mem_range.1 hi;unfold Bt;rw[h1 (i / 64) (by omega)]
  simp only[fK,this,h2]
 intro hp;simp only[fK,Prod.mk.injEq]at hp;refine Ff (BD hg.1 hh.1 fun i hi=>?_) hp.2;rw[Bool.eq_iff_iff]
 constructor
 ·intro k;have:=(ej g N i).2 ⟨hg.2 i k,k⟩;rw[hp.1]at this;exact((ej h N i).1 this).2
 intro k;have:=(ej h N i).2 ⟨hh.2 i k,k⟩;rw[<-hp.1]at this;exact((ej g N i).1 this).2
theorem yy{N:Nat}(hN:N<=512){hold fol:Nat->Nat->Bool}{last:Nat->Bool}{fs:Nat->Nat->Nat}{l Q hc:Nat->Nat}{e0:Bool}{b:Nat}(hQ:xj N Q)(hh:∀ i,Bt hc i=hold i b)(hf:∀ i j,Bt (fs i) j=fol i j)(hl:∀ i,Bt l i=last i) :
  fK N (nE fs (gj (cC Q hc) 512),!(xr (cC (cC Q hc) l)))=bN N hold fol last (fK N (Q,e0)) b:=by
 simp only[fK,bN,Prod.mk.injEq];refine⟨?_,?_⟩
 ·show(List.range N).filter _=_;refine List.filter_congr fun j _=>?_
  rw[Bool.eq_iff_iff,uf,List.any_eq_true]
  constructor
  ·rintro⟨k,hk,hb⟩;obtain⟨-,hk⟩:=(ej _ _ _).1 hk;rw[gi,Bool.and_eq_true]at hk;exact⟨k,(ej _ _ _).2 ⟨hQ.2 k hk.1,hk.1⟩,by rw[<-hh,<-hf,hk.2,hb];rfl⟩
  rintro⟨k,hk,hb⟩;obtain⟨h1,h2⟩:=(ej _ _ _).1 hk;rw[Bool.and_eq_true,<-hh,<-hf]at hb;exact⟨k,(ej _ _ _).2 ⟨by omega,by rw[gi,h2,hb.1];rfl⟩,hb.2⟩
 rw[Bool.eq_iff_iff,rj (jp (jp hQ.1)),List.any_eq_true]
 constructor
 ·rintro⟨k,-,hk⟩;rw[gi,gi,Bool.and_eq_true,Bool.and_eq_true]at hk;exact⟨k,(ej _ _ _).2 ⟨hQ.2 k hk.1.1,hk.1.1⟩,by rw[<-hh,<-hl,hk.1.2,hk.2];rfl⟩
 rintro⟨k,hk,hb⟩;obtain⟨h1,h2⟩:=(ej _ _ _).1 hk;rw[Bool.and_eq_true,<-hh,<-hl]at hb;exact⟨k,by omega,by rw[gi,gi,h2,hb.1,hb.2];rfl⟩
theorem xM{N:Nat}{fs:Nat->Nat->Nat}{Y:List Nat}(hfs:∀ i,Fit (fs i))(hfN:∀ i j,Bt (fs i) j=true->j<N):xj N (nE fs Y):=⟨qp hfs Y,fun j hj=>by
 obtain⟨k,-,hk⟩:=(uf Y j).1 hj;exact hfN k j hk⟩
theorem tB.num1{H hs:Nat->Nat->Nat}{mm:Nat}{K:Nat->Nat}{ks:List Value}(h:tB H 256 mm K hs ks):∃ rep,fM 256 mm K rep:=by
 have key:∀ j,∃ x,j<mm->x<256/\K x=j/\∀ x',x'<x->K x'<j:=fun j=>by
  by_cases hj:j<mm
  ·obtain⟨x,hx⟩:=h.fo j hj;exact⟨x,fun _=>hx⟩
  exact⟨0,fun q=>absurd q hj⟩
 obtain⟨rep,a⟩:=Classical.axiomOfChoice key;refine⟨rep,fun s hs=>(h.cl s hs).1,fun j hj=>⟨(a j hj).1,(a j hj).2.1⟩,fun s hs=>?_,fun i j hij hj=>?_⟩
 ·apply Nat.le_of_not_lt
  intro hlt;have:=(a (K s) (h.cl s hs).1).2.2 s hlt;omega
 obtain⟨i1,i2,i3⟩:=a i (by omega);obtain⟨j1,j2,j3⟩:=a j hj;rcases Nat.lt_trichotomy (rep i) (rep j) with q|q|q
 ·exact q
 ·rw[q,j2]at i2;omega
 have:=i3 _ q;omega
end Go.Proofs.YtpmcjimgkabpeaaGreatDoor
