import Derived.Test.YtpmcjimgkabpeaaGreatDoorPk13
namespace Go.Proofs.YtpmcjimgkabpeaaGreatDoor
open Go.RowKit Go.Proofs.Tryz
set_option maxHeartbeats 16000000
set_option maxRecDepth 100000
def iO(nx:Nat->Nat->Nat)(m s c:Nat):List Nat:=(List.range m).filter (fun p=>nx p c=s)
theorem vO(nx:Nat->Nat->Nat)(s c:Nat):iO nx 0 s c=[]:=rfl
theorem wu(nx:Nat->Nat->Nat)(m s c:Nat):iO nx (m+1) s c=if nx m c=s then iO nx m s c++[m] else iO nx m s c:=by
 unfold iO;rw[List.range_succ,List.filter_append]
 by_cases h:nx m c=s<;>simp[h]
theorem qX{nx:Nat->Nat->Nat}{m s c p:Nat}:p∈iO nx m s c↔p<m/\nx p c=s:=by simp[iO]
theorem tJ(nx:Nat->Nat->Nat)(m s c:Nat):(iO nx m s c).Nodup:=List.nodup_range.filter _
theorem mJ(nx:Nat->Nat->Nat)(m s c:Nat):(iO nx m s c).length<=m:=by
 have:=List.length_filter_le (fun p=>decide (nx p c=s)) (List.range m);rw[List.length_range]at this;exact this
def jf(nx:Nat->Nat->Nat)(k q c i:Nat):List Nat:=iO nx (if i%k<c then q+1 else q) (i / k) (i%k)
theorem lY(nx:Nat->Nat->Nat)(k q i:Nat):jf nx k q 0 i=iO nx q (i / k) (i%k):=by simp[jf]
theorem yC(nx:Nat->Nat->Nat){k:Nat}(hk:0<k)(q i:Nat):jf nx k q k i=jf nx k (q+1) 0 i:=by
 unfold jf;rw[if_pos (Nat.mod_lt _ hk),if_neg (Nat.not_lt_zero _)]
theorem wO(nx:Nat->Nat->Nat){k q c:Nat}(hc:c<k)(i:Nat):jf nx k q (c+1) i=if i=nx q c*k+c then jf nx k q c i++[q] else jf nx k q c i:=by
 unfold jf
 by_cases h:i%k=c
 ·rw[h,if_pos (Nat.lt_succ_self c),if_neg (Nat.lt_irrefl c),wu]
  by_cases e:i=nx q c*k+c
  ·have:i / k=nx q c:=by rw[e,Nat.add_comm,Nat.add_mul_div_right _ _ (by omega),Nat.div_eq_of_lt hc,Nat.zero_add]
   rw[if_pos e,if_pos this.symm]
  have:¬ nx q c=i / k:=fun e2=>e (by rw[e2,<-h,Nat.mul_comm];exact(Nat.div_add_mod i k).symm)
  rw[if_neg e,if_neg this]
 have e:¬ i=nx q c*k+c:=fun e=>h (by rw[e,Nat.add_comm,Nat.add_mul_mod_self_right,Nat.mod_eq_of_lt hc])
 rw[if_neg e]
 by_cases h2:i%k<c
 ·rw[if_pos h2,if_pos (by omega)]
 rw[if_neg h2,if_neg (by omega)]
theorem xQ(nx:Nat->Nat->Nat)(k q c i:Nat):(jf nx k q c i).length<=q+1:=by
 unfold jf
 split
 ·exact mJ _ _ _ _
 exact Nat.le_succ_of_le (mJ _ _ _ _)
structure fP (lo B L:Nat) (w:World) (vs:Nat->Value) (ls:Nat->List Nat):Prop where
 row:w.rowIs B 30 L vs
 lt:B<lo
 own:∀ i,i<L->w.ownsRow lo 3 1 (vs i) (ls i).length ((ls i).map (fun x:Nat=>mI (x:Int)))
 ap:∀ i j,i<L->j<L->i≠j->∀ q,(vs i).ownBlock=some q->(vs j).ownBlock≠some q
theorem fP.keep{lo B L:Nat}{w w':World}{vs:Nat->Value}{ls:Nat->List Nat}(h:fP lo B L w vs ls)(hk:∀ k,k=B∨(lo<=k/\k<w.heap.size)->w'.heap[k]?=w.heap[k]?):fP lo B L w' vs ls:=
 ⟨h.row.of_block (hk B (.inl rfl)),h.lt,fun i hi=>ak (h.own i hi) (fun q hq=>hk q (.inr ((h.own i hi).lt q hq))),h.ap⟩
theorem fP.congr{lo B L:Nat}{w:World}{vs:Nat->Value}{ls ls':Nat->List Nat}(h:fP lo B L w vs ls)(e:∀ i,i<L->ls i=ls' i):fP lo B L w vs ls':=
 ⟨h.row,h.lt,fun i hi=>by rw[<-e i hi];exact h.own i hi,h.ap⟩
theorem fP.push{lo B L:Nat}{w w2:World}{vs:Nat->Value}{ls:Nat->List Nat}{i x:Nat}{v':Value}{o:Obj}(h:fP lo B L w vs ls)(hi:i<L)
  (r1:w2.ownsRow lo 3 1 v' ((ls i).length+1) ((ls i).map (fun x:Nat=>mI (x:Int))++[.int .i64 (x:Nat)]))(r2:(w.alloc o).grownBy w2 (vs i).ownBlock)(r3:v'.ownBlock=(vs i).ownBlock∨v'.ownBlock=some (w.heap.size+1)) :
  w2.cell? ⟨B,i,none⟩=some (vs i)/\w2.frozen? ⟨B,i,none⟩=false/\fP lo B L (w2.setCell ⟨B,i,none⟩ v') (fun j=>if j=i then v' else vs j) (fun j=>if j=i then ls j++[x] else ls j)/\Below B w (w2.setCell ⟨B,i,none⟩ v'):=by
 have hB:=h.row.lt;have hl:=h.lt;have c:=r2.size;rw[ah]at c;have k2:∀ k,k<w.heap.size->(vs i).ownBlock≠some k->w2.heap[k]?=w.heap[k]? :=fun k hk hne=>(r2.block k (by rw[ah];omega) (fun e=>hne e.symm)).trans ((ai w o).block k hk)
 have nB:(vs i).ownBlock≠some B:=fun e=>by have:=((h.own i hi).lt B e).1;omega
 have hF:=h.row.of_block (k2 B hB nB);have ks:∀ k,k≠B->(w2.setCell ⟨B,i,none⟩ v').heap[k]?=w2.heap[k]? :=fun k hk=>Below.heap_setCell _ _ _ _ (by show k≠B;exact hk)
 refine⟨hF.cell hi,hF.frozen i,⟨hF.set i v',hl,fun j hj=>?_,fun a b ha hb hab q hq hq2=>?_⟩,⟨r2.os,r2.tape,r2.output,by rw[aJ];omega,fun k hk=>?_⟩⟩
 ·by_cases e:j=i
  ·subst e;simp only[if_true];rw[List.length_append,List.map_append];exact ak r1 (fun q hq=>ks q (by have:=(r1.lt q hq).1;omega))
  simp only[e,if_false];refine ak (h.own j hj) (fun q hq=>?_)
  have:=(h.own j hj).lt q hq;rw[ks q (by omega)];exact k2 q this.2 (fun e2=>h.ap i j hi hj (fun e3=>e e3.symm) q e2 hq)
 ·have old:∀ j,j<L->∀ q,(vs j).ownBlock=some q->q<w.heap.size:=fun j hj q hq=>((h.own j hj).lt q hq).2
  by_cases e1:a=i
  ·subst e1;have e2:¬ b=a:=fun e=>hab e.symm
   simp only[if_true,e2,if_false]at hq hq2;rcases r3 with e|e
   ·rw[e]at hq;exact h.ap a b ha hb hab q hq hq2
   rw[e]at hq;cases hq;have:=old b hb _ hq2;omega
  simp only[e1,if_false]at hq
  by_cases e2:b=i
  ·subst e2;simp only[if_true]at hq2;rcases r3 with e|e
   ·rw[e]at hq2;exact h.ap a b ha hb hab q hq hq2
   rw[e]at hq2;cases hq2;have:=old a ha _ hq;omega
  simp only[e2,if_false]at hq2;exact h.ap a b ha hb hab q hq hq2
 rw[ks k (by omega)];exact k2 k (by omega) (fun e=>by have:=((h.own i hi).lt k e).1;omega)
theorem Tryz.zinISl:(prog.info? 30).map (fun i=>(i.zero,i.size,i.bytes))=some (some (.slice none 0 0),1,24):=by kernel_rfl
def mN(x:Nat):Value:=mI (x:Int)
def jZ(w:World)(b off n k:Nat)(nx:Nat->Nat->Nat):Prop:=∀ q c,q<n->c<k->nx q c<n/\w.cell? ⟨b,off+(q*k+c),none⟩=some (.int .i64 (nx q c:Nat))
theorem fB{q c n k:Nat}(hq:q<n)(hc:c<k):q*k+c<n*k:=by
 have:(q+1)*k<=n*k:=Nat.mul_le_mul_right _ hq;rw[Nat.add_mul,Nat.one_mul]at this;omega
theorem eB{x k c L:Nat}(hL:L<=262144)(hat:x*k+c<L):∃ m t:Nat,((x:Nat):Int)*(k:Int)=(m:Int)/\t=x*k+c/\t<L/\wrap64 (m:Int)=m/\wrap64 ((m:Int)+(c:Nat))=(t:Int)/\(t:Int)<(L:Int):=by
 refine⟨x*k,x*k+c,(Int.natCast_mul ..).symm,rfl,hat,?_,?_,?_⟩
 ·exact xx (by omega) (by omega)
 ·rw[xx (by omega) (by omega)];omega
 omega
theorem nW(cl:Value)(aa:Option Addr)(b off cN ca n k:Nat)(nx:Nat->Nat->Nat)(w:World)(hn:1<=n/\n<=1024)(hk:1<=k/\k<=256)(hcN:n*k<=cN)(hb:b<w.heap.size)(hx:jZ w b off n k nx) :
  Calls prog 121 #[.agg #[cl,.int .i64 (k:Nat),.slice (some ⟨b,off,none⟩) (n*k) cN,.slice aa n ca]] w fun e w'=>∃ B,e=.returned (.slice (some ⟨B,0,none⟩) (n*k) (n*k))/\Below w.heap.size w w'/\w.heap.size<=B/\
   ∃ lo vs,fP lo B (n*k) w' vs (fun i=>iO nx n (i / k) (i%k)):=by
 obtain⟨i0,U,V,W,X⟩:=info_parts Tryz.zinInt;have Y:n*k<=1024*256:=Nat.mul_le_mul hn.2 hk.2;obtain⟨L,hL⟩ : ∃ L,L=n*k:=⟨_,rfl⟩;have Z:=run_make_row' (P:=prog) 73 30 (.slice none 0 0) 24 underlying73 Tryz.zinISl rfl .i64 .i64 L (by omega) (by omega);rw[<-hL]at hcN Y ⊢;have HL:=ae hL;have HX:=ae hx;obtain⟨W1,h⟩ : ∃ W1,W1=w.alloc (.cells #[cl,.int .i64 (k:Nat),.slice (some ⟨b,off,none⟩) L cN,.slice aa n ca] 33):=⟨_,rfl⟩;have D:aD W1 w.heap.size 33 cl (.int .i64 (k:Nat)) (.slice (some ⟨b,off,none⟩) L cN) (.slice aa n ca):=by rw[h];exact aD.new w _ _ _ _ _
 have C:W1.heap.size=w.heap.size+1:=by rw[h,ah]
 have I:Below w.heap.size w W1:=by rw[h];exact ai w _
 obtain⟨W2,d⟩ : ∃ W2,W2=W1.alloc (.cells (madeCells #[.slice none 0 0] L) 30):=⟨_,rfl⟩;have f:aD W2 w.heap.size 33 cl (.int .i64 (k:Nat)) (.slice (some ⟨b,off,none⟩) L cN) (.slice aa n ca):=by rw[d];exact D.alloc _
 have l:fP (w.heap.size+2) (w.heap.size+1) L W2 (fun _=>.slice none 0 0) (fun i=>jf nx k 0 0 i):=by
  refine⟨?_,by omega,fun i hi=>?_,fun i j _ _ _ q hq=>by cases hq⟩
  ·rw[d,<-C];exact World.rowIs_made W1 _ L _
  rw[lY,vO];exact World.ownsRow_nil _ _ _ _
 have o:Below w.heap.size w W2:=by rw[d];exact I.trans ((ai W1 _).mono (by omega))
 have a3:W2.heap.size=w.heap.size+2:=by rw[d,ah,C]
 obtain⟨e0,e1,e2,e3,-⟩:=D.facts;obtain⟨f0,f1,f2,f3,-⟩:=f.facts;have J:=ae h;have K:=ae d;have r:=ae f;have s:=ae l;have v:=ae o;clear hL hx h d D f l I o
 go_enter func121,ntmps121
 go_wp2_with fail;rw[<-J.u,<-K.u];clear J K e0 e1 e2 e3 f0 f1 f2 f3 Z
 go_loopw [15] (fun iv wr=>∃ (q:Nat) (vs:Nat->Value),q<=n/\iv=.int .i64 (q:Nat)/\fP (w.heap.size+2) (w.heap.size+1) L wr vs (fun i=>jf nx k q 0 i)/\aD wr w.heap.size 33 cl (.int .i64 (k:Nat)) (.slice (some ⟨b,off,none⟩) L cN) (.slice aa n ca)/\Below w.heap.size w wr) (fun iv _=>n-(intOf iv).toNat)
 case atStart=>exact⟨0,_,by omega,rfl,s.u,r.u,v.u⟩
 obtain⟨q,vs,hq,rfl,hS,hR,hB⟩:=hrel;obtain⟨w1,rfl⟩ : ∃ w1,w1=wr:=⟨_,rfl⟩;clear s r v
 by_cases hlt:q<n
 ·have M:(q:Int)<(n:Int):=by omega
  obtain⟨f0,f1,f2,f3,-⟩:=hR.facts;have N:(q+1)*k<=L:=by rw[HL.u];exact Nat.mul_le_mul_right _ hlt
  have E:=jS cl (.slice aa n ca) b off L cN k q w1 N (by omega) hcN (by omega) hk;obtain⟨rq,F⟩ : ∃ rq,rq=q*k:=⟨_,rfl⟩;rw[<-F]at E;have O:=ae E;have a0:=ae F;clear E F;have HS:=ae hS;have HR:=ae hR;have HB:=ae hB;have a1:=hS.row.lt;clear hS hR hB;clear N
  go_wp2_with fail;refine O.u.mono ?_;rintro e w2 ⟨rfl,z⟩;have l:=HS.u.keep (w':=w2) (fun k hk=>z.block k (by omega));have f:=HR.u.below z (by omega);have o:Below w.heap.size w w2:=HB.u.trans (z.mono HB.u.size);have s:=ae l;have r:=ae f;have v:=ae o;clear O HS HR HB z l f o f0 f1 f2 f3
  go_wp2_with fail
  go_loopw [22] (fun iv wx=>∃ (c:Nat) (vs:Nat->Value),c<=k/\iv=.int .i64 (c:Nat)/\fP (w.heap.size+2) (w.heap.size+1) L wx vs (fun i=>jf nx k q c i)/\aD wx w.heap.size 33 cl (.int .i64 (k:Nat)) (.slice (some ⟨b,off,none⟩) L cN) (.slice aa n ca)/\Below w.heap.size w wx) (fun iv _=>k-(intOf iv).toNat)
  case atStart=>exact⟨0,_,by omega,rfl,s.u,r.u,v.u⟩
  obtain⟨c,vs,hc,rfl,hS,hR,hB⟩:=hrel;clear s r v
  by_cases hcl:c<k
  ·have Q:(c:Int)<(k:Int):=by omega
   obtain⟨x1,x2⟩:=HX.u q c hlt hcl;have x3:wr.cell? ⟨b,off+rq+c,none⟩=some (.int .i64 (nx q c:Nat)):=by rw[a0.u,Nat.add_assoc,hB.cell (p:=⟨b,off+(q*k+c),none⟩) hb];exact x2
   obtain⟨f0,f1,f2,f3,-⟩:=hR.facts;have g:nx q c*k+c<L:=by rw[HL.u];exact fB x1 hcl
   obtain⟨m,t,m1,ht,g,m2,m3,m4⟩:=eB (by omega) g;have HT:=ae ht;obtain⟨y,hy⟩ : ∃ y,y=nx q c:=⟨_,rfl⟩;rw[<-hy]at m1 x1 x3;have m1':=m1;rw[Int.mul_comm]at m1';have HY:=ae hy;clear ht hy;have y0:=hS.row.cell (i:=t) g;have a:=hS.own t g;have HS:=ae hS;have HR:=ae hR;have HB:=ae hB;have R:=xQ nx k q c t;have a1:=hS.row.lt;obtain⟨oa,oc,e9⟩:=aj (hS.own t g);rw[e9]at y0 a;have G:=ae e9;obtain⟨sl,H⟩ : ∃ sl,sl=jf nx k q c t:=⟨_,rfl⟩;rw[<-H]at y0 a R;have A:=ae H;have S:=ae a;clear hS hR hB x2 f0 f2 f3 e9 a H
   go_wp2_with (at_builtin;refine wpList_append_own_at _ rfl _ _ 30 rfl (w.heap.size+2) 3 i0 (.int .i64 0) 1 8 underlying30 U V W X rfl (by decide) _ _ _ rfl (S.u.alloc _) ⟨wr.heap.size,0,none⟩ 1 1 [.int .i64 (q:Nat)] rfl rfl ?_ ?_ ?_ ?_ ?_ ?_)
   ·exact dJ (dG _ _ _)
   ·intro u hu;simp at hu;subst hu;rfl
   ·unfold maxLen;omega
   ·omega
   ·rw[ah];omega
   intro v' w3 r1 r2 _ r3;have h3:=HS.u.push (i:=t) (x:=q) g (by rw[<-A.u];exact r1) (by rw[G.u,<-A.u];exact r2) (by rw[G.u,<-A.u];exact r3);obtain⟨z1,z2,z3,z4⟩:=h3;obtain⟨va,vc,rfl⟩:=aj r1;have a2:=ae z3;have T:=ae z4;rw[G.u,<-A.u]at z1;clear r1 r2 r3 z3 z4 S y0 x3;go_wp2
   go_roundw
   case rel =>
    refine⟨c+1,_,by omega,by go_num,a2.u.congr (fun i hi=>?_),HR.u.below T.u (by omega),HB.u.trans (T.u.mono (by omega))⟩;rw[wO nx hcl i,<-HT.u]
   simp[intOf];omega
  have Q:¬ (c:Int)<(k:Int):=by omega
  obtain rfl:c=k:=by omega
  have HS:=ae hS;have HR:=ae hR;have HB:=ae hB;clear hS hR hB;go_wp2
  go_roundw
  case rel=>exact⟨q+1,_,by omega,by go_num,HS.u.congr (fun i _=>yC nx (by omega) q i),HR.u,HB.u⟩
  simp[intOf];omega
 have M:¬ (q:Int)<(n:Int):=by omega
 obtain rfl:q=n:=by omega
 have HS:=ae hS;have HB:=ae hB;clear hS hB;go_wp2;go_ret;exact⟨_,rfl,HB.u,by omega,_,_,HS.u.congr (fun i _=>lY nx k q i)⟩
structure rJ (A:Tb) (l:List Nat) (i c:Nat):Prop where
 nd:l.Nodup
 lt:∀ x∈l,x<A.n
 z:0∈l
 rc:∀ x∈l,A.Rch x
 cl:∀ j x,j<i->l[j]?=some x->∀ c',c'<A.k->A.nx x c'∈l
 cc:∀ x,l[i]?=some x->∀ c',c'<c->A.nx x c'∈l
theorem rJ.start{A:Tb}(hw:A.Wf):rJ A [0] 0 0:=⟨by simp,(fun x hx=>by rw[List.mem_singleton]at hx;rw[hx];exact hw.pos),.head _,(fun x hx=>by rw[List.mem_singleton]at hx;rw[hx];exact Tb.Rch.zero A),fun j x hj=>by omega,fun x _ c' hc=>by omega⟩
theorem rJ.old{A:Tb}{l:List Nat}{i c x:Nat}(h:rJ A l i c)(hx:l[i]?=some x)(hm:A.nx x c∈l):rJ A l i (c+1):=⟨h.nd,h.lt,h.z,h.rc,h.cl,fun y hy c' hc=>by
 rw[hx]at hy;cases hy
 by_cases e:c'=c
 ·rw[e];exact hm
 exact h.cc x hx c' (by omega)⟩
theorem rJ.new{A:Tb}{l:List Nat}{i c x:Nat}(h:rJ A l i c)(hw:A.Wf)(hf:A.Full)(hc:c<A.k)(hx:l[i]?=some x)(hm:A.nx x c ∉ l):rJ A (l++[A.nx x c]) i (c+1):=by
 have f:=(List.getElem?_eq_some_iff.1 hx).1;have d:=List.mem_of_getElem? hx;refine⟨?_,fun y hy=>?_,List.mem_append_left _ h.z,fun y hy=>?_,fun j y hj hy c' hc'=>?_,fun y hy c' hc'=>?_⟩
 ·rw[List.nodup_append];exact⟨h.nd,by simp,fun a ha b hb e=>by rw[List.mem_singleton]at hb;rw[<-hb,<-e]at hm;exact hm ha⟩
 ·rcases List.mem_append.1 hy with k|k
  ·exact h.lt y k
  rw[List.mem_singleton]at k;rw[k];exact hw.nxt x c (h.lt x d) hc
 ·rcases List.mem_append.1 hy with k|k
  ·exact h.rc y k
  rw[List.mem_singleton]at k;rw[k];exact(h.rc x d).nx hf hc
 ·rw[List.getElem?_append_left (by omega)]at hy;exact List.mem_append_left _ (h.cl j y hj hy c' hc')
 rw[List.getElem?_append_left f,hx]at hy;cases hy
 by_cases e:c'=c
 ·rw[e];exact List.mem_append_right _ (.head _)
 exact List.mem_append_left _ (h.cc x hx c' (by omega))
theorem rJ.next{A:Tb}{l:List Nat}{i:Nat}(h:rJ A l i A.k):rJ A l (i+1) 0:=⟨h.nd,h.lt,h.z,h.rc,fun j x hj hx c' hc=>by
 by_cases e:j=i
 ·subst e;exact h.cc x hx c' hc
 exact h.cl j x (by omega) hx c' hc,fun x _ c' hc=>by omega⟩
theorem rJ.fin{A:Tb}{l:List Nat}(h:rJ A l l.length 0)(hw:A.Wf)(q:Nat):q∈l↔A.Rch q:=by
 refine⟨h.rc q,?_⟩;rintro⟨w,a,rfl⟩;have key:∀ (w:List Nat) (p:Nat),p∈l->Wd w->A.run p w∈l:=by
  intro w
  induction w with
  | nil=>intro p hp _;exact hp
  | cons b w ih =>
   intro p hp a;obtain⟨j,hj⟩:=List.getElem?_of_mem hp;exact ih _ (h.cl j p (List.getElem?_eq_some_iff.1 hj).1 hj _ (hw.cls b (a b (.head _)))) fun x hx=>a x (.tail _ hx)
 exact key w 0 h.z a
theorem Tryz.zinBoR:(prog.info? 4).map (fun i=>(i.zero,i.size,i.bytes))=some (some (.bool false),1,1):=by kernel_rfl
theorem rU(A:Tb)(n k:Nat)(cl:Value)(b off cN ab ao ca:Nat)(w:World)(hAn:A.n=n)(hAk:A.k=k)(hw:A.Wf)(hf:A.Full)(hn:n<=1024)(hk:1<=k/\k<=256)(hb:b<w.heap.size)(hx:jZ w b off n k A.nx) :
  Calls prog 80 #[.agg #[cl,.int .i64 (k:Nat),.slice (some ⟨b,off,none⟩) (n*k) cN,.slice (some ⟨ab,ao,none⟩) n ca]] w fun e w'=>∃ mb,e=.returned (.slice (some ⟨mb,0,none⟩) n n)/\Below w.heap.size w w'/\w.heap.size<=mb/\
   ∃ r:Nat->Bool,w'.rowIs mb 4 n (fun q=>.bool (r q))/\∀ q,q<n->(r q=true↔A.Rch q):=by
 obtain⟨i0,ap,aq,ar,av⟩:=info_parts Tryz.zinInt;have b5:1<=n:=by rw[<-hAn];exact hw.pos
 have aw:n*k<=1024*256:=Nat.mul_le_mul hn hk.2;obtain⟨L,hL⟩ : ∃ L,L=n*k:=⟨_,rfl⟩;rw[<-hL]at aw ⊢;have ax:=run_make_row' (P:=prog) 31 4 (.bool false) 1 underlying31 Tryz.zinBoR rfl .i64 .i64 n (by omega) (by omega);have HL:=ae hL;have HX:=ae hx;have E:=ae hAn;have K:=ae hAk;have HW:=ae hw;have HF:=ae hf;clear hL hx hAn hAk hw hf;have b6:(0:Int)<(n:Int):=by omega
 obtain⟨W1,o⟩ : ∃ W1,W1=w.alloc (.cells #[cl,.int .i64 (k:Nat),.slice (some ⟨b,off,none⟩) L cN,.slice (some ⟨ab,ao,none⟩) n ca] 33):=⟨_,rfl⟩;have f:W1.heap.size=w.heap.size+1:=by rw[o,ah]
 have F:aD W1 w.heap.size 33 cl (.int .i64 (k:Nat)) (.slice (some ⟨b,off,none⟩) L cN) (.slice (some ⟨ab,ao,none⟩) n ca):=by rw[o];exact aD.new w _ _ _ _ _
 have s:(W1.alloc (.cells (madeCells #[.bool false] n) 4)).rowIs (w.heap.size+1) 4 n (fun _=>.bool false):=by
  have:=World.rowIs_made W1 (.bool false) n 4;rw[f]at this;exact this
 have x0:=s.cell (i:=0) (by omega);have x1:=s.frozen 0;obtain⟨W4,d⟩ : ∃ W4,W4=(W1.alloc (.cells ((madeCells #[.bool false] n).setIfInBounds 0 (.bool true)) 4)).alloc (.cells #[.int .i64 0] 3):=⟨_,rfl⟩;have b3:W4.heap.size=w.heap.size+3:=by rw[d,ah,ah,f]
 have M:W4.rowIs (w.heap.size+1) 4 n (fun q=>.bool (decide (q∈[0]))):=by
  rw[d];have hs:((madeCells #[Value.bool false] n).setIfInBounds 0 (.bool true)).size=n:=by rw[Array.size_setIfInBounds];exact size_madeCells _ _
  have:=World.rowIs_alloc W1 ((madeCells #[Value.bool false] n).setIfInBounds 0 (.bool true)) 4 (fun q=>.bool (decide (q∈[0]))) (fun j hj=>by
   rw[hs]at hj;rw[Array.getElem?_setIfInBounds]
   by_cases e:j=0
   ·subst e;rw[if_pos rfl,if_pos (by rw[size_madeCells];omega)];simp
   rw[if_neg (fun h=>e h.symm)];simp[madeCells,hj,e,Nat.mod_one])
  rw[hs,f]at this;exact this.alloc _
 have N:Below w.heap.size w W4:=by
  rw[d,o];exact(aH w _ _).alloc (by rw[ah,ah];omega) _
 have O:aD W4 w.heap.size 33 cl (.int .i64 (k:Nat)) (.slice (some ⟨b,off,none⟩) L cN) (.slice (some ⟨ab,ao,none⟩) n ca):=by
  rw[d];exact(F.alloc _).alloc _
 have v:W4.ownsRow (w.heap.size+2) 3 1 (.slice (some ⟨w.heap.size+2,0,none⟩) 1 1) 1 ([0].map mN):=by
  refine⟨rfl,.inr ⟨_,1,#[.int .i64 0],rfl,Nat.le_refl _,?_,Nat.le_refl _,by unfold maxLen;omega,rfl,rfl⟩⟩;have e:(W1.alloc (.cells ((madeCells #[.bool false] n).setIfInBounds 0 (.bool true)) 4)).heap.size=w.heap.size+2:=by rw[ah,f]
  rw[d,<-e];exact(MapKept.heap_alloc _ _).1
 obtain⟨e0,e1,e2,e3,-⟩:=F.facts;rw[o]at e0 e1 e2 e3 x0 x1;have Q:=ae o;have R:=ae d;have S:=ae M;have T:=ae O;have U:=ae N;have V:=ae v;clear o d M O N v F s
 go_enter func80,ntmps80
 go_wp2_with fail;rw[<-Q.u,<-R.u];clear Q R e0 e1 e2 e3 x0 x1 ax;simp only[Nat.add_assoc,Nat.reduceAdd]
 go_loopw [5,6] (fun lv iv wr=>∃ (i:Nat) (l:List Nat),i<=l.length/\iv=.int .i64 (i:Nat)/\wr.ownsRow (w.heap.size+2) 3 1 lv l.length (l.map mN)/\wr.rowIs (w.heap.size+1) 4 n (fun q=>.bool (decide (q∈l)))/\aD wr w.heap.size 33 cl (.int .i64 (k:Nat)) (.slice (some ⟨b,off,none⟩) L cN) (.slice (some ⟨ab,ao,none⟩) n ca)/\Below w.heap.size w wr/\w.heap.size+3<=wr.heap.size/\rJ A l i 0) (fun _ iv _=>n+1-(intOf iv).toNat)
 case atStart=>exact⟨0,[0],by omega,rfl,V.u,S.u,T.u,U.u,by omega,rJ.start HW.u⟩
 clear V S T U;obtain⟨i,l,hi,rfl,a,hM,hD,hB,hz,hR⟩:=hrel;have W:=cm n l hR.nd (by rw[<-E.u];exact hR.lt);obtain⟨la,lc,rfl⟩:=aj a
 by_cases hlt:i<l.length
 ·have z:(i:Int)<(l.length:Int):=by omega
  have HO:=ae a;have HM:=ae hM;have HD:=ae hD;have HB:=ae hB;have HR:=ae hR;obtain⟨f0,f1,f2,f3,-⟩:=hD.facts;clear a hM hD hB hR
  go_wp2_with fail
  go_loopw [5,7] (fun lv cv wx=>∃ (c:Nat) (l:List Nat),c<=k/\cv=.int .i64 (c:Nat)/\i<l.length/\wx.ownsRow (w.heap.size+2) 3 1 lv l.length (l.map mN)/\wx.rowIs (w.heap.size+1) 4 n (fun q=>.bool (decide (q∈l)))/\aD wx w.heap.size 33 cl (.int .i64 (k:Nat)) (.slice (some ⟨b,off,none⟩) L cN) (.slice (some ⟨ab,ao,none⟩) n ca)/\Below w.heap.size w wx/\w.heap.size+3<=wx.heap.size/\rJ A l i c) (fun _ cv _=>k-(intOf cv).toNat)
  case atStart=>exact⟨0,l,by omega,rfl,hlt,HO.u,HM.u,HD.u,HB.u,hz,HR.u⟩
  clear HO HM HD HB HR f0 f1 f2 f3 hlt z hi W hz;obtain⟨c,l,hc,rfl,hlt,a,hM,hD,hB,hz,hR⟩:=hrel;have W:=cm n l hR.nd (by rw[<-E.u];exact hR.lt);obtain⟨f0,f1,f2,f3,-⟩:=hD.facts
  by_cases hcl:c<k
  ·have X:(c:Int)<(k:Int):=by omega
   obtain⟨x,hx⟩ : ∃ x,l[i]?=some x:=⟨_,List.getElem?_eq_getElem hlt⟩;have Y:x<n:=by rw[<-E.u];exact hR.lt x (List.mem_of_getElem? hx)
   obtain⟨lg,lcap,e9,B⟩:=eP a (by omega);subst e9;have y0:wr.cell? ⟨lg,i,none⟩=some (.int .i64 (x:Nat)):=by rw[B i hlt,List.getElem?_map,hx];rfl
   have z:(i:Int)<(l.length:Int):=by omega
   obtain⟨v1,v2⟩:=HX.u x c Y hcl;have D:x*k+c<L:=by rw[HL.u];exact fB Y hcl
   obtain⟨m,t,a1,ht,b7,a2,a3,a4⟩:=eB (by omega) D;clear D;obtain⟨nxt,g⟩ : ∃ y,y=A.nx x c:=⟨_,rfl⟩;rw[<-ht,<-g]at v2;have y1:wr.cell? ⟨b,off+t,none⟩=some (.int .i64 (nxt:Nat)):=by rw[hB.cell (p:=⟨b,off+t,none⟩) hb];exact v2
   rw[<-g]at v1;have y2:=hM.cell (i:=nxt) v1;have y3:=hM.frozen nxt;have v1':(nxt:Int)<(n:Int):=by omega
   have G:=ae g;have Z:=ae hx;have HO:=ae a;have HM:=ae hM;have HD:=ae hD;have HB:=ae hB;have HR:=ae hR;have b4:=(a.lt lg rfl).1;clear a hM hD hB hR B v2 ht g hx
   by_cases hmem:nxt∈l
   ·rw[decide_eq_true hmem]at y2;have H:=ae hmem;clear hmem
    go_wp2_with fail
    go_quiet (fail);go_wp2
    go_roundw
    case rel=>exact⟨c+1,l,by omega,by go_num,hlt,HO.u,HM.u.of_block rfl,World.rowIs.of_block HD.u rfl,below_drewN HB.u _,hz,HR.u.old Z.u (by rw[<-G.u];exact H.u)⟩
    simp[intOf];omega
   rw[decide_eq_false hmem]at y2;have H:=ae hmem;clear hmem
   go_wp2_with fail
   go_quiet (fail);have a0:((wr.drewN nq).setCell ⟨w.heap.size+1,nxt,none⟩ (.bool true)).heap.size=wr.heap.size:=(am (w:=wr.drewN nq) nxt (.bool true)).size;have a5:((wr.drewN nq).setCell ⟨w.heap.size+1,nxt,none⟩ (.bool true)).ownsRow (w.heap.size+2) 3 1 (.slice (some ⟨lg,0,none⟩) l.length lcap) l.length (l.map mN):=ak HO.u (fun q hq=>(am (w:=wr.drewN nq) nxt (.bool true)).block q (by have:=(HO.u.lt q hq).1;omega));have s:((wr.drewN nq).setCell ⟨w.heap.size+1,nxt,none⟩ (.bool true)).rowIs (w.heap.size+1) 4 n (fun q=>.bool (decide (q∈l++[nxt]))):=by
    have b0:(wr.drewN nq).rowIs (w.heap.size+1) 4 n (fun q=>.bool (decide (q∈l))):=HM.u.of_block rfl;refine(World.rowIs.set b0 nxt (.bool true)).congr (fun j hj=>?_)
    by_cases e:j=nxt
    ·subst e;simp
    simp[e]
   have a6:Below w.heap.size w ((wr.drewN nq).setCell ⟨w.heap.size+1,nxt,none⟩ (.bool true)):=by
    have h1:=below_drewN HB.u nq;have h2:=am (w:=wr.drewN nq) (b:=w.heap.size+1) nxt (.bool true);exact⟨h2.os.trans h1.os,h2.tape.trans h1.tape,h2.output.trans h1.output,Nat.le_trans h1.size (Nat.le_of_eq h2.size.symm),fun k hk=>(h2.block k (by omega)).trans (h1.block k hk)⟩
   have a7:aD ((wr.drewN nq).setCell ⟨w.heap.size+1,nxt,none⟩ (.bool true)) w.heap.size 33 cl (.int .i64 (k:Nat)) (.slice (some ⟨b,off,none⟩) L cN) (.slice (some ⟨ab,ao,none⟩) n ca):=World.rowIs.of_block HD.u ((am (w:=wr.drewN nq) nxt (.bool true)).block w.heap.size (by omega));have I:=ae a5;have a8:=ae s;have a9:=ae a6;have aa:=ae a7;clear a5 s a6 a7
   go_wp2_with (at_builtin;refine wpList_append_own_at _ rfl _ _ 30 rfl (w.heap.size+2) 3 i0 (.int .i64 0) 1 8 underlying30 ap aq ar av rfl (by decide) _ _ _ rfl (I.u.alloc _) ⟨wr.heap.size,0,none⟩ 1 1 [.int .i64 (nxt:Nat)] rfl rfl ?_ ?_ ?_ ?_ ?_ ?_)
   ·rw[<-a0];exact dJ (dG _ _ _)
   ·intro u hu;simp at hu;subst hu;rfl
   ·unfold maxLen;omega
   ·omega
   ·rw[ah,a0];omega
   intro v' w6 r1 r2 _ r3;have C:Below (w.heap.size+2) ((wr.drewN nq).setCell ⟨w.heap.size+1,nxt,none⟩ (.bool true)) w6:=((ai _ _).mono (by omega)).grown r2 (by rw[ah];omega) (fun k hk=>(I.u.lt k hk).1);have b8:=C.size;have ad:=ae (a8.u.of_block (C.block (w.heap.size+1) (by omega)));have b1:=ae (aa.u.below C (by omega));have b2:=ae (a9.u.trans (C.mono (by omega)));have e9:(l.map mN++[.int .i64 (nxt:Nat)])=(l++[nxt]).map mN:=by rw[List.map_append];rfl
   have e8:l.length+1=(l++[nxt]).length:=by simp
   rw[e9,e8]at r1;obtain⟨va,vc,rfl⟩:=aj r1;have af:=ae r1;have ag:rJ A (l++[nxt]) i (c+1):=by
    have:=HR.u.new HW.u HF.u (by rw[K.u];exact hcl) Z.u (by rw[<-G.u];exact H.u);rw[<-G.u]at this;exact this
   have al:=ae ag;obtain⟨l2,J⟩ : ∃ l2,l2=l++[nxt]:=⟨_,rfl⟩;rw[<-J]at af al ad ⊢;have an:i<l2.length:=by rw[J];simp;omega
   clear r1 r2 r3 C I a8 a9 aa e9 e8 J ag y0 y1 y2 y3;go_wp2
   go_roundw
   case rel=>exact⟨c+1,l2,by omega,by go_num,an,af.u,ad.u,b1.u,b2.u,by omega,al.u⟩
   simp[intOf];omega
  have X:¬ (c:Int)<(k:Int):=by omega
  obtain rfl:c=k:=by omega
  have HO:=ae a;have HM:=ae hM;have HD:=ae hD;have HB:=ae hB;rw[<-K.u]at hR;have HR:=ae hR.next;clear a hM hD hB hR;go_wp2
  go_roundw
  case rel=>exact⟨i+1,l,by omega,by go_num,HO.u,HM.u,HD.u,HB.u,hz,HR.u⟩
  simp[intOf];omega
 have z:¬ (i:Int)<(l.length:Int):=by omega
 obtain rfl:i=l.length:=by omega
 have HM:=ae hM;have HB:=ae hB;have HR:=ae hR;clear hM hB hR hD a;go_wp2;go_ret;exact⟨_,rfl,HB.u,by omega,_,HM.u,fun q hq=>by rw[decide_eq_true_iff];exact HR.u.fin HW.u q⟩
theorem eX.congr{R R' L L':Nat->Prop}{C C':Nat->Nat->Prop}{q v:Nat}(h:eX R L C q v)(hR:∀ p,p<q->(R p↔R' p))(hL:∀ p,p<q->(R p->(L p↔L' p)))(hC:∀ p,p<q->R p->(C p q↔C' p q)):eX R' L' C' q v:=by
 rcases h with ⟨k1,k2,k3,k4,k5⟩|⟨k1,k2⟩
 ·exact .inl ⟨k1,(hR v k1).1 k2,(hL v k1 k2).1 k3,(hC v k1 k2).1 k4,fun p hp r l c=>by
   have r':=(hR p (by omega)).2 r;exact k5 p hp r' ((hL p (by omega) r').2 l) ((hC p (by omega) r').2 c)⟩
 exact .inr ⟨k1,fun p hp r l c=>by
  have r':=(hR p hp).2 r;exact k2 p hp r' ((hL p hp r').2 l) ((hC p hp r').2 c)⟩
def AO(r:Nat->Bool)(L:Nat->Prop)(C:Nat->Nat->Prop)(j:Nat)(v:Int):Prop:=
 (r j=false/\v = -1)∨(r j=true/\∃ m:Nat,v=m/\eX (fun p=>r p=true) L C j m)
theorem AO.congrL{r:Nat->Bool}{L L':Nat->Prop}{C:Nat->Nat->Prop}{j:Nat}{v:Int}(h:AO r L C j v)(hL:∀ p,p<j->(L p↔L' p)):AO r L' C j v:=by
 rcases h with h|⟨h1,m,h2,h3⟩
 ·exact .inl h
 exact .inr ⟨h1,m,h2,h3.congr (fun _ _=>Iff.rfl) (fun p hp _=>hL p hp) (fun _ _ _=>Iff.rfl)⟩
def qw(r:Nat->Bool)(n:Nat)(pv:Nat->Int):Prop:=∀ j,j<n->(r j=false/\pv j = -1)∨(r j=true/\∃ m:Nat,pv j=m/\m<=j)
theorem eX.le{R L:Nat->Prop}{C:Nat->Nat->Prop}{q v:Nat}(h:eX R L C q v):v<=q:=by
 rcases h with h|h
 ·omega
 omega
theorem tK{r:Nat->Bool}{L:Nat->Nat->Prop}{C:Nat->Nat->Prop}{n:Nat}{pv:Nat->Int}(h:∀ j,j<n->AO r (L j) C j (pv j)):qw r n pv:=fun j hj=>by
 rcases h j hj with h|⟨h1,m,h2,h3⟩
 ·exact .inl h
 exact .inr ⟨h1,m,h2,h3.le⟩
theorem qw.nat{r:Nat->Bool}{n:Nat}{pv:Nat->Int}(h:qw r n pv){j:Nat}(hj:j<n)(hr:r j=true):pv j=((pv j).toNat:Int):=by
 rcases h j hj with ⟨h1,-⟩|⟨-,m,h2,-⟩
 ·rw[hr]at h1;cases h1
 omega
theorem qw.eq{r:Nat->Bool}{n:Nat}{pv:Nat->Int}(h:qw r n pv){i j:Nat}(hi:i<n)(hri:r i=true)(hj:j<n)(hrj:r j=true):pv i=pv j↔(pv i).toNat=(pv j).toNat:=by
 have h1:=h.nat hi hri;have h2:=h.nat hj hrj;omega
theorem qw.self{r:Nat->Bool}{n:Nat}{pv:Nat->Int}(h:qw r n pv){j:Nat}(hj:j<n):pv j=(j:Int)↔r j=true/\(pv j).toNat=j:=by
 rcases h j hj with ⟨h1,h2⟩|⟨h1,m,h2,-⟩
 ·rw[h1];simp;omega
 rw[h1];simp;omega
theorem xu{A:Tb}{r:Nat->Bool}{pv:Nat->Int}(hw:A.Wf)(hr:∀ q,q<A.n->(r q=true↔A.Rch q))(h:∀ j,j<A.n->AO r (fun _=>True) (fun a b=>A.ac a=A.ac b) j (pv j)):oV A (fun p q=>A.ac p=A.ac q) (fun j=>(pv j).toNat):=
 oV.start fun q hq=>by
  have c:=hq.lt hw;rcases h q c with ⟨h1,-⟩|⟨-,m,h2,h3⟩
  ·rw[(hr q c).2 hq]at h1;cases h1
  rw[h2];exact h3.congr (fun p hp=>hr p (by omega)) (fun _ _ _=>Iff.rfl) (fun _ _ _=>Iff.rfl)
def Dg(A:Tb)(pv:Nat->Int)(a b:Nat):Prop:=pv a=pv b/\∀ c,c<A.k->pv (A.nx a c)=pv (A.nx b c)
theorem AX{A:Tb}{C:Nat->Nat->Prop}{r:Nat->Bool}{pv nv:Nat->Int}(h:oV A C (fun j=>(pv j).toNat))(hw:A.Wf)(hf:A.Full)(hr:∀ q,q<A.n->(r q=true↔A.Rch q))(hp:qw r A.n pv)
  (hN:∀ j,j<A.n->AO r (fun p=>nv p=(p:Int)) (Dg A pv) j (nv j)):oV A (rnd A C) (fun j=>(nv j).toNat):=
 h.next hf fun q hq=>by
  have a:=hq.lt hw;have b:=(hr q a).2 hq;have d:qw r A.n nv:=tK (L:=fun _ p=>nv p=(p:Int)) hN;rcases hN q a with ⟨h1,-⟩|⟨-,m,h2,h3⟩
  ·rw[b]at h1;cases h1
  show eX _ _ _ _ (nv q).toNat;rw[h2];refine h3.congr (fun p hp=>hr p (by omega)) (fun p hp hrp=>?_) (fun p hp' hrp=>?_)
  ·rw[d.self (by omega)];exact⟨fun k=>k.2,fun k=>⟨hrp,k⟩⟩
  have f:=(hr p (by omega)).1 hrp;have e:∀ c,c<A.k->(pv (A.nx p c)=pv (A.nx q c)↔(pv (A.nx p c)).toNat=(pv (A.nx q c)).toNat):=fun c hc=>by
   have a1:=hw.nxt p c (by omega) hc;have a2:=hw.nxt q c a hc;exact hp.eq a1 ((hr _ a1).2 (f.nx hf hc)) a2 ((hr _ a2).2 (hq.nx hf hc))
  unfold Dg;rw[hp.eq (by omega) hrp a b];exact⟨fun k=>⟨k.1,fun c hc=>(e c hc).1 (k.2 c hc)⟩,fun k=>⟨k.1,fun c hc=>(e c hc).2 (k.2 c hc)⟩⟩
def nG(pv:Nat->Int)(n:Nat):Nat:=iR (fun q=>decide (pv q=(q:Int))) n
theorem gI{f g:Nat->Bool}:∀ n,(∀ q,q<n->f q=g q)->iR f n=iR g n
 | 0,_=>rfl
 | n+1,h=>by simp only[iR];rw[gI n fun q hq=>h q (by omega),h n (by omega)]
theorem uF{r:Nat->Bool}{n:Nat}{pv:Nat->Int}(h:qw r n pv):nG pv n=iR (fun q=>r q&&(pv q).toNat==q) n:=
 gI n fun q hq=>by
  rw[Bool.eq_iff_iff];simp only[decide_eq_true_eq,Bool.and_eq_true,beq_iff_eq];exact h.self hq
theorem uI(pv:Nat->Int)(n:Nat):nG pv n<=n:=uN _ n
theorem Bu{A:Tb}{C:Nat->Nat->Prop}{r:Nat->Bool}{pv nv:Nat->Int}(h:oV A C (fun j=>(pv j).toNat))(g:oV A (rnd A C) (fun j=>(nv j).toNat))(hw:A.Wf)(hr:∀ q,q<A.n->(r q=true↔A.Rch q))(hp:qw r A.n pv)(hn:qw r A.n nv)(hne:∃ q,q<A.n/\nv q≠pv q):nG pv A.n<nG nv A.n:=by
 rw[uF hp,uF hn];refine h.grow g hw hr ?_;obtain⟨q,hq,hd⟩:=hne;have a:r q=true:=by
  rcases hp q hq with ⟨h1,h2⟩|⟨h1,-⟩
  ·rcases hn q hq with ⟨h3,h4⟩|⟨h3,-⟩
   ·rw[h2,h4]at hd;exact absurd rfl hd
   exact h3
  exact h1
 refine⟨q,(hr q hq).1 a,fun e=>hd ?_⟩;rw[hn.nat hq a,hp.nat hq a,e]
theorem DM{A:Tb}{C:Nat->Nat->Prop}{pv nv:Nat->Int}(h:oV A C (fun j=>(pv j).toNat))(g:oV A (rnd A C) (fun j=>(nv j).toNat))(hw:A.Wf)(he:∀ q,q<A.n->nv q=pv q):AN A (fun j=>(nv j).toNat):=by
 have hf:=h.fin g hw fun q hq=>by rw[he q (hq.lt hw)]
 have e:∀ q,A.Rch q->(nv q).toNat=(pv q).toNat:=fun q hq=>by rw[he q (hq.lt hw)]
 exact⟨fun q hq=>by rw[e q hq];exact hf.rch q hq,fun q hq=>by rw[e q hq];exact hf.tel q hq,fun p q hp hq ht=>by rw[e p hp,e q hq];exact hf.one p q hp hq ht⟩
def lI(A:Tb)(pv:Nat->Int)(b:Nat):Nat->Int:=fun q=>if q<A.n/\pv q=(q:Int) then pv (A.stp q b) else 0
theorem DK{A:Tb}{r:Nat->Bool}{pv:Nat->Int}(hw:A.Wf)(hr:∀ q,q<A.n->(r q=true↔A.Rch q))(hp:qw r A.n pv)(hF:AN A (fun j=>(pv j).toNat)){b b':Nat}(hb:b<256)(hb':b'<256):lI A pv b=lI A pv b'↔Gv A b b':=by
 have DP:∀ {x y:Nat},A.Rch x->A.Rch y->(pv x=pv y↔(pv x).toNat=(pv y).toNat):=fun {x y} hx hy=>hp.eq (hx.lt hw) ((hr _ (hx.lt hw)).2 hx) (hy.lt hw) ((hr _ (hy.lt hw)).2 hy)
 constructor
 ·intro he q hq;have hP:A.Rch (pv q).toNat:=hF.rch q hq;have a:=hP.lt hw;have ht:gk A A (pv q).toNat q:=hF.tel q hq;have d:(pv (pv q).toNat).toNat=(pv q).toNat:=hF.idem hq;obtain⟨p,e⟩ : ∃ p,p=(pv q).toNat:=⟨_,rfl⟩;rw[<-e]at hP a ht d;have c:pv p=(p:Int):=(hp.self a).2 ⟨(hr p a).2 hP,d⟩;have h1:=congrFun he p;simp only[lI,a,c,and_self,if_true]at h1;have hx:=hP.stp hb;have hy:=hP.stp hb';have t1:gk A A (pv (A.stp p b)).toNat (A.stp p b):=hF.tel _ hx;have t2:gk A A (pv (A.stp p b')).toNat (A.stp p b'):=hF.tel _ hy;rw[(DP hx hy).1 h1]at t1;exact(ht.stp hb).symm.trans (t1.symm.trans (t2.trans (ht.stp hb')))
 intro hs
 funext q
 simp only[lI]
 split
 ·rename_i h
  have hq:A.Rch q:=(hr q h.1).1 ((hp.self h.1).1 h.2).1;exact(DP (hq.stp hb) (hq.stp hb')).2 (hF.one _ _ (hq.stp hb) (hq.stp hb') (hs q hq))
 rfl
theorem yw{A:Tb}{r:Nat->Bool}{pv:Nat->Int}{ns fs o ys:List Nat}(hw:A.Wf)(hr:∀ q,q<A.n->(r q=true↔A.Rch q))(hp:qw r A.n pv)(hF:AN A (fun j=>(pv j).toNat))(hN:eY (lI A pv) (fs.map (lI A pv)) ns fs)(hl:ns.length=256)
  (hB:eK fs.length (fun q e=>(pv (A.stp q (fs[e]?.getD 0))).toNat) (pv 0).toNat o ys)(hy:ys.length=o.length*fs.length):rT A (fun j=>(pv j).toNat) fs.length (fun b=>ns[b]?.getD 0) (fun e=>fs[e]?.getD 0) o ys where
 wf:=hw
 fst:=hF
 num:=by
  have:=hN.num1;rw[hl,List.length_map]at this;exact this
 sm:=fun b b' hb hb'=>by
  have:=hN.eq_iff (p:=b) (q:=b') (by omega) (by omega);rw[this];exact DK hw hr hp hF hb hb'
 bfs:=hB
 len:=hy
theorem Dh{k:Nat}{ns o ys:List Nat}{ac:Nat->Bool}(hl:ns.length=256):mP (bE k (fun b=>ns[b]?.getD 0) ac o ys)=ns.map fun (x:Nat)=>(x:Int):=by
 apply List.ext_getElem?
 intro i;simp only[mP,bE,List.getElem?_map]
 by_cases hi:i<256
 ·rw[List.getElem?_range hi,List.getElem?_eq_getElem (l:=ns) (i:=i) (by omega)];simp only[Option.map_some,List.getElem?_eq_getElem (l:=ns) (i:=i) (by omega),Option.getD_some]
 rw[List.getElem?_eq_none (by simp;omega),List.getElem?_eq_none (by omega)];rfl
theorem Du{k:Nat}{cl:Nat->Nat}{o ys:List Nat}{ac:Nat->Bool}(hy:ys.length=o.length*k):py (bE k cl ac o ys)=ys.map fun (x:Nat)=>(x:Int):=by
 apply List.ext_getElem?
 intro i;simp only[py,bE,List.getElem?_map]
 by_cases hi:i<ys.length
 ·rw[List.getElem?_range (by omega),List.getElem?_eq_getElem (l:=ys) hi];simp only[Option.map_some,Nat.div_add_mod',List.getElem?_eq_getElem (l:=ys) hi,Option.getD_some]
 rw[List.getElem?_eq_none (by simp;omega),List.getElem?_eq_none (by omega)];rfl
theorem Dy{k:Nat}{cl:Nat->Nat}{o ys:List Nat}{ac:Nat->Bool}:uV (bE k cl ac o ys)=o.map ac:=by
 apply List.ext_getElem?
 intro i;simp only[uV,bE,List.getElem?_map]
 by_cases hi:i<o.length
 ·rw[List.getElem?_range hi,List.getElem?_eq_getElem (l:=o) hi];simp[hi]
 rw[List.getElem?_eq_none (by simp;omega),List.getElem?_eq_none (by omega)];rfl
theorem cd.drewN{g:Nat}{a b:World}(h:cd g a b)(q:Nat):cd g a (b.drewN q):=⟨h.os,h.tape,h.output,h.size,h.block⟩
theorem cd.blw{g:Nat}{a b:World}(h:cd g a b):Below g a b:=⟨h.os,h.tape,h.output,Nat.le_of_eq h.size.symm,fun k hk=>h.block k (by omega)⟩
structure FK (A:Tb) (n k:Nat) (cl:Value) (b off L cN ab ao ca D mb:Nat) (r:Nat->Bool) (w:World):Prop where
 d:aD w D 33 cl (.int .i64 (k:Nat)) (.slice (some ⟨b,off,none⟩) L cN) (.slice (some ⟨ab,ao,none⟩) n ca)
 m:w.rowIs mb 4 n (fun q=>.bool (r q))
 x:jZ w b off n k A.nx
 a:∀ q,q<n->w.cell? ⟨ab,ao+q,none⟩=some (.bool (A.ac q))
theorem FK.keep{A:Tb}{n k:Nat}{cl:Value}{b off L cN ab ao ca D mb g:Nat}{r:Nat->Bool}{w w':World}(h:FK A n k cl b off L cN ab ao ca D mb r w)(hB:Below g w w')(h1:D<g)(h2:mb<g)(h3:b<g)(h4:ab<g):FK A n k cl b off L cN ab ao ca D mb r w' where
 d:=h.d.below hB h1
 m:=h.m.of_block (hB.block mb h2)
 x:=fun q c hq hc=>⟨(h.x q c hq hc).1,by rw[hB.cell (p:=⟨b,off+(q*k+c),none⟩) h3];exact(h.x q c hq hc).2⟩
 a:=fun q hq=>by rw[hB.cell (p:=⟨ab,ao+q,none⟩) h4];exact h.a q hq
def dV(pv:Nat->Int)(q:Nat)(v:Int):Nat->Int:=fun j=>if j=q then v else pv j
theorem cH(pv:Nat->Int)(q:Nat)(v:Int):dV pv q v q=v:=by simp[dV]
theorem aZ(pv:Nat->Int){q j:Nat}(v:Int)(h:j≠q):dV pv q v j=pv j:=by simp[dV,h]
theorem fD{w:World}{g n:Nat}{pv:Nat->Int}(h:w.rowIs g 3 n (fun j=>.int .i64 (pv j)))(q:Nat)(v:Int):(w.setCell ⟨g,q,none⟩ (.int .i64 v)).rowIs g 3 n (fun j=>.int .i64 (dV pv q v j)):=
 (World.rowIs.set h q _).congr (fun j _=>by by_cases e:j=q<;>simp[dV,e])
def EB(v:Value)(n:Nat)(w:World):Nat:=nG (fun q=>intOf ((w.cell? ⟨v.ownBlock.getD 0,q,none⟩).getD undef)) n
theorem uZ{w:World}{g n:Nat}{pv:Nat->Int}(h:w.rowIs g 3 n (fun j=>.int .i64 (pv j))):EB (.slice (some ⟨g,0,none⟩) n n) n w=nG pv n:=
 gI n fun q hq=>by
  have:w.cell? ⟨g,q,none⟩=some (.int .i64 (pv q)):=h.cell hq;show decide (intOf ((w.cell? ⟨g,q,none⟩).getD undef)=(q:Int))=_;rw[this]
  rfl
def zJ:Value->Nat
 | .bool true=>1
 | _=>0
theorem qh(A:Tb)(n k:Nat)(cl:Value)(b off cN ab ao ca:Nat)(w:World)(hAn:A.n=n)(hAk:A.k=k)(hw:A.Wf)(hf:A.Full)(hn:n<=1024)(hk:1<=k/\k<=256)(hb:b<w.heap.size)(hx:jZ w b off n k A.nx)(hab:ab<w.heap.size)(hac:∀ q,q<n->w.cell? ⟨ab,ao+q,none⟩=some (.bool (A.ac q))) :
  Calls prog 41 #[.agg #[cl,.int .i64 (k:Nat),.slice (some ⟨b,off,none⟩) (n*k) cN,.slice (some ⟨ab,ao,none⟩) n ca]] w fun e w'=>∃ pb,e=.returned (.slice (some ⟨pb,0,none⟩) n n)/\Below w.heap.size w w'/\w.heap.size<=pb/\
   ∃ (pv:Nat->Int) (r:Nat->Bool),w'.rowIs pb 3 n (fun q=>.int .i64 (pv q))/\(∀ q,q<n->(r q=true↔A.Rch q))/\qw r n pv/\AN A (fun j=>(pv j).toNat):=by
 have g0:1<=n:=by rw[<-hAn];exact hw.pos
 have f6:n*k<=1024*256:=Nat.mul_le_mul hn hk.2;have cr:=ae (fun (W1:World) (hB:Below w.heap.size w W1)=>rU A n k cl b off cN ab ao ca W1 hAn hAk hw hf hn hk (Nat.lt_of_lt_of_le hb hB.size) (fun q c hq hc=>⟨(hx q c hq hc).1,by rw[hB.cell (p:=⟨b,off+(q*k+c),none⟩) hb];exact(hx q c hq hc).2⟩));obtain⟨L,hL⟩ : ∃ L,L=n*k:=⟨_,rfl⟩;rw[<-hL]at f6 ⊢;rw[<-hL]at cr;have g5:=run_make_row' (P:=prog) 30 3 (.int .i64 0) 8 underlying30 Tryz.zinInt rfl .i64 .i64 n (by omega) (by omega);have HL:=ae hL;have HX:=ae hx;have f7:=ae hac;have z:=ae hAn;have cs:=ae hAk;have HW:=ae hw;have HF:=ae hf;clear hL hx hAn hAk hw hf hac;obtain⟨W1,ad⟩ : ∃ W1,W1=w.alloc (.cells #[cl,.int .i64 (k:Nat),.slice (some ⟨b,off,none⟩) L cN,.slice (some ⟨ab,ao,none⟩) n ca] 33):=⟨_,rfl⟩;have fs:W1.heap.size=w.heap.size+1:=by rw[ad,ah]
 have ct:Below w.heap.size w W1:=by rw[ad];exact ai w _
 have cw:aD W1 w.heap.size 33 cl (.int .i64 (k:Nat)) (.slice (some ⟨b,off,none⟩) L cN) (.slice (some ⟨ab,ao,none⟩) n ca):=by rw[ad];exact aD.new w _ _ _ _ _
 have d8:=ae (cr.u W1 ct);obtain⟨e0,e1,e2,e3,-⟩:=cw.facts;have d9:=ae ad;have f8:=ae ct;have db:=ae cw;clear ad ct cw cr
 go_enter func41,ntmps41
 go_wp2_with fail;rw[<-d9.u];refine d8.u.mono ?_;rintro e w2 ⟨mb,rfl,bn,g6,r,cx,hr⟩;have g7:=bn.size;have fv:=cx.lt;have Z:Below w.heap.size w w2:=f8.u.trans (bn.mono (by omega));obtain⟨w3,af⟩ : ∃ w3,w3=w2.alloc (.cells (madeCells #[.int .i64 0] n) 3):=⟨_,rfl⟩;have ds:w3.rowIs w2.heap.size 3 n (fun _=>.int .i64 0):=by rw[af];exact World.rowIs_made w2 _ n _
 have f9:w3.heap.size=w2.heap.size+1:=by rw[af,ah]
 have ag:Below w2.heap.size w2 w3:=by rw[af];exact ai w2 _
 have al:FK A n k cl b off L cN ab ao ca w.heap.size mb r w2:=⟨db.u.below bn (by omega),cx,fun q c hq hc=>⟨(HX.u q c hq hc).1,by rw[Z.cell (p:=⟨b,off+(q*k+c),none⟩) hb];exact(HX.u q c hq hc).2⟩,fun q hq=>by rw[Z.cell (p:=⟨ab,ao+q,none⟩) hab];exact f7.u q hq⟩;have c4:=al.keep ag (by omega) (by omega) (by omega) (by omega);have e4:=ae af;have e5:=ae ds;have fa:=ae Z;have e6:=ae ag;have e7:=ae al;have an:=ae c4;have HR:=ae hr;clear af ds Z ag al c4 hr bn cx d8 db e0 e1 e2 e3 d9
 go_wp2_with fail;rw[<-e4.u];clear e4
 go_loopw [6] (fun qv wr=>∃ (q:Nat) (pv:Nat->Int),q<=n/\qv=.int .i64 (q:Nat)/\wr.rowIs w2.heap.size 3 n (fun j=>.int .i64 (pv j))/\cd w2.heap.size w3 wr/\∀ j,j<q->AO r (fun _=>True) (fun a b=>A.ac a=A.ac b) j (pv j)) (fun qv _=>n-(intOf qv).toNat)
 case atStart=>exact⟨0,_,by omega,rfl,e5.u,cd.refl _ _,fun j hj=>by omega⟩
 obtain⟨q,pv,hq,rfl,hP,hO,hV⟩:=hrel;obtain⟨w4,rfl⟩ : ∃ w4,w4=wr:=⟨_,rfl⟩;have fb:=hO.size
 by_cases hlt:q<n
 ·have a0:(q:Int)<(n:Int):=by omega
  have f:=an.u.keep hO.blw (by omega) (by omega) (by omega) (by omega);obtain⟨f0,f1,f2,f3,-⟩:=f.d.facts;have y0:=f.m.cell (i:=q) hlt;have y1:=hP.cell (i:=q) hlt;have y2:=hP.frozen q;obtain⟨rq,R⟩ : ∃ rq,rq=r q:=⟨_,rfl⟩;rw[<-R]at y0;have G:=fD hP q (-1);have ar:=hO.trans (am (w:=w4) (b:=w2.heap.size) q (.int .i64 (-1)));have y3:=G.cell (i:=q) hlt;have y4:=G.frozen q;have av:=(am (w:=w4) (b:=w2.heap.size) q (.int .i64 (-1))).blw;have y5:(w4.setCell ⟨w2.heap.size,q,none⟩ (.int .i64 (-1))).cell? ⟨mb,q,none⟩=some (.bool rq):=by rw[av.cell (p:=⟨mb,q,none⟩) (by show mb<w2.heap.size;omega)];exact y0
  have HP:=ae hP;have HO:=ae hO;have S:=ae G;have T:=ae ar;have HV:=ae hV;have H:=ae R;clear hP hO hV R G ar f av y0;cases rq
  ·go_wp2
   go_roundw
   case rel =>
    refine⟨q+1,_,by omega,by go_num,S.u,T.u,fun j hj=>?_⟩
    by_cases e:j=q
    ·subst e;rw[cH];exact .inl ⟨H.u.symm,rfl⟩
    rw[aZ _ _ e];exact HV.u j (by omega)
   simp[intOf];omega
  obtain⟨w6,D⟩ : ∃ w6,w6=(w4.setCell ⟨w2.heap.size,q,none⟩ (.int .i64 (-1))).setCell ⟨w2.heap.size,q,none⟩ (.int .i64 (q:Nat)):=⟨_,rfl⟩;have aw:w6.rowIs w2.heap.size 3 n (fun j=>.int .i64 (dV (dV pv q (-1)) q (q:Nat) j)):=by rw[D];exact fD S.u q _
  have e8:cd w2.heap.size w3 w6:=by rw[D];exact T.u.trans (am _ _)
  have a6:=ae aw;have e9:=ae e8;have ax:=ae D;clear aw e8 D
  go_wp2_with fail;rw[<-ax.u];have epv:dV (dV pv q (-1)) q (q:Nat)=dV pv q (q:Nat):=by funext j;by_cases e:j=q<;>simp[dV,e]
  rw[epv]at a6;clear ax S T HP HO f0 f1 f2 f3 y1 y2 y3 y4 y5 epv
  go_loopw [7] (fun iv wx=>∃ p:Nat,p<=q/\iv=.int .i64 (p:Nat)/\wx.rowIs w2.heap.size 3 n (fun j=>.int .i64 (dV pv q (q:Nat) j))/\cd w2.heap.size w3 wx/\∀ p',p'<p->r p'=true->¬ A.ac p'=A.ac q) (fun iv _=>q-(intOf iv).toNat)
  case atStart=>exact⟨0,by omega,rfl,a6.u,e9.u,fun p' hp'=>by omega⟩
  obtain⟨p,hp,rfl,v,o,I⟩:=hrel;clear a6 e9;have g8:=o.size
  by_cases hpl:p<q
  ·have b0:(p:Int)<(q:Int):=by omega
   have ea:(p:Int)<(n:Int):=by omega
   have f:=an.u.keep o.blw (by omega) (by omega) (by omega) (by omega);obtain⟨f0,f1,f2,f3,-⟩:=f.d.facts;have y0:=f.m.cell (i:=p) (by omega);have y1:=f.a p (by omega);have y2:=f.a q hlt;have y3:=v.cell (i:=q) hlt;have y4:=v.frozen q;obtain⟨rp,U⟩ : ∃ rp,rp=r p:=⟨_,rfl⟩;obtain⟨ap,cy⟩ : ∃ ap,ap=A.ac p:=⟨_,rfl⟩;obtain⟨aq,d0⟩ : ∃ aq,aq=A.ac q:=⟨_,rfl⟩;rw[<-U]at y0;rw[<-cy]at y1;rw[<-d0]at y2;have g:=ae v;have l:=ae o;have s:=ae I;have a7:=ae U;have bo:=ae cy;have bq:=ae d0;clear v o I U cy d0 f;cases rp
   ·go_wp2_with fail
    go_quiet (fail);go_wp2
    go_roundw
    case rel=>exact⟨p+1,by omega,by go_num,g.u.of_block rfl,l.u.drewN _,fun p' hp' hr'=>by
     by_cases e:p'=p
     ·subst e;rw[<-a7.u]at hr';cases hr'
     exact s.u p' (by omega) hr'⟩
    simp[intOf];omega
   cases ap<;>cases aq
   ·go_wp2_with fail
    go_quiet (fail);have a8:=ae (fD (w:=wr.drewN nq) (g.u.of_block rfl) q (p:Nat));have a9:=ae ((l.u.drewN nq).trans (am (w:=wr.drewN nq) (b:=w2.heap.size) q (.int .i64 (p:Nat))));go_wp2
    go_roundw
    case rel =>
     refine⟨q+1,_,by omega,by go_num,a8.u,a9.u,fun j hj=>?_⟩
     by_cases e:j=q
     ·subst e;rw[cH];exact .inr ⟨H.u.symm,p,rfl,.inl ⟨hpl,a7.u.symm,trivial,bo.u.symm.trans bq.u,fun p' hp' hr' _=>s.u p' hp' hr'⟩⟩
     rw[aZ _ _ e,aZ _ _ e];exact HV.u j (by omega)
    simp[intOf];omega
   ·go_wp2_with fail
    go_quiet (fail);go_wp2
    go_roundw
    case rel=>exact⟨p+1,by omega,by go_num,g.u.of_block rfl,l.u.drewN _,fun p' hp' hr'=>by
     by_cases e:p'=p
     ·subst e;rw[<-bo.u,<-bq.u];decide
     exact s.u p' (by omega) hr'⟩
    simp[intOf];omega
   ·go_wp2_with fail
    go_quiet (fail);go_wp2
    go_roundw
    case rel=>exact⟨p+1,by omega,by go_num,g.u.of_block rfl,l.u.drewN _,fun p' hp' hr'=>by
     by_cases e:p'=p
     ·subst e;rw[<-bo.u,<-bq.u];decide
     exact s.u p' (by omega) hr'⟩
    simp[intOf];omega
   go_wp2_with fail
   go_quiet (fail);have a8:=ae (fD (w:=wr.drewN nq) (g.u.of_block rfl) q (p:Nat));have a9:=ae ((l.u.drewN nq).trans (am (w:=wr.drewN nq) (b:=w2.heap.size) q (.int .i64 (p:Nat))));go_wp2
   go_roundw
   case rel =>
    refine⟨q+1,_,by omega,by go_num,a8.u,a9.u,fun j hj=>?_⟩
    by_cases e:j=q
    ·subst e;rw[cH];exact .inr ⟨H.u.symm,p,rfl,.inl ⟨hpl,a7.u.symm,trivial,bo.u.symm.trans bq.u,fun p' hp' hr' _=>s.u p' hp' hr'⟩⟩
    rw[aZ _ _ e,aZ _ _ e];exact HV.u j (by omega)
   simp[intOf];omega
  have b0:¬ (p:Int)<(q:Int):=by omega
  obtain rfl:p=q:=by omega
  have g:=ae v;have l:=ae o;have s:=ae I;clear v o I;go_wp2
  go_roundw
  case rel =>
   refine⟨p+1,_,by omega,by go_num,g.u,l.u,fun j hj=>?_⟩
   by_cases e:j=p
   ·subst e;rw[cH];exact .inr ⟨H.u.symm,j,rfl,.inr ⟨rfl,fun p' hp' hr' _=>s.u p' hp' hr'⟩⟩
   rw[aZ _ _ e];exact HV.u j (by omega)
  simp[intOf];omega
 have a0:¬ (q:Int)<(n:Int):=by omega
 obtain rfl:q=n:=by omega
 have hS:=xu HW.u (by rw[z.u];exact HR.u) (by rw[z.u];exact hV);have V:qw r q pv:=tK (L:=fun _ _=>True) hV;have M:Below w2.heap.size w2 w4:=e6.u.trans (hO.blw.mono (by omega));have HS:=ae hS;have N:=ae V;have br:=ae M;have J:=ae hP;clear hS V M hP hV hO an e5 e6
 go_wp2_with fail;obtain⟨n,rfl⟩ : ∃ n,n=q:=⟨_,rfl⟩
 go_loopw [5,8] (fun tv cv wr=>∃ (pb:Nat) (pv:Nat->Int) (ch:Bool),tv=.slice (some ⟨pb,0,none⟩) n n/\cv=.bool ch/\wr.rowIs pb 3 n (fun j=>.int .i64 (pv j))/\w2.heap.size<=pb/\Below w2.heap.size w2 wr/\qw r n pv/\(ch=true->∃ C,oV A C (fun j=>(pv j).toNat))/\(ch=false->AN A (fun j=>(pv j).toNat))) (fun tv cv wr=>2*(n-EB tv n wr)+zJ cv)
 case atStart=>exact⟨_,pv,true,rfl,rfl,J.u,Nat.le_refl _,br.u,N.u,fun _=>⟨_,HS.u⟩,fun h=>by cases h⟩
 clear HS N br J fb f9 hlt a0 hq;obtain⟨pb,pv,ch,rfl,rfl,aa,g9,M,V,hC,d1⟩:=hrel;obtain⟨w5,rfl⟩ : ∃ w5,w5=wr:=⟨_,rfl⟩;have fc:=M.size;have eb:=aa.lt;cases ch
 ·have J:=ae aa;have br:=ae M;have N:=ae V;have fd:=ae (d1 rfl);clear aa M V hC d1;go_wp2;go_ret;exact⟨_,rfl,fa.u.trans (br.u.mono (by omega)),by omega,_,_,J.u,HR.u,N.u,fd.u⟩
 obtain⟨C,hC⟩:=hC rfl;obtain⟨w6,D⟩ : ∃ w6,w6=w5.alloc (.cells (madeCells #[.int .i64 0] n) 3):=⟨_,rfl⟩;have aw:w6.rowIs w5.heap.size 3 n (fun _=>.int .i64 0):=by rw[D];exact World.rowIs_made w5 _ n _
 have ga:w6.heap.size=w5.heap.size+1:=by rw[D,ah]
 have d2:Below w5.heap.size w5 w6:=by rw[D];exact ai w5 _
 have b5:=M.trans (d2.mono fc);have c5:=e7.u.keep b5 (by omega) (by omega) (by omega) (by omega);have c6:=aa.of_block (d2.block pb eb);have ec:=uZ aa;have ff:=ae ec;have ax:=ae D;have a6:=ae aw;have fg:=ae b5;have b6:=ae c5;have J:=ae c6;have N:=ae V;have HC:=ae hC;clear D aw d2 b5 c5 aa c6 V hC d1 M ec
 go_wp2_with fail;rw[<-ax.u];clear ax
 go_loopw [8,10] (fun cv qv wx=>∃ (q:Nat) (nv:Nat->Int) (ch:Bool),q<=n/\qv=.int .i64 (q:Nat)/\cv=.bool ch/\wx.rowIs w5.heap.size 3 n (fun j=>.int .i64 (nv j))/\cd w5.heap.size w6 wx/\(∀ j,j<q->AO r (fun p=>nv p=(p:Int)) (Dg A pv) j (nv j))/\(ch=true↔∃ j,j<q/\nv j≠pv j)) (fun _ qv _=>n-(intOf qv).toNat)
 case atStart=>exact⟨0,_,false,by omega,rfl,rfl,a6.u,cd.refl _ _,fun j hj=>by omega,⟨fun h=>(by cases h),fun h=>(by obtain⟨j,hj,-⟩:=h;omega)⟩⟩
 clear a6;obtain⟨q,nv,ch,hq,rfl,rfl,hP,hO,hV,b7⟩:=hrel;obtain⟨w7,rfl⟩ : ∃ w7,w7=wr:=⟨_,rfl⟩;have gc:=hO.size
 by_cases hlt:q<n
 ·have a0:(q:Int)<(n:Int):=by omega
  have f:=b6.u.keep hO.blw (by omega) (by omega) (by omega) (by omega);have y0:=f.m.cell (i:=q) hlt;have y1:=hP.cell (i:=q) hlt;have y2:=hP.frozen q;obtain⟨rq,R⟩ : ∃ rq,rq=r q:=⟨_,rfl⟩;rw[<-R]at y0;have G:=fD hP q (-1);have ar:=hO.trans (am (w:=w7) (b:=w5.heap.size) q (.int .i64 (-1)));have y3:=G.cell (i:=q) hlt;have y4:=G.frozen q;have av:=(am (w:=w7) (b:=w5.heap.size) q (.int .i64 (-1))).blw;have y5:(w7.setCell ⟨w5.heap.size,q,none⟩ (.int .i64 (-1))).cell? ⟨mb,q,none⟩=some (.bool rq):=by rw[av.cell (p:=⟨mb,q,none⟩) (by show mb<w5.heap.size;omega)];exact y0
  have S:=ae G;have T:=ae ar;have HV:=ae hV;have H:=ae R;have d3:=ae b7;clear hP hO hV R G ar f av y0 b7;cases rq
  ·go_wp2
   go_roundw
   case rel =>
    have fh:pv q = -1:=by
     rcases N.u q hlt with ⟨-,h⟩|⟨h,-⟩
     ·exact h
     rw[<-H.u]at h;cases h
    refine⟨q+1,_,ch,by omega,by go_num,rfl,S.u,T.u,fun j hj=>?_,?_⟩
    ·by_cases e:j=q
     ·subst e;rw[cH];exact .inl ⟨H.u.symm,rfl⟩
     rw[aZ _ _ e];exact(HV.u j (by omega)).congrL (fun p hp=>by rw[aZ _ _ (by omega)])
    rw[d3.u]
    constructor
    ·rintro⟨j,hj,hd⟩;exact⟨j,by omega,by rw[aZ _ _ (by omega)];exact hd⟩
    rintro⟨j,hj,hd⟩
    by_cases e:j=q
    ·subst e;rw[cH,fh]at hd;exact absurd rfl hd
    rw[aZ _ _ e]at hd;exact⟨j,by omega,hd⟩
   simp[intOf];omega
  obtain⟨w8,bs⟩ : ∃ w8,w8=(w7.setCell ⟨w5.heap.size,q,none⟩ (.int .i64 (-1))).setCell ⟨w5.heap.size,q,none⟩ (.int .i64 (q:Nat)):=⟨_,rfl⟩;have d4:w8.rowIs w5.heap.size 3 n (fun j=>.int .i64 (dV (dV nv q (-1)) q (q:Nat) j)):=by rw[bs];exact fD S.u q _
  have ee:cd w5.heap.size w6 w8:=by rw[bs];exact T.u.trans (am _ _)
  have epv:dV (dV nv q (-1)) q (q:Nat)=dV nv q (q:Nat):=by funext j;by_cases e:j=q<;>simp[dV,e]
  rw[epv]at d4;have a8:=ae d4;have a9:=ae ee;have ek:=ae bs;clear d4 ee bs epv
  go_wp2_with fail;rw[<-ek.u];clear ek S T y1 y2 y3 y4 y5
  go_loopw [11] (fun iv wx=>∃ p:Nat,p<=q/\iv=.int .i64 (p:Nat)/\wx.rowIs w5.heap.size 3 n (fun j=>.int .i64 (dV nv q (q:Nat) j))/\cd w5.heap.size w6 wx/\∀ p',p'<p->r p'=true->nv p'=(p':Int)->¬ Dg A pv p' q) (fun iv _=>q-(intOf iv).toNat)
  case atStart=>exact⟨0,by omega,rfl,a8.u,a9.u,fun p' hp'=>by omega⟩
  clear a8 a9;obtain⟨p,hp,rfl,v,o,I⟩:=hrel;obtain⟨w9,rfl⟩ : ∃ w9,w9=wr:=⟨_,rfl⟩;have gf:=o.size
  by_cases hpl:p<q
  ·have b0:(p:Int)<(q:Int):=by omega
   have ea:(p:Int)<(n:Int):=by omega
   have f:=b6.u.keep o.blw (by omega) (by omega) (by omega) (by omega);have b8:=J.u.of_block (o.block pb (by omega));have y0:=f.m.cell (i:=p) (by omega);have y1:=v.cell (i:=p) (by omega);rw[aZ nv _ (by omega)]at y1;have y2:=b8.cell (i:=p) (by omega);have y3:=b8.cell (i:=q) hlt;obtain⟨rp,U⟩ : ∃ rp,rp=r p:=⟨_,rfl⟩;obtain⟨xn,d5⟩ : ∃ xn,xn=nv p:=⟨_,rfl⟩;obtain⟨xp,d6⟩ : ∃ xp,xp=pv p:=⟨_,rfl⟩;obtain⟨xq,B⟩ : ∃ xq,xq=pv q:=⟨_,rfl⟩;rw[<-U]at y0;rw[<-d5]at y1;rw[<-d6]at y2;rw[<-B]at y3;have g:=ae v;have l:=ae o;have s:=ae I;have a7:=ae U;have el:=ae d5;have em:=ae d6;have O:=ae B;clear v o I U d5 d6 B f b8;cases rp
   ·go_wp2_with fail
    go_quiet (fail);go_wp2
    go_roundw
    case rel=>exact⟨p+1,by omega,by go_num,g.u.of_block rfl,l.u.drewN _,fun p' hp' hr' hl'=>by
     by_cases e:p'=p
     ·subst e;rw[<-a7.u]at hr';cases hr'
     exact s.u p' (by omega) hr' hl'⟩
    simp[intOf];omega
   by_cases c1:xn=(p:Int)
   rotate_left
   ·go_wp2_with fail
    go_quiet (fail);go_wp2
    go_roundw
    case rel=>exact⟨p+1,by omega,by go_num,g.u.of_block rfl,l.u.drewN _,fun p' hp' hr' hl'=>by
     by_cases e:p'=p
     ·subst e;exact absurd (el.u.trans hl') c1
     exact s.u p' (by omega) hr' hl'⟩
    simp[intOf];omega
   by_cases c2:xp=xq
   rotate_left
   ·go_wp2_with fail
    go_quiet (fail);go_wp2
    go_roundw
    case rel=>exact⟨p+1,by omega,by go_num,g.u.of_block rfl,l.u.drewN _,fun p' hp' hr' hl'=>by
     by_cases e:p'=p
     ·subst e;exact fun hh=>c2 (em.u.trans (hh.1.trans O.u.symm))
     exact s.u p' (by omega) hr' hl'⟩
    simp[intOf];omega
   go_wp2_with fail
   go_quiet (fail)
   go_wp2_with fail;clear y0 y1 y2 y3
   go_loopw [12,13] (fun sv cv wy=>∃ (c:Nat) (sm:Bool),c<=k/\cv=.int .i64 (c:Nat)/\sv=.bool sm/\wy.rowIs w5.heap.size 3 n (fun j=>.int .i64 (dV nv q (q:Nat) j))/\cd w5.heap.size w6 wy/\(sm=true->∀ c',c'<c->pv (A.nx p c')=pv (A.nx q c'))/\(sm=false->∃ c',c'<k/\pv (A.nx p c')≠pv (A.nx q c'))) (fun _ cv _=>k-(intOf cv).toNat)
   case atStart=>exact⟨0,true,by omega,rfl,rfl,g.u.of_block rfl,l.u.drewN _,fun _ c' hc'=>by omega,fun h=>by cases h⟩
   clear g l;obtain⟨c,sm,hc,rfl,rfl,Q,K,b9,bt⟩:=hrel;obtain⟨w11,rfl⟩ : ∃ w11,w11=wr:=⟨_,rfl⟩;have fx:=K.size;have f:=b6.u.keep K.blw (by omega) (by omega) (by omega) (by omega);obtain⟨f0,f1,f2,f3,-⟩:=f.d.facts;cases sm
   ·have g:=ae Q;have l:=ae K;have en:=ae (bt rfl);clear Q K b9 bt f
    by_cases hcl:c<k
    ·have bb:(c:Int)<(k:Int):=by omega
     go_wp2
     go_roundw
     case rel=>exact⟨p+1,by omega,by go_num,g.u,l.u,fun p' hp' hr' hl'=>by
      by_cases e:p'=p
      ·subst e;exact fun hh=>by obtain⟨c',h1,h2⟩:=en.u;exact h2 (hh.2 c' (by rw[cs.u];exact h1))
      exact s.u p' (by omega) hr' hl'⟩
     simp[intOf];omega
    have bb:¬ (c:Int)<(k:Int):=by omega
    go_wp2
    go_roundw
    case rel=>exact⟨p+1,by omega,by go_num,g.u,l.u,fun p' hp' hr' hl'=>by
     by_cases e:p'=p
     ·subst e;exact fun hh=>by obtain⟨c',h1,h2⟩:=en.u;exact h2 (hh.2 c' (by rw[cs.u];exact h1))
     exact s.u p' (by omega) hr' hl'⟩
    simp[intOf];omega
   by_cases hcl:c<k
   ·have bb:(c:Int)<(k:Int):=by omega
    obtain⟨v1,v2⟩:=f.x p c (by omega) hcl;obtain⟨u1,u2⟩:=f.x q c hlt hcl;have c7:p*k+c<L:=by rw[HL.u];exact fB (by omega) hcl
    have cb:q*k+c<L:=by rw[HL.u];exact fB hlt hcl
    obtain⟨m,t,a1,ht,gg,a2,a3,a4⟩:=eB (by omega) c7;obtain⟨m',t',b1,ep,fz,b2,b3,b4⟩:=eB (by omega) cb;obtain⟨np,bv⟩ : ∃ y,y=A.nx p c:=⟨_,rfl⟩;obtain⟨nq',bx⟩ : ∃ y,y=A.nx q c:=⟨_,rfl⟩;rw[<-ht,<-bv]at v2;rw[<-ep,<-bx]at u2;rw[<-bv]at v1;rw[<-bx]at u1;have bc:=J.u.of_block (K.block pb (by omega));have y2:=bc.cell (i:=np) v1;have y3:=bc.cell (i:=nq') u1;obtain⟨xv,bz⟩ : ∃ xv,xv=pv np:=⟨_,rfl⟩;obtain⟨yv,c0⟩ : ∃ yv,yv=pv nq':=⟨_,rfl⟩;rw[<-bz]at y2;rw[<-c0]at y3;have v1':(np:Int)<(n:Int):=by omega
    have u1':(nq':Int)<(n:Int):=by omega
    rw[bv]at bz;rw[bx]at c0;have eq:=ae bz;have er:=ae c0;have E:=ae Q;have F:=ae K;have fi:=ae (b9 rfl);clear Q K b9 bt f bz c0 bv bx ht ep c7 cb bc
    by_cases he:xv=yv
    ·go_wp2_with fail
     go_roundw
     case rel=>exact⟨c+1,true,by omega,by go_num,rfl,E.u,F.u,fun _ c' hc'=>by
      by_cases e:c'=c
      ·subst e;rw[<-eq.u,<-er.u];exact he
      exact fi.u c' (by omega),fun h=>by cases h⟩
     simp[intOf];omega
    go_wp2_with fail
    go_roundw
    case rel=>exact⟨c+1,false,by omega,by go_num,by rw[beq_eq_false_iff_ne.mpr he],E.u,F.u,(fun h=>by cases h),fun _=>⟨c,hcl,by rw[<-eq.u,<-er.u];exact he⟩⟩
    simp[intOf];omega
   have bb:¬ (c:Int)<(k:Int):=by omega
   obtain rfl:c=k:=by omega
   have cc:Dg A pv p q:=⟨by rw[<-em.u,<-O.u];exact c2,by rw[cs.u];exact b9 rfl⟩;have y3:=Q.cell (i:=q) hlt;have y4:=Q.frozen q;have bd:AO r (fun p=>nv p=(p:Int)) (Dg A pv) q (p:Nat):=.inr ⟨H.u.symm,p,rfl,.inl ⟨hpl,a7.u.symm,by show nv p=_;rw[<-el.u];exact c1,cc,fun p' hp' hr' hl'=>s.u p' hp' hr' hl'⟩⟩;have bf:=ae bd;obtain⟨w12,a5⟩ : ∃ w12,w12=w11.setCell ⟨w5.heap.size,q,none⟩ (.int .i64 (p:Nat)):=⟨_,rfl⟩;have bi:w12.rowIs w5.heap.size 3 n (fun j=>.int .i64 (dV (dV nv q (q:Nat)) q (p:Nat) j)):=by rw[a5];exact fD Q q (p:Nat)
   have cf:cd w5.heap.size w6 w12:=by rw[a5];exact K.trans (am (w:=w11) (b:=w5.heap.size) q (.int .i64 (p:Nat)))
   have ci:=ae a5;have epv:dV (dV nv q (q:Nat)) q (p:Nat)=dV nv q (p:Nat):=by funext j;by_cases e:j=q<;>simp[dV,e]
   rw[epv]at bi;have E:=ae bi;have F:=ae cf;clear Q K b9 bt f cc bd bi cf epv a5
   go_wp2_with fail;rw[<-ci.u];clear ci;have W:=F.u;have fj:=W.size;have bj:=J.u.of_block (w':=w12) (W.block pb (by omega));have z0:=E.u.cell (i:=q) hlt;rw[cH]at z0;have z1:=bj.cell (i:=q) hlt;obtain⟨xq,B⟩ : ∃ xq,xq=pv q:=⟨_,rfl⟩;rw[<-B]at z1;obtain⟨mv,X⟩ : ∃ mv:Int,mv=((p:Nat):Int):=⟨_,rfl⟩;rw[<-X]at z0;have O:=ae B;have bl:=ae X;clear W bj B X
   by_cases he:mv=xq
   ·go_wp2_with fail
    go_quiet (fail);go_wp2
    go_roundw
    case rel =>
     refine⟨q+1,_,ch,by omega,by go_num,rfl,E.u.of_block rfl,F.u.drewN _,fun j hj=>?_,?_⟩
     ·by_cases e:j=q
      ·subst e;rw[cH];exact bf.u.congrL (fun p hp=>by rw[aZ _ _ (by omega)])
      rw[aZ _ _ e];exact(HV.u j (by omega)).congrL (fun p hp=>by rw[aZ _ _ (by omega)])
     rw[d3.u]
     constructor
     ·rintro⟨j,hj,hd⟩;exact⟨j,by omega,by rw[aZ _ _ (by omega)];exact hd⟩
     rintro⟨j,hj,hd⟩
     by_cases e:j=q
     ·subst e;rw[cH,<-O.u,<-bl.u]at hd;exact absurd he hd
     rw[aZ _ _ e]at hd;exact⟨j,by omega,hd⟩
    simp[intOf];omega
   go_wp2_with fail
   go_quiet (fail);go_wp2
   go_roundw
   case rel =>
    refine⟨q+1,_,true,by omega,by go_num,rfl,E.u.of_block rfl,F.u.drewN _,fun j hj=>?_,?_⟩
    ·by_cases e:j=q
     ·subst e;rw[cH];exact bf.u.congrL (fun p hp=>by rw[aZ _ _ (by omega)])
     rw[aZ _ _ e];exact(HV.u j (by omega)).congrL (fun p hp=>by rw[aZ _ _ (by omega)])
    exact⟨fun _=>⟨q,by omega,by rw[cH,<-O.u,<-bl.u];exact he⟩,fun _=>rfl⟩
   simp[intOf];omega
  have b0:¬ (p:Int)<(q:Int):=by omega
  obtain rfl:p=q:=by omega
  obtain⟨q,rfl⟩ : ∃ q,q=p:=⟨_,rfl⟩;have bd:AO r (fun p=>nv p=(p:Int)) (Dg A pv) q (q:Nat):=.inr ⟨H.u.symm,q,rfl,.inr ⟨rfl,fun p' hp' hr' hl'=>I p' hp' hr' hl'⟩⟩;have bf:=ae bd;have E:=ae v;have F:=ae o;clear v o I bd
  go_wp2_with fail;have W:=F.u;have fj:=W.size;have bj:=J.u.of_block (w':=w9) (W.block pb (by omega));have z0:=E.u.cell (i:=q) hlt;rw[cH]at z0;have z1:=bj.cell (i:=q) hlt;obtain⟨xq,B⟩ : ∃ xq,xq=pv q:=⟨_,rfl⟩;rw[<-B]at z1;obtain⟨mv,X⟩ : ∃ mv:Int,mv=((q:Nat):Int):=⟨_,rfl⟩;rw[<-X]at z0;have O:=ae B;have bl:=ae X;clear W bj B X
  by_cases he:mv=xq
  ·go_wp2_with fail
   go_quiet (fail);go_wp2
   go_roundw
   case rel =>
    refine⟨q+1,_,ch,by omega,by go_num,rfl,E.u.of_block rfl,F.u.drewN _,fun j hj=>?_,?_⟩
    ·by_cases e:j=q
     ·subst e;rw[cH];exact bf.u.congrL (fun p hp=>by rw[aZ _ _ (by omega)])
     rw[aZ _ _ e];exact(HV.u j (by omega)).congrL (fun p hp=>by rw[aZ _ _ (by omega)])
    rw[d3.u]
    constructor
    ·rintro⟨j,hj,hd⟩;exact⟨j,by omega,by rw[aZ _ _ (by omega)];exact hd⟩
    rintro⟨j,hj,hd⟩
    by_cases e:j=q
    ·subst e;rw[cH,<-O.u,<-bl.u]at hd;exact absurd he hd
    rw[aZ _ _ e]at hd;exact⟨j,by omega,hd⟩
   simp[intOf];omega
  go_wp2_with fail
  go_quiet (fail);go_wp2
  go_roundw
  case rel =>
   refine⟨q+1,_,true,by omega,by go_num,rfl,E.u.of_block rfl,F.u.drewN _,fun j hj=>?_,?_⟩
   ·by_cases e:j=q
    ·subst e;rw[cH];exact bf.u.congrL (fun p hp=>by rw[aZ _ _ (by omega)])
    rw[aZ _ _ e];exact(HV.u j (by omega)).congrL (fun p hp=>by rw[aZ _ _ (by omega)])
   exact⟨fun _=>⟨q,by omega,by rw[cH,<-O.u,<-bl.u];exact he⟩,fun _=>rfl⟩
  simp[intOf];omega
 have a0:¬ (q:Int)<(n:Int):=by omega
 obtain rfl:q=n:=by omega
 have d7:qw r q nv:=tK (L:=fun _ p=>nv p=(p:Int)) hV;have c3:=AX HC.u HW.u HF.u (by rw[z.u];exact HR.u) (by rw[z.u];exact N.u) (by rw[z.u];exact hV);have es:=uZ hP;have et:=fg.u.trans (hO.blw.mono (by omega));have ev:ch=true->nG pv q<nG nv q:=fun h=>by
  have:=Bu HC.u c3 HW.u (by rw[z.u];exact HR.u) (by rw[z.u];exact N.u) (by rw[z.u];exact d7) (by rw[z.u];exact b7.1 h);rw[z.u]at this;exact this
 have Y:ch=false->∀ j,j<q->nv j=pv j:=fun h j hj=>Classical.byContradiction fun hd=>by
  have:=b7.2 ⟨j,hj,hd⟩;rw[h]at this;cases this
 have ck:ch=false->AN A (fun j=>(nv j).toNat):=fun h=>DM HC.u c3 HW.u (by rw[z.u];exact Y h)
 have ex:ch=false->nG nv q=nG pv q:=fun h=>gI q fun j hj=>by rw[Y h j hj]
 have co:=uI nv q;have cp:=uI pv q;have HP:=ae hP;have fk:=ae d7;have fl:=ae c3;have fn:=ae es;have fo:=ae et;have fp:=ae ev;have ey:=ae ck;have fr:=ae ex;have f4:=ae co;have f5:=ae cp;clear hP d7 c3 es et ev ck ex Y b7 hV hO co cp;go_wp2
 go_roundw
 case rel=>exact⟨_,nv,ch,rfl,rfl,HP.u,by omega,fo.u,fk.u,fun _=>⟨_,fl.u⟩,ey.u⟩
 rw[fn.u,ff.u];have g1:=fp.u;have g2:=fr.u;have g3:=f4.u;have g4:=f5.u;cases ch
 ·have:=g2 rfl;simp only[zJ];omega
 have:=g1 rfl;simp only[zJ];omega
theorem rP(g o:Nat)(a:Option Addr)(l c:Nat)(w:World)(h0:w.cell? ⟨g,o,none⟩=some (.slice a l c))(h1:w.cell? ⟨g,o+1,none⟩=some (.int .i64 l)) :
  Calls prog 104 #[.pointer (some ⟨g,o,none⟩)] w fun e w'=>e=.returned (.tuple #[.int .i64 0,.bool false])/\∃ q,w'=w.drewN q:=by
 go_enter func104,ntmps104
 go_wp2_with fail
 go_quiet (fail);go_wp2
 go_ret2;exact⟨rfl,_,rfl⟩
theorem sG(g o b off:Nat)(t:Nat)(x:Int)(l c:Nat)(w:World)(hl:l<=1000000)(ht:t<l)(h0:w.cell? ⟨g,o,none⟩=some (.slice (some ⟨b,off,none⟩) l c))(h1:w.cell? ⟨g,o+1,none⟩=some (.int .i64 t))(h2:w.cell? ⟨b,off+t,none⟩=some (.int .i64 x))(hz:w.frozen? ⟨g,o+1,none⟩=false) :
  Calls prog 104 #[.pointer (some ⟨g,o,none⟩)] w fun e w'=>e=.returned (.tuple #[.int .i64 x,.bool true])/\∃ q,w'=(w.drewN q).setCell ⟨g,o+1,none⟩ (.int .i64 ((t:Int)+1)):=by
 have a:(t:Int)≠(l:Int):=by omega
 have d:(t:Int)<(l:Int):=by omega
 have hw:wrap64 ((t:Int)+1)=(t:Int)+1:=xx (by omega) (by omega)
 go_enter func104,ntmps104
 go_wp2_with fail
 go_quiet (fail)
 go_wp2_with fail
 go_quiet (fail);go_wp2
 go_ret2;exact⟨rfl,_,rfl⟩
end Go.Proofs.YtpmcjimgkabpeaaGreatDoor
