import Derived.Test.YtidfkbghlkcbeaaGreatDoorPk22
namespace Go.Proofs.YtidfkbghlkcbeaaGreatDoor
open Go.RowKit Go.Proofs.Tryz
set_option maxHeartbeats 16000000
set_option maxRecDepth 100000
structure oB (A:Tb) (l:List Nat) (i c:Nat):Prop where
 nd:l.Nodup
 lt:∀ x∈l,x<A.n
 z:0∈l
 rc:∀ x∈l,A.Rch x
 cl:∀ j x,j<i->l[j]?=some x->∀ c',c'<A.k->A.nx x c'∈l
 cc:∀ x,l[i]?=some x->∀ c',c'<c->A.nx x c'∈l
theorem oB.start{A:Tb}(hw:A.Wf):oB A [0] 0 0:=⟨by simp,(fun x hx=>by rw[List.mem_singleton]at hx;rw[hx];exact hw.pos),.head _,(fun x hx=>by rw[List.mem_singleton]at hx;rw[hx];exact Tb.Rch.zero A),fun j x hj=>by omega,fun x _ c' hc=>by omega⟩
theorem oB.old{A:Tb}{l:List Nat}{i c x:Nat}(h:oB A l i c)(hx:l[i]?=some x)(hm:A.nx x c∈l):oB A l i (c+1):=⟨h.nd,h.lt,h.z,h.rc,h.cl,fun y hy c' hc=>by
 rw[hx]at hy;cases hy
 by_cases e:c'=c
 ·rw[e];exact hm
 exact h.cc x hx c' (by omega)⟩
theorem oB.new{A:Tb}{l:List Nat}{i c x:Nat}(h:oB A l i c)(hw:A.Wf)(hf:A.Full)(hc:c<A.k)(hx:l[i]?=some x)(hm:A.nx x c ∉ l):oB A (l++[A.nx x c]) i (c+1):=by
 have f:=(List.getElem?_eq_some_iff.1 hx).1;have d:=List.mem_of_getElem? hx;refine⟨?_,fun y hy=>?_,List.mem_append_left _ h.z,fun y hy=>?_,fun j y hj hy c' hc'=>?_,fun y hy c' hc'=>?_⟩
 ·rw[List.nodup_append];exact⟨h.nd,by simp,fun a ha b hb e=>by rw[List.mem_singleton]at hb;rw[<-hb,<-e]at hm;exact hm ha⟩
 ·rcases List.mem_append.1 hy with k|k
  ·exact h.lt y k
  rw[List.mem_singleton]at k;rw[k];exact hw.nxt x c (h.lt x d) hc
 ·rcases List.mem_append.1 hy with k|k
  ·exact h.rc y k
  rw[List.mem_singleton]at k;rw[k];exact(h.rc x d).nx hf hc
 ·rw[List.getElem?_append_left (by omega)]at hy;exact List.mem_append_left _ (h.cl j y hj hy c' hc')
 rw[List.getElem?_append_left f,hx]at hy;cases hy
 by_cases e:c'=c
 ·rw[e];exact List.mem_append_right _ (.head _)
 exact List.mem_append_left _ (h.cc x hx c' (by omega))
theorem oB.next{A:Tb}{l:List Nat}{i:Nat}(h:oB A l i A.k):oB A l (i+1) 0:=⟨h.nd,h.lt,h.z,h.rc,fun j x hj hx c' hc=>by
 by_cases e:j=i
 ·subst e;exact h.cc x hx c' hc
 exact h.cl j x (by omega) hx c' hc,fun x _ c' hc=>by omega⟩
theorem oB.fin{A:Tb}{l:List Nat}(h:oB A l l.length 0)(hw:A.Wf)(q:Nat):q∈l↔A.Rch q:=by
 refine⟨h.rc q,?_⟩;rintro⟨w,a,rfl⟩;have key:∀ (w:List Nat) (p:Nat),p∈l->Wd w->A.run p w∈l:=by
  intro w
  induction w with
  | nil=>intro p hp _;exact hp
  | cons b w ih =>
   intro p hp a;obtain⟨j,hj⟩:=List.getElem?_of_mem hp;exact ih _ (h.cl j p (List.getElem?_eq_some_iff.1 hj).1 hj _ (hw.cls b (a b (.head _)))) fun x hx=>a x (.tail _ hx)
 exact key w 0 h.z a
theorem Tryz.zinBoR:(prog.info? 4).map (fun i=>(i.zero,i.size,i.bytes))=some (some (.bool false),1,1):=by kernel_rfl
theorem qX(A:Tb)(n k:Nat)(cl:Value)(b off cN ab ao ca:Nat)(w:World)(hAn:A.n=n)(hAk:A.k=k)(hw:A.Wf)(hf:A.Full)(hn:n<=1024)(hk:1<=k/\k<=256)(hb:b<w.heap.size)(hx:kw w b off n k A.nx) :
  Calls prog 74 #[.agg #[cl,.int .i64 (k:Nat),.slice (some ⟨b,off,none⟩) (n*k) cN,.slice (some ⟨ab,ao,none⟩) n ca]] w fun e w'=>∃ mb,e=.returned (.slice (some ⟨mb,0,none⟩) n n)/\Below w.heap.size w w'/\w.heap.size<=mb/\
   ∃ r:Nat->Bool,w'.rowIs mb 4 n (fun q=>.bool (r q))/\∀ q,q<n->(r q=true↔A.Rch q):=by
 obtain⟨i0,ap,aq,ar,av⟩:=info_parts Tryz.zinInt;have b5:1<=n:=by rw[<-hAn];exact hw.pos
 have aw:n*k<=1024*256:=Nat.mul_le_mul hn hk.2;obtain⟨L,hL⟩ : ∃ L,L=n*k:=⟨_,rfl⟩;rw[<-hL]at aw ⊢;have ax:=run_make_row' (P:=prog) 28 4 (.bool false) 1 underlying28 Tryz.zinBoR rfl .i64 .i64 n (by omega) (by omega);have HL:=ae hL;have HX:=ae hx;have E:=ae hAn;have K:=ae hAk;have HW:=ae hw;have HF:=ae hf;clear hL hx hAn hAk hw hf;have b6:(0:Int)<(n:Int):=by omega
 obtain⟨W1,o⟩ : ∃ W1,W1=w.alloc (.cells #[cl,.int .i64 (k:Nat),.slice (some ⟨b,off,none⟩) L cN,.slice (some ⟨ab,ao,none⟩) n ca] 30):=⟨_,rfl⟩;have f:W1.heap.size=w.heap.size+1:=by rw[o,ah]
 have F:aC W1 w.heap.size 30 cl (.int .i64 (k:Nat)) (.slice (some ⟨b,off,none⟩) L cN) (.slice (some ⟨ab,ao,none⟩) n ca):=by rw[o];exact aC.new w _ _ _ _ _
 have s:(W1.alloc (.cells (madeCells #[.bool false] n) 4)).rowIs (w.heap.size+1) 4 n (fun _=>.bool false):=by
  have:=World.rowIs_made W1 (.bool false) n 4;rw[f]at this;exact this
 have x0:=s.cell (i:=0) (by omega);have x1:=s.frozen 0;obtain⟨W4,d⟩ : ∃ W4,W4=(W1.alloc (.cells ((madeCells #[.bool false] n).setIfInBounds 0 (.bool true)) 4)).alloc (.cells #[.int .i64 0] 3):=⟨_,rfl⟩;have b3:W4.heap.size=w.heap.size+3:=by rw[d,ah,ah,f]
 have M:W4.rowIs (w.heap.size+1) 4 n (fun q=>.bool (decide (q∈[0]))):=by
  rw[d];have hs:((madeCells #[Value.bool false] n).setIfInBounds 0 (.bool true)).size=n:=by rw[Array.size_setIfInBounds];exact size_madeCells _ _
  have:=World.rowIs_alloc W1 ((madeCells #[Value.bool false] n).setIfInBounds 0 (.bool true)) 4 (fun q=>.bool (decide (q∈[0]))) (fun j hj=>by
   rw[hs]at hj;rw[Array.getElem?_setIfInBounds]
   by_cases e:j=0
   ·subst e;rw[if_pos rfl,if_pos (by rw[size_madeCells];omega)];simp
   rw[if_neg (fun h=>e h.symm)];simp[madeCells,hj,e,Nat.mod_one])
  rw[hs,f]at this;exact this.alloc _
 have N:Below w.heap.size w W4:=by
  rw[d,o];exact(aI w _ _).alloc (by rw[ah,ah];omega) _
 have O:aC W4 w.heap.size 30 cl (.int .i64 (k:Nat)) (.slice (some ⟨b,off,none⟩) L cN) (.slice (some ⟨ab,ao,none⟩) n ca):=by
  rw[d];exact(F.alloc _).alloc _
 have v:W4.ownsRow (w.heap.size+2) 3 1 (.slice (some ⟨w.heap.size+2,0,none⟩) 1 1) 1 ([0].map mN):=by
  refine⟨rfl,.inr ⟨_,1,#[.int .i64 0],rfl,Nat.le_refl _,?_,Nat.le_refl _,by unfold maxLen;omega,rfl,rfl⟩⟩;have e:(W1.alloc (.cells ((madeCells #[.bool false] n).setIfInBounds 0 (.bool true)) 4)).heap.size=w.heap.size+2:=by rw[ah,f]
  rw[d,<-e];exact(MapKept.heap_alloc _ _).1
 obtain⟨e0,e1,e2,e3,-⟩:=F.facts;rw[o]at e0 e1 e2 e3 x0 x1;have Q:=ae o;have R:=ae d;have S:=ae M;have T:=ae O;have U:=ae N;have V:=ae v;clear o d M O N v F s
 go_enter func74,ntmps74
 go_wp2_with fail;rw[<-Q.u,<-R.u];clear Q R e0 e1 e2 e3 x0 x1 ax;simp only[Nat.add_assoc,Nat.reduceAdd]
 go_loopw [5,6] (fun lv iv wr=>∃ (i:Nat) (l:List Nat),i<=l.length/\iv=.int .i64 (i:Nat)/\wr.ownsRow (w.heap.size+2) 3 1 lv l.length (l.map mN)/\wr.rowIs (w.heap.size+1) 4 n (fun q=>.bool (decide (q∈l)))/\aC wr w.heap.size 30 cl (.int .i64 (k:Nat)) (.slice (some ⟨b,off,none⟩) L cN) (.slice (some ⟨ab,ao,none⟩) n ca)/\Below w.heap.size w wr/\w.heap.size+3<=wr.heap.size/\oB A l i 0) (fun _ iv _=>n+1-(intOf iv).toNat)
 case atStart=>exact⟨0,[0],by omega,rfl,V.u,S.u,T.u,U.u,by omega,oB.start HW.u⟩
 clear V S T U;obtain⟨i,l,hi,rfl,a,hM,hD,hB,hz,hR⟩:=hrel;have W:=bT n l hR.nd (by rw[<-E.u];exact hR.lt);obtain⟨la,lc,rfl⟩:=aj a
 by_cases hlt:i<l.length
 ·have z:(i:Int)<(l.length:Int):=by omega
  have HO:=ae a;have HM:=ae hM;have HD:=ae hD;have HB:=ae hB;have HR:=ae hR;obtain⟨f0,f1,f2,f3,-⟩:=hD.facts;clear a hM hD hB hR
  go_wp2_with fail
  go_loopw [5,7] (fun lv cv wx=>∃ (c:Nat) (l:List Nat),c<=k/\cv=.int .i64 (c:Nat)/\i<l.length/\wx.ownsRow (w.heap.size+2) 3 1 lv l.length (l.map mN)/\wx.rowIs (w.heap.size+1) 4 n (fun q=>.bool (decide (q∈l)))/\aC wx w.heap.size 30 cl (.int .i64 (k:Nat)) (.slice (some ⟨b,off,none⟩) L cN) (.slice (some ⟨ab,ao,none⟩) n ca)/\Below w.heap.size w wx/\w.heap.size+3<=wx.heap.size/\oB A l i c) (fun _ cv _=>k-(intOf cv).toNat)
  case atStart=>exact⟨0,l,by omega,rfl,hlt,HO.u,HM.u,HD.u,HB.u,hz,HR.u⟩
  clear HO HM HD HB HR f0 f1 f2 f3 hlt z hi W hz;obtain⟨c,l,hc,rfl,hlt,a,hM,hD,hB,hz,hR⟩:=hrel;have W:=bT n l hR.nd (by rw[<-E.u];exact hR.lt);obtain⟨f0,f1,f2,f3,-⟩:=hD.facts
  by_cases hcl:c<k
  ·have X:(c:Int)<(k:Int):=by omega
   obtain⟨x,hx⟩ : ∃ x,l[i]?=some x:=⟨_,List.getElem?_eq_getElem hlt⟩;have Y:x<n:=by rw[<-E.u];exact hR.lt x (List.mem_of_getElem? hx)
   obtain⟨lg,lcap,e9,B⟩:=eu a (by omega);subst e9;have y0:wr.cell? ⟨lg,i,none⟩=some (.int .i64 (x:Nat)):=by rw[B i hlt,List.getElem?_map,hx];rfl
   have z:(i:Int)<(l.length:Int):=by omega
   obtain⟨v1,v2⟩:=HX.u x c Y hcl;have D:x*k+c<L:=by rw[HL.u];exact cO Y hcl
   obtain⟨m,t,a1,ht,b7,a2,a3,a4⟩:=cP (by omega) D;clear D;obtain⟨nxt,g⟩ : ∃ y,y=A.nx x c:=⟨_,rfl⟩;rw[<-ht,<-g]at v2;have y1:wr.cell? ⟨b,off+t,none⟩=some (.int .i64 (nxt:Nat)):=by rw[hB.cell (p:=⟨b,off+t,none⟩) hb];exact v2
   rw[<-g]at v1;have y2:=hM.cell (i:=nxt) v1;have y3:=hM.frozen nxt;have v1':(nxt:Int)<(n:Int):=by omega
   have G:=ae g;have Z:=ae hx;have HO:=ae a;have HM:=ae hM;have HD:=ae hD;have HB:=ae hB;have HR:=ae hR;have b4:=(a.lt lg rfl).1;clear a hM hD hB hR B v2 ht g hx
   by_cases hmem:nxt∈l
   ·rw[decide_eq_true hmem]at y2;have H:=ae hmem;clear hmem
    go_wp2_with fail
    go_quiet (fail);go_wp2
    go_roundw
    case rel=>exact⟨c+1,l,by omega,by go_num,hlt,HO.u,HM.u.of_block rfl,World.rowIs.of_block HD.u rfl,below_drewN HB.u _,hz,HR.u.old Z.u (by rw[<-G.u];exact H.u)⟩
    simp[intOf];omega
   rw[decide_eq_false hmem]at y2;have H:=ae hmem;clear hmem
   go_wp2_with fail
   go_quiet (fail);have a0:((wr.drewN nq).setCell ⟨w.heap.size+1,nxt,none⟩ (.bool true)).heap.size=wr.heap.size:=(am (w:=wr.drewN nq) nxt (.bool true)).size;have a5:((wr.drewN nq).setCell ⟨w.heap.size+1,nxt,none⟩ (.bool true)).ownsRow (w.heap.size+2) 3 1 (.slice (some ⟨lg,0,none⟩) l.length lcap) l.length (l.map mN):=ak HO.u (fun q hq=>(am (w:=wr.drewN nq) nxt (.bool true)).block q (by have:=(HO.u.lt q hq).1;omega));have s:((wr.drewN nq).setCell ⟨w.heap.size+1,nxt,none⟩ (.bool true)).rowIs (w.heap.size+1) 4 n (fun q=>.bool (decide (q∈l++[nxt]))):=by
    have b0:(wr.drewN nq).rowIs (w.heap.size+1) 4 n (fun q=>.bool (decide (q∈l))):=HM.u.of_block rfl;refine(World.rowIs.set b0 nxt (.bool true)).congr (fun j hj=>?_)
    by_cases e:j=nxt
    ·subst e;simp
    simp[e]
   have a6:Below w.heap.size w ((wr.drewN nq).setCell ⟨w.heap.size+1,nxt,none⟩ (.bool true)):=by
    have h1:=below_drewN HB.u nq;have h2:=am (w:=wr.drewN nq) (b:=w.heap.size+1) nxt (.bool true);exact⟨h2.os.trans h1.os,h2.tape.trans h1.tape,h2.output.trans h1.output,Nat.le_trans h1.size (Nat.le_of_eq h2.size.symm),fun k hk=>(h2.block k (by omega)).trans (h1.block k hk)⟩
   have a7:aC ((wr.drewN nq).setCell ⟨w.heap.size+1,nxt,none⟩ (.bool true)) w.heap.size 30 cl (.int .i64 (k:Nat)) (.slice (some ⟨b,off,none⟩) L cN) (.slice (some ⟨ab,ao,none⟩) n ca):=World.rowIs.of_block HD.u ((am (w:=wr.drewN nq) nxt (.bool true)).block w.heap.size (by omega));have I:=ae a5;have a8:=ae s;have a9:=ae a6;have aa:=ae a7;clear a5 s a6 a7
   go_wp2_with (at_builtin;refine wpList_append_own_at _ rfl _ _ 27 rfl (w.heap.size+2) 3 i0 (.int .i64 0) 1 8 underlying27 ap aq ar av rfl (by decide) _ _ _ rfl (I.u.alloc _) ⟨wr.heap.size,0,none⟩ 1 1 [.int .i64 (nxt:Nat)] rfl rfl ?_ ?_ ?_ ?_ ?_ ?_)
   ·rw[<-a0];exact ef (dt _ _ _)
   ·intro u hu;simp at hu;subst hu;rfl
   ·unfold maxLen;omega
   ·omega
   ·rw[ah,a0];omega
   intro v' w6 r1 r2 _ r3;have C:Below (w.heap.size+2) ((wr.drewN nq).setCell ⟨w.heap.size+1,nxt,none⟩ (.bool true)) w6:=((ai _ _).mono (by omega)).grown r2 (by rw[ah];omega) (fun k hk=>(I.u.lt k hk).1);have b8:=C.size;have ad:=ae (a8.u.of_block (C.block (w.heap.size+1) (by omega)));have b1:=ae (aa.u.below C (by omega));have b2:=ae (a9.u.trans (C.mono (by omega)));have e9:(l.map mN++[.int .i64 (nxt:Nat)])=(l++[nxt]).map mN:=by rw[List.map_append];rfl
   have e8:l.length+1=(l++[nxt]).length:=by simp
   rw[e9,e8]at r1;obtain⟨va,vc,rfl⟩:=aj r1;have af:=ae r1;have ag:oB A (l++[nxt]) i (c+1):=by
    have:=HR.u.new HW.u HF.u (by rw[K.u];exact hcl) Z.u (by rw[<-G.u];exact H.u);rw[<-G.u]at this;exact this
   have al:=ae ag;obtain⟨l2,J⟩ : ∃ l2,l2=l++[nxt]:=⟨_,rfl⟩;rw[<-J]at af al ad ⊢;have an:i<l2.length:=by rw[J];simp;omega
   clear r1 r2 r3 C I a8 a9 aa e9 e8 J ag y0 y1 y2 y3;go_wp2
   go_roundw
   case rel=>exact⟨c+1,l2,by omega,by go_num,an,af.u,ad.u,b1.u,b2.u,by omega,al.u⟩
   simp[intOf];omega
  have X:¬ (c:Int)<(k:Int):=by omega
  obtain rfl:c=k:=by omega
  have HO:=ae a;have HM:=ae hM;have HD:=ae hD;have HB:=ae hB;rw[<-K.u]at hR;have HR:=ae hR.next;clear a hM hD hB hR;go_wp2
  go_roundw
  case rel=>exact⟨i+1,l,by omega,by go_num,HO.u,HM.u,HD.u,HB.u,hz,HR.u⟩
  simp[intOf];omega
 have z:¬ (i:Int)<(l.length:Int):=by omega
 obtain rfl:i=l.length:=by omega
 have HM:=ae hM;have HB:=ae hB;have HR:=ae hR;clear hM hB hR hD a;go_wp2;go_ret;exact⟨_,rfl,HB.u,by omega,_,HM.u,fun q hq=>by rw[decide_eq_true_iff];exact HR.u.fin HW.u q⟩
theorem ce.drewN{g:Nat}{a b:World}(h:ce g a b)(q:Nat):ce g a (b.drewN q):=⟨h.os,h.tape,h.output,h.size,h.block⟩
theorem ce.blw{g:Nat}{a b:World}(h:ce g a b):Below g a b:=⟨h.os,h.tape,h.output,Nat.le_of_eq h.size.symm,fun k hk=>h.block k (by omega)⟩
structure FF (A:Tb) (n k:Nat) (cl:Value) (b off L cN ab ao ca D mb:Nat) (r:Nat->Bool) (w:World):Prop where
 d:aC w D 30 cl (.int .i64 (k:Nat)) (.slice (some ⟨b,off,none⟩) L cN) (.slice (some ⟨ab,ao,none⟩) n ca)
 m:w.rowIs mb 4 n (fun q=>.bool (r q))
 x:kw w b off n k A.nx
 a:∀ q,q<n->w.cell? ⟨ab,ao+q,none⟩=some (.bool (A.ac q))
theorem FF.keep{A:Tb}{n k:Nat}{cl:Value}{b off L cN ab ao ca D mb g:Nat}{r:Nat->Bool}{w w':World}(h:FF A n k cl b off L cN ab ao ca D mb r w)(hB:Below g w w')(h1:D<g)(h2:mb<g)(h3:b<g)(h4:ab<g):FF A n k cl b off L cN ab ao ca D mb r w' where
 d:=h.d.below hB h1
 m:=h.m.of_block (hB.block mb h2)
 x:=fun q c hq hc=>⟨(h.x q c hq hc).1,by rw[hB.cell (p:=⟨b,off+(q*k+c),none⟩) h3];exact(h.x q c hq hc).2⟩
 a:=fun q hq=>by rw[hB.cell (p:=⟨ab,ao+q,none⟩) h4];exact h.a q hq
def ej(pv:Nat->Int)(q:Nat)(v:Int):Nat->Int:=fun j=>if j=q then v else pv j
theorem cG(pv:Nat->Int)(q:Nat)(v:Int):ej pv q v q=v:=by simp[ej]
theorem bh(pv:Nat->Int){q j:Nat}(v:Int)(h:j≠q):ej pv q v j=pv j:=by simp[ej,h]
theorem fC{w:World}{g n:Nat}{pv:Nat->Int}(h:w.rowIs g 3 n (fun j=>.int .i64 (pv j)))(q:Nat)(v:Int):(w.setCell ⟨g,q,none⟩ (.int .i64 v)).rowIs g 3 n (fun j=>.int .i64 (ej pv q v j)):=
 (World.rowIs.set h q _).congr (fun j _=>by by_cases e:j=q<;>simp[ej,e])
def Fm(v:Value)(n:Nat)(w:World):Nat:=nP (fun q=>intOf ((w.cell? ⟨v.ownBlock.getD 0,q,none⟩).getD undef)) n
theorem vz{w:World}{g n:Nat}{pv:Nat->Int}(h:w.rowIs g 3 n (fun j=>.int .i64 (pv j))):Fm (.slice (some ⟨g,0,none⟩) n n) n w=nP pv n:=
 gI n fun q hq=>by
  have:w.cell? ⟨g,q,none⟩=some (.int .i64 (pv q)):=h.cell hq;show decide (intOf ((w.cell? ⟨g,q,none⟩).getD undef)=(q:Int))=_;rw[this]
  rfl
def yQ:Value->Nat
 | .bool true=>1
 | _=>0
theorem qt(A:Tb)(n k:Nat)(cl:Value)(b off cN ab ao ca:Nat)(w:World)(hAn:A.n=n)(hAk:A.k=k)(hw:A.Wf)(hf:A.Full)(hn:n<=1024)(hk:1<=k/\k<=256)(hb:b<w.heap.size)(hx:kw w b off n k A.nx)(hab:ab<w.heap.size)(hac:∀ q,q<n->w.cell? ⟨ab,ao+q,none⟩=some (.bool (A.ac q))) :
  Calls prog 41 #[.agg #[cl,.int .i64 (k:Nat),.slice (some ⟨b,off,none⟩) (n*k) cN,.slice (some ⟨ab,ao,none⟩) n ca]] w fun e w'=>∃ pb,e=.returned (.slice (some ⟨pb,0,none⟩) n n)/\Below w.heap.size w w'/\w.heap.size<=pb/\
   ∃ (pv:Nat->Int) (r:Nat->Bool),w'.rowIs pb 3 n (fun q=>.int .i64 (pv q))/\(∀ q,q<n->(r q=true↔A.Rch q))/\qH r n pv/\AP A (fun j=>(pv j).toNat):=by
 have g0:1<=n:=by rw[<-hAn];exact hw.pos
 have f6:n*k<=1024*256:=Nat.mul_le_mul hn hk.2;have cs:=ae (fun (W1:World) (hB:Below w.heap.size w W1)=>qX A n k cl b off cN ab ao ca W1 hAn hAk hw hf hn hk (Nat.lt_of_lt_of_le hb hB.size) (fun q c hq hc=>⟨(hx q c hq hc).1,by rw[hB.cell (p:=⟨b,off+(q*k+c),none⟩) hb];exact(hx q c hq hc).2⟩));obtain⟨L,hL⟩ : ∃ L,L=n*k:=⟨_,rfl⟩;rw[<-hL]at f6 ⊢;rw[<-hL]at cs;have g5:=run_make_row' (P:=prog) 27 3 (.int .i64 0) 8 underlying27 Tryz.zinInt rfl .i64 .i64 n (by omega) (by omega);have HL:=ae hL;have HX:=ae hx;have f7:=ae hac;have z:=ae hAn;have ct:=ae hAk;have HW:=ae hw;have HF:=ae hf;clear hL hx hAn hAk hw hf hac;obtain⟨W1,ad⟩ : ∃ W1,W1=w.alloc (.cells #[cl,.int .i64 (k:Nat),.slice (some ⟨b,off,none⟩) L cN,.slice (some ⟨ab,ao,none⟩) n ca] 30):=⟨_,rfl⟩;have fs:W1.heap.size=w.heap.size+1:=by rw[ad,ah]
 have cw:Below w.heap.size w W1:=by rw[ad];exact ai w _
 have cx:aC W1 w.heap.size 30 cl (.int .i64 (k:Nat)) (.slice (some ⟨b,off,none⟩) L cN) (.slice (some ⟨ab,ao,none⟩) n ca):=by rw[ad];exact aC.new w _ _ _ _ _
 have d9:=ae (cs.u W1 cw);obtain⟨e0,e1,e2,e3,-⟩:=cx.facts;have db:=ae ad;have f8:=ae cw;have df:=ae cx;clear ad cw cx cs
 go_enter func41,ntmps41
 go_wp2_with fail;rw[<-db.u];refine d9.u.mono ?_;rintro e w2 ⟨mb,rfl,bo,g6,r,cy,hr⟩;have g7:=bo.size;have fv:=cy.lt;have Z:Below w.heap.size w w2:=f8.u.trans (bo.mono (by omega));obtain⟨w3,af⟩ : ∃ w3,w3=w2.alloc (.cells (madeCells #[.int .i64 0] n) 3):=⟨_,rfl⟩;have ds:w3.rowIs w2.heap.size 3 n (fun _=>.int .i64 0):=by rw[af];exact World.rowIs_made w2 _ n _
 have f9:w3.heap.size=w2.heap.size+1:=by rw[af,ah]
 have ag:Below w2.heap.size w2 w3:=by rw[af];exact ai w2 _
 have al:FF A n k cl b off L cN ab ao ca w.heap.size mb r w2:=⟨df.u.below bo (by omega),cy,fun q c hq hc=>⟨(HX.u q c hq hc).1,by rw[Z.cell (p:=⟨b,off+(q*k+c),none⟩) hb];exact(HX.u q c hq hc).2⟩,fun q hq=>by rw[Z.cell (p:=⟨ab,ao+q,none⟩) hab];exact f7.u q hq⟩;have c4:=al.keep ag (by omega) (by omega) (by omega) (by omega);have e4:=ae af;have e5:=ae ds;have fa:=ae Z;have e6:=ae ag;have e7:=ae al;have an:=ae c4;have HR:=ae hr;clear af ds Z ag al c4 hr bo cy d9 df e0 e1 e2 e3 db
 go_wp2_with fail;rw[<-e4.u];clear e4
 go_loopw [6] (fun qv wr=>∃ (q:Nat) (pv:Nat->Int),q<=n/\qv=.int .i64 (q:Nat)/\wr.rowIs w2.heap.size 3 n (fun j=>.int .i64 (pv j))/\ce w2.heap.size w3 wr/\∀ j,j<q->AN r (fun _=>True) (fun a b=>A.ac a=A.ac b) j (pv j)) (fun qv _=>n-(intOf qv).toNat)
 case atStart=>exact⟨0,_,by omega,rfl,e5.u,ce.refl _ _,fun j hj=>by omega⟩
 obtain⟨q,pv,hq,rfl,hP,hO,hV⟩:=hrel;obtain⟨w4,rfl⟩ : ∃ w4,w4=wr:=⟨_,rfl⟩;have fb:=hO.size
 by_cases hlt:q<n
 ·have a0:(q:Int)<(n:Int):=by omega
  have f:=an.u.keep hO.blw (by omega) (by omega) (by omega) (by omega);obtain⟨f0,f1,f2,f3,-⟩:=f.d.facts;have y0:=f.m.cell (i:=q) hlt;have y1:=hP.cell (i:=q) hlt;have y2:=hP.frozen q;obtain⟨rq,R⟩ : ∃ rq,rq=r q:=⟨_,rfl⟩;rw[<-R]at y0;have G:=fC hP q (-1);have ar:=hO.trans (am (w:=w4) (b:=w2.heap.size) q (.int .i64 (-1)));have y3:=G.cell (i:=q) hlt;have y4:=G.frozen q;have av:=(am (w:=w4) (b:=w2.heap.size) q (.int .i64 (-1))).blw;have y5:(w4.setCell ⟨w2.heap.size,q,none⟩ (.int .i64 (-1))).cell? ⟨mb,q,none⟩=some (.bool rq):=by rw[av.cell (p:=⟨mb,q,none⟩) (by show mb<w2.heap.size;omega)];exact y0
  have HP:=ae hP;have HO:=ae hO;have S:=ae G;have T:=ae ar;have HV:=ae hV;have H:=ae R;clear hP hO hV R G ar f av y0;cases rq
  ·go_wp2
   go_roundw
   case rel =>
    refine⟨q+1,_,by omega,by go_num,S.u,T.u,fun j hj=>?_⟩
    by_cases e:j=q
    ·subst e;rw[cG];exact .inl ⟨H.u.symm,rfl⟩
    rw[bh _ _ e];exact HV.u j (by omega)
   simp[intOf];omega
  obtain⟨w6,D⟩ : ∃ w6,w6=(w4.setCell ⟨w2.heap.size,q,none⟩ (.int .i64 (-1))).setCell ⟨w2.heap.size,q,none⟩ (.int .i64 (q:Nat)):=⟨_,rfl⟩;have aw:w6.rowIs w2.heap.size 3 n (fun j=>.int .i64 (ej (ej pv q (-1)) q (q:Nat) j)):=by rw[D];exact fC S.u q _
  have e8:ce w2.heap.size w3 w6:=by rw[D];exact T.u.trans (am _ _)
  have a6:=ae aw;have e9:=ae e8;have ax:=ae D;clear aw e8 D
  go_wp2_with fail;rw[<-ax.u];have epv:ej (ej pv q (-1)) q (q:Nat)=ej pv q (q:Nat):=by funext j;by_cases e:j=q<;>simp[ej,e]
  rw[epv]at a6;clear ax S T HP HO f0 f1 f2 f3 y1 y2 y3 y4 y5 epv
  go_loopw [7] (fun iv wx=>∃ p:Nat,p<=q/\iv=.int .i64 (p:Nat)/\wx.rowIs w2.heap.size 3 n (fun j=>.int .i64 (ej pv q (q:Nat) j))/\ce w2.heap.size w3 wx/\∀ p',p'<p->r p'=true->¬ A.ac p'=A.ac q) (fun iv _=>q-(intOf iv).toNat)
  case atStart=>exact⟨0,by omega,rfl,a6.u,e9.u,fun p' hp'=>by omega⟩
  obtain⟨p,hp,rfl,v,o,I⟩:=hrel;clear a6 e9;have g8:=o.size
  by_cases hpl:p<q
  ·have b0:(p:Int)<(q:Int):=by omega
   have ea:(p:Int)<(n:Int):=by omega
   have f:=an.u.keep o.blw (by omega) (by omega) (by omega) (by omega);obtain⟨f0,f1,f2,f3,-⟩:=f.d.facts;have y0:=f.m.cell (i:=p) (by omega);have y1:=f.a p (by omega);have y2:=f.a q hlt;have y3:=v.cell (i:=q) hlt;have y4:=v.frozen q;obtain⟨rp,U⟩ : ∃ rp,rp=r p:=⟨_,rfl⟩;obtain⟨ap,d0⟩ : ∃ ap,ap=A.ac p:=⟨_,rfl⟩;obtain⟨aq,d1⟩ : ∃ aq,aq=A.ac q:=⟨_,rfl⟩;rw[<-U]at y0;rw[<-d0]at y1;rw[<-d1]at y2;have g:=ae v;have l:=ae o;have s:=ae I;have a7:=ae U;have bp:=ae d0;have bq:=ae d1;clear v o I U d0 d1 f;cases rp
   ·go_wp2_with fail
    go_quiet (fail);go_wp2
    go_roundw
    case rel=>exact⟨p+1,by omega,by go_num,g.u.of_block rfl,l.u.drewN _,fun p' hp' hr'=>by
     by_cases e:p'=p
     ·subst e;rw[<-a7.u]at hr';cases hr'
     exact s.u p' (by omega) hr'⟩
    simp[intOf];omega
   cases ap<;>cases aq
   ·go_wp2_with fail
    go_quiet (fail);have a8:=ae (fC (w:=wr.drewN nq) (g.u.of_block rfl) q (p:Nat));have a9:=ae ((l.u.drewN nq).trans (am (w:=wr.drewN nq) (b:=w2.heap.size) q (.int .i64 (p:Nat))));go_wp2
    go_roundw
    case rel =>
     refine⟨q+1,_,by omega,by go_num,a8.u,a9.u,fun j hj=>?_⟩
     by_cases e:j=q
     ·subst e;rw[cG];exact .inr ⟨H.u.symm,p,rfl,.inl ⟨hpl,a7.u.symm,trivial,bp.u.symm.trans bq.u,fun p' hp' hr' _=>s.u p' hp' hr'⟩⟩
     rw[bh _ _ e,bh _ _ e];exact HV.u j (by omega)
    simp[intOf];omega
   ·go_wp2_with fail
    go_quiet (fail);go_wp2
    go_roundw
    case rel=>exact⟨p+1,by omega,by go_num,g.u.of_block rfl,l.u.drewN _,fun p' hp' hr'=>by
     by_cases e:p'=p
     ·subst e;rw[<-bp.u,<-bq.u];decide
     exact s.u p' (by omega) hr'⟩
    simp[intOf];omega
   ·go_wp2_with fail
    go_quiet (fail);go_wp2
    go_roundw
    case rel=>exact⟨p+1,by omega,by go_num,g.u.of_block rfl,l.u.drewN _,fun p' hp' hr'=>by
     by_cases e:p'=p
     ·subst e;rw[<-bp.u,<-bq.u];decide
     exact s.u p' (by omega) hr'⟩
    simp[intOf];omega
   go_wp2_with fail
   go_quiet (fail);have a8:=ae (fC (w:=wr.drewN nq) (g.u.of_block rfl) q (p:Nat));have a9:=ae ((l.u.drewN nq).trans (am (w:=wr.drewN nq) (b:=w2.heap.size) q (.int .i64 (p:Nat))));go_wp2
   go_roundw
   case rel =>
    refine⟨q+1,_,by omega,by go_num,a8.u,a9.u,fun j hj=>?_⟩
    by_cases e:j=q
    ·subst e;rw[cG];exact .inr ⟨H.u.symm,p,rfl,.inl ⟨hpl,a7.u.symm,trivial,bp.u.symm.trans bq.u,fun p' hp' hr' _=>s.u p' hp' hr'⟩⟩
    rw[bh _ _ e,bh _ _ e];exact HV.u j (by omega)
   simp[intOf];omega
  have b0:¬ (p:Int)<(q:Int):=by omega
  obtain rfl:p=q:=by omega
  have g:=ae v;have l:=ae o;have s:=ae I;clear v o I;go_wp2
  go_roundw
  case rel =>
   refine⟨p+1,_,by omega,by go_num,g.u,l.u,fun j hj=>?_⟩
   by_cases e:j=p
   ·subst e;rw[cG];exact .inr ⟨H.u.symm,j,rfl,.inr ⟨rfl,fun p' hp' hr' _=>s.u p' hp' hr'⟩⟩
   rw[bh _ _ e];exact HV.u j (by omega)
  simp[intOf];omega
 have a0:¬ (q:Int)<(n:Int):=by omega
 obtain rfl:q=n:=by omega
 have hS:=yW HW.u (by rw[z.u];exact HR.u) (by rw[z.u];exact hV);have V:qH r q pv:=tU (L:=fun _ _=>True) hV;have M:Below w2.heap.size w2 w4:=e6.u.trans (hO.blw.mono (by omega));have HS:=ae hS;have N:=ae V;have br:=ae M;have J:=ae hP;clear hS V M hP hV hO an e5 e6
 go_wp2_with fail;obtain⟨n,rfl⟩ : ∃ n,n=q:=⟨_,rfl⟩
 go_loopw [5,8] (fun tv cv wr=>∃ (pb:Nat) (pv:Nat->Int) (ch:Bool),tv=.slice (some ⟨pb,0,none⟩) n n/\cv=.bool ch/\wr.rowIs pb 3 n (fun j=>.int .i64 (pv j))/\w2.heap.size<=pb/\Below w2.heap.size w2 wr/\qH r n pv/\(ch=true->∃ C,oM A C (fun j=>(pv j).toNat))/\(ch=false->AP A (fun j=>(pv j).toNat))) (fun tv cv wr=>2*(n-Fm tv n wr)+yQ cv)
 case atStart=>exact⟨_,pv,true,rfl,rfl,J.u,Nat.le_refl _,br.u,N.u,fun _=>⟨_,HS.u⟩,fun h=>by cases h⟩
 clear HS N br J fb f9 hlt a0 hq;obtain⟨pb,pv,ch,rfl,rfl,aa,g9,M,V,hC,d2⟩:=hrel;obtain⟨w5,rfl⟩ : ∃ w5,w5=wr:=⟨_,rfl⟩;have fc:=M.size;have eb:=aa.lt;cases ch
 ·have J:=ae aa;have br:=ae M;have N:=ae V;have fd:=ae (d2 rfl);clear aa M V hC d2;go_wp2;go_ret;exact⟨_,rfl,fa.u.trans (br.u.mono (by omega)),by omega,_,_,J.u,HR.u,N.u,fd.u⟩
 obtain⟨C,hC⟩:=hC rfl;obtain⟨w6,D⟩ : ∃ w6,w6=w5.alloc (.cells (madeCells #[.int .i64 0] n) 3):=⟨_,rfl⟩;have aw:w6.rowIs w5.heap.size 3 n (fun _=>.int .i64 0):=by rw[D];exact World.rowIs_made w5 _ n _
 have ga:w6.heap.size=w5.heap.size+1:=by rw[D,ah]
 have d3:Below w5.heap.size w5 w6:=by rw[D];exact ai w5 _
 have b5:=M.trans (d3.mono fc);have c5:=e7.u.keep b5 (by omega) (by omega) (by omega) (by omega);have c6:=aa.of_block (d3.block pb eb);have ec:=vz aa;have ff:=ae ec;have ax:=ae D;have a6:=ae aw;have fg:=ae b5;have b6:=ae c5;have J:=ae c6;have N:=ae V;have HC:=ae hC;clear D aw d3 b5 c5 aa c6 V hC d2 M ec
 go_wp2_with fail;rw[<-ax.u];clear ax
 go_loopw [8,10] (fun cv qv wx=>∃ (q:Nat) (nv:Nat->Int) (ch:Bool),q<=n/\qv=.int .i64 (q:Nat)/\cv=.bool ch/\wx.rowIs w5.heap.size 3 n (fun j=>.int .i64 (nv j))/\ce w5.heap.size w6 wx/\(∀ j,j<q->AN r (fun p=>nv p=(p:Int)) (DJ A pv) j (nv j))/\(ch=true↔∃ j,j<q/\nv j≠pv j)) (fun _ qv _=>n-(intOf qv).toNat)
 case atStart=>exact⟨0,_,false,by omega,rfl,rfl,a6.u,ce.refl _ _,fun j hj=>by omega,⟨fun h=>(by cases h),fun h=>(by obtain⟨j,hj,-⟩:=h;omega)⟩⟩
 clear a6;obtain⟨q,nv,ch,hq,rfl,rfl,hP,hO,hV,b7⟩:=hrel;obtain⟨w7,rfl⟩ : ∃ w7,w7=wr:=⟨_,rfl⟩;have gc:=hO.size
 by_cases hlt:q<n
 ·have a0:(q:Int)<(n:Int):=by omega
  have f:=b6.u.keep hO.blw (by omega) (by omega) (by omega) (by omega);have y0:=f.m.cell (i:=q) hlt;have y1:=hP.cell (i:=q) hlt;have y2:=hP.frozen q;obtain⟨rq,R⟩ : ∃ rq,rq=r q:=⟨_,rfl⟩;rw[<-R]at y0;have G:=fC hP q (-1);have ar:=hO.trans (am (w:=w7) (b:=w5.heap.size) q (.int .i64 (-1)));have y3:=G.cell (i:=q) hlt;have y4:=G.frozen q;have av:=(am (w:=w7) (b:=w5.heap.size) q (.int .i64 (-1))).blw;have y5:(w7.setCell ⟨w5.heap.size,q,none⟩ (.int .i64 (-1))).cell? ⟨mb,q,none⟩=some (.bool rq):=by rw[av.cell (p:=⟨mb,q,none⟩) (by show mb<w5.heap.size;omega)];exact y0
  have S:=ae G;have T:=ae ar;have HV:=ae hV;have H:=ae R;have d4:=ae b7;clear hP hO hV R G ar f av y0 b7;cases rq
  ·go_wp2
   go_roundw
   case rel =>
    have fh:pv q = -1:=by
     rcases N.u q hlt with ⟨-,h⟩|⟨h,-⟩
     ·exact h
     rw[<-H.u]at h;cases h
    refine⟨q+1,_,ch,by omega,by go_num,rfl,S.u,T.u,fun j hj=>?_,?_⟩
    ·by_cases e:j=q
     ·subst e;rw[cG];exact .inl ⟨H.u.symm,rfl⟩
     rw[bh _ _ e];exact(HV.u j (by omega)).congrL (fun p hp=>by rw[bh _ _ (by omega)])
    rw[d4.u]
    constructor
    ·rintro⟨j,hj,hd⟩;exact⟨j,by omega,by rw[bh _ _ (by omega)];exact hd⟩
    rintro⟨j,hj,hd⟩
    by_cases e:j=q
    ·subst e;rw[cG,fh]at hd;exact absurd rfl hd
    rw[bh _ _ e]at hd;exact⟨j,by omega,hd⟩
   simp[intOf];omega
  obtain⟨w8,bs⟩ : ∃ w8,w8=(w7.setCell ⟨w5.heap.size,q,none⟩ (.int .i64 (-1))).setCell ⟨w5.heap.size,q,none⟩ (.int .i64 (q:Nat)):=⟨_,rfl⟩;have d5:w8.rowIs w5.heap.size 3 n (fun j=>.int .i64 (ej (ej nv q (-1)) q (q:Nat) j)):=by rw[bs];exact fC S.u q _
  have ee:ce w5.heap.size w6 w8:=by rw[bs];exact T.u.trans (am _ _)
  have epv:ej (ej nv q (-1)) q (q:Nat)=ej nv q (q:Nat):=by funext j;by_cases e:j=q<;>simp[ej,e]
  rw[epv]at d5;have a8:=ae d5;have a9:=ae ee;have ek:=ae bs;clear d5 ee bs epv
  go_wp2_with fail;rw[<-ek.u];clear ek S T y1 y2 y3 y4 y5
  go_loopw [11] (fun iv wx=>∃ p:Nat,p<=q/\iv=.int .i64 (p:Nat)/\wx.rowIs w5.heap.size 3 n (fun j=>.int .i64 (ej nv q (q:Nat) j))/\ce w5.heap.size w6 wx/\∀ p',p'<p->r p'=true->nv p'=(p':Int)->¬ DJ A pv p' q) (fun iv _=>q-(intOf iv).toNat)
  case atStart=>exact⟨0,by omega,rfl,a8.u,a9.u,fun p' hp'=>by omega⟩
  clear a8 a9;obtain⟨p,hp,rfl,v,o,I⟩:=hrel;obtain⟨w9,rfl⟩ : ∃ w9,w9=wr:=⟨_,rfl⟩;have gf:=o.size
  by_cases hpl:p<q
  ·have b0:(p:Int)<(q:Int):=by omega
   have ea:(p:Int)<(n:Int):=by omega
   have f:=b6.u.keep o.blw (by omega) (by omega) (by omega) (by omega);have b8:=J.u.of_block (o.block pb (by omega));have y0:=f.m.cell (i:=p) (by omega);have y1:=v.cell (i:=p) (by omega);rw[bh nv _ (by omega)]at y1;have y2:=b8.cell (i:=p) (by omega);have y3:=b8.cell (i:=q) hlt;obtain⟨rp,U⟩ : ∃ rp,rp=r p:=⟨_,rfl⟩;obtain⟨xn,d6⟩ : ∃ xn,xn=nv p:=⟨_,rfl⟩;obtain⟨xp,d7⟩ : ∃ xp,xp=pv p:=⟨_,rfl⟩;obtain⟨xq,B⟩ : ∃ xq,xq=pv q:=⟨_,rfl⟩;rw[<-U]at y0;rw[<-d6]at y1;rw[<-d7]at y2;rw[<-B]at y3;have g:=ae v;have l:=ae o;have s:=ae I;have a7:=ae U;have el:=ae d6;have em:=ae d7;have O:=ae B;clear v o I U d6 d7 B f b8;cases rp
   ·go_wp2_with fail
    go_quiet (fail);go_wp2
    go_roundw
    case rel=>exact⟨p+1,by omega,by go_num,g.u.of_block rfl,l.u.drewN _,fun p' hp' hr' hl'=>by
     by_cases e:p'=p
     ·subst e;rw[<-a7.u]at hr';cases hr'
     exact s.u p' (by omega) hr' hl'⟩
    simp[intOf];omega
   by_cases c1:xn=(p:Int)
   rotate_left
   ·go_wp2_with fail
    go_quiet (fail);go_wp2
    go_roundw
    case rel=>exact⟨p+1,by omega,by go_num,g.u.of_block rfl,l.u.drewN _,fun p' hp' hr' hl'=>by
     by_cases e:p'=p
     ·subst e;exact absurd (el.u.trans hl') c1
     exact s.u p' (by omega) hr' hl'⟩
    simp[intOf];omega
   by_cases c2:xp=xq
   rotate_left
   ·go_wp2_with fail
    go_quiet (fail);go_wp2
    go_roundw
    case rel=>exact⟨p+1,by omega,by go_num,g.u.of_block rfl,l.u.drewN _,fun p' hp' hr' hl'=>by
     by_cases e:p'=p
     ·subst e;exact fun hh=>c2 (em.u.trans (hh.1.trans O.u.symm))
     exact s.u p' (by omega) hr' hl'⟩
    simp[intOf];omega
   go_wp2_with fail
   go_quiet (fail)
   go_wp2_with fail;clear y0 y1 y2 y3
   go_loopw [12,13] (fun sv cv wy=>∃ (c:Nat) (sm:Bool),c<=k/\cv=.int .i64 (c:Nat)/\sv=.bool sm/\wy.rowIs w5.heap.size 3 n (fun j=>.int .i64 (ej nv q (q:Nat) j))/\ce w5.heap.size w6 wy/\(sm=true->∀ c',c'<c->pv (A.nx p c')=pv (A.nx q c'))/\(sm=false->∃ c',c'<k/\pv (A.nx p c')≠pv (A.nx q c'))) (fun _ cv _=>k-(intOf cv).toNat)
   case atStart=>exact⟨0,true,by omega,rfl,rfl,g.u.of_block rfl,l.u.drewN _,fun _ c' hc'=>by omega,fun h=>by cases h⟩
   clear g l;obtain⟨c,sm,hc,rfl,rfl,Q,K,b9,bt⟩:=hrel;obtain⟨w11,rfl⟩ : ∃ w11,w11=wr:=⟨_,rfl⟩;have fx:=K.size;have f:=b6.u.keep K.blw (by omega) (by omega) (by omega) (by omega);obtain⟨f0,f1,f2,f3,-⟩:=f.d.facts;cases sm
   ·have g:=ae Q;have l:=ae K;have en:=ae (bt rfl);clear Q K b9 bt f
    by_cases hcl:c<k
    ·have bb:(c:Int)<(k:Int):=by omega
     go_wp2
     go_roundw
     case rel=>exact⟨p+1,by omega,by go_num,g.u,l.u,fun p' hp' hr' hl'=>by
      by_cases e:p'=p
      ·subst e;exact fun hh=>by obtain⟨c',h1,h2⟩:=en.u;exact h2 (hh.2 c' (by rw[ct.u];exact h1))
      exact s.u p' (by omega) hr' hl'⟩
     simp[intOf];omega
    have bb:¬ (c:Int)<(k:Int):=by omega
    go_wp2
    go_roundw
    case rel=>exact⟨p+1,by omega,by go_num,g.u,l.u,fun p' hp' hr' hl'=>by
     by_cases e:p'=p
     ·subst e;exact fun hh=>by obtain⟨c',h1,h2⟩:=en.u;exact h2 (hh.2 c' (by rw[ct.u];exact h1))
     exact s.u p' (by omega) hr' hl'⟩
    simp[intOf];omega
   by_cases hcl:c<k
   ·have bb:(c:Int)<(k:Int):=by omega
    obtain⟨v1,v2⟩:=f.x p c (by omega) hcl;obtain⟨u1,u2⟩:=f.x q c hlt hcl;have c7:p*k+c<L:=by rw[HL.u];exact cO (by omega) hcl
    have cb:q*k+c<L:=by rw[HL.u];exact cO hlt hcl
    obtain⟨m,t,a1,ht,gg,a2,a3,a4⟩:=cP (by omega) c7;obtain⟨m',t',b1,ep,fz,b2,b3,b4⟩:=cP (by omega) cb;obtain⟨np,bv⟩ : ∃ y,y=A.nx p c:=⟨_,rfl⟩;obtain⟨nq',bx⟩ : ∃ y,y=A.nx q c:=⟨_,rfl⟩;rw[<-ht,<-bv]at v2;rw[<-ep,<-bx]at u2;rw[<-bv]at v1;rw[<-bx]at u1;have bc:=J.u.of_block (K.block pb (by omega));have y2:=bc.cell (i:=np) v1;have y3:=bc.cell (i:=nq') u1;obtain⟨xv,bz⟩ : ∃ xv,xv=pv np:=⟨_,rfl⟩;obtain⟨yv,c0⟩ : ∃ yv,yv=pv nq':=⟨_,rfl⟩;rw[<-bz]at y2;rw[<-c0]at y3;have v1':(np:Int)<(n:Int):=by omega
    have u1':(nq':Int)<(n:Int):=by omega
    rw[bv]at bz;rw[bx]at c0;have eq:=ae bz;have er:=ae c0;have E:=ae Q;have F:=ae K;have fi:=ae (b9 rfl);clear Q K b9 bt f bz c0 bv bx ht ep c7 cb bc
    by_cases he:xv=yv
    ·go_wp2_with fail
     go_roundw
     case rel=>exact⟨c+1,true,by omega,by go_num,rfl,E.u,F.u,fun _ c' hc'=>by
      by_cases e:c'=c
      ·subst e;rw[<-eq.u,<-er.u];exact he
      exact fi.u c' (by omega),fun h=>by cases h⟩
     simp[intOf];omega
    go_wp2_with fail
    go_roundw
    case rel=>exact⟨c+1,false,by omega,by go_num,by rw[beq_eq_false_iff_ne.mpr he],E.u,F.u,(fun h=>by cases h),fun _=>⟨c,hcl,by rw[<-eq.u,<-er.u];exact he⟩⟩
    simp[intOf];omega
   have bb:¬ (c:Int)<(k:Int):=by omega
   obtain rfl:c=k:=by omega
   have cc:DJ A pv p q:=⟨by rw[<-em.u,<-O.u];exact c2,by rw[ct.u];exact b9 rfl⟩;have y3:=Q.cell (i:=q) hlt;have y4:=Q.frozen q;have bd:AN r (fun p=>nv p=(p:Int)) (DJ A pv) q (p:Nat):=.inr ⟨H.u.symm,p,rfl,.inl ⟨hpl,a7.u.symm,by show nv p=_;rw[<-el.u];exact c1,cc,fun p' hp' hr' hl'=>s.u p' hp' hr' hl'⟩⟩;have be:=ae bd;obtain⟨w12,a5⟩ : ∃ w12,w12=w11.setCell ⟨w5.heap.size,q,none⟩ (.int .i64 (p:Nat)):=⟨_,rfl⟩;have bf:w12.rowIs w5.heap.size 3 n (fun j=>.int .i64 (ej (ej nv q (q:Nat)) q (p:Nat) j)):=by rw[a5];exact fC Q q (p:Nat)
   have cf:ce w5.heap.size w6 w12:=by rw[a5];exact K.trans (am (w:=w11) (b:=w5.heap.size) q (.int .i64 (p:Nat)))
   have ci:=ae a5;have epv:ej (ej nv q (q:Nat)) q (p:Nat)=ej nv q (p:Nat):=by funext j;by_cases e:j=q<;>simp[ej,e]
   rw[epv]at bf;have E:=ae bf;have F:=ae cf;clear Q K b9 bt f cc bd bf cf epv a5
   go_wp2_with fail;rw[<-ci.u];clear ci;have W:=F.u;have fj:=W.size;have bl:=J.u.of_block (w':=w12) (W.block pb (by omega));have z0:=E.u.cell (i:=q) hlt;rw[cG]at z0;have z1:=bl.cell (i:=q) hlt;obtain⟨xq,B⟩ : ∃ xq,xq=pv q:=⟨_,rfl⟩;rw[<-B]at z1;obtain⟨mv,X⟩ : ∃ mv:Int,mv=((p:Nat):Int):=⟨_,rfl⟩;rw[<-X]at z0;have O:=ae B;have bn:=ae X;clear W bl B X
   by_cases he:mv=xq
   ·go_wp2_with fail
    go_quiet (fail);go_wp2
    go_roundw
    case rel =>
     refine⟨q+1,_,ch,by omega,by go_num,rfl,E.u.of_block rfl,F.u.drewN _,fun j hj=>?_,?_⟩
     ·by_cases e:j=q
      ·subst e;rw[cG];exact be.u.congrL (fun p hp=>by rw[bh _ _ (by omega)])
      rw[bh _ _ e];exact(HV.u j (by omega)).congrL (fun p hp=>by rw[bh _ _ (by omega)])
     rw[d4.u]
     constructor
     ·rintro⟨j,hj,hd⟩;exact⟨j,by omega,by rw[bh _ _ (by omega)];exact hd⟩
     rintro⟨j,hj,hd⟩
     by_cases e:j=q
     ·subst e;rw[cG,<-O.u,<-bn.u]at hd;exact absurd he hd
     rw[bh _ _ e]at hd;exact⟨j,by omega,hd⟩
    simp[intOf];omega
   go_wp2_with fail
   go_quiet (fail);go_wp2
   go_roundw
   case rel =>
    refine⟨q+1,_,true,by omega,by go_num,rfl,E.u.of_block rfl,F.u.drewN _,fun j hj=>?_,?_⟩
    ·by_cases e:j=q
     ·subst e;rw[cG];exact be.u.congrL (fun p hp=>by rw[bh _ _ (by omega)])
     rw[bh _ _ e];exact(HV.u j (by omega)).congrL (fun p hp=>by rw[bh _ _ (by omega)])
    exact⟨fun _=>⟨q,by omega,by rw[cG,<-O.u,<-bn.u];exact he⟩,fun _=>rfl⟩
   simp[intOf];omega
  have b0:¬ (p:Int)<(q:Int):=by omega
  obtain rfl:p=q:=by omega
  obtain⟨q,rfl⟩ : ∃ q,q=p:=⟨_,rfl⟩;have bd:AN r (fun p=>nv p=(p:Int)) (DJ A pv) q (q:Nat):=.inr ⟨H.u.symm,q,rfl,.inr ⟨rfl,fun p' hp' hr' hl'=>I p' hp' hr' hl'⟩⟩;have be:=ae bd;have E:=ae v;have F:=ae o;clear v o I bd
  go_wp2_with fail;have W:=F.u;have fj:=W.size;have bl:=J.u.of_block (w':=w9) (W.block pb (by omega));have z0:=E.u.cell (i:=q) hlt;rw[cG]at z0;have z1:=bl.cell (i:=q) hlt;obtain⟨xq,B⟩ : ∃ xq,xq=pv q:=⟨_,rfl⟩;rw[<-B]at z1;obtain⟨mv,X⟩ : ∃ mv:Int,mv=((q:Nat):Int):=⟨_,rfl⟩;rw[<-X]at z0;have O:=ae B;have bn:=ae X;clear W bl B X
  by_cases he:mv=xq
  ·go_wp2_with fail
   go_quiet (fail);go_wp2
   go_roundw
   case rel =>
    refine⟨q+1,_,ch,by omega,by go_num,rfl,E.u.of_block rfl,F.u.drewN _,fun j hj=>?_,?_⟩
    ·by_cases e:j=q
     ·subst e;rw[cG];exact be.u.congrL (fun p hp=>by rw[bh _ _ (by omega)])
     rw[bh _ _ e];exact(HV.u j (by omega)).congrL (fun p hp=>by rw[bh _ _ (by omega)])
    rw[d4.u]
    constructor
    ·rintro⟨j,hj,hd⟩;exact⟨j,by omega,by rw[bh _ _ (by omega)];exact hd⟩
    rintro⟨j,hj,hd⟩
    by_cases e:j=q
    ·subst e;rw[cG,<-O.u,<-bn.u]at hd;exact absurd he hd
    rw[bh _ _ e]at hd;exact⟨j,by omega,hd⟩
   simp[intOf];omega
  go_wp2_with fail
  go_quiet (fail);go_wp2
  go_roundw
  case rel =>
   refine⟨q+1,_,true,by omega,by go_num,rfl,E.u.of_block rfl,F.u.drewN _,fun j hj=>?_,?_⟩
   ·by_cases e:j=q
    ·subst e;rw[cG];exact be.u.congrL (fun p hp=>by rw[bh _ _ (by omega)])
    rw[bh _ _ e];exact(HV.u j (by omega)).congrL (fun p hp=>by rw[bh _ _ (by omega)])
   exact⟨fun _=>⟨q,by omega,by rw[cG,<-O.u,<-bn.u];exact he⟩,fun _=>rfl⟩
  simp[intOf];omega
 have a0:¬ (q:Int)<(n:Int):=by omega
 obtain rfl:q=n:=by omega
 have d8:qH r q nv:=tU (L:=fun _ p=>nv p=(p:Int)) hV;have c3:=BG HC.u HW.u HF.u (by rw[z.u];exact HR.u) (by rw[z.u];exact N.u) (by rw[z.u];exact hV);have es:=vz hP;have et:=fg.u.trans (hO.blw.mono (by omega));have ev:ch=true->nP pv q<nP nv q:=fun h=>by
  have:=AZ HC.u c3 HW.u (by rw[z.u];exact HR.u) (by rw[z.u];exact N.u) (by rw[z.u];exact d8) (by rw[z.u];exact b7.1 h);rw[z.u]at this;exact this
 have Y:ch=false->∀ j,j<q->nv j=pv j:=fun h j hj=>Classical.byContradiction fun hd=>by
  have:=b7.2 ⟨j,hj,hd⟩;rw[h]at this;cases this
 have ck:ch=false->AP A (fun j=>(nv j).toNat):=fun h=>CS HC.u c3 HW.u (by rw[z.u];exact Y h)
 have ex:ch=false->nP nv q=nP pv q:=fun h=>gI q fun j hj=>by rw[Y h j hj]
 have cp:=uK nv q;have cr:=uK pv q;have HP:=ae hP;have fk:=ae d8;have fl:=ae c3;have fn:=ae es;have fo:=ae et;have fp:=ae ev;have ey:=ae ck;have fr:=ae ex;have f4:=ae cp;have f5:=ae cr;clear hP d8 c3 es et ev ck ex Y b7 hV hO cp cr;go_wp2
 go_roundw
 case rel=>exact⟨_,nv,ch,rfl,rfl,HP.u,by omega,fo.u,fk.u,fun _=>⟨_,fl.u⟩,ey.u⟩
 rw[fn.u,ff.u];have g1:=fp.u;have g2:=fr.u;have g3:=f4.u;have g4:=f5.u;cases ch
 ·have:=g2 rfl;simp only[yQ];omega
 have:=g1 rfl;simp only[yQ];omega
end Go.Proofs.YtidfkbghlkcbeaaGreatDoor
