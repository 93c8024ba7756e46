import Derived.Test.YtidfkbghlkcbeaaGreatDoorPk37
import Derived.Test.YtidfkbghlkcbeaaGreatDoorWk10
namespace Go.Proofs.YtidfkbghlkcbeaaGreatDoor
open Go.RowKit Go.Proofs.Tryz
set_option maxHeartbeats 16000000
set_option maxRecDepth 100000
theorem It.sh0(a:It):a.sh 0=a:=by unfold It.sh;rw[za,za]
theorem Fr(ln:List Lk):cT 0 ln=ln:=by unfold cT;simp
theorem oO.rd{O:Nat->Prop}{A N:Nat}{w:World}{S:List (List Int)}{K:List Lk}{b:Bool}{f l:Nat->Nat}(h:oO O A w N S K b f l):∃ sv gs fv fs,w.cell? ⟨A,0,none⟩=some sv/\DU w sv N gs/\S.length=N/\(∀ i,i<N->dx (S[i]?.getD []) (gs i))/\oJ w A N fv fs b f l/\(∀ i,Fit (fs i))/\∀ i j,Bt (fs i) j=cm K i j:=by
 obtain⟨⟨sv,fv,gs,hs,hM,h2,h3,h4,h5,-⟩,F2,a,hE⟩:=h;obtain⟨F,hF,h0,h1⟩:=hM.box;refine⟨sv,gs,fv,hs,by rw[hF.cell (by omega),h0],hM.so,h2,fun i hi=>(h3 i hi).2,⟨⟨F2,a,?_,hE⟩,hM.fo⟩,h4,h5⟩;have q1:=hF.cell (i:=1) (by omega);have q2:=a.cell (i:=1) (by omega);rw[q1]at q2;rw[<-Option.some.inj q2,h1]
theorem DL{w w' W:World}{A N:Nat}{fv:Value}{fs gs:Nat->Nat->Nat}{b:Bool}{f l:Nat->Nat}{gc mm:Nat}{K:Nat->Nat}{hs H:Nat->Nat->Nat}{hv:Value}{ks:List Value}(hA:oJ w A N fv fs b f l)(hb:Below w.heap.size w w')(hW:W=w'.alloc (.cells #[.pointer (some ⟨A,0,none⟩),.slice (some ⟨gc,0,none⟩) 256 256,hv] 57))
  (hrow:w'.rowIs gc 3 256 (fun x=>.int .i64 (K x:Nat)))(hhol:AO w' hv mm hs)(hcl:tG H 256 mm K hs ks)(hH:∀ x,x<256->Fit (H x)/\∀ i,Bt (H x) i=true↔(i<N/\Bt (gs i) x=true))(hf:Fit f)(hl:Fit l)(hfs:∀ i,Fit (fs i)):En W w'.heap.size A N mm gc hv fv K hs fs b f l:=by
 subst hW;have a:=ai w' (.cells #[.pointer (some ⟨A,0,none⟩),.slice (some ⟨gc,0,none⟩) 256 256,hv] 57);refine⟨(ay w' _).new,(hA.keep hb lR).keep a lR,hrow.alloc _,aG hhol a lR,fun x hx=>(hcl.cl x hx).1,fun j hj=>?_,hf,hl,hfs,fun j hj i hi=>?_⟩
 ·obtain⟨x,h1,h2⟩:=hcl.src j hj;rw[h2];exact(hH x h1).1
 obtain⟨x,h1,h2⟩:=hcl.src j hj;rw[h2]at hi;exact(((hH x h1).2 i).1 hi).1
def fK(N:Nat)(p:(Nat->Nat)×Bool):List Nat×Bool:=(ia p.1 N,p.2)
def xx(N:Nat)(g:Nat->Nat):Prop:=Fit g/\∀ i,Bt g i=true->i<N
theorem Bd{g h:Nat->Nat}(hg:Fit g)(hh:Fit h)(e:∀ i,i<512->Bt g i=Bt h i)(k:Nat)(hk:k<8):g k=h k:=by
 apply Nat.eq_of_testBit_eq
 intro j
 by_cases hj:j<64
 ·have:=e (k*64+j) (by omega);unfold Bt at this;rw[show(k*64+j) / 64=k by omega,show(k*64+j)%64=j by omega]at this;exact this
 rw[Nat.testBit_lt_two_pow (Nat.lt_of_lt_of_le (hg k) (by
  show(2:Nat) ^ 64<=2 ^ j;exact Nat.pow_le_pow_right (by omega) (by omega))),Nat.testBit_lt_two_pow (Nat.lt_of_lt_of_le (hh k) (by
  show(2:Nat) ^ 64<=2 ^ j;exact Nat.pow_le_pow_right (by omega) (by omega)))]
theorem Fo{g h:Nat->Nat}{e e':Bool}(hw:∀ k,k<8->g k=h k)(he:e=e'):pd g e=pd h e':=by
 unfold pd;rw[hw 0 (by omega),hw 1 (by omega),hw 2 (by omega),hw 3 (by omega),hw 4 (by omega),hw 5 (by omega),hw 6 (by omega),hw 7 (by omega),he]
theorem CZ{g h:Nat->Nat}{e e':Bool}(hp:pd g e=pd h e'):(∀ k,k<8->g k=h k)/\e=e':=by
 unfold pd at hp;simp only[Value.agg.injEq,Array.mk.injEq,List.cons.injEq,Value.int.injEq,Value.bool.injEq,true_and,and_true]at hp;obtain⟨a0,a1,a2,a3,a4,a5,a6,a7,a8⟩:=hp;refine⟨fun k hk=>?_,a8⟩
 match k,hk with
 | 0,_=>exact Int.ofNat.inj a0
 | 1,_=>exact Int.ofNat.inj a1
 | 2,_=>exact Int.ofNat.inj a2
 | 3,_=>exact Int.ofNat.inj a3
 | 4,_=>exact Int.ofNat.inj a4
 | 5,_=>exact Int.ofNat.inj a5
 | 6,_=>exact Int.ofNat.inj a6
 | 7,_=>exact Int.ofNat.inj a7
theorem eD(g:Nat->Nat)(N i:Nat):i∈ia g N↔i<N/\Bt g i=true:=by
 unfold ia;rw[List.mem_filter,List.mem_range]
theorem vu{N:Nat}(hN:N<=512){g h:Nat->Nat}{e e':Bool}(hg:xx N g)(hh:xx N h):pd g e=pd h e'↔fK N (g,e)=fK N (h,e'):=by
 constructor
 ·intro hp;obtain⟨h1,h2⟩:=CZ hp;have:ia g N=ia h N:=by
   unfold ia;refine List.filter_congr fun i hi=>?_
   have:=List.mem_range.1 hi;unfold Bt;rw[h1 (i / 64) (by omega)]
  simp only[fK,this,h2]
 intro hp;simp only[fK,Prod.mk.injEq]at hp;refine Fo (Bd hg.1 hh.1 fun i hi=>?_) hp.2;rw[Bool.eq_iff_iff]
 constructor
 ·intro k;have:=(eD g N i).2 ⟨hg.2 i k,k⟩;rw[hp.1]at this;exact((eD h N i).1 this).2
 intro k;have:=(eD h N i).2 ⟨hh.2 i k,k⟩;rw[<-hp.1]at this;exact((eD g N i).1 this).2
theorem zd{N:Nat}(hN:N<=512){hold fol:Nat->Nat->Bool}{last:Nat->Bool}{fs:Nat->Nat->Nat}{l Q hc:Nat->Nat}{e0:Bool}{b:Nat}(hQ:xx N Q)(hh:∀ i,Bt hc i=hold i b)(hf:∀ i j,Bt (fs i) j=fol i j)(hl:∀ i,Bt l i=last i) :
  fK N (sT fs (ia (dO Q hc) 512),!(Cz (dO (dO Q hc) l)))=bN N hold fol last (fK N (Q,e0)) b:=by
 simp only[fK,bN,Prod.mk.injEq];refine⟨?_,?_⟩
 ·show(List.range N).filter _=_;refine List.filter_congr fun j _=>?_
  rw[Bool.eq_iff_iff,zw,List.any_eq_true]
  constructor
  ·rintro⟨k,hk,hb⟩;obtain⟨-,hk⟩:=(eD _ _ _).1 hk;rw[jG,Bool.and_eq_true]at hk;exact⟨k,(eD _ _ _).2 ⟨hQ.2 k hk.1,hk.1⟩,by rw[<-hh,<-hf,hk.2,hb];rfl⟩
  rintro⟨k,hk,hb⟩;obtain⟨h1,h2⟩:=(eD _ _ _).1 hk;rw[Bool.and_eq_true,<-hh,<-hf]at hb;exact⟨k,(eD _ _ _).2 ⟨by omega,by rw[jG,h2,hb.1];rfl⟩,hb.2⟩
 rw[Bool.eq_iff_iff,xW (pz (pz hQ.1)),List.any_eq_true]
 constructor
 ·rintro⟨k,-,hk⟩;rw[jG,jG,Bool.and_eq_true,Bool.and_eq_true]at hk;exact⟨k,(eD _ _ _).2 ⟨hQ.2 k hk.1.1,hk.1.1⟩,by rw[<-hh,<-hl,hk.1.2,hk.2];rfl⟩
 rintro⟨k,hk,hb⟩;obtain⟨h1,h2⟩:=(eD _ _ _).1 hk;rw[Bool.and_eq_true,<-hh,<-hl]at hb;exact⟨k,by omega,by rw[jG,jG,h2,hb.1,hb.2];rfl⟩
theorem xI{N:Nat}{fs:Nat->Nat->Nat}{Y:List Nat}(hfs:∀ i,Fit (fs i))(hfN:∀ i j,Bt (fs i) j=true->j<N):xx N (sT fs Y):=⟨uN hfs Y,fun j hj=>by
 obtain⟨k,-,hk⟩:=(zw Y j).1 hj;exact hfN k j hk⟩
theorem tG.num1{H hs:Nat->Nat->Nat}{mm:Nat}{K:Nat->Nat}{ks:List Value}(h:tG H 256 mm K hs ks):∃ rep,fO 256 mm K rep:=by
 have key:∀ j,∃ x,j<mm->x<256/\K x=j/\∀ x',x'<x->K x'<j:=fun j=>by
  by_cases hj:j<mm
  ·obtain⟨x,hx⟩:=h.fo j hj;exact⟨x,fun _=>hx⟩
  exact⟨0,fun q=>absurd q hj⟩
 obtain⟨rep,a⟩:=Classical.axiomOfChoice key;refine⟨rep,fun s hs=>(h.cl s hs).1,fun j hj=>⟨(a j hj).1,(a j hj).2.1⟩,fun s hs=>?_,fun i j hij hj=>?_⟩
 ·apply Nat.le_of_not_lt
  intro hlt;have:=(a (K s) (h.cl s hs).1).2.2 s hlt;omega
 obtain⟨i1,i2,i3⟩:=a i (by omega);obtain⟨j1,j2,j3⟩:=a j hj;rcases Nat.lt_trichotomy (rep i) (rep j) with q|q|q
 ·exact q
 ·rw[q,j2]at i2;omega
 have:=i3 _ q;omega
theorem mf{w w2:World}{v:Value}(r2:aT (ut v w.heap.size) w w2):∀ k,k<w.heap.size->v.ownBlock≠some k->w2.heap[k]?=w.heap[k]? :=fun k hk hne=>r2.block k (by rintro(q|q)<;>first|exact hne q|omega)
def DV(p:(Nat->Nat)×Bool):Value:=pd p.1 p.2
structure cF (w0 w:World) (db mb kb qb lo:Nat) (cl:Value) (k:Nat) (ks o:List ((Nat->Nat)×Bool)) (tk:Nat) (ys:List Nat) (zs:List Bool) (qv nv av:Value):Prop where
 e1:w0.heap.size<db/\db<lo/\w0.heap.size<mb/\mb<lo/\w0.heap.size<kb/\kb<lo/\w0.heap.size<qb/\qb<lo
 e2:db≠mb/\db≠kb/\db≠qb/\mb≠kb/\mb≠qb/\kb≠qb
 res:∃ F,w.rowIs w0.heap.size 30 4 F
 d:aC w db 30 cl (.int .i64 (k:Nat)) nv av
 num:bj 118 w mb (ks.map DV)
 kn:w.rowIs kb 115 1 (fun _=>.map (some mb))
 q:eO w qb 121 qv (.int .i64 (tk:Nat))
 oq:w.ownsRow lo 118 9 qv o.length (wV o)
 on:w.ownsRow lo 3 1 nv ys.length (ys.map mN)
 oa:w.ownsRow lo 4 1 av zs.length (zs.map mT)
 qn:∀ r,qv.ownBlock=some r->nv.ownBlock≠some r/\av.ownBlock≠some r
 na:∀ r,nv.ownBlock=some r->av.ownBlock≠some r
 bl:Below w0.heap.size w0 w
 sz:lo<=w.heap.size
section
variable {w0 w w':World} {db mb kb qb lo:Nat} {cl:Value} {k:Nat} {ks o:List ((Nat->Nat)×Bool)} {tk:Nat} {ys:List Nat} {zs:List Bool} {qv nv av:Value}
theorem cF.keep(h:cF w0 w db mb kb qb lo cl k ks o tk ys zs qv nv av)(hb:Below w.heap.size w w'):cF w0 w' db mb kb qb lo cl k ks o tk ys zs qv nv av:=by
 have hz:=h.sz;obtain⟨a1,a2,a3,a4,a5,a6,a7,a8⟩:=h.e1;have e:∀ k,k<w.heap.size->w'.heap[k]?=w.heap[k]? :=fun k hk=>hb.block k hk
 obtain⟨F,hF⟩:=h.res;exact⟨h.e1,h.e2,⟨F,hF.of_block (e _ (by omega))⟩,World.rowIs.of_block h.d (e _ (by omega)),h.num.keep (e _ (by omega)),h.kn.of_block (e _ (by omega)),h.q.on (e _ (by omega)),ak h.oq (fun r hr=>e r (aB h.oq r hr)),ak h.on (fun r hr=>e r (aB h.on r hr)),ak h.oa (fun r hr=>e r (aB h.oa r hr)),h.qn,h.na,h.bl.trans (hb.mono (by have:=h.bl.size;omega)),by have:=hb.size;omega⟩
theorem cF.looked{ks':List ((Nat->Nat)×Bool)}(h:cF w0 w db mb kb qb lo cl k ks o tk ys zs qv nv av)(hf:aT (dM w mb) w w')(hn:bj 118 w' mb (ks'.map DV)):cF w0 w' db mb kb qb lo cl k ks' o tk ys zs qv nv av:=by
 have hz:=h.sz;obtain⟨a1,a2,a3,a4,a5,a6,a7,a8⟩:=h.e1;obtain⟨c1,c2,c3,c4,c5,c6⟩:=h.e2;have e:∀ k,k<w.heap.size->k≠mb->w'.heap[k]?=w.heap[k]? :=fun k hk hne=>hf.block k (by rintro(h1|h1)<;>omega)
 obtain⟨F,hF⟩:=h.res;exact⟨h.e1,h.e2,⟨F,hF.of_block (e _ (by omega) (by omega))⟩,World.rowIs.of_block h.d (e _ (by omega) (by omega)),hn,h.kn.of_block (e _ (by omega) (by omega)),h.q.on (e _ (by omega) (by omega)),ak h.oq (fun r hr=>e r (aB h.oq r hr) (by have:=(h.oq.lt r hr).1;omega)),ak h.on (fun r hr=>e r (aB h.on r hr) (by have:=(h.on.lt r hr).1;omega)),ak h.oa (fun r hr=>e r (aB h.oa r hr) (by have:=(h.oa.lt r hr).1;omega)),h.qn,h.na,⟨hf.os.trans h.bl.os,hf.tape.trans h.bl.tape,hf.output.trans h.bl.output,Nat.le_trans h.bl.size hf.size,fun k hk=>(e k (by have:=h.bl.size;omega) (by omega)).trans (h.bl.block k hk)⟩,by have:=hf.size;omega⟩
theorem cF.popd(h:cF w0 w db mb kb qb lo cl k ks o tk ys zs qv nv av)(hf:aT (dM w qb) w w')(hq:eO w' qb 121 qv (.int .i64 ((tk+1:Nat):Int))):cF w0 w' db mb kb qb lo cl k ks o (tk+1) ys zs qv nv av:=by
 have hz:=h.sz;obtain⟨a1,a2,a3,a4,a5,a6,a7,a8⟩:=h.e1;obtain⟨c1,c2,c3,c4,c5,c6⟩:=h.e2;have e:∀ k,k<w.heap.size->k≠qb->w'.heap[k]?=w.heap[k]? :=fun k hk hne=>hf.block k (by rintro(h1|h1)<;>omega)
 obtain⟨F,hF⟩:=h.res;exact⟨h.e1,h.e2,⟨F,hF.of_block (e _ (by omega) (by omega))⟩,World.rowIs.of_block h.d (e _ (by omega) (by omega)),h.num.keep (e _ (by omega) (by omega)),h.kn.of_block (e _ (by omega) (by omega)),hq,ak h.oq (fun r hr=>e r (aB h.oq r hr) (by have:=(h.oq.lt r hr).1;omega)),ak h.on (fun r hr=>e r (aB h.on r hr) (by have:=(h.on.lt r hr).1;omega)),ak h.oa (fun r hr=>e r (aB h.oa r hr) (by have:=(h.oa.lt r hr).1;omega)),h.qn,h.na,⟨hf.os.trans h.bl.os,hf.tape.trans h.bl.tape,hf.output.trans h.bl.output,Nat.le_trans h.bl.size hf.size,fun k hk=>(e k (by have:=h.bl.size;omega) (by omega)).trans (h.bl.block k hk)⟩,by have:=hf.size;omega⟩
theorem cF.pushQ{v':Value}{x:(Nat->Nat)×Bool}(h:cF w0 w db mb kb qb lo cl k ks o tk ys zs qv nv av)(r1:w'.ownsRow lo 118 9 v' (o++[x]).length (wV (o++[x])))(hq:eO w' qb 121 v' (.int .i64 (tk:Nat)))(hf:aT (fun k=>k=qb∨qv.ownBlock=some k∨w.heap.size<=k) w w')(r3:∀ q,v'.ownBlock=some q->qv.ownBlock=some q∨w.heap.size<=q) :
  cF w0 w' db mb kb qb lo cl k ks (o++[x]) tk ys zs v' nv av:=by
 have hz:=h.sz;obtain⟨a1,a2,a3,a4,a5,a6,a7,a8⟩:=h.e1;obtain⟨c1,c2,c3,c4,c5,c6⟩:=h.e2;have e:∀ k,k<w.heap.size->k≠qb->qv.ownBlock≠some k->w'.heap[k]?=w.heap[k]? :=fun k hk hne hq=>hf.block k (by rintro(h1|h1|h1)<;>first|omega|exact hq h1)
 have nq:∀ k,k<lo->qv.ownBlock≠some k:=fun k hk e=>by have:=(h.oq.lt k e).1;omega
 obtain⟨F,hF⟩:=h.res;refine⟨h.e1,h.e2,⟨F,hF.of_block (e _ (by omega) (by omega) (nq _ (by omega)))⟩,World.rowIs.of_block h.d (e _ (by omega) (by omega) (nq _ (by omega))),h.num.keep (e _ (by omega) (by omega) (nq _ (by omega))),h.kn.of_block (e _ (by omega) (by omega) (nq _ (by omega))),hq,r1,ak h.on (fun r hr=>e r (aB h.on r hr) (by have:=(h.on.lt r hr).1;omega) (fun e2=>(h.qn r e2).1 hr)),ak h.oa (fun r hr=>e r (aB h.oa r hr) (by have:=(h.oa.lt r hr).1;omega) (fun e2=>(h.qn r e2).2 hr)),fun r hr=>?_,h.na,⟨hf.os.trans h.bl.os,hf.tape.trans h.bl.tape,hf.output.trans h.bl.output,Nat.le_trans h.bl.size hf.size,fun k hk=>(e k (by have:=h.bl.size;omega) (by omega) (nq _ (by omega))).trans (h.bl.block k hk)⟩,by have:=hf.size;omega⟩;rcases r3 r hr with e2|e2
 ·exact h.qn r e2
 exact⟨fun e3=>by have:=aB h.on r e3;omega,fun e3=>by have:=aB h.oa r e3;omega⟩
theorem cF.pushN{w2:World}{v':Value}{x:Nat}(h:cF w0 w db mb kb qb lo cl k ks o tk ys zs qv nv av)(r1:w2.ownsRow lo 3 1 v' (ys++[x]).length ((ys++[x]).map mN))(r2:aT (ut nv w.heap.size) w w2)(r3:∀ q,v'.ownBlock=some q->nv.ownBlock=some q∨w.heap.size<=q) :
  w2.cell? ⟨db,2,none⟩=some nv/\w2.frozen? ⟨db,2,none⟩=false/\cF w0 (w2.setCell ⟨db,2,none⟩ v') db mb kb qb lo cl k ks o tk (ys++[x]) zs qv v' av:=by
 have hz:=h.sz;have b:=r2.size;obtain⟨a1,a2,a3,a4,a5,a6,a7,a8⟩:=h.e1;obtain⟨c1,c2,c3,c4,c5,c6⟩:=h.e2;have k2:=mf r2;have nq:∀ k,k<lo->nv.ownBlock≠some k:=fun k hk e=>by have:=(h.on.lt k e).1;omega
 have e:∀ k,k<w.heap.size->k≠db->nv.ownBlock≠some k->(w2.setCell ⟨db,2,none⟩ v').heap[k]?=w.heap[k]? :=fun k hk hne hq=>(Below.heap_setCell _ _ _ _ (by show k≠db;exact hne)).trans (k2 k hk hq)
 have lo':∀ k,k<lo->k≠db->(w2.setCell ⟨db,2,none⟩ v').heap[k]?=w.heap[k]? :=fun k hk hne=>e k (by omega) hne (nq k hk)
 have a:aC w2 db 30 cl (.int .i64 (k:Nat)) nv av:=World.rowIs.of_block h.d (k2 _ (by omega) (nq _ (by omega)));obtain⟨F,hF⟩:=h.res;refine⟨a.facts.2.2.1,World.rowIs.frozen a 2,h.e1,h.e2,⟨F,hF.of_block (lo' _ (by omega) (by omega))⟩,a.put2,h.num.keep (lo' _ (by omega) (by omega)),h.kn.of_block (lo' _ (by omega) (by omega)),h.q.on (lo' _ (by omega) (by omega)),ak h.oq (fun r hr=>e r (aB h.oq r hr) (by have:=(h.oq.lt r hr).1;omega) (fun e2=>(h.qn r hr).1 e2)),ak r1 (fun r hr=>Below.heap_setCell _ _ _ _ (by show r≠db;have:=(r1.lt r hr).1;omega)),ak h.oa (fun r hr=>e r (aB h.oa r hr) (by have:=(h.oa.lt r hr).1;omega) (fun e2=>h.na r e2 hr)),fun r hr=>⟨fun e3=>?_,(h.qn r hr).2⟩,fun r hr=>?_,⟨r2.os.trans h.bl.os,r2.tape.trans h.bl.tape,r2.output.trans h.bl.output,by rw[aM];have:=h.bl.size;omega,fun k hk=>(lo' k (by omega) (by omega)).trans (h.bl.block k hk)⟩,by rw[aM];omega⟩
 ·rcases r3 r e3 with e2|e2
  ·exact(h.qn r hr).1 e2
  have:=aB h.oq r hr;omega
 rcases r3 r hr with e2|e2
 ·exact h.na r e2
 exact fun e3=>by have:=aB h.oa r e3;omega
theorem cF.pushA{w2:World}{v':Value}{x:Bool}(h:cF w0 w db mb kb qb lo cl k ks o tk ys zs qv nv av)(r1:w2.ownsRow lo 4 1 v' (zs++[x]).length ((zs++[x]).map mT))(r2:aT (ut av w.heap.size) w w2)(r3:∀ q,v'.ownBlock=some q->av.ownBlock=some q∨w.heap.size<=q) :
  w2.cell? ⟨db,3,none⟩=some av/\w2.frozen? ⟨db,3,none⟩=false/\cF w0 (w2.setCell ⟨db,3,none⟩ v') db mb kb qb lo cl k ks o tk ys (zs++[x]) qv nv v':=by
 have hz:=h.sz;have b:=r2.size;obtain⟨a1,a2,a3,a4,a5,a6,a7,a8⟩:=h.e1;obtain⟨c1,c2,c3,c4,c5,c6⟩:=h.e2;have k2:=mf r2;have nq:∀ k,k<lo->av.ownBlock≠some k:=fun k hk e=>by have:=(h.oa.lt k e).1;omega
 have e:∀ k,k<w.heap.size->k≠db->av.ownBlock≠some k->(w2.setCell ⟨db,3,none⟩ v').heap[k]?=w.heap[k]? :=fun k hk hne hq=>(Below.heap_setCell _ _ _ _ (by show k≠db;exact hne)).trans (k2 k hk hq)
 have lo':∀ k,k<lo->k≠db->(w2.setCell ⟨db,3,none⟩ v').heap[k]?=w.heap[k]? :=fun k hk hne=>e k (by omega) hne (nq k hk)
 have a:aC w2 db 30 cl (.int .i64 (k:Nat)) nv av:=World.rowIs.of_block h.d (k2 _ (by omega) (nq _ (by omega)));obtain⟨F,hF⟩:=h.res;refine⟨a.facts.2.2.2.1,World.rowIs.frozen a 3,h.e1,h.e2,⟨F,hF.of_block (lo' _ (by omega) (by omega))⟩,a.put3',h.num.keep (lo' _ (by omega) (by omega)),h.kn.of_block (lo' _ (by omega) (by omega)),h.q.on (lo' _ (by omega) (by omega)),ak h.oq (fun r hr=>e r (aB h.oq r hr) (by have:=(h.oq.lt r hr).1;omega) (fun e2=>(h.qn r hr).2 e2)),ak h.on (fun r hr=>e r (aB h.on r hr) (by have:=(h.on.lt r hr).1;omega) (fun e2=>h.na r hr e2)),ak r1 (fun r hr=>Below.heap_setCell _ _ _ _ (by show r≠db;have:=(r1.lt r hr).1;omega)),fun r hr=>⟨(h.qn r hr).1,fun e3=>?_⟩,fun r hr e3=>?_,⟨r2.os.trans h.bl.os,r2.tape.trans h.bl.tape,r2.output.trans h.bl.output,by rw[aM];have:=h.bl.size;omega,fun k hk=>(lo' k (by omega) (by omega)).trans (h.bl.block k hk)⟩,by rw[aM];omega⟩
 ·rcases r3 r e3 with e2|e2
  ·exact(h.qn r hr).2 e2
  have:=aB h.oq r hr;omega
 rcases r3 r e3 with e2|e2
 ·exact h.na r hr e2
 have:=aB h.on r hr;omega
def tr(lo:Nat)(w w':World)(qv nv av qv' nv' av':Value):Prop:=∀ r,lo<=r->r<w.heap.size->qv.ownBlock≠some r->nv.ownBlock≠some r->av.ownBlock≠some r->w'.heap[r]?=w.heap[r]?/\qv'.ownBlock≠some r/\nv'.ownBlock≠some r/\av'.ownBlock≠some r
theorem tr.keep(hb:Below w.heap.size w w'):tr lo w w' qv nv av qv nv av:=fun r _ h2 h3 h4 h5=>⟨hb.block r h2,h3,h4,h5⟩
theorem tr.one{mb:Nat}(hf:aT (dM w mb) w w')(hm:mb<lo):tr lo w w' qv nv av qv nv av:=fun r h1 h2 h3 h4 h5=>⟨hf.block r (by rintro(q|q)<;>omega),h3,h4,h5⟩
structure mO (w:World) (lo fb:Nat) (qv nv av:Value) (p:(Nat->Nat)×Bool):Prop where
 blk:w.heap[fb]?=some (.cells (c9 p.1 p.2) 118 (0,0))
 lo:lo<=fb
 q:qv.ownBlock≠some fb
 n:nv.ownBlock≠some fb
 a:av.ownBlock≠some fb
theorem mO.lt{fb:Nat}{p:(Nat->Nat)×Bool}(h:mO w lo fb qv nv av p):fb<w.heap.size:=(Array.getElem?_eq_some_iff.1 h.blk).1
theorem mO.on{fb:Nat}{p:(Nat->Nat)×Bool}{qv' nv' av':Value}(h:mO w lo fb qv nv av p)(hk:tr lo w w' qv nv av qv' nv' av'):mO w' lo fb qv' nv' av' p:=by
 obtain⟨h1,h2,h3,h4⟩:=hk fb h.lo h.lt h.q h.n h.a;exact⟨h1.trans h.blk,h.lo,h2,h3,h4⟩
theorem cF.fresh(h:cF w0 w db mb kb qb lo cl k ks o tk ys zs qv nv av)(p:(Nat->Nat)×Bool):mO (w.alloc (.cells (c9 p.1 p.2) 118)) lo w.heap.size qv nv av p:=
 ⟨(ay w _).new,h.sz,fun e=>by have:=aB h.oq _ e;omega,fun e=>by have:=aB h.on _ e;omega,fun e=>by have:=aB h.oa _ e;omega⟩
theorem cF.over{fb:Nat}{p:(Nat->Nat)×Bool}(h:cF w0 w db mb kb qb lo cl k ks o tk ys zs qv nv av)(hX:mO w lo fb qv nv av p)(ho:ce fb w w'):cF w0 w' db mb kb qb lo cl k ks o tk ys zs qv nv av:=by
 have hz:=h.sz;obtain⟨a1,a2,a3,a4,a5,a6,a7,a8⟩:=h.e1;have hl:=hX.lo;have e:∀ k,k≠fb->w'.heap[k]?=w.heap[k]? :=fun k hne=>ho.block k hne
 obtain⟨F,hF⟩:=h.res;exact⟨h.e1,h.e2,⟨F,hF.of_block (e _ (by omega))⟩,World.rowIs.of_block h.d (e _ (by omega)),h.num.keep (e _ (by omega)),h.kn.of_block (e _ (by omega)),h.q.on (e _ (by omega)),ak h.oq (fun r hr=>e r (fun z=>hX.q (z ▸ hr))),ak h.on (fun r hr=>e r (fun z=>hX.n (z ▸ hr))),ak h.oa (fun r hr=>e r (fun z=>hX.a (z ▸ hr))),h.qn,h.na,⟨ho.os.trans h.bl.os,ho.tape.trans h.bl.tape,ho.output.trans h.bl.output,by rw[ho.size];exact h.bl.size,fun k hk=>(e k (by omega)).trans (h.bl.block k hk)⟩,by rw[ho.size];exact hz⟩
theorem cF.kpN{w2:World}{v':Value}(h:cF w0 w db mb kb qb lo cl k ks o tk ys zs qv nv av)(r2:aT (ut nv w.heap.size) w w2)(r3:∀ q,v'.ownBlock=some q->nv.ownBlock=some q∨w.heap.size<=q)(j:Nat):tr lo w (w2.setCell ⟨db,j,none⟩ v') qv nv av qv v' av:=fun r h1 h2 h3 h4 h5 =>
 ⟨(Below.heap_setCell _ _ _ _ (by show r≠db;have:=h.e1.2.1;omega)).trans (mf r2 r h2 h4),h3,fun e=>by rcases r3 r e with q|q<;>first|exact h4 q|omega,h5⟩
theorem cF.kpA{w2:World}{v':Value}(h:cF w0 w db mb kb qb lo cl k ks o tk ys zs qv nv av)(r2:aT (ut av w.heap.size) w w2)(r3:∀ q,v'.ownBlock=some q->av.ownBlock=some q∨w.heap.size<=q)(j:Nat):tr lo w (w2.setCell ⟨db,j,none⟩ v') qv nv av qv nv v':=fun r h1 h2 h3 h4 h5 =>
 ⟨(Below.heap_setCell _ _ _ _ (by show r≠db;have:=h.e1.2.1;omega)).trans (mf r2 r h2 h5),h3,h4,fun e=>by rcases r3 r e with q|q<;>first|exact h5 q|omega⟩
theorem uD(h:cF w0 w db mb kb qb lo cl k ks o tk ys zs qv nv av)(g:Nat->Nat)(e:Bool)(hl:o.length<=100000) :
  Calls prog 53 #[.pointer (some ⟨qb,0,none⟩),pd g e] w fun x w'=>x=.returned (.tuple #[])/\∃ qv',cF w0 w' db mb kb qb lo cl k ks (o++[(g,e)]) tk ys zs qv' nv av/\tr lo w w' qv nv av qv' nv av:=by
 have hz:=h.sz;obtain⟨a1,a2,a3,a4,a5,a6,a7,a8⟩:=h.e1;refine(wA qb lo qv _ o g e w hl h.q h.oq hz (fun e=>by have:=(h.oq.lt _ e).1;omega)).mono ?_;rintro x w' ⟨rfl,v',r1,r2,r3,r4⟩;refine⟨rfl,v',h.pushQ r1 r2 r3 r4,fun r b1 b2 b3 b4 b5=>⟨r3.block r ?_,fun e=>?_,b4,b5⟩⟩
 ·rintro(q|q|q)<;>first|omega|exact b3 q
 rcases r4 r e with q|q<;>first|exact b3 q|omega
theorem CH(h:cF w0 w db mb kb qb lo cl k ks o tk ys zs qv nv av)(g:Nat->Nat)(e:Bool)(hg:Fit g)(hl:ks.length<100000) :
  Calls prog 51 #[.agg #[.map (some mb)],pd g e] w fun x w'=>∃ (i:Nat) (f:Bool),x=.returned (.tuple #[.int .i64 (i:Nat),.bool f])/\
   ((f=false/\(∃ p,ks[i]?=some p/\DV p=pd g e)/\cF w0 w' db mb kb qb lo cl k ks o tk ys zs qv nv av)∨(f=true/\(∀ p∈ks,DV p≠pd g e)/\i=ks.length/\cF w0 w' db mb kb qb lo cl k (ks++[(g,e)]) o tk ys zs qv nv av))/\tr lo w w' qv nv av qv nv av:=by
 refine(Ai mb g e (ks.map DV) w h.num hg (by simpa using hl)).mono ?_;rintro x w' ⟨i,ks',f,rfl,hR,hN,hF⟩;refine⟨i,f,rfl,?_,.one hF h.e1.2.2.2.1⟩;rcases hR with ⟨h1,rfl,h2,rfl⟩|⟨h1,rfl,rfl,rfl⟩
 ·refine .inl ⟨rfl,?_,h.looked hF hN⟩;rw[List.getElem?_map]at h2;cases e2:ks[i]? with
  | none=>rw[e2]at h2;cases h2
  | some p=>rw[e2]at h2;exact⟨p,rfl,Option.some.inj h2⟩
 refine .inr ⟨rfl,fun p hp e2=>h1 (List.mem_map.2 ⟨p,hp,e2⟩),by simp,h.looked hF ?_⟩;rw[List.map_append];exact hN
theorem Aq(h:cF w0 w db mb kb qb lo cl k ks o tk ys zs qv nv av)(ht:tk<=o.length)(hl:o.length<=100000) :
  Calls prog 54 #[.pointer (some ⟨qb,0,none⟩)] w fun x w'=>(tk=o.length/\x=.returned (.tuple #[pd (fun _=>0) false,.bool false])/\cF w0 w' db mb kb qb lo cl k ks o tk ys zs qv nv av/\tr lo w w' qv nv av qv nv av) ∨
   (∃ s,o[tk]?=some s/\x=.returned (.tuple #[DV s,.bool true])/\cF w0 w' db mb kb qb lo cl k ks o (tk+1) ys zs qv nv av/\tr lo w w' qv nv av qv nv av):=by
 obtain⟨oa,oc,rfl⟩:=aj h.oq
 by_cases e:tk=o.length
 ·refine(vZ qb o.length oc oa w (by rw[<-e];exact e ▸ h.q)).mono ?_;rintro x w' ⟨rfl,hb⟩;exact .inl ⟨e,rfl,h.keep hb,.keep hb⟩
 have hlt:tk<o.length:=by omega
 obtain⟨y,hy⟩ : ∃ y,o[tk]?=some y:=⟨_,List.getElem?_eq_getElem hlt⟩;obtain⟨g,ee⟩:=y;have a:=h.oq;rcases a.2 with ⟨-,hz⟩|⟨gg,cap,cur,e2,-,-,-,-,-,-⟩
 ·omega
 have e3:oa=some ⟨gg,0,none⟩/\oc=cap:=by simpa using e2
 obtain⟨rfl,rfl⟩:=e3;refine(vD qb gg tk o.length oc g ee w hl hlt h.q (aB a gg rfl) (fun j hj=>by rw[a.cellAt _ (by omega)];exact Dm o hy hj)).mono ?_;rintro x w' ⟨rfl,hf,hq⟩;exact .inr ⟨(g,ee),hy,rfl,h.popd hf hq,.one hf h.e1.2.2.2.2.2.2.2⟩
end
def FL(N m:Nat)(st:List Nat×Bool->Nat->List Nat×Bool)(s0:List Nat×Bool)(cl:Value)(x:Ending)(w w':World):Prop:=
 (∃ (nv av:Value) (o:List ((Nat->Nat)×Bool)) (ys:List Nat),x=.returned (.tuple #[.agg #[cl,.int .i64 (m:Nat),nv,av],.bool true])/\eM m st s0 (o.map (fK N)) ys/\ys.length=o.length*m/\o.length<=1024/\w'.ownsRow w.heap.size 3 1 nv ys.length (ys.map mN)/\w'.ownsRow w.heap.size 4 1 av o.length ((o.map Prod.snd).map mT)/\∀ r,nv.ownBlock=some r->av.ownBlock≠some r) ∨
 (∃ (o:List ((Nat->Nat)×Bool)) (ys:List Nat),x=.returned (.tuple #[.agg #[.slice none 0 0,.int .i64 0,.slice none 0 0,.slice none 0 0],.bool false])/\eM m st s0 (o.map (fK N)) ys/\1024<o.length)
def Gk(N m:Nat)(st:List Nat×Bool->Nat->List Nat×Bool)(s0:List Nat×Bool)(w0 w:World)(b0:Nat)(cl:Value)(fv ov:Value):Prop:=
 ∃ (o:List ((Nat->Nat)×Bool)) (tk:Nat) (ys:List Nat) (zs:List Bool) (qv nv av:Value) (fb:Nat) (p:(Nat->Nat)×Bool),fv=.pointer (some ⟨fb,0,none⟩)/\mO w (b0+6) fb qv nv av p/\cF w0 w (b0+1) (b0+3) (b0+4) (b0+5) (b0+6) cl m o o tk ys zs qv nv av/\eM m st s0 (o.map (fK N)) ys/\(∀ x∈o,xx N x.1)/\o.length<=1024/\
  ((ov=.bool false/\tk=o.length/\ys.length=tk*m/\zs=o.map Prod.snd) ∨
   (ov=.bool true/\∃ t,tk=t+1/\o[t]?=some p/\ys.length=t*m/\zs=(o.take t).map Prod.snd))
theorem Ay{k N:Nat}{fn:List Nat×Bool->Nat->List Nat×Bool}{s0 r:List Nat×Bool}{x p:(Nat->Nat)×Bool}{o:List ((Nat->Nat)×Bool)}{ys:List Nat}{i e j:Nat}(h:eM k fn s0 (o.map (fK N)) ys)(hd:ys.length / k=i/\ys.length%k=e)(hi:o[i]?=some x)(hr:fn (fK N x) e=r)(hj:o[j]?=some p)(hp:fK N p=r):eM k fn s0 (o.map (fK N)) (ys++[j]):=
 h.old (x:=fK N x) (by rw[hd.1,List.getElem?_map,hi];rfl) (by rw[hd.2,List.getElem?_map,hj,hr,<-hp];rfl)
theorem Au{k N:Nat}{fn:List Nat×Bool->Nat->List Nat×Bool}{s0:List Nat×Bool}{x r:(Nat->Nat)×Bool}{o:List ((Nat->Nat)×Bool)}{ys:List Nat}{i e:Nat}(h:eM k fn s0 (o.map (fK N)) ys)(hd:ys.length / k=i/\ys.length%k=e)(hi:o[i]?=some x)(hr:fn (fK N x) e=fK N r)(hno:∀ p∈o,fK N p≠fK N r):eM k fn s0 ((o++[r]).map (fK N)) (ys++[o.length]):=by
 have:=h.new (x:=fK N x) (by rw[hd.1,List.getElem?_map,hi];rfl) (fun j hj e9=>by
  rw[hd.2,hr,List.getElem?_map]at e9;cases e8:o[j]? with
  | none=>rw[e8]at e9;cases e9
  | some p=>rw[e8]at e9;exact hno p (List.mem_of_getElem? e8) (Option.some.inj e9))
 rw[hd.2,hr,List.length_map]at this;rw[List.map_append];exact this
theorem wW(B A N m gc:Nat)(hv fv:Value)(K:Nat->Nat)(hs fs:Nat->Nat->Nat)(b:Bool)(f l:Nat->Nat)(w:World)(hW:En w B A N m gc hv fv K hs fs b f l)(hold fol:Nat->Nat->Bool)(last:Nat->Bool)(rep:Nat->Nat)(hN:N<=512)(hm:m<=256)(hm1:1<=m)
  (hh:∀ c,c<m->∀ i,Bt (hs c) i=hold i (rep c))(hf:∀ i j,Bt (fs i) j=fol i j)(hl:∀ i,Bt l i=last i)(hfN:∀ i j,Bt (fs i) j=true->j<N)(hf0:xx N f)(htz:TZ w)(htl:Tryz.laysTZ_ren.g 1<w.heap.size) :
  Calls prog 25 #[.pointer (some ⟨B,0,none⟩)] w fun x w'=>Below w.heap.size w w'/\FL N m (fun x e=>bN N hold fol last x (rep e)) (fK N (f,b)) (.slice (some ⟨gc,0,none⟩) 256 256) x w w':=by
 obtain⟨i0,gl,gm,go,gp⟩:=info_parts Tryz.zinInt;obtain⟨st,d7⟩ : ∃ st:List Nat×Bool->Nat->List Nat×Bool,st=fun x e=>bN N hold fol last x (rep e):=⟨_,rfl⟩
 rw[<-d7];have hstep:∀ (Q:Nat->Nat) (e0:Bool) (c:Nat),c<m->xx N Q->st (fK N (Q,e0)) c=fK N (sT fs (ia (dO Q (hs c)) 512),!(Cz (dO (dO Q (hs c)) l))):=fun Q e0 c hc hQ=>by
  rw[d7];exact(zd hN hQ (hh c hc) hf hl).symm
 have C:∀ Y,xx N (sT fs Y):=fun Y=>xI hW.fs hfN
 obtain⟨ha,hc,g6⟩ : ∃ ha hc,hv=.slice ha m hc:=aj hW.hol;subst g6;have en:=ae hstep;have ep:=ae C;have eq:=ae hf0;have HW:=ae hW;have g7:Hi (∀ W,Below w.heap.size w W->TZ W):=fun W hW=>htz.below hW htl
 have ca:=hW.box.lt;obtain⟨W1,b3⟩ : ∃ W1,W1=w.alloc (.cells #[.slice none 0 0,.int .i64 0,.slice none 0 0,.slice none 0 0] 30):=⟨_,rfl⟩;have d8:Below w.heap.size w W1:=by rw[b3];exact ai w _
 have cb:W1.heap.size=w.heap.size+1:=by rw[b3,ah]
 have er:aC W1 w.heap.size 30 (.slice none 0 0) (.int .i64 0) (.slice none 0 0) (.slice none 0 0):=by rw[b3];exact aC.new w _ _ _ _ _
 obtain⟨-,k1,k2⟩:=(hW.box.keep (d8.block B ca)).cells;have d9:=ae d8;have es:=ae er;have b4:=ae cb;have et:=ae b3;clear d7 hstep C hf0 hW htz hh hf hl hfN d8 er b3 cb
 go_enter func25,ntmps25
 have k1a:∀ o:Obj,(W1.alloc o).cell? ⟨B,1,none⟩=some (.slice (some ⟨gc,0,none⟩) 256 256):=fun o=>by rw[(ai W1 o).cell (p:=⟨B,1,none⟩) (by have:=b4.u;show B<_;omega)];exact k1
 have k2a:∀ o:Obj,(W1.alloc o).cell? ⟨B,2,none⟩=some (.slice ha m hc):=fun o=>by rw[(ai W1 o).cell (p:=⟨B,2,none⟩) (by have:=b4.u;show B<_;omega)];exact k2
 go_upto_region 1 with fail
 rw[<-et.u]
 go_region
 go_wp2_with fail;refine(vE _).mono ?_;have db:((W1.alloc (.cells #[.slice (some ⟨gc,0,none⟩) 256 256,.int .i64 (m:Nat),.slice none 0 0,.slice none 0 0] 30)).drew).heap.size=w.heap.size+2:=(ah W1 _).trans (by rw[b4.u]);have df:aC ((W1.alloc (.cells #[.slice (some ⟨gc,0,none⟩) 256 256,.int .i64 (m:Nat),.slice none 0 0,.slice none 0 0] 30)).drew) (w.heap.size+1) 30 (.slice (some ⟨gc,0,none⟩) 256 256) (.int .i64 (m:Nat)) (.slice none 0 0) (.slice none 0 0):=by
  have:=aC.new W1 30 (.slice (some ⟨gc,0,none⟩) 256 256) (.int .i64 (m:Nat)) (.slice none 0 0) (.slice none 0 0);rw[b4.u]at this;exact this
 have ds:aC ((W1.alloc (.cells #[.slice (some ⟨gc,0,none⟩) 256 256,.int .i64 (m:Nat),.slice none 0 0,.slice none 0 0] 30)).drew) w.heap.size 30 (.slice none 0 0) (.int .i64 0) (.slice none 0 0) (.slice none 0 0):=es.u.alloc _;have e3:Below w.heap.size w ((W1.alloc (.cells #[.slice (some ⟨gc,0,none⟩) 256 256,.int .i64 (m:Nat),.slice none 0 0,.slice none 0 0] 30)).drew):=(d9.u.alloc d9.u.size _).drew;rw[show W1.heap.size=w.heap.size+1 from b4.u];generalize (W1.alloc (.cells #[.slice (some ⟨gc,0,none⟩) 256 256,.int .i64 (m:Nat),.slice none 0 0,.slice none 0 0] 30)).drew=W2 at db df ds e3 ⊢;rintro e w4 ⟨rfl,e4,e5,ev⟩;rw[db]at e4 e5 ⊢;obtain⟨W6,ax⟩ : ∃ W6,W6=(w4.alloc (.cells #[.map (some (w.heap.size+2+1))] 115)).alloc (.cells #[.slice none 0 0,.int .i64 0] 121):=⟨_,rfl⟩;have b0:cF w W6 (w.heap.size+1) (w.heap.size+3) (w.heap.size+4) (w.heap.size+5) (w.heap.size+6) (.slice (some ⟨gc,0,none⟩) 256 256) m [] [] 0 [] [] (.slice none 0 0) (.slice none 0 0) (.slice none 0 0):=by
  have ex:Below w4.heap.size w4 W6:=by rw[ax];exact aI w4 _ _
  have b5:Below W2.heap.size W2 W6:=ev.trans (ex.mono (by omega));refine⟨by omega,by omega,⟨_,World.rowIs.of_block ds (b5.block _ (by omega))⟩,df.below b5 (by omega),e4.keep (ex.block _ (by omega)),?_,?_,World.ownsRow_nil _ _ _ _,World.ownsRow_nil _ _ _ _,World.ownsRow_nil _ _ _ _,(fun r hr=>by cases hr),(fun r hr=>by cases hr),e3.trans (b5.mono (by omega)),by rw[ax,ah,ah];omega⟩
  ·have:=World.rowIs_alloc w4 #[.map (some (w.heap.size+2+1))] 115 (fun _=>.map (some (w.heap.size+2+1))) (fun j hj=>by
    match j,hj with
    | 0,_=>rfl)
   rw[e5]at this;rw[ax];exact this.alloc _
  have:=eO.new (w4.alloc (.cells #[.map (some (w.heap.size+2+1))] 115)) 121 (.slice none 0 0) (.int .i64 ((0:Nat):Int));rw[ah,e5]at this;rw[ax];exact this
 have u0:W6.cell? ⟨w.heap.size+4,0,none⟩=some (.map (some (w.heap.size+3))):=b0.kn.cell (by omega);have g8:=b0.sz;have cc:Hi (∀ V:World,Below w.heap.size w V->Calls prog 52 #[.pointer (some ⟨B,0,none⟩)] V fun e w'=>e=.returned (pd f b)/\Below V.heap.size V w'):=fun V hV=>vG B A N _ _ fv fs b f l V (HW.u.box.keep (hV.block B ca)) (HW.u.aut.keep hV lR)
 have e6:=ae ((cc.u W6.drew b0.bl.drew).mono (R':=fun e w7=>e=.returned (pd f b)/\Below W6.heap.size W6 w7) (fun e w7 h=>⟨h.1,⟨h.2.os,h.2.tape,h.2.output,h.2.size,fun k hk=>h.2.block k hk⟩⟩));have a8:Hi (∀ V:World,Below W6.heap.size W6 V->Calls prog 51 #[.agg #[.map (some (w.heap.size+3))],pd f b] V fun x w'=>∃ (i:Nat),x=.returned (.tuple #[.int .i64 (i:Nat),.bool true])/\w'.cell? ⟨w.heap.size+4,0,none⟩=some (.map (some (w.heap.size+3)))/\cF w w' (w.heap.size+1) (w.heap.size+3) (w.heap.size+4) (w.heap.size+5) (w.heap.size+6) (.slice (some ⟨gc,0,none⟩) 256 256) m [(f,b)] [] 0 [] [] (.slice none 0 0) (.slice none 0 0) (.slice none 0 0)):=fun V hV=>by
  refine(CH (b0.keep hV) f b eq.u.1 (by decide)).mono ?_;rintro e w' ⟨i,ff,rfl,⟨rfl,⟨p,hp,-⟩,-⟩|⟨rfl,-,rfl,h⟩,-⟩
  ·cases hp
  exact⟨_,rfl,h.kn.cell (by omega),h⟩
 have hS:Hi (∀ V:World,Below W6.heap.size W6 V->V.cell? ⟨w.heap.size+4,0,none⟩=some (.map (some (w.heap.size+3)))):=fun V hV=>(b0.keep hV).kn.cell (by omega)
 unfold pd at e6 a8;have ey:=ae ax;clear b0 ax es ev e4 df ds e3 db k1a k2a k1 k2 et d9
 go_upto_region 4 with fail
 rw[<-ey.u];clear ey;simp only[Nat.add_assoc,Nat.reduceAdd]
 go_cut [5] (fun kv wx=>kv=.pointer (some ⟨w.heap.size+4,0,none⟩)/\cF w wx (w.heap.size+1) (w.heap.size+3) (w.heap.size+4) (w.heap.size+5) (w.heap.size+6) (.slice (some ⟨gc,0,none⟩) 256 256) m [(f,b)] [] 0 [] [] (.slice none 0 0) (.slice none 0 0) (.slice none 0 0))
 case first =>
  go_region_held3 (fun V=>V.cell? ⟨w.heap.size+4,0,none⟩=some (.map (some (w.heap.size+3))))
   (first|(with_reducible exact g9)|(with_reducible exact hS.u _ f0)|go_keep)
   (first
    | (go_at_call 52;(with_reducible refine e6.u.mono ?_);rintro e w7 ⟨rfl,f0⟩)
    | (go_at_call 51;(with_reducible refine(a8.u _ f0).mono ?_);rintro e w8 ⟨i8,rfl,g9,b6⟩))
  all_goals go_wp2_with fail
  all_goals go_meet
  all_goals exact⟨rfl,b6⟩
 obtain⟨rfl,b6⟩:=hcut;have e7:=ae (cc.u wc b6.bl);have f1:=ae b6;unfold pd at e7;clear b6 e6 a8 hS u0 g8
 go_wp2_with fail;refine e7.u.mono ?_;rintro e w9 ⟨rfl,f2⟩;have a9:=ae (uD (f1.u.keep f2) f b (by decide));unfold pd at a9;clear f2 f1 e7
 go_wp2_with fail;refine a9.u.mono ?_;rintro e w10 ⟨rfl,qv10,b7,-⟩;rw[List.nil_append]at b7;have b8:=ae (Aq b7 (by simp) (by simp));clear b7 a9
 go_wp2_with fail;refine b8.u.mono ?_;rintro e w11 aa;have al:∃ p:(Nat->Nat)×Bool,e=.returned (.tuple #[.agg (c9 p.1 p.2),.bool true])/\Gk N m st (fK N (f,b)) w (w11.alloc (.cells (c9 p.1 p.2) 118)) w.heap.size (.slice (some ⟨gc,0,none⟩) 256 256) (.pointer (some ⟨w11.heap.size,0,none⟩)) (.bool true):=by
  rcases aa with ⟨h1,-⟩|⟨s,h1,rfl,h2,-⟩
  ·cases h1
  refine⟨s,rfl,[(f,b)],1,[],[],_,_,_,w11.heap.size,s,rfl,h2.fresh s,h2.keep (ai w11 _),eM.start _ _ _,(fun x hx=>by rw[List.mem_singleton]at hx;rw[hx];exact eq.u),by simp,.inr ⟨rfl,0,rfl,h1,by simp,by simp⟩⟩
 obtain⟨p11,rfl,al⟩:=al;have cf:=ae al;clear aa al b8
 go_wp2_with fail
 go_loopw [7,8] (fun fv ov wr=>Gk N m st (fK N (f,b)) w wr w.heap.size (.slice (some ⟨gc,0,none⟩) 256 256) fv ov) (fun _ ov wr=>2*(1024-fE (w.heap.size+5) wr)+Ad ov)
 case atStart=>exact cf.u
 clear cf;obtain⟨o,tk,ys,zs,qv,nv,av,fb,p,rfl,hF,hR,U,C,hol,⟨rfl,b1,I,H⟩|⟨rfl,t,b1,hp,I,H⟩⟩:=hrel
 ·obtain⟨g0,g1,g2,g3,-⟩:=hR.d.facts;obtain⟨F,z⟩:=hR.res;have x0:=z.cell (i:=0) (by omega);have x1:=z.cell (i:=1) (by omega);have x2:=z.cell (i:=2) (by omega);have x3:=z.cell (i:=3) (by omega);have z0:=z.frozen 0;have z1:=z.frozen 1;have z2:=z.frozen 2;have z3:=z.frozen 3;obtain⟨na,nc,e1⟩:=aj hR.on;subst e1;obtain⟨va,vc,e2⟩:=aj hR.oa;subst e2;have c5:zs.length=o.length:=by rw[H,List.length_map]
  have HR:=ae hR;have X:=ae U;have ea:=ae z;have Z:=ae I;have ga:=ae b1;have O:=ae H;have gf:=ae c5;clear hR U z I b1 H c5 hF;go_wp2;refine bodyPost_ret (dv (dr ea.u _ _ _ _) rfl _ rfl rfl) rfl ?_;have ab:=eC wr w.heap.size (.slice (some ⟨gc,0,none⟩) 256 256) (.int .i64 (m:Nat)) (.slice na ys.length nc) (.slice va zs.length vc);have hR:=HR.u;refine⟨hR.bl.trans (ab.bel lR),.inl ⟨_,_,o,ys,rfl,X.u,by rw[Z.u,ga.u],hol,aO (ak hR.on (fun q hq=>ab.block q (by have:=(hR.on.lt q hq).1;omega))) (by omega),?_,hR.na⟩⟩;rw[<-O.u,<-gf.u];exact aO (ak hR.oa (fun q hq=>ab.block q (by have:=(hR.oa.lt q hq).1;omega))) (by omega)
 obtain⟨P,y⟩:=p;have b9:t<o.length:=cU hp;have f3:xx N P:=C _ (List.mem_of_getElem? hp);obtain⟨g0,g1,g2,g3,-⟩:=hR.d.facts;have p8:=(gx hF.blk).cell (i:=8) (by omega);simp only[lG,Nat.lt_irrefl,if_false]at p8;obtain⟨va,vc,e2⟩:=aj hR.oa;subst e2;have c5:zs.length<=1024:=by rw[H,List.length_map,List.length_take];omega
 have bc:fE (w.heap.size+5) wr=t+1:=by
  rw[fE,World.rowIs.cell hR.q (by omega),b1];simp[intOf]
 have gg:=ae bc;rw[b1]at hR;have f4:=ae hR.oa;have HR:=ae hR;have HF:=ae hF;have X:=ae U;have Z:=ae I;have O:=ae H;have a0:=ae C;have HP:=ae hp;clear hR hF U I H C hp bc b1
 go_wp2_with (first|(at_builtin;refine tX rfl _ _ rfl (w.heap.size+6) (.slice va zs.length vc) rfl y rfl zs f4.u HR.u.sz (by omega) ?_)|fail);intro v12 w12 r1 r2 r3;obtain⟨z1,z2,an⟩:=HR.u.pushA (x:=y) (by rw[List.length_append,List.map_append];exact r1) r2 r3;have ch:=HF.u.on (HR.u.kpA r2 r3 3);obtain⟨zs2,J⟩ : ∃ zs2,zs2=zs++[y]:=⟨_,rfl⟩;have r1:w12.ownsRow (w.heap.size+6) 4 1 v12 zs2.length (zs2.map mT):=by rw[J,List.length_append,List.map_append];exact r1
 rw[<-J]at an;have f5:zs2=(o.take (t+1)).map Prod.snd:=by rw[J,O.u,List.take_add_one,HP.u,List.map_append];rfl
 obtain⟨pa,pc,e8⟩:=aj r1;subst e8;obtain⟨-,d1,-⟩:=an.d.facts;obtain⟨w13,ci⟩ : ∃ w13,w13=w12.setCell ⟨w.heap.size+1,3,none⟩ (.slice pa zs2.length pc):=⟨_,rfl⟩;have bd:=ae ci;have be:=ae an;have bf:=ae ch;have f6:=ae f5;clear r1 r2 r3 an ch J f5 HR HF f4 g0 g1 g2 g3 p8 O ci
 go_wp2_with fail;rw[<-bd.u];rw[<-bd.u]at be bf;clear bd z1 z2 d1
 go_loopw [49] (fun cv wx=>∃ (c:Nat) (o:List ((Nat->Nat)×Bool)) (ys:List Nat) (zs:List Bool) (qv nv av:Value),c<=m/\cv=.int .i64 (c:Nat)/\cF w wx (w.heap.size+1) (w.heap.size+3) (w.heap.size+4) (w.heap.size+5) (w.heap.size+6) (.slice (some ⟨gc,0,none⟩) 256 256) m o o (t+1) ys zs qv nv av/\mO wx (w.heap.size+6) fb qv nv av (P,y)/\eM m st (fK N (f,b)) (o.map (fK N)) ys/\(∀ x∈o,xx N x.1)/\o[t]?=some (P,y)/\ys.length=t*m+c/\zs=(o.take (t+1)).map Prod.snd/\o.length<=1024) (fun cv _=>m-(intOf cv).toNat)
 case atStart=>exact⟨0,o,ys,_,_,_,_,by omega,rfl,be.u,bf.u,X.u,a0.u,HP.u,Z.u,f6.u,hol⟩
 clear be bf X a0 HP Z f6 hol b9 c5;obtain⟨c,o,ys,zs,qv,nv,av,gs,rfl,hR,hF,U,C,hp,I,H,hol⟩:=hrel;obtain⟨w14,rfl⟩ : ∃ w14,w14=wr:=⟨_,rfl⟩;have b9:t<o.length:=cU hp
 by_cases hcl:c<m
 ·have f7:(c:Int)<(m:Int):=by omega
  have G:=HW.u.keep hR.bl lR;have f8:ys.length / m=t/\ys.length%m=c:=by rw[I];exact eh hcl
  have h0:ys.length<=262144:=by
   have h1:=gk (k:=m) (Nat.lt_of_lt_of_le b9 hol) hcl;have h2:1024*m<=1024*256:=Nat.mul_le_mul_left _ hm;omega
  have c6:=ae (zN B A N c m _ (.slice ha m hc) fv hs fs b f l P y w14 G.box G.aut G.hol hcl f3.1 (G.fh _ hcl) G.fl G.fs (G.inn _ hcl) (g7.u _ hR.bl) (by have:=hR.bl.size;omega));have bn:=en.u P y c hcl f3;have bo:=ep.u (ia (dO P (hs c)) 512);obtain⟨P',eb⟩ : ∃ P',P'=sT fs (ia (dO P (hs c)) 512):=⟨_,rfl⟩;obtain⟨y',f9⟩ : ∃ y',y' = !(Cz (dO (dO P (hs c)) l)):=⟨_,rfl⟩;rw[<-eb,<-f9]at c6 bn;rw[<-eb]at bo;unfold pd at c6;have c7:=ae hF.blk;have bp:=ae bn;have ao:=ae bo;have HR:=ae hR;have HF:=ae hF;have X:=ae U;have Z:=ae I;have O:=ae H;have a0:=ae C;have HP:=ae hp;have fa:=ae f8;clear hR hF U I H C hp G bn bo eb f9 f8
  go_wp2_with (first|(refine wpList_load_row rfl 118 (.tmp 7) rfl fb rfl 118 (c9 P y) (0,0) _ c7.u underlying118 rfl (by kernel_rfl) ?_)|fail)
  refine c6.u.mono ?_;rintro e w15 ⟨rfl,bq⟩;have R:=HR.u.keep bq;have a1:=R.fresh (P',y');obtain⟨w16,a2⟩ : ∃ w16,w16=w15.alloc (.cells (c9 P' y') 118):=⟨_,rfl⟩;have br:Below w15.heap.size w15 w16:=by rw[a2];exact ai w15 _
  have S:=R.keep br;have T:=(HF.u.on (tr.keep bq)).on (tr.keep br);have a1:mO w16 (w.heap.size+6) w15.heap.size qv nv av (P',y'):=by rw[a2];exact a1
  have u0:w16.cell? ⟨w.heap.size+4,0,none⟩=some (.map (some (w.heap.size+3))):=S.kn.cell (by omega);have bs:=ae a1.blk;have a8:=ae (CH S P' y' ao.u.1 (by omega));unfold pd at a8;have ck:=ae a2;have a3:=ae T;have cl:=ae a1;rw[a2]at u0;clear bq R a1 br S T a2 c6 HR HF c7
  go_wp2_with (first|(rw[<-ck.u];refine wpList_load_row rfl 118 (.tmp 10) rfl w15.heap.size rfl 118 (c9 P' y') (0,0) _ bs.u underlying118 rfl (by kernel_rfl) ?_)|fail);refine a8.u.mono ?_;rintro e w17 ⟨num,fr,rfl,aa,ec⟩;have cp:=a3.u.on ec;have bt:=cl.u.on ec;have ap:=ae cp;clear cp ec a3 cl a8 ck u0 bs;rcases aa with ⟨rfl,⟨p2,b2,fc⟩,L⟩|⟨rfl,fd,rfl,L⟩
  ·have u0:w17.cell? ⟨w.heap.size+4,0,none⟩=some (.map (some (w.heap.size+3))):=L.kn.cell (by omega);have ad:=lA (w.heap.size+3) _ w17 L.num;rw[List.length_map]at ad;have af:=ae ad;have fg:fK N p2=fK N (P',y'):=(vu hN (a0.u _ (List.mem_of_getElem? b2)) ao.u).1 fc;have gh:=ae fg;have ee:=ae b2;have cr:=ae L;have cs:¬ (1024:Int)<(o.length:Int):=by omega
   clear fg b2 fc L ad bt
   go_wp2_with fail;refine af.u.mono ?_;rintro e w19 ⟨rfl,E⟩;have v:=ae (cr.u.keep E);have bv:=ae (ap.u.on (tr.keep E));clear E cr ap af u0;obtain⟨na,nc,e1⟩:=aj v.u.on;subst e1;obtain⟨-,-,g2,-⟩:=v.u.d.facts;have bx:=ae v.u.on;have ek:=v.u.sz
   go_wp2_with (first|(at_builtin;refine dz rfl _ _ rfl (w.heap.size+6) (.slice na ys.length nc) rfl num rfl ys bx.u ek ?_ ?_)|fail)
   ·omega
   intro v16 w21 r1 r2 r3;obtain⟨z1,z2,M⟩:=v.u.pushN (x:=num) (by rw[List.length_append,List.map_append];exact r1) r2 r3;have a4:=bv.u.on (v.u.kpN r2 r3 2);obtain⟨ys2,D⟩ : ∃ ys2,ys2=ys++[num]:=⟨_,rfl⟩;have r1:w21.ownsRow (w.heap.size+6) 3 1 v16 ys2.length (ys2.map mN):=by rw[D,List.length_append,List.map_append];exact r1
   rw[<-D]at M;obtain⟨pa,pc,e8⟩:=aj r1;subst e8;have a5:ys2.length=t*m+(c+1):=by rw[D,List.length_append,Z.u];rfl
   have a6:eM m st (fK N (f,b)) (o.map (fK N)) ys2:=by rw[D];exact Ay X.u fa.u HP.u bp.u ee.u gh.u
   have bz:=ae M;have c0:=ae a4;have c1:=ae a5;have c2:=ae a6;clear r1 r2 r3 M a4 D a5 a6 bx g2;go_wp2
   go_roundw
   case rel=>exact⟨c+1,o,ys2,zs,_,_,_,by omega,by go_num,bz.u,c0.u,c2.u,a0.u,HP.u,c1.u,O.u,hol⟩
   simp[intOf];omega
  have bs:=ae bt.blk;have a9:=ae (uD L P' y' (by omega));unfold pd at a9;have fi:∀ p∈o,fK N p≠fK N (P',y'):=fun p hp e9=>fd p hp ((vu hN (a0.u _ hp) ao.u).2 e9)
  have fj:=Au X.u fa.u HP.u bp.u fi;have el:=ae fj;clear fi fj fd L bt
  go_wp2_with (first|(refine wpList_load_row rfl 118 (.tmp 10) rfl w15.heap.size rfl 118 (c9 P' y') (0,0) _ bs.u underlying118 rfl (by kernel_rfl) ?_)|fail)
  refine a9.u.mono ?_;rintro e w18 ⟨rfl,qv18,a7,ct⟩;obtain⟨o2,ag⟩ : ∃ o2,o2=o++[(P',y')]:=⟨_,rfl⟩;rw[<-ag]at a7 el;have cw:=ap.u.on ct;have u0:w18.cell? ⟨w.heap.size+4,0,none⟩=some (.map (some (w.heap.size+3))):=a7.kn.cell (by omega);have ad:=lA (w.heap.size+3) _ w18 a7.num;rw[List.length_map]at ad;have af:=ae ad;have cx:∀ x∈o2,xx N x.1:=fun x hx=>by
   rw[ag]at hx;rcases List.mem_append.1 hx with h|h
   ·exact a0.u x h
   rw[List.mem_singleton]at h;rw[h];exact ao.u
  have b2:o2[t]?=some (P,y):=by rw[ag,List.getElem?_append_left b9];exact HP.u
  have J:zs=(o2.take (t+1)).map Prod.snd:=by rw[O.u,ag,List.take_append_of_le_length b9]
  have aq:o2.length=o.length+1:=by rw[ag,List.length_append];rfl
  have fk:=ae cx;have ee:=ae b2;have fn:=ae J;have ar:=ae a7;have c3:=ae cw;have h4:=ae ag;clear a7 ct cw ad cx b2 J ag a9 bs ap
  by_cases cs:1024<o2.length
  ·have em:(1024:Int)<(o2.length:Int):=by omega
   have fo:=ae aq;clear aq
   go_wp2_with fail;refine af.u.mono ?_;rintro e w19 ⟨rfl,E⟩;have c4:=ar.u.keep E;obtain⟨F,z⟩:=c4.res;have x0:=z.cell (i:=0) (by omega);have x1:=z.cell (i:=1) (by omega);have x2:=z.cell (i:=2) (by omega);have x3:=z.cell (i:=3) (by omega);have z0:=z.frozen 0;have z1:=z.frozen 1;have z2:=z.frozen 2;have z3:=z.frozen 3;have ea:=ae z;have v:=ae c4;clear E ar c3 af u0 c4 z;go_wp2;refine bodyPost_ret (dv (dr ea.u _ _ _ _) rfl _ rfl rfl) rfl ?_;exact⟨v.u.bl.trans ((eC w19 w.heap.size (.slice none 0 0) (.int .i64 0) (.slice none 0 0) (.slice none 0 0)).bel lR),.inr ⟨o2,_,rfl,el.u,cs⟩⟩
  have em:¬ (1024:Int)<(o2.length:Int):=by omega
  have fp:o2.length<=1024:=by omega
  have fo:=ae aq;clear aq
  go_wp2_with fail;refine af.u.mono ?_;rintro e w19 ⟨rfl,E⟩;have v:=ae (ar.u.keep E);have bv:=ae (c3.u.on (tr.keep E));clear E ar c3 af u0;obtain⟨na,nc,e1⟩:=aj v.u.on;subst e1;obtain⟨-,-,g2,-⟩:=v.u.d.facts;have bx:=ae v.u.on;have ek:=v.u.sz
  go_wp2_with (first|(at_builtin;refine dz rfl _ _ rfl (w.heap.size+6) (.slice na ys.length nc) rfl o.length rfl ys bx.u ek ?_ ?_)|fail)
  ·omega
  intro v16 w21 r1 r2 r3;obtain⟨z1,z2,M⟩:=v.u.pushN (x:=o.length) (by rw[List.length_append,List.map_append];exact r1) r2 r3;have a4:=bv.u.on (v.u.kpN r2 r3 2);obtain⟨ys2,D⟩ : ∃ ys2,ys2=ys++[o.length]:=⟨_,rfl⟩;have r1:w21.ownsRow (w.heap.size+6) 3 1 v16 ys2.length (ys2.map mN):=by rw[D,List.length_append,List.map_append];exact r1
  rw[<-D]at M;obtain⟨pa,pc,e8⟩:=aj r1;subst e8;have a5:ys2.length=t*m+(c+1):=by rw[D,List.length_append,Z.u];rfl
  have a6:eM m st (fK N (f,b)) (o2.map (fK N)) ys2:=by rw[D];exact el.u
  have bz:=ae M;have c0:=ae a4;have c1:=ae a5;have c2:=ae a6;clear r1 r2 r3 M a4 D a5 a6 bx g2;go_wp2
  go_roundw
  case rel=>exact⟨c+1,o2,ys2,zs,_,_,_,by omega,by go_num,bz.u,c0.u,c2.u,fk.u,ee.u,c1.u,fn.u,fp⟩
  simp[intOf];omega
 have f7:¬ (c:Int)<(m:Int):=by omega
 obtain rfl:c=m:=by omega
 have cy:=hR.fresh (P,y);obtain⟨w15,aw⟩ : ∃ w15,w15=w14.alloc (.cells (c9 P y) 118):=⟨_,rfl⟩;have R:cF w w15 (w.heap.size+1) (w.heap.size+3) (w.heap.size+4) (w.heap.size+5) (w.heap.size+6) (.slice (some ⟨gc,0,none⟩) 256 256) c o o (t+1) ys zs qv nv av:=by rw[aw];exact hR.keep (ai w14 _)
 have d0:mO w15 (w.heap.size+6) w14.heap.size qv nv av (P,y):=by rw[aw];exact cy
 have b8:=ae (Aq R (by omega) (by omega));have c7:=ae hF.blk;have d2:=ae d0;have d3:=ae aw;have X:=ae U;have Z:=ae I;have O:=ae H;have a0:=ae C;clear hR hF U I H C hp cy R d0 aw
 go_wp2_with (first|(refine wpList_load_row rfl 118 (.tmp 7) rfl fb rfl 118 (c9 P y) (0,0) _ c7.u underlying118 rfl (by kernel_rfl) ?_)|fail)
 rw[<-d3.u];clear d3;refine b8.u.mono ?_;rintro e w16 aa;have fx:∃ (P3:Nat->Nat) (y3 bb:Bool),e=.returned (.tuple #[.agg (c9 P3 y3),.bool bb])/\∃ tk3,cF w w16 (w.heap.size+1) (w.heap.size+3) (w.heap.size+4) (w.heap.size+5) (w.heap.size+6) (.slice (some ⟨gc,0,none⟩) 256 256) c o o tk3 ys zs qv nv av/\tr (w.heap.size+6) w15 w16 qv nv av qv nv av/\((bb=false/\tk3=t+1/\t+1=o.length)∨(bb=true/\tk3=t+2/\o[t+1]?=some (P3,y3))):=by
  rcases aa with ⟨h1,rfl,h2,h3⟩|⟨s,h1,rfl,h2,h3⟩
  ·exact⟨fun _=>0,false,false,rfl,_,h2,h3,.inl ⟨rfl,rfl,h1⟩⟩
  exact⟨s.1,s.2,true,rfl,_,h2,h3,.inr ⟨rfl,rfl,h1⟩⟩
 obtain⟨P3,y3,bb,rfl,tk3,S,d4,d5⟩:=fx;have T:=d2.u.on d4;have fz:=ae T.blk;have d6:=ae S;have a3:=ae T;have g4:=ae d5;clear aa S d4 T d5 b8 d2
 go_wp2_with (first|(refine wpList_store_row rfl 118 (.tmp 7) (.tmp 38) rfl w14.heap.size (c9 P3 y3) rfl rfl 118 _ fz.u (by kernel_rfl) rfl (Eg _ _) ?_)|fail)
 go_roundw
 case rel =>
  have ab:ce w14.heap.size w16 (w16.setRow w14.heap.size (c9 P3 y3)):=⟨rfl,rfl,rfl,by simp[World.setRow],fun k hk=>setRow_other _ _ k _ hk⟩;have hF:=a3.u;refine⟨o,tk3,ys,zs,qv,nv,av,w14.heap.size,(P3,y3),rfl,⟨setRow_heap _ _ _ _ _ _ fz.u,hF.lo,hF.q,hF.n,hF.a⟩,d6.u.over hF ab,X.u,a0.u,hol,?_⟩;have g5:ys.length=(t+1)*c:=by rw[Z.u,Nat.add_mul,Nat.one_mul]
  rcases g4.u with ⟨rfl,rfl,h3⟩|⟨rfl,rfl,h3⟩
  ·exact .inl ⟨rfl,h3,g5,by rw[O.u,h3,List.take_length]⟩
  exact .inr ⟨rfl,t+1,rfl,h3,g5,O.u⟩
 have ab:ce w14.heap.size w16 (w16.setRow w14.heap.size (c9 P3 y3)):=⟨rfl,rfl,rfl,by simp[World.setRow],fun k hk=>setRow_other _ _ k _ hk⟩;have hq:=(d6.u.over a3.u ab).q;rw[gg.u];have e1:fE (w.heap.size+5) (w16.setRow w14.heap.size (c9 P3 y3))=tk3:=by
  rw[fE,World.rowIs.cell hq (by omega)];simp[intOf]
 rw[e1];rcases g4.u with ⟨rfl,rfl,h3⟩|⟨rfl,rfl,h3⟩
 ·show 2*(1024-(t+1))+0<2*(1024-(t+1))+1;omega
 have:=cU h3;show 2*(1024-(t+2))+1<2*(1024-(t+1))+1;omega
end Go.Proofs.YtidfkbghlkcbeaaGreatDoor
