import Derived.Test.YtpmcjimgkabpeaaGreatDoorPk2
import Derived.RegionTactic
import Derived.Deep.RegionWith
import Derived.Laws.Bits64b
import Derived.Test.YtpmcjimgkabpeaaGreatDoorPk5
namespace Go.Proofs.YtpmcjimgkabpeaaGreatDoor
open Go.RowKit Go.Proofs.Tryz
set_option maxHeartbeats 16000000
set_option maxRecDepth 100000
def fZ(g:Nat->Nat):Value:=.agg #[.int .u64 (g 0:Nat),.int .u64 (g 1:Nat),.int .u64 (g 2:Nat),.int .u64 (g 3:Nat)]
def Bt(g:Nat->Nat)(b:Nat):Bool:=(g (b / 64)).testBit (b%64)
def Fit(g:Nat->Nat):Prop:=∀ j:Nat,g j<18446744073709551616
theorem tO(a i:Nat)(ha:a<18446744073709551616)(hi:i<64):bits .or .u64 (a:Int) (IntKind.u64.wrap (2 ^ i))=((a ||| 2 ^ i:Nat):Int):=by
 have h1:(2:Nat) ^ i<2 ^ 64:=Nat.pow_lt_pow_right (by omega) hi;have h2:IntKind.u64.wrap ((2:Int) ^ i)=((2 ^ i:Nat):Int):=by
  rw[IntKind.wrap_u64,Int.natCast_pow];have:((2 ^ i:Nat):Int)<18446744073709551616:=by omega
  rw[Int.natCast_pow]at this;have h0:(0:Int)<=(2:Int) ^ i:=Int.pow_nonneg (by omega);exact Int.emod_eq_of_lt h0 this
 rw[h2];exact bits_or_u64_nat a (2 ^ i) ha (by omega)
theorem yU(a i:Nat)(ha:a<18446744073709551616)(hi:i<64):a ||| 2 ^ i<18446744073709551616:=by
 have h1:(2:Nat) ^ i<2 ^ 64:=Nat.pow_lt_pow_right (by omega) hi;have:a ||| 2 ^ i<2 ^ 64:=Nat.or_lt_two_pow (by omega) h1;omega
theorem pQ(g:Nat->Nat)(k b:Nat):Bt (fun j=>if j=k / 64 then g (k / 64) ||| 2 ^ (k%64) else g j) b=(Bt g b||decide (b=k)):=by
 unfold Bt
 by_cases e:b / 64=k / 64
 ·simp only[e,if_true,Nat.testBit_or,Nat.testBit_two_pow]
  congr 1
  by_cases e2:k%64=b%64
  ·have:b=k:=by omega
   simp[e2,this]
  have:b≠k:=fun h=>e2 (by rw[h])
  simp[e2,this]
 have:b≠k:=fun h=>e (by rw[h])
 simp[e,this]
theorem ir(w:World)(t:TypeId)(g:Nat->Nat):(w.alloc (.cells #[.int .u64 (g 0:Nat),.int .u64 (g 1:Nat),.int .u64 (g 2:Nat),.int .u64 (g 3:Nat)] t)).rowIs w.heap.size t 4 (fun j=>.int .u64 (g j:Nat)):=by
 refine World.rowIs_alloc w #[.int .u64 (g 0:Nat),.int .u64 (g 1:Nat),.int .u64 (g 2:Nat),.int .u64 (g 3:Nat)] t (fun j=>.int .u64 (g j:Nat)) ?_;intro i hi
 match i,hi with
 | 0,_=>rfl
 | 1,_=>rfl
 | 2,_=>rfl
 | 3,_=>rfl
theorem iB(w:World)(t:TypeId):(w.alloc (.cells #[.int .u64 0,.int .u64 0,.int .u64 0,.int .u64 0] t)).rowIs w.heap.size t 4 (fun j=>.int .u64 ((fun _=>0:Nat->Nat) j:Nat)):=ir w t (fun _=>0)
theorem CT(g:Nat->Nat)(lo hi:Int)(w:World)(hg:Fit g)(h0:0<=lo)(h1:hi<=255)(h2:lo<=hi) :
  Calls prog 126 #[fZ g,.int .i64 lo,.int .i64 hi] w fun e w' =>
   ∃ g':Nat->Nat,e=.returned (fZ g')/\Fit g'/\(∀ b:Nat,Bt g' b=(Bt g b||decide (lo<=(b:Int)/\(b:Int)<=hi)))/\Below w.heap.size w w':=by
 unfold fZ;have Hg:=ae hg;clear hg
 go_enter func126,ntmps126
 go_wp2
 go_loopw [7] (fun i wr=>∃ x:Int,lo<=x/\x<=hi+1/\i=.int .i64 x/\(∃ q:Nat->Nat,wr.rowIs w.heap.size 88 4 (fun j=>.int .u64 (q j:Nat))/\Fit q/\∀ b:Nat,Bt q b=(Bt g b||decide (lo<=(b:Int)/\(b:Int)<x)))/\(∃ g:Nat->Value,wr.rowIs (w.heap.size+1) 88 4 g)/\Below w.heap.size w wr) (fun i _=>(hi+1-intOf i).toNat)
 case atStart =>
  refine⟨lo,Int.le_refl _,by omega,rfl,⟨g,(ir w _ g).alloc _,Hg.u,fun b=>?_⟩,⟨fun j=>.int .u64 ((fun _=>0:Nat->Nat) j:Nat),?_⟩,aH w _ _⟩
  ·have:¬ (lo<=(b:Int)/\(b:Int)<lo):=by omega
   simp[this]
  have h:=iB (w.alloc (.cells #[.int .u64 (g 0:Nat),.int .u64 (g 1:Nat),.int .u64 (g 2:Nat),.int .u64 (g 3:Nat)] 88)) 88;rw[ah]at h;exact h
 obtain⟨x,y,z,rfl,⟨q,c,d,o⟩,⟨g2,a⟩,hb⟩:=hrel;obtain⟨k,rfl⟩:=Int.eq_ofNat_of_zero_le (show 0<=x by omega);have p:=ae o;have l:=ae d;have r:=d (k / 64);clear o d
 by_cases hlt:(k:Int)<=hi
 ·have hk:k<=255:=by omega
  have hq:k / 64<4:=by omega
  have c0:=c.cell hq;have f0:=c.frozen (k / 64);have A:((k / 64:Nat):Int)<4:=by omega
  have B:(k:Int) / 64<4:=by omega
  have C:0<=(k:Int) / 64:=by omega
  have m:=ae c;have f:=ae a;have s:=tO (q (k / 64)) (k%64) r (by omega);have n:=yU (q (k / 64)) (k%64) r (by omega);have t:=ae s;clear c a s;go_wp2
  go_region
  go_wp2;rw[t.u];refine⟨⟨(k:Int)+1,by omega,by omega,rfl,⟨fun j=>if j=k / 64 then q (k / 64) ||| 2 ^ (k%64) else q j,?_,?_,?_⟩,⟨g2,?_⟩,?_⟩,by simp[intOf];omega⟩
  ·exact((m.u.set (k / 64) _).congr (fun j _=>by by_cases e:j=k / 64<;>simp[e])).drew
  ·intro j
   by_cases e:j=k / 64
   ·simp only[e,if_true];exact n
   simp only[e,if_false];exact l.u j
  ·intro b;rw[pQ,p.u b,Bool.or_assoc]
   congr 1
   rw[<-Bool.decide_or];exact decide_eq_decide.2 (by omega)
  ·exact(f.u.setOther (by show w.heap.size+1≠w.heap.size;omega) _).drew
  exact(aI hb lR _).drew
 have c0:=c.cell (i:=0) (by omega);have c1:=c.cell (i:=1) (by omega);have c2:=c.cell (i:=2) (by omega);have c3:=c.cell (i:=3) (by omega);have d0:=a.cell (i:=0) (by omega);have d1:=a.cell (i:=1) (by omega);have d2:=a.cell (i:=2) (by omega);have d3:=a.cell (i:=3) (by omega);have f0:=a.frozen 0;have f1:=a.frozen 1;have f2:=a.frozen 2;have f3:=a.frozen 3;clear c a;go_wp2;refine bodyPost_ret (v:=.agg #[.int .u64 (q 0:Nat),.int .u64 (q 1:Nat),.int .u64 (q 2:Nat),.int .u64 (q 3:Nat)]) (by simp[results,results126,go_sem,d0,d1,d2,d3]) rfl ⟨q,rfl,l.u,fun b=>?_,?_⟩
 ·rw[p.u b]
  congr 1
  rw[Bool.eq_iff_iff];simp only[Bool.and_eq_true,decide_eq_true_eq];omega
 exact aI (aI (aI (aI hb (by omega) _) (by omega) _) (by omega) _) (by omega) _
def Tb.Rch(A:Tb)(q:Nat):Prop:=∃ w,Wd w/\A.run 0 w=q
theorem Tb.Rch.zero(A:Tb):A.Rch 0:=⟨[],Wd.nil,rfl⟩
theorem Tb.Rch.stp{A:Tb}{q b:Nat}(h:A.Rch q)(hb:b<256):A.Rch (A.stp q b):=by
 obtain⟨w,hw,rfl⟩:=h;exact⟨w++[b],hw.app (Wd.nil.cons hb),A.run_snoc 0 b w⟩
theorem Tb.Rch.lt{A:Tb}{q:Nat}(h:A.Rch q)(hw:A.Wf):q<A.n:=by
 obtain⟨w,h1,rfl⟩:=h;exact hw.run w 0 hw.pos h1
structure AN (A:Tb) (P:Nat->Nat):Prop where
 rch:∀ q,A.Rch q->A.Rch (P q)
 tel:∀ q,A.Rch q->gk A A (P q) q
 one:∀ p q,A.Rch p->A.Rch q->gk A A p q->P p=P q
theorem AN.idem{A:Tb}{P:Nat->Nat}(h:AN A P){q:Nat}(hq:A.Rch q):P (P q)=P q:=h.one _ _ (h.rch q hq) hq (h.tel q hq)
def Gv(A:Tb)(b b':Nat):Prop:=∀ q,A.Rch q->gk A A (A.stp q b) (A.stp q b')
structure rT (A:Tb) (P:Nat->Nat) (k:Nat) (cls rep:Nat->Nat) (o ys:List Nat):Prop where
 wf:A.Wf
 fst:AN A P
 num:fM 256 k cls rep
 sm:∀ b b',b<256->b'<256->(cls b=cls b'↔Gv A b b')
 bfs:eK k (fun q e=>P (A.stp q (rep e))) (P 0) o ys
 len:ys.length=o.length*k
def tb(xs ys:List Int)(zs:List Bool)(nc:Int):Tb:=⟨zs.length,nc.toNat,fun b=>(xs[b]?.getD 0).toNat,fun q c=>(ys[q*nc.toNat+c]?.getD 0).toNat,fun q=>zs[q]?.getD false⟩
structure cQ (A:Tb) (o ys:List Nat) (m:Nat) (num F:Nat->Nat) (k:Nat) (mg G:Nat->Nat):Prop where
 wf:A.Wf
 up:∀ b,b<256->∀ c,c<A.cl b->∃ b',b'<b/\A.cl b'=c
 full:A.Full
 bfs:eK A.k A.nx 0 o ys
 len:ys.length=o.length*A.k
 num1:fM o.length m num F
 tel:∀ p q,p<o.length->q<o.length->(num p=num q↔gk (bE A.k A.cl A.ac o ys) (bE A.k A.cl A.ac o ys) p q)
 num2:fM A.k k mg G
 sm:∀ c c',c<A.k->c'<A.k->(mg c=mg c'↔∀ q,q<m->(iS (bE A.k A.cl A.ac o ys) m num F).nx q c=(iS (bE A.k A.cl A.ac o ys) m num F).nx q c')
theorem BM{A:Tb}{o ys:List Nat}(hw:A.Wf)(h:eK A.k A.nx 0 o ys)(hl:ys.length=o.length*A.k):gk (bE A.k A.cl A.ac o ys) A 0 0:=fun w hwd=>by
 have:=pH h hl (cl:=A.cl) (ac:=A.ac) hw.cls w 0 0 h.z hwd;show(o[_]?.map A.ac).getD false=_;rw[this];rfl
def cQ.out(A:Tb)(o ys:List Nat)(m:Nat)(num F:Nat->Nat)(k:Nat)(mg G:Nat->Nat):Tb:=yQ (iS (bE A.k A.cl A.ac o ys) m num F) k mg G
theorem cQ.canon{A:Tb}{o ys:List Nat}{m:Nat}{num F:Nat->Nat}{k:Nat}{mg G:Nat->Nat}(h:cQ A o ys m num F k mg G):td (cQ.out A o ys m num F k mg G):=
 ue (mf (jU h.bfs h.len h.wf.cls h.up h.full) h.num1 h.tel) (Aq (jU h.bfs h.len h.wf.cls h.up h.full) h.num1 h.tel) h.num2 h.sm
theorem cQ.start{A:Tb}{o ys:List Nat}{m:Nat}{num F:Nat->Nat}{k:Nat}{mg G:Nat->Nat}(h:cQ A o ys m num F k mg G):gk (cQ.out A o ys m num F k mg G) A 0 0:=by
 have hp:=jU (ac:=A.ac) h.bfs h.len h.wf.cls h.up h.full;have hz:=(h.num1.zero h.bfs.pos);have t1:=mX (mf hp h.num1 h.tel) h.num2 h.sm (s:=0) hz.2.2;have t2:=mh hp h.num1 h.tel (s:=0) h.bfs.pos;rw[hz.1]at t2;exact t1.trans (t2.trans (BM h.wf h.bfs h.len))
def mP(A:Tb):List Int:=(List.range 256).map fun b=>(A.cl b:Int)
def py(A:Tb):List Int:=(List.range (A.n*A.k)).map fun t=>(A.nx (t / A.k) (t%A.k):Int)
def uV(A:Tb):List Bool:=(List.range A.n).map A.ac
def Cz(R:Nat->Prop)(C:Nat->Nat->Prop)(P:Nat->Nat):Prop:=∀ q,R q->R (P q)/\C (P q) q/\∀ p,R p->C p q->P q<=p
structure AQ (R:Nat->Prop) (C:Nat->Nat->Prop):Prop where
 rfl':∀ q,R q->C q q
 symm:∀ p q,R p->R q->C p q->C q p
 trans:∀ p q r,R p->R q->R r->C p q->C q r->C p r
theorem Cz.eq_iff{R:Nat->Prop}{C:Nat->Nat->Prop}{P:Nat->Nat}(h:Cz R C P)(hC:AQ R C){p q:Nat}(hp:R p)(hq:R q):P p=P q↔C p q:=by
 obtain⟨p1,p2,p3⟩:=h p hp;obtain⟨q1,q2,q3⟩:=h q hq
 constructor
 ·intro he;rw[he]at p2;exact hC.trans _ _ _ hp q1 hq (hC.symm _ _ q1 hp p2) q2
 intro a;have h1:=p3 _ q1 (hC.trans _ _ _ q1 hq hp q2 (hC.symm _ _ hp hq a));have h2:=q3 _ p1 (hC.trans _ _ _ p1 hp hq p2 a);omega
theorem Cz.le{R:Nat->Prop}{C:Nat->Nat->Prop}{P:Nat->Nat}(h:Cz R C P)(hC:AQ R C){q:Nat}(hq:R q):P q<=q:=(h q hq).2.2 q hq (hC.rfl' q hq)
theorem Cz.idem{R:Nat->Prop}{C:Nat->Nat->Prop}{P:Nat->Nat}(h:Cz R C P)(hC:AQ R C){q:Nat}(hq:R q):P (P q)=P q:=(h.eq_iff hC (h q hq).1 hq).mpr (h q hq).2.1
def eX(R:Nat->Prop)(L:Nat->Prop)(C:Nat->Nat->Prop)(q v:Nat):Prop:=
 (v<q/\R v/\L v/\C v q/\∀ p,p<v->R p->L p->¬ C p q)∨(v=q/\∀ p,p<q->R p->L p->¬ C p q)
theorem yS{R:Nat->Prop}{C:Nat->Nat->Prop}{L:Nat->Prop}{N:Nat->Nat}(hC:AQ R C)(hL:∀ p,R p->N p=p->L p)(h:∀ q,R q->eX R L C q (N q)):Cz R C N:=by
 intro q
 induction q using Nat.strongRecOn with
 | _ q ih =>
  intro hq;have low:∀ p,p<q->R p->C p q->∃ l,l<=p/\R l/\L l/\C l q:=by
   intro p hp rp a;obtain⟨a1,a2,a3⟩:=ih p hp rp;have b:=a3 p rp (hC.rfl' p rp);obtain⟨b1,b2,b3⟩:=ih (N p) (by omega) a1;have h1:=b3 _ a1 (hC.rfl' _ a1);have h2:=a3 _ b1 (hC.trans _ _ _ b1 a1 rp b2 a2);exact⟨N p,b,a1,hL _ a1 (by omega),hC.trans _ _ _ a1 rp hq a2 a⟩
  rcases h q hq with ⟨k1,k2,k3,k4,k5⟩|⟨k1,k2⟩
  ·refine⟨k2,k4,fun p rp hp=>?_⟩
   apply Classical.byContradiction
   intro hlt;obtain⟨l,l1,l2,l3,l4⟩:=low p (by omega) rp hp;exact k5 l (by omega) l2 l3 l4
  rw[k1];refine⟨hq,hC.rfl' q hq,fun p rp hp=>?_⟩
  apply Classical.byContradiction
  intro hlt;obtain⟨l,l1,l2,l3,l4⟩:=low p (by omega) rp hp;exact k2 l (by omega) l2 l3 l4
def rnd(A:Tb)(C:Nat->Nat->Prop)(p q:Nat):Prop:=C p q/\∀ c,c<A.k->C (A.nx p c) (A.nx q c)
theorem Tb.Rch.nx{A:Tb}(hf:A.Full){q c:Nat}(h:A.Rch q)(hc:c<A.k):A.Rch (A.nx q c):=by
 obtain⟨b,hb,rfl⟩:=hf c hc;exact h.stp hb
theorem AQ.rnd{A:Tb}{C:Nat->Nat->Prop}(hf:A.Full)(h:AQ A.Rch C):AQ A.Rch (rnd A C) where
 rfl':=fun q hq=>⟨h.rfl' q hq,fun _ hc=>h.rfl' _ (hq.nx hf hc)⟩
 symm:=fun p q hp hq k=>⟨h.symm p q hp hq k.1,fun c hc=>h.symm _ _ (hp.nx hf hc) (hq.nx hf hc) (k.2 c hc)⟩
 trans:=fun p q r hp hq hr k l=>⟨h.trans p q r hp hq hr k.1 l.1,fun c hc=>h.trans _ _ _ (hp.nx hf hc) (hq.nx hf hc) (hr.nx hf hc) (k.2 c hc) (l.2 c hc)⟩
structure oV (A:Tb) (C:Nat->Nat->Prop) (P:Nat->Nat):Prop where
 equ:AQ A.Rch C
 lst:Cz A.Rch C P
 ac:∀ p q,A.Rch p->A.Rch q->C p q->A.ac p=A.ac q
 tel:∀ p q,A.Rch p->A.Rch q->gk A A p q->C p q
theorem yZ(A:Tb):AQ A.Rch fun p q=>A.ac p=A.ac q:=⟨fun _ _=>rfl,fun _ _ _ _ h=>h.symm,fun _ _ _ _ _ _ h g=>h.trans g⟩
theorem oV.start{A:Tb}{P:Nat->Nat}(h:∀ q,A.Rch q->eX A.Rch (fun _=>True) (fun p q=>A.ac p=A.ac q) q (P q)):oV A (fun p q=>A.ac p=A.ac q) P:=
 ⟨yZ A,yS (yZ A) (fun _ _ _=>trivial) h,fun _ _ _ _ h=>h,fun _ _ _ _ h=>h.ac⟩
theorem oV.next{A:Tb}{C:Nat->Nat->Prop}{P N:Nat->Nat}(h:oV A C P)(hf:A.Full)
  (hN:∀ q,A.Rch q->eX A.Rch (fun p=>N p=p) (fun p q=>P p=P q/\∀ c,c<A.k->P (A.nx p c)=P (A.nx q c)) q (N q)):oV A (rnd A C) N:=by
 have hi:∀ {p q:Nat},A.Rch p->A.Rch q->((P p=P q/\∀ c,c<A.k->P (A.nx p c)=P (A.nx q c))↔rnd A C p q):=fun {p q} hp hq =>
  ⟨fun k=>⟨(h.lst.eq_iff h.equ hp hq).mp k.1,fun c hc=>(h.lst.eq_iff h.equ (hp.nx hf hc) (hq.nx hf hc)).mp (k.2 c hc)⟩,
   fun k=>⟨(h.lst.eq_iff h.equ hp hq).mpr k.1,fun c hc=>(h.lst.eq_iff h.equ (hp.nx hf hc) (hq.nx hf hc)).mpr (k.2 c hc)⟩⟩
 refine⟨h.equ.rnd hf,yS (L:=fun p=>N p=p) (h.equ.rnd hf) (fun _ _ k=>k) (fun q hq=>?_),fun p q hp hq k=>h.ac p q hp hq k.1,fun p q hp hq k=>⟨h.tel p q hp hq k,fun c hc=>h.tel _ _ (hp.nx hf hc) (hq.nx hf hc) (k.nx hf hc)⟩⟩;rcases hN q hq with ⟨k1,k2,k3,k4,k5⟩|⟨k1,k2⟩
 ·exact .inl ⟨k1,k2,k3,(hi k2 hq).mp k4,fun p hp rp lp hc=>k5 p hp rp lp ((hi rp hq).mpr hc)⟩
 exact .inr ⟨k1,fun p hp rp lp hc=>k2 p hp rp lp ((hi rp hq).mpr hc)⟩
theorem oV.fin{A:Tb}{C:Nat->Nat->Prop}{P N:Nat->Nat}(h:oV A C P)(g:oV A (rnd A C) N)(hw0:A.Wf)(he:∀ q,A.Rch q->N q=P q):AN A P:=by
 have hC:∀ p q,A.Rch p->A.Rch q->C p q->rnd A C p q:=fun p q hp hq k=>(g.lst.eq_iff g.equ hp hq).mp (by rw[he p hp,he q hq];exact(h.lst.eq_iff h.equ hp hq).mpr k)
 have hT:∀ (w:List Nat) (p q:Nat),A.Rch p->A.Rch q->C p q->Wd w->A.ac (A.run p w)=A.ac (A.run q w):=by
  intro w
  induction w with
  | nil=>intro p q hp hq k _;exact h.ac p q hp hq k
  | cons b w ih =>
   intro p q hp hq k hw;have hb:=hw b (.head _);exact ih _ _ (hp.stp hb) (hq.stp hb) ((hC p q hp hq k).2 _ (hw0.cls b hb)) fun x hx=>hw x (.tail _ hx)
 exact⟨fun q hq=>(h.lst q hq).1,fun q hq w hw=>hT w _ _ (h.lst q hq).1 hq (h.lst q hq).2.1 hw,fun p q hp hq k=>(h.lst.eq_iff h.equ hp hq).mpr (h.tel p q hp hq k)⟩
structure eY {α:Type} (key:Nat->α) (ds:List α) (ns fs:List Nat):Prop where
 nd:∀ i j:Nat,i<ds.length->j<ds.length->ds[i]?=ds[j]?->i=j
 ky:∀ s,s<ns.length->ds[ns[s]?.getD 0]?=some (key s)
 fl:fs.length=ds.length
 fr:∀ j,j<ds.length->fs[j]?.getD 0<ns.length/\ns[fs[j]?.getD 0]?.getD 0=j
 le:∀ s,s<ns.length->fs[ns[s]?.getD 0]?.getD 0<=s
 up:∀ i j,i<j->j<ds.length->fs[i]?.getD 0<fs[j]?.getD 0
theorem eY.nil{α:Type}(key:Nat->α):eY key [] [] []:=by
 refine⟨fun i j hi=>by simp at hi,fun s hs=>by simp at hs,rfl,fun j hj=>by simp at hj,fun s hs=>by simp at hs,fun i j _ hj=>by simp at hj⟩
theorem eY.old{α:Type}{key:Nat->α}{ds:List α}{ns fs:List Nat}{j:Nat}(h:eY key ds ns fs)(hj:ds[j]?=some (key ns.length)):eY key ds (ns++[j]) fs where
 nd:=h.nd
 ky:=fun s hs=>by
  simp only[List.length_append,List.length_singleton]at hs
  by_cases he:s=ns.length
  ·subst he;rw[de];exact hj
  rw[bK (by omega)];exact h.ky s (by omega)
 fl:=h.fl
 fr:=fun i hi=>by
  obtain⟨h1,h2⟩:=h.fr i hi;exact⟨by simp;omega,by rw[bK h1];exact h2⟩
 le:=fun s hs=>by
  simp only[List.length_append,List.length_singleton]at hs
  by_cases he:s=ns.length
  ·subst he;rw[de];have:=(h.fr j (da hj)).1;omega
  rw[bK (by omega)];exact h.le s (by omega)
 up:=h.up
theorem eY.new{α:Type}{key:Nat->α}{ds:List α}{ns fs:List Nat}(h:eY key ds ns fs)(hno:∀ i:Nat,i<ds.length->ds[i]?≠some (key ns.length)):eY key (ds++[key ns.length]) (ns++[ds.length]) (fs++[ns.length]):=by
 have b:=h.fl;have a:(fs++[ns.length])[ds.length]?.getD 0=ns.length:=by rw[<-b];exact de
 refine⟨fun i j hi hj he=>?_,fun s hs=>?_,by simp[b],fun j hj=>?_,fun s hs=>?_,fun i j hij hj=>?_⟩
 ·simp only[List.length_append,List.length_singleton]at hi hj;rcases Nat.lt_or_ge i ds.length with h1|h1<;>rcases Nat.lt_or_ge j ds.length with h2|h2
  ·rw[List.getElem?_append_left h1,List.getElem?_append_left h2]at he;exact h.nd i j h1 h2 he
  ·have:j=ds.length:=by omega
   subst this;rw[List.getElem?_append_left h1]at he;simp at he;exact absurd he (hno i h1)
  ·have:i=ds.length:=by omega
   subst this;rw[List.getElem?_append_left h2]at he;simp at he;exact absurd he.symm (hno j h2)
  omega
 ·simp only[List.length_append,List.length_singleton]at hs
  by_cases he:s=ns.length
  ·subst he;rw[de];simp
  rw[bK (by omega)];have:=h.ky s (by omega);rw[List.getElem?_append_left (da this)];exact this
 ·simp only[List.length_append,List.length_singleton]at hj
  by_cases he:j=ds.length
  ·subst he;rw[a];exact⟨by simp,de⟩
  obtain⟨h1,h2⟩:=h.fr j (by omega);rw[bK (by omega)];exact⟨by simp;omega,by rw[bK h1];exact h2⟩
 ·simp only[List.length_append,List.length_singleton]at hs
  by_cases he:s=ns.length
  ·subst he;rw[de,a];exact Nat.le_refl _
  rw[bK (ys:=ns) (by omega)];have:=da (h.ky s (by omega));rw[bK (by omega)];exact h.le s (by omega)
 simp only[List.length_append,List.length_singleton]at hj;rw[bK (t:=i) (by omega)]
 by_cases he:j=ds.length
 ·subst he;rw[a];exact(h.fr i hij).1
 rw[bK (by omega)];exact h.up i j hij (by omega)
theorem eY.num1{α:Type}{key:Nat->α}{ds:List α}{ns fs:List Nat}(h:eY key ds ns fs):fM ns.length ds.length (fun s=>ns[s]?.getD 0) (fun j=>fs[j]?.getD 0):=
 ⟨fun s hs=>da (h.ky s hs),h.fr,h.le,h.up⟩
theorem eY.eq_iff{α:Type}{key:Nat->α}{ds:List α}{ns fs:List Nat}(h:eY key ds ns fs){p q:Nat}(hp:p<ns.length)(hq:q<ns.length):ns[p]?.getD 0=ns[q]?.getD 0↔key p=key q:=by
 have k1:=h.ky p hp;have k2:=h.ky q hq
 constructor
 ·intro he;rw[he,k2]at k1;exact(Option.some.inj k1).symm
 intro he;exact h.nd _ _ (da k1) (da k2) (by rw[k1,k2,he])
structure Cn (A:Tb) (q m:Nat) (mg G:Nat->Nat):Prop where
 num:fM A.k m mg G
 sm:∀ c c',c<A.k->c'<A.k->(mg c=mg c'↔∀ p,p<q->A.nx p c=A.nx p c')
theorem Cn.start{A:Tb}(hk:0<A.k):Cn A 0 1 (fun _=>0) (fun _=>0) where
 num:=⟨fun _ _=>by omega,fun j hj=>⟨hk,by omega⟩,fun s _=>Nat.zero_le s,fun i j h1 h2=>by omega⟩
 sm:=fun _ _ _ _=>⟨fun _ p hp=>by omega,fun _=>rfl⟩
theorem Cn.next{A:Tb}{q m:Nat}{mg G:Nat->Nat}(h:Cn A q m mg G){ds:List (Nat×Nat)}{ns fs:List Nat}(g:eY (fun c=>(mg c,A.nx q c)) ds ns fs)(hl:ns.length=A.k) :
  Cn A (q+1) ds.length (fun c=>ns[c]?.getD 0) (fun j=>fs[j]?.getD 0) where
 num:=by rw[<-hl];exact g.num1
 sm:=fun c c' hc hc'=>by
  rw[g.eq_iff (by omega) (by omega)]
  constructor
  ·intro he p hp;have h1:mg c=mg c':=congrArg Prod.fst he;have h2:A.nx q c=A.nx q c':=congrArg Prod.snd he
   by_cases hpq:p=q
   ·rw[hpq];exact h2
   exact(h.sm c c' hc hc').mp h1 p (by omega)
  intro ha;exact Prod.ext ((h.sm c c' hc hc').mpr fun p hp=>ha p (by omega)) (ha q (by omega))
theorem fM.meet{n m:Nat}{num F:Nat->Nat}(h:fM n m num F){c met:Nat}(hc:c<n)(hm:∀ j,j<m->(F j<c↔j<met)):(num c=met->F met=c/\met<m)/\(num c≠met->∀ j,j<m->(F j<c+1↔j<met))/\(num c=met->∀ j,j<m->(F j<c+1↔j<met+1)):=by
 have hl:=h.lt c hc;have d:=h.le c hc;have hf:=h.fst _ hl;have a:num c=met->F met=c/\met<m:=fun he=>by
  rw[he]at d hl;have:=hm met hl;omega
 refine⟨a,fun hne j hj=>?_,fun he j hj=>?_⟩
 ·have h1:=hm j hj
  constructor
  ·intro hlt
   apply Classical.byContradiction
   intro e;have f:F j=c:=by omega
   have:=(h.fst j hj).2;rw[f]at this;have b:met<j:=by omega
   have h2:=hm met (by omega);have h3:=h.up met j b hj;omega
  omega
 obtain⟨a1,a2⟩:=a he;have h1:=hm j hj
 constructor
 ·intro hlt
  apply Classical.byContradiction
  intro e;have h3:=h.up met j (by omega) hj;omega
 intro hlt
 by_cases b:j=met
 ·rw[b,a1];omega
 have:=h1.mpr (by omega);omega
def bW(f:Nat->Nat)(i v:Nat):Nat->Nat:=fun x=>if x=i then v else f x
theorem bG(f:Nat->Nat)(i v:Nat):bW f i v i=v:=by simp[bW]
theorem aW(f:Nat->Nat){i v x:Nat}(h:x≠i):bW f i v x=f x:=by simp[bW,h]
structure eS (n N:Nat) (ms ps bs fr mk tt:Nat->Nat):Prop where
 m1:∀ i,i<n->ms i<n/\ps (ms i)=i
 p1:∀ s,s<n->ps s<n/\ms (ps s)=s
 b1:∀ b,b<N->fr b<=mk b/\mk b<=tt b/\fr b<tt b/\tt b<=n
 s1:∀ s,s<n->bs s<N/\fr (bs s)<=ps s/\ps s<tt (bs s)
 s2:∀ s b,s<n->b<N->fr b<=ps s->ps s<tt b->bs s=b
theorem eS.start{n:Nat}{fr mk tt:Nat->Nat}(hn:0<n)(h1:fr 0=0)(h2:mk 0=0)(h3:tt 0=n):eS n 1 (fun i=>i) (fun i=>i) (fun _=>0) fr mk tt where
 m1:=fun _ hi=>⟨hi,rfl⟩
 p1:=fun _ hi=>⟨hi,rfl⟩
 b1:=fun b hb=>by
  obtain rfl:b=0:=by omega
  omega
 s1:=fun s hs=>⟨by omega,by omega,by omega⟩
 s2:=fun s b _ hb _ _=>by omega
theorem eS.mark{n N:Nat}{ms ps bs fr mk tt:Nat->Nat}(h:eS n N ms ps bs fr mk tt){s:Nat}(hs:s<n)(hm:mk (bs s)<=ps s) :
  eS n N (bW (bW ms (ps s) (ms (mk (bs s)))) (mk (bs s)) s) (bW (bW ps (ms (mk (bs s))) (ps s)) s (mk (bs s))) bs fr (bW mk (bs s) (mk (bs s)+1)) tt/\
  ∀ t,t<n->(bW (bW ps (ms (mk (bs s))) (ps s)) s (mk (bs s)) t<bW mk (bs s) (mk (bs s)+1) (bs t)↔ps t<mk (bs t)∨t=s):=by
 obtain⟨a1,a2,a3⟩:=h.s1 s hs;obtain⟨b1,b2,b3,b4⟩:=h.b1 _ a1;have pn:=(h.p1 s hs).1;have pm:=(h.p1 s hs).2;have jn:mk (bs s)<n:=by omega
 obtain⟨x1,x2⟩:=h.m1 _ jn;have xb:bs (ms (mk (bs s)))=bs s:=h.s2 _ _ x1 a1 (by omega) (by omega);generalize hx:ms (mk (bs s))=x at *;generalize hj:mk (bs s)=j at *;generalize hi:ps s=i at *;generalize hb:bs s=b at *;have d:x=s↔i=j:=by
  constructor
  ·intro he;subst he;omega
  intro he;subst he;rw[hx]at pm;exact pm
 -- where a state stands now
 have ps':∀ t,t<n->bW (bW ps x i) s j t=(if t=s then j else if t=x then i else ps t):=fun t _=>by
  by_cases h1:t=s
  ·simp[bW,h1]
  by_cases h2:t=x<;>simp[bW,h1,h2]
 have pj:∀ t,t<n->ps t=j->t=x:=fun t ht he=>by have:=(h.p1 t ht).2;rw[he,hx]at this;exact this.symm
 have pi:∀ t,t<n->ps t=i->t=s:=fun t ht he=>by have:=(h.p1 t ht).2;rw[he,pm]at this;exact this.symm
 refine⟨⟨fun k hk=>?_,fun t ht=>?_,fun c hc=>?_,fun t ht=>?_,fun t c ht hc=>?_⟩,fun t ht=>?_⟩
 ·by_cases h1:k=j
  ·subst h1;rw[bG];exact⟨hs,by rw[ps' s hs];simp⟩
  rw[aW _ h1]
  by_cases h2:k=i
  ·subst h2;rw[bG];refine⟨x1,?_⟩;rw[ps' x x1];have:x≠s:=fun he=>h1 (d.mp he)
   simp[this]
  rw[aW _ h2];obtain⟨k1,k2⟩:=h.m1 k hk;refine⟨k1,?_⟩;rw[ps' _ k1];have e1:ms k≠s:=fun he=>by rw[he,hi]at k2;exact h2 k2.symm
  have e2:ms k≠x:=fun he=>by rw[he,x2]at k2;exact h1 k2.symm
  simp[e1,e2,k2]
 ·rw[ps' t ht]
  by_cases h1:t=s
  ·subst h1;simp only[if_true];exact⟨jn,bG _ _ _⟩
  by_cases h2:t=x
  ·subst h2;simp only[h1,if_false,if_true];refine⟨pn,?_⟩;have:i≠j:=fun he=>h1 (d.mpr he)
   rw[aW _ this,bG]
  simp only[h1,h2,if_false];obtain⟨k1,k2⟩:=h.p1 t ht;refine⟨k1,?_⟩;rw[aW _ (fun he=>h2 (pj t ht he)),aW _ (fun he=>h1 (pi t ht he))];exact k2
 ·by_cases h1:c=b
  ·subst h1;rw[bG];omega
  rw[aW _ h1];exact h.b1 c hc
 ·rw[ps' t ht]
  by_cases h1:t=s
  ·subst h1;simp only[if_true,hb];exact⟨a1,by omega,by omega⟩
  by_cases h2:t=x
  ·subst h2;simp only[h1,if_false,if_true,xb];exact⟨a1,by omega,by omega⟩
  simp only[h1,h2,if_false];exact h.s1 t ht
 ·rw[ps' t ht]
  by_cases h1:t=s
  ·subst h1;simp only[if_true];intro k1 k2;rw[hb,<-xb];exact h.s2 x c x1 hc (by omega) (by omega)
  by_cases h2:t=x
  ·subst h2;simp only[h1,if_false,if_true];intro k1 k2;rw[xb,<-hb];exact h.s2 s c hs hc (by omega) (by omega)
  simp only[h1,h2,if_false];exact h.s2 t c ht hc
 rw[ps' t ht]
 by_cases h1:t=s
 ·subst h1;simp[hb,bG]
 by_cases h2:t=x
 ·subst h2;simp only[h1,if_false,if_true,xb,bG,hj,x2,or_false];have:i≠j:=fun he=>h1 (d.mpr he)
  omega
 simp only[h1,h2,if_false,or_false]
 by_cases h3:bs t=b
 ·rw[h3,bG,hj];have:ps t≠j:=fun he=>h2 (pj t ht he)
  omega
 rw[aW _ h3]
theorem eS.cut{n N:Nat}{ms ps bs fr mk tt:Nat->Nat}(h:eS n N ms ps bs fr mk tt){b o1 o2 r1 r2:Nat}(hb:b<N)(h1:fr b<mk b)(h2:mk b<tt b)
  (ho:(o1=fr b/\o2=mk b/\r1=mk b/\r2=tt b)∨(o1=mk b/\o2=tt b/\r1=fr b/\r2=mk b)){bs':Nat->Nat}(hbs:∀ t,t<n->bs' t=if o1<=ps t/\ps t<o2 then N else bs t) :
  eS n (N+1) ms ps bs' (bW (bW fr b r1) N o1) (bW (bW mk b r1) N o1) (bW (bW tt b r2) N o2)/\
  (∀ p q,p<n->q<n->(bs' p=bs' q↔bs p=bs q/\(bs p=b->(ps p<mk b↔ps q<mk b))))/\
  (∀ p,p<n->bs p≠b->bs' p=bs p)/\(∀ p,p<n->bs p=b->bs' p=b∨bs' p=N):=by
 obtain⟨b1,b2,b3,b4⟩:=h.b1 b hb;have nb:N≠b:=by omega
 have inn:∀ t,t<n->((fr b<=ps t/\ps t<tt b)↔bs t=b):=fun t ht=>⟨fun k=>h.s2 t b ht hb k.1 k.2,fun k=>by have:=h.s1 t ht;rw[k]at this;exact this.2⟩
 have off:∀ t,t<n->(o1<=ps t/\ps t<o2↔bs t=b/\o1<=ps t/\ps t<o2):=fun t ht=>by
  have:=inn t ht;omega
 have frb:bW (bW fr b r1) N o1 b=r1:=by rw[aW _ (Ne.symm nb),bG]
 have mkb:bW (bW mk b r1) N o1 b=r1:=by rw[aW _ (Ne.symm nb),bG]
 have ttb:bW (bW tt b r2) N o2 b=r2:=by rw[aW _ (Ne.symm nb),bG]
 have frN:bW (bW fr b r1) N o1 N=o1:=bG _ _ _;have mkN:bW (bW mk b r1) N o1 N=o1:=bG _ _ _;have ttN:bW (bW tt b r2) N o2 N=o2:=bG _ _ _;have fro:∀ c,c≠N->c≠b->bW (bW fr b r1) N o1 c=fr c:=fun c k1 k2=>by rw[aW _ k1,aW _ k2]
 have mko:∀ c,c≠N->c≠b->bW (bW mk b r1) N o1 c=mk c:=fun c k1 k2=>by rw[aW _ k1,aW _ k2]
 have tto:∀ c,c≠N->c≠b->bW (bW tt b r2) N o2 c=tt c:=fun c k1 k2=>by rw[aW _ k1,aW _ k2]
 refine⟨⟨h.m1,h.p1,fun c hc=>?_,fun t ht=>?_,fun t c ht hc=>?_⟩,fun p q hp hq=>?_,fun p hp hne=>?_,fun p hp he=>?_⟩
 ·by_cases k1:c=N
  ·subst k1;rw[frN,mkN,ttN];omega
  by_cases k2:c=b
  ·subst k2;rw[frb,mkb,ttb];omega
  rw[fro c k1 k2,mko c k1 k2,tto c k1 k2];exact h.b1 c (by omega)
 ·have hi:=inn t ht;obtain⟨s1,s2,s3⟩:=h.s1 t ht;rw[hbs t ht]
  split
  ·rename_i hc
   rw[frN,ttN];exact⟨by omega,hc.1,hc.2⟩
  rename_i hc
  by_cases k2:bs t=b
  ·rw[k2,frb,ttb];have:=hi.mpr k2;omega
  rw[fro _ (by omega) k2,tto _ (by omega) k2];exact⟨by omega,s2,s3⟩
 ·have hi:=inn t ht;intro k3 k4;rw[hbs t ht]
  by_cases k1:c=N
  ·subst k1;rw[frN]at k3;rw[ttN]at k4;rw[if_pos ⟨k3,k4⟩]
  by_cases k2:c=b
  ·subst k2;rw[frb]at k3;rw[ttb]at k4;rw[if_neg (by omega)];exact hi.mp (by omega)
  rw[fro c k1 k2]at k3;rw[tto c k1 k2]at k4;have hs:=h.s2 t c ht (by omega) k3 k4;rw[if_neg (fun hc=>by have:=((off t ht).mp hc).1;omega)];exact hs
 ·have ip:=inn p hp;have iq:=inn q hq;have sp:=(h.s1 p hp).1;have sq:=(h.s1 q hq).1;rw[hbs p hp,hbs q hq]
  by_cases c1:o1<=ps p/\ps p<o2<;>by_cases c2:o1<=ps q/\ps q<o2
  ·rw[if_pos c1,if_pos c2];have e1:=((off p hp).mp c1).1;have e2:=((off q hq).mp c2).1;rw[e1,e2];refine⟨fun _=>⟨rfl,fun _=>by omega⟩,fun _=>rfl⟩
  ·rw[if_pos c1,if_neg c2];have e1:=((off p hp).mp c1).1
   constructor
   ·intro he;omega
   intro ⟨he,k⟩;have:=k e1;have:=iq.mpr (by omega);omega
  ·rw[if_neg c1,if_pos c2];have e2:=((off q hq).mp c2).1
   constructor
   ·intro he;omega
   intro ⟨he,k⟩;have:=k (by omega);have:=ip.mpr (by omega);omega
  rw[if_neg c1,if_neg c2]
  constructor
  ·intro he;refine⟨he,fun k=>?_⟩;have:=ip.mpr k;have:=iq.mpr (by omega);omega
  exact fun k=>k.1
 ·rw[hbs p hp,if_neg (fun hc=>hne ((off p hp).mp hc).1)]
 rw[hbs p hp]
 split
 ·exact .inr rfl
 exact .inl he
theorem eS.unmark{n N:Nat}{ms ps bs fr mk tt:Nat->Nat}(h:eS n N ms ps bs fr mk tt){b:Nat}(_hb:b<N):eS n N ms ps bs fr (bW mk b (fr b)) tt where
 m1:=h.m1
 p1:=h.p1
 b1:=fun c hc=>by
  have:=h.b1 c hc
  by_cases k:c=b
  ·subst k;rw[bG];omega
  rw[aW _ k];exact this
 s1:=h.s1
 s2:=h.s2
theorem iV(g mb mo bb bo n N c1 c2:Nat)(k fr mk tt:Nat)(w:World)(hk:k<N)(h1:fr<tt)(h2:tt<=n)(h3:n<=c1)(hg:g<w.heap.size)
  (f0:w.cell? ⟨g,0,none⟩=some (.slice (some ⟨mb,mo,none⟩) n c1))(f3:w.cell? ⟨g,3,none⟩=some (.slice (some ⟨bb,bo,none⟩) N c2))
  (b0:w.cell? ⟨bb,bo+k*3,none⟩=some (.int .i64 fr))(b1:w.cell? ⟨bb,bo+k*3+1,none⟩=some (.int .i64 mk))(b2:w.cell? ⟨bb,bo+k*3+2,none⟩=some (.int .i64 tt)) :
  Calls prog 123 #[.pointer (some ⟨g,0,none⟩),.int .i64 k] w fun e w'=>e=.returned (.slice (some ⟨mb,mo+fr,none⟩) (tt-fr) (c1-fr))/\Below w.heap.size w w':=by
 have a:(k:Int)<(N:Int):=by omega
 have q1:(fr:Int)<=(tt:Int):=by omega
 have q2:(tt:Int)<=(c1:Int):=by omega
 have q3:¬ c1=fr:=by omega
 go_enter func123,ntmps123
 go_wp2_with fail;have u0:(w.alloc (.cells #[.int .i64 fr,.int .i64 mk,.int .i64 tt] 205)).cell? ⟨g,0,none⟩=some (.slice (some ⟨mb,mo,none⟩) n c1):=by rw[(ai w _).cell (p:=⟨g,0,none⟩) hg];exact f0
 go_quiet (fail);go_wp2;go_ret;exact⟨rfl,below_drewN (ai w _) _⟩
end Go.Proofs.YtpmcjimgkabpeaaGreatDoor
