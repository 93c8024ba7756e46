import Derived.Test.YtidfkbghlkcbeaaGreatDoorPk1
import Derived.Test.YtidfkbghlkcbeaaGreatDoorPk5
import Derived.Test.YtidfkbghlkcbeaaGreatDoorPk4
namespace Go.Proofs.YtidfkbghlkcbeaaGreatDoor
def cap(n:Int):Int:=if 500<n then 501 else n
def bK(c mn mx:Int):Int:=if mx = -1 then (if mn<1 then 1 else mn)*c+1 else if mx=0 then c else mn*c+(mx-mn)*(c+1)
theorem mU{n:Int}(h:0<=n):0<=cap n/\cap n<=501:=by unfold cap;split<;>omega
def nf(st:List Int)(x:El):List Int:=
 if x.kind=0∨x.kind=1 then 1::st else
 match st with
 | []=>[]
 | [o]=>if x.kind=4 then [cap (bK o x.mn x.mx)] else [o]
 | r::l::b=>if x.kind=4 then cap (bK r x.mn x.mx)::l::b else cap (l+r)::b
def gS(st:List Int):List El->List Int
 | []=>st
 | x::r=>gS (nf st x) r
theorem gK(st:List Int)(a b:List El):gS st (a++b)=gS (gS st a) b:=by
 induction a generalizing st with
 | nil=>rfl
 | cons x r ih=>simp[gS,ih]
structure ba (seg:List El) (c:Int):Prop where
 ne:0<seg.length
 ws:aQ seg=1
 tl:∀ k:Nat,0<k->k<=seg.length->aQ (seg.drop k)<=0
 run:∀ st,gS st seg=c::st
 bd:0<=c/\c<=501
theorem ba.leaf{x:El}(h:x.kind=0∨x.kind=1):ba [x] 1:=by
 have hw:wt x=1:=by unfold wt;rw[if_pos h]
 refine⟨by simp,by simp[aQ,hw],fun k h0 h1=>?_,fun st=>?_,by omega⟩
 ·simp only[List.length_singleton]at h1;obtain rfl:k=1:=by omega
  simp[aQ]
 simp only[gS,nf];rw[if_pos h]
theorem ba.bin{a b:List El}{ca cb:Int}{x:El}(ha:ba a ca)(hb:ba b cb)(h:x.kind=2∨x.kind=3):ba (a++b++[x]) (cap (ca+cb)):=by
 have hx:wt x = -1:=by unfold wt;rw[if_neg (by omega),if_pos h]
 refine⟨by simp;omega,by simp[aF,ha.ws,hb.ws,aQ,hx],fun k h0 h1=>?_,fun st=>?_,mU (by have:=ha.bd;have:=hb.bd;omega)⟩
 ·simp only[List.length_append,List.length_singleton]at h1;rw[List.append_assoc,List.drop_append,aF]
  by_cases hk:k<=a.length
  ·have e:k-a.length=0:=by omega
   have:=ha.tl k h0 hk;rw[e,List.drop_zero,aF,hb.ws];simp[aQ,hx];omega
  rw[List.drop_eq_nil_of_le (by omega),List.drop_append,aF]
  by_cases hk2:k-a.length<=b.length
  ·have e:k-a.length-b.length=0:=by omega
   have:=hb.tl (k-a.length) (by omega) hk2;rw[e,List.drop_zero];simp[aQ,hx];omega
  rw[List.drop_eq_nil_of_le (show b.length<=k-a.length by omega),List.drop_eq_nil_of_le (by simp;omega)];simp[aQ]
 rw[gK,gK,ha.run,hb.run];simp only[gS,nf];rw[if_neg (by omega),if_neg (by omega)]
theorem ba.rep{a:List El}{ca:Int}{x:El}(ha:ba a ca)(h:x.kind=4)(o2:0<=x.mn)(o4:x.mx = -1∨(x.mn<=x.mx/\x.mx<=250)):ba (a++[x]) (cap (bK ca x.mn x.mx)):=by
 have hx:wt x=0:=by unfold wt;rw[if_neg (by omega),if_neg (by omega)]
 have hc:=ha.bd;refine⟨by simp,by simp[aF,ha.ws,aQ,hx],fun k h0 h1=>?_,fun st=>?_,mU ?_⟩
 ·simp only[List.length_append,List.length_singleton]at h1;rw[List.drop_append,aF]
  by_cases hk:k<=a.length
  ·have e:k-a.length=0:=by omega
   have:=ha.tl k h0 hk;rw[e,List.drop_zero];simp[aQ,hx];omega
  rw[List.drop_eq_nil_of_le (by omega),List.drop_eq_nil_of_le (by simp;omega)];simp[aQ]
 ·rw[gK,ha.run];cases st with
  | nil=>simp only[gS,nf];rw[if_neg (by omega),if_pos h]
  | cons q st=>simp only[gS,nf];rw[if_neg (by omega),if_pos h]
 unfold bK
 split
 ·have:0<=(if x.mn<1 then 1 else x.mn)*ca:=Int.mul_nonneg (by split<;>omega) hc.1;omega
 split
 ·exact hc.1
 have h1:0<=x.mn*ca:=Int.mul_nonneg o2 hc.1;have h2:0<=(x.mx-x.mn)*(ca+1):=Int.mul_nonneg (by omega) (by omega);omega
def dU(st:List (List El×Int))(x:El)(st':List (List El×Int)):Prop:=
 ((x.kind=0∨x.kind=1)/\st'=st++[([x],1)]) ∨
 ((x.kind=2∨x.kind=3)/\∃ b l r,st=b++[l,r]/\st'=b++[(l.1++r.1++[x],cap (l.2+r.2))]) ∨
 (x.kind=4/\∃ b o,st=b++[o]/\st'=b++[(o.1++[x],cap (bK o.2 x.mn x.mx))])
def flats(st:List (List El×Int)):List El:=(st.map (fun s=>s.1)).flatten
theorem kF(t:List El×Int):flats [t]=t.1:=by simp[flats]
theorem dg{st:List (List El×Int)}(h:∀ s∈st,aQ s.1=1):aQ (flats st)=st.length:=by
 induction st with
 | nil=>rfl
 | cons t r ih =>
  have e:flats (t::r)=t.1++flats r:=rfl;rw[e,aF,h t (by simp),ih (fun s hs=>h s (by simp[hs]))];simp;omega
theorem dU.flats{st st':List (List El×Int)}{x:El}(h:dU st x st'):flats st'=flats st++[x]:=by
 rcases h with ⟨-,rfl⟩|⟨-,b,l,r,rfl,rfl⟩|⟨-,b,o,rfl,rfl⟩<;>simp[YtidfkbghlkcbeaaGreatDoor.flats]
theorem vr{st:List (List El×Int)}(h:1<=st.length):∃ b o,st=b++[o]:=by
 rcases List.eq_nil_or_concat st with rfl|⟨b,o,rfl⟩
 ·simp at h
 exact⟨b,o,by simp⟩
theorem Av{st:List (List El×Int)}(h:2<=st.length):∃ b l r,st=b++[l,r]:=by
 obtain⟨b,r,rfl⟩:=vr (st:=st) (by omega);obtain⟨b',l,rfl⟩:=vr (st:=b) (by simp at h;omega);exact⟨b',l,r,by simp⟩
theorem dU.ex{st:List (List El×Int)}{x:El}(ok:gZ x)(h:1<=(st.length:Int)+wt x):∃ st',dU st x st':=by
 rcases ok with ⟨q1,q2,q3,q4⟩|⟨q1|q1,q2,q3,q4⟩|⟨q1,q2,q3,q4,q5⟩
 ·exact⟨_,Or.inl ⟨Or.inr q1,rfl⟩⟩
 ·exact⟨_,Or.inl ⟨Or.inl q1,rfl⟩⟩
 ·obtain⟨b,l,r,rfl⟩:=Av (st:=st) (by
   have e:wt x = -1:=by unfold wt;rw[if_neg (by omega),if_pos q1]
   omega)
  exact⟨_,Or.inr (Or.inl ⟨q1,b,l,r,rfl,rfl⟩)⟩
 obtain⟨b,o,rfl⟩:=vr (st:=st) (by
  have e:wt x=0:=by unfold wt;rw[if_neg (by omega),if_neg (by omega)]
  omega)
 exact⟨_,Or.inr (Or.inr ⟨q1,b,o,rfl,rfl⟩)⟩
theorem dU.seg{st st':List (List El×Int)}{x:El}(h:dU st x st')(ok:gZ x)(hs:∀ s∈st,ba s.1 s.2):∀ s∈st',ba s.1 s.2:=by
 rcases h with ⟨hk,rfl⟩|⟨hk,b,l,r,rfl,rfl⟩|⟨hk,b,o,rfl,rfl⟩
 ·intro s hm;simp only[List.mem_append,List.mem_singleton]at hm;rcases hm with hm|rfl
  ·exact hs s hm
  exact ba.leaf hk
 ·intro s hm;simp only[List.mem_append,List.mem_singleton]at hm;rcases hm with hm|rfl
  ·exact hs s (by simp[hm])
  exact ba.bin (hs l (by simp)) (hs r (by simp)) hk
 intro s hm;simp only[List.mem_append,List.mem_singleton]at hm;rcases hm with hm|rfl
 ·exact hs s (by simp[hm])
 rcases ok with ⟨q1,q2,q3,q4⟩|⟨q1,q2,q3,q4⟩|⟨q1,q2,q3,q4,q5⟩
 ·omega
 ·omega
 exact ba.rep (hs o (by simp)) hk q3 q5
theorem cj{xs:List El}{k:Nat}(hk:k<xs.length):xs.take (k+1)=xs.take k++[xs[k]?.getD dE]:=by
 rw[List.take_add_one,List.getElem?_eq_getElem hk];rfl
def bO(xs:List El):Prop:=
 (1<=xs.length/\xs.length<=3000)/\(∀ i:Nat,i<xs.length->gZ (xs[i]?.getD dE))/\vh xs/\∃ c,gS [] xs=[c]/\c<=500
def Cv(R:Nat->Prop)(C:Nat->Nat->Prop)(P:Nat->Nat):Prop:=∀ q,R q->R (P q)/\C (P q) q/\∀ p,R p->C p q->P q<=p
structure AR (R:Nat->Prop) (C:Nat->Nat->Prop):Prop where
 rfl':∀ q,R q->C q q
 symm:∀ p q,R p->R q->C p q->C q p
 trans:∀ p q r,R p->R q->R r->C p q->C q r->C p r
theorem Cv.eq_iff{R:Nat->Prop}{C:Nat->Nat->Prop}{P:Nat->Nat}(h:Cv R C P)(hC:AR R C){p q:Nat}(hp:R p)(hq:R q):P p=P q↔C p q:=by
 obtain⟨p1,p2,p3⟩:=h p hp;obtain⟨q1,q2,q3⟩:=h q hq
 constructor
 ·intro he;rw[he]at p2;exact hC.trans _ _ _ hp q1 hq (hC.symm _ _ q1 hp p2) q2
 intro a;have h1:=p3 _ q1 (hC.trans _ _ _ q1 hq hp q2 (hC.symm _ _ hp hq a));have h2:=q3 _ p1 (hC.trans _ _ _ p1 hp hq p2 a);omega
theorem Cv.le{R:Nat->Prop}{C:Nat->Nat->Prop}{P:Nat->Nat}(h:Cv R C P)(hC:AR R C){q:Nat}(hq:R q):P q<=q:=(h q hq).2.2 q hq (hC.rfl' q hq)
theorem Cv.idem{R:Nat->Prop}{C:Nat->Nat->Prop}{P:Nat->Nat}(h:Cv R C P)(hC:AR R C){q:Nat}(hq:R q):P (P q)=P q:=(h.eq_iff hC (h q hq).1 hq).mpr (h q hq).2.1
def eX(R:Nat->Prop)(L:Nat->Prop)(C:Nat->Nat->Prop)(q v:Nat):Prop:=
 (v<q/\R v/\L v/\C v q/\∀ p,p<v->R p->L p->¬ C p q)∨(v=q/\∀ p,p<q->R p->L p->¬ C p q)
theorem ym{R:Nat->Prop}{C:Nat->Nat->Prop}{L:Nat->Prop}{N:Nat->Nat}(hC:AR R C)(hL:∀ p,R p->N p=p->L p)(h:∀ q,R q->eX R L C q (N q)):Cv R C N:=by
 intro q
 induction q using Nat.strongRecOn with
 | _ q ih =>
  intro hq;have low:∀ p,p<q->R p->C p q->∃ l,l<=p/\R l/\L l/\C l q:=by
   intro p hp rp a;obtain⟨a1,a2,a3⟩:=ih p hp rp;have b:=a3 p rp (hC.rfl' p rp);obtain⟨b1,b2,b3⟩:=ih (N p) (by omega) a1;have h1:=b3 _ a1 (hC.rfl' _ a1);have h2:=a3 _ b1 (hC.trans _ _ _ b1 a1 rp b2 a2);exact⟨N p,b,a1,hL _ a1 (by omega),hC.trans _ _ _ a1 rp hq a2 a⟩
  rcases h q hq with ⟨k1,k2,k3,k4,k5⟩|⟨k1,k2⟩
  ·refine⟨k2,k4,fun p rp hp=>?_⟩
   apply Classical.byContradiction
   intro hlt;obtain⟨l,l1,l2,l3,l4⟩:=low p (by omega) rp hp;exact k5 l (by omega) l2 l3 l4
  rw[k1];refine⟨hq,hC.rfl' q hq,fun p rp hp=>?_⟩
  apply Classical.byContradiction
  intro hlt;obtain⟨l,l1,l2,l3,l4⟩:=low p (by omega) rp hp;exact k2 l (by omega) l2 l3 l4
def rnd(A:Tb)(C:Nat->Nat->Prop)(p q:Nat):Prop:=C p q/\∀ c,c<A.k->C (A.nx p c) (A.nx q c)
theorem Tb.Rch.nx{A:Tb}(hf:A.Full){q c:Nat}(h:A.Rch q)(hc:c<A.k):A.Rch (A.nx q c):=by
 obtain⟨b,hb,rfl⟩:=hf c hc;exact h.stp hb
theorem AR.rnd{A:Tb}{C:Nat->Nat->Prop}(hf:A.Full)(h:AR A.Rch C):AR A.Rch (rnd A C) where
 rfl':=fun q hq=>⟨h.rfl' q hq,fun _ hc=>h.rfl' _ (hq.nx hf hc)⟩
 symm:=fun p q hp hq k=>⟨h.symm p q hp hq k.1,fun c hc=>h.symm _ _ (hp.nx hf hc) (hq.nx hf hc) (k.2 c hc)⟩
 trans:=fun p q r hp hq hr k l=>⟨h.trans p q r hp hq hr k.1 l.1,fun c hc=>h.trans _ _ _ (hp.nx hf hc) (hq.nx hf hc) (hr.nx hf hc) (k.2 c hc) (l.2 c hc)⟩
structure oM (A:Tb) (C:Nat->Nat->Prop) (P:Nat->Nat):Prop where
 equ:AR A.Rch C
 lst:Cv A.Rch C P
 ac:∀ p q,A.Rch p->A.Rch q->C p q->A.ac p=A.ac q
 tel:∀ p q,A.Rch p->A.Rch q->cW A A p q->C p q
theorem xP(A:Tb):AR A.Rch fun p q=>A.ac p=A.ac q:=⟨fun _ _=>rfl,fun _ _ _ _ h=>h.symm,fun _ _ _ _ _ _ h g=>h.trans g⟩
theorem oM.start{A:Tb}{P:Nat->Nat}(h:∀ q,A.Rch q->eX A.Rch (fun _=>True) (fun p q=>A.ac p=A.ac q) q (P q)):oM A (fun p q=>A.ac p=A.ac q) P:=
 ⟨xP A,ym (xP A) (fun _ _ _=>trivial) h,fun _ _ _ _ h=>h,fun _ _ _ _ h=>h.ac⟩
theorem oM.next{A:Tb}{C:Nat->Nat->Prop}{P N:Nat->Nat}(h:oM A C P)(hf:A.Full)
  (hN:∀ q,A.Rch q->eX A.Rch (fun p=>N p=p) (fun p q=>P p=P q/\∀ c,c<A.k->P (A.nx p c)=P (A.nx q c)) q (N q)):oM A (rnd A C) N:=by
 have hi:∀ {p q:Nat},A.Rch p->A.Rch q->((P p=P q/\∀ c,c<A.k->P (A.nx p c)=P (A.nx q c))↔rnd A C p q):=fun {p q} hp hq =>
  ⟨fun k=>⟨(h.lst.eq_iff h.equ hp hq).mp k.1,fun c hc=>(h.lst.eq_iff h.equ (hp.nx hf hc) (hq.nx hf hc)).mp (k.2 c hc)⟩,
   fun k=>⟨(h.lst.eq_iff h.equ hp hq).mpr k.1,fun c hc=>(h.lst.eq_iff h.equ (hp.nx hf hc) (hq.nx hf hc)).mpr (k.2 c hc)⟩⟩
 refine⟨h.equ.rnd hf,ym (L:=fun p=>N p=p) (h.equ.rnd hf) (fun _ _ k=>k) (fun q hq=>?_),fun p q hp hq k=>h.ac p q hp hq k.1,fun p q hp hq k=>⟨h.tel p q hp hq k,fun c hc=>h.tel _ _ (hp.nx hf hc) (hq.nx hf hc) (k.nx hf hc)⟩⟩;rcases hN q hq with ⟨k1,k2,k3,k4,k5⟩|⟨k1,k2⟩
 ·exact .inl ⟨k1,k2,k3,(hi k2 hq).mp k4,fun p hp rp lp hc=>k5 p hp rp lp ((hi rp hq).mpr hc)⟩
 exact .inr ⟨k1,fun p hp rp lp hc=>k2 p hp rp lp ((hi rp hq).mpr hc)⟩
theorem oM.fin{A:Tb}{C:Nat->Nat->Prop}{P N:Nat->Nat}(h:oM A C P)(g:oM A (rnd A C) N)(hw0:A.Wf)(he:∀ q,A.Rch q->N q=P q):AP A P:=by
 have hC:∀ p q,A.Rch p->A.Rch q->C p q->rnd A C p q:=fun p q hp hq k=>(g.lst.eq_iff g.equ hp hq).mp (by rw[he p hp,he q hq];exact(h.lst.eq_iff h.equ hp hq).mpr k)
 have hT:∀ (w:List Nat) (p q:Nat),A.Rch p->A.Rch q->C p q->Wd w->A.ac (A.run p w)=A.ac (A.run q w):=by
  intro w
  induction w with
  | nil=>intro p q hp hq k _;exact h.ac p q hp hq k
  | cons b w ih =>
   intro p q hp hq k hw;have hb:=hw b (.head _);exact ih _ _ (hp.stp hb) (hq.stp hb) ((hC p q hp hq k).2 _ (hw0.cls b hb)) fun x hx=>hw x (.tail _ hx)
 exact⟨fun q hq=>(h.lst q hq).1,fun q hq w hw=>hT w _ _ (h.lst q hq).1 hq (h.lst q hq).2.1 hw,fun p q hp hq k=>(h.lst.eq_iff h.equ hp hq).mpr (h.tel p q hp hq k)⟩
structure ft {α:Type} (key:Nat->α) (ds:List α) (ns fs:List Nat):Prop where
 nd:∀ i j:Nat,i<ds.length->j<ds.length->ds[i]?=ds[j]?->i=j
 ky:∀ s,s<ns.length->ds[ns[s]?.getD 0]?=some (key s)
 fl:fs.length=ds.length
 fr:∀ j,j<ds.length->fs[j]?.getD 0<ns.length/\ns[fs[j]?.getD 0]?.getD 0=j
 le:∀ s,s<ns.length->fs[ns[s]?.getD 0]?.getD 0<=s
 up:∀ i j,i<j->j<ds.length->fs[i]?.getD 0<fs[j]?.getD 0
theorem ft.nil{α:Type}(key:Nat->α):ft key [] [] []:=by
 refine⟨fun i j hi=>by simp at hi,fun s hs=>by simp at hs,rfl,fun j hj=>by simp at hj,fun s hs=>by simp at hs,fun i j _ hj=>by simp at hj⟩
theorem ft.old{α:Type}{key:Nat->α}{ds:List α}{ns fs:List Nat}{j:Nat}(h:ft key ds ns fs)(hj:ds[j]?=some (key ns.length)):ft key ds (ns++[j]) fs where
 nd:=h.nd
 ky:=fun s hs=>by
  simp only[List.length_append,List.length_singleton]at hs
  by_cases he:s=ns.length
  ·subst he;rw[dl];exact hj
  rw[bM (by omega)];exact h.ky s (by omega)
 fl:=h.fl
 fr:=fun i hi=>by
  obtain⟨h1,h2⟩:=h.fr i hi;exact⟨by simp;omega,by rw[bM h1];exact h2⟩
 le:=fun s hs=>by
  simp only[List.length_append,List.length_singleton]at hs
  by_cases he:s=ns.length
  ·subst he;rw[dl];have:=(h.fr j (cU hj)).1;omega
  rw[bM (by omega)];exact h.le s (by omega)
 up:=h.up
theorem ft.new{α:Type}{key:Nat->α}{ds:List α}{ns fs:List Nat}(h:ft key ds ns fs)(hno:∀ i:Nat,i<ds.length->ds[i]?≠some (key ns.length)):ft key (ds++[key ns.length]) (ns++[ds.length]) (fs++[ns.length]):=by
 have b:=h.fl;have a:(fs++[ns.length])[ds.length]?.getD 0=ns.length:=by rw[<-b];exact dl
 refine⟨fun i j hi hj he=>?_,fun s hs=>?_,by simp[b],fun j hj=>?_,fun s hs=>?_,fun i j hij hj=>?_⟩
 ·simp only[List.length_append,List.length_singleton]at hi hj;rcases Nat.lt_or_ge i ds.length with h1|h1<;>rcases Nat.lt_or_ge j ds.length with h2|h2
  ·rw[List.getElem?_append_left h1,List.getElem?_append_left h2]at he;exact h.nd i j h1 h2 he
  ·have:j=ds.length:=by omega
   subst this;rw[List.getElem?_append_left h1]at he;simp at he;exact absurd he (hno i h1)
  ·have:i=ds.length:=by omega
   subst this;rw[List.getElem?_append_left h2]at he;simp at he;exact absurd he.symm (hno j h2)
  omega
 ·simp only[List.length_append,List.length_singleton]at hs
  by_cases he:s=ns.length
  ·subst he;rw[dl];simp
  rw[bM (by omega)];have:=h.ky s (by omega);rw[List.getElem?_append_left (cU this)];exact this
 ·simp only[List.length_append,List.length_singleton]at hj
  by_cases he:j=ds.length
  ·subst he;rw[a];exact⟨by simp,dl⟩
  obtain⟨h1,h2⟩:=h.fr j (by omega);rw[bM (by omega)];exact⟨by simp;omega,by rw[bM h1];exact h2⟩
 ·simp only[List.length_append,List.length_singleton]at hs
  by_cases he:s=ns.length
  ·subst he;rw[dl,a];exact Nat.le_refl _
  rw[bM (ys:=ns) (by omega)];have:=cU (h.ky s (by omega));rw[bM (by omega)];exact h.le s (by omega)
 simp only[List.length_append,List.length_singleton]at hj;rw[bM (t:=i) (by omega)]
 by_cases he:j=ds.length
 ·subst he;rw[a];exact(h.fr i hij).1
 rw[bM (by omega)];exact h.up i j hij (by omega)
theorem ft.num1{α:Type}{key:Nat->α}{ds:List α}{ns fs:List Nat}(h:ft key ds ns fs):fO ns.length ds.length (fun s=>ns[s]?.getD 0) (fun j=>fs[j]?.getD 0):=
 ⟨fun s hs=>cU (h.ky s hs),h.fr,h.le,h.up⟩
theorem ft.eq_iff{α:Type}{key:Nat->α}{ds:List α}{ns fs:List Nat}(h:ft key ds ns fs){p q:Nat}(hp:p<ns.length)(hq:q<ns.length):ns[p]?.getD 0=ns[q]?.getD 0↔key p=key q:=by
 have k1:=h.ky p hp;have k2:=h.ky q hq
 constructor
 ·intro he;rw[he,k2]at k1;exact(Option.some.inj k1).symm
 intro he;exact h.nd _ _ (cU k1) (cU k2) (by rw[k1,k2,he])
structure Ct (A:Tb) (q m:Nat) (mg G:Nat->Nat):Prop where
 num:fO A.k m mg G
 sm:∀ c c',c<A.k->c'<A.k->(mg c=mg c'↔∀ p,p<q->A.nx p c=A.nx p c')
theorem Ct.start{A:Tb}(hk:0<A.k):Ct A 0 1 (fun _=>0) (fun _=>0) where
 num:=⟨fun _ _=>by omega,fun j hj=>⟨hk,by omega⟩,fun s _=>Nat.zero_le s,fun i j h1 h2=>by omega⟩
 sm:=fun _ _ _ _=>⟨fun _ p hp=>by omega,fun _=>rfl⟩
theorem Ct.next{A:Tb}{q m:Nat}{mg G:Nat->Nat}(h:Ct A q m mg G){ds:List (Nat×Nat)}{ns fs:List Nat}(g:ft (fun c=>(mg c,A.nx q c)) ds ns fs)(hl:ns.length=A.k) :
  Ct A (q+1) ds.length (fun c=>ns[c]?.getD 0) (fun j=>fs[j]?.getD 0) where
 num:=by rw[<-hl];exact g.num1
 sm:=fun c c' hc hc'=>by
  rw[g.eq_iff (by omega) (by omega)]
  constructor
  ·intro he p hp;have h1:mg c=mg c':=congrArg Prod.fst he;have h2:A.nx q c=A.nx q c':=congrArg Prod.snd he
   by_cases hpq:p=q
   ·rw[hpq];exact h2
   exact(h.sm c c' hc hc').mp h1 p (by omega)
  intro ha;exact Prod.ext ((h.sm c c' hc hc').mpr fun p hp=>ha p (by omega)) (ha q (by omega))
theorem fO.meet{n m:Nat}{num F:Nat->Nat}(h:fO n m num F){c met:Nat}(hc:c<n)(hm:∀ j,j<m->(F j<c↔j<met)):(num c=met->F met=c/\met<m)/\(num c≠met->∀ j,j<m->(F j<c+1↔j<met))/\(num c=met->∀ j,j<m->(F j<c+1↔j<met+1)):=by
 have hl:=h.lt c hc;have d:=h.le c hc;have hf:=h.fst _ hl;have a:num c=met->F met=c/\met<m:=fun he=>by
  rw[he]at d hl;have:=hm met hl;omega
 refine⟨a,fun hne j hj=>?_,fun he j hj=>?_⟩
 ·have h1:=hm j hj
  constructor
  ·intro hlt
   apply Classical.byContradiction
   intro e;have f:F j=c:=by omega
   have:=(h.fst j hj).2;rw[f]at this;have b:met<j:=by omega
   have h2:=hm met (by omega);have h3:=h.up met j b hj;omega
  omega
 obtain⟨a1,a2⟩:=a he;have h1:=hm j hj
 constructor
 ·intro hlt
  apply Classical.byContradiction
  intro e;have h3:=h.up met j (by omega) hj;omega
 intro hlt
 by_cases b:j=met
 ·rw[b,a1];omega
 have:=h1.mpr (by omega);omega
def bX(f:Nat->Nat)(i v:Nat):Nat->Nat:=fun x=>if x=i then v else f x
theorem bI(f:Nat->Nat)(i v:Nat):bX f i v i=v:=by simp[bX]
theorem aW(f:Nat->Nat){i v x:Nat}(h:x≠i):bX f i v x=f x:=by simp[bX,h]
structure eW (n N:Nat) (ms ps bs fr mk tt:Nat->Nat):Prop where
 m1:∀ i,i<n->ms i<n/\ps (ms i)=i
 p1:∀ s,s<n->ps s<n/\ms (ps s)=s
 b1:∀ b,b<N->fr b<=mk b/\mk b<=tt b/\fr b<tt b/\tt b<=n
 s1:∀ s,s<n->bs s<N/\fr (bs s)<=ps s/\ps s<tt (bs s)
 s2:∀ s b,s<n->b<N->fr b<=ps s->ps s<tt b->bs s=b
theorem eW.start{n:Nat}{fr mk tt:Nat->Nat}(hn:0<n)(h1:fr 0=0)(h2:mk 0=0)(h3:tt 0=n):eW n 1 (fun i=>i) (fun i=>i) (fun _=>0) fr mk tt where
 m1:=fun _ hi=>⟨hi,rfl⟩
 p1:=fun _ hi=>⟨hi,rfl⟩
 b1:=fun b hb=>by
  obtain rfl:b=0:=by omega
  omega
 s1:=fun s hs=>⟨by omega,by omega,by omega⟩
 s2:=fun s b _ hb _ _=>by omega
theorem eW.mark{n N:Nat}{ms ps bs fr mk tt:Nat->Nat}(h:eW n N ms ps bs fr mk tt){s:Nat}(hs:s<n)(hm:mk (bs s)<=ps s) :
  eW n N (bX (bX ms (ps s) (ms (mk (bs s)))) (mk (bs s)) s) (bX (bX ps (ms (mk (bs s))) (ps s)) s (mk (bs s))) bs fr (bX mk (bs s) (mk (bs s)+1)) tt/\
  ∀ t,t<n->(bX (bX ps (ms (mk (bs s))) (ps s)) s (mk (bs s)) t<bX mk (bs s) (mk (bs s)+1) (bs t)↔ps t<mk (bs t)∨t=s):=by
 obtain⟨a1,a2,a3⟩:=h.s1 s hs;obtain⟨b1,b2,b3,b4⟩:=h.b1 _ a1;have pn:=(h.p1 s hs).1;have pm:=(h.p1 s hs).2;have jn:mk (bs s)<n:=by omega
 obtain⟨x1,x2⟩:=h.m1 _ jn;have xb:bs (ms (mk (bs s)))=bs s:=h.s2 _ _ x1 a1 (by omega) (by omega);generalize hx:ms (mk (bs s))=x at *;generalize hj:mk (bs s)=j at *;generalize hi:ps s=i at *;generalize hb:bs s=b at *;have d:x=s↔i=j:=by
  constructor
  ·intro he;subst he;omega
  intro he;subst he;rw[hx]at pm;exact pm
 -- where a state stands now
 have ps':∀ t,t<n->bX (bX ps x i) s j t=(if t=s then j else if t=x then i else ps t):=fun t _=>by
  by_cases h1:t=s
  ·simp[bX,h1]
  by_cases h2:t=x<;>simp[bX,h1,h2]
 have pj:∀ t,t<n->ps t=j->t=x:=fun t ht he=>by have:=(h.p1 t ht).2;rw[he,hx]at this;exact this.symm
 have pi:∀ t,t<n->ps t=i->t=s:=fun t ht he=>by have:=(h.p1 t ht).2;rw[he,pm]at this;exact this.symm
 refine⟨⟨fun k hk=>?_,fun t ht=>?_,fun c hc=>?_,fun t ht=>?_,fun t c ht hc=>?_⟩,fun t ht=>?_⟩
 ·by_cases h1:k=j
  ·subst h1;rw[bI];exact⟨hs,by rw[ps' s hs];simp⟩
  rw[aW _ h1]
  by_cases h2:k=i
  ·subst h2;rw[bI];refine⟨x1,?_⟩;rw[ps' x x1];have:x≠s:=fun he=>h1 (d.mp he)
   simp[this]
  rw[aW _ h2];obtain⟨k1,k2⟩:=h.m1 k hk;refine⟨k1,?_⟩;rw[ps' _ k1];have e1:ms k≠s:=fun he=>by rw[he,hi]at k2;exact h2 k2.symm
  have e2:ms k≠x:=fun he=>by rw[he,x2]at k2;exact h1 k2.symm
  simp[e1,e2,k2]
 ·rw[ps' t ht]
  by_cases h1:t=s
  ·subst h1;simp only[if_true];exact⟨jn,bI _ _ _⟩
  by_cases h2:t=x
  ·subst h2;simp only[h1,if_false,if_true];refine⟨pn,?_⟩;have:i≠j:=fun he=>h1 (d.mpr he)
   rw[aW _ this,bI]
  simp only[h1,h2,if_false];obtain⟨k1,k2⟩:=h.p1 t ht;refine⟨k1,?_⟩;rw[aW _ (fun he=>h2 (pj t ht he)),aW _ (fun he=>h1 (pi t ht he))];exact k2
 ·by_cases h1:c=b
  ·subst h1;rw[bI];omega
  rw[aW _ h1];exact h.b1 c hc
 ·rw[ps' t ht]
  by_cases h1:t=s
  ·subst h1;simp only[if_true,hb];exact⟨a1,by omega,by omega⟩
  by_cases h2:t=x
  ·subst h2;simp only[h1,if_false,if_true,xb];exact⟨a1,by omega,by omega⟩
  simp only[h1,h2,if_false];exact h.s1 t ht
 ·rw[ps' t ht]
  by_cases h1:t=s
  ·subst h1;simp only[if_true];intro k1 k2;rw[hb,<-xb];exact h.s2 x c x1 hc (by omega) (by omega)
  by_cases h2:t=x
  ·subst h2;simp only[h1,if_false,if_true];intro k1 k2;rw[xb,<-hb];exact h.s2 s c hs hc (by omega) (by omega)
  simp only[h1,h2,if_false];exact h.s2 t c ht hc
 rw[ps' t ht]
 by_cases h1:t=s
 ·subst h1;simp[hb,bI]
 by_cases h2:t=x
 ·subst h2;simp only[h1,if_false,if_true,xb,bI,hj,x2,or_false];have:i≠j:=fun he=>h1 (d.mpr he)
  omega
 simp only[h1,h2,if_false,or_false]
 by_cases h3:bs t=b
 ·rw[h3,bI,hj];have:ps t≠j:=fun he=>h2 (pj t ht he)
  omega
 rw[aW _ h3]
theorem eW.cut{n N:Nat}{ms ps bs fr mk tt:Nat->Nat}(h:eW n N ms ps bs fr mk tt){b o1 o2 r1 r2:Nat}(hb:b<N)(h1:fr b<mk b)(h2:mk b<tt b)
  (ho:(o1=fr b/\o2=mk b/\r1=mk b/\r2=tt b)∨(o1=mk b/\o2=tt b/\r1=fr b/\r2=mk b)){bs':Nat->Nat}(hbs:∀ t,t<n->bs' t=if o1<=ps t/\ps t<o2 then N else bs t) :
  eW n (N+1) ms ps bs' (bX (bX fr b r1) N o1) (bX (bX mk b r1) N o1) (bX (bX tt b r2) N o2)/\
  (∀ p q,p<n->q<n->(bs' p=bs' q↔bs p=bs q/\(bs p=b->(ps p<mk b↔ps q<mk b))))/\
  (∀ p,p<n->bs p≠b->bs' p=bs p)/\(∀ p,p<n->bs p=b->bs' p=b∨bs' p=N):=by
 obtain⟨b1,b2,b3,b4⟩:=h.b1 b hb;have nb:N≠b:=by omega
 have inn:∀ t,t<n->((fr b<=ps t/\ps t<tt b)↔bs t=b):=fun t ht=>⟨fun k=>h.s2 t b ht hb k.1 k.2,fun k=>by have:=h.s1 t ht;rw[k]at this;exact this.2⟩
 have off:∀ t,t<n->(o1<=ps t/\ps t<o2↔bs t=b/\o1<=ps t/\ps t<o2):=fun t ht=>by
  have:=inn t ht;omega
 have frb:bX (bX fr b r1) N o1 b=r1:=by rw[aW _ (Ne.symm nb),bI]
 have mkb:bX (bX mk b r1) N o1 b=r1:=by rw[aW _ (Ne.symm nb),bI]
 have ttb:bX (bX tt b r2) N o2 b=r2:=by rw[aW _ (Ne.symm nb),bI]
 have frN:bX (bX fr b r1) N o1 N=o1:=bI _ _ _;have mkN:bX (bX mk b r1) N o1 N=o1:=bI _ _ _;have ttN:bX (bX tt b r2) N o2 N=o2:=bI _ _ _;have fro:∀ c,c≠N->c≠b->bX (bX fr b r1) N o1 c=fr c:=fun c k1 k2=>by rw[aW _ k1,aW _ k2]
 have mko:∀ c,c≠N->c≠b->bX (bX mk b r1) N o1 c=mk c:=fun c k1 k2=>by rw[aW _ k1,aW _ k2]
 have tto:∀ c,c≠N->c≠b->bX (bX tt b r2) N o2 c=tt c:=fun c k1 k2=>by rw[aW _ k1,aW _ k2]
 refine⟨⟨h.m1,h.p1,fun c hc=>?_,fun t ht=>?_,fun t c ht hc=>?_⟩,fun p q hp hq=>?_,fun p hp hne=>?_,fun p hp he=>?_⟩
 ·by_cases k1:c=N
  ·subst k1;rw[frN,mkN,ttN];omega
  by_cases k2:c=b
  ·subst k2;rw[frb,mkb,ttb];omega
  rw[fro c k1 k2,mko c k1 k2,tto c k1 k2];exact h.b1 c (by omega)
 ·have hi:=inn t ht;obtain⟨s1,s2,s3⟩:=h.s1 t ht;rw[hbs t ht]
  split
  ·rename_i hc
   rw[frN,ttN];exact⟨by omega,hc.1,hc.2⟩
  rename_i hc
  by_cases k2:bs t=b
  ·rw[k2,frb,ttb];have:=hi.mpr k2;omega
  rw[fro _ (by omega) k2,tto _ (by omega) k2];exact⟨by omega,s2,s3⟩
 ·have hi:=inn t ht;intro k3 k4;rw[hbs t ht]
  by_cases k1:c=N
  ·subst k1;rw[frN]at k3;rw[ttN]at k4;rw[if_pos ⟨k3,k4⟩]
  by_cases k2:c=b
  ·subst k2;rw[frb]at k3;rw[ttb]at k4;rw[if_neg (by omega)];exact hi.mp (by omega)
  rw[fro c k1 k2]at k3;rw[tto c k1 k2]at k4;have hs:=h.s2 t c ht (by omega) k3 k4;rw[if_neg (fun hc=>by have:=((off t ht).mp hc).1;omega)];exact hs
 ·have ip:=inn p hp;have iq:=inn q hq;have sp:=(h.s1 p hp).1;have sq:=(h.s1 q hq).1;rw[hbs p hp,hbs q hq]
  by_cases c1:o1<=ps p/\ps p<o2<;>by_cases c2:o1<=ps q/\ps q<o2
  ·rw[if_pos c1,if_pos c2];have e1:=((off p hp).mp c1).1;have e2:=((off q hq).mp c2).1;rw[e1,e2];refine⟨fun _=>⟨rfl,fun _=>by omega⟩,fun _=>rfl⟩
  ·rw[if_pos c1,if_neg c2];have e1:=((off p hp).mp c1).1
   constructor
   ·intro he;omega
   intro ⟨he,k⟩;have:=k e1;have:=iq.mpr (by omega);omega
  ·rw[if_neg c1,if_pos c2];have e2:=((off q hq).mp c2).1
   constructor
   ·intro he;omega
   intro ⟨he,k⟩;have:=k (by omega);have:=ip.mpr (by omega);omega
  rw[if_neg c1,if_neg c2]
  constructor
  ·intro he;refine⟨he,fun k=>?_⟩;have:=ip.mpr k;have:=iq.mpr (by omega);omega
  exact fun k=>k.1
 ·rw[hbs p hp,if_neg (fun hc=>hne ((off p hp).mp hc).1)]
 rw[hbs p hp]
 split
 ·exact .inr rfl
 exact .inl he
theorem eW.unmark{n N:Nat}{ms ps bs fr mk tt:Nat->Nat}(h:eW n N ms ps bs fr mk tt){b:Nat}(_hb:b<N):eW n N ms ps bs fr (bX mk b (fr b)) tt where
 m1:=h.m1
 p1:=h.p1
 b1:=fun c hc=>by
  have:=h.b1 c hc
  by_cases k:c=b
  ·subst k;rw[bI];omega
  rw[aW _ k];exact this
 s1:=h.s1
 s2:=h.s2
end Go.Proofs.YtidfkbghlkcbeaaGreatDoor
