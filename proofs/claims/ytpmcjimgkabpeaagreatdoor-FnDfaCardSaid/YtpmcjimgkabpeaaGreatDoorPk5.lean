import Derived.Test.YtpmcjimgkabpeaaGreatDoorPk4
import Derived.Test.YtpmcjimgkabpeaaGreatDoorPk3
namespace Go.Proofs.YtpmcjimgkabpeaaGreatDoor
open Go.RowKit
def aD(w:World)(b:Nat)(t:TypeId)(c0 c1 c2 c3:Value):Prop:=w.rowIs b t 4 (fun j=>[c0,c1,c2,c3].getD j undef)
theorem aD.new(w:World)(t:TypeId)(c0 c1 c2 c3:Value):aD (w.alloc (.cells #[c0,c1,c2,c3] t)) w.heap.size t c0 c1 c2 c3:=
 World.rowIs_alloc w #[c0,c1,c2,c3] t _ (fun i hi=>by
  match i,hi with
  | 0,_=>rfl
  | 1,_=>rfl
  | 2,_=>rfl
  | 3,_=>rfl)
theorem aD.alloc{w:World}{b:Nat}{t:TypeId}{c0 c1 c2 c3:Value}(h:aD w b t c0 c1 c2 c3)(o:Obj):aD (w.alloc o) b t c0 c1 c2 c3:=World.rowIs.alloc h o
theorem aD.below{w w':World}{b m:Nat}{t:TypeId}{c0 c1 c2 c3:Value}(h:aD w b t c0 c1 c2 c3)(hb:Below m w w')(hm:b<m):aD w' b t c0 c1 c2 c3:=World.rowIs.of_block h (hb.block b hm)
theorem aD.put0{w:World}{b:Nat}{t:TypeId}{c0 c1 c2 c3 u:Value}(h:aD w b t c0 c1 c2 c3):aD (w.setCell ⟨b,0,none⟩ u) b t u c1 c2 c3:=(World.rowIs.set h 0 u).congr (fun i hi=>by
  match i,hi with
  | 0,_=>rfl
  | 1,_=>rfl
  | 2,_=>rfl
  | 3,_=>rfl)
theorem aD.put1{w:World}{b:Nat}{t:TypeId}{c0 c1 c2 c3 u:Value}(h:aD w b t c0 c1 c2 c3):aD (w.setCell ⟨b,1,none⟩ u) b t c0 u c2 c3:=(World.rowIs.set h 1 u).congr (fun i hi=>by
  match i,hi with
  | 0,_=>rfl
  | 1,_=>rfl
  | 2,_=>rfl
  | 3,_=>rfl)
theorem aD.put2{w:World}{b:Nat}{t:TypeId}{c0 c1 c2 c3 u:Value}(h:aD w b t c0 c1 c2 c3):aD (w.setCell ⟨b,2,none⟩ u) b t c0 c1 u c3:=(World.rowIs.set h 2 u).congr (fun i hi=>by
  match i,hi with
  | 0,_=>rfl
  | 1,_=>rfl
  | 2,_=>rfl
  | 3,_=>rfl)
theorem aD.facts{w:World}{b:Nat}{t:TypeId}{c0 c1 c2 c3:Value}(h:aD w b t c0 c1 c2 c3) :
  w.cell? ⟨b,0,none⟩=some c0/\w.cell? ⟨b,1,none⟩=some c1/\w.cell? ⟨b,2,none⟩=some c2/\w.cell? ⟨b,3,none⟩=some c3/\w.frozen? ⟨b,0,none⟩=false/\w.frozen? ⟨b,1,none⟩=false/\w.frozen? ⟨b,2,none⟩=false/\w.frozen? ⟨b,3,none⟩=false:=
 ⟨World.rowIs.cell h (i:=0) (by omega),World.rowIs.cell h (i:=1) (by omega),World.rowIs.cell h (i:=2) (by omega),World.rowIs.cell h (i:=3) (by omega),World.rowIs.frozen h 0,World.rowIs.frozen h 1,World.rowIs.frozen h 2,World.rowIs.frozen h 3⟩
def top(xs:List Int):Nat->Int
 | 0=>-1
 | b+1=>if top xs b<xs[b]?.getD 0 then xs[b]?.getD 0 else top xs b
structure jq (xs ys:List Int) (zs:List Bool) (nc:Int):Prop where
 st:1<=zs.length/\zs.length<=1024
 hn:1<=nc/\nc<=256
 cl:xs.length=256
 up:∀ b:Nat,b<256->0<=xs[b]?.getD 0/\xs[b]?.getD 0<=top xs b+1
 tp:top xs 256=nc-1
 nx:(ys.length:Int)=zs.length*nc
 to:∀ i:Nat,i<ys.length->0<=ys[i]?.getD 0/\ys[i]?.getD 0<zs.length
theorem zW(xs:List Int):∀ b:Nat,(∀ j:Nat,j<b->0<=xs[j]?.getD 0/\xs[j]?.getD 0<=top xs j+1)->-1<=top xs b/\top xs b<b:=by
 intro b
 induction b with
 | zero=>intro _;simp[top]
 | succ b ih =>
  intro h;have h1:=ih (fun j hj=>h j (by omega));have h2:=h b (by omega);simp only[top]
  split<;>omega
theorem mr(xs:List Int)(a:Nat):∀ b:Nat,a<=b->top xs a<=top xs b:=by
 intro b
 induction b with
 | zero =>
  intro h;obtain rfl:a=0:=by omega
  exact Int.le_refl _
 | succ b ih =>
  intro h
  by_cases e:a=b+1
  ·subst e;exact Int.le_refl _
  have h1:=ih (by omega);simp only[top]
  split<;>omega
theorem tA(xs:List Int)(b:Nat):xs[b]?.getD 0<=top xs (b+1):=by simp only[top];split<;>omega
theorem jq.cls{xs ys:List Int}{zs:List Bool}{nc:Int}(h:jq xs ys zs nc){b:Nat}(hb:b<256):0<=xs[b]?.getD 0/\xs[b]?.getD 0<nc:=by
 have h1:=tA xs b;have h2:=mr xs (b+1) 256 (by omega);have h3:=h.tp;have h4:=h.up b hb;omega
theorem xx{n:Int}(h0:0<=n)(h1:n<=1000000):wrap64 n=n:=by unfold wrap64;omega
structure Tb where
 n:Nat
 k:Nat
 cl:Nat->Nat
 nx:Nat->Nat->Nat
 ac:Nat->Bool
structure Tb.Wf (A:Tb):Prop where
 pos:0<A.n
 cls:∀ b,b<256->A.cl b<A.k
 nxt:∀ q c,q<A.n->c<A.k->A.nx q c<A.n
def Tb.stp(A:Tb)(q b:Nat):Nat:=A.nx q (A.cl b)
def Tb.run(A:Tb)(q:Nat)(w:List Nat):Nat:=w.foldl A.stp q
def Wd(w:List Nat):Prop:=∀ b∈w,b<256
theorem Wd.nil:Wd []:=fun _ h=>by cases h
theorem Wd.cons{b:Nat}{w:List Nat}(hb:b<256)(h:Wd w):Wd (b::w):=fun x hx=>by
 cases hx with
 | head=>exact hb
 | tail _ hx=>exact h x hx
theorem Wd.app{v w:List Nat}(hv:Wd v)(hw:Wd w):Wd (v++w):=fun x hx=>(List.mem_append.mp hx).elim (hv x) (hw x)
theorem Tb.run_cons(A:Tb)(q b:Nat)(w:List Nat):A.run q (b::w)=A.run (A.stp q b) w:=rfl
theorem Tb.run_app(A:Tb)(q:Nat)(v w:List Nat):A.run q (v++w)=A.run (A.run q v) w:=List.foldl_append ..
theorem Tb.run_snoc(A:Tb)(q b:Nat)(v:List Nat):A.run q (v++[b])=A.stp (A.run q v) b:=by rw[A.run_app];rfl
theorem Tb.Wf.stp{A:Tb}(h:A.Wf){q b:Nat}(hq:q<A.n)(hb:b<256):A.stp q b<A.n:=h.nxt _ _ hq (h.cls b hb)
theorem Tb.Wf.run{A:Tb}(h:A.Wf):∀ (w:List Nat) (q:Nat),q<A.n->Wd w->A.run q w<A.n
 | [],_,hq,_=>hq
 | b::w,_,hq,hw=>h.run w _ (h.stp hq (hw b (.head _))) fun x hx=>hw x (.tail _ hx)
def gk(A B:Tb)(p q:Nat):Prop:=∀ w,Wd w->A.ac (A.run p w)=B.ac (B.run q w)
theorem gk.symm{A B:Tb}{p q:Nat}(h:gk A B p q):gk B A q p:=fun w hw=>(h w hw).symm
theorem gk.trans{A B C:Tb}{p q r:Nat}(h:gk A B p q)(g:gk B C q r):gk A C p r:=fun w hw=>(h w hw).trans (g w hw)
theorem gk.stp{A B:Tb}{p q b:Nat}(h:gk A B p q)(hb:b<256):gk A B (A.stp p b) (B.stp q b):=fun w hw=>h (b::w) (hw.cons hb)
theorem gk.ac{A B:Tb}{p q:Nat}(h:gk A B p q):A.ac p=B.ac q:=h [] Wd.nil
structure td (A:Tb):Prop where
 wf:A.Wf
 clUp:∀ b,b<256->∀ c,c<A.cl b->∃ b',b'<b/\A.cl b'=c
 clAll:∀ c,c<A.k->∃ b,b<256/\A.cl b=c
 stUp:∀ q c,q<A.n->c<A.k->∀ s,s<A.nx q c->s=0∨∃ q' c',c'<A.k/\(q'<q∨(q'=q/\c'<c))/\A.nx q' c'=s
 stAll:∀ q,q<A.n->∃ w,Wd w/\A.run 0 w=q
 stMin:∀ p q,p<A.n->q<A.n->gk A A p q->p=q
 clMin:∀ c c',c<A.k->c'<A.k->(∀ q,q<A.n->A.nx q c=A.nx q c')->c=c'
theorem qU{A:Tb}(hw:A.Wf){bl:Nat->Nat}(h1:∀ p q,p<A.n->q<A.n->bl p=bl q->A.ac p=A.ac q)(h2:∀ p q,p<A.n->q<A.n->bl p=bl q->∀ c,c<A.k->bl (A.nx p c)=bl (A.nx q c)) :
  ∀ p q,p<A.n->q<A.n->bl p=bl q->gk A A p q:=by
 intro p q hp hq he w
 induction w generalizing p q with
 | nil=>intro _;exact h1 p q hp hq he
 | cons b w ih =>
  intro a;have hb:=a b (.head _);exact ih _ _ (hw.stp hp hb) (hw.stp hq hb) (h2 p q hp hq he _ (hw.cls b hb)) fun x hx=>a x (.tail _ hx)
def Tb.Full(A:Tb):Prop:=∀ c,c<A.k->∃ b,b<256/\A.cl b=c
theorem gk.nx{A:Tb}(hf:A.Full){p q c:Nat}(h:gk A A p q)(hc:c<A.k):gk A A (A.nx p c) (A.nx q c):=by
 obtain⟨b,hb,rfl⟩:=hf c hc;exact h.stp hb
structure zX (n:Nat) (S:Nat->Prop) (bl bl':Nat->Nat) (W W':Nat->Prop):Prop where
 same:∀ p q,p<n->q<n->(bl' p=bl' q↔bl p=bl q/\(S p↔S q))
 keep:∀ p,p<n->W (bl p)->W' (bl' p)
 new:∀ p q,p<n->q<n->bl p=bl q->bl' p≠bl' q->W' (bl' p)∨W' (bl' q)
structure xi (A:Tb) (bl:Nat->Nat) (W T:Nat->Prop) (c:Nat):Prop where
 ac:∀ p q,p<A.n->q<A.n->bl p=bl q->A.ac p=A.ac q
 tel:∀ p q,p<A.n->q<A.n->gk A A p q->bl p=bl q
 tT:∀ p q,p<A.n->q<A.n->gk A A p q->(T p↔T q)
 pend:∀ p q,p<A.n->q<A.n->bl p=bl q->∀ c',c'<A.k->bl (A.nx p c')≠bl (A.nx q c')->
  W (bl (A.nx p c'))∨W (bl (A.nx q c'))∨(c<=c'/\¬ (T (A.nx p c')↔T (A.nx q c')))
theorem xi.start{A:Tb}{bl':Nat->Nat}{W':Nat->Prop}(h:zX A.n (fun q=>A.ac q=true) (fun _=>0) bl' (fun _=>False) W')(hw:A.Wf):xi A bl' W' (fun _=>False) A.k where
 ac:=fun p q hp hq he=>by
  have:=((h.same p q hp hq).mp he).2;cases h1:A.ac p<;>cases h2:A.ac q<;>simp_all
 tel:=fun p q hp hq he=>(h.same p q hp hq).mpr ⟨rfl,by rw[he.ac]⟩
 tT:=fun _ _ _ _ _=>Iff.rfl
 pend:=fun p q hp hq _ c' a hne=>by
  rcases h.new _ _ (hw.nxt p c' hp a) (hw.nxt q c' hq a) rfl hne with h|h
  ·exact .inl h
  exact .inr (.inl h)
theorem xi.cut{A:Tb}{bl bl':Nat->Nat}{W W' T:Nat->Prop}{c:Nat}(h:xi A bl W T c)(hw:A.Wf)(hf:A.Full)(hc:c<A.k)(g:zX A.n (fun p=>T (A.nx p c)) bl bl' W W'):xi A bl' W' T (c+1) where
 ac:=fun p q hp hq he=>h.ac p q hp hq ((g.same p q hp hq).mp he).1
 tel:=fun p q hp hq he=>(g.same p q hp hq).mpr ⟨h.tel p q hp hq he,h.tT _ _ (hw.nxt p c hp hc) (hw.nxt q c hq hc) (he.nx hf hc)⟩
 tT:=h.tT
 pend:=fun p q hp hq he c' a hne=>by
  obtain⟨e1,e2⟩:=(g.same p q hp hq).mp he;have np:=hw.nxt p c' hp a;have nq:=hw.nxt q c' hq a
  by_cases hs:bl (A.nx p c')=bl (A.nx q c')
  ·rcases g.new _ _ np nq hs hne with k|k
   ·exact .inl k
   exact .inr (.inl k)
  rcases h.pend p q hp hq e1 c' a hs with k|k|⟨k1,k2⟩
  ·exact .inl (g.keep _ np k)
  ·exact .inr (.inl (g.keep _ nq k))
  refine .inr (.inr ⟨?_,k2⟩)
  apply Classical.byContradiction
  intro hlt;have:c'=c:=by omega
  subst this;exact k2 e2
theorem xi.pop{A:Tb}{bl:Nat->Nat}{W W1 T:Nat->Prop}{N:Nat}(h:xi A bl W T A.k)(hN:∀ x,W x->x=N∨W1 x):xi A bl W1 (fun q=>bl q=N) 0 where
 ac:=h.ac
 tel:=h.tel
 tT:=fun p q hp hq he=>by rw[h.tel p q hp hq he]
 pend:=fun p q hp hq he c' a hne=>by
  rcases h.pend p q hp hq he c' a hne with k|k|⟨k1,-⟩
  ·rcases hN _ k with k|k
   ·exact .inr (.inr ⟨Nat.zero_le _,fun hi=>hne (k.trans (hi.mp k).symm)⟩)
   exact .inl k
  ·rcases hN _ k with k|k
   ·exact .inr (.inr ⟨Nat.zero_le _,fun hi=>hne ((hi.mpr k).trans k.symm)⟩)
   exact .inr (.inl k)
  omega
theorem xi.fin{A:Tb}{bl:Nat->Nat}{W T:Nat->Prop}(h:xi A bl W T A.k)(hw:A.Wf)(hW:∀ x,¬ W x):∀ p q,p<A.n->q<A.n->(bl p=bl q↔gk A A p q):=fun p q hp hq =>
 ⟨qU hw h.ac (fun p q hp hq he c hc=>by
  apply Classical.byContradiction
  intro hne;rcases h.pend p q hp hq he c hc hne with k|k|⟨k,-⟩
  ·exact hW _ k
  ·exact hW _ k
  omega) p q hp hq,h.tel p q hp hq⟩
structure fM (n m:Nat) (num F:Nat->Nat):Prop where
 lt:∀ s,s<n->num s<m
 fst:∀ j,j<m->F j<n/\num (F j)=j
 le:∀ s,s<n->F (num s)<=s
 up:∀ i j,i<j->j<m->F i<F j
theorem fM.zero{n m:Nat}{num F:Nat->Nat}(h:fM n m num F)(hn:0<n):num 0=0/\F 0=0/\0<m:=by
 have h1:=h.lt 0 hn;have h2:=h.le 0 hn;have h3:num 0=0:=by
  apply Classical.byContradiction
  intro hne;have:=h.up 0 (num 0) (by omega) h1;omega
 rw[h3]at h2 h1;exact⟨h3,by omega,h1⟩
structure Ao (A:Tb):Prop where
 wf:A.Wf
 clUp:∀ b,b<256->∀ c,c<A.cl b->∃ b',b'<b/\A.cl b'=c
 clAll:A.Full
 stUp:∀ q c,q<A.n->c<A.k->∀ s,s<A.nx q c->s=0∨∃ q' c',c'<A.k/\(q'<q∨(q'=q/\c'<c))/\A.nx q' c'=s
 stAll:∀ q,q<A.n->∃ w,Wd w/\A.run 0 w=q
def iS(A:Tb)(m:Nat)(num F:Nat->Nat):Tb:=⟨m,A.k,A.cl,fun j c=>num (A.nx (F j) c),fun j=>A.ac (F j)⟩
theorem vk{A:Tb}{m:Nat}{num F:Nat->Nat}(hA:Ao A)(hN:fM A.n m num F)(hT:∀ p q,p<A.n->q<A.n->(num p=num q↔gk A A p q)){s c:Nat}(hs:s<A.n)(hc:c<A.k) :
  (iS A m num F).nx (num s) c=num (A.nx s c):=by
 have hf:=hN.fst (num s) (hN.lt s hs);exact(hT _ _ (hA.wf.nxt _ c hf.1 hc) (hA.wf.nxt s c hs hc)).mpr (((hT _ _ hf.1 hs).mp hf.2).nx hA.clAll hc)
theorem mR{A:Tb}{m:Nat}{num F:Nat->Nat}(hA:Ao A)(hN:fM A.n m num F)(hT:∀ p q,p<A.n->q<A.n->(num p=num q↔gk A A p q)) :
  ∀ (w:List Nat) (s:Nat),s<A.n->Wd w->(iS A m num F).run (num s) w=num (A.run s w)
 | [],_,_,_=>rfl
 | b::w,s,hs,hw=>by
  have hb:=hw b (.head _);rw[Tb.run_cons,Tb.run_cons];have:(iS A m num F).stp (num s) b=num (A.stp s b):=vk hA hN hT hs (hA.wf.cls b hb);rw[this];exact mR hA hN hT w _ (hA.wf.stp hs hb) fun x hx=>hw x (.tail _ hx)
theorem mh{A:Tb}{m:Nat}{num F:Nat->Nat}(hA:Ao A)(hN:fM A.n m num F)(hT:∀ p q,p<A.n->q<A.n->(num p=num q↔gk A A p q)){s:Nat}(hs:s<A.n):gk (iS A m num F) A (num s) s:=fun w hw=>by
 rw[mR hA hN hT w s hs hw];have hr:=hA.wf.run w s hs hw;have hf:=hN.fst _ (hN.lt _ hr);exact((hT _ _ hf.1 hr).mp hf.2).ac
theorem mf{A:Tb}{m:Nat}{num F:Nat->Nat}(hA:Ao A)(hN:fM A.n m num F)(hT:∀ p q,p<A.n->q<A.n->(num p=num q↔gk A A p q)):Ao (iS A m num F) where
 wf:=⟨(hN.zero hA.wf.pos).2.2,hA.wf.cls,fun j c hj hc=>hN.lt _ (hA.wf.nxt _ c (hN.fst j hj).1 hc)⟩
 clUp:=hA.clUp
 clAll:=hA.clAll
 stUp:=fun j c hj hc s hs=>by
  have a:=hN.fst j hj;have ht:=hA.wf.nxt _ c a.1 hc;have e:s<m:=Nat.lt_trans hs (hN.lt _ ht);have d:=hN.fst s e;have h1:=hN.up s _ hs (hN.lt _ ht);have h2:=hN.le _ ht;rcases hA.stUp (F j) c a.1 hc (F s) (Nat.lt_of_lt_of_le h1 h2) with h0|⟨q',c',k1,k2,k3⟩
  ·left
   have:=d.2;rw[h0,(hN.zero hA.wf.pos).1]at this;exact this.symm
  right
  have b:q'<A.n:=by omega
  have f:=hN.le q' b;have hl:=hN.lt q' b;refine⟨num q',c',k1,?_,?_⟩
  ·rcases Nat.lt_trichotomy (num q') j with h|h|h
   ·exact .inl h
   ·rw[h]at f;exact .inr ⟨h,by omega⟩
   have:=hN.up j _ h hl;omega
  rw[vk hA hN hT b k1,k3];exact d.2
 stAll:=fun j hj=>by
  have a:=hN.fst j hj;obtain⟨w,hw,hr⟩:=hA.stAll _ a.1;refine⟨w,hw,?_⟩;have:=mR hA hN hT w 0 hA.wf.pos hw;rw[(hN.zero hA.wf.pos).1,hr,a.2]at this;exact this
theorem Aq{A:Tb}{m:Nat}{num F:Nat->Nat}(hA:Ao A)(hN:fM A.n m num F)(hT:∀ p q,p<A.n->q<A.n->(num p=num q↔gk A A p q)):∀ i j,i<m->j<m->gk (iS A m num F) (iS A m num F) i j->i=j:=by
 intro i j hi hj h;have fi:=hN.fst i hi;have fj:=hN.fst j hj;have ti:=mh hA hN hT fi.1;have tj:=mh hA hN hT fj.1;rw[fi.2]at ti;rw[fj.2]at tj;have:=(hT _ _ fi.1 fj.1).mpr (ti.symm.trans (h.trans tj));rw[fi.2,fj.2]at this;exact this
def yQ(A:Tb)(k:Nat)(mg G:Nat->Nat):Tb:=⟨A.n,k,fun b=>mg (A.cl b),fun q e=>A.nx q (G e),A.ac⟩
theorem nj{A:Tb}{k:Nat}{mg G:Nat->Nat}(hA:Ao A)(hN:fM A.k k mg G)(hT:∀ c c',c<A.k->c'<A.k->(mg c=mg c'↔∀ q,q<A.n->A.nx q c=A.nx q c')) :
  ∀ (w:List Nat) (s:Nat),s<A.n->Wd w->(yQ A k mg G).run s w=A.run s w
 | [],_,_,_=>rfl
 | b::w,s,hs,hw=>by
  have hb:=hw b (.head _);have hc:=hA.wf.cls b hb;have hf:=hN.fst _ (hN.lt _ hc);have:(yQ A k mg G).stp s b=A.stp s b:=(hT _ _ hf.1 hc).mp hf.2 s hs;rw[Tb.run_cons,Tb.run_cons,this];exact nj hA hN hT w _ (hA.wf.stp hs hb) fun x hx=>hw x (.tail _ hx)
theorem mX{A:Tb}{k:Nat}{mg G:Nat->Nat}(hA:Ao A)(hN:fM A.k k mg G)(hT:∀ c c',c<A.k->c'<A.k->(mg c=mg c'↔∀ q,q<A.n->A.nx q c=A.nx q c')){s:Nat}(hs:s<A.n):gk (yQ A k mg G) A s s:=fun w hw=>by
 rw[nj hA hN hT w s hs hw];rfl
theorem ue{A:Tb}{k:Nat}{mg G:Nat->Nat}(hA:Ao A)(hM:∀ p q,p<A.n->q<A.n->gk A A p q->p=q)(hN:fM A.k k mg G)(hT:∀ c c',c<A.k->c'<A.k->(mg c=mg c'↔∀ q,q<A.n->A.nx q c=A.nx q c')):td (yQ A k mg G) where
 wf:=⟨hA.wf.pos,fun b hb=>hN.lt _ (hA.wf.cls b hb),fun q c hq hc=>hA.wf.nxt q _ hq (hN.fst c hc).1⟩
 clUp:=fun b hb e he=>by
  have hc:=hA.wf.cls b hb;have hl:=hN.lt _ hc;have h1:=hN.up e _ he hl;obtain⟨b',k1,k2⟩:=hA.clUp b hb (G e) (Nat.lt_of_lt_of_le h1 (hN.le _ hc));exact⟨b',k1,by show mg (A.cl b')=e;rw[k2];exact(hN.fst e (Nat.lt_trans he hl)).2⟩
 clAll:=fun e he=>by
  obtain⟨h1,h2⟩:=hN.fst e he;obtain⟨b,hb,k⟩:=hA.clAll _ h1;exact⟨b,hb,by show mg (A.cl b)=e;rw[k,h2]⟩
 stUp:=fun q e hq he s hs=>by
  obtain⟨h1,h2⟩:=hN.fst e he;rcases hA.stUp q (G e) hq h1 s hs with h0|⟨q',c',k1,k2,k3⟩
  ·exact .inl h0
  have d:q<A.n:=hq;have hl:=hN.lt c' k1;have a:=hN.le c' k1;have hf:=hN.fst _ hl;refine .inr ⟨q',mg c',hl,?_,?_⟩
  ·rcases k2 with k2|⟨k2,k4⟩
   ·exact .inl k2
   refine .inr ⟨k2,?_⟩;rcases Nat.lt_trichotomy (mg c') e with h|h|h
   ·exact h
   ·rw[h]at a;omega
   have:=hN.up e _ h hl;omega
  show A.nx q' (G (mg c'))=s;rw[(hT _ _ hf.1 k1).mp hf.2 q' (by omega),k3]
 stAll:=fun q hq=>by
  obtain⟨w,hw,hr⟩:=hA.stAll q hq;exact⟨w,hw,by rw[nj hA hN hT w 0 hA.wf.pos hw,hr]⟩
 stMin:=fun p q hp hq h=>hM p q hp hq ((mX hA hN hT hp).symm.trans (h.trans (mX hA hN hT hq)))
 clMin:=fun e e' he he' h=>by
  have f1:=hN.fst e he;have f2:=hN.fst e' he';have:=(hT _ _ f1.1 f2.1).mpr h;rw[f1.2,f2.2]at this;exact this
structure eK {α:Type} (k:Nat) (f:α->Nat->α) (s0:α) (o:List α) (ys:List Nat):Prop where
 nd:∀ i j:Nat,i<o.length->j<o.length->o[i]?=o[j]?->i=j
 z:o[0]?=some s0
 nx:∀ t,t<ys.length->∃ x,o[t / k]?=some x/\o[ys[t]?.getD 0]?=some (f x (t%k))
 up:∀ t,t<ys.length->∀ s,s<ys[t]?.getD 0->s=0∨∃ t',t'<t/\ys[t']?.getD 0=s
 all:∀ s,s<o.length->s=0∨∃ t,t<ys.length/\ys[t]?.getD 0=s/\t / k<s
theorem eK.start{α:Type}(k:Nat)(f:α->Nat->α)(s0:α):eK k f s0 [s0] [] where
 nd:=fun i j hi hj _=>by simp at hi hj;omega
 z:=rfl
 nx:=fun t ht=>by simp at ht
 up:=fun t ht=>by simp at ht
 all:=fun s hs=>by simp at hs;omega
theorem eK.pos{α:Type}{k:Nat}{f:α->Nat->α}{s0:α}{o:List α}{ys:List Nat}(h:eK k f s0 o ys):0<o.length:=by
 have:=h.z;cases o with
 | nil=>simp at this
 | cons=>simp
theorem da{α:Type}{o:List α}{i:Nat}{x:α}(h:o[i]?=some x):i<o.length:=(List.getElem?_eq_some_iff.mp h).1
theorem bK{ys:List Nat}{j t:Nat}(ht:t<ys.length):(ys++[j])[t]?.getD 0=ys[t]?.getD 0:=by rw[List.getElem?_append_left ht]
theorem de{ys:List Nat}{j:Nat}:(ys++[j])[ys.length]?.getD 0=j:=by simp
theorem eK.old{α:Type}{k:Nat}{f:α->Nat->α}{s0 x:α}{o:List α}{ys:List Nat}{j:Nat}(h:eK k f s0 o ys)(hx:o[ys.length / k]?=some x)(hj:o[j]?=some (f x (ys.length%k))):eK k f s0 o (ys++[j]) where
 nd:=h.nd
 z:=h.z
 nx:=fun t ht=>by
  simp only[List.length_append,List.length_singleton]at ht
  by_cases he:t=ys.length
  ·subst he;exact⟨x,hx,by rw[de];exact hj⟩
  rw[bK (by omega)];exact h.nx t (by omega)
 up:=fun t ht s hs=>by
  simp only[List.length_append,List.length_singleton]at ht
  by_cases he:t=ys.length
  ·subst he;rw[de]at hs;rcases h.all s (by have:=da hj;omega) with h0|⟨t',k1,k2,-⟩
   ·exact .inl h0
   exact .inr ⟨t',k1,by rw[bK k1];exact k2⟩
  rw[bK (by omega)]at hs;rcases h.up t (by omega) s hs with h0|⟨t',k1,k2⟩
  ·exact .inl h0
  exact .inr ⟨t',k1,by rw[bK (by omega)];exact k2⟩
 all:=fun s hs=>by
  rcases h.all s hs with h0|⟨t',k1,k2,k3⟩
  ·exact .inl h0
  exact .inr ⟨t',by simp;omega,by rw[bK k1];exact k2,k3⟩
theorem eK.new{α:Type}{k:Nat}{f:α->Nat->α}{s0 x:α}{o:List α}{ys:List Nat}(h:eK k f s0 o ys)(hx:o[ys.length / k]?=some x)(hno:∀ i:Nat,i<o.length->o[i]?≠some (f x (ys.length%k))) :
  eK k f s0 (o++[f x (ys.length%k)]) (ys++[o.length]):=by
 have hp:=h.pos;have hold:∀ {i:Nat} {y:α},o[i]?=some y->(o++[f x (ys.length%k)])[i]?=some y:=fun {i y} hi=>by rw[List.getElem?_append_left (da hi)];exact hi
 refine⟨fun i j hi hj he=>?_,hold h.z,fun t ht=>?_,fun t ht s hs=>?_,fun s hs=>?_⟩
 ·simp only[List.length_append,List.length_singleton]at hi hj;rcases Nat.lt_or_ge i o.length with h1|h1<;>rcases Nat.lt_or_ge j o.length with h2|h2
  ·rw[List.getElem?_append_left h1,List.getElem?_append_left h2]at he;exact h.nd i j h1 h2 he
  ·have:j=o.length:=by omega
   subst this;rw[List.getElem?_append_left h1]at he;simp at he;exact absurd he (hno i h1)
  ·have:i=o.length:=by omega
   subst this;rw[List.getElem?_append_left h2]at he;simp at he;exact absurd he.symm (hno j h2)
  omega
 ·simp only[List.length_append,List.length_singleton]at ht
  by_cases he:t=ys.length
  ·subst he;exact⟨x,hold hx,by rw[de];simp⟩
  rw[bK (by omega)];obtain⟨y,h1,h2⟩:=h.nx t (by omega);exact⟨y,hold h1,hold h2⟩
 ·simp only[List.length_append,List.length_singleton]at ht
  by_cases he:t=ys.length
  ·subst he;rw[de]at hs;rcases h.all s hs with h0|⟨t',k1,k2,-⟩
   ·exact .inl h0
   exact .inr ⟨t',k1,by rw[bK k1];exact k2⟩
  rw[bK (by omega)]at hs;rcases h.up t (by omega) s hs with h0|⟨t',k1,k2⟩
  ·exact .inl h0
  exact .inr ⟨t',k1,by rw[bK (by omega)];exact k2⟩
 simp only[List.length_append,List.length_singleton]at hs
 by_cases he:s=o.length
 ·subst he;exact .inr ⟨ys.length,by simp,de,da hx⟩
 rcases h.all s (by omega) with h0|⟨t',k1,k2,k3⟩
 ·exact .inl h0
 exact .inr ⟨t',by simp;omega,by rw[bK k1];exact k2,k3⟩
def bE{α:Type}(k:Nat)(cl:Nat->Nat)(ac:α->Bool)(o:List α)(ys:List Nat):Tb:=⟨o.length,k,cl,fun q c=>ys[q*k+c]?.getD 0,fun q=>(o[q]?.map ac).getD false⟩
theorem eg{q c k:Nat}(hc:c<k):(q*k+c) / k=q/\(q*k+c)%k=c:=by
 have hk:0<k:=by omega
 constructor
 ·rw[Nat.mul_comm,Nat.mul_add_div hk,Nat.div_eq_of_lt hc,Nat.add_zero]
 rw[Nat.mul_comm,Nat.mul_add_mod,Nat.mod_eq_of_lt hc]
theorem gO{q c k n:Nat}(hq:q<n)(hc:c<k):q*k+c<n*k:=by
 have:(q+1)*k<=n*k:=Nat.mul_le_mul_right _ hq;rw[Nat.add_mul,Nat.one_mul]at this;omega
theorem zh{α:Type}{k:Nat}{f:α->Nat->α}{s0:α}{o:List α}{ys:List Nat}(h:eK k f s0 o ys)(hl:ys.length=o.length*k){cl:Nat->Nat}{ac:α->Bool}{q c:Nat}{x:α}(hq:o[q]?=some x)(hc:c<k) :
  o[(bE k cl ac o ys).nx q c]?=some (f x c):=by
 obtain⟨y,h1,h2⟩:=h.nx (q*k+c) (by rw[hl];exact gO (da hq) hc);rw[(eg hc).1,hq]at h1;cases h1;rw[(eg hc).2]at h2;exact h2
theorem pH{α:Type}{k:Nat}{f:α->Nat->α}{s0:α}{o:List α}{ys:List Nat}(h:eK k f s0 o ys)(hl:ys.length=o.length*k){cl:Nat->Nat}{ac:α->Bool}(hcl:∀ b,b<256->cl b<k) :
  ∀ (w:List Nat) (q:Nat) (x:α),o[q]?=some x->Wd w->o[(bE k cl ac o ys).run q w]?=some (w.foldl (fun y b=>f y (cl b)) x)
 | [],_,_,hq,_=>hq
 | b::w,_,_,hq,hw=>pH h hl hcl w _ _ (zh h hl hq (hcl b (hw b (.head _)))) fun y hy=>hw y (.tail _ hy)
theorem jU{α:Type}{k:Nat}{f:α->Nat->α}{s0:α}{o:List α}{ys:List Nat}(h:eK k f s0 o ys)(hl:ys.length=o.length*k){cl:Nat->Nat}{ac:α->Bool}(hcl:∀ b,b<256->cl b<k)
  (hup:∀ b,b<256->∀ c,c<cl b->∃ b',b'<b/\cl b'=c)(hall:∀ c,c<k->∃ b,b<256/\cl b=c):Ao (bE k cl ac o ys):=by
 have hk:0<k:=Nat.lt_of_le_of_lt (Nat.zero_le _) (hcl 0 (by decide));have a:(bE k cl ac o ys).Wf:=⟨h.pos,hcl,fun q c hq hc=>by
  obtain⟨x,hx⟩ : ∃ x,o[q]?=some x:=⟨_,List.getElem?_eq_getElem hq⟩;exact da (zh h hl hx hc)⟩
 refine⟨a,hup,hall,fun q c hq hc s hs=>?_,fun q=>?_⟩
 ·rcases h.up (q*k+c) (by rw[hl];exact gO hq hc) s hs with h0|⟨t,k1,k2⟩
  ·exact .inl h0
  refine .inr ⟨t / k,t%k,Nat.mod_lt _ hk,?_,?_⟩
  ·have e:=Nat.div_add_mod t k;rw[Nat.mul_comm]at e;rcases Nat.lt_trichotomy (t / k) q with g|g|g
   ·exact .inl g
   ·refine .inr ⟨g,?_⟩;rw[g]at e;omega
   have:(q+1)*k<=t / k*k:=Nat.mul_le_mul_right _ g;rw[Nat.add_mul,Nat.one_mul]at this;have d:c<k:=hc;omega
  show ys[t / k*k+t%k]?.getD 0=s;rw[Nat.mul_comm,Nat.div_add_mod];exact k2
 induction q using Nat.strongRecOn with
 | _ q ih =>
  intro hq;rcases h.all q hq with h0|⟨t,k1,k2,k3⟩
  ·exact⟨[],Wd.nil,h0.symm⟩
  obtain⟨w,hw,hr⟩:=ih (t / k) k3 (Nat.lt_trans k3 hq);obtain⟨b,hb,hc⟩:=hall (t%k) (Nat.mod_lt _ hk);refine⟨w++[b],hw.app (Wd.nil.cons hb),?_⟩;rw[Tb.run_snoc,hr];show ys[t / k*k+cl b]?.getD 0=q;rw[hc,Nat.mul_comm,Nat.div_add_mod];exact k2
end Go.Proofs.YtpmcjimgkabpeaaGreatDoor
