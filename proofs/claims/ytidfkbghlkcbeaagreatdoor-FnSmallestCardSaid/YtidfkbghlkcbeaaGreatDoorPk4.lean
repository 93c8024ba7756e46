import Derived.Test.YtidfkbghlkcbeaaGreatDoorPk3
namespace Go.Proofs.YtidfkbghlkcbeaaGreatDoor
open Go.RowKit
def top(xs:List Int):Nat->Int
 | 0=>-1
 | b+1=>if top xs b<xs[b]?.getD 0 then xs[b]?.getD 0 else top xs b
structure fH (xs ys:List Int) (zs:List Bool) (nc:Int):Prop where
 st:1<=zs.length/\zs.length<=1024
 hn:1<=nc/\nc<=256
 cl:xs.length=256
 up:∀ b:Nat,b<256->0<=xs[b]?.getD 0/\xs[b]?.getD 0<=top xs b+1
 tp:top xs 256=nc-1
 nx:(ys.length:Int)=zs.length*nc
 to:∀ i:Nat,i<ys.length->0<=ys[i]?.getD 0/\ys[i]?.getD 0<zs.length
theorem yf(xs:List Int):∀ b:Nat,(∀ j:Nat,j<b->0<=xs[j]?.getD 0/\xs[j]?.getD 0<=top xs j+1)->-1<=top xs b/\top xs b<b:=by
 intro b
 induction b with
 | zero=>intro _;simp[top]
 | succ b ih =>
  intro h;have h1:=ih (fun j hj=>h j (by omega));have h2:=h b (by omega);simp only[top]
  split<;>omega
theorem nu(xs:List Int)(a:Nat):∀ b:Nat,a<=b->top xs a<=top xs b:=by
 intro b
 induction b with
 | zero =>
  intro h;obtain rfl:a=0:=by omega
  exact Int.le_refl _
 | succ b ih =>
  intro h
  by_cases e:a=b+1
  ·subst e;exact Int.le_refl _
  have h1:=ih (by omega);simp only[top]
  split<;>omega
theorem ul(xs:List Int)(b:Nat):xs[b]?.getD 0<=top xs (b+1):=by simp only[top];split<;>omega
theorem fH.cls{xs ys:List Int}{zs:List Bool}{nc:Int}(h:fH xs ys zs nc){b:Nat}(hb:b<256):0<=xs[b]?.getD 0/\xs[b]?.getD 0<nc:=by
 have h1:=ul xs b;have h2:=nu xs (b+1) 256 (by omega);have h3:=h.tp;have h4:=h.up b hb;omega
theorem CB{n:Int}(h0:0<=n)(h1:n<=1000000):wrap64 n=n:=by unfold wrap64;omega
structure Tb where
 n:Nat
 k:Nat
 cl:Nat->Nat
 nx:Nat->Nat->Nat
 ac:Nat->Bool
structure Tb.Wf (A:Tb):Prop where
 pos:0<A.n
 cls:∀ b,b<256->A.cl b<A.k
 nxt:∀ q c,q<A.n->c<A.k->A.nx q c<A.n
def Tb.stp(A:Tb)(q b:Nat):Nat:=A.nx q (A.cl b)
def Tb.run(A:Tb)(q:Nat)(w:List Nat):Nat:=w.foldl A.stp q
def Wd(w:List Nat):Prop:=∀ b∈w,b<256
theorem Wd.nil:Wd []:=fun _ h=>by cases h
theorem Wd.cons{b:Nat}{w:List Nat}(hb:b<256)(h:Wd w):Wd (b::w):=fun x hx=>by
 cases hx with
 | head=>exact hb
 | tail _ hx=>exact h x hx
theorem Wd.app{v w:List Nat}(hv:Wd v)(hw:Wd w):Wd (v++w):=fun x hx=>(List.mem_append.mp hx).elim (hv x) (hw x)
theorem Tb.run_cons(A:Tb)(q b:Nat)(w:List Nat):A.run q (b::w)=A.run (A.stp q b) w:=rfl
theorem Tb.run_app(A:Tb)(q:Nat)(v w:List Nat):A.run q (v++w)=A.run (A.run q v) w:=List.foldl_append ..
theorem Tb.run_snoc(A:Tb)(q b:Nat)(v:List Nat):A.run q (v++[b])=A.stp (A.run q v) b:=by rw[A.run_app];rfl
theorem Tb.Wf.stp{A:Tb}(h:A.Wf){q b:Nat}(hq:q<A.n)(hb:b<256):A.stp q b<A.n:=h.nxt _ _ hq (h.cls b hb)
theorem Tb.Wf.run{A:Tb}(h:A.Wf):∀ (w:List Nat) (q:Nat),q<A.n->Wd w->A.run q w<A.n
 | [],_,hq,_=>hq
 | b::w,_,hq,hw=>h.run w _ (h.stp hq (hw b (.head _))) fun x hx=>hw x (.tail _ hx)
def cW(A B:Tb)(p q:Nat):Prop:=∀ w,Wd w->A.ac (A.run p w)=B.ac (B.run q w)
theorem cW.symm{A B:Tb}{p q:Nat}(h:cW A B p q):cW B A q p:=fun w hw=>(h w hw).symm
theorem cW.trans{A B C:Tb}{p q r:Nat}(h:cW A B p q)(g:cW B C q r):cW A C p r:=fun w hw=>(h w hw).trans (g w hw)
theorem cW.stp{A B:Tb}{p q b:Nat}(h:cW A B p q)(hb:b<256):cW A B (A.stp p b) (B.stp q b):=fun w hw=>h (b::w) (hw.cons hb)
theorem cW.run{A B:Tb}:∀ (w:List Nat) {p q:Nat},cW A B p q->Wd w->cW A B (A.run p w) (B.run q w)
 | [],_,_,h,_=>h
 | b::w,_,_,h,hw=>cW.run w (h.stp (hw b (.head _))) fun x hx=>hw x (.tail _ hx)
theorem cW.ac{A B:Tb}{p q:Nat}(h:cW A B p q):A.ac p=B.ac q:=h [] Wd.nil
structure bE (A:Tb):Prop where
 wf:A.Wf
 clUp:∀ b,b<256->∀ c,c<A.cl b->∃ b',b'<b/\A.cl b'=c
 clAll:∀ c,c<A.k->∃ b,b<256/\A.cl b=c
 stUp:∀ q c,q<A.n->c<A.k->∀ s,s<A.nx q c->s=0∨∃ q' c',c'<A.k/\(q'<q∨(q'=q/\c'<c))/\A.nx q' c'=s
 stAll:∀ q,q<A.n->∃ w,Wd w/\A.run 0 w=q
 stMin:∀ p q,p<A.n->q<A.n->cW A A p q->p=q
 clMin:∀ c c',c<A.k->c'<A.k->(∀ q,q<A.n->A.nx q c=A.nx q c')->c=c'
theorem bE.met{A:Tb}(h:bE A){q:Nat}(hq:q<A.n)(h0:0<q):∃ q' c',q'<q/\c'<A.k/\A.nx q' c'=q:=by
 apply Classical.byContradiction
 intro a;obtain⟨w,hw,hr⟩:=h.stAll q hq;have key:∀ (w:List Nat) (s:Nat),s<q->Wd w->A.run s w<q:=by
  intro w
  induction w with
  | nil=>intro s hs _;exact hs
  | cons b w ih =>
   intro s hs hw;have hb:=hw b (.head _);refine ih _ ?_ fun x hx=>hw x (.tail _ hx)
   have hc:=h.wf.cls b hb
   apply Classical.byContradiction
   intro c;have hne:A.nx s (A.cl b)≠q:=fun he=>a ⟨s,A.cl b,hs,hc,he⟩
   have hlt:q<A.nx s (A.cl b):=by
    have:¬ A.nx s (A.cl b)<q:=c;omega
   rcases h.stUp s _ (Nat.lt_trans hs hq) hc q hlt with h1|⟨q',c',k1,k2,k3⟩
   ·omega
   exact a ⟨q',c',by omega,k1,k3⟩
 have:=key w 0 h0 hw;omega
theorem bE.fn{A B:Tb}(hB:bE B){p q q':Nat}(hq:q<B.n)(hq':q'<B.n)(h:cW A B p q)(g:cW A B p q'):q=q':=hB.stMin q q' hq hq' (h.symm.trans g)
theorem bE.cls{A B:Tb}(_hA:bE A)(hB:bE B)(h0:cW A B 0 0){b b':Nat}(hb:b<256)(hb':b'<256)(he:A.cl b=A.cl b'):B.cl b=B.cl b':=by
 refine hB.clMin _ _ (hB.wf.cls b hb) (hB.wf.cls b' hb') fun q hq=>?_
 obtain⟨w,hw,rfl⟩:=hB.stAll q hq;have hr:=cW.run w h0 hw;have h1:=hr.stp hb;have h2:=hr.stp hb';have a:A.stp (A.run 0 w) b=A.stp (A.run 0 w) b':=by simp only[Tb.stp,he]
 rw[a]at h1;exact hB.fn (hB.wf.stp hq hb) (hB.wf.stp hq hb') h1 h2
theorem nL{A B:Tb}(hA:bE A)(hB:bE B)(h0:cW A B 0 0):∀ b,b<256->A.cl b=B.cl b:=by
 intro b
 induction b using Nat.strongRecOn with
 | _ b ih =>
  intro hb;rcases Nat.lt_trichotomy (A.cl b) (B.cl b) with h|h|h
  ·obtain⟨b',k1,k2⟩:=hB.clUp b hb _ h;have k3:=ih b' k1 (by omega);have:=hA.cls hB h0 (b:=b') (b':=b) (by omega) hb (by omega);omega
  ·exact h
  obtain⟨b',k1,k2⟩:=hA.clUp b hb _ h;have k3:=ih b' k1 (by omega);have:=hB.cls hA h0.symm (b:=b') (b':=b) (by omega) hb (by omega);omega
theorem pQ{A B:Tb}(hA:bE A)(hB:bE B)(h0:cW A B 0 0):A.k=B.k:=by
 have hc:=nL hA hB h0;rcases Nat.lt_trichotomy A.k B.k with h|h|h
 ·obtain⟨b,hb,he⟩:=hB.clAll _ h;have:=hA.wf.cls b hb;have:=hc b hb;omega
 ·exact h
 obtain⟨b,hb,he⟩:=hA.clAll _ h;have:=hB.wf.cls b hb;have:=hc b hb;omega
theorem ja{A B:Tb}(hA:bE A)(hB:bE B)(h0:cW A B 0 0):∀ q,q<A.n->q<B.n->cW A B q q/\∀ c,c<A.k->A.nx q c=B.nx q c:=by
 have f:=nL hA hB h0;have hk:=pQ hA hB h0;have step:∀ {q c:Nat},cW A B q q->c<A.k->cW A B (A.nx q c) (B.nx q c):=by
  intro q c h hc;obtain⟨b,hb,he⟩:=hA.clAll c hc;have:=h.stp hb;simp only[Tb.stp]at this;rw[<-f b hb,he]at this;exact this
 intro q
 induction q using Nat.strongRecOn with
 | _ q ih =>
  intro qA qB;have hT:cW A B q q:=by
   by_cases hz:q=0
   ·subst hz;exact h0
   obtain⟨q',c',k1,k2,k3⟩:=hA.met qA (by omega);obtain⟨t,e⟩:=ih q' k1 (by omega) (by omega);have:=step t k2;rw[<-e c' k2,k3]at this;exact this
  refine⟨hT,fun c=>?_⟩
  induction c using Nat.strongRecOn with
  | _ c ihc =>
   intro hc;have d:=step hT hc;have nA:=hA.wf.nxt q c qA hc;have nB:=hB.wf.nxt q c qB (by omega);rcases Nat.lt_trichotomy (A.nx q c) (B.nx q c) with h|h|h
   ·have a:cW A B (A.nx q c) (A.nx q c):=by
     rcases hB.stUp q c qB (by omega) _ h with hz|⟨q',c',k1,k2,k3⟩
     ·rw[hz];exact h0
     rcases k2 with k2|⟨rfl,k2⟩
     ·obtain⟨t,e⟩:=ih q' k2 (by omega) (by omega);have:=step t (c:=c') (by omega);rw[e c' (by omega),k3]at this;exact this
     have:=step hT (c:=c') (by omega);rw[ihc c' k2 (by omega),k3]at this;exact this
    exact hB.fn (by omega) nB a d
   ·exact h
   have a:cW A B (B.nx q c) (B.nx q c):=by
    rcases hA.stUp q c qA hc _ h with hz|⟨q',c',k1,k2,k3⟩
    ·rw[hz];exact h0
    rcases k2 with k2|⟨rfl,k2⟩
    ·obtain⟨t,e⟩:=ih q' k2 (by omega) (by omega);have:=step t (c:=c') k1;rw[<-e c' k1,k3]at this;exact this
    have:=step hT (c:=c') k1;rw[<-ihc c' k2 k1,k3]at this;exact this
   exact hA.fn nA (by omega) d.symm a.symm
theorem AV{A B:Tb}(hA:bE A)(hB:bE B)(h0:cW A B 0 0):A.n=B.n:=by
 have hk:=pQ hA hB h0;have a0:=hA.wf.pos;have b0:=hB.wf.pos;rcases Nat.lt_trichotomy A.n B.n with h|h|h
 ·obtain⟨q',c',k1,k2,k3⟩:=hB.met h a0;have:=(ja hA hB h0 q' k1 (by omega)).2 c' (by omega);have:=hA.wf.nxt q' c' k1 (by omega);omega
 ·exact h
 obtain⟨q',c',k1,k2,k3⟩:=hA.met h b0;have:=(ja hA hB h0 q' (by omega) k1).2 c' k2;have:=hB.wf.nxt q' c' k1 (by omega);omega
theorem vI{A B:Tb}(hA:bE A)(hB:bE B)(h0:cW A B 0 0):A.n=B.n/\A.k=B.k/\(∀ b,b<256->A.cl b=B.cl b)/\(∀ q c,q<A.n->c<A.k->A.nx q c=B.nx q c)/\∀ q,q<A.n->A.ac q=B.ac q:=by
 have hn:=AV hA hB h0;exact⟨hn,pQ hA hB h0,nL hA hB h0,fun q c hq hc=>(ja hA hB h0 q hq (by omega)).2 c hc,fun q hq=>(ja hA hB h0 q hq (by omega)).1.ac⟩
theorem sC{A:Tb}(hw:A.Wf){bl:Nat->Nat}(h1:∀ p q,p<A.n->q<A.n->bl p=bl q->A.ac p=A.ac q)(h2:∀ p q,p<A.n->q<A.n->bl p=bl q->∀ c,c<A.k->bl (A.nx p c)=bl (A.nx q c)) :
  ∀ p q,p<A.n->q<A.n->bl p=bl q->cW A A p q:=by
 intro p q hp hq he w
 induction w generalizing p q with
 | nil=>intro _;exact h1 p q hp hq he
 | cons b w ih =>
  intro a;have hb:=a b (.head _);exact ih _ _ (hw.stp hp hb) (hw.stp hq hb) (h2 p q hp hq he _ (hw.cls b hb)) fun x hx=>a x (.tail _ hx)
def Tb.Full(A:Tb):Prop:=∀ c,c<A.k->∃ b,b<256/\A.cl b=c
theorem cW.nx{A:Tb}(hf:A.Full){p q c:Nat}(h:cW A A p q)(hc:c<A.k):cW A A (A.nx p c) (A.nx q c):=by
 obtain⟨b,hb,rfl⟩:=hf c hc;exact h.stp hb
structure zi (n:Nat) (S:Nat->Prop) (bl bl':Nat->Nat) (W W':Nat->Prop):Prop where
 same:∀ p q,p<n->q<n->(bl' p=bl' q↔bl p=bl q/\(S p↔S q))
 keep:∀ p,p<n->W (bl p)->W' (bl' p)
 new:∀ p q,p<n->q<n->bl p=bl q->bl' p≠bl' q->W' (bl' p)∨W' (bl' q)
structure xg (A:Tb) (bl:Nat->Nat) (W T:Nat->Prop) (c:Nat):Prop where
 ac:∀ p q,p<A.n->q<A.n->bl p=bl q->A.ac p=A.ac q
 tel:∀ p q,p<A.n->q<A.n->cW A A p q->bl p=bl q
 tT:∀ p q,p<A.n->q<A.n->cW A A p q->(T p↔T q)
 pend:∀ p q,p<A.n->q<A.n->bl p=bl q->∀ c',c'<A.k->bl (A.nx p c')≠bl (A.nx q c')->
  W (bl (A.nx p c'))∨W (bl (A.nx q c'))∨(c<=c'/\¬ (T (A.nx p c')↔T (A.nx q c')))
theorem xg.start{A:Tb}{bl':Nat->Nat}{W':Nat->Prop}(h:zi A.n (fun q=>A.ac q=true) (fun _=>0) bl' (fun _=>False) W')(hw:A.Wf):xg A bl' W' (fun _=>False) A.k where
 ac:=fun p q hp hq he=>by
  have:=((h.same p q hp hq).mp he).2;cases h1:A.ac p<;>cases h2:A.ac q<;>simp_all
 tel:=fun p q hp hq he=>(h.same p q hp hq).mpr ⟨rfl,by rw[he.ac]⟩
 tT:=fun _ _ _ _ _=>Iff.rfl
 pend:=fun p q hp hq _ c' a hne=>by
  rcases h.new _ _ (hw.nxt p c' hp a) (hw.nxt q c' hq a) rfl hne with h|h
  ·exact .inl h
  exact .inr (.inl h)
theorem xg.cut{A:Tb}{bl bl':Nat->Nat}{W W' T:Nat->Prop}{c:Nat}(h:xg A bl W T c)(hw:A.Wf)(hf:A.Full)(hc:c<A.k)(g:zi A.n (fun p=>T (A.nx p c)) bl bl' W W'):xg A bl' W' T (c+1) where
 ac:=fun p q hp hq he=>h.ac p q hp hq ((g.same p q hp hq).mp he).1
 tel:=fun p q hp hq he=>(g.same p q hp hq).mpr ⟨h.tel p q hp hq he,h.tT _ _ (hw.nxt p c hp hc) (hw.nxt q c hq hc) (he.nx hf hc)⟩
 tT:=h.tT
 pend:=fun p q hp hq he c' a hne=>by
  obtain⟨e1,e2⟩:=(g.same p q hp hq).mp he;have np:=hw.nxt p c' hp a;have nq:=hw.nxt q c' hq a
  by_cases hs:bl (A.nx p c')=bl (A.nx q c')
  ·rcases g.new _ _ np nq hs hne with k|k
   ·exact .inl k
   exact .inr (.inl k)
  rcases h.pend p q hp hq e1 c' a hs with k|k|⟨k1,k2⟩
  ·exact .inl (g.keep _ np k)
  ·exact .inr (.inl (g.keep _ nq k))
  refine .inr (.inr ⟨?_,k2⟩)
  apply Classical.byContradiction
  intro hlt;have:c'=c:=by omega
  subst this;exact k2 e2
theorem xg.pop{A:Tb}{bl:Nat->Nat}{W W1 T:Nat->Prop}{N:Nat}(h:xg A bl W T A.k)(hN:∀ x,W x->x=N∨W1 x):xg A bl W1 (fun q=>bl q=N) 0 where
 ac:=h.ac
 tel:=h.tel
 tT:=fun p q hp hq he=>by rw[h.tel p q hp hq he]
 pend:=fun p q hp hq he c' a hne=>by
  rcases h.pend p q hp hq he c' a hne with k|k|⟨k1,-⟩
  ·rcases hN _ k with k|k
   ·exact .inr (.inr ⟨Nat.zero_le _,fun hi=>hne (k.trans (hi.mp k).symm)⟩)
   exact .inl k
  ·rcases hN _ k with k|k
   ·exact .inr (.inr ⟨Nat.zero_le _,fun hi=>hne ((hi.mpr k).trans k.symm)⟩)
   exact .inr (.inl k)
  omega
theorem xg.fin{A:Tb}{bl:Nat->Nat}{W T:Nat->Prop}(h:xg A bl W T A.k)(hw:A.Wf)(hW:∀ x,¬ W x):∀ p q,p<A.n->q<A.n->(bl p=bl q↔cW A A p q):=fun p q hp hq =>
 ⟨sC hw h.ac (fun p q hp hq he c hc=>by
  apply Classical.byContradiction
  intro hne;rcases h.pend p q hp hq he c hc hne with k|k|⟨k,-⟩
  ·exact hW _ k
  ·exact hW _ k
  omega) p q hp hq,h.tel p q hp hq⟩
structure fO (n m:Nat) (num F:Nat->Nat):Prop where
 lt:∀ s,s<n->num s<m
 fst:∀ j,j<m->F j<n/\num (F j)=j
 le:∀ s,s<n->F (num s)<=s
 up:∀ i j,i<j->j<m->F i<F j
theorem fO.zero{n m:Nat}{num F:Nat->Nat}(h:fO n m num F)(hn:0<n):num 0=0/\F 0=0/\0<m:=by
 have h1:=h.lt 0 hn;have h2:=h.le 0 hn;have h3:num 0=0:=by
  apply Classical.byContradiction
  intro hne;have:=h.up 0 (num 0) (by omega) h1;omega
 rw[h3]at h2 h1;exact⟨h3,by omega,h1⟩
structure xm (A:Tb):Prop where
 wf:A.Wf
 clUp:∀ b,b<256->∀ c,c<A.cl b->∃ b',b'<b/\A.cl b'=c
 clAll:A.Full
 stUp:∀ q c,q<A.n->c<A.k->∀ s,s<A.nx q c->s=0∨∃ q' c',c'<A.k/\(q'<q∨(q'=q/\c'<c))/\A.nx q' c'=s
 stAll:∀ q,q<A.n->∃ w,Wd w/\A.run 0 w=q
def jc(A:Tb)(m:Nat)(num F:Nat->Nat):Tb:=⟨m,A.k,A.cl,fun j c=>num (A.nx (F j) c),fun j=>A.ac (F j)⟩
theorem uI{A:Tb}{m:Nat}{num F:Nat->Nat}(hA:xm A)(hN:fO A.n m num F)(hT:∀ p q,p<A.n->q<A.n->(num p=num q↔cW A A p q)){s c:Nat}(hs:s<A.n)(hc:c<A.k) :
  (jc A m num F).nx (num s) c=num (A.nx s c):=by
 have hf:=hN.fst (num s) (hN.lt s hs);exact(hT _ _ (hA.wf.nxt _ c hf.1 hc) (hA.wf.nxt s c hs hc)).mpr (((hT _ _ hf.1 hs).mp hf.2).nx hA.clAll hc)
theorem mY{A:Tb}{m:Nat}{num F:Nat->Nat}(hA:xm A)(hN:fO A.n m num F)(hT:∀ p q,p<A.n->q<A.n->(num p=num q↔cW A A p q)) :
  ∀ (w:List Nat) (s:Nat),s<A.n->Wd w->(jc A m num F).run (num s) w=num (A.run s w)
 | [],_,_,_=>rfl
 | b::w,s,hs,hw=>by
  have hb:=hw b (.head _);rw[Tb.run_cons,Tb.run_cons];have:(jc A m num F).stp (num s) b=num (A.stp s b):=uI hA hN hT hs (hA.wf.cls b hb);rw[this];exact mY hA hN hT w _ (hA.wf.stp hs hb) fun x hx=>hw x (.tail _ hx)
theorem mV{A:Tb}{m:Nat}{num F:Nat->Nat}(hA:xm A)(hN:fO A.n m num F)(hT:∀ p q,p<A.n->q<A.n->(num p=num q↔cW A A p q)){s:Nat}(hs:s<A.n):cW (jc A m num F) A (num s) s:=fun w hw=>by
 rw[mY hA hN hT w s hs hw];have hr:=hA.wf.run w s hs hw;have hf:=hN.fst _ (hN.lt _ hr);exact((hT _ _ hf.1 hr).mp hf.2).ac
theorem nK{A:Tb}{m:Nat}{num F:Nat->Nat}(hA:xm A)(hN:fO A.n m num F)(hT:∀ p q,p<A.n->q<A.n->(num p=num q↔cW A A p q)):xm (jc A m num F) where
 wf:=⟨(hN.zero hA.wf.pos).2.2,hA.wf.cls,fun j c hj hc=>hN.lt _ (hA.wf.nxt _ c (hN.fst j hj).1 hc)⟩
 clUp:=hA.clUp
 clAll:=hA.clAll
 stUp:=fun j c hj hc s hs=>by
  have a:=hN.fst j hj;have ht:=hA.wf.nxt _ c a.1 hc;have e:s<m:=Nat.lt_trans hs (hN.lt _ ht);have d:=hN.fst s e;have h1:=hN.up s _ hs (hN.lt _ ht);have h2:=hN.le _ ht;rcases hA.stUp (F j) c a.1 hc (F s) (Nat.lt_of_lt_of_le h1 h2) with h0|⟨q',c',k1,k2,k3⟩
  ·left
   have:=d.2;rw[h0,(hN.zero hA.wf.pos).1]at this;exact this.symm
  right
  have b:q'<A.n:=by omega
  have f:=hN.le q' b;have hl:=hN.lt q' b;refine⟨num q',c',k1,?_,?_⟩
  ·rcases Nat.lt_trichotomy (num q') j with h|h|h
   ·exact .inl h
   ·rw[h]at f;exact .inr ⟨h,by omega⟩
   have:=hN.up j _ h hl;omega
  rw[uI hA hN hT b k1,k3];exact d.2
 stAll:=fun j hj=>by
  have a:=hN.fst j hj;obtain⟨w,hw,hr⟩:=hA.stAll _ a.1;refine⟨w,hw,?_⟩;have:=mY hA hN hT w 0 hA.wf.pos hw;rw[(hN.zero hA.wf.pos).1,hr,a.2]at this;exact this
theorem zO{A:Tb}{m:Nat}{num F:Nat->Nat}(hA:xm A)(hN:fO A.n m num F)(hT:∀ p q,p<A.n->q<A.n->(num p=num q↔cW A A p q)):∀ i j,i<m->j<m->cW (jc A m num F) (jc A m num F) i j->i=j:=by
 intro i j hi hj h;have fi:=hN.fst i hi;have fj:=hN.fst j hj;have ti:=mV hA hN hT fi.1;have tj:=mV hA hN hT fj.1;rw[fi.2]at ti;rw[fj.2]at tj;have:=(hT _ _ fi.1 fj.1).mpr (ti.symm.trans (h.trans tj));rw[fi.2,fj.2]at this;exact this
def zB(A:Tb)(k:Nat)(mg G:Nat->Nat):Tb:=⟨A.n,k,fun b=>mg (A.cl b),fun q e=>A.nx q (G e),A.ac⟩
theorem mR{A:Tb}{k:Nat}{mg G:Nat->Nat}(hA:xm A)(hN:fO A.k k mg G)(hT:∀ c c',c<A.k->c'<A.k->(mg c=mg c'↔∀ q,q<A.n->A.nx q c=A.nx q c')) :
  ∀ (w:List Nat) (s:Nat),s<A.n->Wd w->(zB A k mg G).run s w=A.run s w
 | [],_,_,_=>rfl
 | b::w,s,hs,hw=>by
  have hb:=hw b (.head _);have hc:=hA.wf.cls b hb;have hf:=hN.fst _ (hN.lt _ hc);have:(zB A k mg G).stp s b=A.stp s b:=(hT _ _ hf.1 hc).mp hf.2 s hs;rw[Tb.run_cons,Tb.run_cons,this];exact mR hA hN hT w _ (hA.wf.stp hs hb) fun x hx=>hw x (.tail _ hx)
theorem nm{A:Tb}{k:Nat}{mg G:Nat->Nat}(hA:xm A)(hN:fO A.k k mg G)(hT:∀ c c',c<A.k->c'<A.k->(mg c=mg c'↔∀ q,q<A.n->A.nx q c=A.nx q c')){s:Nat}(hs:s<A.n):cW (zB A k mg G) A s s:=fun w hw=>by
 rw[mR hA hN hT w s hs hw];rfl
theorem tM{A:Tb}{k:Nat}{mg G:Nat->Nat}(hA:xm A)(hM:∀ p q,p<A.n->q<A.n->cW A A p q->p=q)(hN:fO A.k k mg G)(hT:∀ c c',c<A.k->c'<A.k->(mg c=mg c'↔∀ q,q<A.n->A.nx q c=A.nx q c')):bE (zB A k mg G) where
 wf:=⟨hA.wf.pos,fun b hb=>hN.lt _ (hA.wf.cls b hb),fun q c hq hc=>hA.wf.nxt q _ hq (hN.fst c hc).1⟩
 clUp:=fun b hb e he=>by
  have hc:=hA.wf.cls b hb;have hl:=hN.lt _ hc;have h1:=hN.up e _ he hl;obtain⟨b',k1,k2⟩:=hA.clUp b hb (G e) (Nat.lt_of_lt_of_le h1 (hN.le _ hc));exact⟨b',k1,by show mg (A.cl b')=e;rw[k2];exact(hN.fst e (Nat.lt_trans he hl)).2⟩
 clAll:=fun e he=>by
  obtain⟨h1,h2⟩:=hN.fst e he;obtain⟨b,hb,k⟩:=hA.clAll _ h1;exact⟨b,hb,by show mg (A.cl b)=e;rw[k,h2]⟩
 stUp:=fun q e hq he s hs=>by
  obtain⟨h1,h2⟩:=hN.fst e he;rcases hA.stUp q (G e) hq h1 s hs with h0|⟨q',c',k1,k2,k3⟩
  ·exact .inl h0
  have d:q<A.n:=hq;have hl:=hN.lt c' k1;have a:=hN.le c' k1;have hf:=hN.fst _ hl;refine .inr ⟨q',mg c',hl,?_,?_⟩
  ·rcases k2 with k2|⟨k2,k4⟩
   ·exact .inl k2
   refine .inr ⟨k2,?_⟩;rcases Nat.lt_trichotomy (mg c') e with h|h|h
   ·exact h
   ·rw[h]at a;omega
   have:=hN.up e _ h hl;omega
  show A.nx q' (G (mg c'))=s;rw[(hT _ _ hf.1 k1).mp hf.2 q' (by omega),k3]
 stAll:=fun q hq=>by
  obtain⟨w,hw,hr⟩:=hA.stAll q hq;exact⟨w,hw,by rw[mR hA hN hT w 0 hA.wf.pos hw,hr]⟩
 stMin:=fun p q hp hq h=>hM p q hp hq ((nm hA hN hT hp).symm.trans (h.trans (nm hA hN hT hq)))
 clMin:=fun e e' he he' h=>by
  have f1:=hN.fst e he;have f2:=hN.fst e' he';have:=(hT _ _ f1.1 f2.1).mpr h;rw[f1.2,f2.2]at this;exact this
structure eM {α:Type} (k:Nat) (f:α->Nat->α) (s0:α) (o:List α) (ys:List Nat):Prop where
 nd:∀ i j:Nat,i<o.length->j<o.length->o[i]?=o[j]?->i=j
 z:o[0]?=some s0
 nx:∀ t,t<ys.length->∃ x,o[t / k]?=some x/\o[ys[t]?.getD 0]?=some (f x (t%k))
 up:∀ t,t<ys.length->∀ s,s<ys[t]?.getD 0->s=0∨∃ t',t'<t/\ys[t']?.getD 0=s
 all:∀ s,s<o.length->s=0∨∃ t,t<ys.length/\ys[t]?.getD 0=s/\t / k<s
theorem eM.start{α:Type}(k:Nat)(f:α->Nat->α)(s0:α):eM k f s0 [s0] [] where
 nd:=fun i j hi hj _=>by simp at hi hj;omega
 z:=rfl
 nx:=fun t ht=>by simp at ht
 up:=fun t ht=>by simp at ht
 all:=fun s hs=>by simp at hs;omega
theorem eM.pos{α:Type}{k:Nat}{f:α->Nat->α}{s0:α}{o:List α}{ys:List Nat}(h:eM k f s0 o ys):0<o.length:=by
 have:=h.z;cases o with
 | nil=>simp at this
 | cons=>simp
theorem cU{α:Type}{o:List α}{i:Nat}{x:α}(h:o[i]?=some x):i<o.length:=(List.getElem?_eq_some_iff.mp h).1
theorem bM{ys:List Nat}{j t:Nat}(ht:t<ys.length):(ys++[j])[t]?.getD 0=ys[t]?.getD 0:=by rw[List.getElem?_append_left ht]
theorem dl{ys:List Nat}{j:Nat}:(ys++[j])[ys.length]?.getD 0=j:=by simp
theorem eM.old{α:Type}{k:Nat}{f:α->Nat->α}{s0 x:α}{o:List α}{ys:List Nat}{j:Nat}(h:eM k f s0 o ys)(hx:o[ys.length / k]?=some x)(hj:o[j]?=some (f x (ys.length%k))):eM k f s0 o (ys++[j]) where
 nd:=h.nd
 z:=h.z
 nx:=fun t ht=>by
  simp only[List.length_append,List.length_singleton]at ht
  by_cases he:t=ys.length
  ·subst he;exact⟨x,hx,by rw[dl];exact hj⟩
  rw[bM (by omega)];exact h.nx t (by omega)
 up:=fun t ht s hs=>by
  simp only[List.length_append,List.length_singleton]at ht
  by_cases he:t=ys.length
  ·subst he;rw[dl]at hs;rcases h.all s (by have:=cU hj;omega) with h0|⟨t',k1,k2,-⟩
   ·exact .inl h0
   exact .inr ⟨t',k1,by rw[bM k1];exact k2⟩
  rw[bM (by omega)]at hs;rcases h.up t (by omega) s hs with h0|⟨t',k1,k2⟩
  ·exact .inl h0
  exact .inr ⟨t',k1,by rw[bM (by omega)];exact k2⟩
 all:=fun s hs=>by
  rcases h.all s hs with h0|⟨t',k1,k2,k3⟩
  ·exact .inl h0
  exact .inr ⟨t',by simp;omega,by rw[bM k1];exact k2,k3⟩
theorem eM.new{α:Type}{k:Nat}{f:α->Nat->α}{s0 x:α}{o:List α}{ys:List Nat}(h:eM k f s0 o ys)(hx:o[ys.length / k]?=some x)(hno:∀ i:Nat,i<o.length->o[i]?≠some (f x (ys.length%k))) :
  eM k f s0 (o++[f x (ys.length%k)]) (ys++[o.length]):=by
 have hp:=h.pos;have hold:∀ {i:Nat} {y:α},o[i]?=some y->(o++[f x (ys.length%k)])[i]?=some y:=fun {i y} hi=>by rw[List.getElem?_append_left (cU hi)];exact hi
 refine⟨fun i j hi hj he=>?_,hold h.z,fun t ht=>?_,fun t ht s hs=>?_,fun s hs=>?_⟩
 ·simp only[List.length_append,List.length_singleton]at hi hj;rcases Nat.lt_or_ge i o.length with h1|h1<;>rcases Nat.lt_or_ge j o.length with h2|h2
  ·rw[List.getElem?_append_left h1,List.getElem?_append_left h2]at he;exact h.nd i j h1 h2 he
  ·have:j=o.length:=by omega
   subst this;rw[List.getElem?_append_left h1]at he;simp at he;exact absurd he (hno i h1)
  ·have:i=o.length:=by omega
   subst this;rw[List.getElem?_append_left h2]at he;simp at he;exact absurd he.symm (hno j h2)
  omega
 ·simp only[List.length_append,List.length_singleton]at ht
  by_cases he:t=ys.length
  ·subst he;exact⟨x,hold hx,by rw[dl];simp⟩
  rw[bM (by omega)];obtain⟨y,h1,h2⟩:=h.nx t (by omega);exact⟨y,hold h1,hold h2⟩
 ·simp only[List.length_append,List.length_singleton]at ht
  by_cases he:t=ys.length
  ·subst he;rw[dl]at hs;rcases h.all s hs with h0|⟨t',k1,k2,-⟩
   ·exact .inl h0
   exact .inr ⟨t',k1,by rw[bM k1];exact k2⟩
  rw[bM (by omega)]at hs;rcases h.up t (by omega) s hs with h0|⟨t',k1,k2⟩
  ·exact .inl h0
  exact .inr ⟨t',k1,by rw[bM (by omega)];exact k2⟩
 simp only[List.length_append,List.length_singleton]at hs
 by_cases he:s=o.length
 ·subst he;exact .inr ⟨ys.length,by simp,dl,cU hx⟩
 rcases h.all s (by omega) with h0|⟨t',k1,k2,k3⟩
 ·exact .inl h0
 exact .inr ⟨t',by simp;omega,by rw[bM k1];exact k2,k3⟩
def bg{α:Type}(k:Nat)(cl:Nat->Nat)(ac:α->Bool)(o:List α)(ys:List Nat):Tb:=⟨o.length,k,cl,fun q c=>ys[q*k+c]?.getD 0,fun q=>(o[q]?.map ac).getD false⟩
theorem eh{q c k:Nat}(hc:c<k):(q*k+c) / k=q/\(q*k+c)%k=c:=by
 have hk:0<k:=by omega
 constructor
 ·rw[Nat.mul_comm,Nat.mul_add_div hk,Nat.div_eq_of_lt hc,Nat.add_zero]
 rw[Nat.mul_comm,Nat.mul_add_mod,Nat.mod_eq_of_lt hc]
theorem gk{q c k n:Nat}(hq:q<n)(hc:c<k):q*k+c<n*k:=by
 have:(q+1)*k<=n*k:=Nat.mul_le_mul_right _ hq;rw[Nat.add_mul,Nat.one_mul]at this;omega
theorem mJ{α:Type}{k:Nat}{f:α->Nat->α}{s0:α}{o:List α}{ys:List Nat}(h:eM k f s0 o ys)(hl:ys.length=o.length*k){cl:Nat->Nat}{ac:α->Bool}{q c:Nat}{x:α}(hq:o[q]?=some x)(hc:c<k) :
  o[(bg k cl ac o ys).nx q c]?=some (f x c):=by
 obtain⟨y,h1,h2⟩:=h.nx (q*k+c) (by rw[hl];exact gk (cU hq) hc);rw[(eh hc).1,hq]at h1;cases h1;rw[(eh hc).2]at h2;exact h2
theorem qp{α:Type}{k:Nat}{f:α->Nat->α}{s0:α}{o:List α}{ys:List Nat}(h:eM k f s0 o ys)(hl:ys.length=o.length*k){cl:Nat->Nat}{ac:α->Bool}(hcl:∀ b,b<256->cl b<k) :
  ∀ (w:List Nat) (q:Nat) (x:α),o[q]?=some x->Wd w->o[(bg k cl ac o ys).run q w]?=some (w.foldl (fun y b=>f y (cl b)) x)
 | [],_,_,hq,_=>hq
 | b::w,_,_,hq,hw=>qp h hl hcl w _ _ (mJ h hl hq (hcl b (hw b (.head _)))) fun y hy=>hw y (.tail _ hy)
theorem iX{α:Type}{k:Nat}{f:α->Nat->α}{s0:α}{o:List α}{ys:List Nat}(h:eM k f s0 o ys)(hl:ys.length=o.length*k){cl:Nat->Nat}{ac:α->Bool}(hcl:∀ b,b<256->cl b<k)
  (hup:∀ b,b<256->∀ c,c<cl b->∃ b',b'<b/\cl b'=c)(hall:∀ c,c<k->∃ b,b<256/\cl b=c):xm (bg k cl ac o ys):=by
 have hk:0<k:=Nat.lt_of_le_of_lt (Nat.zero_le _) (hcl 0 (by decide));have a:(bg k cl ac o ys).Wf:=⟨h.pos,hcl,fun q c hq hc=>by
  obtain⟨x,hx⟩ : ∃ x,o[q]?=some x:=⟨_,List.getElem?_eq_getElem hq⟩;exact cU (mJ h hl hx hc)⟩
 refine⟨a,hup,hall,fun q c hq hc s hs=>?_,fun q=>?_⟩
 ·rcases h.up (q*k+c) (by rw[hl];exact gk hq hc) s hs with h0|⟨t,k1,k2⟩
  ·exact .inl h0
  refine .inr ⟨t / k,t%k,Nat.mod_lt _ hk,?_,?_⟩
  ·have e:=Nat.div_add_mod t k;rw[Nat.mul_comm]at e;rcases Nat.lt_trichotomy (t / k) q with g|g|g
   ·exact .inl g
   ·refine .inr ⟨g,?_⟩;rw[g]at e;omega
   have:(q+1)*k<=t / k*k:=Nat.mul_le_mul_right _ g;rw[Nat.add_mul,Nat.one_mul]at this;have d:c<k:=hc;omega
  show ys[t / k*k+t%k]?.getD 0=s;rw[Nat.mul_comm,Nat.div_add_mod];exact k2
 induction q using Nat.strongRecOn with
 | _ q ih =>
  intro hq;rcases h.all q hq with h0|⟨t,k1,k2,k3⟩
  ·exact⟨[],Wd.nil,h0.symm⟩
  obtain⟨w,hw,hr⟩:=ih (t / k) k3 (Nat.lt_trans k3 hq);obtain⟨b,hb,hc⟩:=hall (t%k) (Nat.mod_lt _ hk);refine⟨w++[b],hw.app (Wd.nil.cons hb),?_⟩;rw[Tb.run_snoc,hr];show ys[t / k*k+cl b]?.getD 0=q;rw[hc,Nat.mul_comm,Nat.div_add_mod];exact k2
def Tb.Rch(A:Tb)(q:Nat):Prop:=∃ w,Wd w/\A.run 0 w=q
theorem Tb.Rch.zero(A:Tb):A.Rch 0:=⟨[],Wd.nil,rfl⟩
theorem Tb.Rch.stp{A:Tb}{q b:Nat}(h:A.Rch q)(hb:b<256):A.Rch (A.stp q b):=by
 obtain⟨w,hw,rfl⟩:=h;exact⟨w++[b],hw.app (Wd.nil.cons hb),A.run_snoc 0 b w⟩
theorem Tb.Rch.lt{A:Tb}{q:Nat}(h:A.Rch q)(hw:A.Wf):q<A.n:=by
 obtain⟨w,h1,rfl⟩:=h;exact hw.run w 0 hw.pos h1
theorem cW.rfl'(A:Tb)(q:Nat):cW A A q q:=fun _ _=>rfl
structure AP (A:Tb) (P:Nat->Nat):Prop where
 rch:∀ q,A.Rch q->A.Rch (P q)
 tel:∀ q,A.Rch q->cW A A (P q) q
 one:∀ p q,A.Rch p->A.Rch q->cW A A p q->P p=P q
theorem AP.idem{A:Tb}{P:Nat->Nat}(h:AP A P){q:Nat}(hq:A.Rch q):P (P q)=P q:=h.one _ _ (h.rch q hq) hq (h.tel q hq)
def Gc(A:Tb)(b b':Nat):Prop:=∀ q,A.Rch q->cW A A (A.stp q b) (A.stp q b')
structure dD (A:Tb) (P:Nat->Nat) (k:Nat) (cls rep:Nat->Nat) (o ys:List Nat):Prop where
 wf:A.Wf
 fst:AP A P
 num:fO 256 k cls rep
 sm:∀ b b',b<256->b'<256->(cls b=cls b'↔Gc A b b')
 bfs:eM k (fun q e=>P (A.stp q (rep e))) (P 0) o ys
 len:ys.length=o.length*k
theorem dD.pre{A:Tb}{P:Nat->Nat}{k:Nat}{cls rep:Nat->Nat}{o ys:List Nat}(h:dD A P k cls rep o ys):xm (bg k cls A.ac o ys):=
 iX h.bfs h.len h.num.lt (fun b hb c hc=>by
  have hl:=h.num.lt b hb;have hf:=h.num.fst c (Nat.lt_trans hc hl);exact⟨rep c,Nat.lt_of_lt_of_le (h.num.up c _ hc hl) (h.num.le b hb),hf.2⟩) fun c hc=>⟨rep c,h.num.fst c hc⟩
theorem dD.go{A:Tb}{P:Nat->Nat}{k:Nat}{cls rep:Nat->Nat}{o ys:List Nat}(h:dD A P k cls rep o ys){q x b:Nat}(hq:o[q]?=some x)(hx:A.Rch x)(hb:b<256) :
  ∃ y,o[(bg k cls A.ac o ys).stp q b]?=some y/\A.Rch y/\cW A A y (A.stp x b)/\P y=y:=by
 have hl:=h.num.lt b hb;have hf:=h.num.fst _ hl;have hr:=hx.stp hf.1;refine⟨_,mJ h.bfs h.len hq hl,h.fst.rch _ hr,?_,h.fst.idem hr⟩;exact(h.fst.tel _ hr).trans ((h.sm _ b hf.1 hb).mp hf.2 x hx)
theorem dD.runs{A:Tb}{P:Nat->Nat}{k:Nat}{cls rep:Nat->Nat}{o ys:List Nat}(h:dD A P k cls rep o ys) :
  ∀ (w:List Nat) (q x:Nat),o[q]?=some x->A.Rch x->P x=x->Wd w->∃ y,o[(bg k cls A.ac o ys).run q w]?=some y/\A.Rch y/\cW A A y (A.run x w)/\P y=y
 | [],_,x,hq,hx,hp,_=>⟨x,hq,hx,cW.rfl' A x,hp⟩
 | b::w,q,x,hq,hx,_,hw=>by
  obtain⟨y,y1,y2,y3,y4⟩:=h.go hq hx (hw b (.head _));obtain⟨z,z1,z2,z3,z4⟩:=h.runs w _ y y1 y2 y4 fun v hv=>hw v (.tail _ hv)
  exact⟨z,z1,z2,z3.trans (cW.run w y3 fun v hv=>hw v (.tail _ hv)),z4⟩
theorem dD.tel{A:Tb}{P:Nat->Nat}{k:Nat}{cls rep:Nat->Nat}{o ys:List Nat}(h:dD A P k cls rep o ys){q x:Nat}(hq:o[q]?=some x)(hx:A.Rch x)(hp:P x=x):cW (bg k cls A.ac o ys) A q x:=fun w hw=>by
 obtain⟨y,y1,-,y3,-⟩:=h.runs w q x hq hx hp hw;rw[<-y3.ac];show(o[_]?.map A.ac).getD false=_;rw[y1];rfl
theorem dD.start{A:Tb}{P:Nat->Nat}{k:Nat}{cls rep:Nat->Nat}{o ys:List Nat}(h:dD A P k cls rep o ys):cW (bg k cls A.ac o ys) A 0 0:=
 (h.tel h.bfs.z (h.fst.rch 0 (Tb.Rch.zero A)) (h.fst.idem (Tb.Rch.zero A))).trans (h.fst.tel 0 (Tb.Rch.zero A))
theorem dD.at{A:Tb}{P:Nat->Nat}{k:Nat}{cls rep:Nat->Nat}{o ys:List Nat}(h:dD A P k cls rep o ys){q:Nat}(hq:q<o.length):∃ x,o[q]?=some x/\A.Rch x/\P x=x:=by
 obtain⟨w,hw,hr⟩:=h.pre.stAll q hq;obtain⟨y,y1,y2,-,y4⟩:=h.runs w 0 (P 0) h.bfs.z (h.fst.rch 0 (Tb.Rch.zero A)) (h.fst.idem (Tb.Rch.zero A)) hw;rw[hr]at y1;exact⟨y,y1,y2,y4⟩
theorem dD.canon{A:Tb}{P:Nat->Nat}{k:Nat}{cls rep:Nat->Nat}{o ys:List Nat}(h:dD A P k cls rep o ys):bE (bg k cls A.ac o ys) where
 wf:=h.pre.wf
 clUp:=h.pre.clUp
 clAll:=h.pre.clAll
 stUp:=h.pre.stUp
 stAll:=h.pre.stAll
 stMin:=fun i j hi hj ht=>by
  obtain⟨x,x1,x2,x3⟩:=h.at hi;obtain⟨y,y1,y2,y3⟩:=h.at hj;have:=h.fst.one x y x2 y2 ((h.tel x1 x2 x3).symm.trans (ht.trans (h.tel y1 y2 y3)));rw[x3,y3]at this;exact h.bfs.nd i j hi hj (by rw[x1,y1,this])
 clMin:=fun e e' he he' ht=>by
  have f1:=h.num.fst e he;have f2:=h.num.fst e' he';have:Gc A (rep e) (rep e'):=by
   intro q hq;obtain⟨w,hw,rfl⟩:=hq;obtain⟨y,y1,y2,y3,y4⟩:=h.runs w 0 (P 0) h.bfs.z (h.fst.rch 0 (Tb.Rch.zero A)) (h.fst.idem (Tb.Rch.zero A)) hw;have yq:cW A A y (A.run 0 w):=y3.trans (cW.run w (h.fst.tel 0 (Tb.Rch.zero A)) hw);have n1:=mJ (cl:=cls) (ac:=A.ac) h.bfs h.len y1 he;have n2:=mJ (cl:=cls) (ac:=A.ac) h.bfs h.len y1 he';rw[ht _ (cU y1),n2]at n1;have n3:P (A.stp y (rep e'))=P (A.stp y (rep e)):=Option.some.inj n1;have t1:=h.fst.tel _ (y2.stp f1.1);have t2:=h.fst.tel _ (y2.stp f2.1);rw[<-n3]at t1;exact(yq.stp f1.1).symm.trans (t1.symm.trans (t2.trans (yq.stp f2.1)))
  have:=(h.sm _ _ f1.1 f2.1).mpr this;rw[f1.2,f2.2]at this;exact this
def tb(xs ys:List Int)(zs:List Bool)(nc:Int):Tb:=⟨zs.length,nc.toNat,fun b=>(xs[b]?.getD 0).toNat,fun q c=>(ys[q*nc.toNat+c]?.getD 0).toNat,fun q=>zs[q]?.getD false⟩
theorem vo{xs:List Int}:∀ b:Nat,(∀ j:Nat,j<b->0<=xs[j]?.getD 0/\xs[j]?.getD 0<=top xs j+1)->∀ c:Int,0<=c->c<=top xs b->∃ b',b'<b/\xs[b']?.getD 0=c:=by
 intro b
 induction b with
 | zero=>intro _ c h0 h1;simp only[top]at h1;omega
 | succ b ih =>
  intro h c h0 h1;have h2:=h b (by omega)
  by_cases he:xs[b]?.getD 0=c
  ·exact⟨b,by omega,he⟩
  have hc:c<=top xs b:=by
   simp only[top]at h1
   split at h1<;>omega
  obtain⟨b',k1,k2⟩:=ih (fun j hj=>h j (by omega)) c h0 hc;exact⟨b',by omega,k2⟩
theorem fH.wf{xs ys:List Int}{zs:List Bool}{nc:Int}(h:fH xs ys zs nc):(tb xs ys zs nc).Wf where
 pos:=by have:=h.st.1;simp only[tb];omega
 cls:=fun b hb=>by have:=h.cls hb;have:=h.hn;simp only[tb];omega
 nxt:=fun q c hq hc=>by
  simp only[tb]at hq hc ⊢;have hl:ys.length=zs.length*nc.toNat:=by
   have h1:=h.nx;have h2:nc=(nc.toNat:Int):=by have:=h.hn;omega
   rw[h2]at h1
   exact_mod_cast h1
  have:=h.to (q*nc.toNat+c) (by rw[hl];exact gk hq hc);omega
theorem fH.len{xs ys:List Int}{zs:List Bool}{nc:Int}(h:fH xs ys zs nc):ys.length=zs.length*nc.toNat:=by
 have h1:=h.nx;have h2:nc=(nc.toNat:Int):=by have:=h.hn;omega
 rw[h2]at h1
 exact_mod_cast h1
theorem fH.clUp{xs ys:List Int}{zs:List Bool}{nc:Int}(h:fH xs ys zs nc):∀ b,b<256->∀ c,c<(tb xs ys zs nc).cl b->∃ b',b'<b/\(tb xs ys zs nc).cl b'=c:=by
 intro b hb c hc;simp only[tb]at hc ⊢;have h1:=h.up b hb;obtain⟨b',k1,k2⟩:=vo b (fun j hj=>h.up j (by omega)) c (by omega) (by omega);exact⟨b',k1,by rw[k2];omega⟩
theorem fH.full{xs ys:List Int}{zs:List Bool}{nc:Int}(h:fH xs ys zs nc):(tb xs ys zs nc).Full:=by
 intro c hc;simp only[tb]at hc ⊢;have h1:=h.tp;obtain⟨b',k1,k2⟩:=vo 256 h.up c (by omega) (by omega);exact⟨b',k1,by rw[k2];omega⟩
structure bP (A:Tb) (o ys:List Nat) (m:Nat) (num F:Nat->Nat) (k:Nat) (mg G:Nat->Nat):Prop where
 wf:A.Wf
 up:∀ b,b<256->∀ c,c<A.cl b->∃ b',b'<b/\A.cl b'=c
 full:A.Full
 bfs:eM A.k A.nx 0 o ys
 len:ys.length=o.length*A.k
 num1:fO o.length m num F
 tel:∀ p q,p<o.length->q<o.length->(num p=num q↔cW (bg A.k A.cl A.ac o ys) (bg A.k A.cl A.ac o ys) p q)
 num2:fO A.k k mg G
 sm:∀ c c',c<A.k->c'<A.k->(mg c=mg c'↔∀ q,q<m->(jc (bg A.k A.cl A.ac o ys) m num F).nx q c=(jc (bg A.k A.cl A.ac o ys) m num F).nx q c')
theorem BZ{A:Tb}{o ys:List Nat}(hw:A.Wf)(h:eM A.k A.nx 0 o ys)(hl:ys.length=o.length*A.k):cW (bg A.k A.cl A.ac o ys) A 0 0:=fun w hwd=>by
 have:=qp h hl (cl:=A.cl) (ac:=A.ac) hw.cls w 0 0 h.z hwd;show(o[_]?.map A.ac).getD false=_;rw[this];rfl
def bP.out(A:Tb)(o ys:List Nat)(m:Nat)(num F:Nat->Nat)(k:Nat)(mg G:Nat->Nat):Tb:=zB (jc (bg A.k A.cl A.ac o ys) m num F) k mg G
theorem bP.canon{A:Tb}{o ys:List Nat}{m:Nat}{num F:Nat->Nat}{k:Nat}{mg G:Nat->Nat}(h:bP A o ys m num F k mg G):bE (bP.out A o ys m num F k mg G):=
 tM (nK (iX h.bfs h.len h.wf.cls h.up h.full) h.num1 h.tel) (zO (iX h.bfs h.len h.wf.cls h.up h.full) h.num1 h.tel) h.num2 h.sm
theorem bP.start{A:Tb}{o ys:List Nat}{m:Nat}{num F:Nat->Nat}{k:Nat}{mg G:Nat->Nat}(h:bP A o ys m num F k mg G):cW (bP.out A o ys m num F k mg G) A 0 0:=by
 have hp:=iX (ac:=A.ac) h.bfs h.len h.wf.cls h.up h.full;have hz:=(h.num1.zero h.bfs.pos);have t1:=nm (nK hp h.num1 h.tel) h.num2 h.sm (s:=0) hz.2.2;have t2:=mV hp h.num1 h.tel (s:=0) h.bfs.pos;rw[hz.1]at t2;exact t1.trans (t2.trans (BZ h.wf h.bfs h.len))
def gW(A:Tb):List Int:=(List.range 256).map fun b=>(A.cl b:Int)
def gT(A:Tb):List Int:=(List.range (A.n*A.k)).map fun t=>(A.nx (t / A.k) (t%A.k):Int)
def iO(A:Tb):List Bool:=(List.range A.n).map A.ac
theorem iy{A B:Tb}(hA:bE A)(hB:bE B)(h0:cW A B 0 0):gW A=gW B/\A.k=B.k/\gT A=gT B/\iO A=iO B:=by
 obtain⟨h1,h2,h3,h4,h5⟩:=vI hA hB h0;refine⟨?_,h2,?_,?_⟩
 ·refine List.map_congr_left fun b hb=>?_
  rw[h3 b (List.mem_range.mp hb)]
 ·simp only[gT,<-h1,<-h2];refine List.map_congr_left fun t ht=>?_
  have ht:=List.mem_range.mp ht;have hk:0<A.k:=by
   apply Nat.pos_of_ne_zero
   intro he;rw[he]at ht;simp at ht
  rw[h4 (t / A.k) (t%A.k) ((Nat.div_lt_iff_lt_mul hk).mpr ht) (Nat.mod_lt _ hk)]
 simp only[iO,<-h1];exact List.map_congr_left fun q hq=>h5 q (List.mem_range.mp hq)
end Go.Proofs.YtidfkbghlkcbeaaGreatDoor
