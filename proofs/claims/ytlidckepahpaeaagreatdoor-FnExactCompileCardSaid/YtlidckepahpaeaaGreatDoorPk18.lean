import Derived.Test.YtlidckepahpaeaaGreatDoorPk12
namespace Go.Proofs.YtlidckepahpaeaaGreatDoor
theorem tel_of_cong {A:Tb} (hw:A.Wf) {bl:Nat→Nat} (h1:∀ p q,p<A.n→q<A.n→bl p=bl q→A.ac p=A.ac q) (h2:∀ p q,p<A.n→q<A.n→bl p=bl q→∀ c,c<A.k→bl (A.nx p c)=bl (A.nx q c)) :
  ∀ p q,p<A.n→q<A.n→bl p=bl q→Tel A A p q:=by
 intro p q hp hq he w
 induction w generalizing p q with
 | nil => intro _; exact h1 p q hp hq he
 | cons b w ih =>
  intro hwd
  have hb:=hwd b (.head _)
  exact ih _ _ (hw.stp hp hb) (hw.stp hq hb) (h2 p q hp hq he _ (hw.cls b hb)) fun x hx => hwd x (.tail _ hx)
def Tb.Full (A:Tb):Prop:=∀ c,c<A.k→∃ b,b<256∧A.cl b=c
theorem Tel.nx {A:Tb} (hf:A.Full) {p q c:Nat} (h:Tel A A p q) (hc:c<A.k):Tel A A (A.nx p c) (A.nx q c):=by
 obtain ⟨b,hb,rfl⟩ := hf c hc
 exact h.stp hb
structure CutH (n:Nat) (S:Nat→Prop) (bl bl':Nat→Nat) (W W':Nat→Prop):Prop where
 same:∀ p q,p<n→q<n→(bl' p=bl' q↔bl p=bl q∧(S p↔S q))
 keep:∀ p,p<n→W (bl p)→W' (bl' p)
 new:∀ p q,p<n→q<n→bl p=bl q→bl' p ≠ bl' q→W' (bl' p)∨W' (bl' q)
structure Hop (A:Tb) (bl:Nat→Nat) (W T:Nat→Prop) (c:Nat):Prop where
 ac:∀ p q,p<A.n→q<A.n→bl p=bl q→A.ac p=A.ac q
 tel:∀ p q,p<A.n→q<A.n→Tel A A p q→bl p=bl q
 tT:∀ p q,p<A.n→q<A.n→Tel A A p q→(T p↔T q)
 pend:∀ p q,p<A.n→q<A.n→bl p=bl q→∀ c',c'<A.k→bl (A.nx p c') ≠ bl (A.nx q c') →
  W (bl (A.nx p c'))∨W (bl (A.nx q c'))∨(c≤c'∧¬ (T (A.nx p c')↔T (A.nx q c')))
theorem Hop.start {A:Tb} {bl':Nat→Nat} {W':Nat→Prop} (h:CutH A.n (fun q => A.ac q=true) (fun _ => 0) bl' (fun _ => False) W') (hw:A.Wf):Hop A bl' W' (fun _ => False) A.k where
 ac:=fun p q hp hq he => by
  have:=((h.same p q hp hq).mp he).2
  cases h1:A.ac p <;> cases h2:A.ac q <;> simp_all
 tel:=fun p q hp hq he => (h.same p q hp hq).mpr ⟨rfl,by rw [he.ac]⟩
 tT:=fun _ _ _ _ _ => Iff.rfl
 pend:=fun p q hp hq _ c' hc' hne => by
  rcases h.new _ _ (hw.nxt p c' hp hc') (hw.nxt q c' hq hc') rfl hne with h | h
  ·exact .inl h
  ·exact .inr (.inl h)
theorem Hop.cut {A:Tb} {bl bl':Nat→Nat} {W W' T:Nat→Prop} {c:Nat} (h:Hop A bl W T c) (hw:A.Wf) (hf:A.Full) (hc:c<A.k) (g:CutH A.n (fun p => T (A.nx p c)) bl bl' W W'):Hop A bl' W' T (c+1) where
 ac:=fun p q hp hq he => h.ac p q hp hq ((g.same p q hp hq).mp he).1
 tel:=fun p q hp hq he => (g.same p q hp hq).mpr ⟨h.tel p q hp hq he,h.tT _ _ (hw.nxt p c hp hc) (hw.nxt q c hq hc) (he.nx hf hc)⟩
 tT:=h.tT
 pend:=fun p q hp hq he c' hc' hne => by
  obtain ⟨e1,e2⟩ := (g.same p q hp hq).mp he
  have np:=hw.nxt p c' hp hc'
  have nq:=hw.nxt q c' hq hc'
  by_cases hs:bl (A.nx p c')=bl (A.nx q c')
  ·rcases g.new _ _ np nq hs hne with k | k
   ·exact .inl k
   ·exact .inr (.inl k)
  ·rcases h.pend p q hp hq e1 c' hc' hs with k | k | ⟨k1,k2⟩
   ·exact .inl (g.keep _ np k)
   ·exact .inr (.inl (g.keep _ nq k))
   ·refine .inr (.inr ⟨?_,k2⟩)
    apply Classical.byContradiction
    intro hlt
    have:c'=c:=by omega
    subst this
    exact k2 e2
theorem Hop.pop {A:Tb} {bl:Nat→Nat} {W W1 T:Nat→Prop} {N:Nat} (h:Hop A bl W T A.k) (hN:∀ x,W x→x=N∨W1 x):Hop A bl W1 (fun q => bl q=N) 0 where
 ac:=h.ac
 tel:=h.tel
 tT:=fun p q hp hq he => by rw [h.tel p q hp hq he]
 pend:=fun p q hp hq he c' hc' hne => by
  rcases h.pend p q hp hq he c' hc' hne with k | k | ⟨k1,-⟩
  ·rcases hN _ k with k | k
   ·exact .inr (.inr ⟨Nat.zero_le _,fun hi => hne (k.trans (hi.mp k).symm)⟩)
   ·exact .inl k
  ·rcases hN _ k with k | k
   ·exact .inr (.inr ⟨Nat.zero_le _,fun hi => hne ((hi.mpr k).trans k.symm)⟩)
   ·exact .inr (.inl k)
  ·omega
theorem Hop.fin {A:Tb} {bl:Nat→Nat} {W T:Nat→Prop} (h:Hop A bl W T A.k) (hw:A.Wf) (hW:∀ x,¬ W x):∀ p q,p<A.n→q<A.n→(bl p=bl q↔Tel A A p q):=fun p q hp hq =>
 ⟨tel_of_cong hw h.ac (fun p q hp hq he c hc => by
  apply Classical.byContradiction
  intro hne
  rcases h.pend p q hp hq he c hc hne with k | k | ⟨k,-⟩
  ·exact hW _ k
  ·exact hW _ k
  ·omega) p q hp hq,h.tel p q hp hq⟩
structure Num1 (n m:Nat) (num F:Nat→Nat):Prop where
 lt:∀ s,s<n→num s<m
 fst:∀ j,j<m→F j<n∧num (F j)=j
 le:∀ s,s<n→F (num s)≤s
 up:∀ i j,i<j→j<m→F i<F j
theorem Num1.zero {n m:Nat} {num F:Nat→Nat} (h:Num1 n m num F) (hn:0<n):num 0=0∧F 0=0∧0<m:=by
 have h1:=h.lt 0 hn
 have h2:=h.le 0 hn
 have h3:num 0=0:=by
  apply Classical.byContradiction
  intro hne
  have:=h.up 0 (num 0) (by omega) h1
  omega
 rw [h3] at h2 h1
 exact ⟨h3,by omega,h1⟩
structure Pre (A:Tb):Prop where
 wf:A.Wf
 clUp:∀ b,b<256→∀ c,c<A.cl b→∃ b',b'<b∧A.cl b'=c
 clAll:A.Full
 stUp:∀ q c,q<A.n→c<A.k→∀ s,s<A.nx q c→s=0∨∃ q' c',c'<A.k∧(q'<q∨(q'=q∧c'<c))∧A.nx q' c'=s
 stAll:∀ q,q<A.n→∃ w,Wd w∧A.run 0 w=q
def mrgS (A:Tb) (m:Nat) (num F:Nat→Nat):Tb:=⟨m,A.k,A.cl,fun j c => num (A.nx (F j) c),fun j => A.ac (F j)⟩
theorem mrgS_nx {A:Tb} {m:Nat} {num F:Nat→Nat} (hA:Pre A) (hN:Num1 A.n m num F) (hT:∀ p q,p<A.n→q<A.n→(num p=num q↔Tel A A p q)) {s c:Nat} (hs:s<A.n) (hc:c<A.k) :
  (mrgS A m num F).nx (num s) c=num (A.nx s c):=by
 have hf:=hN.fst (num s) (hN.lt s hs)
 exact (hT _ _ (hA.wf.nxt _ c hf.1 hc) (hA.wf.nxt s c hs hc)).mpr (((hT _ _ hf.1 hs).mp hf.2).nx hA.clAll hc)
theorem mrgS_run {A:Tb} {m:Nat} {num F:Nat→Nat} (hA:Pre A) (hN:Num1 A.n m num F) (hT:∀ p q,p<A.n→q<A.n→(num p=num q↔Tel A A p q)) :
  ∀ (w:List Nat) (s:Nat),s<A.n→Wd w→(mrgS A m num F).run (num s) w=num (A.run s w)
 | [],_,_,_ => rfl
 | b :: w,s,hs,hw => by
  have hb:=hw b (.head _)
  rw [Tb.run_cons,Tb.run_cons]
  have:(mrgS A m num F).stp (num s) b=num (A.stp s b):=mrgS_nx hA hN hT hs (hA.wf.cls b hb)
  rw [this]
  exact mrgS_run hA hN hT w _ (hA.wf.stp hs hb) fun x hx => hw x (.tail _ hx)
theorem mrgS_tel {A:Tb} {m:Nat} {num F:Nat→Nat} (hA:Pre A) (hN:Num1 A.n m num F) (hT:∀ p q,p<A.n→q<A.n→(num p=num q↔Tel A A p q)) {s:Nat} (hs:s<A.n):Tel (mrgS A m num F) A (num s) s:=fun w hw => by
 rw [mrgS_run hA hN hT w s hs hw]
 have hr:=hA.wf.run w s hs hw
 have hf:=hN.fst _ (hN.lt _ hr)
 exact ((hT _ _ hf.1 hr).mp hf.2).ac
theorem mrgS_pre {A:Tb} {m:Nat} {num F:Nat→Nat} (hA:Pre A) (hN:Num1 A.n m num F) (hT:∀ p q,p<A.n→q<A.n→(num p=num q↔Tel A A p q)):Pre (mrgS A m num F) where
 wf:=⟨(hN.zero hA.wf.pos).2.2,hA.wf.cls,fun j c hj hc => hN.lt _ (hA.wf.nxt _ c (hN.fst j hj).1 hc)⟩
 clUp:=hA.clUp
 clAll:=hA.clAll
 stUp:=fun j c hj hc s hs => by
  have hfj:=hN.fst j hj
  have ht:=hA.wf.nxt _ c hfj.1 hc
  have hsm:s<m:=Nat.lt_trans hs (hN.lt _ ht)
  have hfs:=hN.fst s hsm
  have h1:=hN.up s _ hs (hN.lt _ ht)
  have h2:=hN.le _ ht
  rcases hA.stUp (F j) c hfj.1 hc (F s) (Nat.lt_of_lt_of_le h1 h2) with h0 | ⟨q',c',k1,k2,k3⟩
  ·left
   have:=hfs.2
   rw [h0,(hN.zero hA.wf.pos).1] at this
   exact this.symm
  ·right
   have hq':q'<A.n:=by omega
   have hle:=hN.le q' hq'
   have hl:=hN.lt q' hq'
   refine ⟨num q',c',k1,?_,?_⟩
   ·rcases Nat.lt_trichotomy (num q') j with h | h | h
    ·exact .inl h
    ·rw [h] at hle
     exact .inr ⟨h,by omega⟩
    ·have:=hN.up j _ h hl
     omega
   ·rw [mrgS_nx hA hN hT hq' k1,k3]
    exact hfs.2
 stAll:=fun j hj => by
  have hfj:=hN.fst j hj
  obtain ⟨w,hw,hr⟩ := hA.stAll _ hfj.1
  refine ⟨w,hw,?_⟩
  have:=mrgS_run hA hN hT w 0 hA.wf.pos hw
  rw [(hN.zero hA.wf.pos).1,hr,hfj.2] at this
  exact this
theorem mrgS_min {A:Tb} {m:Nat} {num F:Nat→Nat} (hA:Pre A) (hN:Num1 A.n m num F) (hT:∀ p q,p<A.n→q<A.n→(num p=num q↔Tel A A p q)):∀ i j,i<m→j<m→Tel (mrgS A m num F) (mrgS A m num F) i j→i=j:=by
 intro i j hi hj h
 have fi:=hN.fst i hi
 have fj:=hN.fst j hj
 have ti:=mrgS_tel hA hN hT fi.1
 have tj:=mrgS_tel hA hN hT fj.1
 rw [fi.2] at ti
 rw [fj.2] at tj
 have:=(hT _ _ fi.1 fj.1).mpr (ti.symm.trans (h.trans tj))
 rw [fi.2,fj.2] at this
 exact this
def mrgC (A:Tb) (k:Nat) (mg G:Nat→Nat):Tb:=⟨A.n,k,fun b => mg (A.cl b),fun q e => A.nx q (G e),A.ac⟩
theorem mrgC_run {A:Tb} {k:Nat} {mg G:Nat→Nat} (hA:Pre A) (hN:Num1 A.k k mg G) (hT:∀ c c',c<A.k→c'<A.k→(mg c=mg c'↔∀ q,q<A.n→A.nx q c=A.nx q c')) :
  ∀ (w:List Nat) (s:Nat),s<A.n→Wd w→(mrgC A k mg G).run s w=A.run s w
 | [],_,_,_ => rfl
 | b :: w,s,hs,hw => by
  have hb:=hw b (.head _)
  have hc:=hA.wf.cls b hb
  have hf:=hN.fst _ (hN.lt _ hc)
  have:(mrgC A k mg G).stp s b=A.stp s b:=(hT _ _ hf.1 hc).mp hf.2 s hs
  rw [Tb.run_cons,Tb.run_cons,this]
  exact mrgC_run hA hN hT w _ (hA.wf.stp hs hb) fun x hx => hw x (.tail _ hx)
theorem mrgC_tel {A:Tb} {k:Nat} {mg G:Nat→Nat} (hA:Pre A) (hN:Num1 A.k k mg G) (hT:∀ c c',c<A.k→c'<A.k→(mg c=mg c'↔∀ q,q<A.n→A.nx q c=A.nx q c')) {s:Nat} (hs:s<A.n):Tel (mrgC A k mg G) A s s:=fun w hw => by
 rw [mrgC_run hA hN hT w s hs hw]; rfl
theorem mrgC_canon {A:Tb} {k:Nat} {mg G:Nat→Nat} (hA:Pre A) (hM:∀ p q,p<A.n→q<A.n→Tel A A p q→p=q) (hN:Num1 A.k k mg G) (hT:∀ c c',c<A.k→c'<A.k→(mg c=mg c'↔∀ q,q<A.n→A.nx q c=A.nx q c')):Canon2 (mrgC A k mg G) where
 wf:=⟨hA.wf.pos,fun b hb => hN.lt _ (hA.wf.cls b hb),fun q c hq hc => hA.wf.nxt q _ hq (hN.fst c hc).1⟩
 clUp:=fun b hb e he => by
  have hc:=hA.wf.cls b hb
  have hl:=hN.lt _ hc
  have h1:=hN.up e _ he hl
  obtain ⟨b',k1,k2⟩ := hA.clUp b hb (G e) (Nat.lt_of_lt_of_le h1 (hN.le _ hc))
  exact ⟨b',k1,by show mg (A.cl b')=e; rw [k2]; exact (hN.fst e (Nat.lt_trans he hl)).2⟩
 clAll:=fun e he => by
  obtain ⟨h1,h2⟩ := hN.fst e he
  obtain ⟨b,hb,k⟩ := hA.clAll _ h1
  exact ⟨b,hb,by show mg (A.cl b)=e; rw [k,h2]⟩
 stUp:=fun q e hq he s hs => by
  obtain ⟨h1,h2⟩ := hN.fst e he
  rcases hA.stUp q (G e) hq h1 s hs with h0 | ⟨q',c',k1,k2,k3⟩
  ·exact .inl h0
  ·have hqA:q<A.n:=hq
   have hl:=hN.lt c' k1
   have hle:=hN.le c' k1
   have hf:=hN.fst _ hl
   refine .inr ⟨q',mg c',hl,?_,?_⟩
   ·rcases k2 with k2 | ⟨k2,k4⟩
    ·exact .inl k2
    ·refine .inr ⟨k2,?_⟩
     rcases Nat.lt_trichotomy (mg c') e with h | h | h
     ·exact h
     ·rw [h] at hle; omega
     ·have:=hN.up e _ h hl
      omega
   ·show A.nx q' (G (mg c'))=s
    rw [(hT _ _ hf.1 k1).mp hf.2 q' (by omega),k3]
 stAll:=fun q hq => by
  obtain ⟨w,hw,hr⟩ := hA.stAll q hq
  exact ⟨w,hw,by rw [mrgC_run hA hN hT w 0 hA.wf.pos hw,hr]⟩
 stMin:=fun p q hp hq h => hM p q hp hq ((mrgC_tel hA hN hT hp).symm.trans (h.trans (mrgC_tel hA hN hT hq)))
 clMin:=fun e e' he he' h => by
  have f1:=hN.fst e he
  have f2:=hN.fst e' he'
  have:=(hT _ _ f1.1 f2.1).mpr h
  rw [f1.2,f2.2] at this
  exact this
structure Bfs {α:Type} (k:Nat) (f:α→Nat→α) (s0:α) (o:List α) (ys:List Nat):Prop where
 nd:∀ i j:Nat,i<o.length→j<o.length→o[i]? = o[j]?→i=j
 z:o[0]? = some s0
 nx:∀ t,t<ys.length→∃ x,o[t / k]? = some x∧o[ys[t]?.getD 0]? = some (f x (t % k))
 up:∀ t,t<ys.length→∀ s,s<ys[t]?.getD 0→s=0∨∃ t',t'<t∧ys[t']?.getD 0=s
 all:∀ s,s<o.length→s=0∨∃ t,t<ys.length∧ys[t]?.getD 0=s∧t / k<s
theorem Bfs.start {α:Type} (k:Nat) (f:α→Nat→α) (s0:α):Bfs k f s0 [s0] [] where
 nd:=fun i j hi hj _ => by simp at hi hj; omega
 z:=rfl
 nx:=fun t ht => by simp at ht
 up:=fun t ht => by simp at ht
 all:=fun s hs => by simp at hs; omega
theorem Bfs.pos {α:Type} {k:Nat} {f:α→Nat→α} {s0:α} {o:List α} {ys:List Nat} (h:Bfs k f s0 o ys):0<o.length:=by
 have:=h.z
 cases o with
 | nil => simp at this
 | cons => simp
theorem get_lt {α:Type} {o:List α} {i:Nat} {x:α} (h:o[i]? = some x):i<o.length:=(List.getElem?_eq_some_iff.mp h).1
theorem snoc_lt {ys:List Nat} {j t:Nat} (ht:t<ys.length):(ys ++ [j])[t]?.getD 0=ys[t]?.getD 0:=by rw [List.getElem?_append_left ht]
theorem snoc_at {ys:List Nat} {j:Nat}:(ys ++ [j])[ys.length]?.getD 0=j:=by simp
theorem Bfs.old {α:Type} {k:Nat} {f:α→Nat→α} {s0 x:α} {o:List α} {ys:List Nat} {j:Nat} (h:Bfs k f s0 o ys) (hx:o[ys.length / k]? = some x) (hj:o[j]? = some (f x (ys.length % k))):Bfs k f s0 o (ys ++ [j]) where
 nd:=h.nd
 z:=h.z
 nx:=fun t ht => by
  simp only [List.length_append,List.length_singleton] at ht
  by_cases he:t=ys.length
  ·subst he; exact ⟨x,hx,by rw [snoc_at]; exact hj⟩
  ·rw [snoc_lt (by omega)]; exact h.nx t (by omega)
 up:=fun t ht s hs => by
  simp only [List.length_append,List.length_singleton] at ht
  by_cases he:t=ys.length
  ·subst he
   rw [snoc_at] at hs
   rcases h.all s (by have:=get_lt hj; omega) with h0 | ⟨t',k1,k2,-⟩
   ·exact .inl h0
   ·exact .inr ⟨t',k1,by rw [snoc_lt k1]; exact k2⟩
  ·rw [snoc_lt (by omega)] at hs
   rcases h.up t (by omega) s hs with h0 | ⟨t',k1,k2⟩
   ·exact .inl h0
   ·exact .inr ⟨t',k1,by rw [snoc_lt (by omega)]; exact k2⟩
 all:=fun s hs => by
  rcases h.all s hs with h0 | ⟨t',k1,k2,k3⟩
  ·exact .inl h0
  ·exact .inr ⟨t',by simp; omega,by rw [snoc_lt k1]; exact k2,k3⟩
theorem Bfs.new {α:Type} {k:Nat} {f:α→Nat→α} {s0 x:α} {o:List α} {ys:List Nat} (h:Bfs k f s0 o ys) (hx:o[ys.length / k]? = some x) (hno:∀ i:Nat,i<o.length→o[i]? ≠ some (f x (ys.length % k))) :
  Bfs k f s0 (o ++ [f x (ys.length % k)]) (ys ++ [o.length]):=by
 have hp:=h.pos
 have hold:∀ {i:Nat} {y:α},o[i]? = some y→(o ++ [f x (ys.length % k)])[i]? = some y:=fun {i y} hi => by rw [List.getElem?_append_left (get_lt hi)]; exact hi
 refine ⟨fun i j hi hj he => ?_,hold h.z,fun t ht => ?_,fun t ht s hs => ?_,fun s hs => ?_⟩
 ·simp only [List.length_append,List.length_singleton] at hi hj
  rcases Nat.lt_or_ge i o.length with h1 | h1 <;> rcases Nat.lt_or_ge j o.length with h2 | h2
  ·rw [List.getElem?_append_left h1,List.getElem?_append_left h2] at he; exact h.nd i j h1 h2 he
  ·have:j=o.length:=by omega
   subst this
   rw [List.getElem?_append_left h1] at he
   simp at he
   exact absurd he (hno i h1)
  ·have:i=o.length:=by omega
   subst this
   rw [List.getElem?_append_left h2] at he
   simp at he
   exact absurd he.symm (hno j h2)
  ·omega
 ·simp only [List.length_append,List.length_singleton] at ht
  by_cases he:t=ys.length
  ·subst he; exact ⟨x,hold hx,by rw [snoc_at]; simp⟩
  ·rw [snoc_lt (by omega)]
   obtain ⟨y,h1,h2⟩ := h.nx t (by omega)
   exact ⟨y,hold h1,hold h2⟩
 ·simp only [List.length_append,List.length_singleton] at ht
  by_cases he:t=ys.length
  ·subst he
   rw [snoc_at] at hs
   rcases h.all s hs with h0 | ⟨t',k1,k2,-⟩
   ·exact .inl h0
   ·exact .inr ⟨t',k1,by rw [snoc_lt k1]; exact k2⟩
  ·rw [snoc_lt (by omega)] at hs
   rcases h.up t (by omega) s hs with h0 | ⟨t',k1,k2⟩
   ·exact .inl h0
   ·exact .inr ⟨t',k1,by rw [snoc_lt (by omega)]; exact k2⟩
 ·simp only [List.length_append,List.length_singleton] at hs
  by_cases he:s=o.length
  ·subst he
   exact .inr ⟨ys.length,by simp,snoc_at,get_lt hx⟩
  ·rcases h.all s (by omega) with h0 | ⟨t',k1,k2,k3⟩
   ·exact .inl h0
   ·exact .inr ⟨t',by simp; omega,by rw [snoc_lt k1]; exact k2,k3⟩
def bfsT {α:Type} (k:Nat) (cl:Nat→Nat) (ac:α→Bool) (o:List α) (ys:List Nat):Tb:=⟨o.length,k,cl,fun q c => ys[q * k+c]?.getD 0,fun q => (o[q]?.map ac).getD false⟩
theorem row_at {q c k:Nat} (hc:c<k):(q * k+c) / k=q∧(q * k+c) % k=c:=by
 have hk:0<k:=by omega
 constructor
 ·rw [Nat.mul_comm,Nat.mul_add_div hk,Nat.div_eq_of_lt hc,Nat.add_zero]
 ·rw [Nat.mul_comm,Nat.mul_add_mod,Nat.mod_eq_of_lt hc]
theorem row_in {q c k n:Nat} (hq:q<n) (hc:c<k):q * k+c<n * k:=by
 have:(q+1) * k≤n * k:=Nat.mul_le_mul_right _ hq
 rw [Nat.add_mul,Nat.one_mul] at this
 omega
theorem bfs_nx {α:Type} {k:Nat} {f:α→Nat→α} {s0:α} {o:List α} {ys:List Nat} (h:Bfs k f s0 o ys) (hl:ys.length=o.length * k) {cl:Nat→Nat} {ac:α→Bool} {q c:Nat} {x:α} (hq:o[q]? = some x) (hc:c<k) :
  o[(bfsT k cl ac o ys).nx q c]? = some (f x c):=by
 obtain ⟨y,h1,h2⟩ := h.nx (q * k+c) (by rw [hl]; exact row_in (get_lt hq) hc)
 rw [(row_at hc).1,hq] at h1
 cases h1
 rw [(row_at hc).2] at h2
 exact h2
theorem bfs_run {α:Type} {k:Nat} {f:α→Nat→α} {s0:α} {o:List α} {ys:List Nat} (h:Bfs k f s0 o ys) (hl:ys.length=o.length * k) {cl:Nat→Nat} {ac:α→Bool} (hcl:∀ b,b<256→cl b<k) :
  ∀ (w:List Nat) (q:Nat) (x:α),o[q]? = some x→Wd w→o[(bfsT k cl ac o ys).run q w]? = some (w.foldl (fun y b => f y (cl b)) x)
 | [],_,_,hq,_ => hq
 | b :: w,_,_,hq,hw => bfs_run h hl hcl w _ _ (bfs_nx h hl hq (hcl b (hw b (.head _)))) fun y hy => hw y (.tail _ hy)
theorem bfs_pre {α:Type} {k:Nat} {f:α→Nat→α} {s0:α} {o:List α} {ys:List Nat} (h:Bfs k f s0 o ys) (hl:ys.length=o.length * k) {cl:Nat→Nat} {ac:α→Bool} (hcl:∀ b,b<256→cl b<k)
  (hup:∀ b,b<256→∀ c,c<cl b→∃ b',b'<b∧cl b'=c) (hall:∀ c,c<k→∃ b,b<256∧cl b=c):Pre (bfsT k cl ac o ys):=by
 have hk:0<k:=Nat.lt_of_le_of_lt (Nat.zero_le _) (hcl 0 (by decide))
 have hwf:(bfsT k cl ac o ys).Wf:=⟨h.pos,hcl,fun q c hq hc => by
  obtain ⟨x,hx⟩ : ∃ x,o[q]? = some x:=⟨_,List.getElem?_eq_getElem hq⟩
  exact get_lt (bfs_nx h hl hx hc)⟩
 refine ⟨hwf,hup,hall,fun q c hq hc s hs => ?_,fun q => ?_⟩
 ·rcases h.up (q * k+c) (by rw [hl]; exact row_in hq hc) s hs with h0 | ⟨t,k1,k2⟩
  ·exact .inl h0
  ·refine .inr ⟨t / k,t % k,Nat.mod_lt _ hk,?_,?_⟩
   ·have e:=Nat.div_add_mod t k
    rw [Nat.mul_comm] at e
    rcases Nat.lt_trichotomy (t / k) q with g | g | g
    ·exact .inl g
    ·refine .inr ⟨g,?_⟩
     rw [g] at e
     omega
    ·have:(q+1) * k≤t / k * k:=Nat.mul_le_mul_right _ g
     rw [Nat.add_mul,Nat.one_mul] at this
     have hc':c<k:=hc
     omega
   ·show ys[t / k * k+t % k]?.getD 0=s
    rw [Nat.mul_comm,Nat.div_add_mod]
    exact k2
 ·induction q using Nat.strongRecOn with
  | _ q ih =>
   intro hq
   rcases h.all q hq with h0 | ⟨t,k1,k2,k3⟩
   ·exact ⟨[],Wd.nil,h0.symm⟩
   ·obtain ⟨w,hw,hr⟩ := ih (t / k) k3 (Nat.lt_trans k3 hq)
    obtain ⟨b,hb,hc⟩ := hall (t % k) (Nat.mod_lt _ hk)
    refine ⟨w ++ [b],hw.app (Wd.nil.cons hb),?_⟩
    rw [Tb.run_snoc,hr]
    show ys[t / k * k+cl b]?.getD 0=q
    rw [hc,Nat.mul_comm,Nat.div_add_mod]
    exact k2
def Tb.Rch (A:Tb) (q:Nat):Prop:=∃ w,Wd w∧A.run 0 w=q
theorem Tb.Rch.zero (A:Tb):A.Rch 0:=⟨[],Wd.nil,rfl⟩
theorem Tb.Rch.stp {A:Tb} {q b:Nat} (h:A.Rch q) (hb:b<256):A.Rch (A.stp q b):=by
 obtain ⟨w,hw,rfl⟩ := h
 exact ⟨w ++ [b],hw.app (Wd.nil.cons hb),A.run_snoc 0 b w⟩
theorem Tb.Rch.lt {A:Tb} {q:Nat} (h:A.Rch q) (hw:A.Wf):q<A.n:=by
 obtain ⟨w,h1,rfl⟩ := h
 exact hw.run w 0 hw.pos h1
theorem Tel.rfl' (A:Tb) (q:Nat):Tel A A q q:=fun _ _ => rfl
structure Fst (A:Tb) (P:Nat→Nat):Prop where
 rch:∀ q,A.Rch q→A.Rch (P q)
 tel:∀ q,A.Rch q→Tel A A (P q) q
 one:∀ p q,A.Rch p→A.Rch q→Tel A A p q→P p=P q
theorem Fst.idem {A:Tb} {P:Nat→Nat} (h:Fst A P) {q:Nat} (hq:A.Rch q):P (P q)=P q:=h.one _ _ (h.rch q hq) hq (h.tel q hq)
def SmB (A:Tb) (b b':Nat):Prop:=∀ q,A.Rch q→Tel A A (A.stp q b) (A.stp q b')
structure SpecT (A:Tb) (P:Nat→Nat) (k:Nat) (cls rep:Nat→Nat) (o ys:List Nat):Prop where
 wf:A.Wf
 fst:Fst A P
 num:Num1 256 k cls rep
 sm:∀ b b',b<256→b'<256→(cls b=cls b'↔SmB A b b')
 bfs:Bfs k (fun q e => P (A.stp q (rep e))) (P 0) o ys
 len:ys.length=o.length * k
theorem SpecT.pre {A:Tb} {P:Nat→Nat} {k:Nat} {cls rep:Nat→Nat} {o ys:List Nat} (h:SpecT A P k cls rep o ys):Pre (bfsT k cls A.ac o ys) :=
 bfs_pre h.bfs h.len h.num.lt (fun b hb c hc => by
  have hl:=h.num.lt b hb
  have hf:=h.num.fst c (Nat.lt_trans hc hl)
  exact ⟨rep c,Nat.lt_of_lt_of_le (h.num.up c _ hc hl) (h.num.le b hb),hf.2⟩) fun c hc => ⟨rep c,h.num.fst c hc⟩
theorem SpecT.go {A:Tb} {P:Nat→Nat} {k:Nat} {cls rep:Nat→Nat} {o ys:List Nat} (h:SpecT A P k cls rep o ys) {q x b:Nat} (hq:o[q]? = some x) (hx:A.Rch x) (hb:b<256) :
  ∃ y,o[(bfsT k cls A.ac o ys).stp q b]? = some y∧A.Rch y∧Tel A A y (A.stp x b)∧P y=y:=by
 have hl:=h.num.lt b hb
 have hf:=h.num.fst _ hl
 have hr:=hx.stp hf.1
 refine ⟨_,bfs_nx h.bfs h.len hq hl,h.fst.rch _ hr,?_,h.fst.idem hr⟩
 exact (h.fst.tel _ hr).trans ((h.sm _ b hf.1 hb).mp hf.2 x hx)
theorem SpecT.runs {A:Tb} {P:Nat→Nat} {k:Nat} {cls rep:Nat→Nat} {o ys:List Nat} (h:SpecT A P k cls rep o ys) :
  ∀ (w:List Nat) (q x:Nat),o[q]? = some x→A.Rch x→P x=x→Wd w→∃ y,o[(bfsT k cls A.ac o ys).run q w]? = some y∧A.Rch y∧Tel A A y (A.run x w)∧P y=y
 | [],_,x,hq,hx,hp,_ => ⟨x,hq,hx,Tel.rfl' A x,hp⟩
 | b :: w,q,x,hq,hx,_,hw => by
  obtain ⟨y,y1,y2,y3,y4⟩ := h.go hq hx (hw b (.head _))
  obtain ⟨z,z1,z2,z3,z4⟩ := h.runs w _ y y1 y2 y4 fun v hv => hw v (.tail _ hv)
  exact ⟨z,z1,z2,z3.trans (Tel.run w y3 fun v hv => hw v (.tail _ hv)),z4⟩
theorem SpecT.tel {A:Tb} {P:Nat→Nat} {k:Nat} {cls rep:Nat→Nat} {o ys:List Nat} (h:SpecT A P k cls rep o ys) {q x:Nat} (hq:o[q]? = some x) (hx:A.Rch x) (hp:P x=x):Tel (bfsT k cls A.ac o ys) A q x:=fun w hw => by
 obtain ⟨y,y1,-,y3,-⟩ := h.runs w q x hq hx hp hw
 rw [← y3.ac]
 show (o[_]?.map A.ac).getD false=_
 rw [y1]; rfl
theorem SpecT.start {A:Tb} {P:Nat→Nat} {k:Nat} {cls rep:Nat→Nat} {o ys:List Nat} (h:SpecT A P k cls rep o ys):Tel (bfsT k cls A.ac o ys) A 0 0 :=
 (h.tel h.bfs.z (h.fst.rch 0 (Tb.Rch.zero A)) (h.fst.idem (Tb.Rch.zero A))).trans (h.fst.tel 0 (Tb.Rch.zero A))
theorem SpecT.at {A:Tb} {P:Nat→Nat} {k:Nat} {cls rep:Nat→Nat} {o ys:List Nat} (h:SpecT A P k cls rep o ys) {q:Nat} (hq:q<o.length):∃ x,o[q]? = some x∧A.Rch x∧P x=x:=by
 obtain ⟨w,hw,hr⟩ := h.pre.stAll q hq
 obtain ⟨y,y1,y2,-,y4⟩ := h.runs w 0 (P 0) h.bfs.z (h.fst.rch 0 (Tb.Rch.zero A)) (h.fst.idem (Tb.Rch.zero A)) hw
 rw [hr] at y1
 exact ⟨y,y1,y2,y4⟩
theorem SpecT.canon {A:Tb} {P:Nat→Nat} {k:Nat} {cls rep:Nat→Nat} {o ys:List Nat} (h:SpecT A P k cls rep o ys):Canon2 (bfsT k cls A.ac o ys) where
 wf:=h.pre.wf
 clUp:=h.pre.clUp
 clAll:=h.pre.clAll
 stUp:=h.pre.stUp
 stAll:=h.pre.stAll
 stMin:=fun i j hi hj ht => by
  obtain ⟨x,x1,x2,x3⟩ := h.at hi
  obtain ⟨y,y1,y2,y3⟩ := h.at hj
  have:=h.fst.one x y x2 y2 ((h.tel x1 x2 x3).symm.trans (ht.trans (h.tel y1 y2 y3)))
  rw [x3,y3] at this
  exact h.bfs.nd i j hi hj (by rw [x1,y1,this])
 clMin:=fun e e' he he' ht => by
  have f1:=h.num.fst e he
  have f2:=h.num.fst e' he'
  have:SmB A (rep e) (rep e'):=by
   intro q hq
   obtain ⟨w,hw,rfl⟩ := hq
   obtain ⟨y,y1,y2,y3,y4⟩ := h.runs w 0 (P 0) h.bfs.z (h.fst.rch 0 (Tb.Rch.zero A)) (h.fst.idem (Tb.Rch.zero A)) hw
   have yq:Tel A A y (A.run 0 w):=y3.trans (Tel.run w (h.fst.tel 0 (Tb.Rch.zero A)) hw)
   have n1:=bfs_nx (cl:=cls) (ac:=A.ac) h.bfs h.len y1 he
   have n2:=bfs_nx (cl:=cls) (ac:=A.ac) h.bfs h.len y1 he'
   rw [ht _ (get_lt y1),n2] at n1
   have n3:P (A.stp y (rep e'))=P (A.stp y (rep e)):=Option.some.inj n1
   have t1:=h.fst.tel _ (y2.stp f1.1)
   have t2:=h.fst.tel _ (y2.stp f2.1)
   rw [← n3] at t1
   exact (yq.stp f1.1).symm.trans (t1.symm.trans (t2.trans (yq.stp f2.1)))
  have:=(h.sm _ _ f1.1 f2.1).mpr this
  rw [f1.2,f2.2] at this
  exact this
def tb (xs ys:List Int) (zs:List Bool) (nc:Int):Tb:=⟨zs.length,nc.toNat,fun b => (xs[b]?.getD 0).toNat,fun q c => (ys[q * nc.toNat+c]?.getD 0).toNat,fun q => zs[q]?.getD false⟩
structure ProgT (A:Tb) (o ys:List Nat) (m:Nat) (num F:Nat→Nat) (k:Nat) (mg G:Nat→Nat):Prop where
 wf:A.Wf
 up:∀ b,b<256→∀ c,c<A.cl b→∃ b',b'<b∧A.cl b'=c
 full:A.Full
 bfs:Bfs A.k A.nx 0 o ys
 len:ys.length=o.length * A.k
 num1:Num1 o.length m num F
 tel:∀ p q,p<o.length→q<o.length→(num p=num q↔Tel (bfsT A.k A.cl A.ac o ys) (bfsT A.k A.cl A.ac o ys) p q)
 num2:Num1 A.k k mg G
 sm:∀ c c',c<A.k→c'<A.k→(mg c=mg c'↔∀ q,q<m→(mrgS (bfsT A.k A.cl A.ac o ys) m num F).nx q c=(mrgS (bfsT A.k A.cl A.ac o ys) m num F).nx q c')
theorem bfs_tel {A:Tb} {o ys:List Nat} (hw:A.Wf) (h:Bfs A.k A.nx 0 o ys) (hl:ys.length=o.length * A.k):Tel (bfsT A.k A.cl A.ac o ys) A 0 0:=fun w hwd => by
 have:=bfs_run h hl (cl:=A.cl) (ac:=A.ac) hw.cls w 0 0 h.z hwd
 show (o[_]?.map A.ac).getD false=_
 rw [this]; rfl
def ProgT.out (A:Tb) (o ys:List Nat) (m:Nat) (num F:Nat→Nat) (k:Nat) (mg G:Nat→Nat):Tb:=mrgC (mrgS (bfsT A.k A.cl A.ac o ys) m num F) k mg G
theorem ProgT.canon {A:Tb} {o ys:List Nat} {m:Nat} {num F:Nat→Nat} {k:Nat} {mg G:Nat→Nat} (h:ProgT A o ys m num F k mg G):Canon2 (ProgT.out A o ys m num F k mg G) :=
 mrgC_canon (mrgS_pre (bfs_pre h.bfs h.len h.wf.cls h.up h.full) h.num1 h.tel) (mrgS_min (bfs_pre h.bfs h.len h.wf.cls h.up h.full) h.num1 h.tel) h.num2 h.sm
theorem ProgT.start {A:Tb} {o ys:List Nat} {m:Nat} {num F:Nat→Nat} {k:Nat} {mg G:Nat→Nat} (h:ProgT A o ys m num F k mg G):Tel (ProgT.out A o ys m num F k mg G) A 0 0:=by
 have hp:=bfs_pre (ac:=A.ac) h.bfs h.len h.wf.cls h.up h.full
 have hz:=(h.num1.zero h.bfs.pos)
 have t1:=mrgC_tel (mrgS_pre hp h.num1 h.tel) h.num2 h.sm (s:=0) hz.2.2
 have t2:=mrgS_tel hp h.num1 h.tel (s:=0) h.bfs.pos
 rw [hz.1] at t2
 exact t1.trans (t2.trans (bfs_tel h.wf h.bfs h.len))
def clL (A:Tb):List Int:=(List.range 256).map fun b => (A.cl b:Int)
def nxL (A:Tb):List Int:=(List.range (A.n * A.k)).map fun t => (A.nx (t / A.k) (t % A.k):Int)
def acL (A:Tb):List Bool:=(List.range A.n).map A.ac
theorem canon_lists {A B:Tb} (hA:Canon2 A) (hB:Canon2 B) (h0:Tel A B 0 0):clL A=clL B∧A.k=B.k∧nxL A=nxL B∧acL A=acL B:=by
 obtain ⟨h1,h2,h3,h4,h5⟩ := canon_one hA hB h0
 refine ⟨?_,h2,?_,?_⟩
 ·refine List.map_congr_left fun b hb => ?_
  rw [h3 b (List.mem_range.mp hb)]
 ·simp only [nxL,← h1,← h2]
  refine List.map_congr_left fun t ht => ?_
  have ht:=List.mem_range.mp ht
  have hk:0<A.k:=by
   apply Nat.pos_of_ne_zero
   intro he
   rw [he] at ht
   simp at ht
  rw [h4 (t / A.k) (t % A.k) ((Nat.div_lt_iff_lt_mul hk).mpr ht) (Nat.mod_lt _ hk)]
 ·simp only [acL,← h1]
  exact List.map_congr_left fun q hq => h5 q (List.mem_range.mp hq)
def Lst (R:Nat→Prop) (C:Nat→Nat→Prop) (P:Nat→Nat):Prop:=∀ q,R q→R (P q)∧C (P q) q∧∀ p,R p→C p q→P q≤p
structure Equ (R:Nat→Prop) (C:Nat→Nat→Prop):Prop where
 rfl':∀ q,R q→C q q
 symm:∀ p q,R p→R q→C p q→C q p
 trans:∀ p q r,R p→R q→R r→C p q→C q r→C p r
theorem Lst.eq_iff {R:Nat→Prop} {C:Nat→Nat→Prop} {P:Nat→Nat} (h:Lst R C P) (hC:Equ R C) {p q:Nat} (hp:R p) (hq:R q):P p=P q↔C p q:=by
 obtain ⟨p1,p2,p3⟩ := h p hp
 obtain ⟨q1,q2,q3⟩ := h q hq
 constructor
 ·intro he
  rw [he] at p2
  exact hC.trans _ _ _ hp q1 hq (hC.symm _ _ q1 hp p2) q2
 ·intro hpq
  have h1:=p3 _ q1 (hC.trans _ _ _ q1 hq hp q2 (hC.symm _ _ hp hq hpq))
  have h2:=q3 _ p1 (hC.trans _ _ _ p1 hp hq p2 hpq)
  omega
theorem Lst.le {R:Nat→Prop} {C:Nat→Nat→Prop} {P:Nat→Nat} (h:Lst R C P) (hC:Equ R C) {q:Nat} (hq:R q):P q≤q:=(h q hq).2.2 q hq (hC.rfl' q hq)
theorem Lst.idem {R:Nat→Prop} {C:Nat→Nat→Prop} {P:Nat→Nat} (h:Lst R C P) (hC:Equ R C) {q:Nat} (hq:R q):P (P q)=P q:=(h.eq_iff hC (h q hq).1 hq).mpr (h q hq).2.1
def FstIn (R:Nat→Prop) (L:Nat→Prop) (C:Nat→Nat→Prop) (q v:Nat):Prop :=
 (v<q∧R v∧L v∧C v q∧∀ p,p<v→R p→L p→¬ C p q)∨(v=q∧∀ p,p<q→R p→L p→¬ C p q)
theorem lst_of {R:Nat→Prop} {C:Nat→Nat→Prop} {L:Nat→Prop} {N:Nat→Nat} (hC:Equ R C) (hL:∀ p,R p→N p=p→L p) (h:∀ q,R q→FstIn R L C q (N q)):Lst R C N:=by
 intro q
 induction q using Nat.strongRecOn with
 | _ q ih =>
  intro hq
  have low:∀ p,p<q→R p→C p q→∃ l,l≤p∧R l∧L l∧C l q:=by
   intro p hp rp hpq
   obtain ⟨a1,a2,a3⟩ := ih p hp rp
   have hle:=a3 p rp (hC.rfl' p rp)
   obtain ⟨b1,b2,b3⟩ := ih (N p) (by omega) a1
   have h1:=b3 _ a1 (hC.rfl' _ a1)
   have h2:=a3 _ b1 (hC.trans _ _ _ b1 a1 rp b2 a2)
   exact ⟨N p,hle,a1,hL _ a1 (by omega),hC.trans _ _ _ a1 rp hq a2 hpq⟩
  rcases h q hq with ⟨k1,k2,k3,k4,k5⟩ | ⟨k1,k2⟩
  ·refine ⟨k2,k4,fun p rp hp => ?_⟩
   apply Classical.byContradiction
   intro hlt
   obtain ⟨l,l1,l2,l3,l4⟩ := low p (by omega) rp hp
   exact k5 l (by omega) l2 l3 l4
  ·rw [k1]
   refine ⟨hq,hC.rfl' q hq,fun p rp hp => ?_⟩
   apply Classical.byContradiction
   intro hlt
   obtain ⟨l,l1,l2,l3,l4⟩ := low p (by omega) rp hp
   exact k2 l (by omega) l2 l3 l4
def rnd (A:Tb) (C:Nat→Nat→Prop) (p q:Nat):Prop:=C p q∧∀ c,c<A.k→C (A.nx p c) (A.nx q c)
theorem Tb.Rch.nx {A:Tb} (hf:A.Full) {q c:Nat} (h:A.Rch q) (hc:c<A.k):A.Rch (A.nx q c):=by
 obtain ⟨b,hb,rfl⟩ := hf c hc
 exact h.stp hb
theorem Equ.rnd {A:Tb} {C:Nat→Nat→Prop} (hf:A.Full) (h:Equ A.Rch C):Equ A.Rch (rnd A C) where
 rfl':=fun q hq => ⟨h.rfl' q hq,fun _ hc => h.rfl' _ (hq.nx hf hc)⟩
 symm:=fun p q hp hq k => ⟨h.symm p q hp hq k.1,fun c hc => h.symm _ _ (hp.nx hf hc) (hq.nx hf hc) (k.2 c hc)⟩
 trans:=fun p q r hp hq hr k l => ⟨h.trans p q r hp hq hr k.1 l.1,fun c hc => h.trans _ _ _ (hp.nx hf hc) (hq.nx hf hc) (hr.nx hf hc) (k.2 c hc) (l.2 c hc)⟩
structure Rds (A:Tb) (C:Nat→Nat→Prop) (P:Nat→Nat):Prop where
 equ:Equ A.Rch C
 lst:Lst A.Rch C P
 ac:∀ p q,A.Rch p→A.Rch q→C p q→A.ac p=A.ac q
 tel:∀ p q,A.Rch p→A.Rch q→Tel A A p q→C p q
theorem equ_ac (A:Tb):Equ A.Rch fun p q => A.ac p=A.ac q:=⟨fun _ _ => rfl,fun _ _ _ _ h => h.symm,fun _ _ _ _ _ _ h g => h.trans g⟩
theorem Rds.start {A:Tb} {P:Nat→Nat} (h:∀ q,A.Rch q→FstIn A.Rch (fun _ => True) (fun p q => A.ac p=A.ac q) q (P q)):Rds A (fun p q => A.ac p=A.ac q) P :=
 ⟨equ_ac A,lst_of (equ_ac A) (fun _ _ _ => trivial) h,fun _ _ _ _ h => h,fun _ _ _ _ h => h.ac⟩
theorem Rds.next {A:Tb} {C:Nat→Nat→Prop} {P N:Nat→Nat} (h:Rds A C P) (hf:A.Full)
  (hN:∀ q,A.Rch q→FstIn A.Rch (fun p => N p=p) (fun p q => P p=P q∧∀ c,c<A.k→P (A.nx p c)=P (A.nx q c)) q (N q)):Rds A (rnd A C) N:=by
 have hi:∀ {p q:Nat},A.Rch p→A.Rch q→((P p=P q∧∀ c,c<A.k→P (A.nx p c)=P (A.nx q c))↔rnd A C p q):=fun {p q} hp hq =>
  ⟨fun k => ⟨(h.lst.eq_iff h.equ hp hq).mp k.1,fun c hc => (h.lst.eq_iff h.equ (hp.nx hf hc) (hq.nx hf hc)).mp (k.2 c hc)⟩,
   fun k => ⟨(h.lst.eq_iff h.equ hp hq).mpr k.1,fun c hc => (h.lst.eq_iff h.equ (hp.nx hf hc) (hq.nx hf hc)).mpr (k.2 c hc)⟩⟩
 refine ⟨h.equ.rnd hf,lst_of (L:=fun p => N p=p) (h.equ.rnd hf) (fun _ _ k => k) (fun q hq => ?_),fun p q hp hq k => h.ac p q hp hq k.1,fun p q hp hq k => ⟨h.tel p q hp hq k,fun c hc => h.tel _ _ (hp.nx hf hc) (hq.nx hf hc) (k.nx hf hc)⟩⟩
 rcases hN q hq with ⟨k1,k2,k3,k4,k5⟩ | ⟨k1,k2⟩
 ·exact .inl ⟨k1,k2,k3,(hi k2 hq).mp k4,fun p hp rp lp hc => k5 p hp rp lp ((hi rp hq).mpr hc)⟩
 ·exact .inr ⟨k1,fun p hp rp lp hc => k2 p hp rp lp ((hi rp hq).mpr hc)⟩
theorem Rds.fin {A:Tb} {C:Nat→Nat→Prop} {P N:Nat→Nat} (h:Rds A C P) (g:Rds A (rnd A C) N) (hw0:A.Wf) (he:∀ q,A.Rch q→N q=P q):Fst A P:=by
 have hC:∀ p q,A.Rch p→A.Rch q→C p q→rnd A C p q:=fun p q hp hq k => (g.lst.eq_iff g.equ hp hq).mp (by rw [he p hp,he q hq]; exact (h.lst.eq_iff h.equ hp hq).mpr k)
 have hT:∀ (w:List Nat) (p q:Nat),A.Rch p→A.Rch q→C p q→Wd w→A.ac (A.run p w)=A.ac (A.run q w):=by
  intro w
  induction w with
  | nil => intro p q hp hq k _; exact h.ac p q hp hq k
  | cons b w ih =>
   intro p q hp hq k hw
   have hb:=hw b (.head _)
   exact ih _ _ (hp.stp hb) (hq.stp hb) ((hC p q hp hq k).2 _ (hw0.cls b hb)) fun x hx => hw x (.tail _ hx)
 exact ⟨fun q hq => (h.lst q hq).1,fun q hq w hw => hT w _ _ (h.lst q hq).1 hq (h.lst q hq).2.1 hw,fun p q hp hq k => (h.lst.eq_iff h.equ hp hq).mpr (h.tel p q hp hq k)⟩
structure NumL {α:Type} (key:Nat→α) (ds:List α) (ns fs:List Nat):Prop where
 nd:∀ i j:Nat,i<ds.length→j<ds.length→ds[i]? = ds[j]?→i=j
 ky:∀ s,s<ns.length→ds[ns[s]?.getD 0]? = some (key s)
 fl:fs.length=ds.length
 fr:∀ j,j<ds.length→fs[j]?.getD 0<ns.length∧ns[fs[j]?.getD 0]?.getD 0=j
 le:∀ s,s<ns.length→fs[ns[s]?.getD 0]?.getD 0≤s
 up:∀ i j,i<j→j<ds.length→fs[i]?.getD 0<fs[j]?.getD 0
theorem NumL.nil {α:Type} (key:Nat→α):NumL key [] [] []:=by
 refine ⟨fun i j hi => by simp at hi,fun s hs => by simp at hs,rfl,fun j hj => by simp at hj,fun s hs => by simp at hs,fun i j _ hj => by simp at hj⟩
theorem NumL.old {α:Type} {key:Nat→α} {ds:List α} {ns fs:List Nat} {j:Nat} (h:NumL key ds ns fs) (hj:ds[j]? = some (key ns.length)):NumL key ds (ns ++ [j]) fs where
 nd:=h.nd
 ky:=fun s hs => by
  simp only [List.length_append,List.length_singleton] at hs
  by_cases he:s=ns.length
  ·subst he; rw [snoc_at]; exact hj
  ·rw [snoc_lt (by omega)]; exact h.ky s (by omega)
 fl:=h.fl
 fr:=fun i hi => by
  obtain ⟨h1,h2⟩ := h.fr i hi
  exact ⟨by simp; omega,by rw [snoc_lt h1]; exact h2⟩
 le:=fun s hs => by
  simp only [List.length_append,List.length_singleton] at hs
  by_cases he:s=ns.length
  ·subst he; rw [snoc_at]; have:=(h.fr j (get_lt hj)).1; omega
  ·rw [snoc_lt (by omega)]; exact h.le s (by omega)
 up:=h.up
theorem NumL.new {α:Type} {key:Nat→α} {ds:List α} {ns fs:List Nat} (h:NumL key ds ns fs) (hno:∀ i:Nat,i<ds.length→ds[i]? ≠ some (key ns.length)):NumL key (ds ++ [key ns.length]) (ns ++ [ds.length]) (fs ++ [ns.length]):=by
 have hfl:=h.fl
 have hat:(fs ++ [ns.length])[ds.length]?.getD 0=ns.length:=by rw [← hfl]; exact snoc_at
 refine ⟨fun i j hi hj he => ?_,fun s hs => ?_,by simp [hfl],fun j hj => ?_,fun s hs => ?_,fun i j hij hj => ?_⟩
 ·simp only [List.length_append,List.length_singleton] at hi hj
  rcases Nat.lt_or_ge i ds.length with h1 | h1 <;> rcases Nat.lt_or_ge j ds.length with h2 | h2
  ·rw [List.getElem?_append_left h1,List.getElem?_append_left h2] at he; exact h.nd i j h1 h2 he
  ·have:j=ds.length:=by omega
   subst this
   rw [List.getElem?_append_left h1] at he
   simp at he
   exact absurd he (hno i h1)
  ·have:i=ds.length:=by omega
   subst this
   rw [List.getElem?_append_left h2] at he
   simp at he
   exact absurd he.symm (hno j h2)
  ·omega
 ·simp only [List.length_append,List.length_singleton] at hs
  by_cases he:s=ns.length
  ·subst he; rw [snoc_at]; simp
  ·rw [snoc_lt (by omega)]
   have:=h.ky s (by omega)
   rw [List.getElem?_append_left (get_lt this)]; exact this
 ·simp only [List.length_append,List.length_singleton] at hj
  by_cases he:j=ds.length
  ·subst he; rw [hat]; exact ⟨by simp,snoc_at⟩
  ·obtain ⟨h1,h2⟩ := h.fr j (by omega)
   rw [snoc_lt (by omega)]
   exact ⟨by simp; omega,by rw [snoc_lt h1]; exact h2⟩
 ·simp only [List.length_append,List.length_singleton] at hs
  by_cases he:s=ns.length
  ·subst he; rw [snoc_at,hat]; exact Nat.le_refl _
  ·rw [snoc_lt (ys:=ns) (by omega)]
   have:=get_lt (h.ky s (by omega))
   rw [snoc_lt (by omega)]
   exact h.le s (by omega)
 ·simp only [List.length_append,List.length_singleton] at hj
  rw [snoc_lt (t:=i) (by omega)]
  by_cases he:j=ds.length
  ·subst he; rw [hat]; exact (h.fr i hij).1
  ·rw [snoc_lt (by omega)]; exact h.up i j hij (by omega)
theorem NumL.num1 {α:Type} {key:Nat→α} {ds:List α} {ns fs:List Nat} (h:NumL key ds ns fs):Num1 ns.length ds.length (fun s => ns[s]?.getD 0) (fun j => fs[j]?.getD 0) :=
 ⟨fun s hs => get_lt (h.ky s hs),h.fr,h.le,h.up⟩
theorem NumL.eq_iff {α:Type} {key:Nat→α} {ds:List α} {ns fs:List Nat} (h:NumL key ds ns fs) {p q:Nat} (hp:p<ns.length) (hq:q<ns.length):ns[p]?.getD 0=ns[q]?.getD 0↔key p=key q:=by
 have k1:=h.ky p hp
 have k2:=h.ky q hq
 constructor
 ·intro he
  rw [he,k2] at k1
  exact (Option.some.inj k1).symm
 ·intro he
  exact h.nd _ _ (get_lt k1) (get_lt k2) (by rw [k1,k2,he])
structure MgC (A:Tb) (q m:Nat) (mg G:Nat→Nat):Prop where
 num:Num1 A.k m mg G
 sm:∀ c c',c<A.k→c'<A.k→(mg c=mg c'↔∀ p,p<q→A.nx p c=A.nx p c')
theorem MgC.start {A:Tb} (hk:0<A.k):MgC A 0 1 (fun _ => 0) (fun _ => 0) where
 num:=⟨fun _ _ => by omega,fun j hj => ⟨hk,by omega⟩,fun s _ => Nat.zero_le s,fun i j h1 h2 => by omega⟩
 sm:=fun _ _ _ _ => ⟨fun _ p hp => by omega,fun _ => rfl⟩
theorem MgC.next {A:Tb} {q m:Nat} {mg G:Nat→Nat} (h:MgC A q m mg G) {ds:List (Nat × Nat)} {ns fs:List Nat} (g:NumL (fun c => (mg c,A.nx q c)) ds ns fs) (hl:ns.length=A.k) :
  MgC A (q+1) ds.length (fun c => ns[c]?.getD 0) (fun j => fs[j]?.getD 0) where
 num:=by rw [← hl]; exact g.num1
 sm:=fun c c' hc hc' => by
  rw [g.eq_iff (by omega) (by omega)]
  constructor
  ·intro he p hp
   have h1:mg c=mg c':=congrArg Prod.fst he
   have h2:A.nx q c=A.nx q c':=congrArg Prod.snd he
   by_cases hpq:p=q
   ·rw [hpq]; exact h2
   ·exact (h.sm c c' hc hc').mp h1 p (by omega)
  ·intro ha
   exact Prod.ext ((h.sm c c' hc hc').mpr fun p hp => ha p (by omega)) (ha q (by omega))
theorem Num1.meet {n m:Nat} {num F:Nat→Nat} (h:Num1 n m num F) {c met:Nat} (hc:c<n) (hm:∀ j,j<m→(F j<c↔j<met)):(num c=met→F met=c∧met<m)∧(num c ≠ met→∀ j,j<m→(F j<c+1↔j<met))∧(num c=met→∀ j,j<m→(F j<c+1↔j<met+1)):=by
 have hl:=h.lt c hc
 have hle:=h.le c hc
 have hf:=h.fst _ hl
 have a:num c=met→F met=c∧met<m:=fun he => by
  rw [he] at hle hl
  have:=hm met hl
  omega
 refine ⟨a,fun hne j hj => ?_,fun he j hj => ?_⟩
 ·have h1:=hm j hj
  constructor
  ·intro hlt
   apply Classical.byContradiction
   intro hge
   have hjc:F j=c:=by omega
   have:=(h.fst j hj).2
   rw [hjc] at this
   have hjm:met<j:=by omega
   have h2:=hm met (by omega)
   have h3:=h.up met j hjm hj
   omega
  ·omega
 ·obtain ⟨a1,a2⟩ := a he
  have h1:=hm j hj
  constructor
  ·intro hlt
   apply Classical.byContradiction
   intro hge
   have h3:=h.up met j (by omega) hj
   omega
  ·intro hlt
   by_cases hjm:j=met
   ·rw [hjm,a1]; omega
   ·have:=h1.mpr (by omega); omega
def upd (f:Nat→Nat) (i v:Nat):Nat→Nat:=fun x => if x=i then v else f x
theorem upd_at (f:Nat→Nat) (i v:Nat):upd f i v i=v:=by simp [upd]
theorem upd_ne (f:Nat→Nat) {i v x:Nat} (h:x ≠ i):upd f i v x=f x:=by simp [upd,h]
structure PInv (n N:Nat) (ms ps bs fr mk tt:Nat→Nat):Prop where
 m1:∀ i,i<n→ms i<n∧ps (ms i)=i
 p1:∀ s,s<n→ps s<n∧ms (ps s)=s
 b1:∀ b,b<N→fr b≤mk b∧mk b≤tt b∧fr b<tt b∧tt b≤n
 s1:∀ s,s<n→bs s<N∧fr (bs s)≤ps s∧ps s<tt (bs s)
 s2:∀ s b,s<n→b<N→fr b≤ps s→ps s<tt b→bs s=b
theorem PInv.start {n:Nat} {fr mk tt:Nat→Nat} (hn:0<n) (h1:fr 0=0) (h2:mk 0=0) (h3:tt 0=n):PInv n 1 (fun i => i) (fun i => i) (fun _ => 0) fr mk tt where
 m1:=fun _ hi => ⟨hi,rfl⟩
 p1:=fun _ hi => ⟨hi,rfl⟩
 b1:=fun b hb => by obtain rfl:b=0:=by omega
                    omega
 s1:=fun s hs => ⟨by omega,by omega,by omega⟩
 s2:=fun s b _ hb _ _ => by omega
theorem PInv.mark {n N:Nat} {ms ps bs fr mk tt:Nat→Nat} (h:PInv n N ms ps bs fr mk tt) {s:Nat} (hs:s<n) (hm:mk (bs s)≤ps s) :
  PInv n N (upd (upd ms (ps s) (ms (mk (bs s)))) (mk (bs s)) s) (upd (upd ps (ms (mk (bs s))) (ps s)) s (mk (bs s))) bs fr (upd mk (bs s) (mk (bs s)+1)) tt ∧
  ∀ t,t<n→(upd (upd ps (ms (mk (bs s))) (ps s)) s (mk (bs s)) t<upd mk (bs s) (mk (bs s)+1) (bs t)↔ps t<mk (bs t)∨t=s):=by
 obtain ⟨a1,a2,a3⟩ := h.s1 s hs
 obtain ⟨b1,b2,b3,b4⟩ := h.b1 _ a1
 have pn:=(h.p1 s hs).1
 have pm:=(h.p1 s hs).2
 have jn:mk (bs s)<n:=by omega
 obtain ⟨x1,x2⟩ := h.m1 _ jn
 have xb:bs (ms (mk (bs s)))=bs s:=h.s2 _ _ x1 a1 (by omega) (by omega)
 generalize hx:ms (mk (bs s))=x at *
 generalize hj:mk (bs s)=j at *
 generalize hi:ps s=i at *
 generalize hb:bs s=b at *
 have hxs:x=s↔i=j:=by
  constructor
  ·intro he; subst he; omega
  ·intro he; subst he; rw [hx] at pm; exact pm
 -- where a state stands now
 have ps':∀ t,t<n→upd (upd ps x i) s j t=(if t=s then j else if t=x then i else ps t):=fun t _ => by
  by_cases h1:t=s
  ·simp [upd,h1]
  ·by_cases h2:t=x <;> simp [upd,h1,h2]
 have pj:∀ t,t<n→ps t=j→t=x:=fun t ht he => by have:=(h.p1 t ht).2; rw [he,hx] at this; exact this.symm
 have pi:∀ t,t<n→ps t=i→t=s:=fun t ht he => by have:=(h.p1 t ht).2; rw [he,pm] at this; exact this.symm
 refine ⟨⟨fun k hk => ?_,fun t ht => ?_,fun c hc => ?_,fun t ht => ?_,fun t c ht hc => ?_⟩,fun t ht => ?_⟩
 ·by_cases h1:k=j
  ·subst h1
   rw [upd_at]
   exact ⟨hs,by rw [ps' s hs]; simp⟩
  ·rw [upd_ne _ h1]
   by_cases h2:k=i
   ·subst h2
    rw [upd_at]
    refine ⟨x1,?_⟩
    rw [ps' x x1]
    have:x ≠ s:=fun he => h1 (hxs.mp he)
    simp [this]
   ·rw [upd_ne _ h2]
    obtain ⟨k1,k2⟩ := h.m1 k hk
    refine ⟨k1,?_⟩
    rw [ps' _ k1]
    have e1:ms k ≠ s:=fun he => by rw [he,hi] at k2; exact h2 k2.symm
    have e2:ms k ≠ x:=fun he => by rw [he,x2] at k2; exact h1 k2.symm
    simp [e1,e2,k2]
 ·rw [ps' t ht]
  by_cases h1:t=s
  ·subst h1; simp only [if_true]; exact ⟨jn,upd_at _ _ _⟩
  ·by_cases h2:t=x
   ·subst h2
    simp only [h1,if_false,if_true]
    refine ⟨pn,?_⟩
    have:i ≠ j:=fun he => h1 (hxs.mpr he)
    rw [upd_ne _ this,upd_at]
   ·simp only [h1,h2,if_false]
    obtain ⟨k1,k2⟩ := h.p1 t ht
    refine ⟨k1,?_⟩
    rw [upd_ne _ (fun he => h2 (pj t ht he)),upd_ne _ (fun he => h1 (pi t ht he))]
    exact k2
 ·by_cases h1:c=b
  ·subst h1; rw [upd_at]; omega
  ·rw [upd_ne _ h1]; exact h.b1 c hc
 ·rw [ps' t ht]
  by_cases h1:t=s
  ·subst h1; simp only [if_true,hb]; exact ⟨a1,by omega,by omega⟩
  ·by_cases h2:t=x
   ·subst h2; simp only [h1,if_false,if_true,xb]; exact ⟨a1,by omega,by omega⟩
   ·simp only [h1,h2,if_false]; exact h.s1 t ht
 ·rw [ps' t ht]
  by_cases h1:t=s
  ·subst h1; simp only [if_true]
   intro k1 k2
   rw [hb,← xb]
   exact h.s2 x c x1 hc (by omega) (by omega)
  ·by_cases h2:t=x
   ·subst h2; simp only [h1,if_false,if_true]
    intro k1 k2
    rw [xb,← hb]
    exact h.s2 s c hs hc (by omega) (by omega)
   ·simp only [h1,h2,if_false]; exact h.s2 t c ht hc
 ·rw [ps' t ht]
  by_cases h1:t=s
  ·subst h1; simp [hb,upd_at]
  ·by_cases h2:t=x
   ·subst h2; simp only [h1,if_false,if_true,xb,upd_at,hj,x2,or_false]
    have:i ≠ j:=fun he => h1 (hxs.mpr he)
    omega
   ·simp only [h1,h2,if_false,or_false]
    by_cases h3:bs t=b
    ·rw [h3,upd_at,hj]
     have:ps t ≠ j:=fun he => h2 (pj t ht he)
     omega
    ·rw [upd_ne _ h3]
theorem PInv.cut {n N:Nat} {ms ps bs fr mk tt:Nat→Nat} (h:PInv n N ms ps bs fr mk tt) {b o1 o2 r1 r2:Nat} (hb:b<N) (h1:fr b<mk b) (h2:mk b<tt b)
  (ho:(o1=fr b∧o2=mk b∧r1=mk b∧r2=tt b)∨(o1=mk b∧o2=tt b∧r1=fr b∧r2=mk b)) {bs':Nat→Nat} (hbs:∀ t,t<n→bs' t=if o1≤ps t∧ps t<o2 then N else bs t) :
  PInv n (N+1) ms ps bs' (upd (upd fr b r1) N o1) (upd (upd mk b r1) N o1) (upd (upd tt b r2) N o2) ∧
  (∀ p q,p<n→q<n→(bs' p=bs' q↔bs p=bs q∧(bs p=b→(ps p<mk b↔ps q<mk b)))) ∧
  (∀ p,p<n→bs p ≠ b→bs' p=bs p)∧(∀ p,p<n→bs p=b→bs' p=b∨bs' p=N):=by
 obtain ⟨b1,b2,b3,b4⟩ := h.b1 b hb
 have nb:N ≠ b:=by omega
 have inn:∀ t,t<n→((fr b≤ps t∧ps t<tt b)↔bs t=b):=fun t ht => ⟨fun k => h.s2 t b ht hb k.1 k.2,fun k => by have:=h.s1 t ht; rw [k] at this; exact this.2⟩
 have off:∀ t,t<n→(o1≤ps t∧ps t<o2↔bs t=b∧o1≤ps t∧ps t<o2):=fun t ht => by
  have:=inn t ht
  omega
 have frb:upd (upd fr b r1) N o1 b=r1:=by rw [upd_ne _ (Ne.symm nb),upd_at]
 have mkb:upd (upd mk b r1) N o1 b=r1:=by rw [upd_ne _ (Ne.symm nb),upd_at]
 have ttb:upd (upd tt b r2) N o2 b=r2:=by rw [upd_ne _ (Ne.symm nb),upd_at]
 have frN:upd (upd fr b r1) N o1 N=o1:=upd_at _ _ _
 have mkN:upd (upd mk b r1) N o1 N=o1:=upd_at _ _ _
 have ttN:upd (upd tt b r2) N o2 N=o2:=upd_at _ _ _
 have fro:∀ c,c ≠ N→c ≠ b→upd (upd fr b r1) N o1 c=fr c:=fun c k1 k2 => by rw [upd_ne _ k1,upd_ne _ k2]
 have mko:∀ c,c ≠ N→c ≠ b→upd (upd mk b r1) N o1 c=mk c:=fun c k1 k2 => by rw [upd_ne _ k1,upd_ne _ k2]
 have tto:∀ c,c ≠ N→c ≠ b→upd (upd tt b r2) N o2 c=tt c:=fun c k1 k2 => by rw [upd_ne _ k1,upd_ne _ k2]
 refine ⟨⟨h.m1,h.p1,fun c hc => ?_,fun t ht => ?_,fun t c ht hc => ?_⟩,fun p q hp hq => ?_,fun p hp hne => ?_,fun p hp he => ?_⟩
 ·by_cases k1:c=N
  ·subst k1; rw [frN,mkN,ttN]; omega
  ·by_cases k2:c=b
   ·subst k2; rw [frb,mkb,ttb]; omega
   ·rw [fro c k1 k2,mko c k1 k2,tto c k1 k2]; exact h.b1 c (by omega)
 ·have hi:=inn t ht
  obtain ⟨s1,s2,s3⟩ := h.s1 t ht
  rw [hbs t ht]
  split
  ·rename_i hc
   rw [frN,ttN]
   exact ⟨by omega,hc.1,hc.2⟩
  ·rename_i hc
   by_cases k2:bs t=b
   ·rw [k2,frb,ttb]
    have:=hi.mpr k2
    omega
   ·rw [fro _ (by omega) k2,tto _ (by omega) k2]
    exact ⟨by omega,s2,s3⟩
 ·have hi:=inn t ht
  intro k3 k4
  rw [hbs t ht]
  by_cases k1:c=N
  ·subst k1; rw [frN] at k3; rw [ttN] at k4
   rw [if_pos ⟨k3,k4⟩]
  ·by_cases k2:c=b
   ·subst k2; rw [frb] at k3; rw [ttb] at k4
    rw [if_neg (by omega)]
    exact hi.mp (by omega)
   ·rw [fro c k1 k2] at k3; rw [tto c k1 k2] at k4
    have hs:=h.s2 t c ht (by omega) k3 k4
    rw [if_neg (fun hc => by have:=((off t ht).mp hc).1; omega)]
    exact hs
 ·have ip:=inn p hp
  have iq:=inn q hq
  have sp:=(h.s1 p hp).1
  have sq:=(h.s1 q hq).1
  rw [hbs p hp,hbs q hq]
  by_cases c1:o1≤ps p∧ps p<o2 <;> by_cases c2:o1≤ps q∧ps q<o2
  ·rw [if_pos c1,if_pos c2]
   have e1:=((off p hp).mp c1).1
   have e2:=((off q hq).mp c2).1
   rw [e1,e2]
   refine ⟨fun _ => ⟨rfl,fun _ => by omega⟩,fun _ => rfl⟩
  ·rw [if_pos c1,if_neg c2]
   have e1:=((off p hp).mp c1).1
   constructor
   ·intro he; omega
   ·intro ⟨he,k⟩
    have:=k e1
    have:=iq.mpr (by omega)
    omega
  ·rw [if_neg c1,if_pos c2]
   have e2:=((off q hq).mp c2).1
   constructor
   ·intro he; omega
   ·intro ⟨he,k⟩
    have:=k (by omega)
    have:=ip.mpr (by omega)
    omega
  ·rw [if_neg c1,if_neg c2]
   constructor
   ·intro he
    refine ⟨he,fun k => ?_⟩
    have:=ip.mpr k
    have:=iq.mpr (by omega)
    omega
   ·exact fun k => k.1
 ·rw [hbs p hp,if_neg (fun hc => hne ((off p hp).mp hc).1)]
 ·rw [hbs p hp]
  split
  ·exact .inr rfl
  ·exact .inl he
theorem PInv.unmark {n N:Nat} {ms ps bs fr mk tt:Nat→Nat} (h:PInv n N ms ps bs fr mk tt) {b:Nat} (_hb:b<N):PInv n N ms ps bs fr (upd mk b (fr b)) tt where
 m1:=h.m1
 p1:=h.p1
 b1:=fun c hc => by
  have:=h.b1 c hc
  by_cases k:c=b
  ·subst k; rw [upd_at]; omega
  ·rw [upd_ne _ k]; exact this
 s1:=h.s1
 s2:=h.s2
end Go.Proofs.YtlidckepahpaeaaGreatDoor
