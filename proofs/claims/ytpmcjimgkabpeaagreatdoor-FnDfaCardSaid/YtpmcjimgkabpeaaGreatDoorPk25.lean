import Derived.Test.YtpmcjimgkabpeaaGreatDoorPk22
namespace Go.Proofs.YtpmcjimgkabpeaaGreatDoor
open Go.RowKit Go.Proofs.Tryz
set_option maxHeartbeats 16000000
set_option maxRecDepth 100000
theorem CP(bs:List Int)(l r:List El)(A B:Rl)(cr:Int)(sr:aM r cr)(hA:RB bs.length A)(hB:RB bs.length B)(hl:vE bs l A)(hr:vE bs r B):vE bs (l++r++[⟨2,[],0,0⟩]) (dh A B):=by
 intro v lv bq F w hv z t x C;have c:=hv;obtain⟨a,cp,rfl,-,-⟩:=id hv;obtain⟨d,h,b,off,rfl,a3,D⟩:=hv.last;rw[d]at hv c h ⊢;simp only[List.length_append,List.length_singleton]at hv c z d D h ⊢;unfold maxLen at h;obtain⟨i1,i2,i3,sv,c0,c1,c2,c3,k⟩:=D;obtain⟨sa,sc,rfl,-,-,-⟩:=id k;simp only at c0 c2 c3;obtain⟨la,lc,rfl,-,-⟩:=id t;clear d i1 i2 i3 k;have e1:(((l.length+r.length+1:Nat):Int)-1)=((l.length+r.length:Nat):Int):=by omega
 have E:az 0 w.heap.size w (.slice (some ⟨b,off,none⟩) l.length cp) (l):=by rw[List.append_assoc]at c;exact c.pre
 have G:=c.mid (cap':=cp-l.length) (by unfold maxLen;omega);have f5:l.length+r.length-l.length=r.length:=by omega
 have U:=ae E;have V:=ae G;have X:=ae c;have Y:=ae hl;have Z:=ae hr;have H:=ae t;have I:=ae x;have hn:=x.1;have HA:=ae hA;have J:=ae hB;obtain⟨n,a4⟩ : ∃ n,n=bs.length:=⟨_,rfl⟩;have K:=run_make_row' (P:=prog) 31 4 (.bool false) 1 underlying31 Tryz.zinBoolM rfl .i64 .i64 (bs.length+1) (by omega) (by omega);simp only[Int.natCast_add,Int.natCast_one]at K;have g:=aH w (.cells #[.int .i64 2,.slice sa 0 sc,.int .i64 0,.int .i64 0] 70) (.cells (madeCells #[.bool false] (bs.length+1)) 4);have h0:=fT (w.alloc (.cells #[.int .i64 2,.slice sa 0 sc,.int .i64 0,.int .i64 0] 70)) bs.length;rw[ah]at h0;have H0:=ae h0;have L:((w.alloc (.cells #[.int .i64 2,.slice sa 0 sc,.int .i64 0,.int .i64 0] 70)).alloc (.cells (madeCells #[.bool false] (bs.length+1)) 4)).heap.size=w.heap.size+2:=by rw[ah,ah]
 have q:Hi (∀ W,Below (w.heap.size+2) ((w.alloc (.cells #[.int .i64 2,.slice sa 0 sc,.int .i64 0,.int .i64 0] 70)).alloc (.cells (madeCells #[.bool false] (bs.length+1)) 4)) W->W.cell? ⟨w.heap.size,0,none⟩=some (.int .i64 2)):=fun W hW=>(hW.cell (p:=⟨w.heap.size,0,none⟩) (by show w.heap.size<w.heap.size+2;omega)).trans (((ai _ _).cell (p:=⟨w.heap.size,0,none⟩) (by rw[ah];exact Nat.lt_succ_self _)).trans ((au w _).news 0 _ rfl))
 have M:=ae (C.below g lR);have f:=ae g;clear E G hv c hl hr t x C g h0 hA hB
 go_enter func36,ntmps36
 go_wp2_with fail;refine(bO _ l r cr _ _ _ sr (by exact X.u.below f.u lR) (by omega) rfl).mono ?_;rintro e w1 ⟨rfl,rfl⟩
 go_wp2_with fail;obtain⟨W0,N⟩ : ∃ W0,W0=(w.alloc (.cells #[.int .i64 2,.slice sa 0 sc,.int .i64 0,.int .i64 0] 70)).alloc (.cells (madeCells #[.bool false] (bs.length+1)) 4):=⟨_,rfl⟩;rw[<-N]at f M q L H0 ⊢;have a2:w.heap.size+2<=W0.heap.size:=by omega
 clear L c0 c1 c2 c3 N K;refine(Y.u _ _ bq F _ (U.u.below f.u lR) (by omega) (H.u.below f.u lR) I.u M.u).mono ?_;rintro e w1 ⟨g1,G1,rfl,a5,O,Q,o⟩;have y:Hi (Below w.heap.size w w1):=f.u.trans (o.mono (by omega));have k0:=q.u w1 (o.mono (by omega));have a0:=ae O;have s:=ae Q;have H1:=ae (H0.u.below o lR);have a6:=o.size;clear O Q o
 go_wp2_with fail;refine(Z.u _ _ g1 G1 _ (V.u.below y.u lR) (by omega) (H.u.below y.u lR) I.u a0.u).mono ?_;rintro e w2 ⟨g2,G2,rfl,a7,R,S,g⟩;have f:Hi (Below w.heap.size w w2):=y.u.trans (g.mono (by omega));have a1:=ae R;have T:=ae S;clear R S g;go_wp2;go_ret;refine⟨g2,G2,rfl,by omega,a1.u,fun j hj=>?_,f.u⟩;rw[T.u j hj]
 constructor
 ·rintro⟨m,h1,h2⟩;have:=J.u _ _ h2;obtain⟨i,h3,h4⟩:=(s.u m (by omega)).1 h1;exact⟨i,h3,m,h4,h2⟩
 rintro⟨i,h3,m,h4,h2⟩;have:=J.u _ _ h2;exact⟨m,(s.u m (by omega)).2 ⟨i,h3,h4⟩,h2⟩
theorem CN(bs:List Int)(l r:List El)(A B:Rl)(cr:Int)(sr:aM r cr)(hA:RB bs.length A)(hB:RB bs.length B)(hl:vE bs l A)(hr:vE bs r B):vE bs (l++r++[⟨3,[],0,0⟩]) (nQ A B):=by
 intro v lv bq F w hv I C D J;have f:=hv;obtain⟨a,cp,rfl,-,-⟩:=id hv;obtain⟨g,m,b,off,rfl,af,K⟩:=hv.last;rw[g]at hv f m ⊢;simp only[List.length_append,List.length_singleton]at hv f I g K m ⊢;unfold maxLen at m;obtain⟨i1,i2,i3,sv,c0,c1,c2,c3,o⟩:=K;obtain⟨sa,sc,rfl,-,-,-⟩:=id o;simp only at c0 c2 c3;obtain⟨la,lc,rfl,-,-⟩:=id C;clear g i1 i2 i3 o;have e1:(((l.length+r.length+1:Nat):Int)-1)=((l.length+r.length:Nat):Int):=by omega
 have L:az 0 w.heap.size w (.slice (some ⟨b,off,none⟩) l.length cp) (l):=by rw[List.append_assoc]at f;exact f.pre
 have M:=f.mid (cap':=cp-l.length) (by unfold maxLen;omega);have f5:l.length+r.length-l.length=r.length:=by omega
 have a1:=ae L;have a2:=ae M;have a3:=ae f;have a4:=ae hl;have a5:=ae hr;have N:=ae C;have O:=ae D;have hn:=D.1;have HA:=ae hA;have ag:=ae hB;obtain⟨n,al⟩ : ∃ n,n=bs.length:=⟨_,rfl⟩;have Q:=run_make_row' (P:=prog) 31 4 (.bool false) 1 underlying31 Tryz.zinBoolM rfl .i64 .i64 (bs.length+1) (by omega) (by omega);simp only[Int.natCast_add,Int.natCast_one]at Q;have c:=aH w (.cells #[.int .i64 3,.slice sa 0 sc,.int .i64 0,.int .i64 0] 70) (.cells (madeCells #[.bool false] (bs.length+1)) 4);have h0:=fT (w.alloc (.cells #[.int .i64 3,.slice sa 0 sc,.int .i64 0,.int .i64 0] 70)) bs.length;rw[ah]at h0;have H0:=ae h0;have R:((w.alloc (.cells #[.int .i64 3,.slice sa 0 sc,.int .i64 0,.int .i64 0] 70)).alloc (.cells (madeCells #[.bool false] (bs.length+1)) 4)).heap.size=w.heap.size+2:=by rw[ah,ah]
 have x:Hi (∀ W,Below (w.heap.size+2) ((w.alloc (.cells #[.int .i64 3,.slice sa 0 sc,.int .i64 0,.int .i64 0] 70)).alloc (.cells (madeCells #[.bool false] (bs.length+1)) 4)) W->W.cell? ⟨w.heap.size,0,none⟩=some (.int .i64 3)):=fun W hW=>(hW.cell (p:=⟨w.heap.size,0,none⟩) (by show w.heap.size<w.heap.size+2;omega)).trans (((ai _ _).cell (p:=⟨w.heap.size,0,none⟩) (by rw[ah];exact Nat.lt_succ_self _)).trans ((au w _).news 0 _ rfl))
 have E:=ae (J.below c lR);have d:=ae c;clear L M hv f hl hr C D J c h0 hA hB
 go_enter func36,ntmps36
 go_wp2_with fail;refine(bO _ l r cr _ _ _ sr (by exact a3.u.below d.u lR) (by omega) rfl).mono ?_;rintro e w1 ⟨rfl,rfl⟩
 go_wp2_with fail;obtain⟨W0,S⟩ : ∃ W0,W0=(w.alloc (.cells #[.int .i64 3,.slice sa 0 sc,.int .i64 0,.int .i64 0] 70)).alloc (.cells (madeCells #[.bool false] (bs.length+1)) 4):=⟨_,rfl⟩;rw[<-S]at d E x R H0 ⊢;have a8:w.heap.size+2<=W0.heap.size:=by omega
 clear R c0 c1 c2 c3 S Q;refine(a4.u _ _ bq F _ (a1.u.below d.u lR) (by omega) (N.u.below d.u lR) O.u E.u).mono ?_;rintro e w1 ⟨g1,G1,rfl,an,T,U,k⟩;have q:Hi (Below w.heap.size w w1):=d.u.trans (k.mono (by omega));have k0:=x.u w1 (k.mono (by omega));have G:=ae T;have V:=ae U;have H1:=ae (H0.u.below k lR);have ao:=k.size;have X:=E.u.below k lR;clear T U k
 go_wp2_with fail;refine(a5.u _ _ bq F _ (a2.u.below q.u lR) (by omega) (N.u.below q.u lR) O.u (X)).mono ?_;rintro e w2 ⟨g2,G2,rfl,ap,H,Y,c⟩;have d:Hi (Below w.heap.size w w2):=q.u.trans (c.mono (by omega));have Z:=ae H;have a0:=ae Y;have y:=ae (G.u.below c lR);have H2:=ae (H1.u.below c lR);have aq:=c.size;have a9:=G.u.lt;have aa:=H.lt;clear H Y c G H1 q
 go_wp2_with fail
 go_loopw [14] (fun iv wr=>∃ (i:Nat),i<=bs.length+1/\iv=.int .i64 i/\BR wr bs.length (w.heap.size+1) (fun j=>decide (j<i)&&(G1 j||G2 j))/\BR wr bs.length g1 G1/\BR wr bs.length g2 G2/\Below w.heap.size w wr) (fun iv _=>bs.length+1-(intOf iv).toNat)
 case atStart=>exact⟨0,Nat.zero_le _,rfl,H2.u.same (fun j _=>by simp),y.u,Z.u,d.u⟩
 clear Z y H2 d k0;obtain⟨i,hi,rfl,hO,s,t,hB⟩:=hrel;have HO:=ae hO;have a6:=ae s;have a7:=ae t
 by_cases hlt:i<bs.length+1
 ·have ab:(i:Int)<=(bs.length:Int):=by omega
  have ad:(i:Int)<(bs.length:Int)+1:=by omega
  have d1:=World.rowIs.cell s hlt;have d2:=World.rowIs.cell t hlt;have d3:=World.rowIs.cell hO hlt;have f3:=World.rowIs.frozen hO i;clear hO s t;have z:∀ r:Bool,(r=(G1 i||G2 i))->∀ W:World,W=wr.setCell ⟨w.heap.size+1,i,none⟩ (.bool r)->∃ (i':Nat),i'<=bs.length+1/\(Value.int .i64 ((i:Int)+1))=.int .i64 i'/\BR W bs.length (w.heap.size+1) (fun j=>decide (j<i')&&(G1 j||G2 j))/\BR W bs.length g1 G1/\BR W bs.length g2 G2/\Below w.heap.size w W:=by
   intro r hr W hW;subst hW hr;refine⟨i+1,by omega,by simp,?_,World.rowIs.setOther a6.u (by show g1≠w.heap.size+1;omega) _,World.rowIs.setOther a7.u (by show g2≠w.heap.size+1;omega) _,aI hB (by omega) _⟩;refine World.rowIs.congr (World.rowIs.set HO.u i _) (fun j hj=>?_)
   by_cases e:j=i
   ·subst e;simp
   have:(j<i+1)↔(j<i):=by omega
   simp[e,this]
  have h:=ae z;clear z;cases h1:G1 i with
  | true =>
   rw[h1]at d1;have HR:=ae (h.u true (by rw[h1];rfl));clear h1 h;go_wp2
   go_roundw
   case rel=>exact HR.u _ rfl
   simp[intOf];omega
  | false =>
   rw[h1]at d1;have HR:=ae (h.u (G2 i) (by rw[h1];rfl));clear h1 h;go_wp2
   go_roundw
   case rel=>exact HR.u _ rfl
   simp[intOf];omega
 have e:i=bs.length+1:=by omega
 subst e;have HB:=ae hB;clear hO s t hB;go_wp2;go_ret;refine⟨_,_,rfl,by omega,HO.u,fun j hj=>?_,HB.u⟩;simp only[show j<bs.length+1 by omega,decide_true,Bool.true_and];rw[Bool.or_eq_true,V.u j hj,a0.u j hj]
 constructor
 ·rintro(⟨i,h1,h2⟩|⟨i,h1,h2⟩)
  ·exact⟨i,h1,Or.inl h2⟩
  exact⟨i,h1,Or.inr h2⟩
 rintro⟨i,h1,h2|h2⟩
 ·exact Or.inl ⟨i,h1,h2⟩
 exact Or.inr ⟨i,h1,h2⟩
theorem dT.eps{n:Nat}{F:Nat->Bool}:dT n (fY n) F F:=fun j hj=>⟨fun h=>⟨j,h,rfl,hj⟩,fun ⟨_,h,e,_⟩=>e ▸ h⟩
theorem dT.cat{n:Nat}{A B:Rl}{F G H:Nat->Bool}(hB:RB n B)(h:dT n A F G)(k:dT n B G H):dT n (dh A B) F H:=fun j hj=>by
 rw[k j hj]
 constructor
 ·rintro⟨m,h1,h2⟩;have:=hB _ _ h2;obtain⟨i,h3,h4⟩:=(h m (by omega)).1 h1;exact⟨i,h3,m,h4,h2⟩
 rintro⟨i,h3,m,h4,h2⟩;have:=hB _ _ h2;exact⟨m,(h m (by omega)).2 ⟨i,h3,h4⟩,h2⟩
structure gT (n:Nat) (A:Rl) (m t:Nat) (F G H:Nat->Bool):Prop where
 all:∀ j,j<=n->(G j=true↔∃ k,k<=t/\∃ i,F i=true/\cW n A (m+k) i j)
 new:∀ j,j<=n->H j=true->∃ i,F i=true/\cW n A (m+t) i j
 old:∀ i j,j<=n->F i=true->cW n A (m+t) i j->H j=true∨∃ k,k<t/\∃ i,F i=true/\cW n A (m+k) i j
theorem gT.start{n m:Nat}{A:Rl}{F G:Nat->Bool}(h:dT n (cW n A m) F G):gT n A m 0 F G G where
 all:=fun j hj=>by
  rw[h j hj];exact⟨fun ⟨i,h1,h2⟩=>⟨0,Nat.le_refl _,i,h1,h2⟩,fun ⟨k,hk,i,h1,h2⟩=>⟨i,h1,by obtain rfl:k=0:=(by omega);exact h2⟩⟩
 new:=fun j hj hg=>(h j hj).1 hg
 old:=fun i j hj hf hr=>Or.inl ((h j hj).2 ⟨i,hf,hr⟩)
theorem gT.step{n m t:Nat}{A:Rl}{F G H N:Nat->Bool}(hA:RB n A)(h:gT n A m t F G H)(hN:dT n A H N):gT n A m (t+1) F (fun j=>G j||N j) (fun j=>N j && !G j) where
 all:=fun j hj=>by
  simp only[Bool.or_eq_true]
  constructor
  ·rintro(h1|h1)
   ·obtain⟨k,hk,h2⟩:=(h.all j hj).1 h1;exact⟨k,by omega,h2⟩
   obtain⟨q,h2,h3⟩:=(hN j hj).1 h1;have:=hA _ _ h3;obtain⟨i,h4,h5⟩:=h.new q (by omega) h2;exact⟨t+1,Nat.le_refl _,i,h4,q,h5,h3⟩
  rintro⟨k,hk,i,h4,h5⟩
  by_cases e:k<=t
  ·exact Or.inl ((h.all j hj).2 ⟨k,e,i,h4,h5⟩)
  obtain rfl:k=t+1:=by omega
  obtain⟨q,h6,h7⟩:=(show dh (cW n A (m+t)) A i j from h5);have:=hA _ _ h7;rcases h.old i q (by omega) h4 h6 with h8|⟨k,hk,i',h8,h9⟩
  ·exact Or.inr ((hN j hj).2 ⟨q,h8,h7⟩)
  exact Or.inl ((h.all j hj).2 ⟨k+1,by omega,i',h8,q,h9,h7⟩)
 new:=fun j hj hg=>by
  simp only[Bool.and_eq_true]at hg;obtain⟨q,h2,h3⟩:=(hN j hj).1 hg.1;have:=hA _ _ h3;obtain⟨i,h4,h5⟩:=h.new q (by omega) h2;exact⟨i,h4,q,h5,h3⟩
 old:=fun i j hj hf hr=>by
  simp only[Bool.and_eq_true,Bool.not_eq_true'];obtain⟨q,h6,h7⟩:=(show dh (cW n A (m+t)) A i j from hr);have:=hA _ _ h7
  by_cases e:G j=true
  ·obtain⟨k,hk,h2⟩:=(h.all j hj).1 e;exact Or.inr ⟨k,by omega,h2⟩
  rw[Bool.not_eq_true]at e
  left
  refine⟨?_,e⟩;rcases h.old i q (by omega) hf h6 with h8|⟨k,hk,i',h8,h9⟩
  ·exact(hN j hj).2 ⟨q,h8,h7⟩
  have:G j=true:=(h.all j hj).2 ⟨k+1,by omega,i',h8,q,h9,h7⟩;rw[e]at this;cases this
theorem gT.stop{n m t:Nat}{A:Rl}{F G H:Nat->Bool}(hA:RB n A)(h:gT n A m t F G H)(hno:∀ j,j<=n->H j=false):∀ d i j,F i=true->cW n A (m+d) i j->∃ k,k<=t/\∃ i,F i=true/\cW n A (m+k) i j:=by
 intro d
 induction d with
 | zero=>intro i j hf hr;exact⟨0,Nat.zero_le _,i,hf,hr⟩
 | succ d ih =>
  intro i j hf hr;obtain⟨q,h6,h7⟩:=(show dh (cW n A (m+d)) A i j from hr);have hq:=hA _ _ h7;obtain⟨k,hk,i',h8,h9⟩:=ih i q hf h6
  by_cases e:k<t
  ·exact⟨k+1,by omega,i',h8,q,h9,h7⟩
  obtain rfl:k=t:=by omega
  rcases h.old i' q (by omega) h8 h9 with a|⟨k',f,i'',b,c⟩
  ·rw[hno q (by omega)]at a;cases a
  exact⟨k'+1,by omega,i'',b,q,c,h7⟩
theorem gT.ends{n m t:Nat}{A:Rl}{F G H:Nat->Bool}{mx:Int}(hA:RB n A)(h:gT n A m t F G H)(hin:mx = -1∨((m+t:Nat):Int)<=mx)
  (hend:(∀ j,j<=n->H j=false)∨(mx ≠ -1/\((m+t:Nat):Int)=mx)):dT n (jt n A m mx) F G:=fun j hj=>by
 rw[h.all j hj]
 constructor
 ·rintro⟨k,hk,i,h1,h2⟩;exact⟨i,h1,m+k,by omega,by omega,h2⟩
 rintro⟨i,h1,k,h2,h3,h4⟩;obtain⟨d,rfl⟩ : ∃ d,k=m+d:=⟨k-m,by omega⟩;rcases hend with a|⟨e1,e2⟩
 ·exact h.stop hA a d i j h1 h4
 exact⟨d,by omega,i,h1,h4⟩
def dn(G:Nat->Bool):Nat->Nat
 | 0=>0
 | k+1=>dn G k+(if G k then 0 else 1)
theorem mM{G N:Nat->Bool}:∀ k,dn (fun j=>G j||N j) k<=dn G k
 | 0=>Nat.le_refl _
 | k+1=>by
  have:=mM (G:=G) (N:=N) k;simp only[dn];rcases Bool.eq_false_or_eq_true (G k) with hg|hg<;>rcases Bool.eq_false_or_eq_true (N k) with hn|hn<;>simp only[hg,hn]<;>simp<;>omega
theorem rx{G N:Nat->Bool}:∀ {k j:Nat},j<k->N j=true->G j=false->dn (fun j=>G j||N j) k<dn G k
 | 0,j,h,_,_=>absurd h (Nat.not_lt_zero _)
 | k+1,j,h,h1,h2=>by
  simp only[dn]
  by_cases e:j=k
  ·subst e;have:=mM (G:=G) (N:=N) j;simp only[h1,h2];simp;omega
  have:=rx (G:=G) (N:=N) (k:=k) (j:=j) (by omega) h1 h2;rcases Bool.eq_false_or_eq_true (G k) with hg|hg<;>rcases Bool.eq_false_or_eq_true (N k) with hn|hn<;>simp only[hg,hn]<;>simp<;>omega
def vr(w:World)(c:Nat):Nat->Bool:=fun j=>match w.cell? ⟨c,j,none⟩ with
 | some (.bool b)=>b
 | _=>false
theorem Ca{w:World}{n c:Nat}{G:Nat->Bool}(h:BR w n c G){j:Nat}(hj:j<=n):vr w c j=G j:=by
 unfold vr;rw[World.rowIs.cell h (by omega)]
theorem kO{F G:Nat->Bool}:∀ {k:Nat},(∀ j,j<k->F j=G j)->dn F k=dn G k
 | 0,_=>rfl
 | k+1,h=>by
  simp only[dn];rw[kO (fun j hj=>h j (by omega)),h k (by omega)]
theorem oz{w:World}{n c:Nat}{G:Nat->Bool}(h:BR w n c G):dn (vr w c) (n+1)=dn G (n+1):=kO (fun j hj=>Ca h (by omega))
theorem oW(G:Nat->Bool):∀ k,dn G k<=k
 | 0=>Nat.le_refl _
 | k+1=>by
  have:=oW G k;simp only[dn]
  split<;>omega
def FL(v:Value):Nat:=match v with
 | .bool true=>1
 | _=>0
theorem Dj(bs:List Int)(l:List El)(A:Rl)(m:Nat)(mx:Int)(hA:RB bs.length A)(hl:vE bs l A)(hne:0<l.length)(hm:m<=250)(o4:mx = -1∨((m:Int)<=mx/\mx<=250)):vE bs (l++[⟨4,[],m,mx⟩]) (jt bs.length A m mx):=by
 intro v lv bq F w hv a4 S T a5;have U:=hv;obtain⟨a,cp,rfl,-,-⟩:=id hv;obtain⟨s,Q,b,off,rfl,bi,av⟩:=hv.last;rw[s]at hv U Q ⊢;simp only[List.length_append,List.length_singleton]at a4 s;unfold maxLen at Q;obtain⟨i1,i2,i3,sv,c0,c1,c2,c3,B⟩:=av;obtain⟨sa,sc,rfl,-,-,-⟩:=id B;simp only at c0 c2 c3;obtain⟨la,lc,rfl,-,-⟩:=id S;clear s i1 i2 i3 B;have a6:az 0 w.heap.size w (.slice (some ⟨b,off,none⟩) l.length cp) l:=U.pre;have W:=ae a6;have e1:(((l.length+1:Nat):Int)-1)=((l.length:Nat):Int):=by omega
 have X:=ae S;have Y:=ae T;have HH:=ae hl;have HA:=ae hA;have hn:=T.1;have Z:=run_make_row' (P:=prog) 31 4 (.bool false) 1 underlying31 Tryz.zinBoolM rfl .i64 .i64 (bs.length+1) (by omega) (by omega);simp only[Int.natCast_add,Int.natCast_one]at Z;have a0:=aH w (.cells #[.int .i64 4,.slice sa 0 sc,.int .i64 m,.int .i64 mx] 70) (.cells (madeCells #[.bool false] (bs.length+1)) 4);have h0:=fT (w.alloc (.cells #[.int .i64 4,.slice sa 0 sc,.int .i64 m,.int .i64 mx] 70)) bs.length;rw[ah]at h0;obtain⟨w3,a1,a7,i⟩:=ja _ bs.length (w.heap.size+1) bq _ F h0 (a5.below a0 lR);have a8:w.heap.size+2<=w3.heap.size:=by rw[i.size,ah,ah];omega
 have a9:Hi (Below w.heap.size w w3):=a0.trans (lQ i (by omega));have r:=ae a7;have q2:w3.cell? ⟨w.heap.size,2,none⟩=some (.int .i64 m):=by
  rw[World.cell?_of_block (a:=⟨w.heap.size,2,none⟩) (i.block w.heap.size (by omega))];exact((ai _ _).cell (p:=⟨w.heap.size,2,none⟩) (by rw[ah];exact Nat.lt_succ_self _)).trans ((au w _).news 2 _ rfl)
 have q3:w3.cell? ⟨w.heap.size,3,none⟩=some (.int .i64 mx):=by
  rw[World.cell?_of_block (a:=⟨w.heap.size,3,none⟩) (i.block w.heap.size (by omega))];exact((ai _ _).cell (p:=⟨w.heap.size,3,none⟩) (by rw[ah];exact Nat.lt_succ_self _)).trans ((au w _).news 3 _ rfl)
 have L:=ae q2;have C:=ae q3;clear a6 hv U hl S T a5 a0 h0 i a7 q2 q3 hA
 go_enter func36,ntmps36
 go_wp2_with fail
 go_loopw [9,16] (fun ov iv wr=>∃ (k c:Nat) (G:Nat->Bool),k<=m/\iv=.int .i64 k/\ov=vB c bs.length/\w.heap.size+1<=c/\BR wr bs.length c G/\dT bs.length (cW bs.length A k) F G/\wr.cell? ⟨w.heap.size,2,none⟩=some (.int .i64 m)/\wr.cell? ⟨w.heap.size,3,none⟩=some (.int .i64 mx)/\w.heap.size+2<=wr.heap.size/\Below w.heap.size w wr) (fun _ iv _=>m-(intOf iv).toNat)
 case atStart=>exact⟨0,_,F,Nat.zero_le _,rfl,rfl,Nat.le_refl _,r.u,dT.eps,L.u,C.u,a8,a9.u⟩
 clear r L C a8 a9 a1 c0 c1 c2 c3;obtain⟨k,c,G,hk,rfl,rfl,hc,hG,hE,q2,q3,hz,hB⟩:=hrel;have HG:=ae hG;have HE:=ae hE;have HB:=ae hB;clear hG hE hB
 by_cases hlt:k<m
 ·have bc:(k:Int)<(m:Int):=by omega
  clear Z
  go_wp2_with fail;refine(HH.u _ _ c G _ (W.u.below HB.u lR) (by omega) (X.u.below HB.u lR) Y.u HG.u).mono ?_;rintro e w1 ⟨g1,G1,rfl,D,n,o,f⟩;have aw:Hi (Below w.heap.size w w1):=HB.u.trans (f.mono (by omega));have ax:=ae n;have b0:=ae (HE.u.cat HA.u o);have q2':w1.cell? ⟨w.heap.size,2,none⟩=some (.int .i64 m):=(f.cell (p:=⟨w.heap.size,2,none⟩) (by show w.heap.size<_;omega)).trans q2;have q3':w1.cell? ⟨w.heap.size,3,none⟩=some (.int .i64 mx):=(f.cell (p:=⟨w.heap.size,3,none⟩) (by show w.heap.size<_;omega)).trans q3;have b1:=f.size;clear n o f q2 q3;go_wp2
  go_roundw
  case rel=>exact⟨k+1,g1,G1,by omega,by go_num,rfl,by omega,ax.u,b0.u,q2',q3',by omega,aw.u⟩
  simp[intOf];omega
 have ek:k=m:=by omega
 subst ek;obtain⟨V,hV⟩ : ∃ V,V=wr:=⟨_,rfl⟩;rw[<-hV]at HG HB q2 q3 hz ⊢;clear hV;have E:=ai V (.cells (madeCells #[.bool false] (bs.length+1)) 4);have bj:=HG.u.lt;obtain⟨w5,a1,aa,i⟩:=ja _ bs.length V.heap.size c _ G (fT V bs.length) (HG.u.below E lR);have ab:=ae aa;have ad:=ae ((HG.u.below E lR).keep (i.block c (by omega)));have af:Hi (Below w.heap.size w w5):=HB.u.trans ((E.trans (lQ i lR)).mono (by omega));have M:Below V.heap.size V w5:=E.trans (lQ i lR);have q2':w5.cell? ⟨w.heap.size,2,none⟩=some (.int .i64 k):=(M.cell (p:=⟨w.heap.size,2,none⟩) (by show w.heap.size<_;omega)).trans q2;have q3':w5.cell? ⟨w.heap.size,3,none⟩=some (.int .i64 mx):=(M.cell (p:=⟨w.heap.size,3,none⟩) (by show w.heap.size<_;omega)).trans q3;have bl:=M.size;have L:=ae q2';have C:=ae q3';clear aa i E M q3 q3'
 go_wp2_with fail
 go_loopw [17,18,19] (fun fv sv iv wr=>∃ (t fb:Nat) (G H:Nat->Bool) (x:Bool),iv=.int .i64 ((k+t:Nat):Int)/\sv=.bool x/\fv=vB fb bs.length/\c≠fb/\BR wr bs.length c G/\BR wr bs.length fb H/\gT bs.length A k t F G H/\(x=true∨∀ j,j<=bs.length->H j=false)/\(mx = -1∨((k+t:Nat):Int)<=mx)/\(x=true->t+dn G (bs.length+1)<=bs.length+1)/\t<=bs.length+2/\wr.cell? ⟨w.heap.size,3,none⟩=some (.int .i64 mx)/\w.heap.size+2<=wr.heap.size/\Below w.heap.size w wr) (fun _ sv _ wr=>2*dn (vr wr c) (bs.length+1)+FL sv)
 case atStart=>exact⟨0,V.heap.size,G,G,true,rfl,rfl,rfl,by omega,ad.u,ab.u,gT.start HE.u,Or.inl rfl,o4.imp id (fun h=>h.1),fun _=>by have:=oW G (bs.length+1);omega,by omega,C.u,by omega,af.u⟩
 clear ab ad L C af a1 q2 q2' HG HB HE Z;obtain⟨t,fb,G2,H,x,rfl,rfl,rfl,bd,ag,hH,al,hx,b2,an,ht,q3,bn,hB⟩:=hrel;have O:=ae ag;have ao:=ae hH;have ap:=ae al;have HB:=ae hB;have b3:=ae an;clear ag hH al hB an;have R:((∀ j,j<=bs.length->H j=false)∨(mx ≠ -1/\((k+t:Nat):Int)=mx))->yf bs.length (jt bs.length A k mx) F w wr (.returned (vB c bs.length)):=fun h=>⟨c,G2,rfl,by omega,O.u,ap.u.ends HA.u b2 h,HB.u⟩
 have q:=ae R;clear R;have z:x=true->(mx = -1∨((k+t:Nat):Int)<mx)->∀ (w1:World) (g1:Nat) (N1:Nat->Bool),wr.heap.size<=g1->BR w1 bs.length g1 N1->dT bs.length A H N1->Below wr.heap.size wr w1->
   Calls prog 73 #[vB c bs.length,vB g1 bs.length] w1 fun e w'=>∃ y,e=.returned (.tuple #[vB w1.heap.size bs.length,.bool y])/\
    (∃ (t' fb':Nat) (G' H':Nat->Bool) (x':Bool),(Value.int .i64 (((k+t:Nat):Int)+1))=.int .i64 ((k+t':Nat):Int)/\Value.bool y=.bool x'/\vB w1.heap.size bs.length=vB fb' bs.length/\c≠fb'/\BR w' bs.length c G'/\BR w' bs.length fb' H'/\gT bs.length A k t' F G' H'/\(x'=true∨∀ j,j<=bs.length->H' j=false)/\(mx = -1∨((k+t':Nat):Int)<=mx)/\(x'=true->t'+dn G' (bs.length+1)<=bs.length+1)/\t'<=bs.length+2/\w'.cell? ⟨w.heap.size,3,none⟩=some (.int .i64 mx)/\w.heap.size+2<=w'.heap.size/\Below w.heap.size w w')/\
    2*dn (vr w' c) (bs.length+1)+FL (.bool y)<2*dn (vr wr c) (bs.length+1)+1:=by
  intro b4 aq w1 g1 N1 D n o f;have bf:=O.u.lt;have b5:=O.u.below f lR;have b1:=f.size;refine(tU bs.length c g1 G2 N1 w1 b5 n (by omega) (by omega)).mono ?_;rintro e w' ⟨y,rfl,ar,b6,hy,a2⟩;have b7:=oz ar;have b8:=oz O.u;have bo:=mM (G:=G2) (N:=N1) (bs.length+1);have hlt:y=true->dn (fun j=>G2 j||N1 j) (bs.length+1)<dn G2 (bs.length+1):=fun h=>by
   obtain⟨j,h1,h2,h3⟩:=hy.1 h;exact rx (by omega) h2 h3
  have hq:w'.cell? ⟨w.heap.size,3,none⟩=some (.int .i64 mx):=by
   rw[World.cell?_of_block (a:=⟨w.heap.size,3,none⟩) (a2.block w.heap.size (by rintro(h|h)<;>omega)),f.cell (p:=⟨w.heap.size,3,none⟩) (by show w.heap.size<_;omega)];exact q3
  have br:=a2.size;have bt:=b3.u b4;refine⟨y,rfl,⟨t+1,w1.heap.size,_,_,y,rfl,rfl,rfl,by omega,ar,b6,ap.u.step HA.u o,?_,aq.imp id (fun h=>by omega),fun h=>by have:=hlt h;omega,by omega,hq,by omega,HB.u.trans ((f.mono (by omega)).trans (a2.below (m:=w.heap.size) (fun k2 hk2=>by rintro(h|h)<;>omega)))⟩,?_⟩
  ·cases y with
   | true=>exact Or.inl rfl
   | false =>
    right
    intro j hj
    by_cases e:(N1 j && !G2 j)=true
    ·simp only[Bool.and_eq_true,Bool.not_eq_true']at e;have:=hy.2 ⟨j,hj,e.1,e.2⟩;cases this
    exact Bool.eq_false_iff.2 e
  rw[b7,b8];cases y with
  | true=>have:=hlt rfl;simp only[FL];omega
  | false=>simp only[FL];omega
 have d:=ae z;have bv:mx = -1∨mx<=250:=o4.imp id (fun h=>h.2);clear z;cases x with
 | false =>
  have HR:=ae (q.u (Or.inl (hx.resolve_left (by decide))));clear hx q d;go_wp2;go_ret;exact HR.u
 | true =>
  clear hx
  by_cases h1:mx = -1
  ·subst h1;have I:=ae (d.u rfl (Or.inl rfl));clear d q
   go_wp2_with fail;refine(HH.u _ _ fb H _ (W.u.below HB.u lR) (by omega) (X.u.below HB.u lR) Y.u ao.u).mono ?_;rintro e w1 ⟨g1,G1,rfl,D,n,o,f⟩;have r:=ae (I.u w1 g1 G1 D n o f);clear n o f I
   go_wp2_with fail;refine r.u.mono ?_;rintro e w2 ⟨y,rfl,g,J⟩;have K:=ae g;have a3:=ae J;clear g J r;go_wp2
   go_roundw
   case rel=>exact K.u
   exact a3.u
  by_cases h2:((k+t:Nat):Int)<mx
  ·have I:=ae (d.u rfl (Or.inr h2));have b9:(mx == -1)=false:=by rw[beq_eq_false_iff_ne];exact h1
   have bb:(k:Int)+(t:Int)<mx:=by omega
   clear d q
   go_wp2_with fail;refine(HH.u _ _ fb H _ (W.u.below HB.u lR) (by omega) (X.u.below HB.u lR) Y.u ao.u).mono ?_;rintro e w1 ⟨g1,G1,rfl,D,n,o,f⟩;have r:=ae (I.u w1 g1 G1 D n o f);clear n o f I
   go_wp2_with fail;refine r.u.mono ?_;rintro e w2 ⟨y,rfl,g,J⟩;have K:=ae g;have a3:=ae J;clear g J r;go_wp2
   go_roundw
   case rel=>exact K.u
   exact a3.u
  have b9:(mx == -1)=false:=by rw[beq_eq_false_iff_ne];exact h1
  have bb:¬ (k:Int)+(t:Int)<mx:=by omega
  have HR:=ae (q.u (Or.inr ⟨h1,by omega⟩));clear q d h2;go_wp2;go_ret;exact HR.u
end Go.Proofs.YtpmcjimgkabpeaaGreatDoor
