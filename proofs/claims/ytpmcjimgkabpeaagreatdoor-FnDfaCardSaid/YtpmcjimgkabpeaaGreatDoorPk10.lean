import Derived.Test.YtpmcjimgkabpeaaGreatDoorPk9
namespace Go.Proofs.YtpmcjimgkabpeaaGreatDoor
open Go.RowKit Go.Proofs.Tryz
set_option maxHeartbeats 16000000
set_option maxRecDepth 100000
theorem zH{base e sz n:Nat}{w:World}{v:Value}{xs:List Value}(h:w.ownsRow base e sz v n xs)(hp:0<n):∃ g cap,v=.slice (some ⟨g,0,none⟩) n cap:=by
 obtain⟨g,cap,m,F,rfl,-⟩:=fe h hp;exact⟨g,cap,rfl⟩
theorem tY(O:Nat->Prop)(A N:Nat)(S:List (List Int))(K:List Lk)(g:Nat->Nat)(xs:List Int)(w:World)(h:cO O A w N S K)(hO:∀ k,w.heap.size<=k->O k)(hw:du xs g)(hc:cU xs)(hN:N+1<=512) :
  Calls prog 89 #[.pointer (some ⟨A,0,none⟩),fZ g] w fun e w'=>∃ f,e=.returned (eZ false f f)/\bD f [N]/\cO O A w' (N+1) (S++[xs]) K/\aR O w w':=by
 obtain⟨i0,Y,Z,a4,a5⟩:=info_parts Tryz.zinBS;obtain⟨j0,a6,a7,a8,a9⟩:=info_parts Tryz.zinPS;obtain⟨sv,fv,gs,hs,hM,E,v,y,F,l⟩:=h;obtain⟨sa,sc,rfl⟩:=aj hM.so;obtain⟨fa,fc,rfl⟩:=aj hM.fo;have HW:=ae hw;have HC:=ae hc;have HO:=ae hO;have G:=ae v;have I:=ae y;have aa:=ae F;have HZ:=ae l;have p:=ae E;obtain⟨W1,d⟩ : ∃ W1,W1=((w.alloc (o4 g)).alloc xl).alloc FJ:=⟨_,rfl⟩;have hz:W1.heap.size=w.heap.size+3:=by rw[d,ah,ah,ah]
 have B:Below w.heap.size w W1:=by
  rw[d];exact(aH w _ _).trans ((ai _ _).mono (by rw[ah,ah];omega))
 have r4:W1.rowIs w.heap.size 88 4 (fun j=>.int .u64 (g j:Nat)):=by
  rw[d];exact((ir w _ g).alloc _).alloc _
 have rE:ay W1 (w.heap.size+1) false z8 z8:=by
  have:=fy (w.alloc (o4 g));rw[ah]at this;rw[d];exact World.rowIs.alloc this _
 have r8:W1.rowIs (w.heap.size+2) 102 8 (wd z8):=by
  have:=tH ((w.alloc (o4 g)).alloc xl);rw[ah,ah]at this;rw[d];exact this
 obtain⟨cA,-,-,-⟩:=(hM.keep (fun k _ hk=>B.block k hk)).facts;have HM:=ae hM;have HP:=ae (Ci (w.heap.size+2) N z8 W1 pf (by omega) r8);have J:=ae r4;have L:=ae rE;clear hw hc hO v y F l E hM r4 rE r8;rw[d]at cA;unfold fZ;have M:=ae d
 go_enter func89,ntmps89
 go_wp2_with fail;rw[<-M.u];refine HP.u.mono ?_;rintro e w2 ⟨rfl,P,b⟩;clear cA M d HP;have z:w2.heap.size=w.heap.size+3:=b.size.trans hz;have r:Below w.heap.size w w2:=B.trans ⟨b.os,b.tape,b.output,by rw[b.size];exact Nat.le_refl _,fun k hk=>b.block k (by omega)⟩;have m:=HM.u.skip r;have Q:∀ k,w2.heap.size<=k->Sk O w.heap.size w2.heap.size k:=fun k hk=>⟨HO.u k (by omega),Or.inr hk⟩
 have r4:=J.u.of_block (b.block _ (by omega));have R:=ae (L.u.on (b.block _ (by omega)));have ab:=ae P;have k0:=r4.cell (i:=0) (by omega);have k1:=r4.cell (i:=1) (by omega);have k2:=r4.cell (i:=2) (by omega);have k3:=r4.cell (i:=3) (by omega);obtain⟨a0,a1,a2,a3⟩:=m.facts;have T:=ae m.so;have U:=ae m;have V:=ae Q;have ao:=ae r;have ap:A<w.heap.size:=HM.u.lt;have n:Hi (∀ k,w.heap.size<=k->k<w.heap.size+3->¬ Sk O w.heap.size w2.heap.size k):=fun k q1 q2 q=>by rcases q.2 with q|q<;>omega
 have aq:¬ A=w.heap.size+1:=by omega
 have ad:¬ w.heap.size+1=A:=by omega
 have ar:¬ A=w.heap.size+1+1:=by omega
 have av:¬ w.heap.size+1+1=A:=by omega
 have W:Hi (∀ (w9 wf:World) (sv' fv':Value),kq (Sk O w.heap.size w2.heap.size) A w9 sv' fv' (N+1) (N+1) (fun i=>if i=N then g else gs i) hs->aR (Sk O w.heap.size w2.heap.size) w2 w9->cd (w.heap.size+1) w9 wf->∃ f,Ending.returned (eZ false (iA z8 N) (iA z8 N))=.returned (eZ false f f)/\bD f [N]/\cO O A wf (N+1) (S++[xs]) K/\aR O w wf):=fun w9 wf sv' fv' hm hf hob9=>by
  have af:=(hm.keep (w':=wf) (fun k hk _=>hob9.block k (fun e=>n.u k (by omega) (by omega) hk))).mono Sk.sub;refine⟨_,rfl,wk N,⟨_,_,_,_,af,by rw[List.length_append,p.u];rfl,fun i hi=>?_,I.u,aa.u,fun i hi=>HZ.u i (by omega)⟩,?_⟩
  ·(try dsimp only)
   by_cases e:i=N
   ·subst e;rw[if_pos rfl,List.getElem?_append_right (by rw[p.u];exact Nat.le_refl _),p.u,Nat.sub_self];exact⟨HC.u,HW.u⟩
   rw[if_neg e,List.getElem?_append_left (by rw[p.u];omega)];exact G.u i (by omega)
  exact(bh r HO.u).trans ((hf.mono Sk.sub).trans (hob9.fro (HO.u _ (by omega))))
 obtain⟨b0,-,-,-⟩:=(m.keep (w':=w2.alloc (.cells #[.int .u64 (g 0:Nat),.int .u64 (g 1:Nat),.int .u64 (g 2:Nat),.int .u64 (g 3:Nat)] 88)) (fun k _ hk=>(ai w2 _).block k hk)).facts;have aw:=ae z;clear P b m Q r4 J L HM B hz r z;have X:Hi (∀ (WA w7:World) (gg cap:Nat),w7.ownsRow 0 88 4 (.slice (some ⟨gg,0,none⟩) (N+1) cap) (N+1) (be 4 N gs++[wd g 0,wd g 1,wd g 2,wd g 3])->WA.grownBy w7 (Value.slice sa N sc).ownBlock->((Value.slice sa N sc).ownBlock=some gg∨gg=w2.heap.size+1)->aK w2 WA (.cells #[wd g 0,wd g 1,wd g 2,wd g 3] 88)->
   kq (Sk O w.heap.size w2.heap.size) A (w7.setCell ⟨A,0,none⟩ (.slice (some ⟨gg,0,none⟩) (N+1) cap)) (.slice (some ⟨gg,0,none⟩) (N+1) cap) (.slice fa N fc) (N+1) N (fun i=>if i=N then g else gs i) hs/\aR (Sk O w.heap.size w2.heap.size) w2 (w7.setCell ⟨A,0,none⟩ (.slice (some ⟨gg,0,none⟩) (N+1) cap))/\w7.frozen? ⟨A,0,none⟩=false/\w7.cell? ⟨A,0,none⟩=some (.slice sa N sc)):=fun WA w7 gg cap r1 r2 r3 hP=>by
  obtain⟨q1,q2,-,q3,q4⟩:=U.u.pushS (H:=w2.heap.size+1) hP.below hP.size V.u r1 r2 r3;exact⟨q1,q2,q3,q4⟩
 go_wp2_with fail
 go_region_law (
  (refine step_append_lies _ rfl (.tmp 16) (.tmp 18) 100 rfl 0 88 i0 (.agg #[.int .u64 0,.int .u64 0,.int .u64 0,.int .u64 0]) 4 32 underlying100 Y Z a4 a5 rfl (by decide) (.slice sa N sc) N (be 4 N gs) (by first|(simp[Act.eval];done)|(simp[Act.eval,Act.put];done)) (by refine aK.own (w:=w2) (o:=.cells #[wd g 0,wd g 1,wd g 2,wd g 3] 88) ?_ T.u;exact⟨rfl,rfl,rfl,rfl⟩) ⟨w2.heap.size,0,none⟩ 1 1 [wd g 0,wd g 1,wd g 2,wd g 3] (by first|(simp[Act.eval];done)|(simp[Act.eval,Act.put];done)) rfl (by refine aK.news (w:=w2) (cs:=#[wd g 0,wd g 1,wd g 2,wd g 3]) (t:=88) ?_;exact⟨rfl,rfl,rfl,rfl⟩) (by intro u hu;simp only[List.mem_cons,List.not_mem_nil,or_false]at hu;rcases hu with rfl|rfl|rfl|rfl<;>rfl) (by decide) (by unfold maxLen;omega) (by omega) (Nat.zero_le _) (w2.heap.size+1) (ah w2 _) (fun gg cap w7 r1 r2 r3 r4=>?_);have h7:=ae (X.u _ w7 gg cap r1 r2 r3 (by exact⟨rfl,rfl,rfl,rfl⟩));obtain⟨-,-,z7,c7⟩:=h7.u;clear r1 r2 r3 r4))
 all_goals
  obtain⟨s,C,-,-⟩:=h7.u;clear z7 c7 h7 X;generalize w7.setCell ⟨A,0,none⟩ (.slice (some ⟨gg,0,none⟩) (N+1) cap)=w3 at *;obtain⟨-,a1,-,a3⟩:=s.facts;have ag:=ae s.fo;have al:=ae s;have D:=ae C;have ax:=C.size;clear s C a0 k0 k1 k2 k3 b0 T a2 U
  go_wp2_with (at_builtin;refine wpList_append_own_at _ rfl (.tmp 26) (.tmp 28) 52 rfl 0 102 j0 (.agg #[.int .u64 0,.int .u64 0,.int .u64 0,.int .u64 0,.int .u64 0,.int .u64 0,.int .u64 0,.int .u64 0]) 8 64 underlying52 a6 a7 a8 a9 rfl (by decide) (.slice fa N fc) N (be 8 N hs) (by first|(simp[Act.eval];done)|(simp[Act.eval,Act.put];done)) (by refine aK.own (w:=w3) (o:=FJ) ?_ ag.u;exact⟨rfl,rfl,rfl,rfl⟩) ⟨w3.heap.size,0,none⟩ 1 1 [wd z8 0,wd z8 1,wd z8 2,wd z8 3,wd z8 4,wd z8 5,wd z8 6,wd z8 7] (by first|(simp[Act.eval];done)|(simp[Act.eval,Act.put];done)) rfl (by refine aK.news (w:=w3) (cs:=#[wd z8 0,wd z8 1,wd z8 2,wd z8 3,wd z8 4,wd z8 5,wd z8 6,wd z8 7]) (t:=102) ?_;exact⟨rfl,rfl,rfl,rfl⟩) (by intro u hu;simp only[List.mem_cons,List.not_mem_nil,or_false]at hu;rcases hu with rfl|rfl|rfl|rfl|rfl|rfl|rfl|rfl<;>rfl) (by unfold maxLen;omega) (by omega) (Nat.zero_le _) ?_;intro fv2 w8 r1 r2 _ r3;obtain⟨g2,cap2,rfl⟩:=zH r1 (by omega);have h8:=ae (al.u.pushF (H:=w3.heap.size+1) (x:=z8) (ai w3 FJ) (ah w3 _) (fun k hk=>V.u k (by omega)) (HZ.u N lR) r1 r2 (r3.imp (fun e=>e.symm) (fun e=>by have:=Option.some.inj e;exact this.trans (ah w3 _))));obtain⟨-,-,hF8,z8',c8⟩:=h8.u;have a:=R.u.on ((hF8.block _ (n.u _ (by omega) (by omega))).trans (D.u.block _ (n.u _ (by omega) (by omega))));have c:=ab.u.of_block ((hF8.block _ (n.u _ (by omega) (by omega))).trans (D.u.block _ (n.u _ (by omega) (by omega))));have p0:=c.cell (i:=0) (by omega);have p1:=c.cell (i:=1) (by omega);have p2:=c.cell (i:=2) (by omega);have p3:=c.cell (i:=3) (by omega);have p4:=c.cell (i:=4) (by omega);have p5:=c.cell (i:=5) (by omega);have p6:=c.cell (i:=6) (by omega);have p7:=c.cell (i:=7) (by omega);have q0:=a.cell 0 (by omega);have q1:=a.cell 1 (by omega);have q2:=a.cell 2 (by omega);have q3:=a.cell 3 (by omega);have q4:=a.cell 4 (by omega);have q5:=a.cell 5 (by omega);have q6:=a.cell 6 (by omega);have q7:=a.cell 7 (by omega);have q8:=a.cell 8 (by omega);have q9:=a.cell 9 (by omega);have q10:=a.cell 10 (by omega);have q11:=a.cell 11 (by omega);have q12:=a.cell 12 (by omega);have q13:=a.cell 13 (by omega);have q14:=a.cell 14 (by omega);have q15:=a.cell 15 (by omega);have q16:=a.cell 16 (by omega);have y0:=World.rowIs.frozen a 0;have y1:=World.rowIs.frozen a 1;have y2:=World.rowIs.frozen a 2;have y3:=World.rowIs.frozen a 3;have y4:=World.rowIs.frozen a 4;have y5:=World.rowIs.frozen a 5;have y6:=World.rowIs.frozen a 6;have y7:=World.rowIs.frozen a 7;have y8:=World.rowIs.frozen a 8;have y9:=World.rowIs.frozen a 9;have y10:=World.rowIs.frozen a 10;have y11:=World.rowIs.frozen a 11;have y12:=World.rowIs.frozen a 12;have y13:=World.rowIs.frozen a 13;have y14:=World.rowIs.frozen a 14;have y15:=World.rowIs.frozen a 15;have y16:=World.rowIs.frozen a 16;unfold wd at p0 p1 p2 p3 p4 p5 p6 p7;have an:=ae a;clear a c r1 r2 r3 hF8)
  refine bodyPost_ret (cn (Cc (World.rowIs.of_block an.u (Below.heap_setCell w8 ⟨A,1,none⟩ _ (w.heap.size+1) ad)) false (iA z8 N) (iA z8 N)) rfl _ rfl) rfl ?_;exact W.u _ _ _ _ h8.u.1 (D.u.trans h8.u.2.1) (DA _ _ _ _ _)
theorem jx{f g:Nat->Nat}{xs ys:List Nat}(h:bD f xs)(k:bD g ys):bD (cD f g) (xs++ys):=⟨qq h.1 k.1,fun b=>by rw[uW,h.2,k.2];simp⟩
theorem vz{f:Nat->Nat}{xs ys:List Nat}(h:bD f (xs++ys)):bD f (ys++xs):=⟨h.1,fun b=>by rw[h.2];simp[Bool.or_comm]⟩
theorem zx:bD z8 []:=⟨pf,fun b=>by simp[Bt,z8]⟩
def dR(U:Value)(n:Nat)(a:It)(ln:List Lk)(ss:List (List Int)):Prop:=
 (∃ T x,U=.iface T x)/\∀ (O:Nat->Prop) (A:Nat) (w:World) (N:Nat) (S:List (List Int)) (K:List Lk),cO O A w N S K->(∀ k,w.heap.size<=k->O k)->uj O w->N+n<=512->
  Calls prog 49 #[.pointer (some ⟨A,0,none⟩),U] w fun e w'=>∃ f l,e=.returned (eZ a.nl f l)/\bD f (a.sh N).fi/\bD l (a.sh N).la/\cO O A w' (N+n) (S++ss) (K++cT N ln)/\aR O w w'
theorem dR.e:dR eV 0 ⟨true,[],[]⟩ [] []:=by
 refine⟨⟨_,_,rfl⟩,fun O A w N S K h hO htz hN=>?_⟩;unfold eV;have t1:=EW;have t2:=Fi;have t3:=Fb;have t4:=EX;have HE:=ae (dg w true z8 z8);have HA:Hi (cO O A (w.alloc (oE true z8 z8)) (N+0) (S++[]) (K++cT N [])):=by
  show cO _ _ _ _ _ _;have:=h.keep (w':=w.alloc (oE true z8 z8)) (fun k _ hk=>(ai w _).block k hk)
  simpa[cT]using this
 have HF:=ae (bh (ai w (oE true z8 z8)) hO);clear h hO htz
 go_enter func49,ntmps49
 go_wp2;refine bodyPost_ret (cn HE.u rfl _ rfl) rfl ?_;exact⟨_,_,rfl,zx,zx,HA.u,HF.u⟩
theorem dR.s{g:Nat->Nat}{xs:List Int}(hw:du xs g)(hc:cU xs):dR (sV g) 1 ⟨false,[0],[0]⟩ [] [xs]:=by
 refine⟨⟨_,_,rfl⟩,fun O A w N S K h hO htz hN=>?_⟩;obtain⟨W1,a⟩ : ∃ W1,W1=(w.alloc xl).alloc (.cells #[.int .u64 (g 0:Nat),.int .u64 (g 1:Nat),.int .u64 (g 2:Nat),.int .u64 (g 3:Nat)] 91):=⟨_,rfl⟩;have hz:W1.heap.size=w.heap.size+2:=by rw[a,ah,ah]
 have b:Below w.heap.size w W1:=by
  rw[a];exact aH w _ _
 have e1:ay W1 w.heap.size false z8 z8:=by
  rw[a];exact World.rowIs.alloc (fy w) _
 have hA:=tY (Sk O w.heap.size W1.heap.size) A N S K g xs W1 (h.skip b) (fun k hk=>⟨hO k (by omega),Or.inr hk⟩) hw hc hN;have HA:=ae hA;have HE:=ae e1;have HO:=ae hO;have HB:=ae b;have HZ:=ae hz;have d:=ae a;clear hA e1 b hz a h hO htz hw hc;unfold sV fZ;have t1:=Ex
 go_enter func49,ntmps49
 go_wp2_with fail;rw[<-d.u];clear d;refine HA.u.mono ?_;rintro e w2 ⟨f,rfl,hf,ha,c⟩;have i:=ae (ay.on HE.u (c.block _ (fun q=>by have:=HZ.u;rcases q.2 with q|q<;>omega)));have j:=ae hf;have l:=ae ha;have m:=ae c;clear hf ha c HA HE;unfold eZ
 go_wp2_with (refine wpList_store_row rfl 104 (.tmp 4) (.tmp 19) rfl (w.heap.size) #[.bool false,.int .u64 (f 0:Nat),.int .u64 (f 1:Nat),.int .u64 (f 2:Nat),.int .u64 (f 3:Nat),.int .u64 (f 4:Nat),.int .u64 (f 5:Nat),.int .u64 (f 6:Nat),.int .u64 (f 7:Nat),.int .u64 (f 0:Nat),.int .u64 (f 1:Nat),.int .u64 (f 2:Nat),.int .u64 (f 3:Nat),.int .u64 (f 4:Nat),.int .u64 (f 5:Nat),.int .u64 (f 6:Nat),.int .u64 (f 7:Nat)] (by simp[Act.eval]) (by simp[Act.eval]) 104 _ (ay.blk i.u) (by kernel_rfl) rfl (je _ _ _) ?_)
 refine bodyPost_ret (cn (ay.row i.u _ _ _) rfl _ rfl) rfl ?_;have n:∀ k,Sk O w.heap.size W1.heap.size k->k≠w.heap.size:=fun k q e=>by have:=HZ.u;rcases q.2 with q|q<;>omega
 refine⟨f,f,rfl,j.u,j.u,?_,?_⟩
 ·have:=(l.u.keep (w':=w2.setRow w.heap.size #[.bool false,.int .u64 (f 0:Nat),.int .u64 (f 1:Nat),.int .u64 (f 2:Nat),.int .u64 (f 3:Nat),.int .u64 (f 4:Nat),.int .u64 (f 5:Nat),.int .u64 (f 6:Nat),.int .u64 (f 7:Nat),.int .u64 (f 0:Nat),.int .u64 (f 1:Nat),.int .u64 (f 2:Nat),.int .u64 (f 3:Nat),.int .u64 (f 4:Nat),.int .u64 (f 5:Nat),.int .u64 (f 6:Nat),.int .u64 (f 7:Nat)]) (fun k hk _=>setRow_other _ _ _ _ (n k hk))).mono Sk.sub
  simpa[cT]using this
 exact(bh HB.u HO.u).trans ((m.u.mono Sk.sub).trans ((dO _ _ _).fro (HO.u _ lR)))
theorem cM{ops:Array Oper}{o:Oper}{a:Act}{w:World}{K:Act->World->Prop}{Q:Exit->Act->World->Prop}{E:Prop}(hgd:o.guard=none)(ty:TypeId)(x y:Operand)(ho:o.op=.store ty x y)
  (g:Nat)(cells:Array Value)(hx:a.eval x=.pointer (some ⟨g,0,none⟩))(hy:a.eval y=.agg cells)(t:TypeId)(old:Array Value)(hg:w.heap[g]?=some (.cells old t (0,0)))(hi:(prog.info? ty).map (·.size)=some cells.size)
  (hold:old.size=cells.size)(h1:cells.all (·.oneCell')=true)(h:K (a.put o.dst undef) (w.setRow g cells)):if Region.wanted o (yielded ops a.tmps)=true then Oper.wp prog o a w K Q else E:=by
 have hw:Region.wanted o (yielded ops a.tmps)=true:=by simp[Region.wanted,hgd]
 rw[if_pos hw];exact wp_store_row ty x y ho g cells hx hy t old hg hi hold h1 h
theorem cS{ops:Array Oper}{o:Oper}{a:Act}{w:World}{K:Act->World->Prop}{Q:Exit->Act->World->Prop}{E:Prop}{b:Bool}{f l:Nat->Nat}(hgd:o.guard=none)(x:Operand)(ho:o.op=.load 104 x)
  (g:Nat)(hx:a.eval x=.pointer (some ⟨g,0,none⟩))(hg:w.heap[g]?=some (.cells #[.bool b,.int .u64 (f 0:Nat),.int .u64 (f 1:Nat),.int .u64 (f 2:Nat),.int .u64 (f 3:Nat),.int .u64 (f 4:Nat),.int .u64 (f 5:Nat),.int .u64 (f 6:Nat),.int .u64 (f 7:Nat),.int .u64 (l 0:Nat),.int .u64 (l 1:Nat),.int .u64 (l 2:Nat),.int .u64 (l 3:Nat),.int .u64 (l 4:Nat),.int .u64 (l 5:Nat),.int .u64 (l 6:Nat),.int .u64 (l 7:Nat)] 104))(h:K (a.put o.dst (.agg #[.bool b,.int .u64 (f 0:Nat),.int .u64 (f 1:Nat),.int .u64 (f 2:Nat),.int .u64 (f 3:Nat),.int .u64 (f 4:Nat),.int .u64 (f 5:Nat),.int .u64 (f 6:Nat),.int .u64 (f 7:Nat),.int .u64 (l 0:Nat),.int .u64 (l 1:Nat),.int .u64 (l 2:Nat),.int .u64 (l 3:Nat),.int .u64 (l 4:Nat),.int .u64 (l 5:Nat),.int .u64 (l 6:Nat),.int .u64 (l 7:Nat)])) w):if Region.wanted o (yielded ops a.tmps)=true then Oper.wp prog o a w K Q else E:=by
 have hw:Region.wanted o (yielded ops a.tmps)=true:=by simp[Region.wanted,hgd]
 rw[if_pos hw];exact wp_load_row 104 x ho g hx 104 _ _ _ hg underlying104 rfl (by kernel_rfl) h
theorem gt{w w':World}{B k:Nat}{v:Value}(h:w.cell? ⟨B,k,none⟩=some v)(e:w'.heap[B]?=w.heap[B]?):w'.cell? ⟨B,k,none⟩=some v:=by
 rw[World.cell?_of_block (w:=w) (a:=⟨B,k,none⟩) e];exact h
theorem dR.rep{u:Value}{n:Nat}{a:It}{ln:List Lk}{ss:List (List Int)}(hu:dR u n a ln ss)(hbd:ig a n)(mn mx:Int):dR (rV u mn mx) n (dL a mn) (ln++[(a.la,a.fi)]) ss:=by
 obtain⟨⟨T,x,rfl⟩,hu⟩:=hu;refine⟨⟨_,_,rfl⟩,fun O A w N S K h hO htz hN=>?_⟩;obtain⟨W1,d⟩ : ∃ W1,W1=(w.alloc xl).alloc (.cells #[.iface T x,.int .i64 mn,.int .i64 mx] 93):=⟨_,rfl⟩;have hz:W1.heap.size=w.heap.size+2:=by rw[d,ah,ah]
 have g:Below w.heap.size w W1:=by
  rw[d];exact aH w _ _
 have e1:ay W1 w.heap.size false z8 z8:=by
  rw[d];exact World.rowIs.alloc (fy w) _
 have k1:W1.cell? ⟨w.heap.size+1,1,none⟩=some (.int .i64 mn):=by
  have:=(au (w.alloc xl) (.cells #[.iface T x,.int .i64 mn,.int .i64 mx] 93)).news 1 _ rfl;rw[ah]at this;rw[d];exact this
 have hA:=hu (Sk O w.heap.size W1.heap.size) A W1 N S K (h.skip g) (fun k hk=>⟨hO k (by omega),Or.inr hk⟩) ((htz.below g).less Sk.sub) hN;have HA:=ae hA;have HE:=ae e1;have HK:=ae k1;have HO:=ae hO;have HB:=ae g;have HZ:=ae hz;have t:=ae ((htz.below g).less (O':=Sk O w.heap.size W1.heap.size) Sk.sub);have v:=ae hbd;have z:=ae d;clear hA e1 k1 g hz d h hO htz hu hbd;unfold rV;have t1:=EF;have t2:=Fm;have t3:=FA;have t4:=EU
 go_enter func49,ntmps49
 go_wp2_with fail;rw[<-z.u];clear z;refine HA.u.mono ?_;rintro e w2 ⟨f,l,rfl,hf,hl,ha,b⟩;obtain⟨W3,i⟩ : ∃ W3,W3=w2.alloc (oE a.nl f l):=⟨_,rfl⟩;have J:=HZ.u;have L:=b.size;have M:W3.heap.size=w2.heap.size+1:=by rw[i,ah]
 have j:Below w2.heap.size w2 W3:=by rw[i];exact ai w2 _
 have B:∀ k,w2.heap.size<=k->Sk O w.heap.size W1.heap.size k:=fun k hk=>⟨HO.u k (by omega),Or.inr (by omega)⟩
 have hL:=rR (Sk (Sk O w.heap.size W1.heap.size) w2.heap.size W3.heap.size) A (N+n) (S++ss) (K++cT N ln) l f _ _ W3 (ha.skip j) (fun k hk=>⟨B k (by omega),Or.inr hk⟩) (((t.u.fr b).below j).less Sk.sub) hl hf (fun y hy=>(v.u.sh N).2 y hy) hN;have r:Hi (∀ (w4:World) (k:Nat),aR (Sk (Sk O w.heap.size W1.heap.size) w2.heap.size W3.heap.size) W3 w4->w.heap.size<=k->k<w.heap.size+2->w4.heap[k]?=W1.heap[k]?):=fun w4 k h4 q1 q2=>by
  have n1:¬ Sk O w.heap.size W1.heap.size k:=fun q=>by rcases q.2 with q|q<;>omega
  exact((h4.block k (fun q=>n1 q.1)).trans (j.block k (by omega))).trans (b.block k n1)
 have C:Hi (∀ (w4:World),aR (Sk (Sk O w.heap.size W1.heap.size) w2.heap.size W3.heap.size) W3 w4->w4.heap[w2.heap.size]?=W3.heap[w2.heap.size]?):=fun w4 h4=>h4.block _ (fun q=>by rcases q.2 with q|q<;>omega)
 have p:Hi (∀ (w4 wf:World),cO (Sk (Sk O w.heap.size W1.heap.size) w2.heap.size W3.heap.size) A w4 (N+n) (S++ss) (K++cT N ln++[((a.sh N).la,(a.sh N).fi)])->aR (Sk (Sk O w.heap.size W1.heap.size) w2.heap.size W3.heap.size) W3 w4->wf.os=w4.os->wf.tape=w4.tape->wf.output=w4.output->wf.heap.size=w4.heap.size->(∀ k,k≠w.heap.size->k≠w2.heap.size->wf.heap[k]?=w4.heap[k]?)->
   cO O A wf (N+n) (S++ss) (K++cT N (ln++[(a.la,a.fi)]))/\aR O w wf):=fun w4 wf a4 f4 q1 q2 q3 q4 q5=>by
  refine⟨?_,(bh HB.u HO.u).trans ((b.mono Sk.sub).trans ((bh j (fun k hk=>HO.u k (by omega))).trans (((f4.mono Sk.sub).mono Sk.sub).trans ⟨q1,q2,q3,by omega,fun k hk=>?_⟩)))⟩
  ·have:=((a4.keep (w':=wf) (fun k hk _=>q5 k (fun e=>by rcases hk.1.2 with q|q<;>omega) (fun e=>by rcases hk.2 with q|q<;>omega))).mono Sk.sub).mono Sk.sub;have e:K++cT N (ln++[(a.la,a.fi)])=K++cT N ln++[((a.sh N).la,(a.sh N).fi)]:=by rw[jM];simp[cT,It.sh]
   rw[e];exact this
  have Q:k<w.heap.size:=by apply Nat.lt_of_not_le;intro e;exact hk (HO.u k e)
  exact q5 k (by omega) (by omega)
 have D:Hi (ay W3 w2.heap.size a.nl f l):=by rw[i];exact dg w2 _ _ _
 have HL:=ae hL;have E:=ae hf;have F:=ae hl;have G:=ae i;have P:w.heap.size+2<=w2.heap.size:=by omega
 clear hL hf hl ha b i j B J L M HA HB t v HZ HO;unfold eZ
 go_wp2_with fail;rw[<-G.u];clear G;refine HL.u.mono ?_;rintro e w4 ⟨rfl,ha,b⟩;have m:=ae (ay.on D.u (C.u w4 b));have H:=ae (ay.on HE.u (r.u w4 _ b (by omega) (by omega)));have k4:=gt HK.u (r.u w4 _ b (by omega) (by omega));have I:=ae (p.u w4 · ha b);clear ha b HL r C p D HE HK;obtain⟨nl,fi,la⟩:=a;simp only at m;have g0:w4.cell? ⟨w2.heap.size,0,none⟩=some (.bool nl):=ay.cell m.u 0 (by omega);have z0:=World.rowIs.frozen m.u 0;cases nl
 ·have s:=ae (m.u.putB (mn==0));have o:Hi (ay (w4.setCell ⟨w2.heap.size,0,none⟩ (.bool (mn==0))) w.heap.size false z8 z8):=World.rowIs.setOther H.u (by show w.heap.size≠w2.heap.size;omega) _
  go_wp2_with (first|(refine wpList_load_row rfl 104 (.tmp 11) rfl (w2.heap.size) (by first|(simp[Act.eval];done)|(simp[Act.eval,Act.put];done)) 104 _ _ _ (ay.blk s.u) underlying104 rfl (by kernel_rfl) ?_)|(refine wpList_store_row rfl 104 (.tmp 4) (.tmp 68) rfl (w.heap.size) #[.bool (mn==0),.int .u64 (f 0:Nat),.int .u64 (f 1:Nat),.int .u64 (f 2:Nat),.int .u64 (f 3:Nat),.int .u64 (f 4:Nat),.int .u64 (f 5:Nat),.int .u64 (f 6:Nat),.int .u64 (f 7:Nat),.int .u64 (l 0:Nat),.int .u64 (l 1:Nat),.int .u64 (l 2:Nat),.int .u64 (l 3:Nat),.int .u64 (l 4:Nat),.int .u64 (l 5:Nat),.int .u64 (l 6:Nat),.int .u64 (l 7:Nat)] (by first|(simp[Act.eval];done)|(simp[Act.eval,Act.put];done)) (by first|(simp[Act.eval];done)|(simp[Act.eval,Act.put];done)) 104 _ (ay.blk o.u) (by kernel_rfl) rfl (je _ _ _) ?_));refine bodyPost_ret (cn (ay.row o.u _ _ _) rfl _ rfl) rfl ?_;have c:=I.u ((w4.setCell ⟨w2.heap.size,0,none⟩ (.bool (mn==0))).setRow w.heap.size #[.bool (mn==0),.int .u64 (f 0:Nat),.int .u64 (f 1:Nat),.int .u64 (f 2:Nat),.int .u64 (f 3:Nat),.int .u64 (f 4:Nat),.int .u64 (f 5:Nat),.int .u64 (f 6:Nat),.int .u64 (f 7:Nat),.int .u64 (l 0:Nat),.int .u64 (l 1:Nat),.int .u64 (l 2:Nat),.int .u64 (l 3:Nat),.int .u64 (l 4:Nat),.int .u64 (l 5:Nat),.int .u64 (l 6:Nat),.int .u64 (l 7:Nat)]) rfl rfl rfl (by rw[setRow_size,aJ]) (fun k q1 q2=>by rw[setRow_other _ _ _ _ q1];exact Below.heap_setCell _ _ _ _ q2);exact⟨f,l,by rw[show(dL ⟨false,fi,la⟩ mn).nl=(mn==0) from by by_cases h:mn=0<;>simp[dL,h]],E.u,F.u,c.1,c.2⟩
 have s:=ae (m.u.putB true);have o:Hi (ay (w4.setCell ⟨w2.heap.size,0,none⟩ (.bool true)) w.heap.size false z8 z8):=World.rowIs.setOther H.u (by show w.heap.size≠w2.heap.size;omega) _
 go_wp2_with (first|(refine wpList_load_row rfl 104 (.tmp 11) rfl (w2.heap.size) (by first|(simp[Act.eval];done)|(simp[Act.eval,Act.put];done)) 104 _ _ _ (ay.blk s.u) underlying104 rfl (by kernel_rfl) ?_)|(refine wpList_store_row rfl 104 (.tmp 4) (.tmp 68) rfl (w.heap.size) #[.bool true,.int .u64 (f 0:Nat),.int .u64 (f 1:Nat),.int .u64 (f 2:Nat),.int .u64 (f 3:Nat),.int .u64 (f 4:Nat),.int .u64 (f 5:Nat),.int .u64 (f 6:Nat),.int .u64 (f 7:Nat),.int .u64 (l 0:Nat),.int .u64 (l 1:Nat),.int .u64 (l 2:Nat),.int .u64 (l 3:Nat),.int .u64 (l 4:Nat),.int .u64 (l 5:Nat),.int .u64 (l 6:Nat),.int .u64 (l 7:Nat)] (by first|(simp[Act.eval];done)|(simp[Act.eval,Act.put];done)) (by first|(simp[Act.eval];done)|(simp[Act.eval,Act.put];done)) 104 _ (ay.blk o.u) (by kernel_rfl) rfl (je _ _ _) ?_));refine bodyPost_ret (cn (ay.row o.u _ _ _) rfl _ rfl) rfl ?_;have c:=I.u ((w4.setCell ⟨w2.heap.size,0,none⟩ (.bool true)).setRow w.heap.size #[.bool true,.int .u64 (f 0:Nat),.int .u64 (f 1:Nat),.int .u64 (f 2:Nat),.int .u64 (f 3:Nat),.int .u64 (f 4:Nat),.int .u64 (f 5:Nat),.int .u64 (f 6:Nat),.int .u64 (f 7:Nat),.int .u64 (l 0:Nat),.int .u64 (l 1:Nat),.int .u64 (l 2:Nat),.int .u64 (l 3:Nat),.int .u64 (l 4:Nat),.int .u64 (l 5:Nat),.int .u64 (l 6:Nat),.int .u64 (l 7:Nat)]) rfl rfl rfl (by rw[setRow_size,aJ]) (fun k q1 q2=>by rw[setRow_other _ _ _ _ q1];exact Below.heap_setCell _ _ _ _ q2);exact⟨f,l,by simp[dL],E.u,F.u,c.1,c.2⟩
end Go.Proofs.YtpmcjimgkabpeaaGreatDoor
