import Derived.Test.YtidfkbghlkcbeaaGreatDoorPk20
namespace Go.Proofs.YtidfkbghlkcbeaaGreatDoor
open Go.RowKit Go.Proofs.Tryz
set_option maxHeartbeats 16000000
set_option maxRecDepth 100000
theorem wM{base n gg cap:Nat}{w WA w7:World}{v:Value}{hs:Nat->Nat->Nat}{x:Nat->Nat}{o:Obj}(hP:aH w WA o)
  (r1:w7.ownsRow base 88 4 (.slice (some ⟨gg,0,none⟩) (n+1) cap) (n+1) (bm 4 n hs++[wd x 0,wd x 1,wd x 2,wd x 3]))(r2:WA.grownBy w7 v.ownBlock) :
  w7.ownsRow base 88 4 (.slice (some ⟨gg,0,none⟩) (n+1) cap) (n+1) (bm 4 (n+1) (dZ hs n x))/\aT (fun k=>v.ownBlock=some k∨w.heap.size<=k) w w7:=by
 refine⟨?_,⟨r2.os.trans hP.os,r2.tape.trans hP.tape,r2.output.trans hP.output,by have:=r2.size;have:=hP.size;omega,fun k hk=>?_⟩⟩
 ·have e:bm 4 (n+1) (dZ hs n x)=bm 4 n hs++[wd x 0,wd x 1,wd x 2,wd x 3]:=by
   rw[gL _ _ (by omega),iD (h:=hs) (by omega) (fun i hi=>by unfold dZ;rw[if_neg (by omega)])];simp[List.range_succ,dZ]
  rw[e];exact r1
 have a:k<w.heap.size:=by apply Nat.lt_of_not_le;intro q;exact hk (Or.inr q)
 have b:v.ownBlock≠some k:=fun q=>hk (Or.inl q)
 exact(r2.block k (by have:=hP.size;omega) (fun q=>b q.symm)).trans (hP.old a)
structure oG (N1:Nat) (W1 wr:World) (sv pv:Value) (n m:Nat) (ds ps:Nat->Nat->Nat) (ks:List Value):Prop where
 so:wr.ownsRow (N1+3) 88 4 sv n (bm 4 n ds)
 po:wr.ownsRow (N1+3) 102 8 pv m (bm 8 m ps)
 ap:∀ q,sv.ownBlock=some q->pv.ownBlock≠some q
 num:bj 88 wr (N1+1) ks
 nb:wr.heap[N1+2]?=some (.cells #[.map (some (N1+1))] 98 (0,0))
 fr:Below N1 W1 wr
 sz:N1+3<=wr.heap.size
section
variable {N1 n m:Nat} {W1 wr wr':World} {sv pv:Value} {ds ps:Nat->Nat->Nat} {ks ks':List Value}
theorem oG.below(h:oG N1 W1 wr sv pv n m ds ps ks)(hb:Below wr.heap.size wr wr'):oG N1 W1 wr' sv pv n m ds ps ks:=
 ⟨aG h.so hb lR,aG h.po hb lR,h.ap,h.num.keep (hb.block _ h.num.lt),(hb.block _ (Array.getElem?_eq_some_iff.1 h.nb).1).trans h.nb,h.fr.trans (hb.mono (by have:=h.sz;omega)),Nat.le_trans h.sz hb.size⟩
theorem oG.num'(h:oG N1 W1 wr sv pv n m ds ps ks)(hn:bj 88 wr' (N1+1) ks')(hf:aT (dM wr (N1+1)) wr wr'):oG N1 W1 wr' sv pv n m ds ps ks':=by
 have hz:=h.sz;have hk:∀ k,k<wr.heap.size->k≠N1+1->wr'.heap[k]?=wr.heap[k]? :=fun k h1 h2=>hf.block k (by rintro(q|q)<;>omega)
 exact⟨ak h.so (fun q hq=>hk q (h.so.lt q hq).2 (by have:=(h.so.lt q hq).1;omega)),ak h.po (fun q hq=>hk q (h.po.lt q hq).2 (by have:=(h.po.lt q hq).1;omega)),h.ap,hn,(hk _ (by omega) (by omega)).trans h.nb,h.fr.trans (hf.below (fun k hk=>by rintro(q|q)<;>omega)),Nat.le_trans h.sz hf.size⟩
theorem oG.pushS{w7:World}{gg cap:Nat}{x:Nat->Nat}(h:oG N1 W1 wr sv pv n m ds ps ks)(r1:w7.ownsRow (N1+3) 88 4 (.slice (some ⟨gg,0,none⟩) (n+1) cap) (n+1) (bm 4 (n+1) (dZ ds n x)))(hf:aT (fun k=>sv.ownBlock=some k∨wr.heap.size<=k) wr w7)(hg:sv.ownBlock=some gg∨wr.heap.size<=gg) :
  oG N1 W1 w7 (.slice (some ⟨gg,0,none⟩) (n+1) cap) pv (n+1) m (dZ ds n x) ps ks:=by
 have hz:=h.sz;have hk:∀ k,k<N1+3->w7.heap[k]?=wr.heap[k]? :=fun k hk=>hf.block k (by rintro(q|q);(have:=(h.so.lt k q).1;omega);omega)
 refine⟨r1,ak h.po (fun q hq=>hf.block q (by rintro(e|e);exact h.ap q e hq;(have:=(h.po.lt q hq).2;omega))),fun q hq hq2=>?_,h.num.keep (hk _ (by omega)),(hk _ (by omega)).trans h.nb,h.fr.trans (hf.below (fun k hk=>by rintro(q|q);(have:=(h.so.lt k q).1;omega);omega)),Nat.le_trans h.sz hf.size⟩;cases hq;rcases hg with hg|hg
 ·exact h.ap gg hg hq2
 have:=(h.po.lt gg hq2).2;omega
theorem oG.pushP{w7:World}{gg cap:Nat}{x:Nat->Nat}(h:oG N1 W1 wr sv pv n m ds ps ks)(r1:w7.ownsRow (N1+3) 102 8 (.slice (some ⟨gg,0,none⟩) (m+1) cap) (m+1) (bm 8 (m+1) (fun i=>if i=m then x else ps i)))(hf:aT (fun k=>pv.ownBlock=some k∨wr.heap.size<=k) wr w7)(hg:pv.ownBlock=some gg∨wr.heap.size<=gg) :
  oG N1 W1 w7 sv (.slice (some ⟨gg,0,none⟩) (m+1) cap) n (m+1) ds (dZ ps m x) ks:=by
 have hz:=h.sz;have hk:∀ k,k<N1+3->w7.heap[k]?=wr.heap[k]? :=fun k hk=>hf.block k (by rintro(q|q);(have:=(h.po.lt k q).1;omega);omega)
 refine⟨ak h.so (fun q hq=>hf.block q (by rintro(e|e);exact h.ap q hq e;(have:=(h.so.lt q hq).2;omega))),r1,fun q hq hq2=>?_,h.num.keep (hk _ (by omega)),(hk _ (by omega)).trans h.nb,h.fr.trans (hf.below (fun k hk=>by rintro(q|q);(have:=(h.po.lt k q).1;omega);omega)),Nat.le_trans h.sz hf.size⟩;cases hq2;rcases hg with hg|hg
 ·exact h.ap gg hq hg
 have:=(h.so.lt gg hq).2;omega
theorem oG.puts(h:oG N1 W1 wr sv pv n m ds ps ks){i:Nat}(hi:i<m):∃ g cap M F,pv=.slice (some ⟨g,0,none⟩) m cap/\wr.rowIs g 102 M F/\i*8+8<=M/\(∀ j,j<8->F (i*8+j)=wd (ps i) j)/\
  ∀ (w':World) (x:Nat->Nat),w'.rowIs g 102 M (fun k=>if i*8<=k/\k<i*8+8 then wd x (k-i*8) else F k)->ce g wr w'->oG N1 W1 w' sv pv n m ds (dZ ps i x) ks:=by
 obtain⟨g,cap,M,F,rfl,hlt,hr,hM,hF,a⟩:=fm h.po (by omega);have b:=(h.po.lt g rfl).1;refine⟨g,cap,M,F,rfl,hr,by omega,fun j hj=>?_,fun w' x hr' hob=>⟨ak h.so (fun q hq=>hob.block q (fun e=>h.ap q hq (by rw[e];rfl))),?_,h.ap,h.num.keep (hob.block _ (by omega)),(hob.block _ (by omega)).trans h.nb,h.fr.trans (hob.bel2 (by omega)),by rw[hob.size];exact h.sz⟩⟩
 ·have h1:=hF (i*8+j) (by omega);rw[du _ _ _ (by omega),show(i*8+j) / 8=i by omega,show(i*8+j)%8=j by omega]at h1;exact(Option.some.inj h1).symm
 refine a w' _ _ hr' (lj _ _ _) (fun k hk=>?_)
 rw[du _ _ _ hk];unfold dZ
 by_cases e:i*8<=k/\k<i*8+8
 ·rw[if_pos e,if_pos (by omega),show k%8=k-i*8 by omega]
 rw[if_neg e,if_neg (by omega)];have h2:=hF k hk;rw[du _ _ _ hk]at h2;exact h2
end
theorem FU(A g:Nat)(c:Value)(hc:c.oneCell'=true):(#[.pointer (some ⟨A,0,none⟩),.slice (some ⟨g,0,none⟩) 256 256,c]:Array Value).all (·.oneCell')=true:=by
 have h1:(Value.pointer (some ⟨A,0,none⟩)).oneCell'=true:=rfl;have h2:(Value.slice (some ⟨g,0,none⟩) 256 256).oneCell'=true:=rfl;simp[h1,h2,hc]
theorem Du{w:World}{B:Nat}{cs:Array Value}(h:w.heap[B]?=some (.cells cs 57 (0,0))){fn:Func}{p:Tmp}(hr:fn.results=#[.cell p 57])(tmps:Array Value)(hp:tmps.getD p undef=.pointer (some ⟨B,0,none⟩))(hs:(prog.info? 57).map (·.size)=some cs.size):(results fn tmps).run prog w=.ok (.agg cs) w:=
 results_cell_row hr tmps w B _ _ _ _ hp h underlying57 rfl hs
def EJ(A N:Nat)(gs:Nat->Nat->Nat)(e:Ending)(w':World):Prop:=∃ gc mm K hs hv ks H,e=.returned (.agg #[.pointer (some ⟨A,0,none⟩),.slice (some ⟨gc,0,none⟩) 256 256,hv])/\w'.rowIs gc 3 256 (fun x=>.int .i64 (K x:Nat))/\AO w' hv mm hs/\tG H 256 mm K hs ks/\(∀ x,x<256->Fit (H x)/\∀ i,Bt (H x) i=true↔(i<N/\Bt (gs i) x=true))
theorem qu(A N:Nat)(av:Value)(gs:Nat->Nat->Nat)(w:World)(ha:w.cell? ⟨A,0,none⟩=some av)(hA:A<w.heap.size)(hS:DU w av N gs)(hg:∀ i,i<N->Fit (gs i))(hN:N<=512) :
  Calls prog 23 #[.pointer (some ⟨A,0,none⟩)] w fun e w'=>EJ A N gs e w'/\Below w.heap.size w w':=by
 obtain⟨aa,ac,rfl⟩:=aj hS;have W:=run_make_row' (P:=prog) 27 3 (.int .i64 0) 8 underlying27 Tryz.zinInt rfl .i64 .i64 256 (by omega) (by omega);simp only[show((256:Nat):Int)=256 from rfl]at W;obtain⟨W1,c⟩ : ∃ W1,W1=((w.alloc (.cells #[.pointer none,.slice none 0 0,.slice none 0 0] 57)).alloc (.cells (madeCells #[.int .i64 0] 256) 3)).alloc (.cells #[.pointer (some ⟨A,0,none⟩),.slice (some ⟨w.heap.size+1,0,none⟩) 256 256,.slice none 0 0] 57):=⟨_,rfl⟩;have Y:Below w.heap.size w W1:=by rw[c];exact(aI w _ _).alloc (by rw[ah,ah];omega) _
 have C:W1.heap.size=w.heap.size+3:=by rw[c,ah,ah,ah]
 have HS:=ae hS;have HG:=ae hg;have Z:=ae Y;have a0:=ae c;have aw:=ae C;have a3:=ae (vQ W1);clear hS hg Y c C
 go_enter func23,ntmps23
 go_wp2_with fail;rw[<-a0.u];refine a3.u.mono ?_;rintro e w2 ⟨rfl,Q,j,D⟩;obtain⟨N1,R⟩ : ∃ N1,N1=W1.heap.size:=⟨_,rfl⟩;rw[<-R]at Q j D ⊢;have E:N1=w.heap.size+3:=R.trans aw.u;have s:Below w.heap.size w w2:=Z.u.trans (D.mono (by omega));have hV:Below w.heap.size w (w2.alloc (.cells #[.map (some (N1+1))] 98)):=s.alloc (by have:=s.size;omega) _;have a4:Hi (oG N1 W1 (w2.alloc (.cells #[.map (some (N1+1))] 98)) (.slice none 0 0) (.slice none 0 0) 0 0 (fun _ _=>0) (fun _ _=>0) []):=by
  refine⟨World.ownsRow_nil _ _ _ _,World.ownsRow_nil _ _ _ _,fun q hq=>(by cases hq),Q.keep ((ai w2 _).block _ (by omega)),?_,D.alloc (by omega) _,by rw[ah];omega⟩;have:=(ay w2 (.cells #[.map (some (N1+1))] 98)).new;rw[j]at this;exact this
 have ax:(w2.alloc (.cells #[.map (some (N1+1))] 98)).cell? ⟨A,0,none⟩=some (.slice aa N ac):=(hV.cell (p:=⟨A,0,none⟩) hA).trans ha;have a5:=ae j;have b0:=ae E;have bl:w.heap.size+3<=N1:=by omega
 have bn:N1<=W1.heap.size:=by omega
 clear Q j D s hV a3 R E ha
 go_wp2_with fail;rw[a5.u]
 go_loopw [5,6,20] (fun sv pv iv wr=>∃ (x m:Nat) (ds ps:Nat->Nat->Nat) (ks:List Value),x<=N/\iv=.int .i64 x/\oG N1 W1 wr sv pv m m ds ps ks/\xj gs x m ds ps ks) (fun _ _ iv _=>N-(intOf iv).toNat)
 case atStart=>exact⟨0,0,_,_,_,by omega,rfl,a4.u,xj.start _ _ _⟩
 clear a4 ax a5 W;obtain⟨x,m,ds,ps,ks,hx,rfl,hW,hD⟩:=hrel;obtain⟨sa,sc,rfl⟩:=aj hW.so;obtain⟨pa,pc,rfl⟩:=aj hW.po;have G:Below w.heap.size w wr:=Z.u.trans (hW.fr.mono (by omega))
 by_cases hlt:x<N
 ·have bo:(x:Int)<(N:Int):=by omega
  obtain⟨ga,ca,e,b1,v⟩:=ze HS.u hlt;cases e;obtain⟨g,y⟩ : ∃ g,g=gs x:=⟨_,rfl⟩;have d:=v wr (G.block ga b1);rw[<-y]at d;have d0:=d 0 (by omega);have d1:=d 1 (by omega);have d2:=d 2 (by omega);have d3:=d 3 (by omega);unfold wd at d0 d1 d2 d3;rw[Nat.add_zero]at d0;have b2:Fit g:=by rw[y];exact HG.u x hlt
  obtain⟨X,hX⟩ : ∃ X,X=wr.alloc (.cells #[.int .u64 (g 0:Nat),.int .u64 (g 1:Nat),.int .u64 (g 2:Nat),.int .u64 (g 3:Nat)] 88):=⟨_,rfl⟩;have H:oG N1 W1 X (.slice sa m sc) (.slice pa m pc) m m ds ps ks:=hW.below (by rw[hX];exact ai _ _);have hE:X.rowIs wr.heap.size 88 4 (wd g):=by
   rw[hX];refine⟨_,(ay wr _).new,rfl,fun i hi=>?_⟩
   match i,hi with
   | 0,_=>rfl
   | 1,_=>rfl
   | 2,_=>rfl
   | 3,_=>rfl
  have n0:(wr.alloc (.cells #[.int .u64 (g 0:Nat),.int .u64 (g 1:Nat),.int .u64 (g 2:Nat),.int .u64 (g 3:Nat)] 88)).cell? ⟨N1+2,0,none⟩=some (.map (some (N1+1))):=by rw[<-hX];exact World.news_of_block H.nb 0 _ rfl
  have bt:=hD.le;have a6:=xO (N1+1) g ks X H.num b2 (by rw[hD.len];omega);have h9:gb (gs x)=.agg #[.int .u64 (g 0:Nat),.int .u64 (g 1:Nat),.int .u64 (g 2:Nat),.int .u64 (g 3:Nat)]:=by rw[<-y];rfl
  have a7:Hi (Calls prog 46 #[.agg #[.map (some (N1+1))],.agg #[.int .u64 (g 0:Nat),.int .u64 (g 1:Nat),.int .u64 (g 2:Nat),.int .u64 (g 3:Nat)]] X fun e w'=>∃ i ks' f,e=.returned (.tuple #[.int .i64 (i:Nat),.bool f])/\lT ks (gb (gs x)) ks' i f/\bj 88 w' (N1+1) ks'/\aT (dM X (N1+1)) X w'):=by
   rw[h9];exact a6
  have HX:=ae hX;have S:=ae H;have HD:=ae hD;have HE:=ae hE;have b3:=ae y;have bp:=hW.sz;have bv:=hE.lt;clear hW hD v d hX H hE a6 y G h9
  go_wp2_with fail;rw[<-HX.u];refine a7.u.mono ?_;rintro e w3 ⟨i,ks',fl,rfl,I,T,J⟩;have l:=S.u.num' T J;have n:=HE.u.of_block (J.block wr.heap.size (by rintro(q|q)<;>omega));clear n0 HX a7;cases fl with
  | false =>
   obtain⟨z,r⟩:=HD.u.old I;obtain⟨gp,cp,M,F,e,h,hM,hF,a⟩:=l.puts z;cases e;have bq:(i:Int)<(m:Int):=by omega
   have HJ:=ae (vf gp (i*8) M x 102 F (ps i) w3 (HD.u.fp i z) (by omega) h hF (by omega));have B:=ae a;have U:=ae r;clear I T J l n r h hF a HD HE S
   go_wp2_with fail;refine HJ.u.mono ?_;rintro e w4 ⟨rfl,a8,a9⟩;have b4:=ae (B.u w4 _ a8 a9);clear a8 a9 HJ B;go_wp2
   go_roundw
   case rel=>exact⟨x+1,m,ds,_,ks',by omega,by go_num,b4.u,U.u⟩
   simp[intOf];omega
  | true =>
   have ab:Fit (gs x):=HG.u x hlt;obtain⟨z,r⟩:=HD.u.new ab I;rw[<-b3.u]at r;have x0:=n.cell (i:=0) (by omega);have x1:=n.cell (i:=1) (by omega);have x2:=n.cell (i:=2) (by omega);have x3:=n.cell (i:=3) (by omega);unfold wd at x0 x1 x2 x3;obtain⟨i0,b5,b6,C,j⟩:=info_parts Tryz.zinBS;obtain⟨j0,b7,b8,b9,bb⟩:=info_parts Tryz.zinPS;have ad:=ae l.so;have br:=l.sz;have U:=ae r;have bs:m<=512:=by omega
   have af:Hi (∀ (WA w7:World) (gg cap:Nat),w7.ownsRow (N1+3) 88 4 (.slice (some ⟨gg,0,none⟩) (m+1) cap) (m+1) (bm 4 m ds++[wd g 0,wd g 1,wd g 2,wd g 3])->WA.grownBy w7 (Value.slice sa m sc).ownBlock->((Value.slice sa m sc).ownBlock=some gg∨gg=w3.heap.size+1)->aH w3 WA (.cells #[wd g 0,wd g 1,wd g 2,wd g 3] 88)->oG N1 W1 w7 (.slice (some ⟨gg,0,none⟩) (m+1) cap) (.slice pa m pc) (m+1) m (dZ ds m g) ps ks'):=fun WA w7 gg cap r1 r2 r3 hP=>by
    obtain⟨q1,q2⟩:=wM (x:=g) hP r1 r2;exact l.pushS q1 q2 (r3.imp id (fun q=>by omega))
   have ag:=z.symm;subst ag;have al:Hi (∀ (w7 WA w8:World) (sv':Value) (gg cap:Nat),oG N1 W1 w7 sv' (.slice pa m pc) (m+1) m (dZ ds m g) ps ks'->w8.ownsRow (N1+3) 102 8 (.slice (some ⟨gg,0,none⟩) (m+1) cap) (m+1) (bm 8 m ps++[wd (fun _=>0) 0,wd (fun _=>0) 1,wd (fun _=>0) 2,wd (fun _=>0) 3,wd (fun _=>0) 4,wd (fun _=>0) 5,wd (fun _=>0) 6,wd (fun _=>0) 7])->WA.grownBy w8 (Value.slice pa m pc).ownBlock->((Value.slice pa m pc).ownBlock=some gg∨gg=w7.heap.size+1)->aH w7 WA (.cells #[wd (fun _=>0) 0,wd (fun _=>0) 1,wd (fun _=>0) 2,wd (fun _=>0) 3,wd (fun _=>0) 4,wd (fun _=>0) 5,wd (fun _=>0) 6,wd (fun _=>0) 7] 102)->oG N1 W1 w8 sv' (.slice (some ⟨gg,0,none⟩) (m+1) cap) (m+1) (m+1) (dZ ds m g) (dZ ps m (fun _=>0)) ks'):=fun w7 WA w8 sv' gg cap h7 r1 r2 r3 hP=>by
    obtain⟨q1,q2⟩:=pp (x:=fun _=>0) h7.po hP r1 r2;exact h7.pushP q1 q2 (r3.imp id (fun q=>by omega))
   clear I T J l n r HD HE S z
   go_wp2_with (first
    | (at_builtin;refine wpList_append_lies _ rfl (.tmp 32) (.tmp 34) 100 rfl (N1+3) 88 i0 (.agg #[.int .u64 0,.int .u64 0,.int .u64 0,.int .u64 0]) 4 32 underlying100 b5 b6 C j rfl (by decide) (.slice sa m sc) m (bm 4 m ds) (by first|(simp[Act.eval];done)|(simp[Act.eval,Act.put];done)) (by refine aH.own (w:=w3) (o:=.cells #[wd g 0,wd g 1,wd g 2,wd g 3] 88) ?_ ad.u;exact⟨rfl,rfl,rfl,rfl⟩) ⟨w3.heap.size,0,none⟩ 1 1 [wd g 0,wd g 1,wd g 2,wd g 3] (by first|(simp[Act.eval];done)|(simp[Act.eval,Act.put];done)) rfl (by refine aH.news (w:=w3) (cs:=#[wd g 0,wd g 1,wd g 2,wd g 3]) (t:=88) ?_;exact⟨rfl,rfl,rfl,rfl⟩) (by intro u hu;simp only[List.mem_cons,List.not_mem_nil,or_false]at hu;rcases hu with rfl|rfl|rfl|rfl<;>rfl) (by decide) (by unfold maxLen;omega) (by omega) (by show N1+3<=(World.alloc _ _).heap.size;rw[ah];omega) (w3.heap.size+1) (ah w3 _) (fun gg cap w7 r1 r2 r3 r4=>?_);have h7:=ae (af.u _ w7 gg cap r1 r2 r3 (by exact⟨rfl,rfl,rfl,rfl⟩));clear r1 r2 r3 r4 x0 x1 x2 x3)
    | (at_builtin;refine wpList_append_lies _ rfl (.tmp 36) (.tmp 38) 55 rfl (N1+3) 102 j0 (.agg #[.int .u64 0,.int .u64 0,.int .u64 0,.int .u64 0,.int .u64 0,.int .u64 0,.int .u64 0,.int .u64 0]) 8 64 underlying55 b7 b8 b9 bb rfl (by decide) (.slice pa m pc) m (bm 8 m ps) (by first|(simp[Act.eval];done)|(simp[Act.eval,Act.put];done)) (by refine aH.own (w:=w7) (o:=.cells #[wd (fun _=>0) 0,wd (fun _=>0) 1,wd (fun _=>0) 2,wd (fun _=>0) 3,wd (fun _=>0) 4,wd (fun _=>0) 5,wd (fun _=>0) 6,wd (fun _=>0) 7] 102) ?_ h7.u.po;exact⟨rfl,rfl,rfl,rfl⟩) ⟨w7.heap.size,0,none⟩ 1 1 [wd (fun _=>0) 0,wd (fun _=>0) 1,wd (fun _=>0) 2,wd (fun _=>0) 3,wd (fun _=>0) 4,wd (fun _=>0) 5,wd (fun _=>0) 6,wd (fun _=>0) 7] (by first|(simp[Act.eval];done)|(simp[Act.eval,Act.put];done)) rfl (by refine aH.news (w:=w7) (cs:=#[wd (fun _=>0) 0,wd (fun _=>0) 1,wd (fun _=>0) 2,wd (fun _=>0) 3,wd (fun _=>0) 4,wd (fun _=>0) 5,wd (fun _=>0) 6,wd (fun _=>0) 7]) (t:=102) ?_;exact⟨rfl,rfl,rfl,rfl⟩) (by intro u hu;simp only[List.mem_cons,List.not_mem_nil,or_false]at hu;rcases hu with rfl|rfl|rfl|rfl|rfl|rfl|rfl|rfl<;>rfl) (by decide) (by unfold maxLen;omega) (by omega) (by have:=h7.u.sz;show N1+3<=(World.alloc _ _).heap.size;rw[ah];omega) (w7.heap.size+1) (ah w7 _) (fun gg2 cap2 w8 r1 r2 r3 r4=>?_);have h8:=ae (al.u w7 _ w8 _ gg2 cap2 h7.u r1 r2 r3 (by exact⟨rfl,rfl,rfl,rfl⟩));clear r1 r2 r3 r4;have bx:(m:Int)<(m:Int)+1:=(by omega))|fail)
   obtain⟨gp,cp,M,F,e,h,hM,hF,a⟩:=h8.u.puts (Nat.lt_succ_self m);cases e;have HJ:=ae (vf _ (m*8) M x 102 F (dZ ps m (fun _=>0) m) w8 (by unfold dZ;rw[if_pos rfl];exact vm) (by omega) h hF (by omega));have B:=ae a;clear h hF a;refine HJ.u.mono ?_;rintro e w9 ⟨rfl,an,L⟩;have V:=B.u w9 _ an L;rw[show dZ ps m (fun _=>0) m=fun _=>0 by unfold dZ;rw[if_pos rfl]]at V;have bc:=ae V;clear an L HJ B V h7 h8 af al ad;go_wp2
   go_roundw
   case rel=>exact⟨x+1,m+1,_,_,ks',by omega,by go_num,bc.u,U.u⟩
   simp[intOf];omega
 obtain rfl:x=N:=by omega
 have E:=b0.u;have c:=a0.u;have O:W1.rowIs (w.heap.size+1) 3 256 (fun _=>.int .i64 0):=by
  have h1:=World.rowIs_made (w.alloc (.cells #[.pointer none,.slice none 0 0,.slice none 0 0] 57)) (.int .i64 0) 256 3;rw[ah]at h1;rw[c];exact h1.alloc _
 have ao:fW W1 (w.heap.size+2) A (.slice (some ⟨w.heap.size+1,0,none⟩) 256 256) (.slice none 0 0):=by
  have h1:=(ay ((w.alloc (.cells #[.pointer none,.slice none 0 0,.slice none 0 0] 57)).alloc (.cells (madeCells #[.int .i64 0] 256) 3)) (.cells #[.pointer (some ⟨A,0,none⟩),.slice (some ⟨w.heap.size+1,0,none⟩) 256 256,.slice none 0 0] 57)).new;rw[ah,ah,<-c]at h1;exact h1
 have ap:W1.heap[w.heap.size]?=some (.cells #[.pointer none,.slice none 0 0,.slice none 0 0] 57 (0,0)):=by
  have h1:=(ay w (.cells #[.pointer none,.slice none 0 0,.slice none 0 0] 57)).new;have h2:=aI (w.alloc (.cells #[.pointer none,.slice none 0 0,.slice none 0 0] 57)) (.cells (madeCells #[.int .i64 0] 256) 3) (.cells #[.pointer (some ⟨A,0,none⟩),.slice (some ⟨w.heap.size+1,0,none⟩) 256 256,.slice none 0 0] 57);rw[<-c,ah]at h2;exact(h2.block _ (Nat.lt_succ_self _)).trans h1
 have bz:=hW.sz;have aq:=qz (w.heap.size+1+1) A (w.heap.size+1) m (.slice sa m sc) (.slice pa m pc) ds ps wr (ao.keep (hW.fr.block _ (by omega))) (O.of_block (hW.fr.block _ (by omega))) (by omega) (by have:=hD.le;omega) (aO hW.so (Nat.zero_le _)) (aO hW.po (Nat.zero_le _)) hD.fd hD.fp (fun q hq=>by have:=(hW.so.lt q hq).1;exact⟨by omega,by omega⟩) (fun q hq=>by have:=(hW.po.lt q hq).1;exact⟨by omega,by omega⟩);have ar:=ae aq;have HR:Hi (wr.heap[w.heap.size]?=_):=(hW.fr.block _ (by omega)).trans ap;have bd:=ae G;have HD:=ae hD;have c0:w.heap.size<wr.heap.size:=by omega
 clear aq hW hD G ap ao O c E
 go_wp2_with fail;refine ar.u.mono ?_;rintro e w3 ⟨mm,K,hs,hv,ks9,rfl,b⟩;have HA:Hi (w3.heap[w.heap.size+1+1]?=some (.cells #[.pointer (some ⟨A,0,none⟩),.slice (some ⟨w.heap.size+1,0,none⟩) 256 256,hv] 57 (0,0))):=b.p.box;have HZ:Hi (w3.heap[w.heap.size]?=some (.cells #[.pointer none,.slice none 0 0,.slice none 0 0] 57 (0,0))):=(b.p.fr.block _ (by rintro(q|q|q)<;>omega)).trans HR.u;have be:=ae b;have bf:hv.oneCell'=true:=by
  obtain⟨a1,a2,rfl⟩:=aj b.p.hol
  rfl
 clear b ar HR
 go_wp2_with (first
  | (refine wpList_load_row rfl 57 (.tmp 3) rfl (w.heap.size+1+1) (by first|(simp[Act.eval];done)|(simp[Act.eval,Act.put];done)) 57 _ _ _ HA.u underlying57 rfl (by kernel_rfl) ?_)
  | (refine wpList_store_row rfl 57 (.tmp 2) (.tmp 49) rfl (w.heap.size) #[.pointer (some ⟨A,0,none⟩),.slice (some ⟨w.heap.size+1,0,none⟩) 256 256,hv] (by first|(simp[Act.eval];done)|(simp[Act.eval,Act.put];done)) (by first|(simp[Act.eval];done)|(simp[Act.eval,Act.put];done)) 57 _ HZ.u (by kernel_rfl) rfl (FU _ _ hv bf) ?_))
 refine bodyPost_ret (Du (setRow_heap _ _ _ _ _ _ HZ.u) rfl _ rfl (by kernel_rfl)) rfl ?_;have b:=be.u;have hk:∀ k,k≠w.heap.size->(w3.setRow w.heap.size #[.pointer (some ⟨A,0,none⟩),.slice (some ⟨w.heap.size+1,0,none⟩) 256 256,hv]).heap[k]?=w3.heap[k]? :=fun k hk=>setRow_other _ _ k _ hk
 refine⟨⟨w.heap.size+1,mm,K,hs,hv,ks9,fun x=>bZ ds ps x m,rfl,b.p.row.of_block (hk _ (by omega)),aO (ak b.p.hol (fun q hq=>hk q (by have:=(b.p.hol.lt q hq).1;omega))) (Nat.zero_le _),b.cls,fun x hx=>⟨iJ HD.u.fp,fun i=>HD.u.holds x hx i⟩⟩,?_⟩;have h1:Below w.heap.size w w3:=bd.u.trans (b.p.fr.below (m:=w.heap.size) (fun k hk=>by rintro(q|q|q)<;>omega));exact h1.trans (ce.bel2 ⟨rfl,rfl,rfl,by simp[World.setRow],fun k hk=>setRow_other _ _ k _ hk⟩ lR)
end Go.Proofs.YtidfkbghlkcbeaaGreatDoor
