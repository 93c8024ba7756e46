import Derived.Test.YtidfkbghlkcbeaaGreatDoorPk21
import Derived.Deep.DeepCutAuto
namespace Go.Proofs.YtidfkbghlkcbeaaGreatDoor
open Go.RowKit Go.Proofs.Tryz
set_option maxHeartbeats 16000000
set_option maxRecDepth 100000
theorem Cc(O:Nat->Prop)(g mb mc pb pc bb bc:Nat)(w:World)(n N:Nat)(ms ps bs fr mk tt:Nat->Nat)(kb kc:Nat)(qv:Value)(qs:List Int)(tk:Nat)(k:Nat)
  (h:aU O g mb mc pb pc bb bc w n N ms ps bs fr mk tt kb kc qv qs tk)(hI:eW n N ms ps bs fr mk tt)(hO:∀ k,w.heap.size<=k->O k)(hk:k<N)(hn:n<=1024)(hN:N<=1024)(hq:qs.length<=1024) :
  Calls prog 123 #[.pointer (some ⟨g,0,none⟩),.int .i64 (k:Nat)] w fun e w'=>e=.returned (.tuple #[])/\aT O w w'/\CL O g mb mc pb pc bb bc w' n N ms ps bs fr mk tt qs tk k:=by
 obtain⟨c0,c1,c2,c3,c4,c5,fz⟩:=h.facts;obtain⟨b0,b1,b2,fk⟩:=h.blk hk;obtain⟨i1,i2,i3,i4⟩:=hI.b1 k hk;have a6:(k:Int)<(N:Int):=by omega
 have al:∀ (W:World) (o:Obj) (j:Nat),kb<W.heap.size->(W.alloc o).cell? ⟨kb,j,none⟩=W.cell? ⟨kb,j,none⟩:=fun W o j hj=>(ai W o).cell (p:=⟨kb,j,none⟩) hj
 have a0:=(al w (.cells #[.int .i64 0,.int .i64 0,.int .i64 0] 197) (k*3) h.ltk).trans b0;have a1:=(al w (.cells #[.int .i64 0,.int .i64 0,.int .i64 0] 197) (k*3+1) h.ltk).trans b1;obtain⟨W1,b⟩ : ∃ W1,W1=w.alloc (.cells #[.int .i64 (fr k:Nat),.int .i64 (fr k:Nat),.int .i64 (mk k:Nat)] 197):=⟨_,rfl⟩;have E:W1.heap.size=w.heap.size+1:=by rw[b,ah]
 have F:=h.ltk;have d1:W1.cell? ⟨kb,k*3+1,none⟩=some (.int .i64 (mk k:Nat)):=by rw[b];exact(al _ _ _ F).trans b1
 have d2:W1.cell? ⟨kb,k*3+2,none⟩=some (.int .i64 (tt k:Nat)):=by rw[b];exact(al _ _ _ F).trans b2
 have e1:=(al W1 (.cells #[.int .i64 0,.int .i64 0,.int .i64 0] 197) (k*3+1) (by omega)).trans d1;have e2:=(al W1 (.cells #[.int .i64 0,.int .i64 0,.int .i64 0] 197) (k*3+2) (by omega)).trans d2;obtain⟨W2,z⟩ : ∃ W2,W2=W1.alloc (.cells #[.int .i64 (mk k:Nat),.int .i64 (mk k:Nat),.int .i64 (tt k:Nat)] 197):=⟨_,rfl⟩;have hM:ri w W2 (fr k) (mk k) (mk k) (tt k):=by
  rw[z];refine⟨?_,?_,?_,by rw[ah,E]⟩
  ·rw[b];exact(sO w _ _ _ _).alloc _
  ·rw[<-E];exact sO W1 _ _ _ _
  rw[b];exact aI w _ _
 have o0:=hM.off.cell (i:=0) (by omega);have o1:=hM.off.cell (i:=1) (by omega);have o2:=hM.off.cell (i:=2) (by omega);have r0:=hM.rest.cell (i:=0) (by omega);have r1:=hM.rest.cell (i:=1) (by omega);have r2:=hM.rest.cell (i:=2) (by omega);have zo:=fun j=>hM.off.frozen j
 have zr:=fun j=>hM.rest.frozen j
 simp only[List.getD_cons_succ,List.getD_cons_zero]at o0 o1 o2 r0 r1 r2;have HM:=ae hM;have G:=ae b;have I:=ae z;have H:=ae h;have HI:=ae hI;have HO:=ae hO;clear b z hM h hI hO al
 go_enter func123,ntmps123
 go_wp2_with fail
 go_region
 rw[<-G.u];clear a0 a1 b0 b1 b2
 go_wp2_with fail
 go_region
 rw[<-I.u];clear d1 d2 e1 e2 G I
 go_upto_if 52 with fail
 go_cut [5] (fun pv wx=>pv=.pointer (some ⟨w.heap.size,0,none⟩)/\∃ o1 o2 r1 r2,ri w wx o1 o2 r1 r2/\Eb (fr k) (mk k) (tt k) o1 o2 r1 r2)
 case first =>
  by_cases hc:tt k-mk k<mk k-fr k
  ·have Z:((tt k:Nat):Int)-(mk k:Nat)<((mk k:Nat):Int)-(fr k:Nat):=by omega
   go_wp2_with fail;go_meet;exact⟨rfl,_,_,_,_,HM.u.swap.drew.drew,.inr ⟨rfl,rfl,rfl,rfl,hc⟩⟩
  have Z:¬ ((tt k:Nat):Int)-(mk k:Nat)<((mk k:Nat):Int)-(fr k:Nat):=by omega
  go_wp2_with fail;go_meet;exact⟨rfl,_,_,_,_,HM.u.drew.drew,.inl ⟨rfl,rfl,rfl,rfl,by omega⟩⟩
 obtain⟨rfl,q1,q2,s1,s2,hM,hS⟩:=hcut;obtain⟨w4,rfl⟩ : ∃ w4,w4=wc:=⟨_,rfl⟩;clear o0 o1 o2 r0 r1 r2 zo zr HM c0 c1 c2 c3 c4 c5 fz fk;obtain⟨O1,f⟩ : ∃ O1,O1=Sk O w.heap.size w4.heap.size:=⟨_,rfl⟩;have hV:=H.u.skip hM.bl;rw[<-f]at hV;have J:∀ k,w4.heap.size<=k->O1 k:=fun k hk=>by rw[f];exact⟨HO.u k (by have:=hM.sz;omega),Or.inr hk⟩
 have m:∀ k,w.heap.size<=k->k<w.heap.size+2->¬ O1 k:=fun k h1 h2=>by rw[f];rintro⟨-,h3⟩;have:=hM.sz;omega
 have K:∀ k,O1 k->O k:=by rw[f];exact Sk.sub
 obtain⟨b0,b1,b2,fk⟩:=hV.blk hk;have f1:=fk (k*3+1);have A:=hV.setMk hk (fr k);have fr5:=hV.fro (k*3+1) (.int .i64 (fr k:Nat));obtain⟨W5,L⟩ : ∃ W5,W5=w4.setCell ⟨kb,k*3+1,none⟩ (.int .i64 (fr k:Nat)):=⟨_,rfl⟩;rw[<-L]at A fr5;have ro:=hM.off.of_block (fr5.block _ (m _ (by omega) (by omega)));have rr:=hM.rest.of_block (fr5.block _ (m _ (by omega) (by omega)));have p0:=ro.cell (i:=0) (by omega);have p1:=ro.cell (i:=1) (by omega);have p2:=ro.cell (i:=2) (by omega);have t0:=rr.cell (i:=0) (by omega);have t1:=rr.cell (i:=1) (by omega);have t2:=rr.cell (i:=2) (by omega);simp only[List.getD_cons_succ,List.getD_cons_zero]at p0 p1 p2 t0 t1 t2;subst L;have HV:=ae hV;have d:=ae A;have FR5:=ae fr5;have HM:=ae hM;have HS:=ae hS;have T1:=ae J;have N1:=ae m;have S1:=ae K;have a2:=ae ro;clear f hV J m K fk A fr5 ro rr hM hS
 by_cases he:q1=q2
 ·have a3:(q1:Int)=(q2:Int):=by omega
  go_wp2_with fail
  first|(refine bodyPost_ret (results_none rfl _ _ _) rfl ?_)|(refine bodyPost_end (results_none rfl _ _ _) rfl ?_)
  refine⟨rfl,(bC HM.u.bl HO.u).trans (FR5.u.mono S1.u),.inl ⟨_,_,_,?_,d.u.mono S1.u⟩⟩;rcases HS.u with ⟨rfl,rfl,-⟩|⟨rfl,rfl,-⟩
  ·exact .inl he.symm
  exact .inr he
 have a3:¬ (q1:Int)=(q2:Int):=by omega
 have M:fr k<mk k/\mk k<tt k/\q1<q2/\q2<=n:=by
  rcases HS.u with ⟨rfl,rfl,-,-,hc⟩|⟨rfl,rfl,-,-,hc⟩<;>omega
 obtain⟨x0,x1,x2,fx⟩:=d.u.blk hk;have q:=((d.u.setFr hk s1).setMk hk s1).setTt hk s2;have fr7:=(d.u.fro (k*3) (.int .i64 (s1:Nat))).trans (((d.u.setFr hk s1).fro (k*3+1) (.int .i64 (s1:Nat))).trans (((d.u.setFr hk s1).setMk hk s1).fro (k*3+2) (.int .i64 (s2:Nat))));rw[Bb]at q;have FR7:=ae fr7;obtain⟨-,-,-,y3,-⟩:=q.facts;have r:=ae q;clear q fr7
 go_wp2_with fail;obtain⟨w7,P⟩ : ∃ w7,w7=(((w4.setCell ⟨kb,k*3+1,none⟩ (.int .i64 (fr k:Nat))).setCell ⟨kb,k*3,none⟩ (.int .i64 (s1:Nat))).setCell ⟨kb,k*3+1,none⟩ (.int .i64 (s1:Nat))).setCell ⟨kb,k*3+2,none⟩ (.int .i64 (s2:Nat)):=⟨_,rfl⟩;rw[<-P]at r FR7 y3 ⊢;clear P x0 x1 x2 fx b0 b1 b2 f1 p0 p1 p2 t0 t1 t2;have ro7:=a2.u.of_block (FR7.u.block _ (N1.u _ (by omega) (by omega)));have k0:=ro7.cell (i:=0) (by omega);have k1:=ro7.cell (i:=1) (by omega);have k2:=ro7.cell (i:=2) (by omega);simp only[List.getD_cons_succ,List.getD_cons_zero]at k0 k1 k2;have a7:w4.heap.size<=w7.heap.size:=Nat.le_trans FR5.u.size FR7.u.size;refine ue w7 g w.heap.size kb kc N q1 q2 _ r.u.lt (by omega) y3 k0 k1 k2 r.u.rk (fun WA w8 gg cap r1 r2 r3 hP=>?_)
 obtain⟨c,B,c7,z7⟩:=r.u.pushK (fun k hk=>T1.u k (by omega)) hP.below r1 r2 (by
  rcases r3 with e|e
  ·exact .inl (Option.some.inj e).symm
  exact .inr (by omega))
 refine⟨c7,z7,?_⟩;clear c7 z7 r1 r2 r3 hP k0 k1 k2 y3;obtain⟨w9,Q⟩ : ∃ w9,w9=w8.setCell ⟨g,3,none⟩ (.slice (some ⟨gg,0,none⟩) (N+1) cap):=⟨_,rfl⟩;rw[<-Q]at c B ⊢;clear Q;obtain⟨d0,d1,d2,d3,d4,d5,fz⟩:=c.facts;obtain⟨e0,e1,e2,-⟩:=c.blk (k:=N) (by omega);rw[bI]at e0 e1 e2;have R:=ae (jq g mb 0 gg 0 n (N+1) mc cap N q1 q1 q2 w9 (by omega) (by omega) (by omega) c.cap c.lt d0 d3 (by rw[Nat.zero_add];exact e0) (by rw[Nat.zero_add];exact e1) (by rw[Nat.zero_add];exact e2));have S:=ae c;have C:=ae B;clear c B d0 d1 d2 d3 d4 d5 fz e0 e1 e2
 go_wp2_with fail;refine R.u.mono ?_;rintro e w10 ⟨rfl,l⟩;have x:=S.u.keep (w':=w10) (fun k _ hk=>l.block k hk);have T:=ae x;have y:=ae l;rw[Nat.zero_add];clear R S x l
 go_wp2_with fail
 go_loopw [89] (fun iv wr=>∃ i:Nat,i<=q2-q1/\iv=.int .i64 (i:Nat)/\aU O1 g mb mc pb pc bb bc wr n (N+1) ms ps (fun t=>if q1<=ps t/\ps t<q1+i then N else bs t) (bX (bX fr k s1) N q1) (bX (bX mk k s1) N q1) (bX (bX tt k s2) N q2) gg cap qv qs tk/\aT O1 w10 wr) (fun iv _=>q2-q1-(intOf iv).toNat)
 case atStart=>exact⟨0,by omega,rfl,T.u.congrB (fun t _=>by rw[if_neg (by omega)]),aT.refl _ _⟩
 obtain⟨i,hi,rfl,a,s⟩:=hrel
 by_cases hlt:i<q2-q1
 ·have U:(i:Int)<((q2-q1:Nat):Int):=by omega
  have a4:=(HI.u.m1 (q1+i) (by omega)).1;have a8:=(HI.u.m1 (q1+i) (by omega)).2;have m0:=a.rm.cell (j:=q1+i) (by omega);obtain⟨-,-,d2,-⟩:=a.facts;have m1:=a.rb.cell a4;have m2:=a.rb.frozen (ms (q1+i));have a5:((ms (q1+i):Nat):Int)<(n:Int):=by omega
  have D:=ae (a.setB (ms (q1+i)) N);have v:=ae (s.trans (a.froB (ms (q1+i)) (.int .i64 (N:Nat))));clear a s
  go_wp2_with fail
  go_roundw
  case rel =>
   refine⟨i+1,by omega,rfl,D.u.congrB (fun t ht=>?_),v.u⟩
   by_cases e:t=ms (q1+i)
   ·subst e;rw[bI,if_pos (by omega)]
   rw[aW _ e];have hne:ps t≠q1+i:=fun h=>e (by rw[<-(HI.u.p1 t ht).2,h])
   by_cases h5:q1<=ps t/\ps t<q1+i
   ·rw[if_pos h5,if_pos (by omega)]
   rw[if_neg h5,if_neg (by omega)]
  simp[intOf];omega
 have U:¬ (i:Int)<((q2-q1:Nat):Int):=by omega
 obtain rfl:i=q2-q1:=by omega
 rw[show q1+(q2-q1)=q2 by omega]at a;obtain⟨-,-,-,-,d4,-,fz⟩:=a.facts;have V:=ae (sA g 4 qv qs (N:Nat) wr a.lt (fun e=>(a.oq _ e).2.1 rfl) (by omega) d4 (fz 4) a.rq);have D:=ae a;have v:=ae s;clear a s d4 fz
 go_wp2_with fail;refine V.u.mono ?_;rintro e w12 ⟨rfl,v',w11,rfl,r1,r2,r3⟩;have X:=D.u.pushQ (fun k hk=>T1.u k (by have:=v.u.size;have:=y.u.size;have:=C.u.size;omega)) (ai wr _) r1 r2 r3;have Y:=ae X;clear X r1 r2 r3 V
 go_wp2_with fail
 first|(refine bodyPost_ret (results_none rfl _ _ _) rfl ?_)|(refine bodyPost_end (results_none rfl _ _ _) rfl ?_)
 refine⟨rfl,(bC HM.u.bl HO.u).trans (aT.mono (FR5.u.trans (FR7.u.trans (C.u.trans ((bC y.u (fun k hk=>T1.u k (by have:=C.u.size;omega))).trans (v.u.trans Y.u.2))))) S1.u),.inr ⟨_,_,_,q1,q2,s1,s2,M.1,M.2.1,HS.u,Y.u.1.mono S1.u⟩⟩
end Go.Proofs.YtidfkbghlkcbeaaGreatDoor
