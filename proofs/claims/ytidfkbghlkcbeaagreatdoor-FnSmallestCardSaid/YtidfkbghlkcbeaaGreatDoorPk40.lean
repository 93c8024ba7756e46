import Derived.Test.YtidfkbghlkcbeaaGreatDoorPk33
namespace Go.Proofs.YtidfkbghlkcbeaaGreatDoor
open Go.RowKit Go.Proofs.Tryz
set_option maxHeartbeats 16000000
set_option maxRecDepth 100000
theorem aA.box{lo n B o:Nat}{w:World}{v u:Value}{xs:List El}{T:TypeId}{b1 b2:Bool}{a:Option Addr}{m c:Nat}(h:aA lo n w v xs)(hB:jF w B T (.bool b1) (.bool b2) (.slice a m c)):aA lo n (w.setCell ⟨B,o,none⟩ u) v xs:=by
 have g:∀ b j z,w.cell? ⟨b,j,none⟩=some (.int .i64 z)->b≠B:=fun b j z e hb=>by
  subst hb;obtain⟨q0,q1,q2⟩:=hB.facts
  by_cases h3:j<3
  ·have:j=0∨j=1∨j=2:=by omega
   rcases this with rfl|rfl|rfl
   ·rw[q0]at e;cases e
   ·rw[q1]at e;cases e
   rw[q2]at e;cases e
  obtain⟨d,hd,hs,-⟩:=hB;rw[cell_of_row w b j d _ _ hd,Array.getElem?_eq_none (by omega)]at e;cases e
 have hk:∀ b j,b≠B->(w.setCell ⟨B,o,none⟩ u).cell? ⟨b,j,none⟩=w.cell? ⟨b,j,none⟩:=fun b j hb=>World.cell?_of_block (a:=⟨b,j,none⟩) (Below.heap_setCell _ _ _ _ (by show b≠B;exact hb))
 obtain⟨a',cap,rfl,hl,hc⟩:=h;refine⟨a',cap,rfl,hl,fun hp=>?_⟩;obtain⟨b,off,rfl,k,l,f⟩:=hc hp;refine⟨b,off,rfl,k,l,fun i hi=>?_⟩;obtain⟨i1,i2,i3,s,c0,c1,c2,c3,a1,cap1,e1,l1,r1,hs⟩:=f i hi;have hb:=g b _ _ c0;refine⟨i1,i2,i3,s,(hk b _ hb).trans c0,(hk b _ hb).trans c1,(hk b _ hb).trans c2,(hk b _ hb).trans c3,a1,cap1,e1,l1,r1,fun hp1=>?_⟩;obtain⟨b',off',e2,h1,h2,h3⟩:=hs hp1;exact⟨b',off',e2,h1,h2,fun j hj=>(hk b' _ (g b' _ _ (h3 j hj))).trans (h3 j hj)⟩
theorem ot(cv:Value)(cs:List Int)(w:World)(hv:aK mB 0 0 w.heap.size w cv cs)(hcap:cB cv)(hx:dN (cs.take 600))(hk2:(cs.take 600).headD 0%80=2) :
  Calls prog 4 #[cv] w (FB w (iF (cs.take 600))):=by
 have HX:=ae hx;have HV:=ae hv;have U:=ae hcap;obtain⟨ca,cc,rfl,-⟩:=hv;obtain⟨xs,f⟩ : ∃ xs,cs.take 600=xs:=⟨_,rfl⟩;rw[f]at HX hk2 ⊢;have V:=ae f;obtain⟨R,hR⟩ : ∃ R,R=iF xs:=⟨_,rfl⟩;rw[<-hR];unfold iF at hR;obtain⟨y,hy⟩ : ∃ y,xs.headD 0=y:=⟨_,rfl⟩;have hh:=HX.u.head;rw[hy]at hk2 hR hh;rw[if_neg (by omega),if_neg (by omega),if_pos hk2]at hR;have HY:=ae hy;have HR:=ae hR;clear hR hx f hcap hy;have HP:=ae (jF.new w 25 (.bool false) (.bool false) (.slice none 0 0));have C:=ae (ai w (.cells #[.bool false,.bool false,.slice none 0 0] 25));have X:(w.alloc (.cells #[.bool false,.bool false,.slice none 0 0] 25)).heap.size=w.heap.size+1:=ah _ _;have Y:=ae (HV.u.cut C.u lR)
 go_enter func4,ntmps4
 go_wp2_with fail;generalize w.alloc (.cells #[.bool false,.bool false,.slice none 0 0] 25)=W0 at *;refine(nt _ cs W0 Y.u U.u).mono ?_;rw[V.u];obtain⟨D,E⟩ : ∃ D,W0.heap.size=D:=⟨_,rfl⟩;rw[E];rintro e w1 ⟨rfl,F,Z,g⟩;have b6:w.heap.size<D:=by omega
 have b7:w.heap.size+2<=w1.heap.size:=by omega
 have a0:=ae (C.u.trans (g.mono (by omega)));have a1:=ae (HP.u.below g (by omega));have a2:=ae F;have b8:D<w.heap.size+2:=by omega
 clear g E X Z F
 go_wp2_with fail;refine(aE D D xs w1 a2.u HX.u).mono ?_;rintro e w2 ⟨he,G,j⟩;rw[HY.u]at he;subst he;have b9:w2.heap.size=w1.heap.size:=j.size;have a3:=ae (j.mv w1.heap.size);have a5:=ae G;clear G j;have H:Hi (∀ W,Mv (w.heap.size+2) D w2 W->jF W w.heap.size 25 (.bool false) (.bool false) (.slice none 0 0)/\Below w.heap.size w W):=fun W hW=>by
  have h1:=(a3.u.mono (lo':=w.heap.size+2) (by omega)).trans hW;exact⟨a1.u.blk (h1.block w.heap.size (by omega) (by omega)),a0.u.trans ((h1.below (by omega)).mono (by omega))⟩
 have aa:=HX.u.tail.head;obtain⟨y2,l⟩ : ∃ y2,xs.tail.headD 0=y2:=⟨_,rfl⟩;rw[l]at aa HR;have ab:=ae l;obtain⟨k,hk⟩ : ∃ k:Nat,(10+y2%2).toNat=k:=⟨_,rfl⟩;rw[hk]at HR;have I:10+y2%2=(k:Int):=by omega
 have ad:k<=12:=by omega
 have HH:=ae I;clear l hk I
 go_wp2_with fail;refine(aE D D xs.tail w2 a5.u HX.u.tail).mono ?_;rintro e w3 ⟨he,af,m⟩;rw[ab.u]at he;subst he;have bb:w3.heap.size=w2.heap.size:=m.size;have ag:=ae (m.mv w2.heap.size);clear af m
 go_wp2_with fail;refine(kG _ k false w3 HH.u ad).mono ?_;rintro e w4 ⟨⟨v4,rfl,J⟩,n⟩;have K:Hi (aA w3.heap.size w4.heap.size w4 v4 (gv k jy)):=J;obtain⟨a4,c4,rfl,-⟩:=K.u;have bc:=n.size;have al:=ae ((ag.u.mono (lo':=w.heap.size+2) (by omega)).trans ((Below.mv n D).mono (by omega)));have HQ:=ae (jF.new w4 25 (.bool true) (.bool true) (.slice a4 (gv k jy).length c4));have L:=ae (ai w4 (.cells #[.bool true,.bool true,.slice a4 (gv k jy).length c4] 25));have bd:(w4.alloc (.cells #[.bool true,.bool true,.slice a4 (gv k jy).length c4] 25)).heap.size=w4.heap.size+1:=ah _ _;have an:=ae ((K.u.mono (lo':=w.heap.size+2) (by omega) lR).below L.u lR);obtain⟨q0,q1,q2⟩:=HQ.u.facts;have y0:=World.rowIs.frozen HQ.u 2;clear J n
 go_upto_region 9 with fail
 generalize w4.alloc (.cells #[.bool true,.bool true,.slice a4 (gv k jy).length c4] 25)=W5 at *;clear q0 q1
 go_cut [5] (fun pv wx=>pv=.pointer (some ⟨w4.heap.size,0,none⟩)/\∃ v,aA (w.heap.size+2) wx.heap.size wx v R.2/\jF wx w4.heap.size 25 (.bool true) (.bool true) v/\Mv (w.heap.size+2) D w2 wx)
 case first =>
  have b5:=ae (Below.refl W5.heap.size W5);have ao:Hi (∀ w9,Below W5.drew.heap.size W5.drew w9->Below W5.heap.size W5 w9):=fun w9 h=>⟨h.os,h.tape,h.output,h.size,h.block⟩
  have ap:=ae (pG W5.drew);have be:W5.drew.heap.size=W5.heap.size:=rfl
  go_region_with (first
   | ((with_reducible refine ap.u.mono ?_)
      rintro e w6 ⟨v6,rfl,M,r⟩;have aq:=ae (M.mono (lo':=w.heap.size+2) (by omega) lR);obtain⟨a6,c6,rfl,-⟩:=M;have N:=ae (ao.u w6 r);have bf:=r.size;have f6:=(HQ.u.below N.u (by omega)).facts.2.2;have ar:Hi (Calls prog 16 #[.slice a6 2 c6] w6 fun e w'=>∃ v,e=.returned v/\aA (w.heap.size+2) w'.heap.size w' v (sE [0,255])/\Below w6.heap.size w6 w'):=cJ (w.heap.size+2) _ _ w6 aq.u (by omega) (by simp);clear r)
   | ((with_reducible refine ar.u.mono ?_)
      rintro e w7 ⟨v7,rfl,O,s⟩;have av:=ae O;obtain⟨a7,c7,rfl,-⟩:=O;have bl:=s.size;have P:=ae (N.u.trans (s.mono (by omega)));have f7:=(HQ.u.below P.u (by omega)).facts.2.2;clear s)
   | ((with_reducible refine(ez av.u jH (by omega) (by omega) (p:=0) (q:=(-1)) (by unfold az;omega) (by unfold az;omega)).mono ?_)
      rintro e w8 ⟨v8,rfl,Q,t⟩;have aw:=ae Q;obtain⟨a8,c8,rfl,-⟩:=Q;have bn:=t.size;have z:=ae (P.u.trans (t.mono (by omega)));have f8:=(HQ.u.below z.u (by omega)).facts.2.2;clear t)
   | ((with_reducible refine(kE (an.u.below z.u lR) aw.u (qj k ((jH.rep (lo:=0) (hi:=-1) (by unfold az;omega) (by unfold az;omega)).cat (NL.one (x:=97) (by omega) (by omega)))) (jH.rep (lo:=0) (hi:=-1) (by unfold az;omega) (by unfold az;omega)) (by omega) (by omega) (by omega)).mono ?_)
      rintro e w9 ⟨v9,rfl,S,A⟩;have ax:=ae S;obtain⟨a9,c9,rfl,-⟩:=S;have bo:=A.size;have d:=ae (z.u.trans (A.mono (by omega)));have f9:=(HQ.u.below d.u (by omega)).facts.2.2;have z9:=World.rowIs.frozen (HQ.u.below d.u (by omega)) 2;clear A))
  all_goals
   have B:=HQ.u.below d.u (by omega);have b0:=ae (ax.u.box (o:=2) (u:=.slice a9 (fN (gv k jy) (bi (sE [0,255]) 0 (-1))).length c9) B);have b1:Hi (jF (w9.setCell ⟨w4.heap.size,2,none⟩ (.slice a9 (fN (gv k jy) (bi (sE [0,255]) 0 (-1))).length c9)) w4.heap.size 25 (.bool true) (.bool true) (.slice a9 (fN (gv k jy) (bi (sE [0,255]) 0 (-1))).length c9)):=(World.rowIs.set B 2 (.slice a9 (fN (gv k jy) (bi (sE [0,255]) 0 (-1))).length c9)).congr (fun i hi=>by
    match i,hi with
    | 0,_=>rfl
    | 1,_=>rfl
    | 2,_=>rfl)
   have b2:=ae (al.u.trans ((Below.mv (L.u.mono (by omega)) D).trans ((Below.mv (d.u.mono (by omega)) D).trans (Below.mv (aD (b:=w4.heap.size) (o:=2) (Below.refl (w.heap.size+2) w9) (by omega) (.slice a9 (fN (gv k jy) (bi (sE [0,255]) 0 (-1))).length c9)) D))));clear B
   go_wp2_with fail;go_meet;exact⟨rfl,_,by rw[HR.u];exact b0.u.mono lR (by rw[aM];exact Nat.le_refl _),b1.u,b2.u⟩
 obtain⟨rfl,v,hv,hq,hm⟩:=hcut;have HT:=ae hv;obtain⟨a,c,rfl,-⟩:=hv;obtain⟨t0,t1,t2⟩:=hq.facts;obtain⟨BP,T⟩:=H.u _ hm;obtain⟨p0,p1,p2⟩:=BP.facts;have z0:=World.rowIs.frozen BP 0;have z1:=World.rowIs.frozen BP 1;have z2:=World.rowIs.frozen BP 2;have b3:=ae T;have b4:R.1=(true,true):=by rw[HR.u]
 clear BP T hm hq;go_wp2;refine bodyPost_ret (v:=.agg #[.bool R.1.1,.bool R.1.2,.slice a R.2.length c]) (by rw[b4];simp[results,results4,go_sem,p0,p1,p2]) rfl ⟨⟨_,rfl,?_⟩,?_⟩
 ·exact(HT.u.mono (lo':=w.heap.size+1) (by omega) lR).put3 (lo:=w.heap.size) (by omega)
 exact aD (aD (aD b3.u lR _) lR _) lR _
theorem jD.new(w:World)(x:El)(sv:Value):jD (w.alloc (.cells #[.int .i64 x.kind,sv,.int .i64 x.mn,.int .i64 x.mx] 65)) w.heap.size 0 x sv:=
 ⟨World.news_of_block (MapKept.heap_alloc _ _).1 0 _ rfl,World.news_of_block (MapKept.heap_alloc _ _).1 1 _ rfl,World.news_of_block (MapKept.heap_alloc _ _).1 2 _ rfl,World.news_of_block (MapKept.heap_alloc _ _).1 3 _ rfl⟩
def els(S:List (Value×List Pc)):List (List El):=(S.map (fun e=>e.2.map Pc.x)).reverse
theorem dV(S:List (Value×List Pc))(u:Value)(L:List Pc):els (S++[(u,L)])=L.map Pc.x::els S:=by simp[els]
theorem BC(S:List (Value×List Pc)):(els S).length=S.length:=by simp[els]
theorem Cj(xs:List El):aQ xs<=xs.length:=by
 induction xs with
 | nil=>simp[aQ]
 | cons x r ih =>
  have:wt x<=1:=by
   unfold wt;repeat' split
   all_goals omega
  simp[aQ];omega
theorem kD{α:Type}{S:List α}(h:1<=S.length):∃ b o,S=b++[o]:=by
 rcases List.eq_nil_or_concat S with rfl|⟨b,o,rfl⟩
 ·simp at h
 exact⟨b,o,by simp⟩
theorem qT.cell{base:Nat}{w:World}{v:Value}{S:List (Value×List Pc)}(h:qT base w v S)(hp:1<=S.length):∃ g cap,v=.slice (some ⟨g,0,none⟩) S.length cap/\S.length<=cap/\∀ (i:Nat) (e:Value×List Pc),S[i]?=some e->w.cell? ⟨g,i,none⟩=some e.1:=by
 rcases h.own.2 with ⟨rfl,hz⟩|⟨g,cap,cur,rfl,c,hg,a,d,f,b⟩
 ·omega
 refine⟨g,cap,rfl,a,fun i e he=>?_⟩;have hi:=(List.getElem?_eq_some_iff.1 he).1;rw[h.own.cellAt i (by omega),List.getElem?_map,he]
 rfl
def EV(X:List El)(w:World)(e:Ending)(w':World):Prop:=∃ v' T,e=.returned v'/\cX [] X=[T]/\aA 0 w'.heap.size w' v' T/\Below w.heap.size w w'
theorem tD(v:Value)(X:List El)(w:World)(hv:aA 0 w.heap.size w v X)(hok:bO X)(hu:UB 60000000000 X) :
  Calls prog 10 #[v] w fun e w'=>EV X w e w':=by
 have a8:=ae (DI hok hu);have a1:=ae hok;have hX:=hok.1;obtain⟨a,cap,rfl,hl,hc⟩:=hv;have HC:=ae hc;clear hc hu hok
 go_enter func10,ntmps10
 go_wp2_with fail
 go_loopw [3,4] (fun sv iv wr=>∃ (i:Nat) (S:List (Value×List Pc)),i<=X.length/\iv=.int .i64 (i:Nat)/\qT w.heap.size wr sv S/\els S=cX [] (X.take i)/\Below w.heap.size w wr) (fun _ iv _=>X.length-(intOf iv).toNat)
 case atStart=>exact⟨0,[],Nat.zero_le _,rfl,qT.nil _ _,rfl,Below.refl _ _⟩
 obtain⟨i,S,hi,rfl,hS,hE,hB⟩:=hrel;have D:=hB.size;obtain⟨p1,p2,p3⟩:=a8.u i hi;rw[<-hE,BC]at p1 p3;rw[<-hE]at p2;obtain⟨sa,sc,rfl⟩:=aj hS.own
 by_cases hlt:i<X.length
 ·obtain⟨b,off,rfl,-,an,a9⟩:=HC.u (by omega);obtain⟨i1,i2,i3,tv,c0,c1,c2,c3,E⟩:=(a9 i hlt).same (dm.of_below hB lR) (Nat.zero_le _) an;have O:=Gl (a1.u.2.1 i hlt);have h3:=p3 hlt;have aa:cX [] (X.take (i+1))=dF (els S) (X[i]?.getD dE):=by rw[cj hlt,da,hE];rfl
  have b6:=ae (a1.u.2.1 i hlt);generalize X[i]?.getD dE=x at *;obtain⟨kd,st,mn,mx⟩:=x
  dsimp only at i1 i2 i3 c0 c2 c3 E O
  have ab:(i:Int)<(X.length:Int):=by omega
  have b7:S.length<=3000:=by
   have h1:=Cj (X.take i);have h2:(X.take i).length<=X.length:=by rw[List.length_take];omega
   omega
  have r:=ae aa;have P:Hi (∀ e∈S,0<e.2.length/\e.2.length<=60000000000):=fun e he=>by
   have:=p2 (e.2.map Pc.x) (by unfold els;rw[List.mem_reverse];exact List.mem_map.2 ⟨e,he,rfl⟩);rw[List.length_map]at this;exact this
  obtain⟨ta,tc,rfl,-⟩:=id E;obtain⟨W1,Q⟩ : ∃ W1,W1=wr.alloc (.cells #[.int .i64 kd,.slice ta st.length tc,.int .i64 mn,.int .i64 mx] 65):=⟨_,rfl⟩;obtain⟨g,hg⟩ : ∃ g,g=W1.heap.size:=⟨_,rfl⟩;have b8:g<=W1.heap.size:=by omega
  have ao:wr.heap.size<g:=by rw[hg,Q,ah];omega
  have k:=ae (Below.refl g W1);have H:Hi (∀ W,Below g W1 W->Below wr.heap.size wr W):=fun W hW=>by
   have h1:Below wr.heap.size wr W1:=by rw[Q];exact ai wr _
   exact h1.trans (hW.mono (by omega))
  have N:Hi (∀ W,Below g W1 W->aR 0 w.heap.size W (.slice ta st.length tc) st):=fun W hW=>E.same (dm.of_below (H.u W hW) D)
  have R:Hi (∀ W,Below g W1 W->W.cell? ⟨wr.heap.size,0,none⟩=some (.int .i64 kd)/\W.cell? ⟨wr.heap.size,1,none⟩=some (.slice ta st.length tc)/\W.cell? ⟨wr.heap.size,2,none⟩=some (.int .i64 mn)/\W.cell? ⟨wr.heap.size,3,none⟩=some (.int .i64 mx)):=fun W hW=>by
   have h1:jD W1 wr.heap.size 0 ⟨kd,st,mn,mx⟩ (.slice ta st.length tc):=by rw[Q];exact jD.new wr ⟨kd,st,mn,mx⟩ _
   have h2:=h1.same (hW.block wr.heap.size ao)
   simpa[jD]using h2
  have z:Hi (∀ W,Below g W1 W->qT w.heap.size W (.slice sa S.length sc) S):=fun W hW=>hS.keep (H.u W hW) lR D
  have T:Hi (∀ (n:Nat) (u:Value) (W:World) (L:List Pc),gY g w.heap.size W u L->∀ q,u.ownBlock=some q->(Value.slice sa n sc).ownBlock≠some q):=fun n u W L hG q hq e=>by
   have h1:=(hG.own.lt q hq).1;have h2:=(hS.own.lt q (by cases sa<;>exact e)).2;omega
  obtain⟨e0,e1,e2,e3⟩:=R.u _ k.u;have ad:=ae Q;have HS:=ae hS;clear Q hg hS aa E a9 p1 p2 p3 HC
  go_upto_region 8 with fail
  rw[<-ad.u];clear ad
  by_cases hk2:kd=2∨kd=3
  ·have a2:wt ⟨kd,st,mn,mx⟩ = -1:=by unfold wt;rw[if_neg (by dsimp only;omega),if_pos hk2]
   have ap:2<=S.length:=by omega
   clear a2 h3;obtain⟨S1,⟨uy,Ly⟩,c⟩:=kD (S:=S) (by omega);obtain⟨S0,⟨ux,Lx⟩,V⟩:=kD (S:=S1) (by rw[c,List.length_append,List.length_singleton]at ap;omega);rw[V,List.append_assoc]at c;have a3:S.length=S0.length+2:=by rw[c];simp
   obtain⟨qb,qc,eS,Y,j⟩:=(z.u _ k.u).cell (by omega);cases eS;have d1:=j S0.length (ux,Lx) (by rw[c];simp);have d2:=j (S0.length+1) (uy,Ly) (by rw[c];simp);have lx2:Lx.length<=60000000000:=(P.u (ux,Lx) (by rw[c];simp)).2;have ly2:Ly.length<=60000000000:=(P.u (uy,Ly) (by rw[c];simp)).2;have F:Hi (∀ W,Below g W1 W->gY w.heap.size w.heap.size W ux Lx):=fun W hW=>((z.u W hW).els (ux,Lx) (by rw[c];simp)).1
   have a4:Hi (∀ W,Below g W1 W->gY w.heap.size w.heap.size W uy Ly):=fun W hW=>((z.u W hW).els (uy,Ly) (by rw[c];simp)).1
   have I:Hi (∀ W,Below g W1 W->qT w.heap.size W (.slice (some ⟨qb,0,none⟩) S0.length sc) S0):=fun W hW=>by
    have:=z.u W hW;rw[c]at this;exact this.pre
   have J:Hi (cX [] (X.take (i+1))=dF (Ly.map Pc.x::Lx.map Pc.x::els S0) ⟨kd,st,mn,mx⟩):=by
    show cX [] (X.take (i+1))=_;rw[r.u,c,show S0++([(ux,Lx)]++[(uy,Ly)])=(S0++[(ux,Lx)])++[(uy,Ly)] by simp,dV,dV]
   clear r;have r:=J;clear J;have K:=ae (T.u S0.length);obtain⟨xa,xc,rfl⟩:=aj (F.u _ k.u).own;obtain⟨ya,yc,rfl⟩:=aj (a4.u _ k.u).own;obtain⟨n,hn⟩ : ∃ n,n=S.length:=⟨_,rfl⟩;rw[<-hn];have b9:IntKind.i64.wrap ((n:Int)-2)=(S0.length:Int):=by rw[jf (by omega) (by omega)];omega
   have aq:IntKind.i64.wrap ((n:Int)-1)=((S0.length+1:Nat):Int):=by rw[jf (by omega) (by omega)];omega
   have ar:(S0.length:Int)<(n:Int):=by omega
   have bb:((S0.length+1:Nat):Int)<(n:Int):=by omega
   have av:(S0.length:Int)<=(sc:Int):=by omega
   have aw:S0.length<=3000:=by omega
   have ax:=ae c;clear V a3 j HS z P hn c Y
   by_cases hk3:kd=3
   ·subst hk3;clear O hk2
    go_wp2_with (at_builtin;refine fY rfl _ _ rfl g w.heap.size w.heap.size (.slice none 0 0) (.slice ya Ly.length yc) rfl rfl ([]:List Pc) Ly (gY.nil _ _ _) (a4.u _ k.u) (by omega) (by omega) (by simp only[List.length_nil];omega) ?_)
    intro u1 W2 hG hb;have U:=hb.size;have l:=ae (k.u.trans hb);obtain⟨ua1,uc1,rfl⟩:=aj hG.own;have s:Hi (gY g w.heap.size W2 (.slice ua1 Ly.length uc1) Ly):=hG;clear hG hb
    go_wp2_with (at_builtin;refine fY rfl _ _ rfl g w.heap.size w.heap.size (.slice ua1 Ly.length uc1) (.slice xa Lx.length xc) rfl rfl Ly Lx s.u (F.u _ l.u) (by omega) (by omega) (by omega) ?_)
    intro u2 W3 hG hb;have Z:=hb.size;have p:=ae (l.u.trans hb);obtain⟨ua2,uc2,rfl⟩:=aj hG.own;obtain⟨L2,hL⟩ : ∃ L:List Pc,L=Ly++Lx:=⟨_,rfl⟩;rw[<-hL]at hG ⊢;have a0:L2.length<=120000000000:=by rw[hL,List.length_append];omega
    have G:=ae hL;have A:=ae hG;clear hG hb hL;obtain⟨e0,e1,e2,e3⟩:=R.u _ p.u
    go_wp2_with (at_builtin;refine fQ rfl _ _ rfl g w.heap.size (.slice ua2 L2.length uc2) rfl rfl L2 3 mn mx st (.slice ta st.length tc) A.u ⟨⟨i1,i2,i3⟩,N.u _ p.u⟩ (by omega) (by omega) (by omega) ?_)

    intro u3 W4 hG hb;have a5:=hb.size;have B:=ae (p.u.trans hb);obtain⟨ua3,uc3,rfl⟩:=aj hG.own;obtain⟨L3,hL⟩ : ∃ L:List Pc,L=L2++[⟨⟨3,st,mn,mx⟩,(.slice ta st.length tc),fun _=>False⟩]:=⟨_,rfl⟩;rw[<-hL]at hG ⊢;have a6:L3.length<=120000000001:=by rw[hL,List.length_append,List.length_singleton];omega
    have M:=ae hL;have C:=ae hG;clear hG hb hL;clear e0 e1 e2 e3
    go_wp2_with (at_builtin;refine iY rfl _ _ rfl w.heap.size (.slice (some ⟨qb,0,none⟩) S0.length sc) rfl rfl S0 (.slice ua3 L3.length uc3) L3 (I.u _ B.u) (C.u.low (by omega)) (K.u _ _ _ C.u) (by omega) (by omega) ?_)
    intro v9 W9 d m;have o:Hi (els (S0++[((.slice ua3 L3.length uc3),L3)])=cX [] (X.take (i+1))):=by
     show els (S0++[((.slice ua3 L3.length uc3),L3)])=cX [] (X.take (i+1));rw[dV,r.u,M.u,G.u];unfold dF;rw[if_pos (by simp)];simp
    obtain⟨S9,f⟩ : ∃ S9,S9=S0++[((.slice ua3 L3.length uc3),L3)]:=⟨_,rfl⟩;rw[<-f]at o d;have t:=ae (hB.trans (((H.u _ B.u).mono D).trans m));obtain⟨va,vc,rfl⟩:=aj d.own;have y:=ae d;clear d m f;go_wp2
    go_roundw
    case rel=>exact⟨i+1,S9,by omega,by go_num,y.u,o.u,t.u⟩
    simp[intOf];omega
   obtain rfl:kd=2:=by omega
   clear O hk2 hk3
   go_wp2_with (at_builtin;refine fY rfl _ _ rfl g w.heap.size w.heap.size (.slice none 0 0) (.slice xa Lx.length xc) rfl rfl ([]:List Pc) Lx (gY.nil _ _ _) (F.u _ k.u) (by omega) (by omega) (by simp only[List.length_nil];omega) ?_)
   intro u1 W2 hG hb;have U:=hb.size;have l:=ae (k.u.trans hb);obtain⟨ua1,uc1,rfl⟩:=aj hG.own;have s:Hi (gY g w.heap.size W2 (.slice ua1 Lx.length uc1) Lx):=hG;clear hG hb
   go_wp2_with (at_builtin;refine fY rfl _ _ rfl g w.heap.size w.heap.size (.slice ua1 Lx.length uc1) (.slice ya Ly.length yc) rfl rfl Lx Ly s.u (a4.u _ l.u) (by omega) (by omega) (by omega) ?_)
   intro u2 W3 hG hb;have Z:=hb.size;have p:=ae (l.u.trans hb);obtain⟨ua2,uc2,rfl⟩:=aj hG.own;obtain⟨L2,hL⟩ : ∃ L:List Pc,L=Lx++Ly:=⟨_,rfl⟩;rw[<-hL]at hG ⊢;have a0:L2.length<=120000000000:=by rw[hL,List.length_append];omega
   have G:=ae hL;have A:=ae hG;clear hG hb hL;obtain⟨e0,e1,e2,e3⟩:=R.u _ p.u
   go_wp2_with (at_builtin;refine fQ rfl _ _ rfl g w.heap.size (.slice ua2 L2.length uc2) rfl rfl L2 2 mn mx st (.slice ta st.length tc) A.u ⟨⟨i1,i2,i3⟩,N.u _ p.u⟩ (by omega) (by omega) (by omega) ?_)

   intro u3 W4 hG hb;have a5:=hb.size;have B:=ae (p.u.trans hb);obtain⟨ua3,uc3,rfl⟩:=aj hG.own;obtain⟨L3,hL⟩ : ∃ L:List Pc,L=L2++[⟨⟨2,st,mn,mx⟩,(.slice ta st.length tc),fun _=>False⟩]:=⟨_,rfl⟩;rw[<-hL]at hG ⊢;have a6:L3.length<=120000000001:=by rw[hL,List.length_append,List.length_singleton];omega
   have M:=ae hL;have C:=ae hG;clear hG hb hL;clear e0 e1 e2 e3
   go_wp2_with (at_builtin;refine iY rfl _ _ rfl w.heap.size (.slice (some ⟨qb,0,none⟩) S0.length sc) rfl rfl S0 (.slice ua3 L3.length uc3) L3 (I.u _ B.u) (C.u.low (by omega)) (K.u _ _ _ C.u) (by omega) (by omega) ?_)
   intro v9 W9 d m;have o:Hi (els (S0++[((.slice ua3 L3.length uc3),L3)])=cX [] (X.take (i+1))):=by
    show els (S0++[((.slice ua3 L3.length uc3),L3)])=cX [] (X.take (i+1));rw[dV,r.u,M.u,G.u];unfold dF;rw[if_pos (by simp)];simp
   obtain⟨S9,f⟩ : ∃ S9,S9=S0++[((.slice ua3 L3.length uc3),L3)]:=⟨_,rfl⟩;rw[<-f]at o d;have t:=ae (hB.trans (((H.u _ B.u).mono D).trans m));obtain⟨va,vc,rfl⟩:=aj d.own;have y:=ae d;clear d m f;go_wp2
   go_roundw
   case rel=>exact⟨i+1,S9,by omega,by go_num,y.u,o.u,t.u⟩
   simp[intOf];omega
  by_cases hk4:kd=4
  ·subst hk4;have a2:wt ⟨4,st,mn,mx⟩=0:=by simp[wt]
   have b0:1<=S.length:=by omega
   clear a2 h3 O hk2;obtain⟨S0,⟨ux,Lx⟩,c⟩:=kD (S:=S) b0;have a3:S.length=S0.length+1:=by rw[c];simp
   obtain⟨qb,qc,eS,Y,j⟩:=(z.u _ k.u).cell (by omega);cases eS;have d1:=j S0.length (ux,Lx) (by rw[c];simp);have lx2:Lx.length<=60000000000:=(P.u (ux,Lx) (by rw[c];simp)).2;have F:Hi (∀ W,Below g W1 W->gY w.heap.size w.heap.size W ux Lx):=fun W hW=>((z.u W hW).els (ux,Lx) (by rw[c];simp)).1
   have I:Hi (∀ W,Below g W1 W->qT w.heap.size W (.slice (some ⟨qb,0,none⟩) S0.length sc) S0):=fun W hW=>by
    have:=z.u W hW;rw[c]at this;exact this.pre
   have J:Hi (cX [] (X.take (i+1))=dF (Lx.map Pc.x::els S0) ⟨4,st,mn,mx⟩):=by
    show cX [] (X.take (i+1))=_;rw[r.u,c,dV]
   clear r;have r:=J;clear J;have K:=ae (T.u S0.length);obtain⟨xa,xc,rfl⟩:=aj (F.u _ k.u).own;obtain⟨n,hn⟩ : ∃ n,n=S.length:=⟨_,rfl⟩;rw[<-hn];have aq:IntKind.i64.wrap ((n:Int)-1)=(S0.length:Int):=by rw[jf (by omega) (by omega)];omega
   have ar:(S0.length:Int)<(n:Int):=by omega
   have av:(S0.length:Int)<=(sc:Int):=by omega
   have aw:S0.length<=3000:=by omega
   have ax:=ae c;clear a3 j HS z P hn c Y
   by_cases hp1:mn=1/\mx = -1
   ·obtain⟨rfl,rfl⟩:=hp1
    go_wp2_with (at_builtin;refine fY rfl _ _ rfl g w.heap.size w.heap.size (.slice none 0 0) (.slice xa Lx.length xc) rfl rfl ([]:List Pc) Lx (gY.nil _ _ _) (F.u _ k.u) (by omega) (by omega) (by simp only[List.length_nil];omega) ?_)
    intro u1 W2 hG hb;have U:=hb.size;have l:=ae (k.u.trans hb);obtain⟨ua1,uc1,rfl⟩:=aj hG.own;have s:Hi (gY g w.heap.size W2 (.slice ua1 Lx.length uc1) Lx):=hG;clear hG hb
    go_wp2_with (at_builtin;refine fY rfl _ _ rfl g w.heap.size w.heap.size (.slice ua1 Lx.length uc1) (.slice xa Lx.length xc) rfl rfl Lx Lx s.u (F.u _ l.u) (by omega) (by omega) (by omega) ?_)
    intro u2 W3 hG hb;have Z:=hb.size;have p:=ae (l.u.trans hb);obtain⟨ua2,uc2,rfl⟩:=aj hG.own;obtain⟨L2,hL⟩ : ∃ L:List Pc,L=Lx++Lx:=⟨_,rfl⟩;rw[<-hL]at hG ⊢;have a0:L2.length<=120000000000:=by rw[hL,List.length_append];omega
    have G:=ae hL;have A:=ae hG;clear hG hb hL
    go_wp2_with (at_builtin;refine fQ rfl _ _ rfl g w.heap.size (.slice ua2 L2.length uc2) rfl rfl L2 4 0 (-1) [] (.slice none 0 0) A.u ⟨⟨by simp[az],by simp[az],by simp[az]⟩,iR _ _⟩ (by omega) (by omega) (by omega) ?_)
    intro u3 W4 hG hb;have a5:=hb.size;have B:=ae (p.u.trans hb);obtain⟨ua3,uc3,rfl⟩:=aj hG.own;obtain⟨L3,hL⟩ : ∃ L:List Pc,L=L2++[⟨⟨4,[],0,(-1)⟩,(.slice none 0 0),fun _=>False⟩]:=⟨_,rfl⟩;rw[<-hL]at hG ⊢;have a6:L3.length<=120000000001:=by rw[hL,List.length_append,List.length_singleton];omega
    have M:=ae hL;have C:=ae hG;clear hG hb hL
    go_wp2_with (at_builtin;refine fQ rfl _ _ rfl g w.heap.size (.slice ua3 L3.length uc3) rfl rfl L3 2 0 0 [] (.slice none 0 0) C.u ⟨⟨by simp[az],by simp[az],by simp[az]⟩,iR _ _⟩ (by omega) (by omega) (by omega) ?_)
    intro u4 W5 hG hb;have bc:=hb.size;have af:=ae (B.u.trans hb);obtain⟨ua4,uc4,rfl⟩:=aj hG.own;obtain⟨L4,hL⟩ : ∃ L:List Pc,L=L3++[⟨⟨2,[],0,0⟩,(.slice none 0 0),fun _=>False⟩]:=⟨_,rfl⟩;rw[<-hL]at hG ⊢;have bd:L4.length<=120000000002:=by rw[hL,List.length_append,List.length_singleton];omega
    have b1:=ae hL;have ag:=ae hG;clear hG hb hL
    go_wp2_with (at_builtin;refine iY rfl _ _ rfl w.heap.size (.slice (some ⟨qb,0,none⟩) S0.length sc) rfl rfl S0 (.slice ua4 L4.length uc4) L4 (I.u _ af.u) (ag.u.low (by omega)) (K.u _ _ _ ag.u) (by omega) (by omega) ?_)
    intro v9 W9 d m;have o:Hi (els (S0++[((.slice ua4 L4.length uc4),L4)])=cX [] (X.take (i+1))):=by
     show els (S0++[((.slice ua4 L4.length uc4),L4)])=cX [] (X.take (i+1));rw[dV,r.u,b1.u,M.u,G.u];unfold dF;rw[if_neg (by simp),if_pos rfl];simp
    obtain⟨S9,f⟩ : ∃ S9,S9=S0++[((.slice ua4 L4.length uc4),L4)]:=⟨_,rfl⟩;rw[<-f]at o d;have t:=ae (hB.trans (((H.u _ af.u).mono D).trans m));obtain⟨va,vc,rfl⟩:=aj d.own;have y:=ae d;clear d m f;go_wp2
    go_roundw
    case rel=>exact⟨i+1,S9,by omega,by go_num,y.u,o.u,t.u⟩
    simp[intOf];omega
   by_cases hp2:mn=0/\mx=1
   ·obtain⟨rfl,rfl⟩:=hp2;clear hp1
    go_wp2_with (at_builtin;refine fQ rfl _ _ rfl g w.heap.size (.slice none 0 0) rfl rfl ([]:List Pc) 0 0 0 [] (.slice none 0 0) (gY.nil _ _ _) ⟨⟨by simp[az],by simp[az],by simp[az]⟩,iR _ _⟩ (by omega) (by omega) (by simp) ?_)
    intro u1 W2 hG hb;have U:=hb.size;have l:=ae (k.u.trans hb);obtain⟨ua1,uc1,rfl⟩:=aj hG.own;obtain⟨L1,hL⟩ : ∃ L:List Pc,L=[⟨⟨0,[],0,0⟩,(.slice none 0 0),fun _=>False⟩]:=⟨_,rfl⟩;rw[<-hL]at hG ⊢;have b2:L1.length<=1:=by rw[hL,List.length_singleton];omega
    have a7:=ae hL;have s:=ae hG;clear hG hb hL
    go_wp2_with (at_builtin;refine fY rfl _ _ rfl g w.heap.size w.heap.size (.slice ua1 L1.length uc1) (.slice xa Lx.length xc) rfl rfl L1 Lx s.u (F.u _ l.u) (by omega) (by omega) (by omega) ?_)
    intro u2 W3 hG hb;have Z:=hb.size;have p:=ae (l.u.trans hb);obtain⟨ua2,uc2,rfl⟩:=aj hG.own;obtain⟨L2,hL⟩ : ∃ L:List Pc,L=L1++Lx:=⟨_,rfl⟩;rw[<-hL]at hG ⊢;have a0:L2.length<=60000000001:=by rw[hL,List.length_append];omega
    have G:=ae hL;have A:=ae hG;clear hG hb hL
    go_wp2_with (at_builtin;refine fQ rfl _ _ rfl g w.heap.size (.slice ua2 L2.length uc2) rfl rfl L2 3 0 0 [] (.slice none 0 0) A.u ⟨⟨by simp[az],by simp[az],by simp[az]⟩,iR _ _⟩ (by omega) (by omega) (by omega) ?_)
    intro u3 W4 hG hb;have a5:=hb.size;have B:=ae (p.u.trans hb);obtain⟨ua3,uc3,rfl⟩:=aj hG.own;obtain⟨L3,hL⟩ : ∃ L:List Pc,L=L2++[⟨⟨3,[],0,0⟩,(.slice none 0 0),fun _=>False⟩]:=⟨_,rfl⟩;rw[<-hL]at hG ⊢;have a6:L3.length<=60000000002:=by rw[hL,List.length_append,List.length_singleton];omega
    have M:=ae hL;have C:=ae hG;clear hG hb hL
    go_wp2_with (at_builtin;refine iY rfl _ _ rfl w.heap.size (.slice (some ⟨qb,0,none⟩) S0.length sc) rfl rfl S0 (.slice ua3 L3.length uc3) L3 (I.u _ B.u) (C.u.low (by omega)) (K.u _ _ _ C.u) (by omega) (by omega) ?_)
    intro v9 W9 d m;have o:Hi (els (S0++[((.slice ua3 L3.length uc3),L3)])=cX [] (X.take (i+1))):=by
     show els (S0++[((.slice ua3 L3.length uc3),L3)])=cX [] (X.take (i+1));rw[dV,r.u,M.u,G.u,a7.u];unfold dF;rw[if_neg (by simp),if_pos rfl];simp
    obtain⟨S9,f⟩ : ∃ S9,S9=S0++[((.slice ua3 L3.length uc3),L3)]:=⟨_,rfl⟩;rw[<-f]at o d;have t:=ae (hB.trans (((H.u _ B.u).mono D).trans m));obtain⟨va,vc,rfl⟩:=aj d.own;have y:=ae d;clear d m f;go_wp2
    go_roundw
    case rel=>exact⟨i+1,S9,by omega,by go_num,y.u,o.u,t.u⟩
    simp[intOf];omega
   have b3:((mn==1)=true/\(mx == -1)=false/\(mn==0)=false)∨((mn==1)=false/\(mn==0)=true/\(mx==1)=false)∨((mn==1)=false/\(mn==0)=false/\True):=by
    by_cases h1:mn=1
    ·exact .inl ⟨by simp[h1],beq_eq_false_iff_ne.2 (fun h=>hp1 ⟨h1,h⟩),by simp[h1]⟩
    by_cases h0:mn=0
    ·exact .inr (.inl ⟨by simp[h1],by simp[h0],beq_eq_false_iff_ne.2 (fun h=>hp2 ⟨h0,h⟩)⟩)
    exact .inr (.inr ⟨by simp[h1],by simp[h0],trivial⟩)
   have b4:=ae hp1;have b5:=ae hp2;clear hp1 hp2;rcases b3 with ⟨q1,q2,q3⟩|⟨q1,q2,q3⟩|⟨q1,q2,q3⟩
   all_goals
    go_wp2_with (at_builtin;refine fY rfl _ _ rfl g w.heap.size w.heap.size (.slice none 0 0) (.slice xa Lx.length xc) rfl rfl ([]:List Pc) Lx (gY.nil _ _ _) (F.u _ k.u) (by omega) (by omega) (by simp only[List.length_nil];omega) ?_)
    intro u1 W2 hG hb;have U:=hb.size;have l:=ae (k.u.trans hb);obtain⟨ua1,uc1,rfl⟩:=aj hG.own;have s:Hi (gY g w.heap.size W2 (.slice ua1 Lx.length uc1) Lx):=hG;clear hG hb;obtain⟨e0,e1,e2,e3⟩:=R.u _ l.u
    go_wp2_with (at_builtin;refine fQ rfl _ _ rfl g w.heap.size (.slice ua1 Lx.length uc1) rfl rfl Lx 4 mn mx st (.slice ta st.length tc) s.u ⟨⟨i1,i2,i3⟩,N.u _ l.u⟩ (by omega) (by omega) (by omega) ?_)

    intro u2 W3 hG hb;have Z:=hb.size;have p:=ae (l.u.trans hb);obtain⟨ua2,uc2,rfl⟩:=aj hG.own;obtain⟨L2,hL⟩ : ∃ L:List Pc,L=Lx++[⟨⟨4,st,mn,mx⟩,(.slice ta st.length tc),fun _=>False⟩]:=⟨_,rfl⟩;rw[<-hL]at hG ⊢;have a0:L2.length<=60000000001:=by rw[hL,List.length_append,List.length_singleton];omega
    have G:=ae hL;have A:=ae hG;clear hG hb hL;clear e0 e1 e2 e3
    go_wp2_with (at_builtin;refine iY rfl _ _ rfl w.heap.size (.slice (some ⟨qb,0,none⟩) S0.length sc) rfl rfl S0 (.slice ua2 L2.length uc2) L2 (I.u _ p.u) (A.u.low (by omega)) (K.u _ _ _ A.u) (by omega) (by omega) ?_)
    intro v9 W9 d m;have o:Hi (els (S0++[((.slice ua2 L2.length uc2),L2)])=cX [] (X.take (i+1))):=by
     show els (S0++[((.slice ua2 L2.length uc2),L2)])=cX [] (X.take (i+1));rw[dV,r.u,G.u];unfold dF;rw[if_neg (by simp),if_pos rfl]
     dsimp only
     rw[if_neg b4.u,if_neg b5.u];simp
    obtain⟨S9,f⟩ : ∃ S9,S9=S0++[((.slice ua2 L2.length uc2),L2)]:=⟨_,rfl⟩;rw[<-f]at o d;have t:=ae (hB.trans (((H.u _ p.u).mono D).trans m));obtain⟨va,vc,rfl⟩:=aj d.own;have y:=ae d;clear d m f;go_wp2
    go_roundw
    case rel=>exact⟨i+1,S9,by omega,by go_num,y.u,o.u,t.u⟩
    simp[intOf];omega
  have I:=z;have K:=ae (T.u S.length);have n2:¬ kd=2:=by omega
  have n3:¬ kd=3:=by omega
  have m2:(kd==2)=false:=beq_eq_false_iff_ne.2 n2;have m3:(kd==3)=false:=beq_eq_false_iff_ne.2 n3;clear O h3 hk2;obtain⟨e0,e1,e2,e3⟩:=R.u _ k.u
  go_wp2_with (at_builtin;refine fQ rfl _ _ rfl g w.heap.size (.slice none 0 0) rfl rfl ([]:List Pc) kd mn mx st (.slice ta st.length tc) (gY.nil _ _ _) ⟨⟨i1,i2,i3⟩,N.u _ k.u⟩ (by omega) (by omega) (by simp) ?_)

  intro u1 W2 hG hb;have U:=hb.size;have l:=ae (k.u.trans hb);obtain⟨ua1,uc1,rfl⟩:=aj hG.own;obtain⟨L1,hL⟩ : ∃ L:List Pc,L=[⟨⟨kd,st,mn,mx⟩,(.slice ta st.length tc),fun _=>False⟩]:=⟨_,rfl⟩;rw[<-hL]at hG ⊢;have b2:L1.length<=1:=by rw[hL,List.length_singleton];omega
  have a7:=ae hL;have s:=ae hG;clear hG hb hL;clear e0 e1 e2 e3
  go_wp2_with (at_builtin;refine iY rfl _ _ rfl w.heap.size (.slice sa S.length sc) rfl rfl S (.slice ua1 L1.length uc1) L1 (I.u _ l.u) (s.u.low (by omega)) (K.u _ _ _ s.u) (by omega) (by omega) ?_)
  intro v9 W9 d m;have o:Hi (els (S++[((.slice ua1 L1.length uc1),L1)])=cX [] (X.take (i+1))):=by
   show els (S++[((.slice ua1 L1.length uc1),L1)])=cX [] (X.take (i+1));rw[dV,r.u,a7.u];unfold dF;rw[if_neg (by dsimp only;omega),if_neg (by dsimp only;omega)]
   rfl
  obtain⟨S9,f⟩ : ∃ S9,S9=S++[((.slice ua1 L1.length uc1),L1)]:=⟨_,rfl⟩;rw[<-f]at o d;have t:=ae (hB.trans (((H.u _ l.u).mono D).trans m));obtain⟨va,vc,rfl⟩:=aj d.own;have y:=ae d;clear d m f;go_wp2
  go_roundw
  case rel=>exact⟨i+1,S9,by omega,by go_num,y.u,o.u,t.u⟩
  simp[intOf];omega
 obtain rfl:i=X.length:=by omega
 have ab:¬ (X.length:Int)<(X.length:Int):=by omega
 rw[List.take_length]at hE p1;rw[a1.u.2.2.1.1]at p1;obtain⟨S0,⟨ux,Lx⟩,c⟩:=kD (S:=S) (by omega);have V:S0=[]:=List.eq_nil_of_length_eq_zero (by rw[c,List.length_append,List.length_singleton]at p1;omega);subst V;rw[List.nil_append]at c;obtain⟨qb,qc,eS,Y,j⟩:=hS.cell (by omega);cases eS;have d1:=j 0 (ux,Lx) (by rw[c];rfl);have hG:gY w.heap.size w.heap.size wr ux Lx:=(hS.els (ux,Lx) (by rw[c];simp)).1;have al : [Lx.map Pc.x]=cX [] X:=by rw[<-hE,c];rfl
 have be:(0:Int)<(S.length:Int):=by omega
 have HG:=ae (hG.at D);obtain⟨xa,xc,rfl⟩:=aj hG.own;have HB:=ae hB;have HE:=ae al;clear hG hS hB hE al c j p1 p2 p3 HC;go_wp2;go_ret;exact⟨_,Lx.map Pc.x,rfl,HE.u.symm,HG.u,HB.u⟩
end Go.Proofs.YtidfkbghlkcbeaaGreatDoor
