import Derived.Test.YtidfkbghlkcbeaaGreatDoorPk24
namespace Go.Proofs.YtidfkbghlkcbeaaGreatDoor
open Go.RowKit Go.Proofs.Tryz
set_option maxHeartbeats 16000000
set_option maxRecDepth 100000
def Ad:Value->Nat
 | .bool true=>1
 | _=>0
def fE(g:Nat)(w:World):Nat:=(intOf ((w.cell? ⟨g,1,none⟩).getD undef)).toNat
def Ga(A:Tb)(w0 w:World)(b0:Nat)(cl nx ac:Value)(sv ov:Value):Prop:=
 ∃ (o:List Nat) (tk:Nat) (ys:List Nat) (zs:List Bool) (qv nv av:Value),dT w0 w b0 cl nx ac A.k o o tk ys zs qv nv av/\eM A.k A.nx 0 o ys/\(∀ x∈o,x<A.n)/\
  ((ov=.bool false/\tk=o.length/\ys.length=tk*A.k/\zs=o.map A.ac) ∨
   (ov=.bool true/\∃ t s,tk=t+1/\o[t]?=some s/\sv=.int .i64 (s:Nat)/\ys.length=t*A.k/\zs=(o.take t).map A.ac))
theorem eM.few{A:Tb}{o ys:List Nat}(h:eM A.k A.nx 0 o ys)(ho:∀ x∈o,x<A.n):o.length<=A.n:=by
 refine bT A.n o ?_ ho;rw[List.nodup_iff_pairwise_ne,List.pairwise_iff_getElem];intro i j hi hj a e;have:=h.nd i j hi hj (by rw[List.getElem?_eq_getElem hi,List.getElem?_eq_getElem hj,e]);omega
theorem gJ{w:World}{B:Nat}{c0 c1 c2 c3:Value}(h:aC w B 30 c0 c1 c2 c3){fn:Func}{p:Tmp}(hr:fn.results=#[.cell p 30])(tmps:Array Value)(hp:tmps.getD p undef=.pointer (some ⟨B,0,none⟩)):(results fn tmps).run prog w=.ok (.agg #[c0,c1,c2,c3]) w:=by
 obtain⟨c,hb,hs,hc⟩:=h;have e:c=#[c0,c1,c2,c3]:=by
  apply Array.ext_getElem?
  intro i
  by_cases hi:i<4
  ·rw[hc i hi]
   match i,hi with
   | 0,_=>rfl
   | 1,_=>rfl
   | 2,_=>rfl
   | 3,_=>rfl
  rw[Array.getElem?_eq_none (by omega),Array.getElem?_eq_none (by simp;omega)]
 subst e;exact results_cell_row hr tmps w B _ _ _ _ hp hb underlying30 rfl (by kernel_rfl)
theorem qN(A:Tb)(cl:Value)(b off cN ab ao ca:Nat)(w:World)(hw:A.Wf)(hn:A.n<=1024)(hk:1<=A.k/\A.k<=256)(hcN:A.n*A.k<=cN)(hb:b<w.heap.size)(hx:kw w b off A.n A.k A.nx)
  (hab:ab<w.heap.size)(hac:∀ q,q<A.n->w.cell? ⟨ab,ao+q,none⟩=some (.bool (A.ac q)))(hcl:∃ a n c,cl=.slice a n c) :
  Calls prog 59 #[.agg #[cl,.int .i64 (A.k:Nat),.slice (some ⟨b,off,none⟩) (A.n*A.k) cN,.slice (some ⟨ab,ao,none⟩) A.n ca]] w fun e w'=>∃ nv av,e=.returned (.agg #[cl,.int .i64 (A.k:Nat),nv,av])/\Below w.heap.size w w'/\
   ∃ o ys,eM A.k A.nx 0 o ys/\ys.length=o.length*A.k/\o.length<=A.n/\w'.ownsRow w.heap.size 3 1 nv ys.length (ys.map mN)/\w'.ownsRow w.heap.size 4 1 av o.length ((o.map A.ac).map mT)/\∀ r,nv.ownBlock=some r->av.ownBlock≠some r:=by
 obtain⟨i0,b0,b1,b2,b3⟩:=info_parts Tryz.zinInt;obtain⟨ca0,cl0,cc0,rfl⟩:=hcl;have cy:1<=A.n:=hw.pos;have c4:A.n*A.k<=1024*256:=Nat.mul_le_mul hn hk.2;obtain⟨L,hL⟩ : ∃ L,L=A.n*A.k:=⟨_,rfl⟩;rw[<-hL]at hcN c4 ⊢;obtain⟨W3,K⟩ : ∃ W3,W3=((w.alloc (.cells #[.slice ca0 cl0 cc0,.int .i64 (A.k:Nat),.slice (some ⟨b,off,none⟩) L cN,.slice (some ⟨ab,ao,none⟩) A.n ca] 30)).alloc (.cells #[.slice none 0 0,.int .i64 0,.slice none 0 0,.slice none 0 0] 30)).alloc (.cells #[.slice ca0 cl0 cc0,.int .i64 (A.k:Nat),.slice none 0 0,.slice none 0 0] 30):=⟨_,rfl⟩;have c5:W3.heap.size=w.heap.size+3:=by rw[K,ah,ah,ah]
 have b4:Below w.heap.size w W3:=by rw[K];exact(aI w _ _).trans ((ai _ _).mono (by rw[ah,ah];omega))
 have b5:aC W3 w.heap.size 30 (.slice ca0 cl0 cc0) (.int .i64 (A.k:Nat)) (.slice (some ⟨b,off,none⟩) L cN) (.slice (some ⟨ab,ao,none⟩) A.n ca):=by rw[K];exact((aC.new w _ _ _ _ _).alloc _).alloc _
 have b6:aC W3 (w.heap.size+1) 30 (.slice none 0 0) (.int .i64 0) (.slice none 0 0) (.slice none 0 0):=by
  have:=aC.new (w.alloc (.cells #[.slice ca0 cl0 cc0,.int .i64 (A.k:Nat),.slice (some ⟨b,off,none⟩) L cN,.slice (some ⟨ab,ao,none⟩) A.n ca] 30)) 30 (.slice none 0 0) (.int .i64 0) (.slice none 0 0) (.slice none 0 0);rw[ah]at this;rw[K];exact this.alloc _
 have b7:aC W3 (w.heap.size+2) 30 (.slice ca0 cl0 cc0) (.int .i64 (A.k:Nat)) (.slice none 0 0) (.slice none 0 0):=by
  have:=aC.new ((w.alloc (.cells #[.slice ca0 cl0 cc0,.int .i64 (A.k:Nat),.slice (some ⟨b,off,none⟩) L cN,.slice (some ⟨ab,ao,none⟩) A.n ca] 30)).alloc (.cells #[.slice none 0 0,.int .i64 0,.slice none 0 0,.slice none 0 0] 30)) 30 (.slice ca0 cl0 cc0) (.int .i64 (A.k:Nat)) (.slice none 0 0) (.slice none 0 0);rw[ah,ah]at this;rw[K];exact this
 have HN:=ae (sN W3);have HL:=ae hL;have HX:=ae hx;have c6:=ae hac;have b8:=ae K;have c7:=ae b4;have b9:=ae b5;have bb:=ae b6;have bc:=ae b7;clear hL hx hac K b4 b5 b6 b7
 go_enter func59,ntmps59
 go_wp2_with fail;rw[<-b8.u];refine HN.u.mono ?_;rintro e w4 ⟨rfl,aa,ad,bd⟩;rw[c5]at aa ad ⊢;obtain⟨W6,R⟩ : ∃ W6,W6=(w4.alloc (.cells #[.map (some (w.heap.size+3+1))] 166)).alloc (.cells #[.slice none 0 0,.int .i64 0] 170):=⟨_,rfl⟩;have af:dT w W6 w.heap.size (.slice ca0 cl0 cc0) (.slice (some ⟨b,off,none⟩) L cN) (.slice (some ⟨ab,ao,none⟩) A.n ca) A.k [] [] 0 [] [] (.slice none 0 0) (.slice none 0 0) (.slice none 0 0):=by
  have be:Below w4.heap.size w4 W6:=by rw[R];exact aI w4 _ _
  have O:Below W3.heap.size W3 W6:=bd.trans (be.mono (by omega));refine⟨rfl,b9.u.below O (by omega),⟨_,World.rowIs.of_block bb.u (O.block _ (by omega))⟩,bc.u.below O (by omega),aa.keep (be.block _ (by omega)),?_,?_,World.ownsRow_nil _ _ _ _,World.ownsRow_nil _ _ _ _,World.ownsRow_nil _ _ _ _,(fun r hr=>by cases hr),(fun r hr=>by cases hr),c7.u.trans (O.mono (by omega)),by rw[R,ah,ah];omega⟩
  ·have:=World.rowIs_alloc w4 #[.map (some (w.heap.size+3+1))] 166 (fun _=>.map (some (w.heap.size+3+1))) (fun j hj=>by
    match j,hj with
    | 0,_=>rfl)
   rw[ad]at this;rw[R];exact this.alloc _
  have:=World.rowIs_alloc (w4.alloc (.cells #[.map (some (w.heap.size+3+1))] 166)) #[.slice none 0 0,.int .i64 0] 170 (fun j=>[Value.slice none 0 0,.int .i64 ((0:Nat):Int)].getD j undef) (fun j hj=>by
   match j,hj with
   | 0,_=>rfl
   | 1,_=>rfl)
  rw[ah,ad]at this;rw[R];exact this
 have u0:W6.cell? ⟨w.heap.size+5,0,none⟩=some (.map (some (w.heap.size+4))):=af.kb.cell (by omega);have S:=ae (Cp af 0 (by omega) (by decide));have bf:=ae R;clear af R HN b8 bd aa b9 bb bc
 go_wp2_with fail;rw[<-bf.u];clear bf;simp only[Nat.add_assoc,Nat.reduceAdd];refine S.u.mono ?_;rintro e w7 ⟨i7,f7,rfl,⟨-,h7,-⟩|⟨rfl,-,rfl,bn⟩⟩
 ·cases h7
 have T:=ae (uY bn 0 (by decide));clear bn S u0
 go_wp2_with fail;refine T.u.mono ?_;rintro e w8 ⟨rfl,qv8,ag⟩;rw[List.nil_append]at ag;have U:=ae (yi ag (by decide) (by decide));clear ag T
 go_wp2_with fail;refine U.u.mono ?_;rintro e w9 V;have a2:∃ nv ov,e=.returned (.tuple #[nv,.bool ov])/\Ga A w w9 w.heap.size (.slice ca0 cl0 cc0) (.slice (some ⟨b,off,none⟩) L cN) (.slice (some ⟨ab,ao,none⟩) A.n ca) nv (.bool ov):=by
  rcases V with ⟨h1,-⟩|⟨s,h1,rfl,h2⟩
  ·cases h1
  exact⟨_,_,rfl,[0],1,[],[],_,_,_,h2,eM.start _ _ _,(fun x hx=>by rw[List.mem_singleton]at hx;omega),.inr ⟨rfl,0,s,rfl,h1,rfl,by simp,by simp⟩⟩
 obtain⟨nv9,ov9,rfl,a2⟩:=a2;have bo:=ae a2;clear V a2 U
 go_wp2_with fail
 go_loopw [6,7] (fun sv ov wr=>Ga A w wr w.heap.size (.slice ca0 cl0 cc0) (.slice (some ⟨b,off,none⟩) L cN) (.slice (some ⟨ab,ao,none⟩) A.n ca) sv ov) (fun _ ov wr=>2*(A.n-fE (w.heap.size+6) wr)+Ad ov)
 case atStart=>exact bo.u
 clear bo;obtain⟨o,tk,ys,zs,qv,nv,av,hR,v,B,⟨rfl,bp,z,rfl⟩|⟨rfl,t,s,rfl,hs,rfl,z,rfl⟩⟩:=hrel
 ·have I:=v.few B;obtain⟨g0,g1,g2,g3,-⟩:=hR.out.facts;obtain⟨F,hF⟩:=hR.res;have x0:=hF.cell (i:=0) (by omega);have x1:=hF.cell (i:=1) (by omega);have x2:=hF.cell (i:=2) (by omega);have x3:=hF.cell (i:=3) (by omega);have z0:=hF.frozen 0;have z1:=hF.frozen 1;have z2:=hF.frozen 2;have z3:=hF.frozen 3;obtain⟨na,nc,e1⟩:=aj hR.on;obtain⟨va,vc,e2⟩:=aj hR.oa;rw[List.length_map]at e2;have HR:=ae hR;have E:=ae v;have HF:=ae hF;rw[e1]at g2;rw[e2]at g3;have G:=ae e1;have bq:=ae e2;have H:=ae z;have cb:=ae bp;clear hR v hF e1 e2 z bp;go_wp2;have br:=(World.rowIs.congr (((HF.u.set 0 (.slice ca0 cl0 cc0)).set 1 (.int .i64 (A.k:Nat))).set 2 (.slice na ys.length nc)) (g:=fun j=>if j=2 then Value.slice na ys.length nc else if j=1 then .int .i64 (A.k:Nat) else if j=0 then .slice ca0 cl0 cc0 else F j) (fun j _=>rfl)).set 3 (.slice va o.length vc);have cc:=(World.rowIs.congr br (g:=fun j=>[Value.slice ca0 cl0 cc0,.int .i64 (A.k:Nat),.slice na ys.length nc,.slice va o.length vc].getD j undef) (fun j hj=>by
   match j,hj with
   | 0,_=>rfl
   | 1,_=>rfl
   | 2,_=>rfl
   | 3,_=>rfl))
  have M:ce (w.heap.size+1) wr ((((wr.setCell ⟨w.heap.size+1,0,none⟩ (.slice ca0 cl0 cc0)).setCell ⟨w.heap.size+1,1,none⟩ (.int .i64 (A.k:Nat))).setCell ⟨w.heap.size+1,2,none⟩ (.slice na ys.length nc)).setCell ⟨w.heap.size+1,3,none⟩ (.slice va o.length vc)):=(((am _ _).trans (am _ _)).trans (am _ _)).trans (am _ _);refine bodyPost_ret (gJ cc rfl _ rfl) rfl ?_;have hR:=HR.u;have N:=hR.oa;rw[G.u,bq.u]at hR;rw[bq.u,List.length_map]at N;refine⟨_,_,rfl,⟨M.os.trans hR.bl.os,M.tape.trans hR.bl.tape,M.output.trans hR.bl.output,by rw[M.size];exact hR.bl.size,fun k hk=>(M.block k (by omega)).trans (hR.bl.block k hk)⟩,o,ys,E.u,by rw[H.u,cb.u],I,aO (ak hR.on (fun r hr=>M.block r (by have:=(hR.on.lt r hr).1;omega))) (by omega),aO (ak N (fun r hr=>M.block r (by have:=(N.lt r hr).1;omega))) (by omega),hR.na⟩
 have hlt:t<o.length:=(List.getElem?_eq_some_iff.1 hs).1;have a3:=B s (List.mem_of_getElem? hs);have I:=v.few B;have ct:(s:Int)<(A.n:Int):=by omega
 obtain⟨g0,g1,g2,g3,-⟩:=hR.out.facts;obtain⟨d0,d1,d2,d3,-⟩:=hR.d.facts;have W:fE (w.heap.size+6) wr=t+1:=by
  rw[fE,hR.q.cell (by omega)];simp[intOf]
 have cf:=ae W;clear W;have y0:wr.cell? ⟨ab,ao+s,none⟩=some (.bool (A.ac s)):=by rw[hR.bl.cell (p:=⟨ab,ao+s,none⟩) hab];exact c6.u s a3
 have HR:=ae hR;have E:=ae v;have H:=ae z;clear hR v z
 go_wp2_with fail;obtain⟨va,vc,e2⟩:=aj HR.u.oa;have a4:(List.map A.ac (o.take t)).length=t:=by rw[List.length_map,List.length_take];omega
 rw[a4]at e2;have N:=HR.u.oa;rw[a4,e2]at N;rw[e2]at g3;have ch:=HR.u.sz;refine sK wr w.heap.size (w.heap.size+2) ab ao A.n ca s t vc (w.heap.size+7) va (A.ac s) _ a3 (by omega) ch (by omega) g3 d3 y0 N (fun WA w8 gg cap r1 r2 r3 hP=>?_)
 have hA:=HR.u.pushA (x:=A.ac s) (v':=.slice (some ⟨gg,0,none⟩) (t+1) cap) hP.below (by rw[List.length_append,a4,List.map_append];exact r1) (by rw[e2];exact r2) (fun q hq=>by
  rw[e2];have ci:gg=q:=Option.some.inj hq;subst ci;rcases r3 with e|e
  ·exact .inl e
  exact .inr (by omega))
 rw[e2]at hA;refine⟨hA.1,hA.2.1,?_⟩;have X:=hA.2.2;obtain⟨w9',a6⟩ : ∃ w9',w9'=w8.setCell ⟨w.heap.size+2,3,none⟩ (.slice (some ⟨gg,0,none⟩) (t+1) cap):=⟨_,rfl⟩;rw[<-a6]at X ⊢;have bs:List.map A.ac (o.take t)++[A.ac s]=(o.take (t+1)).map A.ac:=by rw[List.take_add_one,hs,List.map_append];rfl
 rw[bs]at X;clear hA a6 r1 r2 r3 hP g0 g1 g2 g3 d0 d1 d2 d3 y0 N e2 bs;obtain⟨d0,d1,d2,d3,-⟩:=X.d.facts;have uu:(s+1)*A.k<=L:=by rw[HL.u];exact Nat.mul_le_mul_right _ a3
 have al:=kp (.slice ca0 cl0 cc0) (.slice (some ⟨ab,ao,none⟩) A.n ca) b off L cN A.k s w9' uu (by omega) hcN (by omega) hk;obtain⟨rq,an⟩ : ∃ rq,rq=s*A.k:=⟨_,rfl⟩;rw[<-an]at al;have bt:=ae al;have ck:=ae an;have bv:=ae X;clear al an uu X
 go_wp2_with fail;refine bt.u.mono ?_;rintro e w10 ⟨rfl,a7⟩;have a8:=ae (bv.u.keep a7);have HO:=ae B;clear bv a7 d0 d1 d2 d3 HR bt B
 go_wp2_with fail
 go_loopw [44] (fun cv wx=>∃ (c:Nat) (o ys:List Nat) (zs:List Bool) (qv nv av:Value),c<=A.k/\cv=.int .i64 (c:Nat)/\dT w wx w.heap.size (.slice ca0 cl0 cc0) (.slice (some ⟨b,off,none⟩) L cN) (.slice (some ⟨ab,ao,none⟩) A.n ca) A.k o o (t+1) ys zs qv nv av/\eM A.k A.nx 0 o ys/\(∀ x∈o,x<A.n)/\o[t]?=some s/\ys.length=t*A.k+c/\zs=(o.take (t+1)).map A.ac) (fun cv _=>A.k-(intOf cv).toNat)
 case atStart=>exact⟨0,o,ys,_,_,_,_,by omega,rfl,a8.u,E.u,HO.u,hs,H.u,rfl⟩
 clear a8 E HO H hlt I hs a4;obtain⟨c,o,ys,zs,qv,nv,av,hc,rfl,hR,v,B,hs,z,a5⟩:=hrel;have I:=v.few B;have ap:t<o.length:=(List.getElem?_eq_some_iff.1 hs).1
 by_cases hcl:c<A.k
 ·have bx:(c:Int)<(A.k:Int):=by omega
  obtain⟨x1,x2⟩:=HX.u s c a3 hcl;have y0:wr.cell? ⟨b,off+rq+c,none⟩=some (.int .i64 (A.nx s c:Nat)):=by rw[ck.u,Nat.add_assoc,hR.bl.cell (p:=⟨b,off+(s*A.k+c),none⟩) hb];exact x2
  have u0:wr.cell? ⟨w.heap.size+5,0,none⟩=some (.map (some (w.heap.size+4))):=hR.kb.cell (by omega);have P:ys.length<=262144:=by
   rw[z];have:=gk (k:=A.k) (Nat.lt_of_lt_of_le ap I) hcl;rw[<-HL.u]at this;omega
  have bz:ys.length / A.k=t/\ys.length%A.k=c:=by rw[z];exact eh hcl
  obtain⟨nxt,Y⟩ : ∃ y,y=A.nx s c:=⟨_,rfl⟩;rw[<-Y]at y0 x1;have S:=ae (Cp hR nxt (by omega) (by omega));have aq:=ae Y;have E:=ae v;have HO:=ae B;have HS:=ae hs;have Z:=ae bz;have H:=ae z;have a0:=ae a5;clear hR v B hs bz z a5 x2 Y
  go_wp2_with fail;refine S.u.mono ?_;rintro e w11 ⟨num,f,rfl,⟨rfl,ar,l⟩|⟨rfl,c0,rfl,l⟩⟩
  ·have cw:num<o.length:=(List.getElem?_eq_some_iff.1 ar).1;obtain⟨-,-,g2,-⟩:=l.out.facts;obtain⟨na,nc,e1⟩:=aj l.on;have m:=l.on;obtain⟨yn,C⟩ : ∃ yn,yn=ys.length:=⟨_,rfl⟩;rw[<-C]at e1;rw[e1]at g2;rw[<-C,e1]at m;have cp:yn<=262144:=by rw[C];exact P
   have a1:=ae m;have G:=ae e1;have aw:=ae C.symm;have J:=ae l;have cr:=ae ar;clear l ar m e1 C P S y0 u0
   go_wp2_with (at_builtin;refine wpList_append_own_at _ rfl _ _ 27 rfl (w.heap.size+7) 3 i0 (.int .i64 0) 1 8 underlying27 b0 b1 b2 b3 rfl (by decide) _ _ _ rfl (a1.u.alloc _) ⟨w11.heap.size,0,none⟩ 1 1 [.int .i64 (num:Nat)] rfl rfl ?_ ?_ ?_ ?_ ?_ ?_)
   ·exact ef (dt _ _ _)
   ·intro u hu;simp at hu;subst hu;rfl
   ·unfold maxLen;omega
   ·omega
   ·rw[ah];have:=J.u.sz;omega
   intro v' w12 r1 r2 _ r3;have D:=J.u.pushN (x:=num) (ai w11 _) (by rw[List.length_append,List.map_append,aw.u];exact r1) (by rw[G.u];exact r2) (fun q hq=>by
    rw[G.u];rcases r3 with e|e
    ·rw[e]at hq;exact .inl hq
    rw[e]at hq;have:=Option.some.inj hq;exact .inr (by omega))
   rw[G.u]at D;obtain⟨pa,pc,e8⟩:=aj r1;subst e8;have z1:=D.1;have z2:=D.2.1;have ax:=ae D.2.2;clear D r1 r2 r3 a1 g2;go_wp2
   go_roundw
   case rel =>
    refine⟨c+1,o,ys++[num],zs,_,_,_,by omega,by go_num,ax.u,E.u.old (x:=s) (by rw[Z.u.1];exact HS.u) (by rw[Z.u.2,<-aq.u];exact cr.u),HO.u,HS.u,by rw[List.length_append,H.u];simp only[List.length_singleton];omega,a0.u⟩
   simp[intOf];omega
  have T:=ae (uY l nxt (by omega));have cs:=ae c0;clear l c0 S y0 u0
  go_wp2_with fail;refine T.u.mono ?_;rintro e w11' ⟨rfl,qv',l⟩;obtain⟨-,-,g2,-⟩:=l.out.facts;obtain⟨na,nc,e1⟩:=aj l.on;have m:=l.on;obtain⟨yn,C⟩ : ∃ yn,yn=ys.length:=⟨_,rfl⟩;rw[<-C]at e1;rw[e1]at g2;rw[<-C,e1]at m;have cp:yn<=262144:=by rw[C];exact P
  have a1:=ae m;have G:=ae e1;have aw:=ae C.symm;have J:=ae l;clear l m e1 C P T
  go_wp2_with (at_builtin;refine wpList_append_own_at _ rfl _ _ 27 rfl (w.heap.size+7) 3 i0 (.int .i64 0) 1 8 underlying27 b0 b1 b2 b3 rfl (by decide) _ _ _ rfl (a1.u.alloc _) ⟨w11'.heap.size,0,none⟩ 1 1 [.int .i64 (o.length:Nat)] rfl rfl ?_ ?_ ?_ ?_ ?_ ?_)
  ·exact ef (dt _ _ _)
  ·intro u hu;simp at hu;subst hu;rfl
  ·unfold maxLen;omega
  ·omega
  ·rw[ah];have:=J.u.sz;omega
  intro v' w12 r1 r2 _ r3;have D:=J.u.pushN (x:=o.length) (ai w11' _) (by rw[List.length_append,List.map_append,aw.u];exact r1) (by rw[G.u];exact r2) (fun q hq=>by
   rw[G.u];rcases r3 with e|e
   ·rw[e]at hq;exact .inl hq
   rw[e]at hq;have:=Option.some.inj hq;exact .inr (by omega))
  rw[G.u]at D;obtain⟨pa,pc,e8⟩:=aj r1;subst e8;have z1:=D.1;have z2:=D.2.1;have ax:=ae D.2.2;clear D r1 r2 r3 a1 g2;go_wp2
  go_roundw
  case rel =>
   refine⟨c+1,o++[nxt],ys++[o.length],zs,_,_,_,by omega,by go_num,ax.u,?_,fun x hx=>?_,?_,by rw[List.length_append,H.u];simp only[List.length_singleton];omega,?_⟩
   ·have:=E.u.new (x:=s) (by rw[Z.u.1];exact HS.u) (fun i hi e=>by
     rw[Z.u.2,<-aq.u]at e;exact cs.u (List.mem_of_getElem? e))
    rw[Z.u.2,<-aq.u]at this;exact this
   ·rcases List.mem_append.1 hx with h|h
    ·exact HO.u x h
    rw[List.mem_singleton]at h;rw[h];exact x1
   ·rw[List.getElem?_append_left ap];exact HS.u
   rw[a0.u,List.take_append_of_le_length ap]
  simp[intOf];omega
 have bx:¬ (c:Int)<(A.k:Int):=by omega
 obtain rfl:c=A.k:=by omega
 have d4:fE (w.heap.size+6) wr=t+1:=by
  rw[fE,hR.q.cell (by omega)];simp[intOf]
 have U:=ae (yi hR (by omega) (by omega));have E:=ae v;have HO:=ae B;have HS:=ae hs;have H:=ae z;have a0:=ae a5;clear hR v B hs z a5
 go_wp2_with fail;refine U.u.mono ?_;rintro e w11 V;have Q:∃ nv ov,e=.returned (.tuple #[nv,.bool ov])/\Ga A w w11 w.heap.size (.slice ca0 cl0 cc0) (.slice (some ⟨b,off,none⟩) L cN) (.slice (some ⟨ab,ao,none⟩) A.n ca) nv (.bool ov)/\2*(A.n-fE (w.heap.size+6) w11)+Ad (.bool ov)<2*(A.n-(t+1))+1:=by
  have c1:ys.length=(t+1)*A.k:=by rw[H.u,Nat.add_mul,Nat.one_mul]
  rcases V with ⟨h1,rfl,h2⟩|⟨s',h1,rfl,h2⟩
  ·refine⟨_,_,rfl,⟨o,_,ys,zs,_,_,_,h2,E.u,HO.u,.inl ⟨rfl,h1,c1,?_⟩⟩,?_⟩
   ·rw[a0.u,h1,List.take_length]
   rw[show fE (w.heap.size+6) w11=t+1 by rw[fE,h2.q.cell (by omega)];simp[intOf]];show 2*(A.n-(t+1))+0<_;omega
  have cx:t+1<o.length:=(List.getElem?_eq_some_iff.1 h1).1;refine⟨_,_,rfl,⟨o,_,ys,zs,_,_,_,h2,E.u,HO.u,.inr ⟨rfl,t+1,s',rfl,h1,rfl,c1,a0.u⟩⟩,?_⟩;rw[show fE (w.heap.size+6) w11=t+1+1 by rw[fE,h2.q.cell (by omega)];simp[intOf];omega];show 2*(A.n-(t+1+1))+1<_;omega
 obtain⟨nv11,ov11,rfl,Q,a9⟩:=Q;have c2:=ae Q;have c3:=ae a9;clear V Q a9 U;go_wp2
 go_roundw
 case rel=>exact c2.u
 have hm:=c3.u;rw[cf.u];exact hm
theorem wB{u0 u2 u3 u5 u6 u7 u8 u9 u10 u11 u12 u14 u15 u16 u17 u18 u19 u20 u21 u22 u23 u24 u25 u26 u27 u28 u29 u30 u31 u32 u33 u34 u35 u36 u37 u38 u39 u40 u41 u42 u43 u44 u45 u46 u47 u48 u49 u50 u51 u52 u53 u54 u55 u56 u57 u58 u59 u60 u61 u62 u63 u64 u65 u66 u67 u68 u69 u70 u71 u72 u73 u74 u75 u76 u77 u78 u79 u80 u81 u82 u83 u84 u85:Value}{K K1 K2 K3:Act->World->Prop}{n1 n2:Nat}{R:Ending->World->Prop}(w7:World)(db ob ab ao n ca s N oc lo:Nat)(oa:Option Addr)(x:Bool)(xs:List Value)(hs:s<n)(hob:ob<w7.heap.size)(hlo:lo<=w7.heap.size)(hN:N<=1000000)
  (y3:w7.cell? ⟨ob,3,none⟩=some (.slice oa N oc))(k3:w7.cell? ⟨db,3,none⟩=some (.slice (some ⟨ab,ao,none⟩) n ca))(k0:w7.cell? ⟨ab,ao+s,none⟩=some (.bool x))
  (hrk:w7.ownsRow lo 4 1 (.slice oa N oc) N xs)
  (hps:∀ (WA w8:World) (gg cap:Nat),w8.ownsRow lo 4 1 (.slice (some ⟨gg,0,none⟩) (N+1) cap) (N+1) (xs++[.bool x])->WA.grownBy w8 (Value.slice oa N oc).ownBlock->((Value.slice oa N oc).ownBlock=some gg∨gg=w7.heap.size+1)->aH w7 WA (.cells #[.bool x] 4)->
   w8.cell? ⟨ob,3,none⟩=some (.slice oa N oc)/\w8.frozen? ⟨ob,3,none⟩=false/\K { tmps:=#[u0,.pointer (some ⟨db,0,none⟩),u2,u3,.pointer (some ⟨ob,0,none⟩),u5,u6,u7,u8,u9,u10,u11,u12,.int .i64 (s:Nat),u14,u15,u16,u17,u18,u19,u20,u21,u22,u23,u24,u25,u26,u27,u28,u29,u30,u31,u32,u33,u34,u35,u36,u37,u38,u39,u40,u41,u42,u43,u44,u45,u46,u47,u48,u49,u50,u51,u52,u53,u54,u55,.pointer (some ⟨ob,3,none⟩),.slice oa N oc,.pointer (some ⟨db,3,none⟩),.slice (some ⟨ab,ao,none⟩) n ca,.int .i64 (s:Nat),.pointer (some ⟨ab,ao+s,none⟩),.bool x,.slice (some ⟨w7.heap.size,0,none⟩) 1 1,.slice (some ⟨gg,0,none⟩) (N+1) cap,.pointer (some ⟨ob,3,none⟩),u66,u67,u68,u69,u70,u71,u72,u73,u74,u75,u76,u77,u78,u79,u80,u81,u82,u83,u84,u85],defers:=[] } (w8.setCell ⟨ob,3,none⟩ (.slice (some ⟨gg,0,none⟩) (N+1) cap))) :
  Code.wp prog (Code.region 17 #[{ dst:=some 56,op:=Op.fieldAddr 30 (Operand.tmp 4) 3,type:=0,pos:= "l2_dfa.go:464",after:=#[],guard:=none },{ dst:=some 57,op:=Op.load 28 (Operand.tmp 56),type:=28,pos:= "l2_dfa.go:464",after:=#[{ on:=0,ground:=Ground.data }],guard:=none },{ dst:=some 58,op:=Op.fieldAddr 30 (Operand.tmp 1) 3,type:=0,pos:= "l2_dfa.go:464",after:=#[],guard:=none },{ dst:=some 59,op:=Op.load 28 (Operand.tmp 58),type:=28,pos:= "l2_dfa.go:464",after:=#[{ on:=2,ground:=Ground.data }],guard:=none },{ dst:=some 60,op:=Op.move (Operand.tmp 13),type:=3,pos:= "l2_dfa.go:464",after:=#[],guard:=none },{ dst:=some 61,op:=Op.indexAddr 28 (Operand.tmp 59) (Operand.tmp 60),type:=0,pos:= "l2_dfa.go:464",after:=#[{ on:=3,ground:=Ground.data },{ on:=4,ground:=Ground.data }],guard:=none },{ dst:=some 62,op:=Op.load 4 (Operand.tmp 61),type:=4,pos:= "l2_dfa.go:464",after:=#[{ on:=5,ground:=Ground.data }],guard:=none },{ dst:=some 63,op:=Op.buildSlice 28 1 #[(0,Operand.tmp 62)],type:=28,pos:= "l2_dfa.go:464",after:=#[{ on:=6,ground:=Ground.data }],guard:=none },{ dst:=some 64,op:=Op.call { callee:=Callee.builtin Builtin.append,args:=#[Operand.tmp 57,Operand.tmp 63],argTypes:=#[28,28] },type:=28,pos:= "l2_dfa.go:464",after:=#[{ on:=1,ground:=Ground.data },{ on:=7,ground:=Ground.data }],guard:=none },{ dst:=some 65,op:=Op.fieldAddr 30 (Operand.tmp 4) 3,type:=0,pos:= "l2_dfa.go:464",after:=#[{ on:=0,ground:=Ground.phase },{ on:=1,ground:=Ground.phase },{ on:=2,ground:=Ground.phase },{ on:=3,ground:=Ground.phase },{ on:=4,ground:=Ground.phase },{ on:=5,ground:=Ground.phase },{ on:=6,ground:=Ground.phase },{ on:=7,ground:=Ground.phase },{ on:=8,ground:=Ground.phase }],guard:=none },{ dst:=none,op:=Op.store 28 (Operand.tmp 65) (Operand.tmp 64),type:=0,pos:= "l2_dfa.go:464",after:=#[{ on:=9,ground:=Ground.data },{ on:=8,ground:=Ground.data },{ on:=8,ground:=Ground.chain },{ on:=0,ground:=Ground.phase },{ on:=1,ground:=Ground.phase },{ on:=2,ground:=Ground.phase },{ on:=3,ground:=Ground.phase },{ on:=4,ground:=Ground.phase },{ on:=5,ground:=Ground.phase },{ on:=6,ground:=Ground.phase },{ on:=7,ground:=Ground.phase },{ on:=8,ground:=Ground.phase }],guard:=none }] true) (Exit.then K (Exit.inBlock n1 (Exit.then K1 (Exit.then K2 (Exit.inBlock n2 (Exit.then K3 (bodyPost prog Tryz.f58 R))))))) { tmps:=#[u0,.pointer (some ⟨db,0,none⟩),u2,u3,.pointer (some ⟨ob,0,none⟩),u5,u6,u7,u8,u9,u10,u11,u12,.int .i64 (s:Nat),u14,u15,u16,u17,u18,u19,u20,u21,u22,u23,u24,u25,u26,u27,u28,u29,u30,u31,u32,u33,u34,u35,u36,u37,u38,u39,u40,u41,u42,u43,u44,u45,u46,u47,u48,u49,u50,u51,u52,u53,u54,u55,u56,u57,u58,u59,u60,u61,u62,u63,u64,u65,u66,u67,u68,u69,u70,u71,u72,u73,u74,u75,u76,u77,u78,u79,u80,u81,u82,u83,u84,u85],defers:=[] } w7:=by
 obtain⟨j0,a,b,c,d⟩:=info_parts Tryz.zinBoo;have y3':=(ai w7 (.cells #[.bool x] 4)).cell (p:=⟨ob,3,none⟩) hob;rw[y3]at y3';have g:(s:Int)<(n:Int):=by omega
 have e:=ae hps;have f:=ae hrk;clear hps hrk
 go_region_law (
  (refine step_append_lies _ rfl (.tmp 57) (.tmp 63) 28 rfl lo 4 j0 (.bool false) 1 1 underlying28 a b c d rfl (by decide) (.slice oa N oc) N xs (by first|(simp[Act.eval];done)|(simp[Act.eval,Act.put];done)) (by refine aH.own (w:=w7) (o:=.cells #[.bool x] 4) ?_ f.u;exact⟨rfl,rfl,rfl,rfl⟩) ⟨w7.heap.size,0,none⟩ 1 1 [.bool x] (by first|(simp[Act.eval];done)|(simp[Act.eval,Act.put];done)) rfl (by refine aH.news (w:=w7) (cs:=#[.bool x]) (t:=4) ?_;exact⟨rfl,rfl,rfl,rfl⟩) (by intro u hu;simp only[List.mem_cons,List.not_mem_nil,or_false]at hu;subst hu;rfl) (by decide) (by unfold maxLen;omega) (by omega) (by have hq:=ah w7 (.cells #[.bool x] 4);exact Nat.le_trans hlo (Nat.le_of_lt (Nat.lt_of_lt_of_eq (Nat.lt_succ_self _) hq.symm))) (w7.heap.size+1) (ah w7 _) (fun gg cap w8 r1 r2 r3 r4=>?_);have h8:=ae (e.u _ w8 gg cap r1 r2 r3 (by exact⟨rfl,rfl,rfl,rfl⟩));obtain⟨c7,z7,-⟩:=h8.u;clear r1 r2 r3 r4))
 all_goals exact h8.u.2.2
end Go.Proofs.YtidfkbghlkcbeaaGreatDoor
