import Derived.Test.YtidfkbghlkcbeaaGreatDoorPk31
import Derived.Test.YtidfkbghlkcbeaaGreatDoorPk32
namespace Go.Proofs.YtidfkbghlkcbeaaGreatDoor
open Go.RowKit Go.Proofs.Tryz
set_option maxHeartbeats 16000000
set_option maxRecDepth 100000
def aN(L:List El):Prop:=∀ x∈L,x.kind=4->x.mx = -1/\0<=x.mn/\x.mn<=1
theorem aN.left{a b:List El}(h:aN (a++b)):aN a:=fun x hx=>h x (List.mem_append.2 (Or.inl hx))
theorem aN.right{a b:List El}(h:aN (a++b)):aN b:=fun x hx=>h x (List.mem_append.2 (Or.inr hx))
theorem aN.app{a b:List El}(h:aN a)(k:aN b):aN (a++b):=fun x hx=>(List.mem_append.1 hx).elim (h x) (k x)
theorem aN.op{k:Int}{xs:List Int}(hk:k≠4)(mn mx:Int):aN [⟨k,xs,mn,mx⟩]:=fun x hx e=>by
 rw[List.mem_singleton]at hx;subst hx;exact absurd e hk
theorem aN.rep(mn:Int)(h0:0<=mn)(h1:mn<=1):aN [⟨4,[],mn,-1⟩]:=fun x hx _=>by
 rw[List.mem_singleton]at hx;subst hx;exact⟨rfl,h0,h1⟩
theorem oQ:∀ {r:List (List El)} {p:List El},aN p->(∀ q∈r,aN q)->aN (r.foldl (fun acc q=>acc++q++[lJ]) p)
 | [],_,h,_=>h
 | q::r,_,h,k=>oQ (r:=r) ((h.app (k q (List.mem_cons_self ..))).app (aN.op (by decide) 0 0)) (fun x hx=>k x (List.mem_cons_of_mem _ hx))
theorem aN.jn{ps:List (List El)}(h:∀ q∈ps,aN q):aN (jn ps):=by
 cases ps with
 | nil=>intro x hx;cases hx
 | cons p r=>exact oQ (h p (List.mem_cons_self ..)) (fun q hq=>h q (List.mem_cons_of_mem _ hq))
theorem aN.repx{a:List El}(h:aN a)(mn mx:Int)(o2:0<=mn):aN (mH a mn mx):=by
 unfold mH
 split
 ·exact aN.op (by decide) 0 0
 refine aN.jn (fun q hq=>?_)
 unfold bJ at hq
 split at hq
 ·rcases List.mem_append.1 hq with hq|hq
  ·rw[(List.mem_replicate.1 hq).2];exact h
  rw[List.mem_singleton]at hq;subst hq;exact h.app (aN.rep _ (by split<;>omega) (by split<;>omega))
 rcases List.mem_append.1 hq with hq|hq
 ·rw[(List.mem_replicate.1 hq).2];exact h
 rw[(List.mem_replicate.1 hq).2];exact(h.app (aN.op (by decide) 0 0)).app (aN.op (by decide) 0 0)
section
variable {n:Nat} {hs:List Int->Nat->Prop}
def Gm(n:Nat)(hs:List Int->Nat->Prop)(u:Value)(t:List El×Int):Prop:=gn u t.2/\∃ R L,aZ n hs t.1 R/\cE t.1 L/\aZ n hs L R/\aN L
theorem CX:jI (Gm n hs):=by
 refine⟨fun h=>h.1,?_,?_,?_,?_,?_⟩
 ·exact⟨gn.e,_,_,aZ.e,cE.leaf (Or.inl rfl),aZ.e,aN.op (by decide) 0 0⟩
 ·intro xs g hc hw;exact⟨gn.s _ _ _ _,_,_,aZ.s xs,cE.leaf (Or.inr rfl),aZ.s xs,aN.op (by decide) 0 0⟩
 ·rintro u v l r ⟨hu,A,L,a1,a2,a3,a4⟩ ⟨hv,B,R,b1,b2,b3,b4⟩;exact⟨gn.cat hu hv,_,_,a1.cat b1,cE.bin a2 b2 (Or.inl rfl),a3.cat b3,(a4.app b4).app (aN.op (by decide) 0 0)⟩
 ·rintro u v l r ⟨hu,A,L,a1,a2,a3,a4⟩ ⟨hv,B,R,b1,b2,b3,b4⟩;exact⟨gn.alt hu hv,_,_,a1.alt b1,cE.bin a2 b2 (Or.inr rfl),a3.alt b3,(a4.app b4).app (aN.op (by decide) 0 0)⟩
 rintro u o mn mx ⟨hu,A,L,a1,a2,a3,a4⟩ o2 o3 o4;exact⟨gn.rep hu o2 o3 o4,_,_,a1.rep mn mx,cE.rep a2 rfl,a3.repx mn mx o2 o4,a4.repx mn mx o2⟩
theorem wX{xs L:List El}(h:bO xs)(hx:cE xs L):∃ R,aZ n hs xs R/\aZ n hs L R/\aN L:=by
 obtain⟨u,c,-,R,L',h1,h2,h3,h4⟩:=me (CX (n:=n) (hs:=hs)) h;obtain rfl:=cE.one h2 hx;exact⟨R,h1,h3,h4⟩
end
def dF(st:List (List El))(x:El):List (List El):=
 if x.kind=2∨x.kind=3 then
  match st with
  | y::z::b=>((if x.kind=3 then y++z else z++y)++[x])::b
  | _=>[]
 else if x.kind=4 then
  match st with
  | y::b=>(if x.mn=1/\x.mx = -1 then y++y++[⟨4,[],0,-1⟩]++[⟨2,[],0,0⟩] else if x.mn=0/\x.mx=1 then [⟨0,[],0,0⟩]++y++[⟨3,[],0,0⟩] else y++[x])::b
  | _=>[]
 else [x]::st
def cX(st:List (List El)):List El->List (List El)
 | []=>st
 | x::r=>cX (dF st x) r
theorem da(st:List (List El))(a b:List El):cX st (a++b)=cX (cX st a) b:=by
 induction a generalizing st with
 | nil=>rfl
 | cons x r ih=>simp[cX,ih]
def gX(a A:List El):Prop:=∀ st,cX st a=A::st
theorem gX.leaf{x:El}(h2:x.kind≠2)(h3:x.kind≠3)(h4:x.kind≠4):gX [x] [x]:=fun st=>by simp[cX,dF,h2,h3,h4]
theorem gX.cat{a b A B:List El}(ha:gX a A)(hb:gX b B):gX (a++b++[⟨2,[],0,0⟩]) (A++B++[⟨2,[],0,0⟩]):=fun st=>by
 rw[da,da,ha,hb];simp[cX,dF]
theorem gX.alt{a b A B:List El}(ha:gX a A)(hb:gX b B):gX (a++b++[⟨3,[],0,0⟩]) (B++A++[⟨3,[],0,0⟩]):=fun st=>by
 rw[da,da,ha,hb];simp[cX,dF]
def Cb(A:List El)(mn mx:Int):List El:=if mn=1/\mx = -1 then A++A++[⟨4,[],0,-1⟩]++[⟨2,[],0,0⟩] else if mn=0/\mx=1 then [⟨0,[],0,0⟩]++A++[⟨3,[],0,0⟩] else A++[⟨4,[],mn,mx⟩]
theorem gX.rep{a A:List El}(ha:gX a A)(mn mx:Int):gX (a++[⟨4,[],mn,mx⟩]) (Cb A mn mx):=fun st=>by
 rw[da,ha];simp[cX,dF,Cb]
section
variable {n:Nat} {hs:List Int->Nat->Prop}
theorem Al(A B:Rl):lK A B=lK B A:=gd fun _ _=>⟨Or.symm,Or.symm⟩
theorem aZ.wrep{a:List El}{A:Rl}(ha:aZ n hs a A)(mn mx:Int):aZ n hs (Cb a mn mx) (jr n A mn mx):=by
 unfold Cb
 by_cases h1:mn=1/\mx = -1
 ·obtain⟨rfl,rfl⟩:=h1;rw[if_pos ⟨rfl,rfl⟩];have h:=ha.cat (ha.rep 0 (-1));have e:dw A (jr n A 0 (-1))=jr n A 1 (-1):=gd fun i j=>by
   constructor
   ·rintro⟨m,q1,k,-,-,q2⟩;refine⟨k+1,by omega,Or.inl rfl,?_⟩;rw[fu ha.2];exact⟨m,q1,q2⟩
   rintro⟨k,q1,-,q2⟩;obtain⟨k,rfl⟩ : ∃ k',k=k'+1:=⟨k-1,by omega⟩;rw[fu ha.2]at q2;obtain⟨m,q3,q4⟩:=q2;exact⟨m,q3,k,by omega,Or.inl rfl,q4⟩
  rw[e]at h
  simpa only[List.append_assoc]using h
 rw[if_neg h1]
 by_cases h2:mn=0/\mx=1
 ·obtain⟨rfl,rfl⟩:=h2;rw[if_pos ⟨rfl,rfl⟩];have h:=(aZ.e (n:=n) (hs:=hs)).alt ha;have e:lK (fL n) A=jr n A 0 1:=gd fun i j=>by
   constructor
   ·rintro(q|q)
    ·exact⟨0,by omega,by omega,q⟩
    refine⟨1,by omega,by omega,?_⟩;show dw (fL n) A i j;rw[gR ha.2];exact q
   rintro⟨k,q1,q2,q3⟩
   match k,q2,q3 with
   | 0,_,q3=>exact Or.inl q3
   | 1,_,q3 =>
    right
    have q4:dw (fL n) A i j:=q3;rw[gR ha.2]at q4;exact q4
   | k+2,q2,_=>omega
  rw[e]at h;exact h
 rw[if_neg h2];exact ha.rep mn mx
def Gq(n:Nat)(hs:List Int->Nat->Prop)(u:Value)(t:List El×Int):Prop:=gn u t.2/\∃ R T,aZ n hs t.1 R/\gX t.1 T/\aZ n hs T R
theorem CT:jI (Gq n hs):=by
 refine⟨fun h=>h.1,?_,?_,?_,?_,?_⟩
 ·exact⟨gn.e,_,_,aZ.e,gX.leaf (by decide) (by decide) (by decide),aZ.e⟩
 ·intro xs g hc hw;exact⟨gn.s _ _ _ _,_,_,aZ.s xs,gX.leaf (by simp) (by simp) (by simp),aZ.s xs⟩
 ·rintro u v l r ⟨hu,A,L,a1,a2,a3⟩ ⟨hv,B,R,b1,b2,b3⟩;exact⟨gn.cat hu hv,_,_,a1.cat b1,a2.cat b2,a3.cat b3⟩
 ·rintro u v l r ⟨hu,A,L,a1,a2,a3⟩ ⟨hv,B,R,b1,b2,b3⟩;exact⟨gn.alt hu hv,_,_,a1.alt b1,a2.alt b2,by rw[Al A B];exact b3.alt a3⟩
 rintro u o mn mx ⟨hu,A,L,a1,a2,a3⟩ o2 o3 o4;exact⟨gn.rep hu o2 o3 o4,_,_,a1.rep mn mx,a2.rep mn mx,a3.wrep mn mx⟩
theorem pk{xs:List El}(h:bO xs):∃ R T,aZ n hs xs R/\gX xs T/\aZ n hs T R:=by
 obtain⟨u,c,-,R,T,h1,h2,h3⟩:=me (CT (n:=n) (hs:=hs)) h;exact⟨R,T,h1,h2,h3⟩
end
theorem jH:NL 1 (sE [0,255]):=⟨Nat.le_refl _,iN dH⟩
def gv:Nat->List El->List El
 | 0,t=>t
 | n+1,t=>gv n (eg t (sE [0,255]))
theorem AH:∀ (n:Nat) (t:List El),gv (n+1) t=eg (gv n t) (sE [0,255])
 | 0,_=>rfl
 | n+1,t=>AH n (eg t (sE [0,255]))
theorem qj:∀ (n:Nat) {m:Nat} {t:List El},NL m t->NL (m+2*n) (gv n t)
 | 0,_,_,h=>h
 | n+1,_,_,h=>(qj n (h.cat jH)).mono (by omega)
def jy:List El:=eg (bi (sE [0,255]) 0 (-1)) (cY 97)
def jJ(k:Nat)(ex:Bool):List El:=if ex then fN (cY 98) (gv k jy) else gv k jy
theorem oz(k:Nat)(ex:Bool)(w:World)(hk:k<=12) :
  Calls prog 13 #[.int .i64 (k:Nat),.bool ex] w fun e w'=>(∃ v,e=.returned (.agg #[.bool true,.bool true,v])/\aA w.heap.size w'.heap.size w' v (jJ k ex))/\Below w.heap.size w w':=by
 obtain⟨W0,b⟩ : ∃ W0,W0=w.alloc (.cells #[.bool false,.bool false,.slice none 0 0] 25):=⟨_,rfl⟩;have HP:Hi (jF W0 w.heap.size 25 (.bool false) (.bool false) (.slice none 0 0)):=by rw[b];exact jF.new w _ _ _ _
 have ao:Hi (Below w.heap.size w W0):=by rw[b];exact ai w _
 have be:W0.heap.size=w.heap.size+1:=by rw[b,ah]
 have B:=ae b;clear b
 go_enter func13,ntmps13
 go_wp2_with fail;rw[<-B.u];clear B;obtain⟨lo,bf⟩ : ∃ lo,lo=w.heap.size+1:=⟨_,rfl⟩;refine(pG W0).mono ?_;rintro e w1 ⟨v1,rfl,C,s⟩;have D:=ae (C.mono (lo':=lo) (by omega) lR);obtain⟨a1,c1,rfl,-⟩:=C;have ap:=s.size;have E:Hi (Below lo W0 w1):=s.mono (by omega);clear s
 go_wp2_with fail;refine(cJ lo _ _ w1 D.u (by omega) (by simp)).mono ?_;rintro e w2 ⟨v2,rfl,F,t⟩;have y:=ae F;obtain⟨a2,c2,rfl,-⟩:=F;have aq:=t.size;have G:=ae (E.u.trans (t.mono (by omega)));clear t
 go_wp2_with fail;refine(ez y.u jH (by omega) (by omega) (p:=0) (q:=(-1)) (by unfold az;omega) (by unfold az;omega)).mono ?_;rintro e w3 ⟨v3,rfl,H,f⟩;have I:=ae H;obtain⟨a3,c3,rfl,-⟩:=H;have ar:=f.size;have J:=ae (G.u.trans (f.mono (by omega)));have K:=ae (y.u.below f lR);clear f
 go_wp2_with fail;refine(eo 97 w3 (by unfold az;omega)).mono ?_;rintro e w4 ⟨v4,rfl,L,c⟩;have M:=ae (L.mono (lo':=lo) (by omega) lR);obtain⟨a4,c4,rfl,-⟩:=L;have av:=c.size;have N:=ae (J.u.trans (c.mono (by omega)));have O:=ae (K.u.below c lR);have P:=ae (I.u.below c lR);clear c
 go_wp2_with fail;refine(cJ lo _ _ w4 M.u (by omega) (by simp)).mono ?_;rintro e w5 ⟨v5,rfl,Q,d⟩;have R:=ae Q;obtain⟨a5,c5,rfl,-⟩:=Q;have aw:=d.size;have S:=ae (N.u.trans (d.mono (by omega)));have T:=ae (O.u.below d lR);have U:=ae (P.u.below d lR);clear d;have z:=jH.rep (lo:=0) (hi:=-1) (by unfold az;omega) (by unfold az;omega);have ax:=z.cat (NL.one (x:=97) (by omega) (by omega))
 go_wp2_with fail;refine(iA U.u R.u z (NL.one (x:=97) (by omega) (by omega)) (by omega) (by omega) (by omega)).mono ?_;rintro e w6 ⟨v6,rfl,V,g⟩;have b0:=ae V;obtain⟨a6,c6,rfl,-⟩:=V;have b1:=g.size;have b2:=ae (S.u.trans (g.mono (by omega)));have b3:=ae (T.u.below g lR);have b4:lo<=w6.heap.size:=by omega
 clear g D E G y I J K M N O P R S T U z ap aq ar av aw b1
 go_wp2_with fail
 go_loopw [6,7] (fun tv iv wr=>∃ m:Nat,m<=k/\iv=.int .i64 (m:Nat)/\aA lo wr.heap.size wr tv (gv m jy)/\Below w6.heap.size w6 wr) (fun _ iv _=>k-(intOf iv).toNat)
 case atStart=>exact⟨0,Nat.zero_le _,rfl,b0.u,Below.refl _ _⟩
 obtain⟨m,hm,rfl,X,h⟩:=hrel;have A:=ae X;obtain⟨a7,c7,rfl,-⟩:=X;have b5:=h.size;have Y:=ae h;have b6:=ae (b3.u.below h lR);have Z:=qj m ax;clear h
 by_cases hlt:m<k
 ·have a0:(m:Int)<(k:Int):=by omega
  go_wp2_with fail;refine(iA A.u b6.u Z jH (by omega) (by omega) (by omega)).mono ?_;rintro e w8 ⟨v8,rfl,aa,ab⟩;have b7:=ae aa;obtain⟨a8,c8,rfl,-⟩:=aa;have b8:=ae (Y.u.trans (ab.mono b5));clear ab;go_wp2;exact⟨⟨m+1,by omega,by go_num,by rw[AH];exact b7.u,b8.u⟩,by simp[intOf];omega⟩
 obtain rfl:m=k:=by omega
 have a0:¬ (m:Int)<(m:Int):=by omega
 have i:Hi (∀ W,Below lo wr W->Below w.heap.size w W/\jF W w.heap.size 25 (.bool false) (.bool false) (.slice none 0 0)):=fun W hW=>by
  have h1:Below lo W0 wr:=b2.u.trans (Y.u.mono b4);have h2:Below lo W0 W:=h1.trans (hW.mono lR);exact⟨ao.u.trans (h2.mono (by omega)),HP.u.below h2 (by omega)⟩
 cases ex
 ·obtain⟨-,BP⟩:=i.u wr (Below.refl _ _);obtain⟨p0,p1,p2⟩:=BP.facts;have z0:=World.rowIs.frozen BP 0;have z1:=World.rowIs.frozen BP 1;have z2:=World.rowIs.frozen BP 2;clear BP;go_wp2;refine bodyPost_ret (v:=.agg #[.bool true,.bool true,.slice a7 (gv m jy).length c7]) (by simp[results,results13,go_sem,p0,p1,p2]) rfl ⟨⟨_,rfl,?_⟩,?_⟩
  ·exact(A.u.mono (lo':=w.heap.size+1) (by omega) lR).put3 (lo:=w.heap.size) (by omega)
  exact aD (aD (aD (i.u wr (Below.refl _ _)).1 lR _) lR _) lR _
 go_wp2_with fail;refine(eo 98 _ (by unfold az;omega)).mono ?_;rintro e w9 ⟨v9,rfl,ad,j⟩;have b9:=ae (ad.mono (lo':=lo) (by omega) lR);obtain⟨a9,c9,rfl,-⟩:=ad;have bl:=j.size;have bb:Hi (Below lo wr w9):=j.mono (by omega);have bc:=ae (A.u.below j lR);clear j
 go_wp2_with fail;refine(cJ lo _ _ w9 b9.u (by omega) (by simp)).mono ?_;rintro e w10 ⟨v10,rfl,l,a⟩;have af:=ae l;obtain⟨a10,c10,rfl,-⟩:=l;have bd:=a.size;have ag:=ae (bb.u.trans (a.mono (by omega)));have al:=ae (bc.u.below a lR);clear a
 go_wp2_with fail;refine(kE af.u al.u (NL.one (x:=98) (by omega) (by omega)) Z (by omega) (by omega) (by omega)).mono ?_;rintro e w11 ⟨v11,rfl,n,o⟩;have an:=ae n;obtain⟨a11,c11,rfl,-⟩:=n;have r:=ae (ag.u.trans (o.mono (by omega)));clear o;obtain⟨-,BP⟩:=i.u w11 r.u;obtain⟨p0,p1,p2⟩:=BP.facts;have z0:=World.rowIs.frozen BP 0;have z1:=World.rowIs.frozen BP 1;have z2:=World.rowIs.frozen BP 2;clear BP;go_wp2;refine bodyPost_ret (v:=.agg #[.bool true,.bool true,.slice a11 (fN (sE [98,98]) (gv m jy)).length c11]) (by simp[results,results13,go_sem,p0,p1,p2]) rfl ⟨⟨_,rfl,?_⟩,?_⟩
 ·exact(an.u.mono (lo':=w.heap.size+1) (by omega) lR).put3 (lo:=w.heap.size) (by omega)
 exact aD (aD (aD (i.u w11 r.u).1 lR _) lR _) lR _
def CF(xs:List Int):List Int:=if xs.headD 0%10=0 then (ud xs.tail.tail).2 else if xs.headD 0%10<3 then (iI (dQ xs.tail).1 (dQ xs.tail).2).2 else (dQ xs.tail).2
theorem sP(N D lo:Nat)(xs:List Int)(w:World)(h:bR N D w xs)(hx:dN xs)(hD:D<lo)(hlo:lo<=w.heap.size)(hk:xs.headD 0%10=0) :
  Calls prog 18 #[.pointer (some ⟨D,0,none⟩)] w fun e w'=>(∃ v,e=.returned (.agg #[.bool (decide (xs.tail.headD 0%2=0)),.bool (decide (xs.tail.headD 0%3=0)),v])/\aA lo w'.heap.size w' v ((ud xs.tail.tail).1))/\(∃ zs,zs=(ud xs.tail.tail).2/\bR N D w' zs/\dN zs)/\Mv w.heap.size D w w':=by
 have H:=ae h;have HX:=ae hx;have hh:=hx.head;have m:=hx.tail.head;obtain⟨y,hy⟩ : ∃ y,xs.headD 0=y:=⟨_,rfl⟩;obtain⟨y2,a⟩ : ∃ y,xs.tail.headD 0=y:=⟨_,rfl⟩;rw[hy]at hh hk;rw[a]at m ⊢;obtain⟨A,hA⟩ : ∃ A,ud xs.tail.tail=A:=⟨_,rfl⟩;rw[hA];have HA:=ae hA;clear hA;have HY:=ae hy;have n:=ae a;clear hy a h hx;have HP:=ae (jF.new w 25 (.bool false) (.bool false) (.slice none 0 0));have f:=ae (ai w (.cells #[.bool false,.bool false,.slice none 0 0] 25));have C:(w.alloc (.cells #[.bool false,.bool false,.slice none 0 0] 25)).heap.size=w.heap.size+1:=ah _ _;have o:=ae (H.u.keep f.u (by omega));have p:=ae (Below.mv f.u D)
 go_enter func18,ntmps18
 go_wp2_with fail;generalize w.alloc (.cells #[.bool false,.bool false,.slice none 0 0] 25)=W0 at *;refine(aE N D xs W0 o.u HX.u).mono ?_;rintro e w1 ⟨he,g,b⟩;rw[HY.u]at he;subst he;have E:w1.heap.size=W0.heap.size:=b.size;have q:=ae g;have r:=ae (b.mv (w.heap.size+1));clear g b
 go_wp2_with fail;refine(aE N D xs.tail w1 q.u HX.u.tail).mono ?_;rintro e w2 ⟨he,i,c⟩;rw[n.u]at he;subst he;have F:w2.heap.size=w1.heap.size:=c.size;have s:=ae i;have t:=ae (r.u.trans (c.mv _));clear i c
 go_wp2_with fail;refine(lU N D (w.heap.size+1) xs.tail.tail w2 s.u HX.u.tail.tail (by omega) (by omega)).mono ?_;rw[HA.u];rintro e w3 ⟨⟨v3,rfl,j⟩,k,d⟩;have x:=ae j;obtain⟨a3,c3,rfl,-⟩:=j;have G:=d.size;have l:=ae (t.u.trans (d.mono (by omega)));have z:=ae k;have B:Hi (dN A.2):=by rw[<-HA.u];exact HX.u.tail.tail.tail.tail
 clear k d;have BP:=HP.u.blk (l.u.block w.heap.size (by omega) (by omega));obtain⟨p0,p1,p2⟩:=BP.facts;have z0:=World.rowIs.frozen BP 0;have z1:=World.rowIs.frozen BP 1;have z2:=World.rowIs.frozen BP 2;clear BP;go_wp2;refine bodyPost_ret (v:=.agg #[.bool (decide (y2%2=0)),.bool (decide (y2%3=0)),.slice a3 A.1.length c3]) (by simp[results,results18,go_sem,p0,p1,p2];exact⟨rfl,rfl⟩) rfl ⟨⟨_,rfl,?_⟩,⟨_,rfl,?_,B.u⟩,?_⟩
 ·exact x.u.put3 (lo:=lo) (by omega)
 ·exact z.u.keep (aD (aD (aD (Below.refl w.heap.size w3) lR _) lR _) lR _) (by omega)
 exact p.u.trans ((l.u.mono (by omega)).trans (Below.mv (aD (aD (aD (Below.refl w.heap.size w3) lR _) lR _) lR _) D))
theorem sk(N D lo:Nat)(xs:List Int)(w:World)(h:bR N D w xs)(hx:dN xs)(hD:D<lo)(hlo:lo<=w.heap.size)(hk:3<=xs.headD 0%10) :
  Calls prog 18 #[.pointer (some ⟨D,0,none⟩)] w fun e w'=>(∃ v,e=.returned (.agg #[.bool (decide (xs.tail.headD 0%4=1)),.bool (decide (5<xs.tail.headD 0%8)),v])/\aA lo w'.heap.size w' v ((dQ xs.tail).1))/\(∃ zs,zs=(dQ xs.tail).2/\bR N D w' zs/\dN zs)/\Mv w.heap.size D w w':=by
 have H:=ae h;have HX:=ae hx;have hh:=hx.head;have p:=hx.tail.head;obtain⟨y,hy⟩ : ∃ y,xs.headD 0=y:=⟨_,rfl⟩;obtain⟨y2,a⟩ : ∃ y,xs.tail.headD 0=y:=⟨_,rfl⟩;rw[hy]at hh hk;rw[a]at p ⊢;obtain⟨A,hA⟩ : ∃ A,dQ xs.tail=A:=⟨_,rfl⟩;obtain⟨bl,c⟩ : ∃ b,decide (y2%4=1)=b:=⟨_,rfl⟩;obtain⟨br,d⟩ : ∃ b,decide (5<y2%8)=b:=⟨_,rfl⟩;have q:=ae (se xs.tail);have i:=ae (pw hx.tail);rw[hA]at q i;rw[hA,c,d];have HA:=ae hA;have r:=ae c;have s:=ae d;clear hA c d;have HY:=ae hy;have t:=ae a;clear hy a h hx;have HP:=ae (jF.new w 25 (.bool false) (.bool false) (.slice none 0 0));have j:=ae (ai w (.cells #[.bool false,.bool false,.slice none 0 0] 25));have I:(w.alloc (.cells #[.bool false,.bool false,.slice none 0 0] 25)).heap.size=w.heap.size+1:=ah _ _;have x:=ae (H.u.keep j.u (by omega));have z:=ae (Below.mv j.u D)
 go_enter func18,ntmps18
 go_wp2_with fail;generalize w.alloc (.cells #[.bool false,.bool false,.slice none 0 0] 25)=W0 at *;refine(aE N D xs W0 x.u HX.u).mono ?_;rintro e w1 ⟨he,k,f⟩;rw[HY.u]at he;subst he;have J:w1.heap.size=W0.heap.size:=f.size;have B:=ae k;have C:=ae (f.mv (w.heap.size+1));clear k f;have k0:¬ y%10=0:=by omega
 have k3:¬ y%10<3:=by omega
 go_wp2_with fail;refine(iB N D (w.heap.size+1) xs.tail w1 B.u HX.u.tail (by omega) (by omega)).mono ?_;rw[t.u,HA.u,r.u,s.u];rintro e w2 ⟨⟨v2,rfl,l⟩,m,g⟩;have E:=ae l;obtain⟨a2,c2,rfl,-⟩:=l;have K:=g.size;have F:=ae m;have n:=ae (C.u.trans (g.mono (by omega)));clear m g;have BP:=HP.u.blk (n.u.block w.heap.size (by omega) (by omega));obtain⟨p0,p1,p2⟩:=BP.facts;have z0:=World.rowIs.frozen BP 0;have z1:=World.rowIs.frozen BP 1;have z2:=World.rowIs.frozen BP 2;clear BP;have o:w.heap.size<w2.heap.size:=by omega
 have G:¬ w.heap.size=w2.heap.size:=by omega
 go_wp2;refine bodyPost_ret (v:=.agg #[.bool bl,.bool br,.slice a2 A.1.length c2]) (by simp[results,results18,go_sem,p0,p1,p2,o]) rfl ⟨⟨_,rfl,?_⟩,⟨_,rfl,?_,i.u⟩,?_⟩
 ·exact(E.u.put3 (lo:=lo) (by omega)).below (ai _ _) lR
 ·exact(F.u.keep (aD (aD (aD (Below.refl w.heap.size w2) lR _) lR _) lR _) (by omega)).keep (ai _ _) (by simp only[aM];omega)
 exact z.u.trans ((n.u.mono (by omega)).trans ((Below.mv (aD (aD (aD (Below.refl w.heap.size w2) lR _) lR _) lR _) D).trans (eJ (ai _ _) D (by simp only[aM];omega))))
theorem re(N D lo:Nat)(xs:List Int)(w:World)(h:bR N D w xs)(hx:dN xs)(hD:D<lo)(hlo:lo<=w.heap.size)(hk:0<xs.headD 0%10/\xs.headD 0%10<3) :
  Calls prog 18 #[.pointer (some ⟨D,0,none⟩)] w fun e w'=>(∃ v,e=.returned (.agg #[.bool (decide (xs.tail.headD 0%4=1)),.bool (decide (5<xs.tail.headD 0%8)),v])/\aA lo w'.heap.size w' v ((iI (dQ xs.tail).1 (dQ xs.tail).2).1))/\(∃ zs,zs=(iI (dQ xs.tail).1 (dQ xs.tail).2).2/\bR N D w' zs/\dN zs)/\Mv w.heap.size D w w':=by
 have H:=ae h;have HX:=ae hx;have hh:=hx.head;have t:=hx.tail.head;obtain⟨y,hy⟩ : ∃ y,xs.headD 0=y:=⟨_,rfl⟩;obtain⟨y2,d⟩ : ∃ y,xs.tail.headD 0=y:=⟨_,rfl⟩;rw[hy]at hh hk;rw[d]at t ⊢;obtain⟨A,hA⟩ : ∃ A,dQ xs.tail=A:=⟨_,rfl⟩;obtain⟨bl,f⟩ : ∃ b,decide (y2%4=1)=b:=⟨_,rfl⟩;obtain⟨br,g⟩ : ∃ b,decide (5<y2%8)=b:=⟨_,rfl⟩;have i:=ae (se xs.tail);have a:=ae (pw hx.tail);rw[hA]at i a;rw[hA,f,g];obtain⟨B,hB⟩ : ∃ B,iI A.1 A.2=B:=⟨_,rfl⟩;rw[hB];have HB:=ae hB;clear hB;have HA:=ae hA;have x:=ae f;have z:=ae g;clear hA f g;have HY:=ae hy;have C:=ae d;clear hy d h hx;have HP:=ae (jF.new w 25 (.bool false) (.bool false) (.slice none 0 0));have m:=ae (ai w (.cells #[.bool false,.bool false,.slice none 0 0] 25));have W:(w.alloc (.cells #[.bool false,.bool false,.slice none 0 0] 25)).heap.size=w.heap.size+1:=ah _ _;have E:=ae (H.u.keep m.u (by omega));have F:=ae (Below.mv m.u D)
 go_enter func18,ntmps18
 go_wp2_with fail;generalize w.alloc (.cells #[.bool false,.bool false,.slice none 0 0] 25)=W0 at *;refine(aE N D xs W0 E.u HX.u).mono ?_;rintro e w1 ⟨he,n,j⟩;rw[HY.u]at he;subst he;have X:w1.heap.size=W0.heap.size:=j.size;have G:=ae n;have I:=ae (j.mv (w.heap.size+1));clear n j;have k0:¬ y%10=0:=by omega
 have k3:y%10<3:=by omega
 go_wp2_with fail;refine(iB N D (w.heap.size+1) xs.tail w1 G.u HX.u.tail (by omega) (by omega)).mono ?_;rw[C.u,HA.u,x.u,z.u];rintro e w2 ⟨⟨v2,rfl,o⟩,p,k⟩;have J:=ae o;obtain⟨a2,c2,rfl,-⟩:=o;have Y:=k.size;have K:=ae p;have L:=ae (I.u.trans (k.mono (by omega)));clear p k;have HQ:=ae (jF.new w2 25 (.bool bl) (.bool br) (.slice a2 A.1.length c2));have l:=ae (ai w2 (.cells #[.bool bl,.bool br,.slice a2 A.1.length c2] 25));have Z:(w2.alloc (.cells #[.bool bl,.bool br,.slice a2 A.1.length c2] 25)).heap.size=w2.heap.size+1:=ah _ _
 go_wp2_with fail;generalize w2.alloc (.cells #[.bool bl,.bool br,.slice a2 A.1.length c2] 25)=W3 at *;have M:=ae (K.u.keep l.u (by omega));have O:=ae (L.u.trans (eJ l.u D (by omega)));have P:=ae (J.u.below l.u lR);have Q:0<A.1.length:=by obtain⟨c9,h9,-⟩:=i.u.seg;exact h9.ne
 refine(qR N D (w.heap.size+1) _ A.1 A.2 W3 M.u a.u (by omega) (by omega) P.u i.u.nl Q).mono ?_;rw[HB.u];rintro e w4 ⟨⟨v4,rfl,q⟩,r,c⟩;have R:=ae q;obtain⟨a4,c4,rfl,-⟩:=q;have a0:=c.size;have s:=ae (O.u.trans (c.mono (by omega)));have BQ:=HQ.u.blk (c.block w2.heap.size (by omega) (by omega));obtain⟨r0,r1,r2⟩:=BQ.facts;have u0:=World.rowIs.frozen BQ 0;have u1:=World.rowIs.frozen BQ 1;have u2:=World.rowIs.frozen BQ 2;have S:=ae r;have T:Hi (dN B.2):=by
  rw[<-HB.u];show dN (if A.2.headD 0%12=2 then A.2.tail.tail.tail else A.2.tail.tail)
  split
  ·exact a.u.tail.tail.tail
  exact a.u.tail.tail
 clear r c BQ;have BP:=HP.u.blk (s.u.block w.heap.size (by omega) (by omega));obtain⟨p0,p1,p2⟩:=BP.facts;have z0:=World.rowIs.frozen BP 0;have z1:=World.rowIs.frozen BP 1;have z2:=World.rowIs.frozen BP 2;clear BP;have U:¬ w.heap.size=w2.heap.size:=by omega
 have V:¬ w2.heap.size=w.heap.size:=by omega
 go_wp2;refine bodyPost_ret (v:=.agg #[.bool bl,.bool br,.slice a4 B.1.length c4]) (by simp[results,results18,go_sem,p0,p1,p2]) rfl ⟨⟨_,rfl,?_⟩,⟨_,rfl,?_,T.u⟩,?_⟩
 ·have h5:aA (w.heap.size+1) (w4.setCell ⟨w2.heap.size,2,none⟩ (.slice a4 B.1.length c4)).heap.size (w4.setCell ⟨w2.heap.size,2,none⟩ (.slice a4 B.1.length c4)) (.slice a4 B.1.length c4) B.1:=(R.u.same ((dm.refl _ _ _).setCell (Or.inl (by omega)) _)).mono (by omega) (by rw[aM];exact Nat.le_refl _);exact h5.put3 (lo:=lo) (by omega)
 ·exact S.u.keep (aD (aD (aD (aD (Below.refl w.heap.size w4) (by omega) _) lR _) lR _) lR _) (by omega)
 exact F.u.trans ((s.u.mono (by omega)).trans (Below.mv (aD (aD (aD (aD (Below.refl w.heap.size w4) (by omega) _) lR _) lR _) lR _) D))
theorem ow(N D lo:Nat)(xs:List Int)(w:World)(h:bR N D w xs)(hx:dN xs)(hD:D<lo)(hlo:lo<=w.heap.size) :
  Calls prog 18 #[.pointer (some ⟨D,0,none⟩)] w fun e w'=>(∃ v,e=.returned (.agg #[.bool (rS xs).1.1,.bool (rS xs).1.2,v])/\aA lo w'.heap.size w' v (rS xs).2)/\(∃ zs,zs=CF xs/\bR N D w' zs/\dN zs)/\Mv w.heap.size D w w':=by
 have hh:=hx.head;unfold rS CF
 by_cases h0:xs.headD 0%10=0
 ·rw[if_pos h0,if_pos h0];exact sP N D lo xs w h hx hD hlo h0
 rw[if_neg h0,if_neg h0]
 by_cases h3:xs.headD 0%10<3
 ·rw[if_pos h3,if_pos h3];exact re N D lo xs w h hx hD hlo ⟨by omega,h3⟩
 rw[if_neg h3,if_neg h3];exact sk N D lo xs w h hx hD hlo (by omega)
def iF(xs:List Int):(Bool×Bool)×List El:=
 if xs.headD 0%80=0 then ((true,true),jJ 9 false) else if xs.headD 0%80=1 then ((true,true),jJ 9 true)
 else if xs.headD 0%80=2 then ((true,true),fN (jJ (10+xs.tail.headD 0%2).toNat false) (bi (sE [0,255]) 0 (-1)))
 else if xs.headD 0%80=3 then ((true,true),jJ 3 false) else if xs.headD 0%80=4 then ((true,true),jJ 4 true) else if xs.headD 0%80=5 then ((true,true),jJ 5 false)
 else rS xs.tail
def FB(w:World)(R:(Bool×Bool)×List El)(e:Ending)(w':World):Prop:=(∃ v,e=.returned (.agg #[.bool R.1.1,.bool R.1.2,v])/\aA w.heap.size w'.heap.size w' v R.2)/\Below w.heap.size w w'
theorem kG(z:Int)(k:Nat)(b:Bool)(w:World)(hz:z=(k:Int))(hk:k<=12):Calls prog 13 #[.int .i64 z,.bool b] w fun e w'=>(∃ v,e=.returned (.agg #[.bool true,.bool true,v])/\aA w.heap.size w'.heap.size w' v (jJ k b))/\Below w.heap.size w w':=by
 subst hz;exact oz k b w hk
theorem ou(cv:Value)(cs:List Int)(w:World)(hv:aK mB 0 0 w.heap.size w cv cs)(hcap:cB cv)(hx:dN (cs.take 600))(hk2:¬ (cs.take 600).headD 0%80=2) :
  Calls prog 4 #[cv] w (FB w (iF (cs.take 600))):=by
 have HX:=ae hx;have HV:=ae hv;have q:=ae hcap;obtain⟨ca,cc,rfl,-⟩:=hv;obtain⟨xs,i⟩ : ∃ xs,cs.take 600=xs:=⟨_,rfl⟩;rw[i]at HX hk2 ⊢;have r:=ae i;obtain⟨R,hR⟩ : ∃ R,R=iF xs:=⟨_,rfl⟩;rw[<-hR];unfold iF at hR;obtain⟨y,hy⟩ : ∃ y,xs.headD 0=y:=⟨_,rfl⟩;have hh:=HX.u.head;rw[hy]at hk2 hR hh;rw[if_neg hk2]at hR;have HY:=ae hy;have HR:=ae hR;clear hR hx i hcap hy;have HP:=ae (jF.new w 25 (.bool false) (.bool false) (.slice none 0 0));have l:=ae (ai w (.cells #[.bool false,.bool false,.slice none 0 0] 25));have s:(w.alloc (.cells #[.bool false,.bool false,.slice none 0 0] 25)).heap.size=w.heap.size+1:=ah _ _;have t:=ae (HV.u.cut l.u lR)
 go_enter func4,ntmps4
 go_wp2_with fail;generalize w.alloc (.cells #[.bool false,.bool false,.slice none 0 0] 25)=W0 at *;refine(nt _ cs W0 t.u q.u).mono ?_;rw[r.u];obtain⟨D,m⟩ : ∃ D,W0.heap.size=D:=⟨_,rfl⟩;rw[m];rintro e w1 ⟨rfl,n,x,j⟩;have G:w.heap.size<D:=by omega
 have H:w.heap.size+2<=w1.heap.size:=by omega
 have z:=ae (l.u.trans (j.mono (by omega)));have A:=ae (HP.u.below j (by omega));have B:=ae n;have I:D<w.heap.size+2:=by omega
 clear j m s x n
 go_wp2_with fail;refine(aE D D xs w1 B.u HX.u).mono ?_;rintro e w2 ⟨he,o,k⟩;rw[HY.u]at he;subst he;have J:w2.heap.size=w1.heap.size:=k.size;have C:=ae (k.mv w1.heap.size);have E:=ae o;clear o k;have g:Hi (∀ W,Mv (w.heap.size+2) D w2 W->jF W w.heap.size 25 (.bool false) (.bool false) (.slice none 0 0)/\Below w.heap.size w W):=fun W hW=>by
  have h1:=(C.u.mono (lo':=w.heap.size+2) (by omega)).trans hW;exact⟨A.u.blk (h1.block w.heap.size (by omega) (by omega)),z.u.trans ((h1.below (by omega)).mono (by omega))⟩
 by_cases h6:6<=y%80
 ·have e9:=HR.u;rw[if_neg (by omega),if_neg (by omega),if_neg (by omega),if_neg (by omega),if_neg (by omega)]at e9;have F:=ae e9;have n0:¬ y%80=0:=by omega
  have n1:¬ y%80=1:=by omega
  have n6:¬ y%80<6:=by omega
  clear e9
  go_wp2_with fail;refine(ow D D (w.heap.size+2) xs.tail w2 E.u HX.u.tail (by omega) (by omega)).mono ?_;rw[<-F.u];rintro e w3 ⟨⟨v3,rfl,a⟩,-,p⟩;have d:=ae a;obtain⟨a3,c3,rfl,-⟩:=a;obtain⟨BP,b⟩:=g.u w3 (p.mono (by omega));obtain⟨p0,p1,p2⟩:=BP.facts;have z0:=World.rowIs.frozen BP 0;have z1:=World.rowIs.frozen BP 1;have z2:=World.rowIs.frozen BP 2;have f:=ae b;clear BP p b;go_wp2;refine bodyPost_ret (v:=.agg #[.bool R.1.1,.bool R.1.2,.slice a3 R.2.length c3]) (by simp[results,results4,go_sem,p0,p1,p2]) rfl ⟨⟨_,rfl,?_⟩,?_⟩
  ·exact(d.u.mono (lo':=w.heap.size+1) (by omega) lR).put3 (lo:=w.heap.size) (by omega)
  exact aD (aD (aD f.u lR _) lR _) lR _
 have hc:y%80=0∨y%80=1∨y%80=3∨y%80=4∨y%80=5:=by omega
 rcases hc with h|h|h|h|h
 ·have e9:=HR.u;rw[if_pos h]at e9;subst e9;clear HR;clear h6 hk2
  go_wp2_with fail;refine(kG 9 9 false w2 rfl (by omega)).mono ?_;rintro e w3 ⟨⟨v3,rfl,a⟩,c⟩;have d:=ae a;obtain⟨a3,c3,rfl,-⟩:=a;obtain⟨BP,b⟩:=g.u w3 ((Below.mv c D).mono (by omega));obtain⟨p0,p1,p2⟩:=BP.facts;have z0:=World.rowIs.frozen BP 0;have z1:=World.rowIs.frozen BP 1;have z2:=World.rowIs.frozen BP 2;have f:=ae b;clear BP c b;go_wp2;refine bodyPost_ret (v:=.agg #[.bool true,.bool true,.slice a3 (jJ 9 false).length c3]) (by simp[results,results4,go_sem,p0,p1,p2];try rfl) rfl ⟨⟨_,rfl,?_⟩,?_⟩
  ·exact(d.u.mono (lo':=w.heap.size+1) (by omega) lR).put3 (lo:=w.heap.size) (by omega)
  exact aD (aD (aD f.u lR _) lR _) lR _
 ·have e9:=HR.u;rw[if_neg (by omega),if_pos h]at e9;subst e9;clear HR;clear h6 hk2
  go_wp2_with fail;refine(kG 9 9 true w2 rfl (by omega)).mono ?_;rintro e w3 ⟨⟨v3,rfl,a⟩,c⟩;have d:=ae a;obtain⟨a3,c3,rfl,-⟩:=a;obtain⟨BP,b⟩:=g.u w3 ((Below.mv c D).mono (by omega));obtain⟨p0,p1,p2⟩:=BP.facts;have z0:=World.rowIs.frozen BP 0;have z1:=World.rowIs.frozen BP 1;have z2:=World.rowIs.frozen BP 2;have f:=ae b;clear BP c b;go_wp2;refine bodyPost_ret (v:=.agg #[.bool true,.bool true,.slice a3 (jJ 9 true).length c3]) (by simp[results,results4,go_sem,p0,p1,p2];try rfl) rfl ⟨⟨_,rfl,?_⟩,?_⟩
  ·exact(d.u.mono (lo':=w.heap.size+1) (by omega) lR).put3 (lo:=w.heap.size) (by omega)
  exact aD (aD (aD f.u lR _) lR _) lR _
 ·have e9:=HR.u;rw[if_neg (by omega),if_neg (by omega),if_pos h]at e9;subst e9;clear HR;clear h6 hk2
  go_wp2_with fail;refine(kG 3 3 false w2 rfl (by omega)).mono ?_;rintro e w3 ⟨⟨v3,rfl,a⟩,c⟩;have d:=ae a;obtain⟨a3,c3,rfl,-⟩:=a;obtain⟨BP,b⟩:=g.u w3 ((Below.mv c D).mono (by omega));obtain⟨p0,p1,p2⟩:=BP.facts;have z0:=World.rowIs.frozen BP 0;have z1:=World.rowIs.frozen BP 1;have z2:=World.rowIs.frozen BP 2;have f:=ae b;clear BP c b;go_wp2;refine bodyPost_ret (v:=.agg #[.bool true,.bool true,.slice a3 (jJ 3 false).length c3]) (by simp[results,results4,go_sem,p0,p1,p2];try rfl) rfl ⟨⟨_,rfl,?_⟩,?_⟩
  ·exact(d.u.mono (lo':=w.heap.size+1) (by omega) lR).put3 (lo:=w.heap.size) (by omega)
  exact aD (aD (aD f.u lR _) lR _) lR _
 ·have e9:=HR.u;rw[if_neg (by omega),if_neg (by omega),if_neg (by omega),if_pos h]at e9;subst e9;clear HR;clear h6 hk2
  go_wp2_with fail;refine(kG 4 4 true w2 rfl (by omega)).mono ?_;rintro e w3 ⟨⟨v3,rfl,a⟩,c⟩;have d:=ae a;obtain⟨a3,c3,rfl,-⟩:=a;obtain⟨BP,b⟩:=g.u w3 ((Below.mv c D).mono (by omega));obtain⟨p0,p1,p2⟩:=BP.facts;have z0:=World.rowIs.frozen BP 0;have z1:=World.rowIs.frozen BP 1;have z2:=World.rowIs.frozen BP 2;have f:=ae b;clear BP c b;go_wp2;refine bodyPost_ret (v:=.agg #[.bool true,.bool true,.slice a3 (jJ 4 true).length c3]) (by simp[results,results4,go_sem,p0,p1,p2];try rfl) rfl ⟨⟨_,rfl,?_⟩,?_⟩
  ·exact(d.u.mono (lo':=w.heap.size+1) (by omega) lR).put3 (lo:=w.heap.size) (by omega)
  exact aD (aD (aD f.u lR _) lR _) lR _
 have e9:=HR.u;rw[if_neg (by omega),if_neg (by omega),if_neg (by omega),if_neg (by omega),if_pos h]at e9;subst e9;clear HR;clear h6 hk2
 go_wp2_with fail;refine(kG 5 5 false w2 rfl (by omega)).mono ?_;rintro e w3 ⟨⟨v3,rfl,a⟩,c⟩;have d:=ae a;obtain⟨a3,c3,rfl,-⟩:=a;obtain⟨BP,b⟩:=g.u w3 ((Below.mv c D).mono (by omega));obtain⟨p0,p1,p2⟩:=BP.facts;have z0:=World.rowIs.frozen BP 0;have z1:=World.rowIs.frozen BP 1;have z2:=World.rowIs.frozen BP 2;have f:=ae b;clear BP c b;go_wp2;refine bodyPost_ret (v:=.agg #[.bool true,.bool true,.slice a3 (jJ 5 false).length c3]) (by simp[results,results4,go_sem,p0,p1,p2];try rfl) rfl ⟨⟨_,rfl,?_⟩,?_⟩
 ·exact(d.u.mono (lo':=w.heap.size+1) (by omega) lR).put3 (lo:=w.heap.size) (by omega)
 exact aD (aD (aD f.u lR _) lR _) lR _
theorem Gl{x:El}(h:gZ x):x.kind=0∨x.kind=1∨x.kind=2∨x.kind=3∨x.kind=4:=by
 rcases h with ⟨q,-⟩|⟨q,-⟩|⟨q,-⟩<;>omega
/-! How long a tree that is written another way can be: each repetition doubles. -/
def eI(st:List Nat)(x:El):List Nat:=
 if wt x=1 then 1::st else if wt x = -1 then (match st with|a::b::r=>(a+b+1)::r|s=>s) else (match st with|a::r=>(2*a+2)::r|s=>s)
def gN(st:List Nat):List El->List Nat
 | []=>st
 | x::r=>gN (eI st x) r
theorem dI(st:List Nat)(a b:List El):gN st (a++b)=gN (gN st a) b:=by
 induction a generalizing st with
 | nil=>rfl
 | cons x r ih=>simp[gN,ih]
theorem vl:∀ (a b:List El) (st:List Nat),a.map wt=b.map wt->gN st a=gN st b
 | [],[],_,_=>rfl
 | [],_::_,_,h=>by simp at h
 | _::_,[],_,h=>by simp at h
 | x::a,y::b,st,h=>by
  simp only[List.map_cons,List.cons.injEq]at h;have e:eI st x=eI st y:=by unfold eI;rw[h.1]
  show gN (eI st x) a=gN (eI st y) b;rw[e];exact vl a b _ h.2
theorem xN(st:List Nat)(x:El):∀ a∈st,∃ b∈eI st x,a<=b:=by
 intro a ha;unfold eI
 split
 ·exact⟨a,List.mem_cons_of_mem _ ha,Nat.le_refl _⟩
 split
 ·match st,ha with
  | [p],ha=>exact⟨a,ha,Nat.le_refl _⟩
  | p::q::r,ha =>
   simp only[List.mem_cons]at ha;rcases ha with rfl|rfl|ha
   ·exact⟨_,List.mem_cons_self ..,by omega⟩
   ·exact⟨_,List.mem_cons_self ..,by omega⟩
   exact⟨a,List.mem_cons_of_mem _ ha,Nat.le_refl _⟩
 match st,ha with
 | p::r,ha =>
  simp only[List.mem_cons]at ha;rcases ha with rfl|ha
  ·exact⟨_,List.mem_cons_self ..,by omega⟩
  exact⟨a,List.mem_cons_of_mem _ ha,Nat.le_refl _⟩
theorem uz:∀ (r:List El) (st:List Nat),∀ a∈st,∃ b∈gN st r,a<=b
 | [],_,a,ha=>⟨a,ha,Nat.le_refl _⟩
 | x::r,st,a,ha=>by
  obtain⟨b,hb,h1⟩:=xN st x a ha;obtain⟨c,hc,h2⟩:=uz r _ b hb;exact⟨c,hc,by omega⟩
def UB(n:Nat)(L:List El):Prop:=aQ L=1/\∃ u,u<=n/\∀ st,gN st L=u::st
theorem UB.mono{n m:Nat}{L:List El}(h:UB n L)(hm:n<=m):UB m L:=by
 obtain⟨h0,u,h1,h2⟩:=h;exact⟨h0,u,by omega,h2⟩
theorem UB.leaf{x:El}(h:wt x=1):UB 1 [x]:=⟨by simp[aQ,h],1,Nat.le_refl _,fun st=>by simp[gN,eI,h]⟩
theorem UB.bin{n m:Nat}{a b:List El}{x:El}(ha:UB n a)(hb:UB m b)(h:wt x = -1):UB (n+m+1) (a++b++[x]):=by
 obtain⟨a0,u,a1,a2⟩:=ha;obtain⟨b0,v,b1,b2⟩:=hb;refine⟨by simp[aF,aQ,a0,b0,h],v+u+1,by omega,fun st=>?_⟩;rw[dI,dI,a2,b2];simp[gN,eI,h]
theorem UB.repx{n:Nat}{a:List El}{x:El}(ha:UB n a)(h:wt x=0):UB (2*n+2) (a++[x]):=by
 obtain⟨a0,u,a1,a2⟩:=ha;refine⟨by simp[aF,aQ,a0,h],2*u+2,by omega,fun st=>?_⟩;rw[dI,a2];simp[gN,eI,h]
theorem UB.s(cs:List Int):UB 1 (sE cs):=UB.leaf (by simp[wt])
theorem UB.e:UB 1 eE:=UB.leaf (by simp[wt])
theorem UB.cat{n m:Nat}{a b:List El}(ha:UB n a)(hb:UB m b):UB (n+m+1) (eg a b):=ha.bin hb (by simp[wt])
theorem UB.alt{n m:Nat}{a b:List El}(ha:UB n a)(hb:UB m b):UB (n+m+1) (fN a b):=ha.bin hb (by simp[wt])
theorem UB.rep{n:Nat}{a:List El}(ha:UB n a)(lo hi:Int):UB (2*n+2) (bi a lo hi):=ha.repx (by simp[wt])
theorem yK:∀ (n:Nat) {m:Nat} {t:List El} (zs:List Int),UB m t->UB (m+2*n) (AQ n t zs).1
 | 0,_,_,_,h=>h
 | n+1,m,t,zs,h=>(yK n _ (h.cat (UB.s _))).mono (by omega)
theorem yt(xs:List Int):UB 9 (lz xs).1:=(yK _ _ (UB.s _)).mono (by omega)
theorem Bx{n:Nat}{x:List El}(h:UB n x)(xs:List Int):UB (2*n+2) (tn x xs).1:=by
 unfold tn
 split
 ·exact h.mono (by omega)
 exact h.rep _ _
theorem kx:∀ (d:Nat) (xs:List Int),UB (11*2 ^ d-2) (bu d xs).1
 | 0,xs=>(UB.s _).mono (by omega)
 | d+1,xs=>by
  have h1:=kx d xs.tail;have h2:=kx d (bu d xs.tail).2;have h3:1<=2 ^ d:=Nat.one_le_two_pow;have h4:2 ^ (d+1)=2*2 ^ d:=by rw[Nat.pow_succ];omega
  unfold bu
  repeat' split
  ·exact(UB.s _).mono (by omega)
  ·exact(yt _).mono (by omega)
  ·exact UB.e.mono (by omega)
  ·exact(h1.cat h2).mono (by omega)
  ·exact(h1.alt h2).mono (by omega)
  exact(Bx h1 _).mono (by omega)
theorem zv:∀ (n:Nat) {m:Nat} {t:List El} (zs:List Int),UB m t->UB (m+87*n) (uJ n t zs).1
 | 0,_,_,_,h=>h
 | n+1,m,t,zs,h=>by
  have h1:=kx 3 zs.tail;unfold uJ
  split
  ·exact h.mono (by omega)
  split
  ·exact h.mono (by omega)
  split
  ·exact h.mono (by omega)
  refine(zv n (m:=m+87) _ ?_).mono (by omega)
  split
  ·exact(h.cat h1).mono (by omega)
  exact(h.alt h1).mono (by omega)
theorem rt(xs:List Int):UB 700 (dQ xs).1:=(zv 6 _ (kx 4 _)).mono (by omega)
theorem uL:∀ (n:Nat) {m:Nat} {t:List El},UB m t->UB (m+2*n) (sd n t)
 | 0,_,_,h=>h
 | n+1,_,_,h=>(uL n (h.alt UB.e)).mono (by omega)
theorem vj:∀ (n:Nat) {m:Nat} {t:List El},UB m t->UB ((m+2)*2 ^ n-2) (ji n t)
 | 0,_,_,h=>h.mono (by omega)
 | n+1,m,_,h=>(vj n (h.rep 1 1)).mono (by
   have:(2*m+2+2)*2 ^ n=(m+2)*2 ^ (n+1):=by rw[Nat.pow_succ,Nat.mul_comm (2 ^ n) 2,<-Nat.mul_assoc];congr 1;omega
   omega)
theorem Ce{k d:Int}(h1:d<=1):UB 60000000000 (pY k d):=by
 have ha:UB 1 (cY 97):=UB.s _;have hb:UB 1 (cY 98):=UB.s _;have h3:=vj 30 ha;have h4:UB 7000000000 (if 0<d then bi (ji 30 (cY 97)) 0 0 else ji 30 (cY 97)):=by
  split
  ·exact(h3.rep _ _).mono (by omega)
  exact h3.mono (by omega)
 unfold pY
 split
 ·exact((ha.cat hb).rep _ _).mono (by omega)
 split
 ·exact(ha.rep _ _).mono (by omega)
 split
 ·exact(uL _ ((ha.cat hb).rep _ _)).mono (by omega)
 split
 ·split
  ·exact((((ha.cat hb).rep _ _).rep _ _).alt UB.e).mono (by omega)
  exact(((ha.cat hb).rep _ _).rep _ _).mono (by omega)
 split
 ·exact(UB.e.rep _ _).mono (by omega)
 exact((h4.cat h4).rep _ _).mono (by omega)
theorem uU:∀ (n:Nat) {m:Nat} {t:List El},UB m t->UB (m+2*n) (gv n t)
 | 0,_,_,h=>h
 | n+1,_,_,h=>(uU n (h.cat (UB.s _))).mono (by omega)
theorem iW(k:Nat)(b:Bool):UB (8+2*k) (jJ k b):=by
 have h:=uU k (((UB.s [0,255]).rep 0 (-1)).cat (UB.s [97,97]));unfold jJ
 split
 ·exact((UB.s _).alt h).mono (by omega)
 exact h.mono (by omega)
theorem rO:∀ (t:List El) (i:Nat) (x:El),i<t.length->aQ (t.set i x)+wt (t[i]?.getD dE)=aQ t+wt x
 | y::t,0,x,_=>by simp[aQ];omega
 | y::t,i+1,x,h=>by
  have:=rO t i x (by simpa using h);simp[aQ]at this ⊢;omega
theorem CW{n:Nat}{t:List El}(h:UB n t){k y:Int}{i:Nat}(hv:aQ (Fe t k y i)=1):UB n (Fe t k y i):=by
 unfold Fe at hv ⊢
 by_cases h9:k<9
 ·rw[if_pos h9]at hv ⊢;unfold jk at hv ⊢;generalize Gj k y (t[i]?.getD dE)=x at *
  by_cases hi:i<t.length
  ·have e1:=rO t i x hi;rw[hv,h.1]at e1;refine⟨hv,?_⟩;obtain⟨-,u,h1,h2⟩:=h;refine⟨u,h1,fun st=>?_⟩;rw[<-h2 st];refine vl _ _ _ ?_;rw[List.map_set];refine List.ext_getElem? fun j=>?_
   rw[List.getElem?_set]
   split
   ·rename_i hj
    subst hj;rw[List.getElem?_map,List.getElem?_eq_getElem hi]at *;simp only[Option.getD_some]at e1;simp[hi];omega
   rfl
  rw[List.set_eq_of_length_le (by omega)];exact h
 rw[if_neg h9]at hv ⊢
 by_cases h10:k=9
 ·rw[if_pos h10]at hv ⊢;rcases List.eq_nil_or_concat t with rfl|⟨b,x,rfl⟩
  ·simp[aQ]at hv
  rw[List.concat_eq_append]at *;have e:(b++[x]).take ((b++[x]).length-1)=b:=by simp
  rw[e]at hv ⊢;obtain⟨h0,u,h1,h2⟩:=h;have hx:wt x=0:=by rw[aF,hv]at h0;simp[aQ]at h0;omega
  refine⟨hv,(u-2) / 2,by omega,fun st=>?_⟩;have h3:=h2 st;rw[dI]at h3;generalize gN st b=s at h3 ⊢
  match s,h3 with
  | [],h3=>simp[gN,eI,hx]at h3
  | a::r,h3 =>
   simp[gN,eI,hx]at h3;obtain⟨e1,rfl⟩:=h3;rw[<-e1]
   congr 1
   omega
 rw[if_neg h10]at hv ⊢;have h0:=h.1
 split at hv
 ·rw[aF,h0]at hv;simp[aQ,wt]at hv
 rw[aF,h0]at hv;simp[aQ,wt]at hv
theorem Ba(xs:List Int)(hv:bO (rS xs).2):UB 60000000000 (rS xs).2:=by
 have hw:=hv.2.2.1.1;unfold rS at hw ⊢
 split at hw
 ·rename_i h
  rw[if_pos h];exact Ce (by omega)
 rename_i h
 rw[if_neg h];simp only at hw ⊢
 split at hw
 ·rename_i h
  rw[if_pos h];exact(CW (rt _) hw).mono (by omega)
 rename_i h
 rw[if_neg h];exact(rt _).mono (by omega)
theorem AA(xs:List Int)(hv:bO (iF xs).2):UB 60000000000 (iF xs).2:=by
 unfold iF at hv ⊢
 split
 ·exact UB.mono (iW 9 false) (by omega)
 split
 ·exact UB.mono (iW 9 true) (by omega)
 split
 ·exact((iW _ _).alt ((UB.s _).rep _ _)).mono (by omega)
 split
 ·exact UB.mono (iW 3 false) (by omega)
 split
 ·exact UB.mono (iW 4 true) (by omega)
 split
 ·exact UB.mono (iW 5 false) (by omega)
 rename_i h0 h1 h2 h3 h4 h5
 rw[if_neg h0,if_neg h1,if_neg h2,if_neg h3,if_neg h4,if_neg h5]at hv;exact Ba _ hv
def Fa:List (List El)->List Nat->Prop
 | [],[]=>True
 | L::st,u::us=>(0<L.length/\L.length<=u)/\Fa st us
 | _,_=>False
theorem Fa.mem:∀ {st:List (List El)} {us:List Nat},Fa st us->∀ L∈st,0<L.length/\∃ u∈us,L.length<=u
 | [],[],_,_,hL=>by simp at hL
 | _::_,u::_,h,L,hL=>by
  rcases List.mem_cons.1 hL with rfl|hL
  ·exact⟨h.1.1,u,List.mem_cons_self ..,h.1.2⟩
  obtain⟨k1,v,k2,k3⟩:=Fa.mem h.2 L hL;exact⟨k1,v,List.mem_cons_of_mem _ k2,k3⟩
 | [],_::_,h,_,_=>h.elim
 | _::_,[],h,_,_=>h.elim
theorem Fa.push{st:List (List El)}{us:List Nat}{x:El}(h:Fa st us)(hk:x.kind=0∨x.kind=1∨x.kind=2∨x.kind=3∨x.kind=4)(ha:1<=(st.length:Int)+wt x):Fa (dF st x) (eI us x)/\((dF st x).length:Int)=st.length+wt x:=by
 have hb:(x.kind=0∨x.kind=1)∨(x.kind=2∨x.kind=3)∨x.kind=4:=by omega
 rcases hb with hb|hb|hb
 ·have e:wt x=1:=by unfold wt;rw[if_pos hb]
  unfold dF eI;rw[if_neg (by omega),if_neg (by omega),if_pos e];exact⟨⟨by simp,h⟩,by simp[e]⟩
 ·have e:wt x = -1:=by unfold wt;rw[if_neg (by omega),if_pos hb]
  unfold dF eI;rw[if_pos hb,if_neg (by omega),if_pos e]
  match st,us,h with
  | [],[],_=>simp[e]at ha
  | [_],[_],_=>simp[e]at ha
  | y::z::b,u::v::c,h =>
   obtain⟨⟨h1,h2⟩,⟨h3,h4⟩,h5⟩:=h;refine⟨⟨⟨by simp,?_⟩,h5⟩,by simp[e];omega⟩;simp only[List.length_append,List.length_singleton]
   split<;>simp only[List.length_append]<;>omega
  | [],_::_,h=>exact h.elim
  | _::_,[],h=>exact h.elim
  | [_],_::_::_,h=>exact h.2.elim
  | _::_::_,[_],h=>exact h.2.elim
 have e:wt x=0:=by unfold wt;rw[if_neg (by omega),if_neg (by omega)]
 unfold dF eI;rw[if_neg (by omega),if_pos hb,if_neg (by omega),if_neg (by omega)]
 match st,us,h with
 | [],[],_=>simp[e]at ha
 | y::b,u::c,h =>
  obtain⟨⟨h1,h2⟩,h5⟩:=h;refine⟨?_,by simp[e]⟩
  dsimp only
  split
  ·exact⟨⟨by simp;omega,by simp only[List.length_append,List.length_singleton];omega⟩,h5⟩
  split
  ·exact⟨⟨by simp,by simp only[List.length_append,List.length_singleton];omega⟩,h5⟩
  exact⟨⟨by simp,by simp only[List.length_append,List.length_singleton];omega⟩,h5⟩
 | [],_::_,h=>exact h.elim
 | _::_,[],h=>exact h.elim
theorem DI{X:List El}{N:Nat}(hv:bO X)(hu:UB N X):∀ k,k<=X.length->((cX [] (X.take k)).length:Int)=aQ (X.take k)/\(∀ L∈cX [] (X.take k),0<L.length/\L.length<=N)/\(k<X.length->1<=((cX [] (X.take k)).length:Int)+wt (X[k]?.getD dE)):=by
 have a:∀ k,k<X.length->1<=aQ (X.take k)+wt (X[k]?.getD dE):=fun k hk=>by
  have h1:=hv.2.2.1.2 (k+1) (by omega) (by omega);have h2:aQ (X.take (k+1))+aQ (X.drop (k+1))=1:=by rw[<-aF,List.take_append_drop];exact hv.2.2.1.1
  rw[List.take_add_one,aF,List.getElem?_eq_getElem hk]at h2;rw[List.getElem?_eq_getElem hk];simp[aQ]at h2 ⊢;omega
 have key:∀ k,k<=X.length->((cX [] (X.take k)).length:Int)=aQ (X.take k)/\Fa (cX [] (X.take k)) (gN [] (X.take k)):=by
  intro k
  induction k with
  | zero=>intro _;simp[cX,gN,aQ,Fa]
  | succ k ih =>
   intro hk;obtain⟨h1,h2⟩:=ih (by omega);have h3:=a k (by omega);rw[<-h1]at h3;obtain⟨h4,h5⟩:=h2.push (Gl (hv.2.1 k (by omega))) h3;have e:X.take (k+1)=X.take k++[X[k]?.getD dE]:=by rw[List.take_add_one,List.getElem?_eq_getElem (by omega)];rfl
   rw[e,da,dI,aF];exact⟨by show((dF _ _).length:Int)=_;rw[h5,h1];simp[aQ],h4⟩
 intro k hk;obtain⟨h1,h2⟩:=key k hk;refine⟨h1,fun L hL=>?_,fun hk=>by rw[h1];exact a k hk⟩;obtain⟨k1,u,k2,k3⟩:=h2.mem L hL;obtain⟨-,m,m1,m2⟩:=hu;obtain⟨b,b1,b2⟩:=uz (X.drop k) _ u k2;rw[<-dI,List.take_append_drop,m2]at b1;simp at b1;exact⟨k1,by omega⟩
theorem oP(u v:Value)(xs:List Int)(N:Nat)(w:World)(hu:aK mI 0 0 N w u xs)(hv:aK mI 0 0 N w v xs) :
  Calls prog 27 #[u,v] w fun e w'=>e=.returned (.bool true)/\∃ q,w'=w.drewN q:=by
 obtain⟨a,cap,rfl,hl,hc⟩:=hu;obtain⟨a2,cap2,rfl,g,f⟩:=hv;unfold maxLen at hl g
 go_enter func27,ntmps27
 go_wp2_with fail
 go_loopw [5] (fun i wr=>(∃ k:Nat,k<=xs.length/\i=.int .i64 k)/\∃ q,wr=w.drewN q) (fun i _=>xs.length-(intOf i).toNat)
 case atStart=>exact⟨⟨0,Nat.zero_le _,rfl⟩,0,rfl⟩
 obtain⟨⟨k,hk,rfl⟩,q,rfl⟩:=hrel
 by_cases h1:k<xs.length
 ·have h:(k:Int)<(xs.length:Int):=by omega
  obtain⟨b,off,rfl,-,-,d⟩:=hc (by omega);obtain⟨b2,off2,rfl,-,-,c⟩:=f (by omega);have hx:w.cell? ⟨b,off+k,none⟩=some (.int .i64 (xs[k]?.getD 0)):=d k h1;have hy:w.cell? ⟨b2,off2+k,none⟩=some (.int .i64 (xs[k]?.getD 0)):=c k h1;clear d c hc f;generalize xs[k]?.getD 0=x at *
  go_wp2_with fail
  go_quiet (fail);go_wp2
  go_roundw
  case rel=>exact⟨⟨k+1,by omega,by go_num⟩,_,rfl⟩
  simp[intOf];omega
 obtain rfl:k=xs.length:=by omega
 clear hc f;go_wp2;go_ret;exact⟨rfl,_,rfl⟩
theorem jX(c1 n1 a1 c2 n2 a2:Value)(X Y:List Int)(Z:List Bool)(K:Int)(w:World)(h1:aK mI 0 0 w.heap.size w c1 X)(h2:aK mI 0 0 w.heap.size w n1 Y)(h3:aK mT false 0 w.heap.size w a1 Z)(g1:aK mI 0 0 w.heap.size w c2 X)(g2:aK mI 0 0 w.heap.size w n2 Y)(g3:aK mT false 0 w.heap.size w a2 Z) :
  Calls prog 8 #[.agg #[c1,.int .i64 K,n1,a1],.agg #[c2,.int .i64 K,n2,a2]] w fun e w'=>e=.returned (.bool true)/\Below w.heap.size w w':=by
 obtain⟨p1,d1,rfl,-,-⟩:=id h1;obtain⟨p2,d2,rfl,-,-⟩:=id h2;obtain⟨p3,d3,rfl,l3,c3⟩:=id h3;obtain⟨q1,e1,rfl,-,-⟩:=id g1;obtain⟨q2,e2,rfl,-,-⟩:=id g2;obtain⟨q3,e3,rfl,-,c4⟩:=id g3;unfold maxLen at l3;obtain⟨W2,d⟩ : ∃ W2,W2=(w.alloc (.cells #[.slice p1 X.length d1,.int .i64 K,.slice p2 Y.length d2,.slice p3 Z.length d3] 30)).alloc (.cells #[.slice q1 X.length e1,.int .i64 K,.slice q2 Y.length e2,.slice q3 Z.length e3] 30):=⟨_,rfl⟩;have a:Below w.heap.size w W2:=by rw[d];exact aI w _ _
 have h:aC W2 w.heap.size 30 (.slice p1 X.length d1) (.int .i64 K) (.slice p2 Y.length d2) (.slice p3 Z.length d3):=by rw[d];exact(aC.new w _ _ _ _ _).alloc _
 have j:aC W2 (w.heap.size+1) 30 (.slice q1 X.length e1) (.int .i64 K) (.slice q2 Y.length e2) (.slice q3 Z.length e3):=by
  have:=aC.new (w.alloc (.cells #[.slice p1 X.length d1,.int .i64 K,.slice p2 Y.length d2,.slice p3 Z.length d3] 30)) 30 (.slice q1 X.length e1) (.int .i64 K) (.slice q2 Y.length e2) (.slice q3 Z.length e3);rw[ah]at this;rw[d];exact this
 obtain⟨x0,x1,x2,x3,-⟩:=h.facts;obtain⟨y0,y1,y2,y3,-⟩:=j.facts;have f:Hi (∀ k,k<Z.length->∃ b off,p3=some ⟨b,off,none⟩/\W2.cell? ⟨b,off+k,none⟩=some (.bool (Z[k]?.getD false))):=fun k hk=>by
  obtain⟨b,off,rfl,-,hb,c⟩:=c3 (by omega);exact⟨b,off,rfl,by rw[a.cell (p:=⟨b,off+k,none⟩) hb];exact c k hk⟩
 have g:Hi (∀ k,k<Z.length->∃ b off,q3=some ⟨b,off,none⟩/\W2.cell? ⟨b,off+k,none⟩=some (.bool (Z[k]?.getD false))):=fun k hk=>by
  obtain⟨b,off,rfl,-,hb,c⟩:=c4 (by omega);exact⟨b,off,rfl,by rw[a.cell (p:=⟨b,off+k,none⟩) hb];exact c k hk⟩
 have n:Hi (∀ q,aK mI 0 0 W2.heap.size (W2.drewN q) (.slice p1 X.length d1) X):=fun q=>h1.below a lR
 have o:Hi (∀ q,aK mI 0 0 W2.heap.size (W2.drewN q) (.slice p2 Y.length d2) Y):=fun q=>h2.below a lR
 have r:Hi (∀ q,aK mI 0 0 W2.heap.size (W2.drewN q) (.slice q1 X.length e1) X):=fun q=>g1.below a lR
 have s:Hi (∀ q,aK mI 0 0 W2.heap.size (W2.drewN q) (.slice q2 Y.length e2) Y):=fun q=>g2.below a lR
 have l:=ae d;have t:=ae a;clear d a h j h1 h2 h3 g1 g2 g3 c3 c4
 go_enter func8,ntmps8
 go_upto_region 1 with fail
 rw[<-l.u];clear l
 go_wp2_with fail
 go_loopw [5] (fun i wr=>(∃ k:Nat,k<=Z.length/\i=.int .i64 k)/\∃ q,wr=W2.drewN q) (fun i _=>Z.length-(intOf i).toNat)
 case atStart=>exact⟨⟨0,Nat.zero_le _,rfl⟩,0,rfl⟩
 obtain⟨⟨k,hk,rfl⟩,q,rfl⟩:=hrel
 by_cases hlt:k<Z.length
 ·have m:(k:Int)<(Z.length:Int):=by omega
  obtain⟨b,off,rfl,hx⟩:=f.u k hlt;obtain⟨b2,off2,rfl,hy⟩:=g.u k hlt;generalize Z[k]?.getD false=z at *;clear f g;cases z
  ·go_wp2_with fail
   go_quiet (fail);go_wp2
   go_roundw
   case rel=>exact⟨⟨k+1,by omega,by go_num⟩,_,rfl⟩
   simp[intOf];omega
  go_wp2_with fail
  go_quiet (fail);go_wp2
  go_roundw
  case rel=>exact⟨⟨k+1,by omega,by go_num⟩,_,rfl⟩
  simp[intOf];omega
 obtain rfl:k=Z.length:=by omega
 have m:¬ (Z.length:Int)<(Z.length:Int):=by omega
 clear f g
 go_wp2_with fail;refine(oP _ _ X _ _ (n.u q) (r.u q)).mono ?_;rintro e w1 ⟨rfl,q',rfl⟩;rw[Cm]
 go_wp2_with fail;refine(oP _ _ Y _ _ (o.u (q+q')) (s.u (q+q'))).mono ?_;rintro e w1 ⟨rfl,q'',rfl⟩;go_wp2;go_ret;exact⟨rfl,below_drewN t.u _⟩
structure gY (g base:Nat) (w:World) (v:Value) (ps:List Pc):Prop where
 own:w.ownsRow g 65 4 v ps.length (bD ps)
 set:∀ p∈ps,(az p.x.kind/\az p.x.mn/\az p.x.mx)/\aR 0 base w p.s p.x.set
theorem gY.nil(g base:Nat)(w:World):gY g base w (.slice none 0 0) []:=⟨World.ownsRow_nil _ _ _ _,by simp⟩
theorem gY.keep{g base m:Nat}{w w':World}{v:Value}{ps:List Pc}(h:gY g base w v ps)(hb:Below m w w')(hm:w.heap.size<=m)(hbm:base<=m):gY g base w' v ps:=
 ⟨aG h.own hb hm,fun p hp=>⟨(h.set p hp).1,(h.set p hp).2.same (dm.of_below hb hbm)⟩⟩
theorem gY.low{g g' base:Nat}{w:World}{v:Value}{ps:List Pc}(h:gY g base w v ps)(hg:g'<=g):gY g' base w v ps:=⟨aO h.own hg,h.set⟩
theorem gY.one{g base:Nat}{w:World}{v:Value}{ps:List Pc}(h:gY g base w v ps):∀ p∈ps,p.s.oneCell'=true:=fun p hp=>by
 obtain⟨a,c,e,-⟩:=(h.set p hp).2;rw[e];rfl
theorem gY.at{g base:Nat}{w:World}{v:Value}{ps:List Pc}(h:gY g base w v ps)(hb:base<=w.heap.size):aA 0 w.heap.size w v (ps.map Pc.x):=by
 rcases h.own.2 with ⟨rfl,hz⟩|⟨b,cap,cur,rfl,f,k,a,c,l,d⟩
 ·obtain rfl:ps=[]:=List.eq_nil_of_length_eq_zero hz;exact⟨none,0,rfl,⟨Nat.le_refl _,by unfold maxLen;omega⟩,fun hp=>absurd hp (by simp)⟩
 have hlt:=(h.own.lt b rfl).2;refine⟨_,cap,by simp,⟨by simpa using a,c⟩,fun _=>⟨b,0,rfl,Nat.zero_le _,hlt,fun i hi=>?_⟩⟩;rw[List.length_map]at hi;have hp:ps[i]?=some ps[i]:=List.getElem?_eq_getElem hi;have e:(ps.map Pc.x)[i]?.getD dE=ps[i].x:=by rw[List.getElem?_map,hp];rfl
 rw[e,Nat.zero_add];have hc:∀ j,j<4->w.cell? ⟨b,i*4+j,none⟩=(dG ps[i].x ps[i].s)[j]? :=fun j hj=>by
  rw[h.own.cellAt (i*4+j) (by omega)];exact jt ps i _ hp j hj
 obtain⟨⟨q1,q2,q3⟩,q4⟩:=h.set _ (List.getElem_mem hi);exact⟨q1,q2,q3,ps[i].s,hc 0 (by omega),hc 1 (by omega),hc 2 (by omega),hc 3 (by omega),q4.mono lR hb⟩
theorem fY{w:World}{ops:Array Oper}{rest:List Oper}{o:Oper}{a:Act}{Q:Exit->Act->World->Prop}(hgd:o.guard=none)(s x:Operand)
  (ho:o.op=.call { callee:=.builtin .append,args:=#[s,x],argTypes:=#[23,23] })(g g' base:Nat)(v u:Value)(hs:a.eval s=v)(hx:a.eval x=u)(ps qs:List Pc)
  (hv:gY g base w v ps)(hu:gY g' base w u qs)(hg:g<=w.heap.size)(hb:base<=g)(hl:ps.length+qs.length<=1000000000000)
  (K:∀ v' w',gY g base w' v' (ps++qs)->Below g w w'->wpList prog ops Q rest (a.put o.dst v') w'):wpList prog ops Q (o::rest) a w:=by
 obtain⟨j0,hj,d,e,f⟩:=info_parts Tryz.zinOp;rcases hu.own.2 with ⟨rfl,hz⟩|⟨b,cap,cur,rfl,i,l,m,n,q,h⟩
 ·obtain rfl:qs=[]:=List.eq_nil_of_length_eq_zero hz;refine bw hgd s x 23 ho g 65 j0 4 underlying23 hj v ps.length (bD ps) hs hv.own 0 hx (K v w ?_ (Below.refl _ _));rw[List.append_nil];exact hv
 refine wpList_append_own_at w hgd s x 23 ho g 65 j0 (.agg #[.int .i64 0,.slice none 0 0,.int .i64 0,.int .i64 0]) 4 48 underlying23 hj d e f rfl (by decide) v ps.length (bD ps) hs hv.own ⟨b,0,none⟩ qs.length cap (bD qs) hx (gM qs) ?_ (mK qs hu.one) ?_ ?_ hg ?_
 ·intro j y c;have e3:(⟨b,0,none⟩ : Addr).add j=⟨b,j,none⟩:=by cases j<;>simp[Addr.add]
  rw[e3,hu.own.cellAt j (by have:=(List.getElem?_eq_some_iff.1 c).1;rw[gM]at this;exact this)];exact c
 ·unfold maxLen;omega
 ·omega
 intro v' w' q1 q2 _ q3;have hB:Below g w w':=(Below.refl _ _).grown q2 hg (fun k hk=>(hv.own.lt k hk).1);refine K v' w' ⟨by rw[List.length_append,gi];exact q1,fun p hp=>?_⟩ hB;rcases List.mem_append.1 hp with hp|hp
 ·exact⟨(hv.set p hp).1,(hv.set p hp).2.same (dm.of_below hB hb)⟩
 exact⟨(hu.set p hp).1,(hu.set p hp).2.same (dm.of_below hB hb)⟩
theorem fQ{w:World}{ops:Array Oper}{rest:List Oper}{o:Oper}{a:Act}{Q:Exit->Act->World->Prop}(hgd:o.guard=none)(s y:Operand)
  (ho:o.op=.call { callee:=.builtin .append,args:=#[s,y],argTypes:=#[23,23] })(g base:Nat)(v:Value)(hs:a.eval s=v)(hy:a.eval y=.slice (some ⟨w.heap.size,0,none⟩) 1 1)(ps:List Pc)(k mn mx:Int)(xs:List Int)(sv:Value)
  (hv:gY g base w v ps)(hx:(az k/\az mn/\az mx)/\aR 0 base w sv xs)(hg:g<=w.heap.size)(hb:base<=g)(hl:ps.length<=900000000000)
  (K:∀ v' w',gY g base w' v' (ps++[⟨⟨k,xs,mn,mx⟩,sv,fun _=>False⟩])->Below g w w'->wpList prog ops Q rest (a.put o.dst v') w'):wpList prog ops Q (o::rest) a (w.alloc (.cells #[.int .i64 k,sv,.int .i64 mn,.int .i64 mx] 65)):=by
 obtain⟨j0,hj,b,d,f⟩:=info_parts Tryz.zinOp;have h:sv.oneCell'=true:=by
  obtain⟨a,c,e,-⟩:=hx.2;rw[e];rfl
 have hP:aH w (w.alloc (.cells #[.int .i64 k,sv,.int .i64 mn,.int .i64 mx] 65)) (.cells #[.int .i64 k,sv,.int .i64 mn,.int .i64 mx] 65):=⟨rfl,rfl,rfl,rfl⟩;refine wpList_append_own_at _ hgd s y 23 ho g 65 j0 (.agg #[.int .i64 0,.slice none 0 0,.int .i64 0,.int .i64 0]) 4 48 underlying23 hj b d f rfl (by decide) v ps.length (bD ps) hs (hP.own hv.own) ⟨w.heap.size,0,none⟩ 1 1 (dG ⟨k,xs,mn,mx⟩ sv) hy rfl ?_ ?_ ?_ ?_ ?_ ?_
 ·exact aH.news hP
 ·intro u hu;simp only[dG,List.mem_cons,List.not_mem_nil,or_false]at hu;rcases hu with rfl|rfl|rfl|rfl
  ·rfl
  ·exact h
  ·rfl
  rfl
 ·unfold maxLen;omega
 ·omega
 ·rw[ah];omega
 intro v' w' q1 q2 _ q3;have hB:Below g w w':=(hP.below.mono hg).grown q2 (by rw[ah];omega) (fun k hk=>(hv.own.lt k hk).1);refine K v' w' ⟨by rw[List.length_append,gi];simpa[bD]using q1,fun p hp=>?_⟩ hB;rcases List.mem_append.1 hp with hp|hp
 ·exact⟨(hv.set p hp).1,(hv.set p hp).2.same (dm.of_below hB hb)⟩
 obtain rfl:=List.mem_singleton.1 hp;exact⟨hx.1,hx.2.same (dm.of_below hB hb)⟩
theorem iR(base:Nat)(w:World):aR 0 base w (.slice none 0 0) []:=⟨none,0,rfl,Nat.zero_le _,fun i=>by simp[az],fun h=>absurd h (by simp)⟩
structure qT (base:Nat) (w:World) (v:Value) (S:List (Value×List Pc)):Prop where
 own:w.ownsRow base 23 1 v S.length (S.map Prod.fst)
 els:∀ e∈S,gY base base w e.1 e.2/\∀ q,e.1.ownBlock=some q->v.ownBlock≠some q
theorem qT.nil(base:Nat)(w:World):qT base w (.slice none 0 0) []:=⟨World.ownsRow_nil _ _ _ _,by simp⟩
theorem qT.keep{base m:Nat}{w w':World}{v:Value}{S:List (Value×List Pc)}(h:qT base w v S)(hb:Below m w w')(hm:w.heap.size<=m)(hbm:base<=m):qT base w' v S:=
 ⟨aG h.own hb hm,fun e he=>⟨(h.els e he).1.keep hb hm hbm,(h.els e he).2⟩⟩
theorem qT.pre{base n c:Nat}{w:World}{a:Option Addr}{S S':List (Value×List Pc)}(h:qT base w (.slice a n c) (S++S')):qT base w (.slice a S.length c) S:=by
 obtain⟨⟨h1,h2⟩,h3⟩:=h;have e3:∀ e∈S,gY base base w e.1 e.2/\∀ q,e.1.ownBlock=some q->(Value.slice a S.length c).ownBlock≠some q:=fun e he=>by
  obtain⟨k1,k2⟩:=h3 e (List.mem_append_left _ he);refine⟨k1,fun q hq=>?_⟩;have:=k2 q hq;cases a<;>exact this
 rcases h2 with ⟨e,hz⟩|⟨g,cap,cur,e,b,hg,d,f,i,ht⟩
 ·have hS:S=[]:=by
   rw[List.length_append]at hz;exact List.eq_nil_of_length_eq_zero (by omega)
  subst hS;cases e;exact⟨World.ownsRow_nil _ _ _ _,by simp⟩
 cases e;refine⟨⟨by simp,.inr ⟨g,c,cur,rfl,b,hg,?_,f,i,?_⟩⟩,e3⟩
 ·rw[List.length_append]at d;omega
 have:=congrArg (List.take S.length) ht;rw[List.take_take,List.map_append,List.length_append]at this;rw[Nat.mul_one];rw[show min S.length ((S.length+S'.length)*1)=S.length by omega]at this;rw[this,List.take_append_of_le_length (by simp),List.take_of_length_le (by simp)]
theorem iY{w:World}{ops:Array Oper}{rest:List Oper}{o:Oper}{a:Act}{Q:Exit->Act->World->Prop}(hgd:o.guard=none)(s y:Operand)
  (ho:o.op=.call { callee:=.builtin .append,args:=#[s,y],argTypes:=#[63,63] })(base:Nat)(v:Value)(hs:a.eval s=v)(hy:a.eval y=.slice (some ⟨w.heap.size,0,none⟩) 1 1)(S:List (Value×List Pc))(u:Value)(L:List Pc)
  (hv:qT base w v S)(hu:gY base base w u L)(hne:∀ q,u.ownBlock=some q->v.ownBlock≠some q)(hb:base<=w.heap.size)(hl:S.length<=1000000)
  (K:∀ v' w',qT base w' v' (S++[(u,L)])->Below base w w'->wpList prog ops Q rest (a.put o.dst v') w'):wpList prog ops Q (o::rest) a (w.alloc (.cells #[u] 23)):=by
 obtain⟨j0,hj,b,c,d⟩:=info_parts Tryz.zinOpS;have hP:aH w (w.alloc (.cells #[u] 23)) (.cells #[u] 23):=⟨rfl,rfl,rfl,rfl⟩;have f:u.oneCell'=true:=by
  obtain⟨oa,oc,rfl⟩:=aj hu.own
  rfl
 refine wpList_append_own_at _ hgd s y 63 ho base 23 j0 (.slice none 0 0) 1 24 underlying63 hj b c d rfl (by decide) v S.length (S.map Prod.fst) hs (hP.own hv.own) ⟨w.heap.size,0,none⟩ 1 1 [u] hy rfl ?_ ?_ ?_ ?_ ?_ ?_
 ·exact aH.news hP
 ·intro z hz;obtain rfl:=List.mem_singleton.1 hz;exact f
 ·unfold maxLen;omega
 ·omega
 ·rw[ah];omega
 intro v' w' q1 q2 _ q3;have hZ:=hP.size;have hB:Below base w w':=(hP.below.mono hb).grown q2 (by omega) (fun k hk=>(hv.own.lt k hk).1);have key:∀ (z:Value) (M:List Pc),gY base base w z M->(∀ q,z.ownBlock=some q->v.ownBlock≠some q)->gY base base w' z M/\∀ q,z.ownBlock=some q->v'.ownBlock≠some q:=fun z M hz hn=>by
  refine⟨⟨(hP.own hz.own).kept q2 ?_,fun p hp=>⟨(hz.set p hp).1,(hz.set p hp).2.same (dm.of_below hB lR)⟩⟩,fun q hq e=>?_⟩
  ·cases hk:z.ownBlock with
   | none=>exact .inl rfl
   | some k=>exact .inr (fun e=>hn k hk e.symm)
  rcases q3 with ho|ho
  ·exact hn q hq (by rw[<-ho,e])
  rw[ho]at e;have h2:=(hz.own.lt q hq).2;simp at e;omega
 refine K v' w' ⟨by rw[List.length_append,List.map_append];exact q1,fun e he=>?_⟩ hB;rcases List.mem_append.1 he with he|he
 ·exact key e.1 e.2 (hv.els e he).1 (hv.els e he).2
 obtain rfl:=List.mem_singleton.1 he;exact key u L hu hne
end Go.Proofs.YtidfkbghlkcbeaaGreatDoor
