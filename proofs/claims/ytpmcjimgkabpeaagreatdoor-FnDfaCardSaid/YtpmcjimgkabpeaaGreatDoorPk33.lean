import Derived.Test.YtpmcjimgkabpeaaGreatDoorY6
import Derived.Test.YtpmcjimgkabpeaaGreatDoorY7
import Derived.Test.YtpmcjimgkabpeaaGreatDoorPk31
import Derived.Test.YtpmcjimgkabpeaaGreatDoorPk28
namespace Go.Proofs.YtpmcjimgkabpeaaGreatDoor
open Go.RowKit Go.Proofs.Tryz
set_option maxHeartbeats 16000000
set_option maxRecDepth 100000
structure dN (Q:Value->List El->Prop):Prop where
 e:Q eV [⟨0,[],0,0⟩]
 s:∀ {xs:List Int} {g:Nat->Nat},cU xs->du xs g->Q (sV g) [⟨1,xs,0,0⟩]
 cat:∀ {u v:Value} {L R:List El},Q u L->Q v R->Q (cV u v) (L++R++[⟨2,[],0,0⟩])
 alt:∀ {u v:Value} {L R:List El},Q u L->Q v R->Q (aV u v) (L++R++[⟨3,[],0,0⟩])
 rep:∀ {u:Value} {L:List El} {mn mx:Int},Q u L->0<=mn->mn<=250->(mx = -1∨(mn<=mx/\mx<=250))->Q (rV u mn mx) (L++[⟨4,[],mn,mx⟩])
def sP(Q:Value->List El->Prop):List Value->List (List El)->Prop
 | [],[]=>True
 | u::us,L::Ls=>Q u L/\sP Q us Ls
 | _,_=>False
theorem sP.app{Q:Value->List El->Prop}:∀ {a b:List Value} {A B:List (List El)},sP Q a A->sP Q b B->sP Q (a++b) (A++B)
 | [],_,[],_,_,k=>k
 | _::_,_,_::_,_,h,k=>⟨h.1,sP.app h.2 k⟩
 | [],_,_::_,_,h,_=>h.elim
 | _::_,_,[],_,h,_=>h.elim
theorem sP.rep{Q:Value->List El->Prop}{u:Value}{L:List El}(h:Q u L):∀ n:Nat,sP Q (List.replicate n u) (List.replicate n L)
 | 0=>trivial
 | n+1=>⟨h,sP.rep h n⟩
theorem uD{Q:Value->List El->Prop}(hQ:dN Q):∀ {vs:List Value} {Ls:List (List El)},sP Q vs Ls->∀ {p:Value} {P:List El},Q p P->Q (vs.foldl cV p) (Ls.foldl (fun acc q=>acc++q++[lu]) P)
 | [],[],_,_,_,h=>h
 | _::_,_::_,k,_,_,h=>uD hQ k.2 (hQ.cat h k.1)
 | [],_::_,k,_,_,_=>k.elim
 | _::_,[],k,_,_,_=>k.elim
theorem lL{Q:Value->List El->Prop}(hQ:dN Q){vs:List Value}{Ls:List (List El)}(h:sP Q vs Ls)(hn:vs≠[]):Q (jV vs) (jn Ls):=by
 match vs,Ls,h with
 | p::r,P::R,h=>exact uD hQ h.2 h.1
 | [],[],_=>exact absurd rfl hn
theorem jI{Q:Value->List El->Prop}(hQ:dN Q){U:Value}{L:List El}(h:Q U L)(mn mx:Int)(o2:0<=mn):sP Q (cB U mn mx) (bH L mn mx):=by
 unfold cB bH
 by_cases e:mx = -1
 ·rw[if_pos e,if_pos e];exact(sP.rep h _).app ⟨hQ.rep h (by split<;>omega) (by split<;>omega) (Or.inl rfl),trivial⟩
 rw[if_neg e,if_neg e];exact(sP.rep h _).app (sP.rep (hQ.alt h hQ.e) _)
def GR(Q:Value->List El->Prop)(u:Value)(t:List El×Int):Prop:=
 ft u t.2/\aM t.1 t.2/\(t.2<=500->1<=t.2/\∃ U L,dd u U/\Q U L/\(L.length:Int)<=2*t.2-1/\cG t.1 L)
theorem Cq{Q:Value->List El->Prop}(hQ:dN Q):iN (GR Q):=by
 refine⟨fun h=>h.1,?_,?_,?_,?_,?_⟩
 ·exact⟨ft.e,aM.leaf (Or.inl rfl),fun _=>⟨by omega,eV,_,dd.e,hQ.e,by simp,cG.leaf (Or.inl rfl)⟩⟩
 ·intro xs g hc hw;exact⟨ft.s _ _ _ _,aM.leaf (Or.inr rfl),fun _=>⟨by omega,sV g,_,dd.s g,hQ.s hc hw,by simp,cG.leaf (Or.inr rfl)⟩⟩
 ·rintro u v l r ⟨a,c,d⟩ ⟨b,f,i⟩;refine⟨ft.cat a b,aM.bin c f (Or.inl rfl),fun hle=>?_⟩;obtain⟨e1,e2⟩:=fu hle;have b1:=a.2;have b2:=b.2;obtain⟨p1,U,L,a1,a2,a5,a6⟩:=d (by omega);obtain⟨p2,V,R,c1,c2,c5,c6⟩:=i (by omega);simp only at hle e1 ⊢;exact⟨by omega,cV U V,_,dd.cat a.iface b.iface a1 c1,hQ.cat a2 c2,by rw[List.length_append,List.length_append];simp;omega,cG.bin a6 c6 (Or.inl rfl)⟩
 ·rintro u v l r ⟨a,c,d⟩ ⟨b,f,i⟩;refine⟨ft.alt a b,aM.bin c f (Or.inr rfl),fun hle=>?_⟩;obtain⟨e1,e2⟩:=fu hle;have b1:=a.2;have b2:=b.2;obtain⟨p1,U,L,a1,a2,a5,a6⟩:=d (by omega);obtain⟨p2,V,R,c1,c2,c5,c6⟩:=i (by omega);simp only at hle e1 ⊢;exact⟨by omega,aV U V,_,dd.alt a.iface b.iface a1 c1,hQ.alt a2 c2,by rw[List.length_append,List.length_append];simp;omega,cG.bin a6 c6 (Or.inr rfl)⟩
 rintro u o mn mx ⟨a,c,d⟩ o2 o3 o4;refine⟨ft.rep a o2 o3 o4,aM.rep c rfl o2 (o4.imp id (fun q=>q)),fun hle=>?_⟩;obtain⟨e1,e2⟩:=fu hle;have b1:=a.2;have j:=Av o.2 mn mx b1.1 o2 o4;obtain⟨p1,U,L,a1,a2,a5,a6⟩:=d (by omega);obtain⟨T,x,rfl⟩:=a.iface;obtain⟨T',x',rfl⟩:=a1.1;simp only at hle e1 ⊢;rw[e1];have a7:cG (o.1++[⟨4,[],mn,mx⟩]) (mV L mn mx):=cG.rep a6 rfl;unfold mV at a7;rcases o4 with rfl|⟨o4,o5⟩
 ·exact⟨by omega,jV (cB (.iface T' x') mn (-1)),jn (bH L mn (-1)),dd.rep0 ⟨_,_,rfl⟩ (jT (dz _ _ _ (Or.inl rfl)) (fX ⟨_,_,rfl⟩ _ _)) (fun w=>ib T x T' x' mn w a1 o2 o3),lL hQ (jI hQ a2 mn (-1) o2) (dz _ _ _ (Or.inl rfl)),iF L o.2 mn (-1) a5 o2 (Or.inl rfl),by rwa [if_neg (by omega)]at a7⟩
 by_cases h0:mx=0
 ·subst h0;exact⟨by omega,eV,[⟨0,[],0,0⟩],dd.rep0 ⟨_,_,rfl⟩ ⟨_,_,rfl⟩ (fun w=>gZ T x mn w),hQ.e,by simp;omega,by rwa [if_pos rfl]at a7⟩
 obtain⟨m,rfl⟩:=Int.eq_ofNat_of_zero_le o2;obtain⟨M,rfl⟩:=Int.eq_ofNat_of_zero_le (show 0<=mx by omega);have hs:(Int.ofNat M = -1)∨(0<(M:Int)/\(m:Int)<=(M:Int)/\0<=(m:Int)):=Or.inr ⟨by omega,by omega,by omega⟩;refine⟨by omega,jV (cB (.iface T' x') m M),jn (bH L m M),dd.rep0 ⟨_,_,rfl⟩ (jT (dz _ _ _ hs) (fX ⟨_,_,rfl⟩ _ _)) (fun w=>?_),lL hQ (jI hQ a2 m M o2) (dz _ _ _ hs),iF L o.2 m M a5 o2 (Or.inr ⟨by omega,by omega⟩),by rwa [if_neg (by omega)]at a7⟩
 by_cases he:m=M
 ·exact gv T x T' x' m M w a1 he (by omega) (by omega)
 exact gu T x T' x' m M w a1 (by omega) (by omega) (by omega)
theorem vh{Q:Value->List El->Prop}(hQ:dN Q){xs:List El}(h:bw xs):∃ L,L.length<=1000/\cG xs L/\(∃ U,Q U L)/\∀ u c,GR Q u (xs,c)->c<=500->∃ U,dd u U/\Q U L:=by
 obtain⟨u,c',hu⟩:=jJ (Cq hQ) h;obtain⟨h1,ok,sh,c,a,b⟩:=h;have hr:=hu.2.1.run [];simp only at hr;rw[a]at hr;simp only[List.cons.injEq,and_true]at hr;obtain⟨-,-,h5⟩:=hu;obtain⟨-,U,L,a1,a2,a5,a6⟩:=h5 (by simp only;omega);simp only at a5;refine⟨L,by omega,a6,⟨U,a2⟩,fun u' c' hu' hc'=>?_⟩;obtain⟨-,U',L',b1,b2,-,b6⟩:=hu'.2.2 hc';rw[cG.one a6 b6];exact⟨U',b1,b2⟩
def gY:List El:=[⟨1,[0,255],0,0⟩]++[⟨4,[],0,-1⟩]
def fS(l r:Bool)(L:List El):List El:=
 let M:=if l then L else gY++L++[⟨2,[],0,0⟩]
 if r then M else M++gY++[⟨2,[],0,0⟩]
theorem lG(l r:Bool)(L:List El):(fS l r L).length<=L.length+6:=by
 unfold fS gY;cases l<;>cases r<;>simp<;>omega
theorem dN.all{Q:Value->List El->Prop}(hQ:dN Q){g:Nat->Nat}(hw:du [0,255] g):Q (rV (sV g) 0 (-1)) gY:=hQ.rep (hQ.s ef hw) (by decide) (by decide) (Or.inl rfl)
def CB(Q:Value->List El->Prop)(l r:Bool)(xs:List El)(e:Ending):Prop:=
 (∃ U L,e=.returned (.tuple #[U,.bool true])/\(∃ T x,U=.iface T x)/\bw xs/\cG xs L/\L.length<=1000/\Q U (fS l r L))∨(e=.returned (.tuple #[.nilIface,.bool false])/\¬ bw xs)
theorem iW{Q:Value->List El->Prop}(hQ:dN Q)(l r:Bool)(v:Value)(xs:List El)(w:World)(hv:az 0 w.heap.size w v xs) :
  Calls prog 18 #[.agg #[.bool l,.bool r,v]] w fun e w'=>CB Q l r xs e/\Below w.heap.size w w':=by
 obtain⟨a,cp,rfl,-,-⟩:=id hv;have Hv:=ae hv;have h:=ai w (.cells #[.bool l,.bool r,.slice a xs.length cp] 25);have HC:Hi (∀ W,Below (w.heap.size+1) (w.alloc (.cells #[.bool l,.bool r,.slice a xs.length cp] 25)) W->W.cell? ⟨w.heap.size,0,none⟩=some (.bool l)/\W.cell? ⟨w.heap.size,1,none⟩=some (.bool r)):=fun W hW =>
  ⟨(hW.cell (p:=⟨w.heap.size,0,none⟩) (Nat.lt_succ_self _)).trans ((au w _).news 0 _ rfl),(hW.cell (p:=⟨w.heap.size,1,none⟩) (Nat.lt_succ_self _)).trans ((au w _).news 1 _ rfl)⟩
 clear hv
 go_enter func18,ntmps18
 go_wp2_with fail;have G:(w.alloc (.cells #[.bool l,.bool r,.slice a xs.length cp] 25)).heap.size=w.heap.size+1:=ah _ _;generalize w.alloc (.cells #[.bool l,.bool r,.slice a xs.length cp] 25)=W0 at *;have A:w.heap.size+1<=W0.heap.size:=by omega
 clear G;refine(se (Cq hQ) _ xs _ (Hv.u.below h lR)).mono ?_;rintro e w1 ⟨⟨u,c,rfl,hok,t,H,-⟩|⟨rfl,q⟩,i⟩
 ·obtain⟨L,hl,B,-,hU⟩:=vh hQ hok;obtain⟨U,hE,C⟩:=hU u c t H;obtain⟨T0,x0,rfl⟩:=t.1.iface;obtain⟨⟨T,x,rfl⟩,hE⟩:=hE;have HE:=ae hE;have k:=ae C;have I:=ae hok;have J:=ae B;have HL:=ae hl;have y:=ae (i.mono A);have j:=ae (h.trans (i.mono (by omega)));clear hE C hok B hl i hU t h
  go_wp2_with fail;refine(HE.u _).mono ?_;rintro e w2 ⟨rfl,m⟩;have K:=j.u.size;have N:=m.size;have O:=y.u.size;have D:=ae (y.u.trans (m.mono (by omega)));have s:=ae (j.u.trans (m.mono K));clear m HE y j
  go_wp2_with fail;refine(tQ _).mono ?_;rintro e w3 ⟨⟨g,rfl,hg⟩,o⟩;have P:=o.size;have M:=ae (D.u.trans (o.mono (by omega)));have E:=ae (s.u.trans (o.mono (by omega)));have b:=ae (hQ.all hg);have z:=ai w3 (.cells #[.iface 91 (.agg #[.int .u64 (g 0:Nat),.int .u64 (g 1:Nat),.int .u64 (g 2:Nat),.int .u64 (g 3:Nat)]),.int .i64 0,.int .i64 (-1)] 93);obtain⟨k0,k1⟩:=HC.u _ (M.u.trans (z.mono (by omega)));have d:=ae (E.u.trans (z.mono (by omega)));clear o hg z D s HC;unfold fZ;have f:Hi (∀ U',Q U' (fS l r L)->(∃ T x,U'=.iface T x)->∀ w',Below w.heap.size w w'->CB Q l r xs (.returned (.tuple #[U',.bool true]))/\Below w.heap.size w w'):=fun U' h1 h2 w' h3=>⟨Or.inl ⟨U',L,rfl,h2,I.u,J.u,HL.u,h1⟩,h3⟩
  cases l<;>cases r
  ·go_wp2
   go_ret2;exact f.u _ (hQ.cat (hQ.cat b.u k.u) b.u) ⟨_,_,rfl⟩ _ d.u
  ·go_wp2
   go_ret2;exact f.u _ (hQ.cat b.u k.u) ⟨_,_,rfl⟩ _ d.u
  ·go_wp2
   go_ret2;exact f.u _ (hQ.cat k.u b.u) ⟨_,_,rfl⟩ _ d.u
  go_wp2
  go_ret2;exact f.u _ k.u ⟨_,_,rfl⟩ _ d.u
 have HB:=ae (h.trans (i.mono (by omega)));have F:=ae q;clear q i h;go_wp2
 go_ret2;exact⟨Or.inr ⟨rfl,F.u⟩,HB.u⟩
section
variable {n:Nat} {hs:List Int->Nat->Prop}
def Gt(n:Nat)(hs:List Int->Nat->Prop)(_:Value)(L:List El):Prop:=aN L->∃ R a ln ss,bp n hs L R/\cu L (aO L) a ln ss/\xf n (cL hs ss) R a ln/\ig a (aO L)
theorem cu.len{L:List El}{a:It}{ln:List Lk}{ss:List (List Int)}(h:cu L (aO L) a ln ss):ss.length=aO L:=by rw[h.sets,dv]
theorem tC:dN (Gt n hs):=by
 refine⟨?_,?_,?_,?_,?_⟩
 ·exact fun _=>⟨_,_,_,_,bp.e,cu.e,Ey,by constructor<;>simp⟩
 ·intro xs g hc hw _;exact⟨_,_,_,_,bp.s xs,cu.s xs,Fg xs,by constructor<;>simp[aO]⟩
 ·intro u v L R hu hv hS;obtain⟨A,a,la,sa,u1,u2,u3,u4⟩:=hu hS.left.left;obtain⟨B,b,lb,sb,v1,v2,v3,v4⟩:=hv hS.left.right;have e:=iG L R 2 (by decide);have h5:ig (bV a (b.sh (aO L))) (aO L+aO R):=(u4.mono (Nat.le_add_right _ _)).cat (v4.sh (aO L));have h2:=u2.cat v2;rw[<-e]at h2 h5;exact⟨_,_,_,_,u1.cat v1,h2,Br u3 v3 u4 u2.lkb u2.len,h5⟩
 ·intro u v L R hu hv hS;obtain⟨A,a,la,sa,u1,u2,u3,u4⟩:=hu hS.left.left;obtain⟨B,b,lb,sb,v1,v2,v3,v4⟩:=hv hS.left.right;have e:=iG L R 3 (by decide);have h5:ig (cP a (b.sh (aO L))) (aO L+aO R):=(u4.mono (Nat.le_add_right _ _)).alt (v4.sh (aO L));have h2:=u2.alt v2;rw[<-e]at h2 h5;exact⟨_,_,_,_,u1.alt v1,h2,BX u3 v3 u4 u2.lkb u2.len,h5⟩
 intro u L mn mx hu o2 o3 o4 hS;obtain⟨A,a,la,sa,u1,u2,u3,u4⟩:=hu hS.left;have e:aO (L++[⟨4,[],mn,mx⟩])=aO L:=by rw[eo];simp[aO]
 obtain⟨e1,e2,e3⟩:=hS.right ⟨4,[],mn,mx⟩ (List.mem_singleton.2 rfl) rfl;simp only at e1 e2 e3;subst e1;have h2:=u2.rep mn (-1);have h5:ig (dL a mn) (aO L):=u4;rw[<-e]at h2 h5;exact⟨_,_,_,_,u1.rep mn (-1),h2,Bm u3 u1.2 mn e2 e3,h5⟩
theorem dN.and{P Q:Value->List El->Prop}(hp:dN P)(hq:dN Q):dN (fun u L=>P u L/\Q u L):=
 ⟨⟨hp.e,hq.e⟩,fun hc hw=>⟨hp.s hc hw,hq.s hc hw⟩,fun a b=>⟨hp.cat a.1 b.1,hq.cat a.2 b.2⟩,fun a b=>⟨hp.alt a.1 b.1,hq.alt a.2 b.2⟩,fun a o2 o3 o4=>⟨hp.rep a.1 o2 o3 o4,hq.rep a.2 o2 o3 o4⟩⟩
theorem Bi(hall:∀ i,i<n->hs [0,255] i):bp n hs gY (fun i j=>i<=j/\j<=n):=by
 have h:=(bp.s (n:=n) (hs:=hs) [0,255]).rep 0 (-1);have e:jt n (wW n (hs [0,255])) 0 (-1)=fun i j=>i<=j/\j<=n:=jb fun i j=>by
  constructor
  ·intro h2;exact h.2 i j h2
  rintro⟨h1,h2⟩;obtain⟨d,rfl⟩ : ∃ d,j=i+d:=⟨j-i,by omega⟩;refine⟨d,by omega,Or.inl rfl,?_⟩;clear h1
  induction d with
  | zero=>exact⟨rfl,h2⟩
  | succ d ih=>exact⟨i+d,ih (by omega),rfl,by omega,hall _ (by omega)⟩
 rw[e]at h;exact h
theorem gF:aN gY:=(aN.op (by decide) 0 0).app (aN.rep 0 (by decide) (by decide))
theorem aN.wh{L:List El}(h:aN L)(l r:Bool):aN (fS l r L):=by
 have hc:aN [⟨2,[],0,0⟩]:=aN.op (by decide) 0 0;unfold fS;cases l<;>cases r
 ·exact(((gF.app h).app hc).app gF).app hc
 ·exact(gF.app h).app hc
 ·exact(h.app gF).app hc
 exact h
theorem wi{L:List El}{R:Rl}(h:bp n hs L R)(hall:∀ i,i<n->hs [0,255] i)(l r:Bool):∃ W,bp n hs (fS l r L) W/\(W 0 n↔∃ i j,(i=0∨l=false)/\R i j/\(j=n∨r=false)):=by
 have ha:=Bi (n:=n) (hs:=hs) hall;unfold fS;cases l<;>cases r
 ·refine⟨_,(ha.cat h).cat ha,?_⟩
  constructor
  ·rintro⟨j,⟨i,-,h1⟩,-⟩;exact⟨i,j,Or.inr rfl,h1,Or.inr rfl⟩
  rintro⟨i,j,-,h1,-⟩;have:=h.2 _ _ h1;exact⟨j,⟨i,⟨by omega,by omega⟩,h1⟩,by omega,by omega⟩
 ·refine⟨_,ha.cat h,?_⟩
  constructor
  ·rintro⟨i,-,h1⟩;exact⟨i,n,Or.inr rfl,h1,Or.inl rfl⟩
  rintro⟨i,j,-,h1,h2⟩;have:=h.2 _ _ h1;obtain rfl:j=n:=h2.resolve_right (by decide);exact⟨i,⟨by omega,by omega⟩,h1⟩
 ·refine⟨_,h.cat ha,?_⟩
  constructor
  ·rintro⟨j,h1,-⟩;exact⟨0,j,Or.inl rfl,h1,Or.inr rfl⟩
  rintro⟨i,j,h2,h1,-⟩;have:=h.2 _ _ h1;obtain rfl:i=0:=h2.resolve_right (by decide);exact⟨j,h1,by omega,by omega⟩
 refine⟨_,h,?_⟩
 constructor
 ·intro h1;exact⟨0,n,Or.inl rfl,h1,Or.inl rfl⟩
 rintro⟨i,j,h2,h1,h3⟩;obtain rfl:i=0:=h2.resolve_right (by decide);obtain rfl:j=n:=h3.resolve_right (by decide);exact h1
end
theorem jy{xs:List Int}{g:Nat->Nat}(h:du xs g)(b:Nat):Bt g b=true↔dP xs (b:Int):=by
 rw[h.2 b,ur];unfold dP
 constructor
 ·rintro⟨i,h1,h2⟩;exact⟨i,by omega,h2⟩
 rintro⟨i,h1,h2⟩;exact⟨i,by omega,h2⟩
def GQ(Q:Value->List El->Prop)(u:Value)(t:List El×Int):Prop:=
 ft u t.2/\aM t.1 t.2/\(t.2<=500->1<=t.2/\∃ U L,dd u U/\Q U L/\wS t.1 L/\aY L/\(L.length:Int)<=2*t.2-1/\cG t.1 L)
theorem Ev{Q:Value->List El->Prop}(hQ:dN Q):iN (GQ Q):=by
 refine⟨fun h=>h.1,?_,?_,?_,?_,?_⟩
 ·exact⟨ft.e,aM.leaf (Or.inl rfl),fun _=>⟨by omega,eV,_,dd.e,hQ.e,sA _ (Or.inl rfl) (by simp),aY.op _ _ _ (by simp[aA]) (by simp[aA]) (by simp[aA]),by simp,cG.leaf (Or.inl rfl)⟩⟩
 ·intro xs g hc hw;exact⟨ft.s _ _ _ _,aM.leaf (Or.inr rfl),fun _=>⟨by omega,sV g,_,dd.s g,hQ.s hc hw,sA _ (Or.inr rfl) (by have:=gq hc;show xs.length<=1048576;omega),jk hc,by simp,cG.leaf (Or.inr rfl)⟩⟩
 ·rintro u v l r ⟨a,b,d⟩ ⟨c,f,i⟩;refine⟨ft.cat a c,aM.bin b f (Or.inl rfl),fun hle=>?_⟩;obtain⟨e1,e2⟩:=fu hle;have b1:=a.2;have b2:=c.2;obtain⟨p1,U,L,a1,a2,a3,a4,a5,a6⟩:=d (by omega);obtain⟨p2,V,R,c1,c2,c3,c4,c5,c6⟩:=i (by omega);simp only at hle e1 ⊢;exact⟨by omega,cV U V,_,dd.cat a.iface c.iface a1 c1,hQ.cat a2 c2,ut 2 (Or.inl rfl) _ _ L R _ _ b f a3 c3 a4 c4 (by omega) (by omega),(a4.app c4).app (aY.op _ _ _ (by simp[aA]) (by simp[aA]) (by simp[aA])),by rw[List.length_append,List.length_append];simp;omega,cG.bin a6 c6 (Or.inl rfl)⟩
 ·rintro u v l r ⟨a,b,d⟩ ⟨c,f,i⟩;refine⟨ft.alt a c,aM.bin b f (Or.inr rfl),fun hle=>?_⟩;obtain⟨e1,e2⟩:=fu hle;have b1:=a.2;have b2:=c.2;obtain⟨p1,U,L,a1,a2,a3,a4,a5,a6⟩:=d (by omega);obtain⟨p2,V,R,c1,c2,c3,c4,c5,c6⟩:=i (by omega);simp only at hle e1 ⊢;exact⟨by omega,aV U V,_,dd.alt a.iface c.iface a1 c1,hQ.alt a2 c2,ut 3 (Or.inr rfl) _ _ L R _ _ b f a3 c3 a4 c4 (by omega) (by omega),(a4.app c4).app (aY.op _ _ _ (by simp[aA]) (by simp[aA]) (by simp[aA])),by rw[List.length_append,List.length_append];simp;omega,cG.bin a6 c6 (Or.inr rfl)⟩
 rintro u o mn mx ⟨a,b,d⟩ o2 o3 o4;refine⟨ft.rep a o2 o3 o4,aM.rep b rfl o2 (o4.imp id (fun q=>q)),fun hle=>?_⟩;obtain⟨e1,e2⟩:=fu hle;have b1:=a.2;have j:=Av o.2 mn mx b1.1 o2 o4;obtain⟨p1,U,L,a1,a2,a3,a4,a5,a6⟩:=d (by omega);obtain⟨T,x,rfl⟩:=a.iface;obtain⟨T',x',rfl⟩:=a1.1;simp only at hle e1 ⊢;rw[e1];have a7:cG (o.1++[⟨4,[],mn,mx⟩]) (mV L mn mx):=cG.rep a6 rfl;unfold mV at a7;rcases o4 with rfl|⟨o4,o5⟩
 ·exact⟨by omega,jV (cB (.iface T' x') mn (-1)),jn (bH L mn (-1)),dd.rep0 ⟨_,_,rfl⟩ (jT (dz _ _ _ (Or.inl rfl)) (fX ⟨_,_,rfl⟩ _ _)) (fun w=>ib T x T' x' mn w a1 o2 o3),lL hQ (jI hQ a2 mn (-1) o2) (dz _ _ _ (Or.inl rfl)),xW mn _ L _ b a3 o2 o3 a4 (by omega),nk a4 _ _ o2 o3,iF L o.2 mn (-1) a5 o2 (Or.inl rfl),by rwa [if_neg (by omega)]at a7⟩
 by_cases h0:mx=0
 ·subst h0;exact⟨by omega,eV,[⟨0,[],0,0⟩],dd.rep0 ⟨_,_,rfl⟩ ⟨_,_,rfl⟩ (fun w=>gZ T x mn w),hQ.e,Au mn _ L _ b a3,aY.op _ _ _ (by simp[aA]) (by simp[aA]) (by simp[aA]),by simp;omega,by rwa [if_pos rfl]at a7⟩
 obtain⟨m,rfl⟩:=Int.eq_ofNat_of_zero_le o2;obtain⟨M,rfl⟩:=Int.eq_ofNat_of_zero_le (show 0<=mx by omega);have hs:(Int.ofNat M = -1)∨(0<(M:Int)/\(m:Int)<=(M:Int)/\0<=(m:Int)):=Or.inr ⟨by omega,by omega,by omega⟩;refine⟨by omega,jV (cB (.iface T' x') m M),jn (bH L m M),dd.rep0 ⟨_,_,rfl⟩ (jT (dz _ _ _ hs) (fX ⟨_,_,rfl⟩ _ _)) (fun w=>?_),lL hQ (jI hQ a2 m M o2) (dz _ _ _ hs),wT m M _ L _ b a3 (by omega) (by omega) (by omega) a4 (by omega),nk a4 _ _ o2 o3,iF L o.2 m M a5 o2 (Or.inr ⟨by omega,by omega⟩),by rwa [if_neg (by omega)]at a7⟩
 by_cases he:m=M
 ·exact gv T x T' x' m M w a1 he (by omega) (by omega)
 exact gu T x T' x' m M w a1 (by omega) (by omega) (by omega)
theorem uv{Q:Value->List El->Prop}(hQ:dN Q){xs:List El}(h:bw xs):∃ L,wS xs L/\aY L/\L.length<=1000/\cG xs L/\(∃ U,Q U L)/\∀ u c,GQ Q u (xs,c)->c<=500->∃ U,dd u U/\Q U L:=by
 obtain⟨u,c',hu⟩:=jJ (Ev hQ) h;obtain⟨h1,ok,sh,c,a,b⟩:=h;have hr:=hu.2.1.run [];simp only at hr;rw[a]at hr;simp only[List.cons.injEq,and_true]at hr;obtain⟨-,-,h5⟩:=hu;obtain⟨-,U,L,a1,a2,a3,a4,a5,a6⟩:=h5 (by simp only;omega);simp only at a5;refine⟨L,a3,a4,by omega,a6,⟨U,a2⟩,fun u' c' hu' hc'=>?_⟩;obtain⟨-,U',L',b1,b2,-,-,-,b6⟩:=hu'.2.2 hc';rw[cG.one a6 b6];exact⟨U',b1,b2⟩
def Eb(U:Value)(L:List El):Prop:=∃ a ln ss c,dR U (aO L) a ln ss/\vb L a.nl/\vH L a/\cu L (aO L) a ln ss/\ig a (aO L)/\pu a/\aM L c/\fU L
theorem bS:dN Eb:=by
 refine⟨?_,?_,?_,?_,?_⟩
 ·exact⟨⟨true,[],[]⟩,[],[],1,dR.e,Fr,ES,cu.e,by constructor<;>simp,⟨List.Pairwise.nil,List.Pairwise.nil⟩,aM.leaf (Or.inl rfl),fU.one (Or.inr (Or.inl ⟨Or.inl rfl,rfl,rfl,rfl⟩))⟩
 ·intro xs g hc hw;exact⟨⟨false,[0],[0]⟩,[],[xs],1,dR.s hw hc,Fs xs,EO xs,cu.s xs,by constructor<;>simp[aO],⟨List.pairwise_singleton _ _,List.pairwise_singleton _ _⟩,aM.leaf (Or.inr rfl),fU.one (Or.inl ⟨rfl,hc,rfl,rfl⟩)⟩
 ·rintro u v L R ⟨a,la,sa,c,u1,u2,u3,u4,u5,u6,u7,u8⟩ ⟨b,lb,sb,d,v1,v2,v3,v4,v5,v6,v7,v8⟩;have e:=iG L R 2 (by decide);have h1:=dR.cat u1 v1 u5;have h4:=u4.cat v4;have h5:ig (bV a (b.sh (aO L))) (aO L+aO R):=(u5.mono (Nat.le_add_right _ _)).cat (v5.sh (aO L));rw[<-e]at h1 h4 h5;exact⟨_,_,_,_,h1,xV L R _ _ d v7 u2 v2,An L R _ _ d v7 u3 v3 u2 v2,h4,h5,u6.cat v6 u5,aM.bin u7 v7 (Or.inl rfl),(u8.app v8).app (fU.one (Or.inr (Or.inl ⟨Or.inr (Or.inl rfl),rfl,rfl,rfl⟩)))⟩
 ·rintro u v L R ⟨a,la,sa,c,u1,u2,u3,u4,u5,u6,u7,u8⟩ ⟨b,lb,sb,d,v1,v2,v3,v4,v5,v6,v7,v8⟩;have e:=iG L R 3 (by decide);have h1:=dR.alt u1 v1 u5;have h4:=u4.alt v4;have h5:ig (cP a (b.sh (aO L))) (aO L+aO R):=(u5.mono (Nat.le_add_right _ _)).alt (v5.sh (aO L));rw[<-e]at h1 h4 h5;exact⟨_,_,_,_,h1,AA L R _ _ d v7 u2 v2,zZ L R _ _ d v7 u3 v3,h4,h5,u6.alt v6 u5,aM.bin u7 v7 (Or.inr rfl),(u8.app v8).app (fU.one (Or.inr (Or.inl ⟨Or.inr (Or.inr rfl),rfl,rfl,rfl⟩)))⟩
 rintro u L mn mx ⟨a,la,sa,c,u1,u2,u3,u4,u5,u6,u7,u8⟩ o2 o3 o4;have e:aO (L++[⟨4,[],mn,mx⟩])=aO L:=by rw[eo];simp[aO]
 have h1:=dR.rep u1 u5 mn mx;have h4:=u4.rep mn mx;have h5:ig (dL a mn) (aO L):=u5;rw[<-e]at h1 h4 h5;exact⟨_,_,_,_,h1,Ah L _ mn mx u2 u7.ne,yo L _ mn mx u3,h4,h5,u6,aM.rep u7 rfl o2 o4,u8.app (fU.one (Or.inr (Or.inr ⟨rfl,rfl,o2,o3,o4⟩)))⟩
theorem Dk{fs hs:Nat->Nat->Nat}{nl:Bool}{f l:Nat->Nat}{C:Nat->Nat}{S M:Nat->Nat->Prop}{a:It}{N:Nat}(hN:N<=512)(hf:Fit f)(hfs:∀ i,Fit (fs i))(h0:nl=a.nl)(h1:∀ i,Bt f i=true↔i∈a.fi)(h2:∀ i,Bt l i=true↔i∈a.la)(h3:∀ i j,Bt (fs i) j=true↔M i j)
  (n:Nat)(h4:∀ k,k<n->∀ i,Bt (hs (C k)) i=true↔(i<N/\S i k))(b:∀ i∈a.fi,i<N)(hM:∀ i j,M i j->j<N):∀ k,k<=n->(∀ j,Bt (nV fs hs nl f l C k).1 j=true↔Ae S M a.fi k j)/\(∀ j,Ae S M a.fi k j->j<N)/\((nV fs hs nl f l C k).2=true↔AR S M a k):=by
 intro k
 induction k with
 | zero=>intro _;exact⟨h1,b,by show nl=true↔a.nl=true;rw[h0]⟩
 | succ k ih =>
  intro hk;obtain⟨i1,i2,-⟩:=ih (by omega);have hR:∀ i,Bt (cC (nV fs hs nl f l C k).1 (hs (C k))) i=true↔(Ae S M a.fi k i/\S i k):=fun i=>by
   rw[gi,Bool.and_eq_true,i1,h4 k (by omega)];exact⟨fun q=>⟨q.1,q.2.2⟩,fun q=>⟨q.1,i2 i q.1,q.2⟩⟩
  refine⟨fun j=>?_,fun j=>?_,?_⟩
  ·show Bt (nE fs (gj (cC (nV fs hs nl f l C k).1 (hs (C k))) 512)) j=true↔∃ p,Ae S M a.fi k p/\S p k/\M p j;rw[uf]
   constructor
   ·rintro⟨p,h5,h6⟩;unfold gj at h5;have h7:=(hR p).1 (List.mem_filter.1 h5).2;exact⟨p,h7.1,h7.2,(h3 p j).1 h6⟩
   rintro⟨p,h5,h6,h7⟩;refine⟨p,?_,(h3 p j).2 h7⟩;unfold gj;exact List.mem_filter.2 ⟨List.mem_range.2 (by have:=i2 p h5;omega),(hR p).2 ⟨h5,h6⟩⟩
  ·rintro⟨p,-,-,h5⟩;exact hM _ _ h5
  show(!(xr (cC (cC (nV fs hs nl f l C k).1 (hs (C k))) l)))=true↔∃ p,Ae S M a.fi k p/\S p k/\p∈a.la;rw[rj (jp (jp (uJ hf hfs k)))]
  constructor
  ·rintro⟨p,-,h5⟩;rw[gi,Bool.and_eq_true,hR,h2]at h5;exact⟨p,h5.1.1,h5.1.2,h5.2⟩
  rintro⟨p,h5,h6,h7⟩;exact⟨p,by have:=i2 p h5;omega,by rw[gi,Bool.and_eq_true,hR,h2];exact⟨⟨h5,h6⟩,h7⟩⟩
end Go.Proofs.YtpmcjimgkabpeaaGreatDoor
