import Derived.Test.YtidfkbghlkcbeaaGreatDoorPk31
import Derived.Test.YtidfkbghlkcbeaaGreatDoorY6
import Derived.Test.YtidfkbghlkcbeaaGreatDoorY7
import Derived.Test.YtidfkbghlkcbeaaGreatDoorPk34
import Derived.Test.YtidfkbghlkcbeaaGreatDoorPk20
namespace Go.Proofs.YtidfkbghlkcbeaaGreatDoor
open Go.RowKit Go.Proofs.Tryz
set_option maxHeartbeats 16000000
set_option maxRecDepth 100000
structure fZ (Q:Value->List El->Prop):Prop where
 e:Q eV [⟨0,[],0,0⟩]
 s:∀ {xs:List Int} {g:Nat->Nat},cZ xs->dx xs g->Q (sV g) [⟨1,xs,0,0⟩]
 cat:∀ {u v:Value} {L R:List El},Q u L->Q v R->Q (cV u v) (L++R++[⟨2,[],0,0⟩])
 alt:∀ {u v:Value} {L R:List El},Q u L->Q v R->Q (aV u v) (L++R++[⟨3,[],0,0⟩])
 rep:∀ {u:Value} {L:List El} {mn mx:Int},Q u L->0<=mn->mn<=250->(mx = -1∨(mn<=mx/\mx<=250))->Q (rV u mn mx) (L++[⟨4,[],mn,mx⟩])
def tK(Q:Value->List El->Prop):List Value->List (List El)->Prop
 | [],[]=>True
 | u::us,L::Ls=>Q u L/\tK Q us Ls
 | _,_=>False
theorem tK.app{Q:Value->List El->Prop}:∀ {a b:List Value} {A B:List (List El)},tK Q a A->tK Q b B->tK Q (a++b) (A++B)
 | [],_,[],_,_,k=>k
 | _::_,_,_::_,_,h,k=>⟨h.1,tK.app h.2 k⟩
 | [],_,_::_,_,h,_=>h.elim
 | _::_,_,[],_,h,_=>h.elim
theorem tK.rep{Q:Value->List El->Prop}{u:Value}{L:List El}(h:Q u L):∀ n:Nat,tK Q (List.replicate n u) (List.replicate n L)
 | 0=>trivial
 | n+1=>⟨h,tK.rep h n⟩
theorem uB{Q:Value->List El->Prop}(hQ:fZ Q):∀ {vs:List Value} {Ls:List (List El)},tK Q vs Ls->∀ {p:Value} {P:List El},Q p P->Q (vs.foldl cV p) (Ls.foldl (fun acc q=>acc++q++[lJ]) P)
 | [],[],_,_,_,h=>h
 | _::_,_::_,k,_,_,h=>uB hQ k.2 (hQ.cat h k.1)
 | [],_::_,k,_,_,_=>k.elim
 | _::_,[],k,_,_,_=>k.elim
theorem lY{Q:Value->List El->Prop}(hQ:fZ Q){vs:List Value}{Ls:List (List El)}(h:tK Q vs Ls)(hn:vs≠[]):Q (jV vs) (jn Ls):=by
 match vs,Ls,h with
 | p::r,P::R,h=>exact uB hQ h.2 h.1
 | [],[],_=>exact absurd rfl hn
theorem jS{Q:Value->List El->Prop}(hQ:fZ Q){U:Value}{L:List El}(h:Q U L)(mn mx:Int)(o2:0<=mn):tK Q (cz U mn mx) (bJ L mn mx):=by
 unfold cz bJ
 by_cases e:mx = -1
 ·rw[if_pos e,if_pos e];exact(tK.rep h _).app ⟨hQ.rep h (by split<;>omega) (by split<;>omega) (Or.inl rfl),trivial⟩
 rw[if_neg e,if_neg e];exact(tK.rep h _).app (tK.rep (hQ.alt h hQ.e) _)
def GR(Q:Value->List El->Prop)(u:Value)(t:List El×Int):Prop:=
 gn u t.2/\ba t.1 t.2/\(t.2<=500->1<=t.2/\∃ U L,dc u U/\Q U L/\(L.length:Int)<=2*t.2-1/\cE t.1 L)
theorem CG{Q:Value->List El->Prop}(hQ:fZ Q):jI (GR Q):=by
 refine⟨fun h=>h.1,?_,?_,?_,?_,?_⟩
 ·exact⟨gn.e,ba.leaf (Or.inl rfl),fun _=>⟨by omega,eV,_,dc.e,hQ.e,by simp,cE.leaf (Or.inl rfl)⟩⟩
 ·intro xs g hc hw;exact⟨gn.s _ _ _ _,ba.leaf (Or.inr rfl),fun _=>⟨by omega,sV g,_,dc.s g,hQ.s hc hw,by simp,cE.leaf (Or.inr rfl)⟩⟩
 ·rintro u v l r ⟨a,c,d⟩ ⟨b,f,i⟩;refine⟨gn.cat a b,ba.bin c f (Or.inl rfl),fun hle=>?_⟩;obtain⟨e1,e2⟩:=fw hle;have b1:=a.2;have b2:=b.2;obtain⟨p1,U,L,a1,a2,a5,a6⟩:=d (by omega);obtain⟨p2,V,R,c1,c2,c5,c6⟩:=i (by omega);simp only at hle e1 ⊢;exact⟨by omega,cV U V,_,dc.cat a.iface b.iface a1 c1,hQ.cat a2 c2,by rw[List.length_append,List.length_append];simp;omega,cE.bin a6 c6 (Or.inl rfl)⟩
 ·rintro u v l r ⟨a,c,d⟩ ⟨b,f,i⟩;refine⟨gn.alt a b,ba.bin c f (Or.inr rfl),fun hle=>?_⟩;obtain⟨e1,e2⟩:=fw hle;have b1:=a.2;have b2:=b.2;obtain⟨p1,U,L,a1,a2,a5,a6⟩:=d (by omega);obtain⟨p2,V,R,c1,c2,c5,c6⟩:=i (by omega);simp only at hle e1 ⊢;exact⟨by omega,aV U V,_,dc.alt a.iface b.iface a1 c1,hQ.alt a2 c2,by rw[List.length_append,List.length_append];simp;omega,cE.bin a6 c6 (Or.inr rfl)⟩
 rintro u o mn mx ⟨a,c,d⟩ o2 o3 o4;refine⟨gn.rep a o2 o3 o4,ba.rep c rfl o2 (o4.imp id (fun q=>q)),fun hle=>?_⟩;obtain⟨e1,e2⟩:=fw hle;have b1:=a.2;have j:=yA o.2 mn mx b1.1 o2 o4;obtain⟨p1,U,L,a1,a2,a5,a6⟩:=d (by omega);obtain⟨T,x,rfl⟩:=a.iface;obtain⟨T',x',rfl⟩:=a1.1;simp only at hle e1 ⊢;rw[e1];have a7:cE (o.1++[⟨4,[],mn,mx⟩]) (mH L mn mx):=cE.rep a6 rfl;unfold mH at a7;rcases o4 with rfl|⟨o4,o5⟩
 ·exact⟨by omega,jV (cz (.iface T' x') mn (-1)),jn (bJ L mn (-1)),dc.rep0 ⟨_,_,rfl⟩ (jL (dL _ _ _ (Or.inl rfl)) (fS ⟨_,_,rfl⟩ _ _)) (fun w=>iE T x T' x' mn w a1 o2 o3),lY hQ (jS hQ a2 mn (-1) o2) (dL _ _ _ (Or.inl rfl)),iP L o.2 mn (-1) a5 o2 (Or.inl rfl),by rwa [if_neg (by omega)]at a7⟩
 by_cases h0:mx=0
 ·subst h0;exact⟨by omega,eV,[⟨0,[],0,0⟩],dc.rep0 ⟨_,_,rfl⟩ ⟨_,_,rfl⟩ (fun w=>im T x mn w),hQ.e,by simp;omega,by rwa [if_pos rfl]at a7⟩
 obtain⟨m,rfl⟩:=Int.eq_ofNat_of_zero_le o2;obtain⟨M,rfl⟩:=Int.eq_ofNat_of_zero_le (show 0<=mx by omega);have hs:(Int.ofNat M = -1)∨(0<(M:Int)/\(m:Int)<=(M:Int)/\0<=(m:Int)):=Or.inr ⟨by omega,by omega,by omega⟩;refine⟨by omega,jV (cz (.iface T' x') m M),jn (bJ L m M),dc.rep0 ⟨_,_,rfl⟩ (jL (dL _ _ _ hs) (fS ⟨_,_,rfl⟩ _ _)) (fun w=>?_),lY hQ (jS hQ a2 m M o2) (dL _ _ _ hs),iP L o.2 m M a5 o2 (Or.inr ⟨by omega,by omega⟩),by rwa [if_neg (by omega)]at a7⟩
 by_cases he:m=M
 ·exact gB T x T' x' m M w a1 he (by omega) (by omega)
 exact gr T x T' x' m M w a1 (by omega) (by omega) (by omega)
theorem vg{Q:Value->List El->Prop}(hQ:fZ Q){xs:List El}(h:bO xs):∃ L,L.length<=1000/\cE xs L/\(∃ U,Q U L)/\∀ u c,GR Q u (xs,c)->c<=500->∃ U,dc u U/\Q U L:=by
 obtain⟨u,c',hu⟩:=me (CG hQ) h;obtain⟨h1,ok,sh,c,a,b⟩:=h;have hr:=hu.2.1.run [];simp only at hr;rw[a]at hr;simp only[List.cons.injEq,and_true]at hr;obtain⟨-,-,h5⟩:=hu;obtain⟨-,U,L,a1,a2,a5,a6⟩:=h5 (by simp only;omega);simp only at a5;refine⟨L,by omega,a6,⟨U,a2⟩,fun u' c' hu' hc'=>?_⟩;obtain⟨-,U',L',b1,b2,-,b6⟩:=hu'.2.2 hc';rw[cE.one a6 b6];exact⟨U',b1,b2⟩
def ic:List El:=[⟨1,[0,255],0,0⟩]++[⟨4,[],0,-1⟩]
def gD(l r:Bool)(L:List El):List El:=
 let M:=if l then L else ic++L++[⟨2,[],0,0⟩]
 if r then M else M++ic++[⟨2,[],0,0⟩]
theorem pR(l r:Bool)(L:List El):(gD l r L).length<=L.length+6:=by
 unfold gD ic;cases l<;>cases r<;>simp<;>omega
theorem fZ.all{Q:Value->List El->Prop}(hQ:fZ Q){g:Nat->Nat}(hw:dx [0,255] g):Q (rV (sV g) 0 (-1)) ic:=hQ.rep (hQ.s dH hw) (by decide) (by decide) (Or.inl rfl)
def Cn(Q:Value->List El->Prop)(l r:Bool)(xs:List El)(e:Ending):Prop:=
 (∃ U L,e=.returned (.tuple #[U,.bool true])/\(∃ T x,U=.iface T x)/\bO xs/\cE xs L/\L.length<=1000/\Q U (gD l r L))∨(e=.returned (.tuple #[.nilIface,.bool false])/\¬ bO xs)
theorem nT{Q:Value->List El->Prop}(hQ:fZ Q)(l r:Bool)(v:Value)(xs:List El)(w:World)(hv:aA 0 w.heap.size w v xs) :
  Calls prog 22 #[.agg #[.bool l,.bool r,v]] w fun e w'=>Cn Q l r xs e/\Below w.heap.size w w':=by
 obtain⟨a,cp,rfl,-,-⟩:=id hv;have Hv:=ae hv;have h:=ai w (.cells #[.bool l,.bool r,.slice a xs.length cp] 25);have HC:Hi (∀ W,Below (w.heap.size+1) (w.alloc (.cells #[.bool l,.bool r,.slice a xs.length cp] 25)) W->W.cell? ⟨w.heap.size,0,none⟩=some (.bool l)/\W.cell? ⟨w.heap.size,1,none⟩=some (.bool r)):=fun W hW =>
  ⟨(hW.cell (p:=⟨w.heap.size,0,none⟩) (Nat.lt_succ_self _)).trans ((ay w _).news 0 _ rfl),(hW.cell (p:=⟨w.heap.size,1,none⟩) (Nat.lt_succ_self _)).trans ((ay w _).news 1 _ rfl)⟩
 clear hv
 go_enter func22,ntmps22
 go_wp2_with fail;have F:(w.alloc (.cells #[.bool l,.bool r,.slice a xs.length cp] 25)).heap.size=w.heap.size+1:=ah _ _;generalize w.alloc (.cells #[.bool l,.bool r,.slice a xs.length cp] 25)=W0 at *;have z:w.heap.size+1<=W0.heap.size:=by omega
 clear F;refine(sZ (CG hQ) _ xs _ (Hv.u.below h lR)).mono ?_;rintro e w1 ⟨⟨u,c,rfl,hok,s,G,-⟩|⟨rfl,o⟩,i⟩
 ·obtain⟨L,hl,A,-,hU⟩:=vg hQ hok;obtain⟨U,hE,B⟩:=hU u c s G;obtain⟨T0,x0,rfl⟩:=s.1.iface;obtain⟨⟨T,x,rfl⟩,hE⟩:=hE;have HE:=ae hE;have k:=ae B;have H:=ae hok;have I:=ae A;have HL:=ae hl;have t:=ae (i.mono z);have j:=ae (h.trans (i.mono (by omega)));clear hE B hok A hl i hU s h
  go_wp2_with fail;refine(HE.u _).mono ?_;rintro e w2 ⟨rfl,m⟩;have J:=j.u.size;have M:=m.size;have N:=t.u.size;have C:=ae (t.u.trans (m.mono (by omega)));have q:=ae (j.u.trans (m.mono J));clear m HE t j
  go_wp2_with fail;refine(tY _).mono ?_;rintro e w3 ⟨⟨g,rfl,hg⟩,n⟩;have O:=n.size;have K:=ae (C.u.trans (n.mono (by omega)));have D:=ae (q.u.trans (n.mono (by omega)));have b:=ae (hQ.all hg);have y:=ai w3 (.cells #[.iface 91 (.agg #[.int .u64 (g 0:Nat),.int .u64 (g 1:Nat),.int .u64 (g 2:Nat),.int .u64 (g 3:Nat)]),.int .i64 0,.int .i64 (-1)] 93);obtain⟨k0,k1⟩:=HC.u _ (K.u.trans (y.mono (by omega)));have d:=ae (D.u.trans (y.mono (by omega)));clear n hg y C q HC;unfold gb;have f:Hi (∀ U',Q U' (gD l r L)->(∃ T x,U'=.iface T x)->∀ w',Below w.heap.size w w'->Cn Q l r xs (.returned (.tuple #[U',.bool true]))/\Below w.heap.size w w'):=fun U' h1 h2 w' h3=>⟨Or.inl ⟨U',L,rfl,h2,H.u,I.u,HL.u,h1⟩,h3⟩
  cases l<;>cases r
  ·go_wp2
   go_ret2;exact f.u _ (hQ.cat (hQ.cat b.u k.u) b.u) ⟨_,_,rfl⟩ _ d.u
  ·go_wp2
   go_ret2;exact f.u _ (hQ.cat b.u k.u) ⟨_,_,rfl⟩ _ d.u
  ·go_wp2
   go_ret2;exact f.u _ (hQ.cat k.u b.u) ⟨_,_,rfl⟩ _ d.u
  go_wp2
  go_ret2;exact f.u _ k.u ⟨_,_,rfl⟩ _ d.u
 have HB:=ae (h.trans (i.mono (by omega)));have E:=ae o;clear o i h;go_wp2
 go_ret2;exact⟨Or.inr ⟨rfl,E.u⟩,HB.u⟩
def GQ(Q:Value->List El->Prop)(u:Value)(t:List El×Int):Prop:=
 gn u t.2/\ba t.1 t.2/\(t.2<=500->1<=t.2/\∃ U L,dc u U/\Q U L/\vV t.1 L/\aY L/\(L.length:Int)<=2*t.2-1/\cE t.1 L)
theorem Eo{Q:Value->List El->Prop}(hQ:fZ Q):jI (GQ Q):=by
 refine⟨fun h=>h.1,?_,?_,?_,?_,?_⟩
 ·exact⟨gn.e,ba.leaf (Or.inl rfl),fun _=>⟨by omega,eV,_,dc.e,hQ.e,sU _ (Or.inl rfl) (by simp),aY.op _ _ _ (by simp[az]) (by simp[az]) (by simp[az]),by simp,cE.leaf (Or.inl rfl)⟩⟩
 ·intro xs g hc hw;exact⟨gn.s _ _ _ _,ba.leaf (Or.inr rfl),fun _=>⟨by omega,sV g,_,dc.s g,hQ.s hc hw,sU _ (Or.inr rfl) (by have:=ld hc;show xs.length<=1048576;omega),iN hc,by simp,cE.leaf (Or.inr rfl)⟩⟩
 ·rintro u v l r ⟨a,b,d⟩ ⟨c,f,i⟩;refine⟨gn.cat a c,ba.bin b f (Or.inl rfl),fun hle=>?_⟩;obtain⟨e1,e2⟩:=fw hle;have b1:=a.2;have b2:=c.2;obtain⟨p1,U,L,a1,a2,a3,a4,a5,a6⟩:=d (by omega);obtain⟨p2,V,R,c1,c2,c3,c4,c5,c6⟩:=i (by omega);simp only at hle e1 ⊢;exact⟨by omega,cV U V,_,dc.cat a.iface c.iface a1 c1,hQ.cat a2 c2,uE 2 (Or.inl rfl) _ _ L R _ _ b f a3 c3 a4 c4 (by omega) (by omega),(a4.app c4).app (aY.op _ _ _ (by simp[az]) (by simp[az]) (by simp[az])),by rw[List.length_append,List.length_append];simp;omega,cE.bin a6 c6 (Or.inl rfl)⟩
 ·rintro u v l r ⟨a,b,d⟩ ⟨c,f,i⟩;refine⟨gn.alt a c,ba.bin b f (Or.inr rfl),fun hle=>?_⟩;obtain⟨e1,e2⟩:=fw hle;have b1:=a.2;have b2:=c.2;obtain⟨p1,U,L,a1,a2,a3,a4,a5,a6⟩:=d (by omega);obtain⟨p2,V,R,c1,c2,c3,c4,c5,c6⟩:=i (by omega);simp only at hle e1 ⊢;exact⟨by omega,aV U V,_,dc.alt a.iface c.iface a1 c1,hQ.alt a2 c2,uE 3 (Or.inr rfl) _ _ L R _ _ b f a3 c3 a4 c4 (by omega) (by omega),(a4.app c4).app (aY.op _ _ _ (by simp[az]) (by simp[az]) (by simp[az])),by rw[List.length_append,List.length_append];simp;omega,cE.bin a6 c6 (Or.inr rfl)⟩
 rintro u o mn mx ⟨a,b,d⟩ o2 o3 o4;refine⟨gn.rep a o2 o3 o4,ba.rep b rfl o2 (o4.imp id (fun q=>q)),fun hle=>?_⟩;obtain⟨e1,e2⟩:=fw hle;have b1:=a.2;have j:=yA o.2 mn mx b1.1 o2 o4;obtain⟨p1,U,L,a1,a2,a3,a4,a5,a6⟩:=d (by omega);obtain⟨T,x,rfl⟩:=a.iface;obtain⟨T',x',rfl⟩:=a1.1;simp only at hle e1 ⊢;rw[e1];have a7:cE (o.1++[⟨4,[],mn,mx⟩]) (mH L mn mx):=cE.rep a6 rfl;unfold mH at a7;rcases o4 with rfl|⟨o4,o5⟩
 ·exact⟨by omega,jV (cz (.iface T' x') mn (-1)),jn (bJ L mn (-1)),dc.rep0 ⟨_,_,rfl⟩ (jL (dL _ _ _ (Or.inl rfl)) (fS ⟨_,_,rfl⟩ _ _)) (fun w=>iE T x T' x' mn w a1 o2 o3),lY hQ (jS hQ a2 mn (-1) o2) (dL _ _ _ (Or.inl rfl)),xM mn _ L _ b a3 o2 o3 a4 (by omega),nz a4 _ _ o2 o3,iP L o.2 mn (-1) a5 o2 (Or.inl rfl),by rwa [if_neg (by omega)]at a7⟩
 by_cases h0:mx=0
 ·subst h0;exact⟨by omega,eV,[⟨0,[],0,0⟩],dc.rep0 ⟨_,_,rfl⟩ ⟨_,_,rfl⟩ (fun w=>im T x mn w),hQ.e,xS mn _ L _ b a3,aY.op _ _ _ (by simp[az]) (by simp[az]) (by simp[az]),by simp;omega,by rwa [if_pos rfl]at a7⟩
 obtain⟨m,rfl⟩:=Int.eq_ofNat_of_zero_le o2;obtain⟨M,rfl⟩:=Int.eq_ofNat_of_zero_le (show 0<=mx by omega);have hs:(Int.ofNat M = -1)∨(0<(M:Int)/\(m:Int)<=(M:Int)/\0<=(m:Int)):=Or.inr ⟨by omega,by omega,by omega⟩;refine⟨by omega,jV (cz (.iface T' x') m M),jn (bJ L m M),dc.rep0 ⟨_,_,rfl⟩ (jL (dL _ _ _ hs) (fS ⟨_,_,rfl⟩ _ _)) (fun w=>?_),lY hQ (jS hQ a2 m M o2) (dL _ _ _ hs),wZ m M _ L _ b a3 (by omega) (by omega) (by omega) a4 (by omega),nz a4 _ _ o2 o3,iP L o.2 m M a5 o2 (Or.inr ⟨by omega,by omega⟩),by rwa [if_neg (by omega)]at a7⟩
 by_cases he:m=M
 ·exact gB T x T' x' m M w a1 he (by omega) (by omega)
 exact gr T x T' x' m M w a1 (by omega) (by omega) (by omega)
theorem uR{Q:Value->List El->Prop}(hQ:fZ Q){xs:List El}(h:bO xs):∃ L,vV xs L/\aY L/\L.length<=1000/\cE xs L/\(∃ U,Q U L)/\∀ u c,GQ Q u (xs,c)->c<=500->∃ U,dc u U/\Q U L:=by
 obtain⟨u,c',hu⟩:=me (Eo hQ) h;obtain⟨h1,ok,sh,c,a,b⟩:=h;have hr:=hu.2.1.run [];simp only at hr;rw[a]at hr;simp only[List.cons.injEq,and_true]at hr;obtain⟨-,-,h5⟩:=hu;obtain⟨-,U,L,a1,a2,a3,a4,a5,a6⟩:=h5 (by simp only;omega);simp only at a5;refine⟨L,a3,a4,by omega,a6,⟨U,a2⟩,fun u' c' hu' hc'=>?_⟩;obtain⟨-,U',L',b1,b2,-,-,-,b6⟩:=hu'.2.2 hc';rw[cE.one a6 b6];exact⟨U',b1,b2⟩
def Dy(U:Value)(L:List El):Prop:=∃ a ln ss c,fM U (aS L) a ln ss/\vk L a.nl/\we L a/\cK L (aS L) a ln ss/\jx a (aS L)/\pX a/\ba L c/\fT L
theorem bV:fZ Dy:=by
 refine⟨?_,?_,?_,?_,?_⟩
 ·exact⟨⟨true,[],[]⟩,[],[],1,fM.e,Fu,Ed,cK.e,by constructor<;>simp,⟨List.Pairwise.nil,List.Pairwise.nil⟩,ba.leaf (Or.inl rfl),fT.one (Or.inr (Or.inl ⟨Or.inl rfl,rfl,rfl,rfl⟩))⟩
 ·intro xs g hc hw;exact⟨⟨false,[0],[0]⟩,[],[xs],1,fM.s hw hc,Fp xs,Fl xs,cK.s xs,by constructor<;>simp[aS],⟨List.pairwise_singleton _ _,List.pairwise_singleton _ _⟩,ba.leaf (Or.inr rfl),fT.one (Or.inl ⟨rfl,hc,rfl,rfl⟩)⟩
 ·rintro u v L R ⟨a,la,sa,c,u1,u2,u3,u4,u5,u6,u7,u8⟩ ⟨b,lb,sb,d,v1,v2,v3,v4,v5,v6,v7,v8⟩;have e:=lV L R 2 (by decide);have h1:=fM.cat u1 v1 u5;have h4:=u4.cat v4;have h5:jx (bY a (b.sh (aS L))) (aS L+aS R):=(u5.mono (Nat.le_add_right _ _)).cat (v5.sh (aS L));rw[<-e]at h1 h4 h5;exact⟨_,_,_,_,h1,xZ L R _ _ d v7 u2 v2,yr L R _ _ d v7 u3 v3 u2 v2,h4,h5,u6.cat v6 u5,ba.bin u7 v7 (Or.inl rfl),(u8.app v8).app (fT.one (Or.inr (Or.inl ⟨Or.inr (Or.inl rfl),rfl,rfl,rfl⟩)))⟩
 ·rintro u v L R ⟨a,la,sa,c,u1,u2,u3,u4,u5,u6,u7,u8⟩ ⟨b,lb,sb,d,v1,v2,v3,v4,v5,v6,v7,v8⟩;have e:=lV L R 3 (by decide);have h1:=fM.alt u1 v1 u5;have h4:=u4.alt v4;have h5:jx (cR a (b.sh (aS L))) (aS L+aS R):=(u5.mono (Nat.le_add_right _ _)).alt (v5.sh (aS L));rw[<-e]at h1 h4 h5;exact⟨_,_,_,_,h1,Ar L R _ _ d v7 u2 v2,yL L R _ _ d v7 u3 v3,h4,h5,u6.alt v6 u5,ba.bin u7 v7 (Or.inr rfl),(u8.app v8).app (fT.one (Or.inr (Or.inl ⟨Or.inr (Or.inr rfl),rfl,rfl,rfl⟩)))⟩
 rintro u L mn mx ⟨a,la,sa,c,u1,u2,u3,u4,u5,u6,u7,u8⟩ o2 o3 o4;have e:aS (L++[⟨4,[],mn,mx⟩])=aS L:=by rw[eZ];simp[aS]
 have h1:=fM.rep u1 u5 mn mx;have h4:=u4.rep mn mx;have h5:jx (ed a mn) (aS L):=u5;rw[<-e]at h1 h4 h5;exact⟨_,_,_,_,h1,zE L _ mn mx u2 u7.ne,zV L _ mn mx u3,h4,h5,u6,ba.rep u7 rfl o2 o4,u8.app (fT.one (Or.inr (Or.inr ⟨rfl,rfl,o2,o3,o4⟩)))⟩
theorem cq:aY ic:=(iN dH).app (aY.op _ _ _ (by simp[az]) (by simp[az]) (by simp[az]))
theorem gF{a b:List El}(ha:aY a)(hb:aY b):aY (a++b++[⟨2,[],0,0⟩]):=(ha.app hb).app (aY.op _ _ _ (by simp[az]) (by simp[az]) (by simp[az]))
theorem AX(l r:Bool){L:List El}(h:aY L):aY (gD l r L):=by
 unfold gD;cases l<;>cases r
 ·exact gF (gF cq h) cq
 ·exact gF cq h
 ·exact gF h cq
 exact h
theorem rY(l r:Bool)(v:Value)(xs L:List El)(w:World)(hv:aA 0 w.heap.size w v xs)(hlen:xs.length<=3000)(hx:vV xs L)(hn:aY L)(hL:L.length<=1000) :
  Calls prog 67 #[.agg #[.bool l,.bool r,v]] w fun e w'=>∃ v',e=.returned v'/\aP w.heap.size w' v' (gD l r L)/\Below w.heap.size w w':=by
 obtain⟨a,cp,rfl,-,-⟩:=id hv;have Hv:=ae hv;have HX:=ae hx;have HN:=ae hn;have D:=ai w (.cells #[.bool l,.bool r,.slice a xs.length cp] 25);have HC:Hi (∀ W,Below (w.heap.size+1) (w.alloc (.cells #[.bool l,.bool r,.slice a xs.length cp] 25)) W->W.cell? ⟨w.heap.size,0,none⟩=some (.bool l)/\W.cell? ⟨w.heap.size,1,none⟩=some (.bool r)):=fun W hW =>
  ⟨(hW.cell (p:=⟨w.heap.size,0,none⟩) (Nat.lt_succ_self _)).trans ((ay w _).news 0 _ rfl),(hW.cell (p:=⟨w.heap.size,1,none⟩) (Nat.lt_succ_self _)).trans ((ay w _).news 1 _ rfl)⟩
 clear hv hx hn
 go_enter func67,ntmps67
 go_wp2_with fail;have Z:(w.alloc (.cells #[.bool l,.bool r,.slice a xs.length cp] 25)).heap.size=w.heap.size+1:=ah _ _;generalize w.alloc (.cells #[.bool l,.bool r,.slice a xs.length cp] 25)=W0 at *;refine(HX.u _ _ (Hv.u.below D lR) hlen).mono ?_;rintro e w1 ⟨v1,rfl,E,x⟩;have a0:=x.size;have O:=ae E;obtain⟨a1,c1,rfl⟩:=E.form;have P:=ae (x.mono (show w.heap.size+1<=W0.heap.size by omega));have y:=ae (D.trans (x.mono (by omega)));clear E x D
 go_wp2_with fail;refine(wY _).mono ?_;rintro e w2 ⟨v2,rfl,F,k⟩;have a7:=k.size;have Q:=ae F;obtain⟨a2,c2,rfl,-,-⟩:=id F;have R:=ae (O.u.keep k lR);have S:=ae (P.u.trans (k.mono (by omega)));have z:=ae (y.u.trans (k.mono (by omega)));clear F k O P y
 go_wp2_with fail;refine(Bu _ [0,255] _ Q.u (by simp)).mono ?_;rintro e w3 ⟨v3,rfl,G,m⟩;have a8:=m.size;have T:=ae G;obtain⟨a3,c3,rfl⟩:=G.form;have A:=ae (R.u.keep m lR);have U:=ae (S.u.trans (m.mono (by omega)));have B:=ae (z.u.trans (m.mono (by omega)));clear G m R S z Q
 go_wp2_with fail;refine(ml 0 (-1) _ [⟨1,[0,255],0,0⟩] _ (T.u.els (iN dH)) (by simp) (iN dH).len).mono ?_;rintro e w4 ⟨v4,rfl,H,n⟩;have a9:=n.size;have o:Hi (aP w3.heap.size w4 v4 ic):=H;obtain⟨a4,c4,rfl⟩:=H.form;have h:=ae (A.u.keep n lR);have I:=ae (U.u.trans (n.mono (by omega)));have i:=ae (B.u.trans (n.mono (by omega)));obtain⟨k0,k1⟩:=HC.u _ I.u;clear H n A T U B;have j:ic.length=2:=rfl;cases l<;>cases r
 ·go_wp2_with fail;refine(jO _ _ ic L _ (o.u.els cq) (h.u.els HN.u) (by rw[j];omega) (by omega) cq.len HN.u.len).mono ?_;rintro e w5 ⟨v5,rfl,d,b⟩;have V:=b.size;obtain⟨M,hM⟩ : ∃ M,M=ic++L++[⟨2,[],0,0⟩]:=⟨_,rfl⟩;rw[<-hM]at d;have J:=ae d;have C:=ae (o.u.keep b lR);have X:M.length<=1003:=by rw[hM,List.length_append,List.length_append,j];simp;omega
  obtain⟨a5,c5,rfl⟩:=d.form;have q:=ae (i.u.trans (b.mono (by omega)));obtain⟨-,k5⟩:=HC.u _ (I.u.trans (b.mono (by omega)));have K:Hi (aY M):=by rw[hM];exact gF cq HN.u
  have HM:=ae hM;clear d b hM k0 k1
  go_wp2_with fail;refine(jO _ _ M ic _ (J.u.els K.u) (C.u.els cq) (by omega) (by rw[j];omega) K.u.len cq.len).mono ?_;rintro e w6 ⟨v6,rfl,f,s⟩;obtain⟨Y,hY⟩ : ∃ Y,Y=M++ic++[⟨2,[],0,0⟩]:=⟨_,rfl⟩;rw[<-hY]at f;have HY:=ae hY;have N:=ae f;obtain⟨a6,c6,rfl⟩:=f.form;have t:=ae (q.u.trans (s.mono (by omega)));clear f s hY;go_wp2;go_ret;have c:aP w.heap.size _ _ Y:=N.u.base (by omega);have g:Y=gD false false L:=(by rw[HY.u,HM.u];rfl);exact⟨_,rfl,by rw[<-g];exact c,t.u⟩
 ·go_wp2_with fail;refine(jO _ _ ic L _ (o.u.els cq) (h.u.els HN.u) (by rw[j];omega) (by omega) cq.len HN.u.len).mono ?_;rintro e w5 ⟨v5,rfl,d,b⟩;have V:=b.size;obtain⟨M,hM⟩ : ∃ M,M=ic++L++[⟨2,[],0,0⟩]:=⟨_,rfl⟩;rw[<-hM]at d;have J:=ae d;have C:=ae (o.u.keep b lR);have X:M.length<=1003:=by rw[hM,List.length_append,List.length_append,j];simp;omega
  obtain⟨a5,c5,rfl⟩:=d.form;have q:=ae (i.u.trans (b.mono (by omega)));obtain⟨-,k5⟩:=HC.u _ (I.u.trans (b.mono (by omega)));have K:Hi (aY M):=by rw[hM];exact gF cq HN.u
  have HM:=ae hM;clear d b hM k0 k1;go_wp2;go_ret;have c:aP w.heap.size _ _ M:=J.u.base (by omega);have g:M=gD false true L:=HM.u;exact⟨_,rfl,by rw[<-g];exact c,q.u⟩
 ·go_wp2_with fail;refine(jO _ _ L ic _ (h.u.els HN.u) (o.u.els cq) (by omega) (by rw[j];omega) HN.u.len cq.len).mono ?_;rintro e w6 ⟨v6,rfl,f,s⟩;obtain⟨Y,hY⟩ : ∃ Y,Y=L++ic++[⟨2,[],0,0⟩]:=⟨_,rfl⟩;rw[<-hY]at f;have HY:=ae hY;have N:=ae f;obtain⟨a6,c6,rfl⟩:=f.form;have t:=ae (i.u.trans (s.mono (by omega)));clear f s hY;go_wp2;go_ret;have c:aP w.heap.size _ _ Y:=N.u.base (by omega);have g:Y=gD true false L:=HY.u;exact⟨_,rfl,by rw[<-g];exact c,t.u⟩
 go_wp2;go_ret;have c:aP w.heap.size _ _ L:=h.u.base (by omega);have g:L=gD true true L:=rfl;exact⟨_,rfl,by rw[<-g];exact c,i.u⟩
def mP(v:Value)(ps:List (Cl Int))(k:Nat):Prop:=v.ownBlock=some k∨∃ p∈ps,0<p.xs.length/\k=p.b
abbrev LI (base:Nat) (w:World) (v:Value) (ps:List (Cl Int)):Prop:=LL mI 0 3 27 base w v ps
theorem Cq:27≠3:=by decide
section
variable {base:Nat} {w w':World} {v:Value} {ps:List (Cl Int)}
theorem LI.lt(h:LI base w v ps){k:Nat}(hk:mP v ps k):base<=k/\k<w.heap.size:=by
 rcases hk with hk|⟨p,hp,h0,rfl⟩
 ·exact h.own.lt k hk
 exact⟨h.lo p hp h0,(h.ok p hp).lt h0⟩
theorem LI.keepF(h:LI base w v ps)(e:∀ k,mP v ps k->w'.heap[k]?=w.heap[k]?):LI base w' v ps:=
 ⟨ak h.own (fun q hq=>e q (Or.inl hq)),fun p hp=>(h.ok p hp).same (fun h0=>e _ (Or.inr ⟨p,hp,h0,rfl⟩)),h.lo,h.apart⟩
theorem LI.footX(h:LI base w v ps)(_:ps.length<=maxLen):CV mI 0 (mP v ps) w v (ps.map Cl.xs):=by
 have t:=h.own.1;rcases h.own.2 with ⟨rfl,hz⟩|⟨g,cap,cur,rfl,u,hg,n,o,x,r⟩
 ·have:ps=[]:=List.eq_nil_of_length_eq_zero hz;subst this;exact CV.nil _ _ _ _ _ _ (Nat.zero_le _)
 have c:∀ i:Nat,i<ps.length->∃ p,ps[i]?=some p/\p∈ps:=fun i hi=>⟨ps[i],by simp[hi],List.getElem_mem hi⟩
 refine⟨some ⟨g,0,none⟩,cap,by rw[List.length_map],⟨by rw[List.length_map];exact n,o⟩,fun _=>⟨g,0,fun i=>((ps[i]?).map Cl.v).getD undef,fun i k=>∃ p,ps[i]?=some p/\0<p.xs.length/\k=p.b,rfl,Or.inl rfl,⟨cur,_,hg⟩,fun i hi=>?_,fun i hi=>?_,fun i hi k hk=>?_,fun i j hi hj hne k hk hk'=>?_⟩⟩
 ·rw[List.length_map]at hi;obtain⟨p,hp,-⟩:=c i hi;show w.cell? ⟨g,0+i,none⟩=some (((ps[i]?).map Cl.v).getD undef);rw[Nat.zero_add,h.own.cellAt i (by omega),List.getElem?_map,hp]
  rfl
 ·rw[List.length_map]at hi;obtain⟨p,hp,hm⟩:=c i hi;have e1:((ps[i]?).map Cl.v).getD undef=p.v:=by rw[hp];rfl
  have e2:((ps.map Cl.xs)[i]?).getD []=p.xs:=by rw[List.getElem?_map,hp];rfl
  show ir mI 0 _ w (((ps[i]?).map Cl.v).getD undef) (((ps.map Cl.xs)[i]?).getD [])/\cB (((ps[i]?).map Cl.v).getD undef);rw[e1,e2];exact⟨(h.ok p hm).foot.mono (fun k hk=>⟨p,hp,hk.1,hk.2⟩),(h.ok p hm).cap⟩
 ·obtain⟨p,hp,a,rfl⟩:=hk;have hm:p∈ps:=List.mem_of_getElem? hp;refine⟨Or.inr ⟨p,hm,a,rfl⟩,fun e1=>?_⟩;exact h.not_row Cq (h.ok p hm) rfl a (by rw[e1];rfl)
 obtain⟨p,hp,a,rfl⟩:=hk;obtain⟨q,hq,d,e1⟩:=hk';have e:=(List.getElem?_eq_some_iff.1 hp).1;have f:=(List.getElem?_eq_some_iff.1 hq).1;have l:=(List.getElem?_eq_some_iff.1 hp).2;have m:=(List.getElem?_eq_some_iff.1 hq).2;rcases Nat.lt_or_gt_of_ne hne with hlt|s
 ·have:=List.pairwise_iff_getElem.1 h.apart i j e f hlt;rw[l,m]at this;exact this a d e1
 have:=List.pairwise_iff_getElem.1 h.apart j i f e s;rw[l,m]at this;exact this d a e1.symm
theorem LI.pushed{W w7:World}{g cap:Nat}{p:Cl Int}(h:LI base w v ps)(hbase:base<=w.heap.size)(hp:p.ok mI 0 3 w)(hplo:0<p.xs.length->base<=p.b)(hnew:∀ q∈ps,0<q.xs.length->0<p.xs.length->q.b≠p.b)(hP:aH w W (.cells #[p.v] 27))
  (r1:w7.ownsRow base 27 1 (.slice (some ⟨g,0,none⟩) (ps.length+1) cap) (ps.length+1) (ps.map Cl.v++[p.v]))(r2:W.grownBy w7 v.ownBlock)(r3:v.ownBlock=some g∨g=w.heap.size+1) :
  LI base w7 (.slice (some ⟨g,0,none⟩) (ps.length+1) cap) (ps++[p])/\aT (fun k=>v.ownBlock=some k∨w.heap.size<=k) w w7/\∀ k,mP (.slice (some ⟨g,0,none⟩) (ps.length+1) cap) (ps++[p]) k->mP v ps k∨(0<p.xs.length/\k=p.b)∨w.heap.size<=k:=by
 obtain⟨a,-⟩:=LL.app Cq h hbase hp hplo hnew hP r1 r2;have hz:=hP.size;have c:=r2.size;refine⟨a,⟨r2.os.trans hP.below.os,r2.tape.trans hP.below.tape,r2.output.trans hP.below.output,by omega,fun k hk=>?_⟩,fun k hk=>?_⟩
 ·have h1:k<w.heap.size:=by apply Nat.lt_of_not_le;intro e;exact hk (Or.inr e)
  exact(r2.block k (by omega) (fun e=>hk (Or.inl e.symm))).trans (hP.old h1)
 rcases hk with hk|⟨q,hq,h0,rfl⟩
 ·have e:g=k:=Option.some.inj hk;rcases r3 with r3|r3
  ·exact Or.inl (Or.inl (by rw[r3,e]))
  exact Or.inr (Or.inr (by omega))
 rcases List.mem_append.1 hq with hq|hq
 ·exact Or.inl (Or.inr ⟨q,hq,h0,rfl⟩)
 rw[List.mem_singleton]at hq;subst hq;exact Or.inr (Or.inl ⟨h0,rfl⟩)
end
theorem Tryz.zinIS:(prog.info? 27).map (fun i=>(i.zero,i.size,i.bytes))=some (some (.slice none 0 0),1,24):=by kernel_rfl
theorem rZ{ops:Array Oper}{rest:List Oper}{o:Oper}{a:Act}{Q:Exit->Act->World->Prop}(hgd:o.guard=none)(s y:Operand)(ho:o.op=.call { callee:=.builtin .append,args:=#[s,y],argTypes:=#[73,73] })
  {base:Nat}{w W:World}{v:Value}{ps:List (Cl Int)}{p:Cl Int}(h:LI base w v ps)(hs:a.eval s=v)(hbase:base<=w.heap.size)(hp:p.ok mI 0 3 w)(hplo:0<p.xs.length->base<=p.b)(hnew:∀ q∈ps,0<q.xs.length->0<p.xs.length->q.b≠p.b)(hP:aH w W (.cells #[p.v] 27))
  (hy:a.eval y=.slice (some ⟨w.heap.size,0,none⟩) 1 1)(hl:ps.length<=1048576)
  (K:∀ g cap w7,LI base w7 (.slice (some ⟨g,0,none⟩) (ps.length+1) cap) (ps++[p])->aT (fun k=>v.ownBlock=some k∨w.heap.size<=k) w w7->(∀ k,mP (.slice (some ⟨g,0,none⟩) (ps.length+1) cap) (ps++[p]) k->mP v ps k∨(0<p.xs.length/\k=p.b)∨w.heap.size<=k)->wpList prog ops Q rest (a.put o.dst (.slice (some ⟨g,0,none⟩) (ps.length+1) cap)) w7):wpList prog ops Q (o::rest) a W:=by
 obtain⟨j0,hj,c,d,f⟩:=info_parts Tryz.zinIS;have hz:=hP.size;refine wpList_append_own_at W hgd s y 73 ho base 27 j0 (.slice none 0 0) 1 24 underlying73 hj c d f rfl (by decide) v ps.length (ps.map Cl.v) hs (hP.own h.own) ⟨w.heap.size,0,none⟩ 1 1 [p.v] hy rfl (aH.news hP) (fun u hu=>by rw[List.mem_singleton]at hu;subst hu;exact hp.one) (by unfold maxLen;omega) (by omega) (by omega) ?_;intro v' w7 r1 r2 _ r3;obtain⟨g,cap,rfl⟩:=xY r1 (by omega);obtain⟨q1,q2,q3⟩:=h.pushed hbase hp hplo hnew hP r1 r2 (r3.imp (fun e=>e.symm) (fun e=>by have:=Option.some.inj e;exact this.trans hz));exact K g cap w7 q1 q2 q3
def lq(s:Value)(b:Bool)(f l k:Value):Nat->Value:=fun j=>if j=0 then s else if j=1 then .bool b else if j=2 then f else if j=3 then l else k
def cg(w:World)(D:Nat)(s:Value)(b:Bool)(f l k:Value):Prop:=w.rowIs D 75 5 (lq s b f l k)
theorem cg.new(w:World)(s:Value)(b:Bool)(f l k:Value):cg (w.alloc (.cells #[s,.bool b,f,l,k] 75)) w.heap.size s b f l k:=by
 refine World.rowIs_alloc w #[s,.bool b,f,l,k] 75 _ (fun i hi=>?_)
 match i,hi with
 | 0,_=>rfl
 | 1,_=>rfl
 | 2,_=>rfl
 | 3,_=>rfl
 | 4,_=>rfl
theorem cg.put0{w:World}{D:Nat}{s f l k:Value}{b:Bool}(h:cg w D s b f l k)(s':Value):cg (w.setCell ⟨D,0,none⟩ s') D s' b f l k:=by
 refine World.rowIs.congr (World.rowIs.set h 0 _) (fun j hj=>?_)
 match j,hj with
 | 0,_=>simp[lq]
 | 1,_=>simp[lq]
 | 2,_=>simp[lq]
 | 3,_=>simp[lq]
 | 4,_=>simp[lq]
theorem cg.put1{w:World}{D:Nat}{s f l k:Value}{b:Bool}(h:cg w D s b f l k)(b':Bool):cg (w.setCell ⟨D,1,none⟩ (.bool b')) D s b' f l k:=by
 refine World.rowIs.congr (World.rowIs.set h 1 _) (fun j hj=>?_)
 match j,hj with
 | 0,_=>simp[lq]
 | 1,_=>simp[lq]
 | 2,_=>simp[lq]
 | 3,_=>simp[lq]
 | 4,_=>simp[lq]
theorem cg.put2{w:World}{D:Nat}{s f l k:Value}{b:Bool}(h:cg w D s b f l k)(f':Value):cg (w.setCell ⟨D,2,none⟩ f') D s b f' l k:=by
 refine World.rowIs.congr (World.rowIs.set h 2 _) (fun j hj=>?_)
 match j,hj with
 | 0,_=>simp[lq]
 | 1,_=>simp[lq]
 | 2,_=>simp[lq]
 | 3,_=>simp[lq]
 | 4,_=>simp[lq]
theorem cg.put3{w:World}{D:Nat}{s f l k:Value}{b:Bool}(h:cg w D s b f l k)(l':Value):cg (w.setCell ⟨D,3,none⟩ l') D s b f l' k:=by
 refine World.rowIs.congr (World.rowIs.set h 3 _) (fun j hj=>?_)
 match j,hj with
 | 0,_=>simp[lq]
 | 1,_=>simp[lq]
 | 2,_=>simp[lq]
 | 3,_=>simp[lq]
 | 4,_=>simp[lq]
theorem cg.put4{w:World}{D:Nat}{s f l k:Value}{b:Bool}(h:cg w D s b f l k)(k':Value):cg (w.setCell ⟨D,4,none⟩ k') D s b f l k':=by
 refine World.rowIs.congr (World.rowIs.set h 4 _) (fun j hj=>?_)
 match j,hj with
 | 0,_=>simp[lq]
 | 1,_=>simp[lq]
 | 2,_=>simp[lq]
 | 3,_=>simp[lq]
 | 4,_=>simp[lq]
theorem cg.on{w w':World}{D:Nat}{s f l k:Value}{b:Bool}(h:cg w D s b f l k)(e:w'.heap[D]?=w.heap[D]?):cg w' D s b f l k:=World.rowIs.of_block h e
theorem cg.lt{w:World}{D:Nat}{s f l k:Value}{b:Bool}(h:cg w D s b f l k):D<w.heap.size:=World.rowIs.lt h
theorem cg.facts{w:World}{D:Nat}{s f l k:Value}{b:Bool}(h:cg w D s b f l k):w.cell? ⟨D,0,none⟩=some s/\w.cell? ⟨D,1,none⟩=some (.bool b)/\w.cell? ⟨D,2,none⟩=some f/\w.cell? ⟨D,3,none⟩=some l/\w.cell? ⟨D,4,none⟩=some k:=
 ⟨World.rowIs.cell h (i:=0) (by omega),World.rowIs.cell h (i:=1) (by omega),World.rowIs.cell h (i:=2) (by omega),World.rowIs.cell h (i:=3) (by omega),World.rowIs.cell h (i:=4) (by omega)⟩
theorem cg.blk{w:World}{D:Nat}{s f l k:Value}{b:Bool}(h:cg w D s b f l k):w.heap[D]?=some (.cells #[s,.bool b,f,l,k] 75):=by
 obtain⟨cur,h1,h2,h3⟩:=h;rw[h1]
 congr 2
 refine Array.ext (by rw[h2];rfl) (fun i hi hj=>?_)
 have h4:=h3 i (by omega);rw[Array.getElem?_eq_getElem hi]at h4;rw[Option.some.inj h4];have a:i<5:=by omega
 match i,a with
 | 0,_=>rfl
 | 1,_=>rfl
 | 2,_=>rfl
 | 3,_=>rfl
 | 4,_=>rfl
theorem Bs{w:World}{D:Nat}{s f l k:Value}{b:Bool}(h:w.heap[D]?=some (.cells #[s,.bool b,f,l,k] 75)):cg w D s b f l k:=by
 refine⟨_,h,rfl,fun i hi=>?_⟩
 match i,hi with
 | 0,_=>rfl
 | 1,_=>rfl
 | 2,_=>rfl
 | 3,_=>rfl
 | 4,_=>rfl
theorem cg.row{w:World}{D:Nat}{s0 f0 l0 k0:Value}{b0:Bool}(h:cg w D s0 b0 f0 l0 k0)(s:Value)(b:Bool)(f l k:Value):cg (w.setRow D #[s,.bool b,f,l,k]) D s b f l k:=Bs (setRow_heap w D _ _ _ _ h.blk)
theorem Fx(b:Bool)(a1 a2 a3 a4:Option Addr)(n1 n2 n3 n4 c1 c2 c3 c4:Nat):(#[.slice a1 n1 c1,.bool b,.slice a2 n2 c2,.slice a3 n3 c3,.slice a4 n4 c4]:Array Value).all (·.oneCell')=true:=by kernel_rfl
theorem xF{w:World}{B:Nat}{s f l k:Value}{b:Bool}(h:cg w B s b f l k){fn:Func}{p:Tmp}(hr:fn.results=#[.cell p 75])(tmps:Array Value)(hp:tmps.getD p undef=.pointer (some ⟨B,0,none⟩)):(results fn tmps).run prog w=.ok (.agg #[s,.bool b,f,l,k]) w:=
 results_cell_row hr tmps w B _ _ _ _ hp h.blk underlying75 rfl (by kernel_rfl)
def yI(K:List Lk)(n i:Nat):List Int:=((List.range n).filter (cm K i)).map (fun j:Nat=>(j:Int))
def eU(K:List Lk)(n:Nat):List (List Int):=(List.range n).map (yI K n)
def nI(l r:Bool)(xs:List El)(S:List (List Int))(b:Bool)(F L:List Int)(W:List (List Int)):Prop:=
 (bO xs/\∃ L0 a ln ss,cE xs L0/\L0.length<=1000/\cK (gD l r L0) (aS (gD l r L0)) a ln ss/\S=bG (gD l r L0)/\b=a.nl/\F=de a false 0/\L=de a true 0/\W=eU ln (aS (gD l r L0)))∨(¬ bO xs/\S=[]/\b=false/\F=[]/\L=[]/\W=[])
theorem sh0(a:It):a.sh 0=a:=by obtain⟨b,f,l⟩:=a;simp[It.sh]
theorem Aj(ln:List Lk):cT 0 ln=ln:=by unfold cT;simp
theorem nI.one{l r:Bool}{xs:List El}{S S':List (List Int)}{b b':Bool}{F F' L L':List Int}{W W':List (List Int)}(h:nI l r xs S b F L W)(k:nI l r xs S' b' F' L' W'):S=S'/\b=b'/\F=F'/\L=L'/\W=W':=by
 rcases h with ⟨h1,L0,a,ln,ss,h2,-,h3,rfl,rfl,rfl,rfl,rfl⟩|⟨h1,rfl,rfl,rfl,rfl,rfl⟩<;>rcases k with ⟨k1,M0,a',ln',ss',k2,-,k3,rfl,rfl,rfl,rfl,rfl⟩|⟨k1,rfl,rfl,rfl,rfl,rfl⟩
 ·obtain rfl:=h2.one k2;obtain⟨-,e1,e2,-⟩:=h3.one k3;rw[sh0,sh0]at e1;rw[Aj,Aj]at e2;subst e1 e2;exact⟨rfl,rfl,rfl,rfl,rfl⟩
 ·exact absurd h1 k1
 ·exact absurd k1 h1
 exact⟨rfl,rfl,rfl,rfl,rfl⟩
def DY(w:World)(v:Value)(S:List (List Int))(b:Bool)(F L:List Int)(W:List (List Int)):Prop:=
 ∃ sv fv lv wv,v=.agg #[sv,.bool b,fv,lv,wv]/\lM mI 0 w.heap.size w sv S/\aK mI 0 0 w.heap.size w fv F/\aK mI 0 0 w.heap.size w lv L/\lM mI 0 w.heap.size w wv W
theorem zG{ops:Array Oper}{rest:List Oper}{o:Oper}{a:Act}{Q:Exit->Act->World->Prop}(hgd:o.guard=none)(s y:Operand)(ho:o.op=.call { callee:=.builtin .append,args:=#[s,y],argTypes:=#[27,27] })
  {base:Nat}{w W:World}{v:Value}{os:List Int}{u:Int}(h:w.ownsRow base 3 1 v os.length (os.map mI))(hs:a.eval s=v)(hbase:base<=w.heap.size)(hP:aH w W (.cells #[.int .i64 u] 3))
  (hy:a.eval y=.slice (some ⟨w.heap.size,0,none⟩) 1 1)(hl:os.length<=1048576)
  (K:∀ v' w7,w7.ownsRow base 3 1 v' (os++[u]).length ((os++[u]).map mI)->Below base w w7->wpList prog ops Q rest (a.put o.dst v') w7):wpList prog ops Q (o::rest) a W:=by
 obtain⟨j0,hj,b,c,d⟩:=info_parts Tryz.zinInt;have hz:=hP.size;refine wpList_append_own_at W hgd s y 27 ho base 3 j0 (.int .i64 0) 1 8 underlying27 hj b c d rfl (by decide) v os.length (os.map mI) hs (hP.own h) ⟨w.heap.size,0,none⟩ 1 1 [.int .i64 u] hy rfl (aH.news hP) (fun x hx=>by rw[List.mem_singleton]at hx;subst hx;rfl) (by unfold maxLen;omega) (by omega) (by omega) ?_;intro v' w7 r1 r2 _ _;obtain⟨q1,q2⟩:=rf h hbase hP r1 r2;exact K v' w7 q1 q2
theorem Mx.on{w w':World}{G n:Nat}{f:Nat->Nat->Bool}(h:Mx w G n f)(e:∀ k,G<=k->k<G+1+n->w'.heap[k]?=w.heap[k]?):Mx w' G n f:=
 ⟨h.top.of_block (e G lR (by omega)),fun i hi=>(h.row i hi).of_block (e _ (by omega) (by omega))⟩
theorem sw{M:List El}{k:Nat}(h:k<M.length):bG (M.take (k+1))=bG (M.take k)++(if (M[k]?.getD dE).kind=1 then [(M[k]?.getD dE).set] else []):=by
 have key:∀ (A B:List El),bG (A++B)=bG A++bG B:=by
  intro A B
  induction A with
  | nil=>rfl
  | cons x r ih=>simp[bG,ih]
 rw[cj h,key];simp[bG]
theorem vO(K:List Lk)(i j:Nat):((List.range (j+1)).filter (cm K i)).map (fun j:Nat=>(j:Int))=((List.range j).filter (cm K i)).map (fun j:Nat=>(j:Int))++(if cm K i j then [(j:Int)] else []):=by
 rw[List.range_succ,List.filter_append,List.map_append]
 congr 1
 by_cases h:cm K i j=true
 ·simp[h]
 simp[h]
theorem wD(K:List Lk)(n i:Nat)(h:i<n):(eU K n).take (i+1)=(eU K n).take i++[yI K n i]:=by
 unfold eU;rw[List.take_add_one];simp[h]
theorem rW(l r:Bool)(v:Value)(xs:List El)(w:World)(hv:aA 0 w.heap.size w v xs) :
  Calls prog 37 #[.agg #[.bool l,.bool r,v]] w fun e w'=>∃ v' S b F L W,e=.returned v'/\nI l r xs S b F L W/\DY w' v' S b F L W/\Below w.heap.size w w':=by
 obtain⟨a,cp,rfl,-,-⟩:=id hv;have Hv:=ae hv;obtain⟨W0,T⟩ : ∃ W0,W0=(w.alloc (.cells #[.bool l,.bool r,.slice a xs.length cp] 25)).alloc (.cells #[.slice none 0 0,.bool false,.slice none 0 0,.slice none 0 0,.slice none 0 0] 75):=⟨_,rfl⟩;have ex:W0.heap.size=w.heap.size+2:=by rw[T,ah,ah]
 have bo:Below w.heap.size w W0:=by rw[T];exact aI w _ _
 have HC:Hi (∀ W,Below (w.heap.size+2) W0 W->W.cell? ⟨w.heap.size,0,none⟩=some (.bool l)/\W.cell? ⟨w.heap.size,1,none⟩=some (.bool r)/\W.cell? ⟨w.heap.size,2,none⟩=some (.slice a xs.length cp)):=fun W hW=>by
  have bp:Below (w.heap.size+1) (w.alloc (.cells #[.bool l,.bool r,.slice a xs.length cp] 25)) W:=by
   have:=(ai (w.alloc (.cells #[.bool l,.bool r,.slice a xs.length cp] 25)) (.cells #[.slice none 0 0,.bool false,.slice none 0 0,.slice none 0 0,.slice none 0 0] 75));rw[ah,<-T]at this;exact this.trans (hW.mono (by omega))
  exact⟨(bp.cell (p:=⟨w.heap.size,0,none⟩) (Nat.lt_succ_self _)).trans ((ay w _).news 0 _ rfl),(bp.cell (p:=⟨w.heap.size,1,none⟩) (Nat.lt_succ_self _)).trans ((ay w _).news 1 _ rfl),(bp.cell (p:=⟨w.heap.size,2,none⟩) (Nat.lt_succ_self _)).trans ((ay w _).news 2 _ rfl)⟩
 have HR:Hi (cg W0 (w.heap.size+1) (.slice none 0 0) false (.slice none 0 0) (.slice none 0 0) (.slice none 0 0)):=by
  have:=cg.new (w.alloc (.cells #[.bool l,.bool r,.slice a xs.length cp] 25)) (.slice none 0 0) false (.slice none 0 0) (.slice none 0 0) (.slice none 0 0);rw[ah,<-T]at this;exact this
 have ca:=ae T;clear hv T
 go_enter func37,ntmps37
 go_wp2_with fail;rw[<-ca.u];clear ca;refine(jo l r _ xs _ (Hv.u.below bo lR)).mono ?_;rintro e w1 ⟨a3,ar⟩;have ey:=ar.size;have av:=ae (ar.mono (show w.heap.size+2<=W0.heap.size by omega));have Q:=ae (bo.trans (ar.mono (by omega)));have aw:=ae (HR.u.on (av.u.block _ (by omega)));clear ar bo HR;rcases a3.cases with ⟨rfl,hok⟩|⟨rfl,b7⟩
 ·obtain⟨k0,k1,k2⟩:=HC.u _ av.u;obtain⟨L0,hx,hn,hl,cb,⟨U,D⟩,-⟩:=uR bV hok
  -- what the model finds at the whole list
  have cc:∃ U',Dy U' (gD l r L0):=by
   obtain⟨g,hg⟩:=jN dH;unfold gD;cases l<;>cases r
   ·exact⟨_,bV.cat (bV.cat (bV.all hg) D) (bV.all hg)⟩
   ·exact⟨_,bV.cat (bV.all hg) D⟩
   ·exact⟨_,bV.cat D (bV.all hg)⟩
   exact⟨_,D⟩
  have cf:=pR l r L0;have ax:=ae (AX l r hn);have bq:=ae (rY l r (.slice a xs.length cp) xs L0 w1 (Hv.u.below Q.u lR) hok.1.2 hx hn hl);obtain⟨M,hM⟩ : ∃ M,M=gD l r L0:=⟨_,rfl⟩;rw[<-hM]at cc cf ax bq;obtain⟨U',A,ln,ss,c,-,ch,ci,br,e5,ck,cl,b8⟩:=cc;have E:Hi (nI l r xs (bG M) A.nl (de A false 0) (de A true 0) (eU ln (aS M))):=Or.inl ⟨hok,L0,A,ln,ss,cb,hl,by rw[<-hM];exact br,by rw[<-hM],rfl,rfl,rfl,by rw[<-hM]⟩;have cr:=ae ch;have a4:=ae ci;have bs:=ae cl;have b9:=ae b8;have cs:Hi ((bS gP M).ln=ln):=by
   show(bS gP M).ln=ln;rw[br gP];simp[gP,Aj]
  have er:M.length<=1006:=by omega
  have e6:=eT M;clear a3 hok hx hn cb D hM cf ch ci br e5 ck cl b8 hl
  go_wp2_with fail;refine bq.u.mono ?_;rintro e w2 ⟨v2,rfl,bt,a5⟩;have f5:=a5.size;have a6:=ae (bt.els ax.u);obtain⟨a2,c2,rfl⟩:=bt.form;have f6:=ae (av.u.trans (a5.mono (by omega)));have ct:=ae (Q.u.trans (a5.mono (by omega)));have e7:=ae (aw.u.on (a5.block _ (by omega)));clear bt a5 bq k0 k1 k2 av Q aw;have cv:=cg.new w2 (.slice none 0 0) false (.slice none 0 0) (.slice none 0 0) (.slice none 0 0);have H:=ai w2 (.cells #[.slice none 0 0,.bool false,.slice none 0 0,.slice none 0 0,.slice none 0 0] 75)
  go_wp2_with fail
  go_loopw [5] (fun iv wr=>∃ (k:Nat) (sv:Value) (ps:List (Cl Int)),k<=M.length/\iv=.int .i64 k/\cg wr w2.heap.size sv false (.slice none 0 0) (.slice none 0 0) (.slice none 0 0)/\LI (w2.heap.size+1) wr sv ps/\ps.map Cl.xs=bG (M.take k)/\Below w2.heap.size w2 wr) (fun iv _=>M.length-(intOf iv).toNat)
  case atStart=>exact⟨0,_,[],Nat.zero_le _,rfl,cv,LL.nil,rfl,H⟩
  clear cv H;obtain⟨k,sv,ps,hk,rfl,d,s,X,hb⟩:=hrel;have es:=d.lt
  by_cases hlt:k<M.length
  ·have cw:(k:Int)<(M.length:Int):=by omega
   obtain⟨x1,x2,e9,-,hc⟩:=id a6.u;cases e9;obtain⟨b,off,rfl,-,e8,cx⟩:=hc (by omega);obtain⟨i1,i2,i3,sv',c0,c1,c2',c3,K⟩:=(cx k hlt).same (dm.of_below hb lR) (Nat.zero_le _) e8;have ea:=ax.u.len k;have eb:=ae (qk (K.mono lR hb.size));have a7:=ae (sw hlt);generalize M[k]?.getD dE=x at *;obtain⟨sa',sc',rfl,-,-,-⟩:=id K;obtain⟨sa,sc,rfl⟩:=aj s.own;have ec:ps.length<=1006:=by
    have h1:=congrArg List.length X;rw[List.length_map,dy]at h1;have h2:=eT (M.take k);rw[List.length_take]at h2;omega
   have f7:b<wr.heap.size:=by omega
   have z:=ae s;have a8:=ae X;have B:=ae d;have N:=ae hb;clear cx hc K i1 i2 i3 s X d hb c2' c3
   by_cases hq:x.kind=1
   ·go_wp2_with (first
     | (at_builtin;refine kj rfl _ _ rfl rfl _ rfl x.set eb.u ea ?_;intro sv1 w3 H f ee;obtain⟨pb,I,J⟩:=yo f;obtain⟨s1,s2,rfl⟩:=aj f;have f8:=H.size;have HP:=ae I;have a9:=ae J;have ek:=ae H;have cy:=ae (z.u.keep H lR);have d0:=ae (B.u.on (H.block _ (by omega)));obtain⟨f0,f1,f2,f3,f4⟩:=d0.u.facts;clear f ee I J H)
     | (at_builtin;refine rZ rfl _ _ rfl (p:=⟨.slice s1 x.set.length s2,x.set,pb⟩) cy.u rfl (by omega) HP.u (fun h0=>by have:=a9.u h0;show w2.heap.size+1<=pb;omega) (fun q hq h0 h1=>by have h2:=a9.u h1;have h3:=(z.u.ok q hq).lt h0;show q.b≠pb;omega) (ay w3 _) rfl (by omega) ?_;intro g cap w7 q1 q2 q3;have aa:¬ ((Value.slice sa ps.length sc).ownBlock=some w2.heap.size∨w3.heap.size<=w2.heap.size):=(by rintro(h|h);(have:=(z.u.own.lt _ h).1;omega);omega);have y:=ae (d0.u.on (q2.block _ aa));have O:=ae q1;have ab:=ae q2;obtain⟨g0,-,-,-,-⟩:=y.u.facts;have y0:=World.rowIs.frozen y.u 0;clear q1 q2 q3 aa))
    go_roundw
    case rel =>
     refine⟨k+1,_,ps++[⟨.slice s1 x.set.length s2,x.set,pb⟩],by omega,by go_num,y.u.put0 _,?_,?_,?_⟩
     ·exact O.u.keepF (fun j hj=>Below.heap_setCell _ _ _ _ (by have:=(LI.lt O.u hj).1;show j≠w2.heap.size;omega))
     ·rw[List.map_append,a8.u,a7.u,if_pos hq];rfl
     refine aD (N.u.trans ((ek.u.mono (by omega)).trans (ab.u.below (fun j hj=>?_)))) lR _;rintro(h|h)
     ·have:=(z.u.own.lt _ h).1;omega
     omega
    simp[intOf];omega
   go_wp2
   go_roundw
   case rel=>exact⟨k+1,_,ps,by omega,by go_num,B.u,z.u,by rw[a8.u,a7.u,if_neg hq,List.append_nil],N.u⟩
   simp[intOf];omega
  obtain rfl:k=M.length:=by omega
  rw[List.take_length]at X;obtain⟨sa,sc,rfl⟩:=aj s.own;have a8:=ae X;have z:=ae s;have B:=ae d;have HB:=ae hb;clear X s d hb
  go_wp2_with fail;refine(cr.u _ _ (a6.u.below HB.u lR) (by omega)).mono ?_;rintro e w4 ⟨rfl,ad⟩;have f9:=ad.size;have b0:=B.u.on (ad.block _ (by omega));have af:Hi (LI (w2.heap.size+1) (w4.setCell ⟨w2.heap.size,1,none⟩ (.bool A.nl)) (.slice sa ps.length sc) ps):=LI.keepF (z.u.keep ad lR) (fun j hj=>Below.heap_setCell _ _ _ _ (by have:=(LI.lt z.u hj).1;show j≠w2.heap.size;omega));have d1:=ae (b0.put1 A.nl);have bv:=ae (aD (HB.u.trans (ad.mono (by omega))) lR (o:=1) (.bool A.nl));obtain⟨-,g1,-,-,-⟩:=b0.facts;have y1:=World.rowIs.frozen b0 1;have fb:(w4.setCell ⟨w2.heap.size,1,none⟩ (.bool A.nl)).heap.size=w4.heap.size:=aM _ _ _;clear ad b0 z B HB cr
  go_wp2_with fail;generalize w4.setCell ⟨w2.heap.size,1,none⟩ (.bool A.nl)=w5 at *;have el:=ae E.u;obtain⟨F,hF⟩ : ∃ F,F=de A false 0:=⟨_,rfl⟩;obtain⟨Z,hZ⟩ : ∃ Z,Z=de A true 0:=⟨_,rfl⟩;have fd:F.length<=1006:=by have:=iV a4.u false 0;rw[<-hF]at this;omega
  have ff:Z.length<=1006:=by have:=iV a4.u true 0;rw[<-hZ]at this;omega
  have bx:=a4.u.2.2 (.slice a2 M.length c2) w5 0 false (a6.u.below bv.u lR) (by omega) (by omega);rw[<-hF]at bx;have d2:=ae bx;have d3:=ae hF;have bz:=ae hZ;clear bx el g1 y1 hF hZ;refine d2.u.mono ?_;rintro e w6 ⟨fv,rfl,b1,ag⟩;obtain⟨fa,fc,rfl⟩:=aj b1;have fg:=ag.size;have b2:=d1.u.on (ag.block _ (by omega));have al:Hi (LI (w2.heap.size+1) (w6.setCell ⟨w2.heap.size,2,none⟩ (.slice fa F.length fc)) (.slice sa ps.length sc) ps):=LI.keepF (af.u.keep ag lR) (fun j hj=>Below.heap_setCell _ _ _ _ (by have:=(LI.lt af.u hj).1;show j≠w2.heap.size;omega));have y:=ae (b2.put2 (.slice fa F.length fc));have c4:=ae (aD (bv.u.trans (ag.mono (by omega))) lR (o:=2) (.slice fa F.length fc));have b3:Hi ((w6.setCell ⟨w2.heap.size,2,none⟩ (.slice fa F.length fc)).ownsRow w5.heap.size 3 1 (.slice fa F.length fc) F.length (F.map mI)):=ak b1 (fun q hq=>Below.heap_setCell _ _ _ _ (by have:=(b1.lt q hq).1;show q≠w2.heap.size;omega));obtain⟨-,-,g2,-,-⟩:=b2.facts;have y2:=World.rowIs.frozen b2 2;have fh:(w6.setCell ⟨w2.heap.size,2,none⟩ (.slice fa F.length fc)).heap.size=w6.heap.size:=aM _ _ _;clear ag b2 b1 af d1 bv d2
  go_wp2_with fail;generalize w6.setCell ⟨w2.heap.size,2,none⟩ (.slice fa F.length fc)=w7 at *;have c5:=a4.u.2.2 (.slice a2 M.length c2) w7 0 true (a6.u.below c4.u lR) (by omega) (by omega);rw[<-bz.u]at c5;have d4:=ae c5;clear c5 g2 y2;refine d4.u.mono ?_;rintro e w8 ⟨lv,rfl,b4,a0⟩;obtain⟨la,lc,rfl⟩:=aj b4;have fi:=a0.size;have b5:=y.u.on (a0.block _ (by omega));have bc:Hi (LI (w2.heap.size+1) (w8.setCell ⟨w2.heap.size,3,none⟩ (.slice la Z.length lc)) (.slice sa ps.length sc) ps):=LI.keepF (al.u.keep a0 lR) (fun j hj=>Below.heap_setCell _ _ _ _ (by have:=(LI.lt al.u hj).1;show j≠w2.heap.size;omega));have d5:=ae (b5.put3 (.slice la Z.length lc));have c6:=ae (aD (c4.u.trans (a0.mono (by omega))) lR (o:=3) (.slice la Z.length lc));have d6:Hi ((w8.setCell ⟨w2.heap.size,3,none⟩ (.slice la Z.length lc)).ownsRow (w2.heap.size+1) 3 1 (.slice fa F.length fc) F.length (F.map mI)):=aO (ak b3.u (fun q hq=>(Below.heap_setCell _ _ _ _ (by have:=(b3.u.lt q hq).1;show q≠w2.heap.size;omega)).trans (a0.block q (b3.u.lt q hq).2))) (by omega);have d7:Hi ((w8.setCell ⟨w2.heap.size,3,none⟩ (.slice la Z.length lc)).ownsRow (w2.heap.size+1) 3 1 (.slice la Z.length lc) Z.length (Z.map mI)):=aO (ak b4 (fun q hq=>Below.heap_setCell _ _ _ _ (by have:=(b4.lt q hq).1;show q≠w2.heap.size;omega))) (by omega);obtain⟨-,-,-,g3,-⟩:=b5.facts;have y3:=World.rowIs.frozen b5 3;have fj:(w8.setCell ⟨w2.heap.size,3,none⟩ (.slice la Z.length lc)).heap.size=w8.heap.size:=aM _ _ _;clear a0 b5 b4 al y c4 d4 b3
  go_wp2_with fail;generalize w8.setCell ⟨w2.heap.size,3,none⟩ (.slice la Z.length lc)=w9 at *;have hK:=rN (.slice a2 M.length c2) M w9 (a6.u.below c6.u lR) (by omega) b9.u bs.u.ws (fun k h1 h2=>bs.u.tl k (by omega) h2);rw[cs.u]at hK;obtain⟨n,hn⟩ : ∃ n,n=aS M:=⟨_,rfl⟩;rw[<-d3.u,<-bz.u,<-hn]at E;rw[<-hn]at hK e6;have HK:=ae hK;clear hK g3 y3 hn d3 bz;refine HK.u.mono ?_;rintro e w10 ⟨G,gc,rfl,hG,P,fk,t⟩;have em:=ae P;have an:=ae (bc.u.keep t lR);have d8:=ae (d5.u.on (t.block _ (by omega)));have bd:=ae (c6.u.trans (t.mono (by omega)));have be:=ae (aG d6.u t lR);have bf:=ae (aG d7.u t lR);have et:=t.size;clear P t HK bc d5 c6 d6 d7 cs b9 bs a4 ax
  go_wp2_with fail
  go_loopw [8] (fun iv wr=>∃ (i:Nat) (wv:Value) (qs:List (Cl Int)),i<=n/\iv=.int .i64 i/\cg wr w2.heap.size (.slice sa ps.length sc) A.nl (.slice fa F.length fc) (.slice la Z.length lc) wv/\LI w10.heap.size wr wv qs/\qs.map Cl.xs=(eU ln n).take i/\aT (fun k=>k=w2.heap.size∨w10.heap.size<=k) w10 wr) (fun iv _=>n-(intOf iv).toNat)
  case atStart=>exact⟨0,_,[],Nat.zero_le _,rfl,d8.u,LL.nil,by simp,aT.refl _ _⟩
  obtain⟨i,wv,qs,hi,rfl,d,s,ao,C⟩:=hrel;obtain⟨V,rfl⟩ : ∃ V,V=wr:=⟨_,rfl⟩;have fl:=C.size;obtain⟨wa,wc,rfl⟩:=aj s.own;have fn:qs.length<=1006:=by
   have h1:=congrArg List.length ao;rw[List.length_map,List.length_take]at h1;omega
  have en:=ae ao;have a1:=ae s;have B:=ae d;have d9:=ae C
  by_cases hlt:i<n
  ·have cw:(i:Int)<(n:Int):=by omega
   have P:=em.u.on (w':=V) (fun k h1 h2=>C.block k (by rintro(h|h)<;>omega));have t0:=P.top.cell hlt;have ep:=ae (P.row i hlt);have db:=ae P.top;clear ao s d C P
   go_wp2_with fail
   go_loopw [9,10] (fun fvv jv wq=>∃ (j:Nat) (os:List Int),j<=n/\jv=.int .i64 j/\wq.ownsRow V.heap.size 3 1 fvv os.length (os.map mI)/\os=((List.range j).filter (cm ln i)).map (fun j:Nat=>(j:Int))/\Below V.heap.size V wq) (fun _ jv _=>n-(intOf jv).toNat)
   case atStart=>exact⟨0,[],Nat.zero_le _,rfl,World.ownsRow_nil _ _ _ _,rfl,Below.refl _ _⟩
   clear t0;obtain⟨j,os,hj,rfl,f,ap,hb⟩:=hrel;obtain⟨fva,fvc,rfl⟩:=aj f;have fo:=hb.size
   by_cases hlj:j<n
   ·have ev:(j:Int)<(n:Int):=by omega
    have t0:=(db.u.of_block (hb.block _ (by omega))).cell hlt;have t1:=(ep.u.of_block (hb.block _ (by omega))).cell hlj;have fp:os.length<=1006:=by
     rw[ap,List.length_map];have:=List.length_filter_le (cm ln i) (List.range j);rw[List.length_range]at this;omega
    have a7:=ae (vO ln i j);have b6:=ae ap;have bl:=ae f;have N:=ae hb;generalize cm ln i j=bb at *;clear ap f hb;cases bb
    ·go_wp2
     go_roundw
     case rel=>exact⟨j+1,os,by omega,by go_num,bl.u,by rw[a7.u,<-b6.u];simp,N.u⟩
     simp[intOf];omega
    go_wp2_with (at_builtin;refine zG rfl _ _ rfl (u:=(j:Int)) bl.u rfl (by omega) (ay wr _) rfl (by omega) ?_;intro v7 w7 q1 q2;obtain⟨Y,hY⟩ : ∃ Y,Y=os++[(j:Int)]:=⟨_,rfl⟩;rw[<-hY]at q1;obtain⟨ya,yc,rfl⟩:=aj q1;have HY:=ae hY;have O:=ae q1;have ab:=ae q2;clear q1 q2 hY)
    go_roundw
    case rel=>exact⟨j+1,Y,by omega,by go_num,O.u,by rw[a7.u,<-b6.u,HY.u];simp,N.u.trans ab.u⟩
    simp[intOf];omega
   obtain rfl:j=n:=by omega
   have b6:Hi (os=yI ln j i):=ap;obtain⟨pb,I,J⟩:=yo f;have t0:=(db.u.of_block (hb.block _ (by omega))).cell hlt;have eq:=B.u.lt;have HP:=ae I;have a9:=ae J;have df:=ae (a1.u.keep hb lR);have bn:=ae (B.u.on (hb.block _ eq));have N:=ae hb;obtain⟨-,-,-,-,f4⟩:=bn.u.facts;clear ap f hb I J
   go_wp2_with (at_builtin;refine rZ rfl _ _ rfl (p:=⟨.slice fva os.length fvc,os,pb⟩) df.u rfl (by omega) HP.u (fun h0=>by have:=a9.u h0;show w10.heap.size<=pb;omega) (fun q hq h0 h1=>by have h2:=a9.u h1;have h3:=(a1.u.ok q hq).lt h0;show q.b≠pb;omega) (ay wr _) rfl (by omega) ?_;intro g cap w7 q1 q2 q3;have aa:¬ ((Value.slice wa qs.length wc).ownBlock=some w2.heap.size∨wr.heap.size<=w2.heap.size):=(by rintro(h|h);(have:=(a1.u.own.lt _ h).1;omega);omega);have y:=ae (bn.u.on (q2.block _ aa));have O:=ae q1;have ab:=ae q2;obtain⟨-,-,-,-,g4⟩:=y.u.facts;have y4:=World.rowIs.frozen y.u 4;clear q1 q2 q3 aa)
   go_roundw
   case rel =>
    refine⟨i+1,_,qs++[⟨.slice fva os.length fvc,os,pb⟩],by omega,by go_num,y.u.put4 _,?_,?_,?_⟩
    ·exact LI.keepF O.u (fun k hk=>Below.heap_setCell _ _ _ _ (by have:=(LI.lt O.u hk).1;show k≠w2.heap.size;omega))
    ·rw[List.map_append,en.u,wD _ _ _ hlt,<-b6.u];rfl
    refine d9.u.trans ((bC N.u (fun k hk=>Or.inr (by omega))).trans ((ab.u.mono (fun k hk=>?_)).trans ((am _ _).fro (Or.inl rfl))));rcases hk with hk|hk
    ·exact Or.inr (a1.u.own.lt _ hk).1
    exact Or.inr (by omega)
   simp[intOf];omega
  obtain rfl:i=n:=by omega
  have aq:qs.map Cl.xs=eU ln i:=by rw[ao,List.take_of_length_le (by simp[eU])]
  have c7:=ae aq;have ds:=(e7.u.on (bd.u.block _ (by omega))).on (C.block _ (by rintro(h|h)<;>omega));have e0:=ae ds;have e1:=ae (LI.keepF (w':=V) an.u (fun k hk=>C.block k (by have:=LI.lt an.u hk;rintro(h|h)<;>omega)));have e2:=ae (ak (w':=V) be.u (fun k hk=>C.block k (by have:=be.u.lt k hk;rintro(h|h)<;>omega)));have e3:=ae (ak (w':=V) bf.u (fun k hk=>C.block k (by have:=bf.u.lt k hk;rintro(h|h)<;>omega)));clear ao aq s d C ds
  go_wp2_with (first|(refine wpList_load_row rfl 75 (.tmp 4) rfl w2.heap.size (by first|(simp[Act.eval];done)|(simp[Act.eval,Act.put];done)) 75 _ _ _ (cg.blk B.u) underlying75 rfl (by kernel_rfl) ?_)|(refine wpList_store_row rfl 75 (.tmp 2) (.tmp 85) rfl (w.heap.size+1) #[.slice sa ps.length sc,.bool A.nl,.slice fa F.length fc,.slice la Z.length lc,.slice wa qs.length wc] (by first|(simp[Act.eval];done)|(simp[Act.eval,Act.put];done)) (by first|(simp[Act.eval];done)|(simp[Act.eval,Act.put];done)) 75 _ (cg.blk e0.u) (by kernel_rfl) rfl (Fx _ _ _ _ _ _ _ _ _ _ _ _ _) ?_));refine bodyPost_ret (xF (cg.row e0.u _ _ _ _ _) rfl _ rfl) rfl ?_;have R:∀ k,k≠w.heap.size+1->(V.setRow (w.heap.size+1) #[.slice sa ps.length sc,.bool A.nl,.slice fa F.length fc,.slice la Z.length lc,.slice wa qs.length wc]).heap[k]?=V.heap[k]? :=fun k hk=>setRow_other _ _ _ _ hk
  generalize hWF:V.setRow (w.heap.size+1) #[.slice sa ps.length sc,.bool A.nl,.slice fa F.length fc,.slice la Z.length lc,.slice wa qs.length wc]=WF at *;have l1:LI _ WF _ ps:=LI.keepF e1.u (fun k hk=>R k (by have:=(LI.lt e1.u hk).1;omega));have l2:LI _ WF _ qs:=LI.keepF a1.u (fun k hk=>R k (by have:=(LI.lt a1.u hk).1;omega));have l3:=ak (w':=WF) e2.u (fun k hk=>R k (by have:=(e2.u.lt k hk).1;omega));have l4:=ak (w':=WF) e3.u (fun k hk=>R k (by have:=(e3.u.lt k hk).1;omega));have ec:ps.length<=1006:=by
   have h1:=congrArg List.length a8.u;rw[List.length_map,dy]at h1;have h2:=eT M;omega
  refine⟨_,bG M,A.nl,F,Z,eU ln i,rfl,E.u,⟨_,_,_,_,rfl,?_,(bW l3 (Nat.zero_le _) (by unfold maxLen;omega)).at,(bW l4 (Nat.zero_le _) (by unfold maxLen;omega)).at,?_⟩,?_⟩
  ·have:=(l1.footX (by unfold maxLen;omega)).at (fun k hk=>(l1.lt hk).2);rw[a8.u]at this;exact this
  ·have:=(l2.footX (by unfold maxLen;omega)).at (fun k hk=>(l2.lt hk).2);rw[c7.u]at this;exact this
  rw[<-hWF];exact(ct.u.trans (bd.u.mono (by omega))).trans ((d9.u.below (m:=w.heap.size) (fun k hk=>by rintro(h|h)<;>omega)).trans ((dY _ _ _).below (by omega)))
 have E:Hi (nI l r xs [] false [] [] []):=Or.inr ⟨b7,rfl,rfl,rfl,rfl,rfl⟩;clear a3 b7
 go_wp2_with (refine wpList_store_row rfl 75 (.tmp 2) (.tmp 14) rfl (w.heap.size+1) #[.slice none 0 0,.bool false,.slice none 0 0,.slice none 0 0,.slice none 0 0] (by simp[Act.eval]) (by simp[Act.eval]) 75 _ (cg.blk aw.u) (by kernel_rfl) rfl (Fx _ _ _ _ _ _ _ _ _ _ _ _ _) ?_)
 refine bodyPost_ret (xF (cg.row aw.u _ _ _ _ _) rfl _ rfl) rfl ?_;have hn:∀ (w':World),lM mI 0 w'.heap.size w' (.slice none 0 0) []:=fun w'=>(CV.nil mI 0 (fun _=>False) w' none 0 (Nat.zero_le _)).at (fun _ h=>h.elim)
 have e4:∀ (w':World),aK mI 0 0 w'.heap.size w' (.slice none 0 0) []:=fun w'=>⟨none,0,rfl,by unfold maxLen;simp,fun h=>absurd h (by simp)⟩
 exact⟨_,[],false,[],[],[],rfl,E.u,⟨_,_,_,_,rfl,hn _,e4 _,e4 _,hn _⟩,Q.u.trans ((dY _ _ _).below (by omega))⟩
end Go.Proofs.YtidfkbghlkcbeaaGreatDoor
