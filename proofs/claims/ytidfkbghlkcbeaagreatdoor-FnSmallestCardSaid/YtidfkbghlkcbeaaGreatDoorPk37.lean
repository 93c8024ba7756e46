import Derived.Test.YtidfkbghlkcbeaaGreatDoorPk33
import Derived.Test.YtidfkbghlkcbeaaGreatDoorPk36
import Derived.Test.YtidfkbghlkcbeaaGreatDoorPk28
import Derived.Test.YtidfkbghlkcbeaaGreatDoorPk35
namespace Go.Proofs.YtidfkbghlkcbeaaGreatDoor
open Go.RowKit Go.Proofs.Tryz
set_option maxHeartbeats 16000000
set_option maxRecDepth 100000
section
variable {n:Nat} {hs:List Int->Nat->Prop}
def Gh(n:Nat)(hs:List Int->Nat->Prop)(_:Value)(L:List El):Prop:=aN L->∃ R a ln ss,aZ n hs L R/\cK L (aS L) a ln ss/\xh n (cM hs ss) R a ln/\jx a (aS L)
theorem cK.len{L:List El}{a:It}{ln:List Lk}{ss:List (List Int)}(h:cK L (aS L) a ln ss):ss.length=aS L:=by rw[h.sets,dy]
theorem yg:fZ (Gh n hs):=by
 refine⟨?_,?_,?_,?_,?_⟩
 ·exact fun _=>⟨_,_,_,_,aZ.e,cK.e,Em,by constructor<;>simp⟩
 ·intro xs g hc hw _;exact⟨_,_,_,_,aZ.s xs,cK.s xs,Ef xs,by constructor<;>simp[aS]⟩
 ·intro u v L R hu hv hS;obtain⟨A,a,la,sa,u1,u2,u3,u4⟩:=hu hS.left.left;obtain⟨B,b,lb,sb,v1,v2,v3,v4⟩:=hv hS.left.right;have e:=lV L R 2 (by decide);have h5:jx (bY a (b.sh (aS L))) (aS L+aS R):=(u4.mono (Nat.le_add_right _ _)).cat (v4.sh (aS L));have h2:=u2.cat v2;rw[<-e]at h2 h5;exact⟨_,_,_,_,u1.cat v1,h2,BW u3 v3 u4 u2.lkb u2.len,h5⟩
 ·intro u v L R hu hv hS;obtain⟨A,a,la,sa,u1,u2,u3,u4⟩:=hu hS.left.left;obtain⟨B,b,lb,sb,v1,v2,v3,v4⟩:=hv hS.left.right;have e:=lV L R 3 (by decide);have h5:jx (cR a (b.sh (aS L))) (aS L+aS R):=(u4.mono (Nat.le_add_right _ _)).alt (v4.sh (aS L));have h2:=u2.alt v2;rw[<-e]at h2 h5;exact⟨_,_,_,_,u1.alt v1,h2,Bm u3 v3 u4 u2.lkb u2.len,h5⟩
 intro u L mn mx hu o2 o3 o4 hS;obtain⟨A,a,la,sa,u1,u2,u3,u4⟩:=hu hS.left;have e:aS (L++[⟨4,[],mn,mx⟩])=aS L:=by rw[eZ];simp[aS]
 obtain⟨e1,e2,e3⟩:=hS.right ⟨4,[],mn,mx⟩ (List.mem_singleton.2 rfl) rfl;simp only at e1 e2 e3;subst e1;have h2:=u2.rep mn (-1);have h5:jx (ed a mn) (aS L):=u4;rw[<-e]at h2 h5;exact⟨_,_,_,_,u1.rep mn (-1),h2,BX u3 u1.2 mn e2 e3,h5⟩
theorem BJ(hall:∀ i,i<n->hs [0,255] i):aZ n hs ic (fun i j=>i<=j/\j<=n):=by
 have h:=(aZ.s (n:=n) (hs:=hs) [0,255]).rep 0 (-1);have e:jr n (zn n (hs [0,255])) 0 (-1)=fun i j=>i<=j/\j<=n:=gd fun i j=>by
  constructor
  ·intro h2;exact h.2 i j h2
  rintro⟨h1,h2⟩;obtain⟨d,rfl⟩ : ∃ d,j=i+d:=⟨j-i,by omega⟩;refine⟨d,by omega,Or.inl rfl,?_⟩;clear h1
  induction d with
  | zero=>exact⟨rfl,h2⟩
  | succ d ih=>exact⟨i+d,ih (by omega),rfl,by omega,hall _ (by omega)⟩
 rw[e]at h;exact h
theorem gO:aN ic:=(aN.op (by decide) 0 0).app (aN.rep 0 (by decide) (by decide))
theorem aN.wh{L:List El}(h:aN L)(l r:Bool):aN (gD l r L):=by
 have hc:aN [⟨2,[],0,0⟩]:=aN.op (by decide) 0 0;unfold gD;cases l<;>cases r
 ·exact(((gO.app h).app hc).app gO).app hc
 ·exact(gO.app h).app hc
 ·exact(h.app gO).app hc
 exact h
theorem wu{L:List El}{R:Rl}(h:aZ n hs L R)(hall:∀ i,i<n->hs [0,255] i)(l r:Bool):∃ W,aZ n hs (gD l r L) W/\(W 0 n↔∃ i j,(i=0∨l=false)/\R i j/\(j=n∨r=false)):=by
 have ha:=BJ (n:=n) (hs:=hs) hall;unfold gD;cases l<;>cases r
 ·refine⟨_,(ha.cat h).cat ha,?_⟩
  constructor
  ·rintro⟨j,⟨i,-,h1⟩,-⟩;exact⟨i,j,Or.inr rfl,h1,Or.inr rfl⟩
  rintro⟨i,j,-,h1,-⟩;have:=h.2 _ _ h1;exact⟨j,⟨i,⟨by omega,by omega⟩,h1⟩,by omega,by omega⟩
 ·refine⟨_,ha.cat h,?_⟩
  constructor
  ·rintro⟨i,-,h1⟩;exact⟨i,n,Or.inr rfl,h1,Or.inl rfl⟩
  rintro⟨i,j,-,h1,h2⟩;have:=h.2 _ _ h1;obtain rfl:j=n:=h2.resolve_right (by decide);exact⟨i,⟨by omega,by omega⟩,h1⟩
 ·refine⟨_,h.cat ha,?_⟩
  constructor
  ·rintro⟨j,h1,-⟩;exact⟨0,j,Or.inl rfl,h1,Or.inr rfl⟩
  rintro⟨i,j,h2,h1,-⟩;have:=h.2 _ _ h1;obtain rfl:i=0:=h2.resolve_right (by decide);exact⟨j,h1,by omega,by omega⟩
 refine⟨_,h,?_⟩
 constructor
 ·intro h1;exact⟨0,n,Or.inl rfl,h1,Or.inl rfl⟩
 rintro⟨i,j,h2,h1,h3⟩;obtain rfl:i=0:=h2.resolve_right (by decide);obtain rfl:j=n:=h3.resolve_right (by decide);exact h1
end
theorem rU{xs:List Int}{g:Nat->Nat}(h:dx xs g)(b:Nat):Bt g b=true↔eF xs (b:Int):=by
 rw[h.2 b,uF];unfold eF
 constructor
 ·rintro⟨i,h1,h2⟩;exact⟨i,by omega,h2⟩
 rintro⟨i,h1,h2⟩;exact⟨i,by omega,h2⟩
def CM(e:Ending)(w w':World)(xs ys:List Int)(zs:List Bool)(nc:Int):Prop:=
 (¬ fH xs ys zs nc/\e=.returned (.agg #[.slice none 0 0,.int .i64 0,.slice none 0 0,.slice none 0 0])) ∨
 (fH xs ys zs nc/\∃ (xv nv av:Value) (k:Nat),e=.returned (.agg #[xv,.int .i64 (k:Nat),nv,av])/\
  ∃ (o ys':List Nat) (m:Nat) (num F mg G:Nat->Nat),bP (tb xs ys zs nc) o ys' m num F k mg G/\m<=1024/\k<=256/\w'.ownsRow w.heap.size 3 1 xv 256 ((gW (bP.out (tb xs ys zs nc) o ys' m num F k mg G)).map mI)/\w'.ownsRow w.heap.size 3 1 nv (m*k) ((gT (bP.out (tb xs ys zs nc) o ys' m num F k mg G)).map mI)/\w'.ownsRow w.heap.size 4 1 av m ((iO (bP.out (tb xs ys zs nc) o ys' m num F k mg G)).map mT)/\
    (∀ r,xv.ownBlock=some r->nv.ownBlock≠some r/\av.ownBlock≠some r)/\∀ r,nv.ownBlock=some r->av.ownBlock≠some r)
theorem sQ(cl nx ac:Value)(xs ys:List Int)(zs:List Bool)(nc:Int)(w:World)(h1:aK mI 0 0 w.heap.size w cl xs)(h2:aK mI 0 0 w.heap.size w nx ys)(h3:aK mT false 0 w.heap.size w ac zs)(hcap:cB nx) :
  Calls prog 9 #[.agg #[cl,.int .i64 nc,nx,ac]] w fun e w'=>CM e w w' xs ys zs nc/\Below w.heap.size w w':=by
 obtain⟨a1,c1,rfl,l1,P⟩:=id h1;obtain⟨a2,c2,rfl,l2,Q⟩:=id h2;obtain⟨a3,c3,rfl,l3,R⟩:=id h3;have B:=hcap.le.1;obtain⟨W2,i⟩ : ∃ W2,W2=(w.alloc (.cells #[.slice a1 xs.length c1,.int .i64 nc,.slice a2 ys.length c2,.slice a3 zs.length c3] 30)).alloc (.cells #[.slice none 0 0,.int .i64 0,.slice none 0 0,.slice none 0 0] 30):=⟨_,rfl⟩;have l:Below w.heap.size w W2:=by rw[i];exact aI w _ _
 have b2:W2.heap.size=w.heap.size+2:=by rw[i,ah,ah]
 have C:aC W2 w.heap.size 30 (.slice a1 xs.length c1) (.int .i64 nc) (.slice a2 ys.length c2) (.slice a3 zs.length c3):=by rw[i];exact(aC.new w _ _ _ _ _).alloc _
 have S:aC W2 (w.heap.size+1) 30 (.slice none 0 0) (.int .i64 0) (.slice none 0 0) (.slice none 0 0):=by
  have:=aC.new (w.alloc (.cells #[.slice a1 xs.length c1,.int .i64 nc,.slice a2 ys.length c2,.slice a3 zs.length c3] 30)) 30 (.slice none 0 0) (.int .i64 0) (.slice none 0 0) (.slice none 0 0);rw[ah]at this;rw[i];exact this
 have T:=ae (nE _ _ _ xs ys zs nc W2 (h1.below l lR) (h2.below l lR) (h3.below l lR));obtain⟨f0,f1,f2,f3,-⟩:=C.facts;have a6:=ae i;have a7:=ae l;have a8:=ae C;have a9:=ae S;clear i l C S h1 h2 h3 hcap
 go_enter func9,ntmps9
 go_wp2_with fail;rw[<-a6.u];refine T.u.mono ?_;rintro e w3 ⟨s,j⟩;have b3:=j.size;have b:Below w.heap.size w w3:=a7.u.trans (j.mono (by omega));have t:=a9.u.below j (by omega);obtain⟨x0,x1,x2,x3,z0,z1,z2,z3⟩:=t.facts;obtain⟨f0,f1,f2,f3,-⟩:=(a8.u.below j (by omega)).facts;rcases s.cases with ⟨rfl,hok⟩|⟨rfl,A⟩
 ·have f:=hok.len;have D:=hok.wf;have aa:=hok.st;have b4:=hok.hn;have U:=hok.cl;obtain⟨k,ad⟩ : ∃ k:Nat,nc=(k:Nat):=⟨nc.toNat,by omega⟩;subst ad;have ek:(k:Int).toNat=k:=by omega
  rw[ek]at f;obtain⟨xb,xo,rfl,-,af,V⟩:=P (by omega);obtain⟨nb,no,rfl,-,ag,g⟩:=Q (by rw[f];exact Nat.mul_pos (by omega) (by omega));obtain⟨ab,ao,rfl,-,al,h⟩:=R (by omega);have E:=(jM (tb xs ys zs (k:Int)) xb xo c1 nb no c2 ab ao c3 w3 D hok.clUp hok.full aa.2 (by show 1<=(k:Int).toNat/\(k:Int).toNat<=256;omega) (by show zs.length*(k:Int).toNat<=c2;rw[ek,<-f];exact B) (by omega) (fun q c hq hc=>⟨D.nxt q c hq hc,by
    have an:c<k:=by have:c<(k:Int).toNat:=hc;omega
    have ap:q<zs.length:=hq;show w3.cell? ⟨nb,no+(q*(k:Int).toNat+c),none⟩=some (.int .i64 (((ys[q*(k:Int).toNat+c]?.getD 0).toNat:Nat):Int));rw[ek];have W:q*k+c<ys.length:=by rw[f];exact cO ap an
    rw[b.cell (p:=⟨nb,no+(q*k+c),none⟩) ag,g _ W];have:=hok.to _ W;rw[Int.toNat_of_nonneg this.1]
    rfl⟩) (by omega) (fun q hq=>by
    rw[b.cell (p:=⟨xb,xo+q,none⟩) af,V q (by omega)];have:=hok.cls hq;show some (mI _)=some (.int .i64 (((xs[q]?.getD 0).toNat:Nat):Int));rw[Int.toNat_of_nonneg this.1]
    rfl) (by omega) (fun q hq=>by
    rw[b.cell (p:=⟨ab,ao+q,none⟩) al,h q hq]
    rfl))
  rw[show(tb xs ys zs (k:Int)).k=k from ek,show(tb xs ys zs (k:Int)).n=zs.length from rfl,<-f]at E;rw[U]at f0 ⊢;have X:=ae E;have H:=ae b;have aq:=ae hok;have ar:=ae t;clear E hok D b t f g V h P Q R U x0 x1 x2 x3 z0 z1 z2 z3 s j T
  go_wp2_with fail;refine X.u.mono ?_;rintro e w4 ⟨xv,nv,av,k2,rfl,y,o,ys',m,num,F,mg,G,hP,hm,aw,I,z,J,K,L⟩;have b5:=y.size;have M:=ar.u.below y (by omega);obtain⟨x0,x1,x2,x3,z0,z1,z2,z3⟩:=M.facts;obtain⟨oa,oc,e1⟩:=aj I;obtain⟨na,nc',e2⟩:=aj z;obtain⟨va,vc,e3⟩:=aj J;subst e1;subst e2;subst e3;obtain⟨yl,v⟩ : ∃ yl,yl=m*k2:=⟨_,rfl⟩;rw[<-v]at z K L ⊢;have x:=(((M.put0 (u:=.slice oa 256 oc)).put1 (u:=.int .i64 (k2:Nat))).put2 (u:=.slice na yl nc')).put3' (u:=.slice va m vc);have a:ce (w.heap.size+1) w4 ((((w4.setCell ⟨w.heap.size+1,0,none⟩ (.slice oa 256 oc)).setCell ⟨w.heap.size+1,1,none⟩ (.int .i64 (k2:Nat))).setCell ⟨w.heap.size+1,2,none⟩ (.slice na yl nc')).setCell ⟨w.heap.size+1,3,none⟩ (.slice va m vc)):=(((am _ _).trans (am _ _)).trans (am _ _)).trans (am _ _);have N:=ae x;have O:=ae a;have HP:=ae hP;have Y:=ae I;have Z:=ae z;have a0:=ae J;have ax:=ae K;have a4:=ae L;have b0:=ae y;have b1:=ae v;clear x a hP I z J K L y M v X;go_wp2;refine bodyPost_ret (gJ N.u rfl _ rfl) rfl ?_;have a:=O.u;have d:=H.u.trans (b0.u.mono (by omega));refine⟨.inr ⟨aq.u,_,_,_,k2,rfl,o,ys',m,num,F,mg,G,HP.u,hm,aw,aO (ak Y.u (fun r hr=>a.block r (by have:=(Y.u.lt r hr).1;omega))) (by omega),?_,aO (ak a0.u (fun r hr=>a.block r (by have:=(a0.u.lt r hr).1;omega))) (by omega),ax.u,a4.u⟩,⟨a.os.trans d.os,a.tape.trans d.tape,a.output.trans d.output,Nat.le_trans d.size (Nat.le_of_eq a.size.symm),fun k hk=>(a.block k (by omega)).trans (d.block k hk)⟩⟩;rw[<-b1.u];exact aO (ak Z.u (fun r hr=>a.block r (by have:=(Z.u.lt r hr).1;omega))) (by omega)
 have H:=ae b;have a5:=ae A;have x:=(((t.put0 (u:=.slice none 0 0)).put1 (u:=.int .i64 0)).put2 (u:=.slice none 0 0)).put3' (u:=.slice none 0 0);have a:ce (w.heap.size+1) w3 ((((w3.setCell ⟨w.heap.size+1,0,none⟩ (.slice none 0 0)).setCell ⟨w.heap.size+1,1,none⟩ (.int .i64 0)).setCell ⟨w.heap.size+1,2,none⟩ (.slice none 0 0)).setCell ⟨w.heap.size+1,3,none⟩ (.slice none 0 0)):=(((am _ _).trans (am _ _)).trans (am _ _)).trans (am _ _);have N:=ae x;have O:=ae a;clear b A x a t s j;go_wp2;refine bodyPost_ret (gJ N.u rfl _ rfl) rfl ?_;have a:=O.u;have d:=H.u;exact⟨.inl ⟨a5.u,rfl⟩,⟨a.os.trans d.os,a.tape.trans d.tape,a.output.trans d.output,Nat.le_trans d.size (Nat.le_of_eq a.size.symm),fun k hk=>(a.block k (by omega)).trans (d.block k hk)⟩⟩
def iL(X:List Nat):List Int:=X.map fun (x:Nat)=>(x:Int)
theorem Dw{X Y:List Nat}:iL X=iL Y↔X=Y:=by
 constructor
 ·intro h;have:=congrArg (List.map Int.toNat) h
  simpa[iL,Function.comp_def]using this
 intro h;rw[h]
def AL(ps:List (Value×List Nat×Bool)):List Value:=ps.flatMap fun p=>[p.1,.bool p.2.2]
theorem tQ(ps:List (Value×List Nat×Bool)){i:Nat}{p:Value×List Nat×Bool}(h:ps[i]?=some p):(AL ps)[i*2]?=some p.1/\(AL ps)[i*2+1]?=some (.bool p.2.2):=by
 induction ps generalizing i with
 | nil=>simp at h
 | cons a ps ih =>
  cases i with
  | zero=>simp at h;subst h;simp[AL]
  | succ i =>
   simp only[List.getElem?_cons_succ]at h;obtain⟨h1,h2⟩:=ih h;have e1:(i+1)*2=i*2+1+1:=by omega
   have e2:(i+1)*2+1=i*2+1+1+1:=by omega
   rw[e1];exact⟨by simpa[AL]using h1,by simpa[AL]using h2⟩
theorem As(ps:List (Value×List Nat×Bool))(p:Value×List Nat×Bool):AL (ps++[p])=AL ps++[p.1,.bool p.2.2]:=by simp[AL]
structure ED (w:World) (base:Nat) (lv:Value) (ps:List (Value×List Nat×Bool)):Prop where
 own:w.ownsRow base 79 2 lv ps.length (AL ps)
 at_:∀ p∈ps,aK mI 0 0 w.heap.size w p.1 (iL p.2.1)/\(0<p.2.1.length->∀ b off n c,p.1=.slice (some ⟨b,off,none⟩) n c->lv.ownBlock≠some b)
theorem jA{base e n:Nat}{w:World}{v:Value}{xs:List Value}(h:w.ownsRow base e 2 v n xs)(hp:0<n):∃ g cap,v=.slice (some ⟨g,0,none⟩) n cap/\base<=g/\g<w.heap.size/\∀ j,j<n*2->w.cell? ⟨g,j,none⟩=xs[j]? :=by
 rcases h.2 with ⟨rfl,hz⟩|⟨g,cap,cur,rfl,a,hg,c,d,f,b⟩
 ·omega
 exact⟨g,cap,rfl,a,(h.lt g rfl).2,fun j hj=>h.cellAt j hj⟩
def Fw(x:Ending)(ps:List (Value×List Nat×Bool))(X:List Nat)(e:Bool):Prop:=
 (x=.returned (.int .i64 (-1))/\∀ (i:Nat) (p:Value×List Nat×Bool),ps[i]?=some p->p.2≠(X,e))∨∃ i:Nat,x=.returned (.int .i64 (i:Nat))/\∃ p,ps[i]?=some p/\p.2=(X,e)
theorem tH(base:Nat)(lv pv:Value)(ps:List (Value×List Nat×Bool))(X:List Nat)(e:Bool)(w:World)(hl:ED w base lv ps)(hn:ps.length<=100000)(hp:aK mI 0 0 w.heap.size w pv (iL X)) :
  Calls prog 40 #[lv,.agg #[pv,.bool e]] w fun x w'=>Below w.heap.size w w'/\Fw x ps X e:=by
 obtain⟨pa,pc,rfl,-,-⟩:=id hp;obtain⟨la,lc,rfl⟩:=aj hl.own;obtain⟨W1,c⟩ : ∃ W1,W1=w.alloc (.cells #[.slice pa (iL X).length pc,.bool e] 79):=⟨_,rfl⟩;have r:Below w.heap.size w W1:=by rw[c];exact ai w _
 have s:eO W1 w.heap.size 79 (.slice pa (iL X).length pc) (.bool e):=by rw[c];exact eO.new w _ _ _
 have I:w.heap.size+1<=W1.heap.size:=by rw[c,ah];omega
 have HL:=ae hl;have HP:=ae hp;have t:=ae c;have o:=ae r;have G:=ae s;clear hl hp c r s
 go_enter func40,ntmps40
 go_wp2_with fail;rw[<-t.u];clear t
 go_loopw [5] (fun iv wr=>∃ i:Nat,i<=ps.length/\iv=.int .i64 (i:Nat)/\Below W1.heap.size W1 wr/\∀ (j:Nat) (p:Value×List Nat×Bool),j<i->ps[j]?=some p->p.2≠(X,e)) (fun iv _=>ps.length-(intOf iv).toNat)
 case atStart=>exact⟨0,by omega,rfl,Below.refl _ _,fun j p hj=>by omega⟩
 obtain⟨i,hi,rfl,hB,k⟩:=hrel;obtain⟨w2,rfl⟩ : ∃ w2,w2=wr:=⟨_,rfl⟩;have H:=hB.size
 by_cases hlt:i<ps.length
 ·have v:(i:Int)<(ps.length:Int):=by omega
  obtain⟨p,l⟩ : ∃ p,ps[i]?=some p:=⟨_,List.getElem?_eq_getElem hlt⟩;obtain⟨lg,lcap,e9,-,y,a⟩:=jA HL.u.own (by omega);obtain⟨f1,f2⟩:=tQ ps l;obtain⟨m,-⟩:=HL.u.at_ p (List.mem_of_getElem? l);have d:Below w.heap.size w w2:=o.u.trans (hB.mono (by omega));have y0:w2.cell? ⟨lg,i*2,none⟩=some p.1:=by rw[d.cell (p:=⟨lg,i*2,none⟩) y,a _ (by omega),f1]
  have y1:w2.cell? ⟨lg,i*2+1,none⟩=some (.bool p.2.2):=by rw[d.cell (p:=⟨lg,i*2+1,none⟩) y,a _ (by omega),f2]
  obtain⟨x0,x1⟩:=(G.u.on (hB.block _ (by omega))).cells;obtain⟨qv,Z,f⟩:=p;simp only at y0 y1 m;obtain⟨qa,qc,rfl,-,-⟩:=id m;have HC:=ae (mE (.slice qa (iL Z).length qc) (.slice pa (iL X).length pc) (iL Z) (iL X) f e w2.drew (m.below d.drew lR) (HP.u.below d.drew lR));have z:=ae l;have q:=ae k;have HB:=ae hB;have A:la=some ⟨lg,0,none⟩/\lc=lcap:=by simpa using e9
  obtain⟨rfl,rfl⟩:=A;clear l k hB a f1 f2 m d e9
  go_wp2_with fail
  go_region_with (go_at_call 73;refine HC.u.mono ?_;rintro x w3 ⟨hr,b⟩;have B:=ae hr;obtain⟨rr,hrr,-⟩:=hr;subst hrr)
  all_goals
   have C:Below w2.heap.size w2 w3:=⟨b.os,b.tape,b.output,b.size,b.block⟩;have g:Below W1.heap.size W1 w3:=HB.u.trans (C.mono H);have n:=ae g;have J:=g.size;obtain⟨r9,h9,D⟩:=B.u;cases h9;have HI:=ae D;clear D b C g B HC y0 y1 x0 x1 HB;cases rr
   ·go_wp2
    go_roundw
    case rel=>exact⟨i+1,by omega,by go_num,n.u,fun j p hj hp=>(by
     by_cases e9:j=i
     ·subst e9;rw[z.u]at hp;cases hp;intro hh;cases hh;have:=HI.u.2 ⟨rfl,rfl⟩;cases this
     exact q.u j p (by omega) hp)⟩
    simp[intOf];omega
   have h:=HI.u.1 rfl;have E:=Dw.1 h.1;have F:=h.2;have HZ:=ae E;have HF:=ae F;clear h E F;go_wp2;go_ret;exact⟨o.u.trans (n.u.mono (by omega)),.inr ⟨i,rfl,_,z.u,by rw[<-HZ.u,<-HF.u]⟩⟩
 have v:¬ (i:Int)<(ps.length:Int):=by omega
 obtain rfl:i=ps.length:=by omega
 have q:=ae k;have HB:=ae hB;clear k hB;go_wp2;go_ret;exact⟨o.u.trans (HB.u.mono (by omega)),.inl ⟨rfl,fun j p hp=>q.u j p (List.getElem?_eq_some_iff.1 hp).1 hp⟩⟩
structure pK (w wr:World) (N:Nat) (sv fv lv wv pv:Value) (nl e0:Bool) (mk:Nat->Bool) (ee:Bool) (ov:Value):Prop where
 a:cg wr w.heap.size sv nl fv lv wv
 p:eO wr (w.heap.size+1) 79 pv (.bool e0)
 r:eO wr (w.heap.size+2) 79 (.slice none 0 0) (.bool false)
 m:wr.rowIs (w.heap.size+3) 4 N (fun j=>.bool (mk j))
 o:eO wr (w.heap.size+4) 79 ov (.bool ee)
 lo:Below w.heap.size w wr
 z:w.heap.size+5<=wr.heap.size
section
variable {w wr wr':World} {N:Nat} {sv fv lv wv pv ov:Value} {nl e0 ee:Bool} {mk:Nat->Bool}
theorem pK.keep(h:pK w wr N sv fv lv wv pv nl e0 mk ee ov)(hb:Below (w.heap.size+5) wr wr'):pK w wr' N sv fv lv wv pv nl e0 mk ee ov:=
 ⟨h.a.on (hb.block _ (by omega)),h.p.on (hb.block _ (by omega)),h.r.on (hb.block _ (by omega)),h.m.of_block (hb.block _ (by omega)),h.o.on (hb.block _ (by omega)),h.lo.trans (hb.mono (by omega)),Nat.le_trans h.z hb.size⟩
theorem pK.mark(h:pK w wr N sv fv lv wv pv nl e0 mk ee ov)(y:Nat):pK w (wr.setCell ⟨w.heap.size+3,y,none⟩ (.bool true)) N sv fv lv wv pv nl e0 (fun j=>if j=y then true else mk j) ee ov:=by
 have hb:=am (w:=wr) (b:=w.heap.size+3) y (.bool true);refine⟨h.a.on (hb.block _ (by omega)),h.p.on (hb.block _ (by omega)),h.r.on (hb.block _ (by omega)),(World.rowIs.set h.m y _).congr (fun j _=>by by_cases e:j=y<;>simp[e]),h.o.on (hb.block _ (by omega)),h.lo.trans ⟨hb.os,hb.tape,hb.output,Nat.le_of_eq hb.size.symm,fun k hk=>hb.block k (by omega)⟩,by rw[hb.size];exact h.z⟩
theorem pK.yes(h:pK w wr N sv fv lv wv pv nl e0 mk ee ov):pK w (wr.setCell ⟨w.heap.size+4,1,none⟩ (.bool true)) N sv fv lv wv pv nl e0 mk true ov:=by
 have hb:=am (w:=wr) (b:=w.heap.size+4) 1 (.bool true);exact⟨h.a.on (hb.block _ (by omega)),h.p.on (hb.block _ (by omega)),h.r.on (hb.block _ (by omega)),h.m.of_block (hb.block _ (by omega)),h.o.put1,h.lo.trans ⟨hb.os,hb.tape,hb.output,Nat.le_of_eq hb.size.symm,fun k hk=>hb.block k (by omega)⟩,by rw[hb.size];exact h.z⟩
theorem pK.out(h:pK w wr N sv fv lv wv pv nl e0 mk ee ov)(u:Value):pK w (wr.setCell ⟨w.heap.size+4,0,none⟩ u) N sv fv lv wv pv nl e0 mk ee u:=by
 have hb:=am (w:=wr) (b:=w.heap.size+4) 0 u;exact⟨h.a.on (hb.block _ (by omega)),h.p.on (hb.block _ (by omega)),h.r.on (hb.block _ (by omega)),h.m.of_block (hb.block _ (by omega)),h.o.put0,h.lo.trans ⟨hb.os,hb.tape,hb.output,Nat.le_of_eq hb.size.symm,fun k hk=>hb.block k (by omega)⟩,by rw[hb.size];exact h.z⟩
theorem pK.congr(h:pK w wr N sv fv lv wv pv nl e0 mk ee ov){mk':Nat->Bool}(e:∀ j,j<N->mk j=mk' j):pK w wr N sv fv lv wv pv nl e0 mk' ee ov:=
 ⟨h.a,h.p,h.r,h.m.congr (fun j hj=>by rw[e j hj]),h.o,h.lo,h.z⟩
end
def Dx(mk:Nat->Bool)(Y:List Nat):Nat->Bool:=fun j=>mk j||Y.contains j
theorem xE(mk:Nat->Bool)(Y:List Nat)(y j:Nat):Dx mk (Y++[y]) j=(if j=y then true else Dx mk Y j):=by
 unfold Dx
 by_cases e:j=y
 ·subst e;simp
 simp[e]
theorem tE(S W:List (List Int))(F L:List Int)(nl e0:Bool)(sv fv lv wv pv:Value)(X:List Nat)(b N:Nat)(hold fol:Nat->Nat->Bool)(last:Nat->Bool)(w:World)(hS:lM mI 0 w.heap.size w sv S)(hF:aK mI 0 0 w.heap.size w fv F)(hL:aK mI 0 0 w.heap.size w lv L)(hW:lM mI 0 w.heap.size w wv W)(hp:aK mI 0 0 w.heap.size w pv (X.map fun (x:Nat)=>(x:Int)))
  (hSn:S.length=N)(hWn:W.length=N)(hN:N<=512)(hX:∀ x∈X,x<N)(hSl:∀ i:Nat,i<N->(S[i]?.getD []).length<=1048576)(hh:∀ i,i<N->(hold i b=true↔eF (S[i]?.getD []) (b:Int)))(hf:∀ i,i<N->W[i]?.getD []=((List.range N).filter (fol i)).map fun (j:Nat)=>(j:Int))(hl:∀ i:Nat,i<N->(last i=true↔(i:Int)∈L)) :
  Calls prog 39 #[.agg #[sv,.bool nl,fv,lv,wv],.agg #[pv,.bool e0],.int .i64 (b:Nat)] w fun x w'=>∃ ov:Value,x=.returned (.agg #[ov,.bool (bN N hold fol last (X,e0) b).2])/\w'.ownsRow w.heap.size 3 1 ov (bN N hold fol last (X,e0) b).1.length ((bN N hold fol last (X,e0) b).1.map mN)/\Below w.heap.size w w':=by
 obtain⟨sa,sc,rfl,E,aa⟩:=id hS;obtain⟨fa,fc,rfl,-,-⟩:=id hF;obtain⟨la,lc,rfl,-,-⟩:=id hL;obtain⟨wa,wc,rfl,G,ab⟩:=id hW;obtain⟨pa,pc,rfl,ax,ad⟩:=id hp;rw[List.length_map]at ax ad;rw[hSn]at E aa;rw[hWn]at G ab;simp only[List.length_map,hSn,hWn];have H:=run_make_row' (P:=prog) 28 4 (.bool false) 1 underlying28 Tryz.zinBoR rfl .i64 .i64 N (by omega) (by omega);obtain⟨W5,d⟩ : ∃ W5,W5=((((w.alloc (.cells #[.slice sa N sc,.bool nl,.slice fa F.length fc,.slice la L.length lc,.slice wa N wc] 75)).alloc (.cells #[.slice pa X.length pc,.bool e0] 79)).alloc (.cells #[.slice none 0 0,.bool false] 79)).alloc (.cells (madeCells #[.bool false] N) 4)).alloc (.cells #[.slice none 0 0,.bool false] 79):=⟨_,rfl⟩;have b0:Below w.heap.size w W5:=by
  rw[d];exact(((aI w _ _).alloc (by rw[ah,ah];omega) _).alloc (by rw[ah,ah,ah];omega) _).alloc (by rw[ah,ah,ah,ah];omega) _
 have I:pK w W5 N (.slice sa N sc) (.slice fa F.length fc) (.slice la L.length lc) (.slice wa N wc) (.slice pa X.length pc) nl e0 (fun _=>false) false (.slice none 0 0):=by
  refine⟨?_,?_,?_,?_,?_,b0,by rw[d];simp only[ah];omega⟩
  ·rw[d];exact World.rowIs.alloc (World.rowIs.alloc (World.rowIs.alloc (World.rowIs.alloc (cg.new w _ _ _ _ _) _) _) _) _
  ·rw[d];have:=eO.new (w.alloc (.cells #[.slice sa N sc,.bool nl,.slice fa F.length fc,.slice la L.length lc,.slice wa N wc] 75)) 79 (.slice pa X.length pc) (.bool e0);rw[ah]at this;exact((this.alloc _).alloc _).alloc _
  ·rw[d];have:=eO.new ((w.alloc (.cells #[.slice sa N sc,.bool nl,.slice fa F.length fc,.slice la L.length lc,.slice wa N wc] 75)).alloc (.cells #[.slice pa X.length pc,.bool e0] 79)) 79 (.slice none 0 0) (.bool false);simp only[ah]at this;exact(this.alloc _).alloc _
  ·rw[d];have:=World.rowIs_made (((w.alloc (.cells #[.slice sa N sc,.bool nl,.slice fa F.length fc,.slice la L.length lc,.slice wa N wc] 75)).alloc (.cells #[.slice pa X.length pc,.bool e0] 79)).alloc (.cells #[.slice none 0 0,.bool false] 79)) (.bool false) N 4;simp only[ah]at this;exact this.alloc _
  rw[d];have:=eO.new ((((w.alloc (.cells #[.slice sa N sc,.bool nl,.slice fa F.length fc,.slice la L.length lc,.slice wa N wc] 75)).alloc (.cells #[.slice pa X.length pc,.bool e0] 79)).alloc (.cells #[.slice none 0 0,.bool false] 79)).alloc (.cells (madeCells #[.bool false] N) 4)) 79 (.slice none 0 0) (.bool false);simp only[ah]at this;exact this
 have b1:=ae d;have U:=ae I;have HL:=ae hL;have bo:=ae aa;have bp:=ae ab;have bq:=ae ad;have br:=ae hSl;have HX:=ae hX;have HH:=ae hh;have HF:=ae hf;have b2:=ae hl;clear hS hF hL hW hp d I b0 aa ab ad hSl hX hh hf hl hSn hWn E G;unfold maxLen at ax
 go_enter func39,ntmps39
 go_wp2_with fail;rw[<-b1.u];clear b1 H;simp only[Nat.add_assoc,Nat.reduceAdd]
 go_loopw [9] (fun iv wr=>∃ i:Nat,i<=X.length/\iv=.int .i64 (i:Nat)/\pK w wr N (.slice sa N sc) (.slice fa F.length fc) (.slice la L.length lc) (.slice wa N wc) (.slice pa X.length pc) nl e0 (fun j=>(X.take i).any fun x=>hold x b&&fol x j) ((X.take i).any fun x=>hold x b&&last x) (.slice none 0 0)) (fun iv _=>X.length-(intOf iv).toNat)
 case atStart=>exact⟨0,by omega,rfl,by simpa using U.u⟩
 clear U;obtain⟨i,hi,rfl,hM⟩:=hrel;obtain⟨w1,rfl⟩ : ∃ w1,w1=wr:=⟨_,rfl⟩;obtain⟨p0,p1⟩:=hM.p.cells
 by_cases hlt:i<X.length
 ·have b3:(i:Int)<(X.length:Int):=by omega
  obtain⟨x,hx⟩ : ∃ x,X[i]?=some x:=⟨_,List.getElem?_eq_getElem hlt⟩;have g:=HX.u x (List.mem_of_getElem? hx);have ci:(x:Int)<(N:Int):=by omega
  obtain⟨pb,po,era,-,bs,l⟩:=bq.u (by omega);have y0:w1.cell? ⟨pb,po+i,none⟩=some (.int .i64 (x:Nat)):=by
   rw[hM.lo.cell (p:=⟨pb,po+i,none⟩) bs,l i hlt,List.getElem?_map,hx];rfl
  obtain⟨sb,so,esa,bt,a5⟩:=bo.u (by omega);obtain⟨s,b4,af,-⟩:=a5 x g;have y1:w1.cell? ⟨sb,so+x,none⟩=some s:=by rw[hM.lo.cell (p:=⟨sb,so+x,none⟩) bt];exact b4
  obtain⟨ss,scap,es,-,-⟩:=id af;obtain⟨a0,a1,a2,a3,a4⟩:=hM.a.facts;obtain⟨rh,ag⟩ : ∃ rh,rh=hold x b:=⟨_,rfl⟩;have al:=ae (zZ s _ b w1.heap.size rh w1 (by rw[ag];exact HH.u x g) (af.below hM.lo lR) lR (br.u x g));have a6:∀ p:Nat->Bool,(X.take (i+1)).any p=((X.take i).any p||p x):=fun p=>by rw[List.take_add_one,hx,List.any_append];simp
  obtain⟨mk0,J⟩ : ∃ mk0:Nat->Bool,mk0=fun j=>(X.take i).any fun x=>hold x b&&fol x j:=⟨_,rfl⟩
  obtain⟨ee0,K⟩ : ∃ ee0:Bool,ee0=(X.take i).any fun x=>hold x b&&last x:=⟨_,rfl⟩
  rw[<-J,<-K]at hM;have HM:=ae hM;have n:=ae a6;have a7:=ae J;have a8:=ae K;have V:=ae ag;obtain⟨sn,b5⟩ : ∃ sn,sn=(S[x]?.getD []).length:=⟨_,rfl⟩;rw[<-b5]at es;subst es;subst era;subst esa;clear hM a6 J K ag b4 af a5 l hx b5;cases rh
  ·go_wp2_with fail;refine al.u.mono ?_;rintro e w2 ⟨rfl,rfl⟩;go_wp2
   go_roundw
   case rel =>
    refine⟨i+1,by omega,by go_num,?_⟩;have h:=HM.u;simp only[n.u,<-V.u,Bool.false_and,Bool.or_false];rw[a7.u,a8.u]at h;exact h
   simp[intOf];omega
  obtain⟨wb,wo,ewa,b6,a9⟩:=bp.u (by omega);obtain⟨t,an,ao,-⟩:=a9 x g;obtain⟨Yx,M⟩ : ∃ Yx,Yx=(List.range N).filter (fol x):=⟨_,rfl⟩;rw[HF.u x g,<-M]at ao;have bv:Yx.length<=512:=by
   rw[M];exact Nat.le_trans (List.length_filter_le _ _) (by rw[List.length_range];exact hN)
  have b7:∀ q,q<N->Yx.contains q=fol x q:=fun q hq=>by
   rw[M,Bool.eq_iff_iff,List.contains_iff_mem,List.mem_filter,List.mem_range];exact⟨fun h=>h.2,fun h=>⟨hq,h⟩⟩
  have b8:∀ y∈Yx,y<N:=fun y hy=>by
   rw[M,List.mem_filter,List.mem_range]at hy;exact hy.1
  obtain⟨ta,tc,et,-,ap⟩:=id ao;rw[List.length_map]at et ap;subst et;subst ewa;have bx:=ae an;have bz:=ae ap;have c2:=ae b7;have c3:=ae b8;have A:w1.cell? ⟨wb,wo+x,none⟩=some (.slice ta Yx.length tc):=by rw[HM.u.lo.cell (p:=⟨wb,wo+x,none⟩) b6];exact an
  clear a9 an ao M ap b7 b8
  go_wp2_with fail;refine al.u.mono ?_;rintro e w2 ⟨rfl,rfl⟩
  go_wp2_with fail;clear p0 p1 y0 y1 a0 a1 a2 a3 a4 A al
  go_loopw [11] (fun jv wx=>∃ j:Nat,j<=Yx.length/\jv=.int .i64 (j:Nat)/\pK w wx N (.slice (some ⟨sb,so,none⟩) N sc) (.slice fa F.length fc) (.slice la L.length lc) (.slice (some ⟨wb,wo,none⟩) N wc) (.slice (some ⟨pb,po,none⟩) X.length pc) nl e0 (Dx mk0 (Yx.take j)) ee0 (.slice none 0 0)) (fun jv _=>Yx.length-(intOf jv).toNat)
  case atStart=>exact⟨0,by omega,rfl,HM.u.congr (fun j _=>by simp[Dx])⟩
  clear HM;obtain⟨j,hj,rfl,hM⟩:=hrel;obtain⟨w3,rfl⟩ : ∃ w3,w3=wr:=⟨_,rfl⟩;obtain⟨a0,a1,a2,a3,a4⟩:=hM.a.facts;have A:w3.cell? ⟨wb,wo+x,none⟩=some (.slice ta Yx.length tc):=by rw[hM.lo.cell (p:=⟨wb,wo+x,none⟩) b6];exact bx.u
  by_cases hjl:j<Yx.length
  ·have b9:(j:Int)<(Yx.length:Int):=by omega
   obtain⟨y,hy⟩ : ∃ y,Yx[j]?=some y:=⟨_,List.getElem?_eq_getElem hjl⟩;have c4:=c3.u y (List.mem_of_getElem? hy);have ck:(y:Int)<(N:Int):=by omega
   obtain⟨tb,to',eta,-,c5,B⟩:=bz.u (by omega);have y0:w3.cell? ⟨tb,to'+j,none⟩=some (.int .i64 (y:Nat)):=by
    rw[hM.lo.cell (p:=⟨tb,to'+j,none⟩) c5,B j hjl,List.getElem?_map,hy];rfl
   have m0:=hM.m.cell (i:=y) c4;have m1:=hM.m.frozen y;have O:=(hM.mark y).congr (mk':=Dx mk0 (Yx.take (j+1))) (fun q _=>by rw[List.take_add_one,hy];exact(xE mk0 (Yx.take j) y q).symm);have Q:=ae O;subst eta;clear hM O hy B;go_wp2
   go_roundw
   case rel=>exact⟨j+1,by omega,by go_num,Q.u⟩
   simp[intOf];omega
  have b9:¬ (j:Int)<(Yx.length:Int):=by omega
  obtain rfl:j=Yx.length:=by omega
  have O:=hM.congr (mk':=fun q=>(X.take (i+1)).any fun x=>hold x b&&fol x q) (fun q hq=>by
   rw[n.u,<-V.u,Bool.true_and,a7.u];simp only[Dx,List.take_length,c2.u q hq])
  have cl:=hM.lo.size;have aq:=ae (py (.slice la L.length lc) L (x:Nat) w3 (HL.u.below hM.lo lR));have o1:=hM.o.cells.2;have o2:=World.rowIs.frozen hM.o 1;have Q:=ae O;clear hM O
  go_wp2_with fail;refine aq.u.mono ?_;rintro e w4 ⟨hr,q,rfl⟩;have f:=Q.u.keep (wr':=w3.drewN q) ⟨rfl,rfl,rfl,Nat.le_refl _,fun _ _=>rfl⟩;rcases hr.cases with ⟨rfl,bb⟩|⟨rfl,c6⟩
  ·have I:=f.yes;have Y:(true:Bool)=(X.take (i+1)).any fun x=>hold x b&&last x:=by rw[n.u,<-V.u,Bool.true_and,(b2.u x g).2 bb,Bool.or_true]
   have c7:=ae Y;have U:=ae I;clear f I Y Q aq hr;go_wp2
   go_roundw
   case rel=>exact⟨i+1,by omega,by go_num,by rw[<-c7.u];exact U.u⟩
   simp[intOf];omega
  have Y:ee0=(X.take (i+1)).any fun x=>hold x b&&last x:=by
   rw[n.u,<-V.u,Bool.true_and,a8.u];have:last x=false:=by
    cases hlx:last x
    ·rfl
    exact absurd ((b2.u x g).1 hlx) c6
   rw[this,Bool.or_false]
  rw[Y]at f;have ar:=ae f;clear f Q aq hr;go_wp2
  go_roundw
  case rel=>exact⟨i+1,by omega,by go_num,ar.u⟩
  simp[intOf];omega
 have b3:¬ (i:Int)<(X.length:Int):=by omega
 obtain rfl:i=X.length:=by omega
 rw[List.take_length]at hM;obtain⟨mk,H⟩ : ∃ mk:Nat->Bool,mk=fun j=>X.any fun x=>hold x b&&fol x j:=⟨_,rfl⟩
 obtain⟨ee,av⟩ : ∃ ee:Bool,ee=X.any fun x=>hold x b&&last x:=⟨_,rfl⟩
 rw[<-H,<-av]at hM;have ca:=ae H;have cb:=ae av;have HM:=ae hM;have cp:N<=512:=hN;clear hM H av
 go_wp2_with fail;clear p0 p1
 go_loopw [12] (fun iv wr=>∃ (i:Nat) (ov:Value),i<=N/\iv=.int .i64 (i:Nat)/\pK w wr N (.slice sa N sc) (.slice fa F.length fc) (.slice la L.length lc) (.slice wa N wc) (.slice pa X.length pc) nl e0 mk ee ov/\wr.ownsRow (w.heap.size+5) 3 1 ov ((List.range i).filter mk).length (((List.range i).filter mk).map mN)) (fun iv _=>N-(intOf iv).toNat)
 case atStart=>exact⟨0,_,by omega,rfl,HM.u,World.ownsRow_nil _ _ _ _⟩
 clear HM;obtain⟨i,ov,hi,rfl,hM,c⟩:=hrel;obtain⟨w2,rfl⟩ : ∃ w2,w2=wr:=⟨_,rfl⟩;obtain⟨Yi,C⟩ : ∃ Yi,Yi=(List.range i).filter mk:=⟨_,rfl⟩;rw[<-C]at c;have bv:Yi.length<=512:=by
  rw[C];exact Nat.le_trans (List.length_filter_le _ _) (by rw[List.length_range];omega)
 obtain⟨oa,oc,rfl⟩:=aj c;obtain⟨o0,o1⟩:=hM.o.cells;have bc:=hM.z
 by_cases hil:i<N
 ·have bd:(i:Int)<(N:Int):=by omega
  have m0:=hM.m.cell (i:=i) hil;have aw:(List.range (i+1)).filter mk=Yi++(if mk i then [i] else []):=by rw[List.range_succ,List.filter_append,C];simp[List.filter_cons]
  obtain⟨mi,be⟩ : ∃ mi,mi=mk i:=⟨_,rfl⟩;rw[<-be]at m0 aw;have HM:=ae hM;have HO:=ae c;have bf:=ae aw;clear hM c aw be C;cases mi
  ·go_wp2
   go_roundw
   case rel=>exact⟨i+1,_,by omega,by go_num,HM.u,by rw[bf.u];simpa using HO.u⟩
   simp[intOf];omega
  go_wp2_with (at_builtin;refine dz rfl _ _ rfl (w.heap.size+5) (.slice oa Yi.length oc) rfl i rfl Yi HO.u bc (by omega) ?_)
  intro ov3 w3 r1 r2 r3;have bl:Below (w.heap.size+5) w2 w3:=r2.belowG HO.u lR bc;have Z:=HM.u.keep bl;have r1:w3.ownsRow (w.heap.size+5) 3 1 ov3 (Yi++[i]).length ((Yi++[i]).map mN):=by rw[List.length_append,List.map_append];exact r1
  have f:=Z.out ov3;have R:=ak (w':=w3.setCell ⟨w.heap.size+4,0,none⟩ ov3) r1 (fun q hq=>(am 0 _).block q (by have:=(r1.lt q hq).1;omega));have c0:=Z.o.cells.1;have c1:=World.rowIs.frozen Z.o 0;obtain⟨oa3,oc3,e3⟩:=aj r1;obtain⟨l3,bn⟩ : ∃ l3,l3=(Yi++[i]).length:=⟨_,rfl⟩;rw[<-bn]at e3;subst e3;have ar:=ae f;have cc:=ae R;clear r1 r2 r3 bl Z f R o0 o1 m0 HM HO bn;go_wp2
  go_roundw
  case rel=>exact⟨i+1,_,by omega,by go_num,ar.u,by rw[bf.u];exact cc.u⟩
  simp[intOf];omega
 have bd:¬ (i:Int)<(N:Int):=by omega
 obtain rfl:i=N:=by omega
 obtain⟨r0,r1⟩:=hM.r.cells;have rf0:=World.rowIs.frozen hM.r 0;have rf1:=World.rowIs.frozen hM.r 1;have HM:=ae hM;have HO:=ae c;have cf:=ae C;clear hM c C;go_wp2;generalize hWf:World.setCell _ _ _=Wf;have D:ce (w.heap.size+2) w2 Wf:=by rw[<-hWf];exact(am _ _).trans (am _ _)
 have ch:eO Wf (w.heap.size+2) 79 (.slice oa Yi.length oc) (.bool ee):=by rw[<-hWf];exact HM.u.r.put0.put1
 obtain⟨x0,x1⟩:=ch.cells;refine bodyPost_ret (v:=.agg #[.slice oa Yi.length oc,.bool ee]) (by simp[results,results39,go_sem,x0,x1]) rfl ?_;have T:=HM.u.lo;have e1:(bN i hold fol last (X,e0) b).1=Yi:=by rw[cf.u,ca.u];rfl
 have e2:(bN i hold fol last (X,e0) b).2=ee:=by rw[cb.u];rfl
 rw[e1,e2];exact⟨_,rfl,aO (ak HO.u (fun q hq=>D.block q (by have:=(HO.u.lt q hq).1;omega))) (by omega),⟨D.os.trans T.os,D.tape.trans T.tape,D.output.trans T.output,Nat.le_trans T.size (Nat.le_of_eq D.size.symm),fun k hk=>(D.block k (by omega)).trans (T.block k hk)⟩⟩
end Go.Proofs.YtidfkbghlkcbeaaGreatDoor
