import Derived.Test.YtidfkbghlkcbeaaGreatDoorB0
import Derived.Deep.QuietTactic
import Derived.BigQuiet
import Derived.WalkSmall
namespace Go.Proofs.YtidfkbghlkcbeaaGreatDoor
open Go.RowKit Go.Proofs.Tryz
set_option maxHeartbeats 16000000
set_option maxRecDepth 100000
def ni(xs:List Int)(i:Nat):Prop:=xs[i]?.getD 0<=xs[i+1]?.getD 0/\(0<i->2<=xs[i]?.getD 0-xs[i-1]?.getD 0)
def cZ(xs:List Int):Prop:=
 xs.length%2=0/\(∀ i:Nat,i<xs.length->0<=xs[i]?.getD 0/\xs[i]?.getD 0<=255)/\∀ m:Nat,2*m<xs.length->ni xs (2*m)
theorem su(v:Value)(xs:List Int)(w:World)(hv:aR 0 w.heap.size w v xs) :
  Calls prog 103 #[v] w fun e w'=>aJ e (cZ xs)/\Below w.heap.size w w':=by
 obtain⟨a,cap,rfl,hl,hr,hc⟩:=hv;unfold maxLen at hl
 by_cases hev:xs.length%2=0
 ·have o:((xs.length:Int)%2 != 0)=false:=by simp;omega
  go_enter func103,ntmps103
  go_wp2
  go_loop [3] (fun i=>∃ k:Nat,k<=xs.length/\i=.int .i64 k/\∀ j:Nat,j<k->0<=xs[j]?.getD 0/\xs[j]?.getD 0<=255) (fun i=>xs.length-(intOf i).toNat)
  case atStart=>exact⟨0,Nat.zero_le _,rfl,fun j hj=>absurd hj (Nat.not_lt_zero _)⟩
  obtain⟨k,hk,rfl,g⟩:=hrel
  by_cases hlt:k<xs.length
  ·obtain⟨b,off,rfl,-,l,c⟩:=hc (by omega);have hx:=c k hlt;have A:(k:Int)<(xs.length:Int):=by omega
   have f:=ae g;clear g;generalize hX:xs[k]?.getD 0=x at *;have HX:=ae hX;clear hX c
   by_cases h1:x<0
   ·go_wp2;go_ret;exact⟨aJ.no (by intro d;have:=(d.2.1 k hlt).1;rw[HX.u]at this;omega),Below.refl _ _⟩
   by_cases h2:255<x
   ·go_wp2;go_ret;exact⟨aJ.no (by intro d;have:=(d.2.1 k hlt).2;rw[HX.u]at this;omega),Below.refl _ _⟩
   go_wp2
   go_round
   case rel=>exact⟨k+1,by omega,by go_num,fun j hj=>by
    by_cases e:j=k
    ·subst e;rw[HX.u];omega
    exact f.u j (by omega)⟩
   simp[intOf];omega
  obtain rfl:k=xs.length:=by omega
  have f:=ae g;clear g;go_wp2
  go_loopw [4] (fun i wr=>∃ m:Nat,2*m<=xs.length/\i=.int .i64 (2*m:Nat)/\(∀ j:Nat,j<m->ni xs (2*j))/\Below w.heap.size w wr) (fun i _=>xs.length-(intOf i).toNat)
  case atStart=>exact⟨0,Nat.zero_le _,rfl,fun j hj=>absurd hj (Nat.not_lt_zero _),Below.refl _ _⟩
  obtain⟨m,hm,rfl,q,hb⟩:=hrel;have n:=ae q;clear q
  by_cases hlt2:2*m<xs.length
  ·obtain⟨b,off,rfl,-,l,c⟩:=hc (by omega);have hx:wr.cell? ⟨b,off+2*m,none⟩=some (.int .i64 (xs[2*m]?.getD 0)):=by rw[hb.cell (p:=⟨b,off+2*m,none⟩) l];exact c _ hlt2
   have hy:wr.cell? ⟨b,off+(2*m+1),none⟩=some (.int .i64 (xs[2*m+1]?.getD 0)):=by rw[hb.cell (p:=⟨b,off+(2*m+1),none⟩) l];exact c _ (by omega)
   have s:(2*(m:Int))<(xs.length:Int):=by omega
   have t:(2*(m:Int))+1<(xs.length:Int):=by omega
   have bx:=f.u (2*m) hlt2;have byy:=f.u (2*m+1) (by omega);have e1:((2*m:Nat):Int)=2*(m:Int):=by omega
   generalize hX:xs[2*m]?.getD 0=x at *;generalize hY:xs[2*m+1]?.getD 0=y at *;have HX:=ae hX;have HY:=ae hY;clear hX hY
   by_cases hgt:y<x
   ·go_wp2
    go_quiet (fail);go_wp2;go_ret;exact⟨aJ.no (by intro d;have:=(d.2.2 m hlt2).1;rw[HX.u,HY.u]at this;omega),below_drewN hb _⟩
   go_wp2
   go_quiet (fail);go_wp2
   by_cases hmp:0<m
   ·have r:0<2*(m:Int):=by omega
    have hz:wr.cell? ⟨b,off+(2*m-1),none⟩=some (.int .i64 (xs[2*m-1]?.getD 0)):=by rw[hb.cell (p:=⟨b,off+(2*m-1),none⟩) l];exact c _ (by omega)
    have bz:=f.u (2*m-1) (by omega);have B:(2*(m:Int)-1).toNat=2*m-1:=by omega
    have C:0<=2*(m:Int)-1:=by omega
    have D:2*(m:Int)-1<(xs.length:Int):=by omega
    generalize hZ:xs[2*m-1]?.getD 0=z at *;have HZ:=ae hZ;clear hZ
    by_cases hdd:x-z<2
    ·go_quiet (fail);go_wp2;go_ret;exact⟨aJ.no (by intro d;have:=(d.2.2 m hlt2).2 (by omega);rw[HX.u,HZ.u]at this;omega),below_drewN (below_drewN hb _) _⟩
    go_quiet (fail);go_wp2
    go_roundw
    case rel=>exact⟨m+1,by omega,by congr 1,fun j hj=>by
     by_cases e:j=m
     ·subst e;exact⟨by rw[HX.u,HY.u];omega,fun _=>by rw[HX.u,HZ.u];omega⟩
     exact n.u j (by omega),below_drewN hb _⟩
    simp[intOf];omega
   have r:decide (0<2*(m:Int))=false:=by simp;omega
   go_quiet (fail);go_wp2
   go_roundw
   case rel=>exact⟨m+1,by omega,by congr 1,fun j hj=>by
    by_cases e:j=m
    ·subst e;exact⟨by rw[HX.u,HY.u];omega,fun h=>absurd h (by omega)⟩
    exact n.u j (by omega),below_drewN hb _⟩
   simp[intOf];omega
  go_wp2;go_ret;exact⟨aJ.yes ⟨hev,f.u,fun j hj=>n.u j (by omega)⟩,hb⟩
 have o:((xs.length:Int)%2 != 0)=true:=by simp;omega
 go_enter func103,ntmps103
 go_wp2;go_ret;exact⟨aJ.no (fun d=>hev d.1),Below.refl _ _⟩
def gZ(x:El):Prop:=
 (x.kind=1/\cZ x.set/\x.mn=0/\x.mx=0)∨((x.kind=0∨x.kind=2∨x.kind=3)/\x.set.length=0/\x.mn=0/\x.mx=0) ∨
 (x.kind=4/\x.set.length=0/\0<=x.mn/\x.mn<=250/\(x.mx = -1∨(x.mn<=x.mx/\x.mx<=250)))
theorem tB(v:Value)(x:El)(w:World)(hv:aR 0 w.heap.size w v x.set) :
  Calls prog 65 #[.agg #[.int .i64 x.kind,v,.int .i64 x.mn,.int .i64 x.mx]] w fun e w'=>aJ e (gZ x)/\Below w.heap.size w w':=by
 obtain⟨a,cap,rfl,hl,-,-⟩:=id hv;unfold maxLen at hl;obtain⟨k,xs,mn,mx⟩:=x;simp only at *
 by_cases h1:k=1
 ·subst h1
  go_enter func65,ntmps65
  go_wp2_with fail;refine(su _ xs _ (by exact hv.below (ai w _) lR)).mono ?_;rintro e w1 ⟨h,i⟩;obtain⟨j,l⟩:=cu i;simp only[ah]at j l;have hB:Below w.heap.size w w1:=(ai w _).trans (i.mono (by rw[ah];omega));rcases h.cases with ⟨rfl,d⟩|⟨rfl,d⟩
  ·by_cases h2:mn=0
   ·by_cases h3:mx=0
    ·go_wp2;go_ret;exact⟨aJ.yes (Or.inl ⟨rfl,d,h2,h3⟩),hB⟩
    have m:(mx==0)=false:=by simp[h3]
    go_wp2;go_ret;exact⟨aJ.no (by rintro(⟨q1,q2,q3,q4⟩|⟨q1,q2,q3,q4⟩|⟨q1,q2,q3,q4,q5⟩)<;>simp only at * <;> omega),hB⟩
   go_wp2;go_ret;exact⟨aJ.no (by rintro(⟨q1,q2,q3,q4⟩|⟨q1,q2,q3,q4⟩|⟨q1,q2,q3,q4,q5⟩)<;>simp only at * <;> omega),hB⟩
  go_wp2;go_ret;exact⟨aJ.no (by rintro(⟨q1,q2,q3,q4⟩|⟨q1,q2,q3,q4⟩|⟨q1,q2,q3,q4,q5⟩)<;>simp only at * <;> first|exact d q2|omega),hB⟩
 by_cases hk:k<0∨4<k
 ·rcases hk with hk|hk
  ·go_enter func65,ntmps65
   go_wp2;go_ret;exact⟨aJ.no (by rintro(⟨q1,q2,q3,q4⟩|⟨q1,q2,q3,q4⟩|⟨q1,q2,q3,q4,q5⟩)<;>simp only at * <;> omega),ai w _⟩
  have n:¬ k<0:=by omega
  go_enter func65,ntmps65
  go_wp2;go_ret;exact⟨aJ.no (by rintro(⟨q1,q2,q3,q4⟩|⟨q1,q2,q3,q4⟩|⟨q1,q2,q3,q4,q5⟩)<;>simp only at * <;> omega),ai w _⟩
 by_cases b:xs.length=0
 ·have f:((xs.length:Int) != 0)=false:=by simp;exact List.eq_nil_of_length_eq_zero b
  have c:=ae b;clear b
  by_cases h4:k=4
  ·subst h4
   by_cases c1:mn<0
   ·go_enter func65,ntmps65
    go_wp2;go_ret;exact⟨aJ.no (by rintro(⟨q1,q2,q3,q4⟩|⟨q1,q2,q3,q4⟩|⟨q1,q2,q3,q4,q5⟩)<;>simp only at * <;> omega),ai w _⟩
   by_cases c2:250<mn
   ·go_enter func65,ntmps65
    go_wp2;go_ret;exact⟨aJ.no (by rintro(⟨q1,q2,q3,q4⟩|⟨q1,q2,q3,q4⟩|⟨q1,q2,q3,q4,q5⟩)<;>simp only at * <;> omega),ai w _⟩
   by_cases c3:mx = -1
   ·have c3':(mx == -1)=true:=by simp[c3]
    have C3:=ae c3;clear c3
    go_enter func65,ntmps65
    go_wp2;go_ret;exact⟨aJ.yes (Or.inr (Or.inr ⟨rfl,c.u,by simp only;omega,by simp only;omega,Or.inl C3.u⟩)),ai w _⟩
   have c3':(mx == -1)=false:=by simp[c3]
   by_cases c4:mn<=mx
   ·by_cases c5:mx<=250
    ·go_enter func65,ntmps65
     go_wp2;go_ret;exact⟨aJ.yes (Or.inr (Or.inr ⟨rfl,c.u,by simp only;omega,by simp only;omega,Or.inr ⟨c4,c5⟩⟩)),ai w _⟩
    go_enter func65,ntmps65
    go_wp2;go_ret;exact⟨aJ.no (by rintro(⟨q1,q2,q3,q4⟩|⟨q1,q2,q3,q4⟩|⟨q1,q2,q3,q4,q5⟩)<;>simp only at * <;> omega),ai w _⟩
   go_enter func65,ntmps65
   go_wp2;go_ret;exact⟨aJ.no (by rintro(⟨q1,q2,q3,q4⟩|⟨q1,q2,q3,q4⟩|⟨q1,q2,q3,q4,q5⟩)<;>simp only at * <;> omega),ai w _⟩
  have g:k=0∨k=2∨k=3:=by omega
  clear hk h4 h1
  by_cases h2:mn=0
  ·by_cases h3:mx=0
   ·rcases g with rfl|rfl|rfl
    all_goals
     go_enter func65,ntmps65
     go_wp2;go_ret;exact⟨aJ.yes (Or.inr (Or.inl ⟨by simp,c.u,h2,h3⟩)),ai w _⟩
   have m:(mx==0)=false:=by simp[h3]
   rcases g with rfl|rfl|rfl
   all_goals
    go_enter func65,ntmps65
    go_wp2;go_ret;exact⟨aJ.no (by rintro(⟨q1,q2,q3,q4⟩|⟨q1,q2,q3,q4⟩|⟨q1,q2,q3,q4,q5⟩)<;>simp only at * <;> omega),ai w _⟩
  rcases g with rfl|rfl|rfl
  all_goals
   go_enter func65,ntmps65
   go_wp2;go_ret;exact⟨aJ.no (by rintro(⟨q1,q2,q3,q4⟩|⟨q1,q2,q3,q4⟩|⟨q1,q2,q3,q4,q5⟩)<;>simp only at * <;> omega),ai w _⟩
 have f:((xs.length:Int) != 0)=true:=by simp;intro e;exact b (by rw[e];rfl)
 have o:¬ k<0:=by omega
 have p:¬ 4<k:=by omega
 go_enter func65,ntmps65
 go_wp2;go_ret;exact⟨aJ.no (by rintro(⟨q1,q2,q3,q4⟩|⟨q1,q2,q3,q4⟩|⟨q1,q2,q3,q4,q5⟩)<;>simp only at * <;> omega),ai w _⟩
def lst(xs:List Int)(m:Nat):Int:=if m=0 then 0 else xs[2*m-1]?.getD 0+2
def mX(xs:List Int)(m:Nat):Prop:=lst xs m<=xs[2*m]?.getD 0/\xs[2*m]?.getD 0<=xs[2*m+1]?.getD 0/\xs[2*m+1]?.getD 0<=255
theorem sF(xs:List Int)(m:Nat):lst xs (m+1)=xs[2*m+1]?.getD 0+2:=by
 unfold lst;rw[if_neg (by omega)];rfl
theorem xT{xs:List Int}:∀ m:Nat,(∀ j:Nat,j<m->mX xs j)->0<=lst xs m/\lst xs m<=257:=by
 intro m
 induction m with
 | zero=>intro _;simp[lst]
 | succ m ih =>
  intro h;have h1:=ih (fun j hj=>h j (by omega));have h2:=h m (by omega);unfold mX at h2;rw[sF];omega
theorem wL{xs:List Int}:cZ xs↔xs.length%2=0/\∀ m:Nat,2*m<xs.length->mX xs m:=by
 constructor
 ·rintro⟨h1,h2,h3⟩;refine⟨h1,fun m hm=>?_⟩;have a:=h2 (2*m) hm;have b:=h2 (2*m+1) (by omega);obtain⟨c,d⟩:=h3 m hm;refine⟨?_,c,b.2⟩;unfold lst
  split
  ·exact a.1
  have:=d (by omega);omega
 rintro⟨h1,h2⟩;have key:∀ m:Nat,2*m<xs.length->0<=lst xs m:=fun m hm=>(xT m (fun j hj=>h2 j (by omega))).1
 refine⟨h1,fun i hi=>?_,fun m hm=>?_⟩
 ·have hm:2*(i / 2)<xs.length:=by omega
  have a:=key _ hm;have b:=h2 _ hm;unfold mX at b;rcases Nat.mod_two_eq_zero_or_one i with e|e
  ·rw[show 2*(i / 2)=i by omega]at b;omega
  rw[show 2*(i / 2)+1=i by omega]at b;omega
 have b:=h2 _ hm;unfold mX at b;refine⟨b.2.1,fun h0=>?_⟩;have b1:=b.1;unfold lst at b1;rw[if_neg (by omega)]at b1;omega
theorem oK(v:Value)(xs:List Int)(w:World)(hv:aR 0 w.heap.size w v xs) :
  Calls prog 107 #[v] w fun e w'=>aJ e (cZ xs)/\Below w.heap.size w w':=by
 rw[wL];obtain⟨a,cap,rfl,hl,hr,hc⟩:=hv;unfold maxLen at hl
 by_cases hev:xs.length%2=0
 ·have f:((xs.length:Int)%2 != 0)=false:=by simp;omega
  go_enter func107,ntmps107
  go_wp2
  go_loopw [3,4] (fun l i wr=>∃ m:Nat,2*m<=xs.length/\i=.int .i64 (2*m:Nat)/\l=.int .i64 (lst xs m)/\(∀ j:Nat,j<m->mX xs j)/\Below w.heap.size w wr) (fun _ i _=>xs.length-(intOf i).toNat)
  case atStart=>exact⟨0,Nat.zero_le _,rfl,rfl,fun j hj=>absurd hj (Nat.not_lt_zero _),Below.refl _ _⟩
  obtain⟨m,hm,rfl,rfl,d,hb⟩:=hrel;have hL:=xT m d;have g:=ae d;clear d
  by_cases hlt2:2*m<xs.length
  ·obtain⟨b,off,rfl,-,k,c⟩:=hc (by omega);have hx:wr.cell? ⟨b,off+2*m,none⟩=some (.int .i64 (xs[2*m]?.getD 0)):=by rw[hb.cell (p:=⟨b,off+2*m,none⟩) k];exact c _ hlt2
   have hy:wr.cell? ⟨b,off+(2*m+1),none⟩=some (.int .i64 (xs[2*m+1]?.getD 0)):=by rw[hb.cell (p:=⟨b,off+(2*m+1),none⟩) k];exact c _ (by omega)
   have o:(2*(m:Int))<(xs.length:Int):=by omega
   have q:(2*(m:Int))+1<(xs.length:Int):=by omega
   have n:=sF xs m;have hP:Hi (mX xs m↔lst xs m<=xs[2*m]?.getD 0/\xs[2*m]?.getD 0<=xs[2*m+1]?.getD 0/\xs[2*m+1]?.getD 0<=255):=Iff.rfl;generalize lst xs m=L at *;generalize xs[2*m]?.getD 0=x at *;generalize xs[2*m+1]?.getD 0=y at *;have r:=ae n;clear n c
   by_cases g1:x<L
   ·go_wp2
    go_quiet (fail);go_wp2;go_ret;exact⟨aJ.no (fun h=>by have:=hP.u.1 (h.2 m hlt2);omega),below_drewN hb _⟩
   by_cases g2:y<x
   ·go_wp2
    go_quiet (fail);go_wp2;go_ret;exact⟨aJ.no (fun h=>by have:=hP.u.1 (h.2 m hlt2);omega),below_drewN hb _⟩
   by_cases g3:256<=y
   ·go_wp2
    go_quiet (fail);go_wp2;go_ret;exact⟨aJ.no (fun h=>by have:=hP.u.1 (h.2 m hlt2);omega),below_drewN hb _⟩
   go_wp2
   go_quiet (fail);go_wp2
   go_roundw
   case rel=>exact⟨m+1,by omega,by congr 1,by rw[r.u],fun j hj=>by
    by_cases e:j=m
    ·subst e;exact hP.u.2 ⟨by omega,by omega,by omega⟩
    exact g.u j (by omega),below_drewN hb _⟩
   simp[intOf];omega
  go_wp2;go_ret;exact⟨aJ.yes ⟨hev,fun j hj=>g.u j (by omega)⟩,hb⟩
 have f:((xs.length:Int)%2 != 0)=true:=by simp;omega
 go_enter func107,ntmps107
 go_wp2;go_ret;exact⟨aJ.no (fun hcn=>hev hcn.1),Below.refl _ _⟩
def zF(mn mx:Int):Prop:=0<=mn/\mn<=250/\(mx = -1∨(mn<=mx/\mx<=250))
theorem lL(mn mx:Int)(w:World):Calls prog 108 #[.int .i64 mn,.int .i64 mx] w fun e w'=>aJ e (zF mn mx)/\w'=w:=by
 by_cases c1:mn<0
 ·go_enter func108,ntmps108
  go_wp2;go_ret;exact⟨aJ.no (by unfold zF;omega),rfl⟩
 by_cases c2:250<mn
 ·go_enter func108,ntmps108
  go_wp2;go_ret;exact⟨aJ.no (by unfold zF;omega),rfl⟩
 by_cases c3:mx = -1
 ·have c3':(mx == -1)=true:=by simp[c3]
  have C3:=ae c3;clear c3
  go_enter func108,ntmps108
  go_wp2;go_ret;exact⟨aJ.yes ⟨by omega,by omega,Or.inl C3.u⟩,rfl⟩
 have c3':(mx == -1)=false:=by simp[c3]
 by_cases c4:mn<=mx
 ·by_cases c5:mx<=250
  ·go_enter func108,ntmps108
   go_wp2;go_ret;exact⟨aJ.yes ⟨by omega,by omega,Or.inr ⟨c4,c5⟩⟩,rfl⟩
  go_enter func108,ntmps108
  go_wp2;go_ret;exact⟨aJ.no (by unfold zF;omega),rfl⟩
 go_enter func108,ntmps108
 go_wp2;go_ret;exact⟨aJ.no (by unfold zF;omega),rfl⟩
def CD(k:Int):Int:=if k=4 then 1 else if k=2∨k=3 then 2 else 0
theorem ew(k:Int)(w:World):Calls prog 76 #[.int .i64 k] w fun e w'=>e=.returned (.int .i64 (CD k))/\w'=w:=by
 by_cases h4:k=4
 ·subst h4
  go_enter func76,ntmps76
  go_wp2;go_ret;exact⟨rfl,rfl⟩
 by_cases h2:k=2
 ·subst h2
  go_enter func76,ntmps76
  go_wp2;go_ret;exact⟨rfl,rfl⟩
 by_cases h3:k=3
 ·subst h3
  go_enter func76,ntmps76
  go_wp2;go_ret;exact⟨rfl,rfl⟩
 have e:CD k=0:=by unfold CD;rw[if_neg h4,if_neg (by omega)]
 have b4:(k==4)=false:=by simp[h4]
 have b2:(k==2)=false:=by simp[h2]
 have b3:(k==3)=false:=by simp[h3]
 have E:=ae e;clear e
 go_enter func76,ntmps76
 go_wp2;go_ret;exact⟨md E.u.symm,rfl⟩
end Go.Proofs.YtidfkbghlkcbeaaGreatDoor
