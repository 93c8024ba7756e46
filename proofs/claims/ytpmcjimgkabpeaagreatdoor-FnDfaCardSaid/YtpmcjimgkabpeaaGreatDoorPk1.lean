import Derived.Test.YtpmcjimgkabpeaaGreatDoorRows
import Derived.WalkKit
import Derived.ProofKit
import Derived.Below
import Derived.Deep.OwnRows
import Derived.WalkSmall
import Derived.Deep.QuietTactic
import Derived.BigQuiet
namespace Go.Proofs.YtpmcjimgkabpeaaGreatDoor
open Go.RowKit Go.Proofs.Tryz
theorem lR{n:Nat}:n<=n:=Nat.le_refl n
set_option maxHeartbeats 16000000
set_option maxRecDepth 100000
structure El where
 kind:Int
 set:List Int
 mn:Int
 mx:Int
def dE:El:=⟨0,[],0,0⟩
def aA(x:Int):Prop:=-9223372036854775808<=x/\x<=9223372036854775807
def aT(lo n:Nat)(w:World)(v:Value)(xs:List Int):Prop:=
 ∃ a cap,v=.slice a xs.length cap/\xs.length<=maxLen/\(∀ i:Nat,aA (xs[i]?.getD 0))/\
  (0<xs.length->∃ b off,a=some ⟨b,off,none⟩/\lo<=b/\b<n/\∀ i:Nat,i<xs.length->w.cell? ⟨b,off+i,none⟩=some (.int .i64 (xs[i]?.getD 0)))
def qS(lo n:Nat)(w:World)(b o:Nat)(x:El):Prop:=
 aA x.kind/\aA x.mn/\aA x.mx/\∃ v,w.cell? ⟨b,o,none⟩=some (.int .i64 x.kind)/\w.cell? ⟨b,o+1,none⟩=some v/\
  w.cell? ⟨b,o+2,none⟩=some (.int .i64 x.mn)/\w.cell? ⟨b,o+3,none⟩=some (.int .i64 x.mx)/\aT lo n w v x.set
def az(lo n:Nat)(w:World)(v:Value)(xs:List El):Prop:=
 ∃ a cap,v=.slice a xs.length cap/\(xs.length<=cap/\cap<=maxLen)/\
  (0<xs.length->∃ b off,a=some ⟨b,off,none⟩/\lo<=b/\b<n/\∀ i:Nat,i<xs.length->qS lo n w b (off+i*4) (xs[i]?.getD dE))
def ew(lo n:Nat)(w w':World):Prop:=∀ b o,lo<=b->b<n->w'.cell? ⟨b,o,none⟩=w.cell? ⟨b,o,none⟩
theorem ew.of_below{lo n m:Nat}{w w':World}(hb:Below m w w')(hm:n<=m):ew lo n w w':=fun b o _ h=>hb.cell (p:=⟨b,o,none⟩) (by show b<m;omega)
theorem ew.refl(lo n:Nat)(w:World):ew lo n w w:=fun _ _ _ _=>rfl
theorem ew.mono{lo n lo' n':Nat}{a b:World}(h:ew lo n a b)(h1:lo<=lo')(h2:n'<=n):ew lo' n' a b:=fun x o k1 k2=>h x o (by omega) (by omega)
theorem ew.setCell{lo n:Nat}{w w':World}(h:ew lo n w w'){b o:Nat}(hb:b<lo∨n<=b)(u:Value):ew lo n w (w'.setCell ⟨b,o,none⟩ u):=by
 intro x p h1 h2;rw[<-h x p h1 h2];exact World.cell?_of_block (Below.heap_setCell _ _ _ _ (by show x≠b;omega))
theorem aT.same{lo n:Nat}{w w':World}{v:Value}{xs:List Int}(h:aT lo n w v xs)(hs:ew lo n w w'):aT lo n w' v xs:=by
 obtain⟨a,cap,rfl,hl,hr,hc⟩:=h;refine⟨a,cap,rfl,hl,hr,fun hp=>?_⟩;obtain⟨b,off,rfl,d,e,c⟩:=hc hp;exact⟨b,off,rfl,d,e,fun i hi=>by rw[hs b _ d e];exact c i hi⟩
theorem aT.mono{lo n lo' m:Nat}{w:World}{v:Value}{xs:List Int}(h:aT lo n w v xs)(hl':lo'<=lo)(hm:n<=m):aT lo' m w v xs:=by
 obtain⟨a,cap,rfl,hl,hr,hc⟩:=h;refine⟨a,cap,rfl,hl,hr,fun hp=>?_⟩;obtain⟨b,off,rfl,d,e,c⟩:=hc hp;exact⟨b,off,rfl,by omega,by omega,c⟩
theorem qS.same{lo n b o:Nat}{w w':World}{x:El}(h:qS lo n w b o x)(hs:ew lo n w w')(h1:lo<=b)(h2:b<n):qS lo n w' b o x:=by
 obtain⟨i1,i2,i3,v,c0,c1,c2,c3,hi⟩:=h;refine⟨i1,i2,i3,v,?_,?_,?_,?_,hi.same hs⟩<;>rw[hs _ _ h1 h2]<;>assumption
theorem qS.mono{lo n lo' m b o:Nat}{w:World}{x:El}(h:qS lo n w b o x)(hl':lo'<=lo)(hm:n<=m):qS lo' m w b o x:=by
 obtain⟨h1,h2,h3,v,c0,c1,c2,c3,hi⟩:=h;exact⟨h1,h2,h3,v,c0,c1,c2,c3,hi.mono hl' hm⟩
theorem az.same{lo n:Nat}{w w':World}{v:Value}{xs:List El}(h:az lo n w v xs)(hs:ew lo n w w'):az lo n w' v xs:=by
 obtain⟨a,cap,rfl,hl,hc⟩:=h;refine⟨a,cap,rfl,hl,fun hp=>?_⟩;obtain⟨b,off,rfl,d,e,c⟩:=hc hp;exact⟨b,off,rfl,d,e,fun i hi=>(c i hi).same hs d e⟩
theorem az.mono{lo n lo' m:Nat}{w:World}{v:Value}{xs:List El}(h:az lo n w v xs)(hl':lo'<=lo)(hm:n<=m):az lo' m w v xs:=by
 obtain⟨a,cap,rfl,hl,hc⟩:=h;refine⟨a,cap,rfl,hl,fun hp=>?_⟩;obtain⟨b,off,rfl,d,e,c⟩:=hc hp;exact⟨b,off,rfl,by omega,by omega,fun i hi=>(c i hi).mono hl' hm⟩
theorem aT.below{lo m:Nat}{w w':World}{v:Value}{xs:List Int}(h:aT lo w.heap.size w v xs)(hb:Below m w w')(hm:w.heap.size<=m):aT lo w'.heap.size w' v xs:=
 (h.same (ew.of_below hb hm)).mono lR hb.size
theorem az.below{lo m:Nat}{w w':World}{v:Value}{xs:List El}(h:az lo w.heap.size w v xs)(hb:Below m w w')(hm:w.heap.size<=m):az lo w'.heap.size w' v xs:=
 (h.same (ew.of_below hb hm)).mono lR hb.size
theorem cq{W w1:World}{n:Nat}(hb:Below n W w1):(∀ b o,b<n->w1.cell? ⟨b,o,none⟩=W.cell? ⟨b,o,none⟩)/\(∀ b o,b<n->w1.frozen? ⟨b,o,none⟩=W.frozen? ⟨b,o,none⟩):=
 ⟨fun b o h=>hb.cell (p:=⟨b,o,none⟩) h,fun b o h=>hb.frozen (p:=⟨b,o,none⟩) h⟩
theorem ah(w:World)(o:Obj):(w.alloc o).heap.size=w.heap.size+1:=by simp
theorem ai(w:World)(o:Obj):Below w.heap.size w (w.alloc o):=(Below.refl _ _).alloc lR _
theorem aH(w:World)(o p:Obj):Below w.heap.size w ((w.alloc o).alloc p):=(ai w o).alloc (by rw[ah];omega) _
theorem aI{B:Nat}{a w:World}(h:Below B a w){b o:Nat}(hp:B<=b)(u:Value):Below B a (w.setCell ⟨b,o,none⟩ u):=h.setCell hp u
theorem aJ(w:World)(p:Addr)(u:Value):(w.setCell p u).heap.size=w.heap.size:=by simp[World.setCell]
def aF(e:Ending)(P:Prop):Prop:=∃ r:Bool,e=.returned (.bool r)/\(r=true↔P)
theorem aF.yes{P:Prop}(h:P):aF (.returned (.bool true)) P:=⟨true,rfl,by simp[h]⟩
theorem aF.no{P:Prop}(h:¬ P):aF (.returned (.bool false)) P:=⟨false,rfl,by simp[h]⟩
theorem aF.of{P:Prop}{b:Bool}(h:b=true↔P):aF (.returned (.bool b)) P:=⟨b,rfl,h⟩
theorem aF.cases{e:Ending}{P:Prop}(h:aF e P):(e=.returned (.bool true)/\P)∨(e=.returned (.bool false)/\¬ P):=by
 obtain⟨r,rfl,hr⟩:=h;cases r with
 | true=>exact Or.inl ⟨rfl,hr.1 rfl⟩
 | false=>exact Or.inr ⟨rfl,fun hp=>Bool.noConfusion (hr.2 hp)⟩
def Hi(p:Prop):Prop:=p
theorem ae{p:Prop}(h:p):Hi p:=h
theorem Gg{p:Prop}(h:Hi p):p:=h
theorem Hi.u{p:Prop}(h:Hi p):p:=h
theorem lF{k:IntKind}{a b:Int}(h:a=b):Ending.returned (.int k a)=.returned (.int k b):=by rw[h]
theorem zv{a b:Bool}(h:a=b):Ending.returned (.bool a)=.returned (.bool b):=by rw[h]
def lz{α:Type}(mk:α->Value)(d:α)(lo n:Nat)(w:World)(v:Value)(xs:List α):Prop:=
 ∃ a cap,v=.slice a xs.length cap/\xs.length<=maxLen/\
  (0<xs.length->∃ b off,a=some ⟨b,off,none⟩/\lo<=b/\b<n/\(∃ c t,w.heap[b]?=some (.cells c t (0,0)))/\∀ i:Nat,i<xs.length->w.cell? ⟨b,off+i,none⟩=some (mk (xs[i]?.getD d)))
structure pF (lo n:Nat) (w w':World):Prop where
 os:w'.os=w.os
 tape:w'.tape=w.tape
 output:w'.output=w.output
 size:w'.heap.size=w.heap.size
 block:∀ k,(k<lo∨n<=k)->w'.heap[k]?=w.heap[k]?
theorem pF.refl(lo n:Nat)(w:World):pF lo n w w:=⟨rfl,rfl,rfl,rfl,fun _ _=>rfl⟩
theorem pF.trans{lo n:Nat}{a b c:World}(h:pF lo n a b)(k:pF lo n b c):pF lo n a c:=
 ⟨k.os.trans h.os,k.tape.trans h.tape,k.output.trans h.output,k.size.trans h.size,fun i hi=>(k.block i hi).trans (h.block i hi)⟩
theorem pF.put{lo n:Nat}{a w:World}(h:pF lo n a w){b o:Nat}(h1:lo<=b)(h2:b<n)(u:Value):pF lo n a (w.setCell ⟨b,o,none⟩ u):=
 h.trans ⟨rfl,rfl,rfl,by simp[World.setCell],fun k hk=>Below.heap_setCell _ _ _ _ (by show k≠b;omega)⟩
theorem pF.below{lo n:Nat}{w w':World}(h:pF lo n w w'):Below lo w w':=⟨h.os,h.tape,h.output,by rw[h.size];exact Nat.le_refl _,fun k hk=>h.block k (Or.inl hk)⟩
def ET(lo n:Nat)(w w':World):Prop:=∀ k,lo<=k->k<n->w'.heap[k]?=w.heap[k]?
theorem lz.same{α:Type}{mk:α->Value}{d:α}{lo n:Nat}{w w':World}{v:Value}{xs:List α}(h:lz mk d lo n w v xs)(hs:ET lo n w w'):lz mk d lo n w' v xs:=by
 obtain⟨a,cap,rfl,hl,hc⟩:=h;refine⟨a,cap,rfl,hl,fun hp=>?_⟩;obtain⟨b,off,rfl,h1,h2,⟨c,t,hb⟩,f⟩:=hc hp;have e:=hs b h1 h2;exact⟨b,off,rfl,h1,h2,⟨c,t,e.trans hb⟩,fun i hi=>by rw[World.cell?_of_block (w:=w) (a:=⟨b,off+i,none⟩) e];exact f i hi⟩
theorem lz.mono{α:Type}{mk:α->Value}{d:α}{lo n lo' n':Nat}{w:World}{v:Value}{xs:List α}(h:lz mk d lo n w v xs)(h1:lo'<=lo)(h2:n<=n'):lz mk d lo' n' w v xs:=by
 obtain⟨a,cap,rfl,hl,hc⟩:=h;refine⟨a,cap,rfl,hl,fun hp=>?_⟩;obtain⟨b,off,rfl,h3,h4,h5,c⟩:=hc hp;exact⟨b,off,rfl,by omega,by omega,h5,c⟩
def aP{α:Type}(mk:α->Value)(d:α)(lo n:Nat)(w:World)(v:Value)(xs:List α):Prop:=
 ∃ a cap,v=.slice a xs.length cap/\xs.length<=maxLen/\
  (0<xs.length->∃ b off,a=some ⟨b,off,none⟩/\lo<=b/\b<n/\∀ i:Nat,i<xs.length->w.cell? ⟨b,off+i,none⟩=some (mk (xs[i]?.getD d)))
theorem lz.at{α:Type}{mk:α->Value}{d:α}{lo n:Nat}{w:World}{v:Value}{xs:List α}(h:lz mk d lo n w v xs):aP mk d lo n w v xs:=by
 obtain⟨a,cap,rfl,hl,hc⟩:=h;refine⟨a,cap,rfl,hl,fun hp=>?_⟩;obtain⟨b,off,rfl,h3,h4,h5,c⟩:=hc hp;exact⟨b,off,rfl,h3,h4,c⟩
theorem aP.same{α:Type}{mk:α->Value}{d:α}{lo n:Nat}{w w':World}{v:Value}{xs:List α}(h:aP mk d lo n w v xs)(hs:ew lo n w w'):aP mk d lo n w' v xs:=by
 obtain⟨a,cap,rfl,hl,hc⟩:=h;refine⟨a,cap,rfl,hl,fun hp=>?_⟩;obtain⟨b,off,rfl,e,f,c⟩:=hc hp;exact⟨b,off,rfl,e,f,fun i hi=>by rw[hs b _ e f];exact c i hi⟩
theorem aP.mono{α:Type}{mk:α->Value}{d:α}{lo n lo' n':Nat}{w:World}{v:Value}{xs:List α}(h:aP mk d lo n w v xs)(h1:lo'<=lo)(h2:n<=n'):aP mk d lo' n' w v xs:=by
 obtain⟨a,cap,rfl,hl,hc⟩:=h;refine⟨a,cap,rfl,hl,fun hp=>?_⟩;obtain⟨b,off,rfl,h3,h4,c⟩:=hc hp;exact⟨b,off,rfl,by omega,by omega,c⟩
theorem aP.below{α:Type}{mk:α->Value}{d:α}{lo m:Nat}{w w':World}{v:Value}{xs:List α}(h:aP mk d lo w.heap.size w v xs)(hb:Below m w w')(hm:w.heap.size<=m):aP mk d lo w'.heap.size w' v xs:=
 (h.same (ew.of_below hb hm)).mono lR hb.size
def dj(v:Value):Prop:=∃ a n c,v=.slice a n c/\n<=c/\c<=maxLen
theorem dj.le{a:Option Addr}{n c:Nat}(h:dj (.slice a n c)):n<=c/\c<=maxLen:=by
 obtain⟨a',n',c',e,h1⟩:=h;cases e;exact h1
theorem dj.mk{a:Option Addr}{n c:Nat}(h:n<=c)(h2:c<=maxLen):dj (.slice a n c):=⟨a,n,c,rfl,h,h2⟩
def mI(x:Int):Value:=.int .i64 x
def mB(x:Int):Value:=.int .u8 x
def mT(x:Bool):Value:=.bool x
theorem dI{w:World}{b o:Nat}{u v:Value}(h:w.cell? ⟨b,o,none⟩=some u):(w.setCell ⟨b,o,none⟩ v).cell? ⟨b,o,none⟩=some v:=by
 apply World.cell?_setCell_same
 exact h
theorem aE{w:World}{b o b' o':Nat}{v:Value}(h:b≠b'∨o≠o'):(w.setCell ⟨b,o,none⟩ v).cell? ⟨b',o',none⟩=w.cell? ⟨b',o',none⟩:=by
 apply World.cell?_setCell_other
 intro e;simp only[Addr.mk.injEq]at e;omega
theorem Tryz.zinInt:(prog.info? 3).map (fun i=>(i.zero,i.size,i.bytes))=some (some (.int .i64 0),1,8):=by kernel_rfl
theorem Tryz.zinByte:(prog.info? 5).map (fun i=>(i.zero,i.size,i.bytes))=some (some (.int .u8 0),1,1):=by kernel_rfl
theorem Tryz.zinBool:(prog.info? 4).map (fun i=>(i.zero,i.size,i.bytes))=some (some (.bool false),1,1):=by kernel_rfl
def my(xs:List Int)(i:Nat):Prop:=xs[i]?.getD 0<=xs[i+1]?.getD 0/\(0<i->2<=xs[i]?.getD 0-xs[i-1]?.getD 0)
def cU(xs:List Int):Prop:=
 xs.length%2=0/\(∀ i:Nat,i<xs.length->0<=xs[i]?.getD 0/\xs[i]?.getD 0<=255)/\∀ m:Nat,2*m<xs.length->my xs (2*m)
theorem rN(v:Value)(xs:List Int)(w:World)(hv:aT 0 w.heap.size w v xs) :
  Calls prog 71 #[v] w fun e w'=>aF e (cU xs)/\Below w.heap.size w w':=by
 obtain⟨a,cap,rfl,hl,hr,hc⟩:=hv;unfold maxLen at hl
 by_cases hev:xs.length%2=0
 ·have o:((xs.length:Int)%2!=0)=false:=by simp;omega
  go_enter func71,ntmps71
  go_wp2
  go_loop [3] (fun i=>∃ k:Nat,k<=xs.length/\i=.int .i64 k/\∀ j:Nat,j<k->0<=xs[j]?.getD 0/\xs[j]?.getD 0<=255) (fun i=>xs.length-(intOf i).toNat)
  case atStart=>exact⟨0,Nat.zero_le _,rfl,fun j hj=>absurd hj (Nat.not_lt_zero _)⟩
  obtain⟨k,hk,rfl,g⟩:=hrel
  by_cases hlt:k<xs.length
  ·obtain⟨b,off,rfl,-,l,c⟩:=hc (by omega);have hx:=c k hlt;have A:(k:Int)<(xs.length:Int):=by omega
   have f:=ae g;clear g;generalize hX:xs[k]?.getD 0=x at *;have HX:=ae hX;clear hX c
   by_cases h1:x<0
   ·go_wp2;go_ret;exact⟨aF.no (by intro d;have:=(d.2.1 k hlt).1;rw[HX.u]at this;omega),Below.refl _ _⟩
   by_cases h2:255<x
   ·go_wp2;go_ret;exact⟨aF.no (by intro d;have:=(d.2.1 k hlt).2;rw[HX.u]at this;omega),Below.refl _ _⟩
   go_wp2
   go_round
   case rel=>exact⟨k+1,by omega,by go_num,fun j hj=>by
    by_cases e:j=k
    ·subst e;rw[HX.u];omega
    exact f.u j (by omega)⟩
   simp[intOf];omega
  obtain rfl:k=xs.length:=by omega
  have f:=ae g;clear g;go_wp2
  go_loopw [4] (fun i wr=>∃ m:Nat,2*m<=xs.length/\i=.int .i64 (2*m:Nat)/\(∀ j:Nat,j<m->my xs (2*j))/\Below w.heap.size w wr) (fun i _=>xs.length-(intOf i).toNat)
  case atStart=>exact⟨0,Nat.zero_le _,rfl,fun j hj=>absurd hj (Nat.not_lt_zero _),Below.refl _ _⟩
  obtain⟨m,hm,rfl,q,hb⟩:=hrel;have n:=ae q;clear q
  by_cases hlt2:2*m<xs.length
  ·obtain⟨b,off,rfl,-,l,c⟩:=hc (by omega);have hx:wr.cell? ⟨b,off+2*m,none⟩=some (.int .i64 (xs[2*m]?.getD 0)):=by rw[hb.cell (p:=⟨b,off+2*m,none⟩) l];exact c _ hlt2
   have hy:wr.cell? ⟨b,off+(2*m+1),none⟩=some (.int .i64 (xs[2*m+1]?.getD 0)):=by rw[hb.cell (p:=⟨b,off+(2*m+1),none⟩) l];exact c _ (by omega)
   have s:(2*(m:Int))<(xs.length:Int):=by omega
   have t:(2*(m:Int))+1<(xs.length:Int):=by omega
   have bx:=f.u (2*m) hlt2;have byy:=f.u (2*m+1) (by omega);have e1:((2*m:Nat):Int)=2*(m:Int):=by omega
   generalize hX:xs[2*m]?.getD 0=x at *;generalize hY:xs[2*m+1]?.getD 0=y at *;have HX:=ae hX;have HY:=ae hY;clear hX hY
   by_cases hgt:y<x
   ·go_wp2
    go_quiet (fail);go_wp2;go_ret;exact⟨aF.no (by intro d;have:=(d.2.2 m hlt2).1;rw[HX.u,HY.u]at this;omega),below_drewN hb _⟩
   go_wp2
   go_quiet (fail);go_wp2
   by_cases hmp:0<m
   ·have r:0<2*(m:Int):=by omega
    have hz:wr.cell? ⟨b,off+(2*m-1),none⟩=some (.int .i64 (xs[2*m-1]?.getD 0)):=by rw[hb.cell (p:=⟨b,off+(2*m-1),none⟩) l];exact c _ (by omega)
    have bz:=f.u (2*m-1) (by omega);have B:(2*(m:Int)-1).toNat=2*m-1:=by omega
    have C:0<=2*(m:Int)-1:=by omega
    have D:2*(m:Int)-1<(xs.length:Int):=by omega
    generalize hZ:xs[2*m-1]?.getD 0=z at *;have HZ:=ae hZ;clear hZ
    by_cases hdd:x-z<2
    ·go_quiet (fail);go_wp2;go_ret;exact⟨aF.no (by intro d;have:=(d.2.2 m hlt2).2 (by omega);rw[HX.u,HZ.u]at this;omega),below_drewN (below_drewN hb _) _⟩
    go_quiet (fail);go_wp2
    go_roundw
    case rel=>exact⟨m+1,by omega,by congr 1,fun j hj=>by
     by_cases e:j=m
     ·subst e;exact⟨by rw[HX.u,HY.u];omega,fun _=>by rw[HX.u,HZ.u];omega⟩
     exact n.u j (by omega),below_drewN hb _⟩
    simp[intOf];omega
   have r:decide (0<2*(m:Int))=false:=by simp;omega
   go_quiet (fail);go_wp2
   go_roundw
   case rel=>exact⟨m+1,by omega,by congr 1,fun j hj=>by
    by_cases e:j=m
    ·subst e;exact⟨by rw[HX.u,HY.u];omega,fun h=>absurd h (by omega)⟩
    exact n.u j (by omega),below_drewN hb _⟩
   simp[intOf];omega
  go_wp2;go_ret;exact⟨aF.yes ⟨hev,f.u,fun j hj=>n.u j (by omega)⟩,hb⟩
 have o:((xs.length:Int)%2!=0)=true:=by simp;omega
 go_enter func71,ntmps71
 go_wp2;go_ret;exact⟨aF.no (fun d=>hev d.1),Below.refl _ _⟩
def wt(x:El):Int:=if x.kind=0∨x.kind=1 then 1 else if x.kind=2∨x.kind=3 then -1 else 0
def bI:List El->Int
 | []=>0
 | x::r=>wt x+bI r
theorem aX(a b:List El):bI (a++b)=bI a+bI b:=by
 induction a with
 | nil=>simp[bI]
 | cons x r ih=>simp[bI,ih];omega
theorem Fh(x:El):wt x<=1:=by unfold wt;split<;>(try split)<;>omega
theorem EV(x:El) : -1<=wt x:=by unfold wt;split<;>(try split)<;>omega
theorem oY(l:List El) : -(l.length:Int)<=bI l/\bI l<=l.length:=by
 induction l with
 | nil=>simp[bI]
 | cons x r ih=>have:=Fh x;have:=EV x;simp[bI];omega
theorem vZ{xs:List El}{k:Nat}(h:k<xs.length):xs.drop k=xs[k]?.getD dE::xs.drop (k+1):=by
 rw[List.drop_eq_getElem_cons h];simp[h]
theorem oF{xs:List El}{k:Nat}(h:k<xs.length):bI (xs.drop k)=wt (xs[k]?.getD dE)+bI (xs.drop (k+1)):=by
 rw[vZ h];rfl
def uQ(xs:List El):Prop:=bI xs=1/\∀ k:Nat,0<k->k<=xs.length->bI (xs.drop k)<=0
theorem sd(v:Value)(xs:List El)(w:World)(hv:az 0 w.heap.size w v xs)(hlen:xs.length<=1048576) :
  Calls prog 34 #[v] w fun e w'=>aF e (uQ xs)/\w'=w:=by
 obtain⟨a,cap,rfl,hl,hc⟩:=hv
 go_enter func34,ntmps34
 go_wp2
 go_loop [3,4] (fun n i=>∃ k:Nat,k<=xs.length/\i=.int .i64 ((k:Int)-1)/\n=.int .i64 (1-bI (xs.drop k))/\bI (xs.drop k)<=1/\∀ j:Nat,k<j->j<=xs.length->bI (xs.drop j)<=0) (fun _ i=>(intOf i+1).toNat)
 case atStart=>exact⟨xs.length,Nat.le_refl _,rfl,by simp[bI],by simp[bI],fun j h1 h2=>absurd h2 (by omega)⟩
 obtain⟨k,hk,rfl,rfl,A,l⟩:=hrel;have m:=ae l;clear l;cases k with
 | zero =>
  go_wp2;go_ret;refine⟨aF.of ⟨fun h=>⟨?_,fun j h1 h2=>m.u j h1 h2⟩,fun h=>?_⟩,rfl⟩
  ·have:=beq_iff_eq.1 h;omega
  have:=h.1;exact beq_iff_eq.2 (by omega)
 | succ k =>
  obtain⟨b,off,rfl,-,B,r⟩:=hc (by omega);obtain⟨i1,i2,i3,v,c0,c1,c2,c3,g⟩:=r k (by omega);have o:=oF (xs:=xs) (k:=k) (by omega);have y:=oY (xs.drop (k+1));rw[List.length_drop]at y;have C:(k:Int)<(xs.length:Int):=by omega
  generalize hS:bI (xs.drop (k+1))=s at *;generalize xs[k]?.getD dE=x at *;have d:=ae o;have HS:=ae hS;clear o hS g i2 i3 c1 c2 c3
  by_cases hs:1-s=0
  ·go_wp2;go_ret;exact⟨aF.no (fun hsh=>by have:=hsh.2 (k+1) (by omega) hk;rw[HS.u]at this;omega),rfl⟩
  have z:s<=0:=by omega
  have c:Hi (∀ j:Nat,k<j->j<=xs.length->bI (xs.drop j)<=0):=by
   intro j h1 h2
   by_cases e:j=k+1
   ·subst e;rw[HS.u];exact z
   exact m.u j (by omega) h2
  have p:wt x=if x.kind=0∨x.kind=1 then 1 else if x.kind=2∨x.kind=3 then -1 else 0:=rfl;generalize wt x=t at *;generalize x.kind=q at *;have f:=ae p;clear p;have D:(1-s==0)=false:=by simp;omega
  by_cases q0:q=0
  ·subst q0;have ht:t=1:=f.u;go_wp2
   go_round
   case rel=>exact⟨k,by omega,by congr 1,by have:=d.u;congr 1;omega,by have:=d.u;omega,c.u⟩
   simp[intOf]
  by_cases q1:q=1
  ·subst q1;have ht:t=1:=f.u;go_wp2
   go_round
   case rel=>exact⟨k,by omega,by congr 1,by have:=d.u;congr 1;omega,by have:=d.u;omega,c.u⟩
   simp[intOf]
  by_cases q2:q=2
  ·subst q2;have ht:t = -1:=f.u;go_wp2
   go_round
   case rel=>exact⟨k,by omega,by congr 1,by have:=d.u;congr 1;omega,by have:=d.u;omega,c.u⟩
   simp[intOf]
  by_cases q3:q=3
  ·subst q3;have ht:t = -1:=f.u;go_wp2
   go_round
   case rel=>exact⟨k,by omega,by congr 1,by have:=d.u;congr 1;omega,by have:=d.u;omega,c.u⟩
   simp[intOf]
  have ht:t=0:=by rw[f.u,if_neg (by omega),if_neg (by omega)]
  have b0:(q==0)=false:=by simp[q0]
  have b1:(q==1)=false:=by simp[q1]
  have b2:(q==2)=false:=by simp[q2]
  have b3:(q==3)=false:=by simp[q3]
  go_wp2
  go_round
  case rel=>exact⟨k,by omega,by congr 1,by have:=d.u;congr 1;omega,by have:=d.u;omega,c.u⟩
  simp[intOf]
theorem kV(v:Value)(xs:List El)(lo en:Nat)(w:World)(hv:az 0 w.heap.size w v xs)(hlen:xs.length<=1048576)(hle:lo<en)(hen:en<=xs.length)
  (h1:bI ((xs.take en).drop lo)=1)(h2:∀ k:Nat,lo<k->k<=en->bI ((xs.take en).drop k)<=0) :
  Calls prog 70 #[v,.int .i64 (en:Int)] w fun e w'=>e=.returned (.int .i64 (lo:Int))/\w'=w:=by
 obtain⟨a,cap,rfl,hl,hc⟩:=hv;have H2:=ae h2;have H1:=ae h1;clear h1 h2;have hE:(xs.take en).length=en:=by rw[List.length_take];omega
 go_enter func70,ntmps70
 go_wp2
 go_loop [5,6] (fun n i=>∃ k:Nat,lo<=k/\k<=en/\i=.int .i64 (k:Int)/\n=.int .i64 (1-bI ((xs.take en).drop k))) (fun _ i=>(intOf i).toNat)
 case atStart=>exact⟨en,by omega,Nat.le_refl _,rfl,by rw[List.drop_eq_nil_of_le (by omega)];rfl⟩
 obtain⟨k,hk,l,rfl,rfl⟩:=hrel
 by_cases hgt:lo<k
 ·cases k with
  | zero=>omega
  | succ k =>
   obtain⟨b,off,rfl,-,p,m⟩:=hc (by omega);obtain⟨i1,i2,i3,v,c0,c1,c2,c3,f⟩:=m k (by omega);have g:=oF (xs:=xs.take en) (k:=k) (by omega);have o:=oY ((xs.take en).drop (k+1));rw[List.length_drop,hE]at o;rw[List.getElem?_take_of_lt (by omega)]at g;have r:=H2.u (k+1) hgt l;have y:(k:Int)<(xs.length:Int):=by omega
   clear hE;generalize hS:bI ((xs.take en).drop (k+1))=s at *;generalize xs[k]?.getD dE=x at *;have c:=ae g;have HS:=ae hS;clear g hS f i2 i3 c1 c2 c3;have h:wt x=if x.kind=0∨x.kind=1 then 1 else if x.kind=2∨x.kind=3 then -1 else 0:=rfl;generalize wt x=t at *;generalize x.kind=q at *;have d:=ae h;clear h
   by_cases q0:q=0
   ·subst q0;have ht:t=1:=d.u;go_wp2
    go_round
    case rel=>exact⟨k,by omega,by omega,by congr 1,by have:=c.u;congr 1;omega⟩
    simp[intOf]
   by_cases q1:q=1
   ·subst q1;have ht:t=1:=d.u;go_wp2
    go_round
    case rel=>exact⟨k,by omega,by omega,by congr 1,by have:=c.u;congr 1;omega⟩
    simp[intOf]
   by_cases q2:q=2
   ·subst q2;have ht:t = -1:=d.u;go_wp2
    go_round
    case rel=>exact⟨k,by omega,by omega,by congr 1,by have:=c.u;congr 1;omega⟩
    simp[intOf]
   by_cases q3:q=3
   ·subst q3;have ht:t = -1:=d.u;go_wp2
    go_round
    case rel=>exact⟨k,by omega,by omega,by congr 1,by have:=c.u;congr 1;omega⟩
    simp[intOf]
   have ht:t=0:=by rw[d.u,if_neg (by omega),if_neg (by omega)]
   have b0:(q==0)=false:=by simp[q0]
   have b1:(q==1)=false:=by simp[q1]
   have b2:(q==2)=false:=by simp[q2]
   have b3:(q==3)=false:=by simp[q3]
   go_wp2
   go_round
   case rel=>exact⟨k,by omega,by omega,by congr 1,by have:=c.u;congr 1;omega⟩
   simp[intOf]
 obtain rfl:k=lo:=by omega
 rw[H1.u]
 by_cases hk0:0<k
 ·have j:0<(k:Int):=by omega
  go_wp2;go_ret;exact⟨rfl,rfl⟩
 have j:¬ 0<(k:Int):=by omega
 go_wp2;go_ret;exact⟨rfl,rfl⟩
end Go.Proofs.YtpmcjimgkabpeaaGreatDoor
