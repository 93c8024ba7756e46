import Derived.Test.YtpmcjimgkabpeaaGreatDoorPk1
import Derived.Shelf.Spec.TrailingZeros
namespace Go.Proofs.YtpmcjimgkabpeaaGreatDoor
open Go.RowKit Go.Proofs.Tryz
structure It where
 nl:Bool
 fi:List Nat
 la:List Nat
def It.sh(a:It)(c:Nat):It:=⟨a.nl,a.fi.map (c + ·),a.la.map (c + ·)⟩
abbrev Lk:=List Nat×List Nat
def cT(c:Nat)(ln:List Lk):List Lk:=ln.map (fun p=>(p.1.map (c + ·),p.2.map (c + ·)))
def bV(l r:It):It:=⟨l.nl&&r.nl,l.fi++(if l.nl then r.fi else []),(if r.nl then l.la else [])++r.la⟩
def cP(l r:It):It:=⟨l.nl||r.nl,l.fi++r.fi,l.la++r.la⟩
def dL(o:It)(mn:Int):It:=⟨o.nl||decide (mn=0),o.fi,o.la⟩
structure Ms where
 c:Nat
 st:List It
 ln:List Lk
 ss:List (List Int)
def eU(s:Ms)(x:El):Ms:=
 if x.kind=0 then ⟨s.c,⟨true,[],[]⟩::s.st,s.ln,s.ss⟩
 else if x.kind=1 then ⟨s.c+1,⟨false,[s.c],[s.c]⟩::s.st,s.ln,s.ss++[x.set]⟩ else
 match s.st with
 | []=>s
 | [o]=>if x.kind=4 then ⟨s.c,[dL o x.mn],s.ln++[(o.la,o.fi)],s.ss⟩ else s
 | r::l::b=>if x.kind=4 then ⟨s.c,dL r x.mn::l::b,s.ln++[(r.la,r.fi)],s.ss⟩
  else if x.kind=2 then ⟨s.c,bV l r::b,s.ln++[(l.la,r.fi)],s.ss⟩ else ⟨s.c,cP l r::b,s.ln,s.ss⟩
def bR(s:Ms):List El->Ms
 | []=>s
 | x::r=>bR (eU s x) r
theorem bg(s:Ms)(a b:List El):bR s (a++b)=bR (bR s a) b:=by
 induction a generalizing s with
 | nil=>rfl
 | cons x r ih=>simp[bR,ih]
def cu(L:List El)(n:Nat)(a:It)(ln:List Lk)(ss:List (List Int)):Prop:=∀ s:Ms,bR s L=⟨s.c+n,a.sh s.c::s.st,s.ln++cT s.c ln,s.ss++ss⟩
theorem cu.one{L:List El}{n n':Nat}{a a':It}{ln ln':List Lk}{ss ss':List (List Int)}(h:cu L n a ln ss)(k:cu L n' a' ln' ss'):n=n'/\a.sh 0=a'.sh 0/\cT 0 ln=cT 0 ln'/\ss=ss':=by
 have:=(h ⟨0,[],[],[]⟩).symm.trans (k ⟨0,[],[],[]⟩)
 simpa using this
theorem xB(xs:List Nat):xs.map (0 + ·)=xs:=by simp
theorem yV(c d:Nat)(xs:List Nat):(xs.map (d + ·)).map (c + ·)=xs.map (c+d + ·):=by rw[List.map_map];congr 1;funext x;simp;omega
theorem It.sh_sh(a:It)(c d:Nat):(a.sh d).sh c=a.sh (c+d):=by unfold It.sh;simp only[yV]
theorem jM(c:Nat)(a b:List Lk):cT c (a++b)=cT c a++cT c b:=by simp[cT]
theorem pJ(c d:Nat)(a:List Lk):cT c (cT d a)=cT (c+d) a:=by
 unfold cT;rw[List.map_map]
 congr 1
 funext p
 simp only[Function.comp,yV]
theorem tz(l r:It)(c:Nat):(bV l r).sh c=bV (l.sh c) (r.sh c):=by
 unfold bV It.sh;simp only[List.map_append];cases l.nl<;>cases r.nl<;>simp
theorem tM(l r:It)(c:Nat):(cP l r).sh c=cP (l.sh c) (r.sh c):=by
 unfold cP It.sh;simp only[List.map_append]
theorem cu.e:cu [⟨0,[],0,0⟩] 0 ⟨true,[],[]⟩ [] []:=fun s=>by simp[bR,eU,It.sh,cT]
theorem cu.s(xs:List Int):cu [⟨1,xs,0,0⟩] 1 ⟨false,[0],[0]⟩ [] [xs]:=fun s=>by simp[bR,eU,It.sh,cT]
theorem cu.cat{A B:List El}{n m:Nat}{a b:It}{la lb:List Lk}{sa sb:List (List Int)}(ha:cu A n a la sa)(hb:cu B m b lb sb) :
  cu (A++B++[⟨2,[],0,0⟩]) (n+m) (bV a (b.sh n)) (la++cT n lb++[(a.la,(b.sh n).fi)]) (sa++sb):=fun s=>by
 rw[bg,bg,ha,hb];simp only[bR,eU];simp only[jM,pJ,tz,It.sh_sh,List.append_assoc];simp[cT,It.sh,Nat.add_assoc]
theorem cu.alt{A B:List El}{n m:Nat}{a b:It}{la lb:List Lk}{sa sb:List (List Int)}(ha:cu A n a la sa)(hb:cu B m b lb sb) :
  cu (A++B++[⟨3,[],0,0⟩]) (n+m) (cP a (b.sh n)) (la++cT n lb) (sa++sb):=fun s=>by
 rw[bg,bg,ha,hb];simp only[bR,eU];simp only[jM,pJ,tM,It.sh_sh,List.append_assoc];simp[Nat.add_assoc]
theorem cu.rep{A:List El}{n:Nat}{a:It}{la:List Lk}{sa:List (List Int)}(ha:cu A n a la sa)(mn mx:Int) :
  cu (A++[⟨4,[],mn,mx⟩]) n (dL a mn) (la++[(a.la,a.fi)]) sa:=fun s=>by
 rw[bg,ha];simp only[bR,eU];obtain⟨c,st,ln,ss⟩:=s;cases st with
 | nil=>simp[cT,dL,It.sh]
 | cons q st=>simp[cT,dL,It.sh]
open Go.Shelf
def Tryz.laysTZ_ren:Go.Shelf.Ren:=⟨fun|29=>95|n=>n,fun|22=>86|3=>3|4=>4|25=>192|54=>191|0=>0|5=>5|n=>n,fun|1=>0|n=>n⟩
theorem Tryz.laysTZ:Go.Proofs.Lays7.n29 prog Tryz.laysTZ_ren:={
 mixed:=by kernel_rfl
 f29:=func95.trans (congrArg some (by kernel_rfl))
 t0:=underlying0
 a0:=Tryz.isAgg0
 z0:=Tryz.sizeOf0
 v0:=Tryz.zeroValue0
 i0:=by kernel_rfl
 t3:=underlying3
 a3:=Tryz.isAgg3
 z3:=Tryz.sizeOf3
 v3:=Tryz.zeroValue3
 i3:=by kernel_rfl
 t4:=underlying4
 a4:=Tryz.isAgg4
 z4:=Tryz.sizeOf4
 v4:=Tryz.zeroValue4
 i4:=by kernel_rfl
 t5:=underlying5
 a5:=Tryz.isAgg5
 z5:=Tryz.sizeOf5
 v5:=Tryz.zeroValue5
 i5:=by kernel_rfl
 t22:=underlying86
 a22:=Tryz.isAgg86
 z22:=Tryz.sizeOf86
 v22:=Tryz.zeroValue86
 i22:=by kernel_rfl
 t25:=underlying192
 a25:=Tryz.isAgg192
 z25:=Tryz.sizeOf192
 v25:=Tryz.zeroValue192
 i25:=by kernel_rfl
 t54:=underlying191
 a54:=Tryz.isAgg191
 z54:=Tryz.sizeOf191
 g1:=by kernel_rfl }
end Go.Proofs.YtpmcjimgkabpeaaGreatDoor
