import Derived.Test.YtidfkbghlkcbeaaGreatDoorRows
import Derived.WalkKit
import Derived.ProofKit
import Derived.Below
namespace Go.Proofs.YtidfkbghlkcbeaaGreatDoor
open Go.RowKit
theorem lR{n:Nat}:n<=n:=Nat.le_refl n
structure El where
 kind:Int
 set:List Int
 mn:Int
 mx:Int
def dE:El:=⟨0,[],0,0⟩
def az(x:Int):Prop:=-9223372036854775808<=x/\x<=9223372036854775807
def aR(lo n:Nat)(w:World)(v:Value)(xs:List Int):Prop:=
 ∃ a cap,v=.slice a xs.length cap/\xs.length<=maxLen/\(∀ i:Nat,az (xs[i]?.getD 0))/\
  (0<xs.length->∃ b off,a=some ⟨b,off,none⟩/\lo<=b/\b<n/\∀ i:Nat,i<xs.length->w.cell? ⟨b,off+i,none⟩=some (.int .i64 (xs[i]?.getD 0)))
def sM(lo n:Nat)(w:World)(b o:Nat)(x:El):Prop:=
 az x.kind/\az x.mn/\az x.mx/\∃ v,w.cell? ⟨b,o,none⟩=some (.int .i64 x.kind)/\w.cell? ⟨b,o+1,none⟩=some v/\
  w.cell? ⟨b,o+2,none⟩=some (.int .i64 x.mn)/\w.cell? ⟨b,o+3,none⟩=some (.int .i64 x.mx)/\aR lo n w v x.set
def aA(lo n:Nat)(w:World)(v:Value)(xs:List El):Prop:=
 ∃ a cap,v=.slice a xs.length cap/\(xs.length<=cap/\cap<=maxLen)/\
  (0<xs.length->∃ b off,a=some ⟨b,off,none⟩/\lo<=b/\b<n/\∀ i:Nat,i<xs.length->sM lo n w b (off+i*4) (xs[i]?.getD dE))
def dm(lo n:Nat)(w w':World):Prop:=∀ b o,lo<=b->b<n->w'.cell? ⟨b,o,none⟩=w.cell? ⟨b,o,none⟩
theorem dm.of_below{lo n m:Nat}{w w':World}(hb:Below m w w')(hm:n<=m):dm lo n w w':=fun b o _ h=>hb.cell (p:=⟨b,o,none⟩) (by show b<m;omega)
theorem dm.refl(lo n:Nat)(w:World):dm lo n w w:=fun _ _ _ _=>rfl
theorem dm.mono{lo n lo' n':Nat}{a b:World}(h:dm lo n a b)(h1:lo<=lo')(h2:n'<=n):dm lo' n' a b:=fun x o k1 k2=>h x o (by omega) (by omega)
theorem dm.setCell{lo n:Nat}{w w':World}(h:dm lo n w w'){b o:Nat}(hb:b<lo∨n<=b)(u:Value):dm lo n w (w'.setCell ⟨b,o,none⟩ u):=by
 intro x p h1 h2;rw[<-h x p h1 h2];exact World.cell?_of_block (Below.heap_setCell _ _ _ _ (by show x≠b;omega))
theorem aR.same{lo n:Nat}{w w':World}{v:Value}{xs:List Int}(h:aR lo n w v xs)(hs:dm lo n w w'):aR lo n w' v xs:=by
 obtain⟨a,cap,rfl,hl,hr,hc⟩:=h;refine⟨a,cap,rfl,hl,hr,fun hp=>?_⟩;obtain⟨b,off,rfl,d,e,c⟩:=hc hp;exact⟨b,off,rfl,d,e,fun i hi=>by rw[hs b _ d e];exact c i hi⟩
theorem aR.mono{lo n lo' m:Nat}{w:World}{v:Value}{xs:List Int}(h:aR lo n w v xs)(hl':lo'<=lo)(hm:n<=m):aR lo' m w v xs:=by
 obtain⟨a,cap,rfl,hl,hr,hc⟩:=h;refine⟨a,cap,rfl,hl,hr,fun hp=>?_⟩;obtain⟨b,off,rfl,d,e,c⟩:=hc hp;exact⟨b,off,rfl,by omega,by omega,c⟩
theorem sM.same{lo n b o:Nat}{w w':World}{x:El}(h:sM lo n w b o x)(hs:dm lo n w w')(h1:lo<=b)(h2:b<n):sM lo n w' b o x:=by
 obtain⟨i1,i2,i3,v,c0,c1,c2,c3,hi⟩:=h;refine⟨i1,i2,i3,v,?_,?_,?_,?_,hi.same hs⟩<;>rw[hs _ _ h1 h2]<;>assumption
theorem sM.mono{lo n lo' m b o:Nat}{w:World}{x:El}(h:sM lo n w b o x)(hl':lo'<=lo)(hm:n<=m):sM lo' m w b o x:=by
 obtain⟨h1,h2,h3,v,c0,c1,c2,c3,hi⟩:=h;exact⟨h1,h2,h3,v,c0,c1,c2,c3,hi.mono hl' hm⟩
theorem aA.same{lo n:Nat}{w w':World}{v:Value}{xs:List El}(h:aA lo n w v xs)(hs:dm lo n w w'):aA lo n w' v xs:=by
 obtain⟨a,cap,rfl,hl,hc⟩:=h;refine⟨a,cap,rfl,hl,fun hp=>?_⟩;obtain⟨b,off,rfl,d,e,c⟩:=hc hp;exact⟨b,off,rfl,d,e,fun i hi=>(c i hi).same hs d e⟩
theorem aA.mono{lo n lo' m:Nat}{w:World}{v:Value}{xs:List El}(h:aA lo n w v xs)(hl':lo'<=lo)(hm:n<=m):aA lo' m w v xs:=by
 obtain⟨a,cap,rfl,hl,hc⟩:=h;refine⟨a,cap,rfl,hl,fun hp=>?_⟩;obtain⟨b,off,rfl,d,e,c⟩:=hc hp;exact⟨b,off,rfl,by omega,by omega,fun i hi=>(c i hi).mono hl' hm⟩
theorem aR.below{lo m:Nat}{w w':World}{v:Value}{xs:List Int}(h:aR lo w.heap.size w v xs)(hb:Below m w w')(hm:w.heap.size<=m):aR lo w'.heap.size w' v xs:=
 (h.same (dm.of_below hb hm)).mono lR hb.size
theorem aA.below{lo m:Nat}{w w':World}{v:Value}{xs:List El}(h:aA lo w.heap.size w v xs)(hb:Below m w w')(hm:w.heap.size<=m):aA lo w'.heap.size w' v xs:=
 (h.same (dm.of_below hb hm)).mono lR hb.size
theorem cu{W w1:World}{n:Nat}(hb:Below n W w1):(∀ b o,b<n->w1.cell? ⟨b,o,none⟩=W.cell? ⟨b,o,none⟩)/\(∀ b o,b<n->w1.frozen? ⟨b,o,none⟩=W.frozen? ⟨b,o,none⟩):=
 ⟨fun b o h=>hb.cell (p:=⟨b,o,none⟩) h,fun b o h=>hb.frozen (p:=⟨b,o,none⟩) h⟩
theorem ah(w:World)(o:Obj):(w.alloc o).heap.size=w.heap.size+1:=by simp
theorem ai(w:World)(o:Obj):Below w.heap.size w (w.alloc o):=(Below.refl _ _).alloc lR _
theorem aI(w:World)(o p:Obj):Below w.heap.size w ((w.alloc o).alloc p):=(ai w o).alloc (by rw[ah];omega) _
theorem aD{B:Nat}{a w:World}(h:Below B a w){b o:Nat}(hp:B<=b)(u:Value):Below B a (w.setCell ⟨b,o,none⟩ u):=h.setCell hp u
theorem aM(w:World)(p:Addr)(u:Value):(w.setCell p u).heap.size=w.heap.size:=by simp[World.setCell]
def aJ(e:Ending)(P:Prop):Prop:=∃ r:Bool,e=.returned (.bool r)/\(r=true↔P)
theorem aJ.yes{P:Prop}(h:P):aJ (.returned (.bool true)) P:=⟨true,rfl,by simp[h]⟩
theorem aJ.no{P:Prop}(h:¬ P):aJ (.returned (.bool false)) P:=⟨false,rfl,by simp[h]⟩
theorem aJ.of{P:Prop}{b:Bool}(h:b=true↔P):aJ (.returned (.bool b)) P:=⟨b,rfl,h⟩
theorem aJ.cases{e:Ending}{P:Prop}(h:aJ e P):(e=.returned (.bool true)/\P)∨(e=.returned (.bool false)/\¬ P):=by
 obtain⟨r,rfl,hr⟩:=h;cases r with
 | true=>exact Or.inl ⟨rfl,hr.1 rfl⟩
 | false=>exact Or.inr ⟨rfl,fun hp=>Bool.noConfusion (hr.2 hp)⟩
def Hi(p:Prop):Prop:=p
theorem ae{p:Prop}(h:p):Hi p:=h
theorem FR{p:Prop}(h:Hi p):p:=h
theorem Hi.u{p:Prop}(h:Hi p):p:=h
theorem md{k:IntKind}{a b:Int}(h:a=b):Ending.returned (.int k a)=.returned (.int k b):=by rw[h]
theorem zJ{a b:Bool}(h:a=b):Ending.returned (.bool a)=.returned (.bool b):=by rw[h]
end Go.Proofs.YtidfkbghlkcbeaaGreatDoor
