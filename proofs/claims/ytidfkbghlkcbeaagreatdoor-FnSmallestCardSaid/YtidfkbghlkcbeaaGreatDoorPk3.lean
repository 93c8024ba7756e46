import Derived.Test.YtidfkbghlkcbeaaGreatDoorB0
import Derived.Deep.OwnRows
import Derived.WalkSmall
import Derived.Deep.QuietTactic
import Derived.BigQuiet
namespace Go.Proofs.YtidfkbghlkcbeaaGreatDoor
open Go.RowKit Go.Proofs.Tryz
def mj{α:Type}(mk:α->Value)(d:α)(lo n:Nat)(w:World)(v:Value)(xs:List α):Prop:=
 ∃ a cap,v=.slice a xs.length cap/\xs.length<=maxLen/\
  (0<xs.length->∃ b off,a=some ⟨b,off,none⟩/\lo<=b/\b<n/\(∃ c t,w.heap[b]?=some (.cells c t (0,0)))/\∀ i:Nat,i<xs.length->w.cell? ⟨b,off+i,none⟩=some (mk (xs[i]?.getD d)))
structure qF (lo n:Nat) (w w':World):Prop where
 os:w'.os=w.os
 tape:w'.tape=w.tape
 output:w'.output=w.output
 size:w'.heap.size=w.heap.size
 block:∀ k,(k<lo∨n<=k)->w'.heap[k]?=w.heap[k]?
theorem qF.refl(lo n:Nat)(w:World):qF lo n w w:=⟨rfl,rfl,rfl,rfl,fun _ _=>rfl⟩
theorem qF.trans{lo n:Nat}{a b c:World}(h:qF lo n a b)(k:qF lo n b c):qF lo n a c:=
 ⟨k.os.trans h.os,k.tape.trans h.tape,k.output.trans h.output,k.size.trans h.size,fun i hi=>(k.block i hi).trans (h.block i hi)⟩
theorem qF.put{lo n:Nat}{a w:World}(h:qF lo n a w){b o:Nat}(h1:lo<=b)(h2:b<n)(u:Value):qF lo n a (w.setCell ⟨b,o,none⟩ u):=
 h.trans ⟨rfl,rfl,rfl,by simp[World.setCell],fun k hk=>Below.heap_setCell _ _ _ _ (by show k≠b;omega)⟩
theorem qF.below{lo n:Nat}{w w':World}(h:qF lo n w w'):Below lo w w':=⟨h.os,h.tape,h.output,by rw[h.size];exact Nat.le_refl _,fun k hk=>h.block k (Or.inl hk)⟩
def EE(lo n:Nat)(w w':World):Prop:=∀ k,lo<=k->k<n->w'.heap[k]?=w.heap[k]?
theorem mj.same{α:Type}{mk:α->Value}{d:α}{lo n:Nat}{w w':World}{v:Value}{xs:List α}(h:mj mk d lo n w v xs)(hs:EE lo n w w'):mj mk d lo n w' v xs:=by
 obtain⟨a,cap,rfl,hl,hc⟩:=h;refine⟨a,cap,rfl,hl,fun hp=>?_⟩;obtain⟨b,off,rfl,h1,h2,⟨c,t,hb⟩,f⟩:=hc hp;have e:=hs b h1 h2;exact⟨b,off,rfl,h1,h2,⟨c,t,e.trans hb⟩,fun i hi=>by rw[World.cell?_of_block (w:=w) (a:=⟨b,off+i,none⟩) e];exact f i hi⟩
theorem mj.mono{α:Type}{mk:α->Value}{d:α}{lo n lo' n':Nat}{w:World}{v:Value}{xs:List α}(h:mj mk d lo n w v xs)(h1:lo'<=lo)(h2:n<=n'):mj mk d lo' n' w v xs:=by
 obtain⟨a,cap,rfl,hl,hc⟩:=h;refine⟨a,cap,rfl,hl,fun hp=>?_⟩;obtain⟨b,off,rfl,h3,h4,h5,c⟩:=hc hp;exact⟨b,off,rfl,by omega,by omega,h5,c⟩
def aK{α:Type}(mk:α->Value)(d:α)(lo n:Nat)(w:World)(v:Value)(xs:List α):Prop:=
 ∃ a cap,v=.slice a xs.length cap/\xs.length<=maxLen/\
  (0<xs.length->∃ b off,a=some ⟨b,off,none⟩/\lo<=b/\b<n/\∀ i:Nat,i<xs.length->w.cell? ⟨b,off+i,none⟩=some (mk (xs[i]?.getD d)))
theorem mj.at{α:Type}{mk:α->Value}{d:α}{lo n:Nat}{w:World}{v:Value}{xs:List α}(h:mj mk d lo n w v xs):aK mk d lo n w v xs:=by
 obtain⟨a,cap,rfl,hl,hc⟩:=h;refine⟨a,cap,rfl,hl,fun hp=>?_⟩;obtain⟨b,off,rfl,h3,h4,h5,c⟩:=hc hp;exact⟨b,off,rfl,h3,h4,c⟩
theorem aK.same{α:Type}{mk:α->Value}{d:α}{lo n:Nat}{w w':World}{v:Value}{xs:List α}(h:aK mk d lo n w v xs)(hs:dm lo n w w'):aK mk d lo n w' v xs:=by
 obtain⟨a,cap,rfl,hl,hc⟩:=h;refine⟨a,cap,rfl,hl,fun hp=>?_⟩;obtain⟨b,off,rfl,e,f,c⟩:=hc hp;exact⟨b,off,rfl,e,f,fun i hi=>by rw[hs b _ e f];exact c i hi⟩
theorem aK.mono{α:Type}{mk:α->Value}{d:α}{lo n lo' n':Nat}{w:World}{v:Value}{xs:List α}(h:aK mk d lo n w v xs)(h1:lo'<=lo)(h2:n<=n'):aK mk d lo' n' w v xs:=by
 obtain⟨a,cap,rfl,hl,hc⟩:=h;refine⟨a,cap,rfl,hl,fun hp=>?_⟩;obtain⟨b,off,rfl,h3,h4,c⟩:=hc hp;exact⟨b,off,rfl,by omega,by omega,c⟩
theorem aK.below{α:Type}{mk:α->Value}{d:α}{lo m:Nat}{w w':World}{v:Value}{xs:List α}(h:aK mk d lo w.heap.size w v xs)(hb:Below m w w')(hm:w.heap.size<=m):aK mk d lo w'.heap.size w' v xs:=
 (h.same (dm.of_below hb hm)).mono lR hb.size
def cB(v:Value):Prop:=∃ a n c,v=.slice a n c/\n<=c/\c<=maxLen
theorem cB.le{a:Option Addr}{n c:Nat}(h:cB (.slice a n c)):n<=c/\c<=maxLen:=by
 obtain⟨a',n',c',e,h1⟩:=h;cases e;exact h1
theorem cB.mk{a:Option Addr}{n c:Nat}(h:n<=c)(h2:c<=maxLen):cB (.slice a n c):=⟨a,n,c,rfl,h,h2⟩
def mI(x:Int):Value:=.int .i64 x
def mB(x:Int):Value:=.int .u8 x
def mT(x:Bool):Value:=.bool x
theorem dX{w:World}{b o:Nat}{u v:Value}(h:w.cell? ⟨b,o,none⟩=some u):(w.setCell ⟨b,o,none⟩ v).cell? ⟨b,o,none⟩=some v:=by
 apply World.cell?_setCell_same
 exact h
theorem aL{w:World}{b o b' o':Nat}{v:Value}(h:b≠b'∨o≠o'):(w.setCell ⟨b,o,none⟩ v).cell? ⟨b',o',none⟩=w.cell? ⟨b',o',none⟩:=by
 apply World.cell?_setCell_other
 intro e;simp only[Addr.mk.injEq]at e;omega
theorem Tryz.zinInt:(prog.info? 3).map (fun i=>(i.zero,i.size,i.bytes))=some (some (.int .i64 0),1,8):=by kernel_rfl
theorem Tryz.zinBool:(prog.info? 4).map (fun i=>(i.zero,i.size,i.bytes))=some (some (.bool false),1,1):=by kernel_rfl
def sy(bs:List Int):Prop:=∀ i:Nat,0<=bs[i]?.getD 0/\bs[i]?.getD 0<=255
theorem aK.cut{α:Type}{mk:α->Value}{d:α}{m:Nat}{w w':World}{v:Value}{xs:List α}(h:aK mk d 0 w.heap.size w v xs)(hb:Below m w w')(hm:w.heap.size<=m):aK mk d 0 w'.heap.size w' v xs:=h.below hb hm
def aC(w:World)(b:Nat)(t:TypeId)(c0 c1 c2 c3:Value):Prop:=w.rowIs b t 4 (fun j=>[c0,c1,c2,c3].getD j undef)
theorem aC.new(w:World)(t:TypeId)(c0 c1 c2 c3:Value):aC (w.alloc (.cells #[c0,c1,c2,c3] t)) w.heap.size t c0 c1 c2 c3:=
 World.rowIs_alloc w #[c0,c1,c2,c3] t _ (fun i hi=>by
  match i,hi with
  | 0,_=>rfl
  | 1,_=>rfl
  | 2,_=>rfl
  | 3,_=>rfl)
theorem aC.alloc{w:World}{b:Nat}{t:TypeId}{c0 c1 c2 c3:Value}(h:aC w b t c0 c1 c2 c3)(o:Obj):aC (w.alloc o) b t c0 c1 c2 c3:=World.rowIs.alloc h o
theorem aC.below{w w':World}{b m:Nat}{t:TypeId}{c0 c1 c2 c3:Value}(h:aC w b t c0 c1 c2 c3)(hb:Below m w w')(hm:b<m):aC w' b t c0 c1 c2 c3:=World.rowIs.of_block h (hb.block b hm)
theorem aC.put0{w:World}{b:Nat}{t:TypeId}{c0 c1 c2 c3 u:Value}(h:aC w b t c0 c1 c2 c3):aC (w.setCell ⟨b,0,none⟩ u) b t u c1 c2 c3:=(World.rowIs.set h 0 u).congr (fun i hi=>by
  match i,hi with
  | 0,_=>rfl
  | 1,_=>rfl
  | 2,_=>rfl
  | 3,_=>rfl)
theorem aC.put1{w:World}{b:Nat}{t:TypeId}{c0 c1 c2 c3 u:Value}(h:aC w b t c0 c1 c2 c3):aC (w.setCell ⟨b,1,none⟩ u) b t c0 u c2 c3:=(World.rowIs.set h 1 u).congr (fun i hi=>by
  match i,hi with
  | 0,_=>rfl
  | 1,_=>rfl
  | 2,_=>rfl
  | 3,_=>rfl)
theorem aC.put2{w:World}{b:Nat}{t:TypeId}{c0 c1 c2 c3 u:Value}(h:aC w b t c0 c1 c2 c3):aC (w.setCell ⟨b,2,none⟩ u) b t c0 c1 u c3:=(World.rowIs.set h 2 u).congr (fun i hi=>by
  match i,hi with
  | 0,_=>rfl
  | 1,_=>rfl
  | 2,_=>rfl
  | 3,_=>rfl)
theorem aC.facts{w:World}{b:Nat}{t:TypeId}{c0 c1 c2 c3:Value}(h:aC w b t c0 c1 c2 c3) :
  w.cell? ⟨b,0,none⟩=some c0/\w.cell? ⟨b,1,none⟩=some c1/\w.cell? ⟨b,2,none⟩=some c2/\w.cell? ⟨b,3,none⟩=some c3/\w.frozen? ⟨b,0,none⟩=false/\w.frozen? ⟨b,1,none⟩=false/\w.frozen? ⟨b,2,none⟩=false/\w.frozen? ⟨b,3,none⟩=false:=
 ⟨World.rowIs.cell h (i:=0) (by omega),World.rowIs.cell h (i:=1) (by omega),World.rowIs.cell h (i:=2) (by omega),World.rowIs.cell h (i:=3) (by omega),World.rowIs.frozen h 0,World.rowIs.frozen h 1,World.rowIs.frozen h 2,World.rowIs.frozen h 3⟩
end Go.Proofs.YtidfkbghlkcbeaaGreatDoor
