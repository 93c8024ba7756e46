import Derived.Test.YtlidckepahpaeaaGreatDoorRows
import Derived.WalkKit
import Derived.ProofKit
import Derived.Below
import Derived.Deep.OwnRows
import Derived.WalkSmall
import Derived.Deep.QuietTactic
import Derived.BigQuiet
namespace Go.Proofs.YtlidckepahpaeaaGreatDoor
open Go.RowKit
structure El where
 kind:Int
 set:List Int
 mn:Int
 mx:Int
def dE:El:=⟨0,[],0,0⟩
def In64 (x:Int):Prop := -9223372036854775808≤x∧x≤9223372036854775807
def IntsAt (lo n:Nat) (w:World) (v:Value) (xs:List Int):Prop :=
 ∃ a cap,v = .slice a xs.length cap∧xs.length≤maxLen∧(∀ i:Nat,In64 (xs[i]?.getD 0)) ∧
  (0<xs.length→∃ b off,a=some ⟨b,off,none⟩∧lo≤b∧b<n∧∀ i:Nat,i<xs.length→w.cell? ⟨b,off+i,none⟩ = some (.int .i64 (xs[i]?.getD 0)))
def ElAt (lo n:Nat) (w:World) (b o:Nat) (x:El):Prop :=
 In64 x.kind∧In64 x.mn∧In64 x.mx∧∃ v,w.cell? ⟨b,o,none⟩ = some (.int .i64 x.kind)∧w.cell? ⟨b,o+1,none⟩ = some v ∧
  w.cell? ⟨b,o+2,none⟩ = some (.int .i64 x.mn)∧w.cell? ⟨b,o+3,none⟩ = some (.int .i64 x.mx)∧IntsAt lo n w v x.set
def ElsAt (lo n:Nat) (w:World) (v:Value) (xs:List El):Prop :=
 ∃ a cap,v = .slice a xs.length cap∧(xs.length≤cap∧cap≤maxLen) ∧
  (0<xs.length→∃ b off,a=some ⟨b,off,none⟩∧lo≤b∧b<n∧∀ i:Nat,i<xs.length→ElAt lo n w b (off+i * 4) (xs[i]?.getD dE))
def Same (lo n:Nat) (w w':World):Prop:=∀ b o,lo≤b→b<n→w'.cell? ⟨b,o,none⟩ = w.cell? ⟨b,o,none⟩
theorem Same.of_below {lo n m:Nat} {w w':World} (hb:Below m w w') (hm:n≤m):Same lo n w w':=fun b o _ h => hb.cell (p:=⟨b,o,none⟩) (by show b<m; omega)
theorem IntsAt.same {lo n:Nat} {w w':World} {v:Value} {xs:List Int} (h:IntsAt lo n w v xs) (hs:Same lo n w w'):IntsAt lo n w' v xs:=by
 obtain ⟨a,cap,rfl,hl,hr,hc⟩ := h
 refine ⟨a,cap,rfl,hl,hr,fun hp => ?_⟩
 obtain ⟨b,off,rfl,hlo,hbn,hcell⟩ := hc hp
 exact ⟨b,off,rfl,hlo,hbn,fun i hi => by rw [hs b _ hlo hbn]; exact hcell i hi⟩
theorem IntsAt.mono {lo n lo' m:Nat} {w:World} {v:Value} {xs:List Int} (h:IntsAt lo n w v xs) (hl':lo'≤lo) (hm:n≤m):IntsAt lo' m w v xs:=by
 obtain ⟨a,cap,rfl,hl,hr,hc⟩ := h
 refine ⟨a,cap,rfl,hl,hr,fun hp => ?_⟩
 obtain ⟨b,off,rfl,hlo,hbn,hcell⟩ := hc hp
 exact ⟨b,off,rfl,by omega,by omega,hcell⟩
theorem ElAt.same {lo n b o:Nat} {w w':World} {x:El} (h:ElAt lo n w b o x) (hs:Same lo n w w') (h1:lo≤b) (h2:b<n):ElAt lo n w' b o x:=by
 obtain ⟨i1,i2,i3,v,c0,c1,c2,c3,hi⟩ := h
 refine ⟨i1,i2,i3,v,?_,?_,?_,?_,hi.same hs⟩ <;> rw [hs _ _ h1 h2] <;> assumption
theorem ElAt.mono {lo n lo' m b o:Nat} {w:World} {x:El} (h:ElAt lo n w b o x) (hl':lo'≤lo) (hm:n≤m):ElAt lo' m w b o x:=by
 obtain ⟨h1,h2,h3,v,c0,c1,c2,c3,hi⟩ := h
 exact ⟨h1,h2,h3,v,c0,c1,c2,c3,hi.mono hl' hm⟩
theorem ElsAt.same {lo n:Nat} {w w':World} {v:Value} {xs:List El} (h:ElsAt lo n w v xs) (hs:Same lo n w w'):ElsAt lo n w' v xs:=by
 obtain ⟨a,cap,rfl,hl,hc⟩ := h
 refine ⟨a,cap,rfl,hl,fun hp => ?_⟩
 obtain ⟨b,off,rfl,hlo,hbn,hcell⟩ := hc hp
 exact ⟨b,off,rfl,hlo,hbn,fun i hi => (hcell i hi).same hs hlo hbn⟩
theorem ElsAt.mono {lo n lo' m:Nat} {w:World} {v:Value} {xs:List El} (h:ElsAt lo n w v xs) (hl':lo'≤lo) (hm:n≤m):ElsAt lo' m w v xs:=by
 obtain ⟨a,cap,rfl,hl,hc⟩ := h
 refine ⟨a,cap,rfl,hl,fun hp => ?_⟩
 obtain ⟨b,off,rfl,hlo,hbn,hcell⟩ := hc hp
 exact ⟨b,off,rfl,by omega,by omega,fun i hi => (hcell i hi).mono hl' hm⟩
theorem IntsAt.below {lo m:Nat} {w w':World} {v:Value} {xs:List Int} (h:IntsAt lo w.heap.size w v xs) (hb:Below m w w') (hm:w.heap.size≤m):IntsAt lo w'.heap.size w' v xs :=
 (h.same (Same.of_below hb hm)).mono (Nat.le_refl _) hb.size
theorem ElsAt.below {lo m:Nat} {w w':World} {v:Value} {xs:List El} (h:ElsAt lo w.heap.size w v xs) (hb:Below m w w') (hm:w.heap.size≤m):ElsAt lo w'.heap.size w' v xs :=
 (h.same (Same.of_below hb hm)).mono (Nat.le_refl _) hb.size
theorem bcell {W w1:World} {n:Nat} (hb:Below n W w1):(∀ b o,b<n→w1.cell? ⟨b,o,none⟩ = W.cell? ⟨b,o,none⟩)∧(∀ b o,b<n→w1.frozen? ⟨b,o,none⟩ = W.frozen? ⟨b,o,none⟩) :=
 ⟨fun b o h => hb.cell (p:=⟨b,o,none⟩) h,fun b o h => hb.frozen (p:=⟨b,o,none⟩) h⟩
theorem sz_alloc (w:World) (o:Obj):(w.alloc o).heap.size=w.heap.size+1:=by simp
theorem below1 (w:World) (o:Obj):Below w.heap.size w (w.alloc o):=(Below.refl _ _).alloc (Nat.le_refl _) _
theorem below2 (w:World) (o p:Obj):Below w.heap.size w ((w.alloc o).alloc p):=(below1 w o).alloc (by rw [sz_alloc]; omega) _
theorem below3 (w:World) (o p q:Obj):Below w.heap.size w (((w.alloc o).alloc p).alloc q):=(below2 w o p).alloc (by rw [sz_alloc,sz_alloc]; omega) _
theorem bput {B:Nat} {a w:World} (h:Below B a w) {b o:Nat} (hp:B≤b) (u:Value):Below B a (w.setCell ⟨b,o,none⟩ u):=h.setCell hp u
theorem sz_put (w:World) (p:Addr) (u:Value):(w.setCell p u).heap.size=w.heap.size:=by simp [World.setCell]
def RetB (e:Ending) (P:Prop):Prop:=∃ r:Bool,e = .returned (.bool r)∧(r=true↔P)
theorem RetB.yes {P:Prop} (h:P):RetB (.returned (.bool true)) P:=⟨true,rfl,by simp [h]⟩
theorem RetB.no {P:Prop} (h:¬ P):RetB (.returned (.bool false)) P:=⟨false,rfl,by simp [h]⟩
theorem RetB.of {P:Prop} {b:Bool} (h:b=true↔P):RetB (.returned (.bool b)) P:=⟨b,rfl,h⟩
theorem RetB.cases {e:Ending} {P:Prop} (h:RetB e P):(e = .returned (.bool true)∧P)∨(e = .returned (.bool false)∧¬ P):=by
 obtain ⟨r,rfl,hr⟩ := h
 cases r with
 | true => exact Or.inl ⟨rfl,hr.1 rfl⟩
 | false => exact Or.inr ⟨rfl,fun hp => Bool.noConfusion (hr.2 hp)⟩
theorem hide {p:Prop} (h:p):Hid p:=h
theorem unhide {p:Prop} (h:Hid p):p:=h
theorem ret_int {k:IntKind} {a b:Int} (h:a=b):Ending.returned (.int k a) = .returned (.int k b):=by rw [h]
theorem ret_bool {a b:Bool} (h:a=b):Ending.returned (.bool a) = .returned (.bool b):=by rw [h]
def SlW {α:Type} (mk:α→Value) (d:α) (lo n:Nat) (w:World) (v:Value) (xs:List α):Prop :=
 ∃ a cap,v = .slice a xs.length cap∧xs.length≤maxLen ∧
  (0<xs.length→∃ b off,a=some ⟨b,off,none⟩∧lo≤b∧b<n∧(∃ c t,w.heap[b]? = some (.cells c t (0,0)))∧∀ i:Nat,i<xs.length→w.cell? ⟨b,off+i,none⟩ = some (mk (xs[i]?.getD d)))
structure Chg (lo n:Nat) (w w':World):Prop where
 os:w'.os=w.os
 tape:w'.tape=w.tape
 output:w'.output=w.output
 size:w'.heap.size=w.heap.size
 block:∀ k,(k<lo∨n≤k)→w'.heap[k]? = w.heap[k]?
theorem Chg.refl (lo n:Nat) (w:World):Chg lo n w w:=⟨rfl,rfl,rfl,rfl,fun _ _ => rfl⟩
theorem Chg.trans {lo n:Nat} {a b c:World} (h:Chg lo n a b) (k:Chg lo n b c):Chg lo n a c :=
 ⟨k.os.trans h.os,k.tape.trans h.tape,k.output.trans h.output,k.size.trans h.size,fun i hi => (k.block i hi).trans (h.block i hi)⟩
theorem Chg.put {lo n:Nat} {a w:World} (h:Chg lo n a w) {b o:Nat} (h1:lo≤b) (h2:b<n) (u:Value):Chg lo n a (w.setCell ⟨b,o,none⟩ u) :=
 h.trans ⟨rfl,rfl,rfl,by simp [World.setCell],fun k hk => Below.heap_setCell _ _ _ _ (by show k ≠ b; omega)⟩
theorem Chg.below {lo n:Nat} {w w':World} (h:Chg lo n w w'):Below lo w w':=⟨h.os,h.tape,h.output,by rw [h.size]; exact Nat.le_refl _,fun k hk => h.block k (Or.inl hk)⟩
def SameB (lo n:Nat) (w w':World):Prop:=∀ k,lo≤k→k<n→w'.heap[k]? = w.heap[k]?
theorem SameB.of_below {lo n m:Nat} {w w':World} (hb:Below m w w') (hm:n≤m):SameB lo n w w':=fun k _ h => hb.block k (by omega)
theorem SlW.same {α:Type} {mk:α→Value} {d:α} {lo n:Nat} {w w':World} {v:Value} {xs:List α} (h:SlW mk d lo n w v xs) (hs:SameB lo n w w'):SlW mk d lo n w' v xs:=by
 obtain ⟨a,cap,rfl,hl,hc⟩ := h
 refine ⟨a,cap,rfl,hl,fun hp => ?_⟩
 obtain ⟨b,off,rfl,h1,h2,⟨c,t,hb⟩,hcell⟩ := hc hp
 have e:=hs b h1 h2
 exact ⟨b,off,rfl,h1,h2,⟨c,t,e.trans hb⟩,fun i hi => by rw [World.cell?_of_block (w:=w) (a:=⟨b,off+i,none⟩) e]; exact hcell i hi⟩
theorem SlW.mono {α:Type} {mk:α→Value} {d:α} {lo n lo' n':Nat} {w:World} {v:Value} {xs:List α} (h:SlW mk d lo n w v xs) (h1:lo'≤lo) (h2:n≤n'):SlW mk d lo' n' w v xs:=by
 obtain ⟨a,cap,rfl,hl,hc⟩ := h
 refine ⟨a,cap,rfl,hl,fun hp => ?_⟩
 obtain ⟨b,off,rfl,h3,h4,h5,hcell⟩ := hc hp
 exact ⟨b,off,rfl,by omega,by omega,h5,hcell⟩
def SlAt {α:Type} (mk:α→Value) (d:α) (lo n:Nat) (w:World) (v:Value) (xs:List α):Prop :=
 ∃ a cap,v = .slice a xs.length cap∧xs.length≤maxLen ∧
  (0<xs.length→∃ b off,a=some ⟨b,off,none⟩∧lo≤b∧b<n∧∀ i:Nat,i<xs.length→w.cell? ⟨b,off+i,none⟩ = some (mk (xs[i]?.getD d)))
theorem SlW.at {α:Type} {mk:α→Value} {d:α} {lo n:Nat} {w:World} {v:Value} {xs:List α} (h:SlW mk d lo n w v xs):SlAt mk d lo n w v xs:=by
 obtain ⟨a,cap,rfl,hl,hc⟩ := h
 refine ⟨a,cap,rfl,hl,fun hp => ?_⟩
 obtain ⟨b,off,rfl,h3,h4,h5,hcell⟩ := hc hp
 exact ⟨b,off,rfl,h3,h4,hcell⟩
theorem SlAt.same {α:Type} {mk:α→Value} {d:α} {lo n:Nat} {w w':World} {v:Value} {xs:List α} (h:SlAt mk d lo n w v xs) (hs:Same lo n w w'):SlAt mk d lo n w' v xs:=by
 obtain ⟨a,cap,rfl,hl,hc⟩ := h
 refine ⟨a,cap,rfl,hl,fun hp => ?_⟩
 obtain ⟨b,off,rfl,hlo,hbn,hcell⟩ := hc hp
 exact ⟨b,off,rfl,hlo,hbn,fun i hi => by rw [hs b _ hlo hbn]; exact hcell i hi⟩
theorem SlAt.mono {α:Type} {mk:α→Value} {d:α} {lo n lo' n':Nat} {w:World} {v:Value} {xs:List α} (h:SlAt mk d lo n w v xs) (h1:lo'≤lo) (h2:n≤n'):SlAt mk d lo' n' w v xs:=by
 obtain ⟨a,cap,rfl,hl,hc⟩ := h
 refine ⟨a,cap,rfl,hl,fun hp => ?_⟩
 obtain ⟨b,off,rfl,h3,h4,hcell⟩ := hc hp
 exact ⟨b,off,rfl,by omega,by omega,hcell⟩
theorem SlAt.below {α:Type} {mk:α→Value} {d:α} {lo m:Nat} {w w':World} {v:Value} {xs:List α} (h:SlAt mk d lo w.heap.size w v xs) (hb:Below m w w') (hm:w.heap.size≤m):SlAt mk d lo w'.heap.size w' v xs :=
 (h.same (Same.of_below hb hm)).mono (Nat.le_refl _) hb.size
def CapOk (v:Value):Prop:=∃ a n c,v = .slice a n c∧n≤c∧c≤maxLen
theorem CapOk.le {a:Option Addr} {n c:Nat} (h:CapOk (.slice a n c)):n≤c∧c≤maxLen:=by
 obtain ⟨a',n',c',e,h1⟩ := h
 cases e
 exact h1
theorem CapOk.mk {a:Option Addr} {n c:Nat} (h:n≤c) (h2:c≤maxLen):CapOk (.slice a n c):=⟨a,n,c,rfl,h,h2⟩
def mI (x:Int):Value:=.int .i64 x
def mT (x:Bool):Value:=.bool x
theorem frz {w:World} {b j:Nat} (h:∃ c t,w.heap[b]? = some (.cells c t (0,0))):w.frozen? ⟨b,j,none⟩ = false:=by
 obtain ⟨c,t,hb⟩ := h
 simp [World.frozen?,hb]
def cnts (k:Int) (n:Nat):List Int:=(List.range n).map (fun i:Nat => k+(i:Int))
theorem cnts_len (k:Int) (n:Nat):(cnts k n).length=n:=by simp [cnts]
theorem cnts_get (k:Int) (n i:Nat) (h:i<n):(cnts k n)[i]?.getD 0=k+i:=by simp [cnts,h]
theorem put_same {w:World} {b o:Nat} {u v:Value} (h:w.cell? ⟨b,o,none⟩ = some u):(w.setCell ⟨b,o,none⟩ v).cell? ⟨b,o,none⟩ = some v:=by
 apply World.cell?_setCell_same
 exact h
theorem put_other {w:World} {b o b' o':Nat} {v:Value} (h:b ≠ b'∨o ≠ o'):(w.setCell ⟨b,o,none⟩ v).cell? ⟨b',o',none⟩ = w.cell? ⟨b',o',none⟩ := by
 apply World.cell?_setCell_other
 intro e
 simp only [Addr.mk.injEq] at e
 omega
theorem own_put {w:World} {b j:Nat} {u:Value} (h:∃ c t,w.heap[b]? = some (.cells c t (0,0))):∃ c t,(w.setCell ⟨b,j,none⟩ u).heap[b]? = some (.cells c t (0,0)):=by
 obtain ⟨c,t,hb⟩ := h
 exact ⟨c.setIfInBounds j u,t,by simp [World.setCell,Array.getElem?_modify,hb]⟩
end Go.Proofs.YtlidckepahpaeaaGreatDoor
