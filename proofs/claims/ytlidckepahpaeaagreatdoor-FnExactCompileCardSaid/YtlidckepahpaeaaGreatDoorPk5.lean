import Derived.Test.YtlidckepahpaeaaGreatDoorPk1
import Derived.Shelf.Spec.TrailingZeros
import Derived.Test.YtlidckepahpaeaaGreatDoorRows
namespace Go.Proofs.YtlidckepahpaeaaGreatDoor
open Go.RowKit
structure It where
 nl:Bool
 fi:List Nat
 la:List Nat
def It.sh (a:It) (c:Nat):It:=⟨a.nl,a.fi.map (c + ·),a.la.map (c + ·)⟩
abbrev Lk:=List Nat × List Nat
def shL (c:Nat) (ln:List Lk):List Lk:=ln.map (fun p => (p.1.map (c + ·),p.2.map (c + ·)))
def itCat (l r:It):It:=⟨l.nl && r.nl,l.fi ++ (if l.nl then r.fi else []),(if r.nl then l.la else []) ++ r.la⟩
def itAlt (l r:It):It:=⟨l.nl || r.nl,l.fi ++ r.fi,l.la ++ r.la⟩
def itRep (o:It) (mn:Int):It:=⟨o.nl || decide (mn=0),o.fi,o.la⟩
structure Ms where
 c:Nat
 st:List It
 ln:List Lk
 ss:List (List Int)
def oPush (s:Ms) (x:El):Ms :=
 if x.kind=0 then ⟨s.c,⟨true,[],[]⟩ :: s.st,s.ln,s.ss⟩
 else if x.kind=1 then ⟨s.c+1,⟨false,[s.c],[s.c]⟩ :: s.st,s.ln,s.ss ++ [x.set]⟩ else
 match s.st with
 | [] => s
 | [o] => if x.kind=4 then ⟨s.c,[itRep o x.mn],s.ln ++ [(o.la,o.fi)],s.ss⟩ else s
 | r :: l :: b => if x.kind=4 then ⟨s.c,itRep r x.mn :: l :: b,s.ln ++ [(r.la,r.fi)],s.ss⟩
  else if x.kind=2 then ⟨s.c,itCat l r :: b,s.ln ++ [(l.la,r.fi)],s.ss⟩ else ⟨s.c,itAlt l r :: b,s.ln,s.ss⟩
def oRun (s:Ms):List El→Ms
 | [] => s
 | x :: r => oRun (oPush s x) r
theorem oRun_append (s:Ms) (a b:List El):oRun s (a ++ b)=oRun (oRun s a) b:=by
 induction a generalizing s with
 | nil => rfl
 | cons x r ih => simp [oRun,ih]
def SegO (L:List El) (n:Nat) (a:It) (ln:List Lk) (ss:List (List Int)):Prop:=∀ s:Ms,oRun s L=⟨s.c+n,a.sh s.c :: s.st,s.ln ++ shL s.c ln,s.ss ++ ss⟩
theorem SegO.one {L:List El} {n n':Nat} {a a':It} {ln ln':List Lk} {ss ss':List (List Int)} (h:SegO L n a ln ss) (k:SegO L n' a' ln' ss'):n=n'∧a.sh 0=a'.sh 0∧shL 0 ln=shL 0 ln'∧ss=ss':=by
 have:=(h ⟨0,[],[],[]⟩).symm.trans (k ⟨0,[],[],[]⟩)
 simpa using this
theorem shiftS (c d:Nat) (xs:List Nat):(xs.map (d + ·)).map (c + ·)=xs.map (c+d + ·):=by rw [List.map_map]; congr 1; funext x; simp; omega
theorem It.sh_sh (a:It) (c d:Nat):(a.sh d).sh c=a.sh (c+d):=by unfold It.sh; simp only [shiftS]
theorem shL_app (c:Nat) (a b:List Lk):shL c (a ++ b)=shL c a ++ shL c b:=by simp [shL]
theorem shL_sh (c d:Nat) (a:List Lk):shL c (shL d a)=shL (c+d) a:=by
 unfold shL
 rw [List.map_map]
 congr 1
 funext p
 simp only [Function.comp,shiftS]
theorem cat_sh (l r:It) (c:Nat):(itCat l r).sh c=itCat (l.sh c) (r.sh c):=by
 unfold itCat It.sh
 simp only [List.map_append]
 cases l.nl <;> cases r.nl <;> simp
theorem alt_sh (l r:It) (c:Nat):(itAlt l r).sh c=itAlt (l.sh c) (r.sh c):=by
 unfold itAlt It.sh
 simp only [List.map_append]
theorem SegO.e:SegO [⟨0,[],0,0⟩] 0 ⟨true,[],[]⟩ [] []:=fun s => by simp [oRun,oPush,It.sh,shL]
theorem SegO.s (xs:List Int):SegO [⟨1,xs,0,0⟩] 1 ⟨false,[0],[0]⟩ [] [xs]:=fun s => by simp [oRun,oPush,It.sh,shL]
theorem SegO.cat {A B:List El} {n m:Nat} {a b:It} {la lb:List Lk} {sa sb:List (List Int)} (ha:SegO A n a la sa) (hb:SegO B m b lb sb) :
  SegO (A ++ B ++ [⟨2,[],0,0⟩]) (n+m) (itCat a (b.sh n)) (la ++ shL n lb ++ [(a.la,(b.sh n).fi)]) (sa ++ sb):=fun s => by
 rw [oRun_append,oRun_append,ha,hb]
 simp only [oRun,oPush]
 simp only [shL_app,shL_sh,cat_sh,It.sh_sh,List.append_assoc]
 simp [shL,It.sh,Nat.add_assoc]
theorem SegO.alt {A B:List El} {n m:Nat} {a b:It} {la lb:List Lk} {sa sb:List (List Int)} (ha:SegO A n a la sa) (hb:SegO B m b lb sb) :
  SegO (A ++ B ++ [⟨3,[],0,0⟩]) (n+m) (itAlt a (b.sh n)) (la ++ shL n lb) (sa ++ sb):=fun s => by
 rw [oRun_append,oRun_append,ha,hb]
 simp only [oRun,oPush]
 simp only [shL_app,shL_sh,alt_sh,It.sh_sh,List.append_assoc]
 simp [Nat.add_assoc]
theorem SegO.rep {A:List El} {n:Nat} {a:It} {la:List Lk} {sa:List (List Int)} (ha:SegO A n a la sa) (mn mx:Int) :
  SegO (A ++ [⟨4,[],mn,mx⟩]) n (itRep a mn) (la ++ [(a.la,a.fi)]) sa:=fun s => by
 rw [oRun_append,ha]
 simp only [oRun,oPush]
 obtain ⟨c,st,ln,ss⟩ := s
 cases st with
 | nil => simp [shL,itRep,It.sh]
 | cons q st => simp [shL,itRep,It.sh]
open Go.Shelf
def Tryz.laysTZ_ren:Go.Shelf.Ren:=⟨fun | 29 => 85 | n => n,fun | 22 => 83 | 3 => 3 | 4 => 4 | 25 => 185 | 54 => 184 | 0 => 0 | 5 => 5 | n => n,fun | 1 => 0 | n => n⟩
theorem Tryz.laysTZ:Go.Proofs.Lays7.n29 Tryz.prog Tryz.laysTZ_ren:={
 mixed:=by kernel_rfl
 f29:=Tryz.func85.trans (congrArg some (by kernel_rfl))
 t0:=Tryz.underlying0
 a0:=Tryz.isAgg0
 z0:=Tryz.sizeOf0
 v0:=Tryz.zeroValue0
 i0:=by kernel_rfl
 t3:=Tryz.underlying3
 a3:=Tryz.isAgg3
 z3:=Tryz.sizeOf3
 v3:=Tryz.zeroValue3
 i3:=by kernel_rfl
 t4:=Tryz.underlying4
 a4:=Tryz.isAgg4
 z4:=Tryz.sizeOf4
 v4:=Tryz.zeroValue4
 i4:=by kernel_rfl
 t5:=Tryz.underlying5
 a5:=Tryz.isAgg5
 z5:=Tryz.sizeOf5
 v5:=Tryz.zeroValue5
 i5:=by kernel_rfl
 t22:=Tryz.underlying83
 a22:=Tryz.isAgg83
 z22:=Tryz.sizeOf83
 v22:=Tryz.zeroValue83
 i22:=by kernel_rfl
 t25:=Tryz.underlying185
 a25:=Tryz.isAgg185
 z25:=Tryz.sizeOf185
 v25:=Tryz.zeroValue185
 i25:=by kernel_rfl
 t54:=Tryz.underlying184
 a54:=Tryz.isAgg184
 z54:=Tryz.sizeOf184
 g1:=by kernel_rfl }
def wt (x:El):Int:=if x.kind=0∨x.kind=1 then 1 else if x.kind=2∨x.kind=3 then -1 else 0
def wsum:List El→Int
 | [] => 0
 | x :: r => wt x+wsum r
theorem wsum_append (a b:List El):wsum (a ++ b)=wsum a+wsum b:=by
 induction a with
 | nil => simp [wsum]
 | cons x r ih => simp [wsum,ih]; omega
theorem wt_le (x:El):wt x≤1:=by unfold wt; split <;> (try split) <;> omega
theorem wt_ge (x:El) : -1≤wt x:=by unfold wt; split <;> (try split) <;> omega
theorem wsum_bd (l:List El) : -(l.length:Int)≤wsum l∧wsum l≤l.length:=by
 induction l with
 | nil => simp [wsum]
 | cons x r ih => have:=wt_le x; have:=wt_ge x; simp [wsum]; omega
theorem drop_getD {xs:List El} {k:Nat} (h:k<xs.length):xs.drop k=xs[k]?.getD dE :: xs.drop (k+1):=by
 rw [List.drop_eq_getElem_cons h]; simp [h]
theorem wsum_drop {xs:List El} {k:Nat} (h:k<xs.length):wsum (xs.drop k)=wt (xs[k]?.getD dE)+wsum (xs.drop (k+1)):=by
 rw [drop_getD h]; rfl
def Shape (xs:List El):Prop:=wsum xs=1∧∀ k:Nat,0<k→k≤xs.length→wsum (xs.drop k)≤0
set_option maxHeartbeats 1000000 in
theorem l1shape_any (v:Value) (xs:List El) (w:World) (hv:ElsAt 0 w.heap.size w v xs) (hlen:xs.length≤1048576) :
  Calls Tryz.prog 60 #[v] w fun e w' => RetB e (Shape xs)∧w'=w:=by
 obtain ⟨a,cap,rfl,hl,hc⟩ := hv
 go_enter Tryz.func60,Tryz.ntmps60
 go_wp2
 go_loop [3,4] (fun n i => ∃ k:Nat,k≤xs.length∧i = .int .i64 ((k:Int) - 1)∧n = .int .i64 (1 - wsum (xs.drop k))∧wsum (xs.drop k)≤1∧∀ j:Nat,k<j→j≤xs.length→wsum (xs.drop j)≤0) (fun _ i => (intOf i+1).toNat)
 case atStart => exact ⟨xs.length,Nat.le_refl _,rfl,by simp [wsum],by simp [wsum],fun j h1 h2 => absurd h2 (by omega)⟩
 case round =>
  obtain ⟨k,hk,rfl,rfl,hle,hin⟩ := hrel
  have Hin:=hide hin
  clear hin
  cases k with
  | zero =>
   go_wp2
   go_ret
   refine ⟨RetB.of ⟨fun h => ⟨?_,fun j h1 h2 => unhide Hin j h1 h2⟩,fun h => ?_⟩,rfl⟩
   ·have:=beq_iff_eq.1 h; omega
   ·have:=h.1; exact beq_iff_eq.2 (by omega)
  | succ k =>
   obtain ⟨b,off,rfl,-,hbn,hel⟩ := hc (by omega)
   obtain ⟨i1,i2,i3,v,c0,c1,c2,c3,hints⟩ := hel k (by omega)
   have hws:=wsum_drop (xs:=xs) (k:=k) (by omega)
   have hbd:=wsum_bd (xs.drop (k+1))
   rw [List.length_drop] at hbd
   have hkk:(k:Int)<(xs.length:Int):=by omega
   generalize hS:wsum (xs.drop (k+1))=s at *
   generalize xs[k]?.getD dE=x at *
   have Hws:=hide hws
   have HS:=hide hS
   clear hws hS hints i2 i3 c1 c2 c3
   by_cases hs:1 - s=0
   ·go_wp2
    go_ret
    exact ⟨RetB.no (fun hsh => by have:=hsh.2 (k+1) (by omega) hk; rw [unhide HS] at this; omega),rfl⟩
   ·have hs0:s≤0:=by omega
    have hnext:Hid (∀ j:Nat,k<j→j≤xs.length→wsum (xs.drop j)≤0):=by
     intro j h1 h2
     by_cases e:j=k+1
     ·subst e; rw [unhide HS]; exact hs0
     ·exact unhide Hin j (by omega) h2
    have hwt:wt x=if x.kind=0∨x.kind=1 then 1 else if x.kind=2∨x.kind=3 then -1 else 0:=rfl
    generalize wt x=t at *
    generalize x.kind=q at *
    have Hwt:=hide hwt
    clear hwt
    have hs':(1 - s == 0)=false:=by simp; omega
    by_cases q0:q=0
    ·subst q0
     have ht:t=1:=unhide Hwt
     go_wp2
     go_round
     case rel => exact ⟨k,by omega,by congr 1,by have:=unhide Hws; congr 1; omega,by have:=unhide Hws; omega,unhide hnext⟩
     case measure => simp [intOf]
    ·by_cases q1:q=1
     ·subst q1
      have ht:t=1:=unhide Hwt
      go_wp2
      go_round
      case rel => exact ⟨k,by omega,by congr 1,by have:=unhide Hws; congr 1; omega,by have:=unhide Hws; omega,unhide hnext⟩
      case measure => simp [intOf]
     ·by_cases q2:q=2
      ·subst q2
       have ht:t = -1:=unhide Hwt
       go_wp2
       go_round
       case rel => exact ⟨k,by omega,by congr 1,by have:=unhide Hws; congr 1; omega,by have:=unhide Hws; omega,unhide hnext⟩
       case measure => simp [intOf]
      ·by_cases q3:q=3
       ·subst q3
        have ht:t = -1:=unhide Hwt
        go_wp2
        go_round
        case rel => exact ⟨k,by omega,by congr 1,by have:=unhide Hws; congr 1; omega,by have:=unhide Hws; omega,unhide hnext⟩
        case measure => simp [intOf]
       ·have ht:t=0:=by rw [unhide Hwt,if_neg (by omega),if_neg (by omega)]
        have b0:(q == 0)=false:=by simp [q0]
        have b1:(q == 1)=false:=by simp [q1]
        have b2:(q == 2)=false:=by simp [q2]
        have b3:(q == 3)=false:=by simp [q3]
        go_wp2
        go_round
        case rel => exact ⟨k,by omega,by congr 1,by have:=unhide Hws; congr 1; omega,by have:=unhide Hws; omega,unhide hnext⟩
        case measure => simp [intOf]
set_option maxHeartbeats 1000000 in
theorem l1start_any (v:Value) (xs:List El) (lo en:Nat) (w:World) (hv:ElsAt 0 w.heap.size w v xs) (hlen:xs.length≤1048576) (hle:lo<en) (hen:en≤xs.length)
  (h1:wsum ((xs.take en).drop lo)=1) (h2:∀ k:Nat,lo<k→k≤en→wsum ((xs.take en).drop k)≤0) :
  Calls Tryz.prog 96 #[v,.int .i64 (en:Int)] w fun e w' => e = .returned (.int .i64 (lo:Int))∧w'=w:=by
 obtain ⟨a,cap,rfl,hl,hc⟩ := hv
 have H2:=hide h2
 have H1:=hide h1
 clear h1 h2
 have hE:(xs.take en).length=en:=by rw [List.length_take]; omega
 go_enter Tryz.func96,Tryz.ntmps96
 go_wp2
 go_loop [5,6] (fun n i => ∃ k:Nat,lo≤k∧k≤en∧i = .int .i64 (k:Int)∧n = .int .i64 (1 - wsum ((xs.take en).drop k))) (fun _ i => (intOf i).toNat)
 case atStart => exact ⟨en,by omega,Nat.le_refl _,rfl,by rw [List.drop_eq_nil_of_le (by omega)]; rfl⟩
 case round =>
  obtain ⟨k,hk,hk2,rfl,rfl⟩ := hrel
  by_cases hgt:lo<k
  ·cases k with
   | zero => omega
   | succ k =>
    obtain ⟨b,off,rfl,-,hbn,hel⟩ := hc (by omega)
    obtain ⟨i1,i2,i3,v,c0,c1,c2,c3,hints⟩ := hel k (by omega)
    have hws:=wsum_drop (xs:=xs.take en) (k:=k) (by omega)
    have hbd:=wsum_bd ((xs.take en).drop (k+1))
    rw [List.length_drop,hE] at hbd
    rw [List.getElem?_take_of_lt (by omega)] at hws
    have hs0:=unhide H2 (k+1) hgt hk2
    have hkk:(k:Int)<(xs.length:Int):=by omega
    clear hE
    generalize hS:wsum ((xs.take en).drop (k+1))=s at *
    generalize xs[k]?.getD dE=x at *
    have Hws:=hide hws
    have HS:=hide hS
    clear hws hS hints i2 i3 c1 c2 c3
    have hwt:wt x=if x.kind=0∨x.kind=1 then 1 else if x.kind=2∨x.kind=3 then -1 else 0:=rfl
    generalize wt x=t at *
    generalize x.kind=q at *
    have Hwt:=hide hwt
    clear hwt
    by_cases q0:q=0
    ·subst q0
     have ht:t=1:=unhide Hwt
     go_wp2
     go_round
     case rel => exact ⟨k,by omega,by omega,by congr 1,by have:=unhide Hws; congr 1; omega⟩
     case measure => simp [intOf]
    ·by_cases q1:q=1
     ·subst q1
      have ht:t=1:=unhide Hwt
      go_wp2
      go_round
      case rel => exact ⟨k,by omega,by omega,by congr 1,by have:=unhide Hws; congr 1; omega⟩
      case measure => simp [intOf]
     ·by_cases q2:q=2
      ·subst q2
       have ht:t = -1:=unhide Hwt
       go_wp2
       go_round
       case rel => exact ⟨k,by omega,by omega,by congr 1,by have:=unhide Hws; congr 1; omega⟩
       case measure => simp [intOf]
      ·by_cases q3:q=3
       ·subst q3
        have ht:t = -1:=unhide Hwt
        go_wp2
        go_round
        case rel => exact ⟨k,by omega,by omega,by congr 1,by have:=unhide Hws; congr 1; omega⟩
        case measure => simp [intOf]
       ·have ht:t=0:=by rw [unhide Hwt,if_neg (by omega),if_neg (by omega)]
        have b0:(q == 0)=false:=by simp [q0]
        have b1:(q == 1)=false:=by simp [q1]
        have b2:(q == 2)=false:=by simp [q2]
        have b3:(q == 3)=false:=by simp [q3]
        go_wp2
        go_round
        case rel => exact ⟨k,by omega,by omega,by congr 1,by have:=unhide Hws; congr 1; omega⟩
        case measure => simp [intOf]
  ·obtain rfl:k=lo:=by omega
   rw [unhide H1]
   by_cases hk0:0<k
   ·have hk0':0<(k:Int):=by omega
    go_wp2
    go_ret
    exact ⟨rfl,rfl⟩
   ·have hk0':¬ 0<(k:Int):=by omega
    go_wp2
    go_ret
    exact ⟨rfl,rfl⟩
end Go.Proofs.YtlidckepahpaeaaGreatDoor
