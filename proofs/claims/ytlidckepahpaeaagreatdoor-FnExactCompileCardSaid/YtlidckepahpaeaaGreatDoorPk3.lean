import Derived.Test.YtlidckepahpaeaaGreatDoorPk1
import Derived.Deep.QuietTactic
import Derived.BigQuiet
import Derived.WalkSmall
namespace Go.Proofs.YtlidckepahpaeaaGreatDoor
open Go.RowKit
def PairOk (xs:List Int) (i:Nat):Prop:=xs[i]?.getD 0≤xs[i+1]?.getD 0∧(0<i→2≤xs[i]?.getD 0 - xs[i - 1]?.getD 0)
def Canon (xs:List Int):Prop :=
 xs.length % 2=0∧(∀ i:Nat,i<xs.length→0≤xs[i]?.getD 0∧xs[i]?.getD 0≤255)∧∀ m:Nat,2 * m<xs.length→PairOk xs (2 * m)
set_option maxHeartbeats 1000000 in
theorem l1canon_any (v:Value) (xs:List Int) (w:World) (hv:IntsAt 0 w.heap.size w v xs) :
  Calls Tryz.prog 95 #[v] w fun e w' => RetB e (Canon xs)∧Below w.heap.size w w':=by
 obtain ⟨a,cap,rfl,hl,hr,hc⟩ := hv
 unfold maxLen at hl
 by_cases hev:xs.length % 2=0
 ·have hev':((xs.length:Int) % 2 != 0)=false:=by simp; omega
  go_enter Tryz.func95,Tryz.ntmps95
  go_wp2
  go_loop [3] (fun i => ∃ k:Nat,k≤xs.length∧i = .int .i64 k∧∀ j:Nat,j<k→0≤xs[j]?.getD 0∧xs[j]?.getD 0≤255) (fun i => xs.length - (intOf i).toNat)
  case atStart => exact ⟨0,Nat.zero_le _,rfl,fun j hj => absurd hj (Nat.not_lt_zero _)⟩
  case round =>
   obtain ⟨k,hk,rfl,hin⟩ := hrel
   by_cases hlt:k<xs.length
   ·obtain ⟨b,off,rfl,-,hbn,hcell⟩ := hc (by omega)
    have hx:=hcell k hlt
    have hlt':(k:Int)<(xs.length:Int):=by omega
    have Hin:=hide hin
    clear hin
    generalize hX:xs[k]?.getD 0=x at *
    have HX:=hide hX
    clear hX hcell
    by_cases h1:x<0
    ·go_wp2
     go_ret
     exact ⟨RetB.no (by intro hcn; have:=(hcn.2.1 k hlt).1; rw [unhide HX] at this; omega),Below.refl _ _⟩
    ·by_cases h2:255<x
     ·go_wp2
      go_ret
      exact ⟨RetB.no (by intro hcn; have:=(hcn.2.1 k hlt).2; rw [unhide HX] at this; omega),Below.refl _ _⟩
     ·go_wp2
      go_round
      case rel => exact ⟨k+1,by omega,by go_num,fun j hj => by
       by_cases e:j=k
       ·subst e; rw [unhide HX]; omega
       ·exact unhide Hin j (by omega)⟩
      case measure => simp [intOf]; omega
   ·obtain rfl:k=xs.length:=by omega
    have Hin:=hide hin
    clear hin
    go_wp2
    go_loopw [4] (fun i wr => ∃ m:Nat,2 * m≤xs.length∧i = .int .i64 (2 * m:Nat)∧(∀ j:Nat,j<m→PairOk xs (2 * j))∧Below w.heap.size w wr) (fun i _ => xs.length - (intOf i).toNat)
    case atStart => exact ⟨0,Nat.zero_le _,rfl,fun j hj => absurd hj (Nat.not_lt_zero _),Below.refl _ _⟩
    case round =>
     obtain ⟨m,hm,rfl,hpr,hb⟩ := hrel
     have Hpr:=hide hpr
     clear hpr
     by_cases hlt2:2 * m<xs.length
     ·obtain ⟨b,off,rfl,-,hbn,hcell⟩ := hc (by omega)
      have hx:wr.cell? ⟨b,off+2 * m,none⟩ = some (.int .i64 (xs[2 * m]?.getD 0)):=by rw [hb.cell (p:=⟨b,off+2 * m,none⟩) hbn]; exact hcell _ hlt2
      have hy:wr.cell? ⟨b,off+(2 * m+1),none⟩ = some (.int .i64 (xs[2 * m+1]?.getD 0)):=by rw [hb.cell (p:=⟨b,off+(2 * m+1),none⟩) hbn]; exact hcell _ (by omega)
      have hlt2':(2 * (m:Int))<(xs.length:Int):=by omega
      have hlt3':(2 * (m:Int))+1<(xs.length:Int):=by omega
      have bx:=unhide Hin (2 * m) hlt2
      have byy:=unhide Hin (2 * m+1) (by omega)
      have e1:((2 * m:Nat):Int)=2 * (m:Int):=by omega
      generalize hX:xs[2 * m]?.getD 0=x at *
      generalize hY:xs[2 * m+1]?.getD 0=y at *
      have HX:=hide hX
      have HY:=hide hY
      clear hX hY
      by_cases hgt:y<x
      ·go_wp2
       go_quiet (fail)
       go_wp2
       go_ret
       exact ⟨RetB.no (by intro hcn; have:=(hcn.2.2 m hlt2).1; rw [unhide HX,unhide HY] at this; omega),below_drewN hb _⟩
      ·go_wp2
       go_quiet (fail)
       go_wp2
       by_cases hmp:0<m
       ·have hmp':0<2 * (m:Int):=by omega
        have hz:wr.cell? ⟨b,off+(2 * m - 1),none⟩ = some (.int .i64 (xs[2 * m - 1]?.getD 0)):=by rw [hb.cell (p:=⟨b,off+(2 * m - 1),none⟩) hbn]; exact hcell _ (by omega)
        have bz:=unhide Hin (2 * m - 1) (by omega)
        have hz1:(2 * (m:Int) - 1).toNat=2 * m - 1:=by omega
        have hz2:0≤2 * (m:Int) - 1:=by omega
        have hz3:2 * (m:Int) - 1<(xs.length:Int):=by omega
        generalize hZ:xs[2 * m - 1]?.getD 0=z at *
        have HZ:=hide hZ
        clear hZ
        by_cases hdd:x - z<2
        ·go_quiet (fail)
         go_wp2
         go_ret
         exact ⟨RetB.no (by intro hcn; have:=(hcn.2.2 m hlt2).2 (by omega); rw [unhide HX,unhide HZ] at this; omega),below_drewN (below_drewN hb _) _⟩
        ·go_quiet (fail)
         go_wp2
         go_roundw
         case rel => exact ⟨m+1,by omega,by congr 1,fun j hj => by
          by_cases e:j=m
          ·subst e; exact ⟨by rw [unhide HX,unhide HY]; omega,fun _ => by rw [unhide HX,unhide HZ]; omega⟩
          ·exact unhide Hpr j (by omega),below_drewN hb _⟩
         case measure => simp [intOf]; omega
       ·have hmp':decide (0<2 * (m:Int))=false:=by simp; omega
        go_quiet (fail)
        go_wp2
        go_roundw
        case rel => exact ⟨m+1,by omega,by congr 1,fun j hj => by
         by_cases e:j=m
         ·subst e; exact ⟨by rw [unhide HX,unhide HY]; omega,fun h => absurd h (by omega)⟩
         ·exact unhide Hpr j (by omega),below_drewN hb _⟩
        case measure => simp [intOf]; omega
     ·go_wp2
      go_ret
      exact ⟨RetB.yes ⟨hev,unhide Hin,fun j hj => unhide Hpr j (by omega)⟩,hb⟩
 ·have hev':((xs.length:Int) % 2 != 0)=true:=by simp; omega
  go_enter Tryz.func95,Tryz.ntmps95
  go_wp2
  go_ret
  exact ⟨RetB.no (fun hcn => hev hcn.1),Below.refl _ _⟩
def ElOk (x:El):Prop :=
 (x.kind=1∧Canon x.set∧x.mn=0∧x.mx=0)∨((x.kind=0∨x.kind=2∨x.kind=3)∧x.set.length=0∧x.mn=0∧x.mx=0) ∨
 (x.kind=4∧x.set.length=0∧0≤x.mn∧x.mn≤250∧(x.mx = -1∨(x.mn≤x.mx∧x.mx≤250)))
set_option maxHeartbeats 1000000 in
theorem l1opOK_any (v:Value) (x:El) (w:World) (hv:IntsAt 0 w.heap.size w v x.set) :
  Calls Tryz.prog 59 #[.agg #[.int .i64 x.kind,v,.int .i64 x.mn,.int .i64 x.mx]] w fun e w' => RetB e (ElOk x)∧Below w.heap.size w w':=by
 obtain ⟨a,cap,rfl,hl,-,-⟩ := id hv
 unfold maxLen at hl
 obtain ⟨k,xs,mn,mx⟩ := x
 simp only at *
 by_cases h1:k=1
 ·subst h1
  go_enter Tryz.func59,Tryz.ntmps59
  go_wp2_with fail
  refine (l1canon_any _ xs _ (by exact hv.below (below1 w _) (Nat.le_refl _))).mono ?_
  rintro e w1 ⟨hret,hb1⟩
  obtain ⟨hc1,hf1⟩ := bcell hb1
  simp only [sz_alloc] at hc1 hf1
  have hB:Below w.heap.size w w1:=(below1 w _).trans (hb1.mono (by rw [sz_alloc]; omega))
  rcases hret.cases with ⟨rfl,hcn⟩ | ⟨rfl,hcn⟩
  ·by_cases h2:mn=0
   ·by_cases h3:mx=0
    ·go_wp2
     go_ret
     exact ⟨RetB.yes (Or.inl ⟨rfl,hcn,h2,h3⟩),hB⟩
    ·have h3':(mx == 0)=false:=by simp [h3]
     go_wp2
     go_ret
     exact ⟨RetB.no (by rintro (⟨q1,q2,q3,q4⟩ | ⟨q1,q2,q3,q4⟩ | ⟨q1,q2,q3,q4,q5⟩) <;> simp only at * <;> omega),hB⟩
   ·go_wp2
    go_ret
    exact ⟨RetB.no (by rintro (⟨q1,q2,q3,q4⟩ | ⟨q1,q2,q3,q4⟩ | ⟨q1,q2,q3,q4,q5⟩) <;> simp only at * <;> omega),hB⟩
  ·go_wp2
   go_ret
   exact ⟨RetB.no (by rintro (⟨q1,q2,q3,q4⟩ | ⟨q1,q2,q3,q4⟩ | ⟨q1,q2,q3,q4,q5⟩) <;> simp only at * <;> first | exact hcn q2 | omega),hB⟩
 ·by_cases hk:k<0∨4<k
  ·rcases hk with hk | hk
   ·go_enter Tryz.func59,Tryz.ntmps59
    go_wp2
    go_ret
    exact ⟨RetB.no (by rintro (⟨q1,q2,q3,q4⟩ | ⟨q1,q2,q3,q4⟩ | ⟨q1,q2,q3,q4,q5⟩) <;> simp only at * <;> omega),below1 w _⟩
   ·have hk2:¬ k<0:=by omega
    go_enter Tryz.func59,Tryz.ntmps59
    go_wp2
    go_ret
    exact ⟨RetB.no (by rintro (⟨q1,q2,q3,q4⟩ | ⟨q1,q2,q3,q4⟩ | ⟨q1,q2,q3,q4,q5⟩) <;> simp only at * <;> omega),below1 w _⟩
  ·by_cases hlen:xs.length=0
   ·have hlen':((xs.length:Int) != 0)=false:=by simp; exact List.eq_nil_of_length_eq_zero hlen
    have Hlen:=hide hlen
    clear hlen
    by_cases h4:k=4
    ·subst h4
     by_cases c1:mn<0
     ·go_enter Tryz.func59,Tryz.ntmps59
      go_wp2
      go_ret
      exact ⟨RetB.no (by rintro (⟨q1,q2,q3,q4⟩ | ⟨q1,q2,q3,q4⟩ | ⟨q1,q2,q3,q4,q5⟩) <;> simp only at * <;> omega),below1 w _⟩
     ·by_cases c2:250<mn
      ·go_enter Tryz.func59,Tryz.ntmps59
       go_wp2
       go_ret
       exact ⟨RetB.no (by rintro (⟨q1,q2,q3,q4⟩ | ⟨q1,q2,q3,q4⟩ | ⟨q1,q2,q3,q4,q5⟩) <;> simp only at * <;> omega),below1 w _⟩
      ·by_cases c3:mx = -1
       ·have c3':(mx == -1)=true:=by simp [c3]
        have C3:=hide c3
        clear c3
        go_enter Tryz.func59,Tryz.ntmps59
        go_wp2
        go_ret
        exact ⟨RetB.yes (Or.inr (Or.inr ⟨rfl,unhide Hlen,by simp only; omega,by simp only; omega,Or.inl (unhide C3)⟩)),below1 w _⟩
       ·have c3':(mx == -1)=false:=by simp [c3]
        by_cases c4:mn≤mx
        ·by_cases c5:mx≤250
         ·go_enter Tryz.func59,Tryz.ntmps59
          go_wp2
          go_ret
          exact ⟨RetB.yes (Or.inr (Or.inr ⟨rfl,unhide Hlen,by simp only; omega,by simp only; omega,Or.inr ⟨c4,c5⟩⟩)),below1 w _⟩
         ·go_enter Tryz.func59,Tryz.ntmps59
          go_wp2
          go_ret
          exact ⟨RetB.no (by rintro (⟨q1,q2,q3,q4⟩ | ⟨q1,q2,q3,q4⟩ | ⟨q1,q2,q3,q4,q5⟩) <;> simp only at * <;> omega),below1 w _⟩
        ·go_enter Tryz.func59,Tryz.ntmps59
         go_wp2
         go_ret
         exact ⟨RetB.no (by rintro (⟨q1,q2,q3,q4⟩ | ⟨q1,q2,q3,q4⟩ | ⟨q1,q2,q3,q4,q5⟩) <;> simp only at * <;> omega),below1 w _⟩
    ·have hk3:k=0∨k=2∨k=3:=by omega
     clear hk h4 h1
     by_cases h2:mn=0
     ·by_cases h3:mx=0
      ·rcases hk3 with rfl | rfl | rfl
       all_goals
        go_enter Tryz.func59,Tryz.ntmps59
        go_wp2
        go_ret
        exact ⟨RetB.yes (Or.inr (Or.inl ⟨by simp,unhide Hlen,h2,h3⟩)),below1 w _⟩
      ·have h3':(mx == 0)=false:=by simp [h3]
       rcases hk3 with rfl | rfl | rfl
       all_goals
        go_enter Tryz.func59,Tryz.ntmps59
        go_wp2
        go_ret
        exact ⟨RetB.no (by rintro (⟨q1,q2,q3,q4⟩ | ⟨q1,q2,q3,q4⟩ | ⟨q1,q2,q3,q4,q5⟩) <;> simp only at * <;> omega),below1 w _⟩
     ·rcases hk3 with rfl | rfl | rfl
      all_goals
       go_enter Tryz.func59,Tryz.ntmps59
       go_wp2
       go_ret
       exact ⟨RetB.no (by rintro (⟨q1,q2,q3,q4⟩ | ⟨q1,q2,q3,q4⟩ | ⟨q1,q2,q3,q4,q5⟩) <;> simp only at * <;> omega),below1 w _⟩
   ·have hlen':((xs.length:Int) != 0)=true:=by simp; intro e; exact hlen (by rw [e]; rfl)
    have hk0:¬ k<0:=by omega
    have hk4:¬ 4<k:=by omega
    go_enter Tryz.func59,Tryz.ntmps59
    go_wp2
    go_ret
    exact ⟨RetB.no (by rintro (⟨q1,q2,q3,q4⟩ | ⟨q1,q2,q3,q4⟩ | ⟨q1,q2,q3,q4,q5⟩) <;> simp only at * <;> omega),below1 w _⟩
end Go.Proofs.YtlidckepahpaeaaGreatDoor
