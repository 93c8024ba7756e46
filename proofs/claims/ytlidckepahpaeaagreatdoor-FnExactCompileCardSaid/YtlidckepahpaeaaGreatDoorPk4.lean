import Derived.Test.YtlidckepahpaeaaGreatDoorPk3
import Derived.RegionTactic
import Derived.BigRegion
import Derived.Deep.RegionWith
import Derived.Deep.OwnRows
import Derived.Laws.Bits64b
namespace Go.Proofs.YtlidckepahpaeaaGreatDoor
open Go.RowKit
def lst (xs:List Int) (m:Nat):Int:=if m=0 then 0 else xs[2 * m - 1]?.getD 0+2
def Pair2 (xs:List Int) (m:Nat):Prop:=lst xs m≤xs[2 * m]?.getD 0∧xs[2 * m]?.getD 0≤xs[2 * m+1]?.getD 0∧xs[2 * m+1]?.getD 0≤255
theorem lst_succ (xs:List Int) (m:Nat):lst xs (m+1)=xs[2 * m+1]?.getD 0+2:=by
 unfold lst; rw [if_neg (by omega)]; rfl
theorem lst_nn {xs:List Int}:∀ m:Nat,(∀ j:Nat,j<m→Pair2 xs j)→0≤lst xs m∧lst xs m≤257:=by
 intro m
 induction m with
 | zero => intro _; simp [lst]
 | succ m ih =>
  intro h
  have h1:=ih (fun j hj => h j (by omega))
  have h2:=h m (by omega)
  unfold Pair2 at h2
  rw [lst_succ]; omega
theorem canon_iff {xs:List Int}:Canon xs↔xs.length % 2=0∧∀ m:Nat,2 * m<xs.length→Pair2 xs m:=by
 constructor
 ·rintro ⟨h1,h2,h3⟩
  refine ⟨h1,fun m hm => ?_⟩
  have a:=h2 (2 * m) hm
  have b:=h2 (2 * m+1) (by omega)
  obtain ⟨c,d⟩ := h3 m hm
  refine ⟨?_,c,b.2⟩
  unfold lst
  split
  ·exact a.1
  ·have:=d (by omega); omega
 ·rintro ⟨h1,h2⟩
  have key:∀ m:Nat,2 * m<xs.length→0≤lst xs m:=fun m hm => (lst_nn m (fun j hj => h2 j (by omega))).1
  refine ⟨h1,fun i hi => ?_,fun m hm => ?_⟩
  ·have hm:2 * (i / 2)<xs.length:=by omega
   have a:=key _ hm
   have b:=h2 _ hm
   unfold Pair2 at b
   rcases Nat.mod_two_eq_zero_or_one i with e | e
   ·rw [show 2 * (i / 2)=i by omega] at b; omega
   ·rw [show 2 * (i / 2)+1=i by omega] at b; omega
  ·have b:=h2 _ hm
   unfold Pair2 at b
   refine ⟨b.2.1,fun h0 => ?_⟩
   have b1:=b.1
   unfold lst at b1
   rw [if_neg (by omega)] at b1
   omega
set_option maxHeartbeats 1000000 in
theorem canonical_any (v:Value) (xs:List Int) (w:World) (hv:IntsAt 0 w.heap.size w v xs) :
  Calls Tryz.prog 104 #[v] w fun e w' => RetB e (Canon xs)∧Below w.heap.size w w':=by
 rw [canon_iff]
 obtain ⟨a,cap,rfl,hl,hr,hc⟩ := hv
 unfold maxLen at hl
 by_cases hev:xs.length % 2=0
 ·have hev':((xs.length:Int) % 2 != 0)=false:=by simp; omega
  go_enter Tryz.func104,Tryz.ntmps104
  go_wp2
  go_loopw [3,4] (fun l i wr => ∃ m:Nat,2 * m≤xs.length∧i = .int .i64 (2 * m:Nat)∧l = .int .i64 (lst xs m)∧(∀ j:Nat,j<m→Pair2 xs j)∧Below w.heap.size w wr) (fun _ i _ => xs.length - (intOf i).toNat)
  case atStart => exact ⟨0,Nat.zero_le _,rfl,rfl,fun j hj => absurd hj (Nat.not_lt_zero _),Below.refl _ _⟩
  case round =>
   obtain ⟨m,hm,rfl,rfl,hpr,hb⟩ := hrel
   have hL:=lst_nn m hpr
   have Hpr:=hide hpr
   clear hpr
   by_cases hlt2:2 * m<xs.length
   ·obtain ⟨b,off,rfl,-,hbn,hcell⟩ := hc (by omega)
    have hx:wr.cell? ⟨b,off+2 * m,none⟩ = some (.int .i64 (xs[2 * m]?.getD 0)):=by rw [hb.cell (p:=⟨b,off+2 * m,none⟩) hbn]; exact hcell _ hlt2
    have hy:wr.cell? ⟨b,off+(2 * m+1),none⟩ = some (.int .i64 (xs[2 * m+1]?.getD 0)):=by rw [hb.cell (p:=⟨b,off+(2 * m+1),none⟩) hbn]; exact hcell _ (by omega)
    have hlt2':(2 * (m:Int))<(xs.length:Int):=by omega
    have hlt3':(2 * (m:Int))+1<(xs.length:Int):=by omega
    have hls:=lst_succ xs m
    have hP:Hid (Pair2 xs m↔lst xs m≤xs[2 * m]?.getD 0∧xs[2 * m]?.getD 0≤xs[2 * m+1]?.getD 0∧xs[2 * m+1]?.getD 0≤255):=Iff.rfl
    generalize lst xs m=L at *
    generalize xs[2 * m]?.getD 0=x at *
    generalize xs[2 * m+1]?.getD 0=y at *
    have Hls:=hide hls
    clear hls hcell
    by_cases g1:x<L
    ·go_wp2
     go_quiet (fail)
     go_wp2
     go_ret
     exact ⟨RetB.no (fun h => by have:=(unhide hP).1 (h.2 m hlt2); omega),below_drewN hb _⟩
    ·by_cases g2:y<x
     ·go_wp2
      go_quiet (fail)
      go_wp2
      go_ret
      exact ⟨RetB.no (fun h => by have:=(unhide hP).1 (h.2 m hlt2); omega),below_drewN hb _⟩
     ·by_cases g3:256≤y
      ·go_wp2
       go_quiet (fail)
       go_wp2
       go_ret
       exact ⟨RetB.no (fun h => by have:=(unhide hP).1 (h.2 m hlt2); omega),below_drewN hb _⟩
      ·go_wp2
       go_quiet (fail)
       go_wp2
       go_roundw
       case rel => exact ⟨m+1,by omega,by congr 1,by rw [unhide Hls],fun j hj => by
        by_cases e:j=m
        ·subst e; exact (unhide hP).2 ⟨by omega,by omega,by omega⟩
        ·exact unhide Hpr j (by omega),below_drewN hb _⟩
       case measure => simp [intOf]; omega
   ·go_wp2
    go_ret
    exact ⟨RetB.yes ⟨hev,fun j hj => unhide Hpr j (by omega)⟩,hb⟩
 ·have hev':((xs.length:Int) % 2 != 0)=true:=by simp; omega
  go_enter Tryz.func104,Tryz.ntmps104
  go_wp2
  go_ret
  exact ⟨RetB.no (fun hcn => hev hcn.1),Below.refl _ _⟩
def BdOk (mn mx:Int):Prop:=0≤mn∧mn≤250∧(mx = -1∨(mn≤mx∧mx≤250))
set_option maxHeartbeats 1000000 in
theorem validBounds_any (mn mx:Int) (w:World):Calls Tryz.prog 105 #[.int .i64 mn,.int .i64 mx] w fun e w' => RetB e (BdOk mn mx)∧w'=w:=by
 by_cases c1:mn<0
 ·go_enter Tryz.func105,Tryz.ntmps105
  go_wp2
  go_ret
  exact ⟨RetB.no (by unfold BdOk; omega),rfl⟩
 ·by_cases c2:250<mn
  ·go_enter Tryz.func105,Tryz.ntmps105
   go_wp2
   go_ret
   exact ⟨RetB.no (by unfold BdOk; omega),rfl⟩
  ·by_cases c3:mx = -1
   ·have c3':(mx == -1)=true:=by simp [c3]
    have C3:=hide c3
    clear c3
    go_enter Tryz.func105,Tryz.ntmps105
    go_wp2
    go_ret
    exact ⟨RetB.yes ⟨by omega,by omega,Or.inl (unhide C3)⟩,rfl⟩
   ·have c3':(mx == -1)=false:=by simp [c3]
    by_cases c4:mn≤mx
    ·by_cases c5:mx≤250
     ·go_enter Tryz.func105,Tryz.ntmps105
      go_wp2
      go_ret
      exact ⟨RetB.yes ⟨by omega,by omega,Or.inr ⟨c4,c5⟩⟩,rfl⟩
     ·go_enter Tryz.func105,Tryz.ntmps105
      go_wp2
      go_ret
      exact ⟨RetB.no (by unfold BdOk; omega),rfl⟩
    ·go_enter Tryz.func105,Tryz.ntmps105
     go_wp2
     go_ret
     exact ⟨RetB.no (by unfold BdOk; omega),rfl⟩
def cnt (k:Int):Int:=if k=4 then 1 else if k=2∨k=3 then 2 else 0
set_option maxHeartbeats 1000000 in
theorem operandCount_any (k:Int) (w:World):Calls Tryz.prog 72 #[.int .i64 k] w fun e w' => e = .returned (.int .i64 (cnt k))∧w'=w:=by
 by_cases h4:k=4
 ·subst h4
  go_enter Tryz.func72,Tryz.ntmps72
  go_wp2
  go_ret
  exact ⟨rfl,rfl⟩
 ·by_cases h2:k=2
  ·subst h2
   go_enter Tryz.func72,Tryz.ntmps72
   go_wp2
   go_ret
   exact ⟨rfl,rfl⟩
  ·by_cases h3:k=3
   ·subst h3
    go_enter Tryz.func72,Tryz.ntmps72
    go_wp2
    go_ret
    exact ⟨rfl,rfl⟩
   ·have e:cnt k=0:=by unfold cnt; rw [if_neg h4,if_neg (by omega)]
    have b4:(k == 4)=false:=by simp [h4]
    have b2:(k == 2)=false:=by simp [h2]
    have b3:(k == 3)=false:=by simp [h3]
    have E:=hide e
    clear e
    go_enter Tryz.func72,Tryz.ntmps72
    go_wp2
    go_ret
    exact ⟨ret_int (unhide E).symm,rfl⟩
def ws4 (g:Nat→Nat):Value:=.agg #[.int .u64 (g 0:Nat),.int .u64 (g 1:Nat),.int .u64 (g 2:Nat),.int .u64 (g 3:Nat)]
def Bt (g:Nat→Nat) (b:Nat):Bool:=(g (b / 64)).testBit (b % 64)
def Fit (g:Nat→Nat):Prop:=∀ j:Nat,g j<18446744073709551616
theorem or_bit (a i:Nat) (ha:a<18446744073709551616) (hi:i<64):bits .or .u64 (a:Int) (IntKind.u64.wrap (2 ^ i))=((a ||| 2 ^ i:Nat):Int):=by
 have h1:(2:Nat) ^ i<2 ^ 64:=Nat.pow_lt_pow_right (by omega) hi
 have h2:IntKind.u64.wrap ((2:Int) ^ i)=((2 ^ i:Nat):Int):=by
  rw [IntKind.wrap_u64,Int.natCast_pow]
  have:((2 ^ i:Nat):Int)<18446744073709551616:=by omega
  rw [Int.natCast_pow] at this
  have h0:(0:Int)≤(2:Int) ^ i:=Int.pow_nonneg (by omega)
  exact Int.emod_eq_of_lt h0 this
 rw [h2]
 exact bits_or_u64_nat a (2 ^ i) ha (by omega)
theorem or_lt (a i:Nat) (ha:a<18446744073709551616) (hi:i<64):a ||| 2 ^ i<18446744073709551616:=by
 have h1:(2:Nat) ^ i<2 ^ 64:=Nat.pow_lt_pow_right (by omega) hi
 have:a ||| 2 ^ i<2 ^ 64:=Nat.or_lt_two_pow (by omega) h1
 omega
theorem bt_put (g:Nat→Nat) (k b:Nat):Bt (fun j => if j=k / 64 then g (k / 64) ||| 2 ^ (k % 64) else g j) b=(Bt g b || decide (b=k)):=by
 unfold Bt
 by_cases e:b / 64=k / 64
 ·simp only [e,if_true,Nat.testBit_or,Nat.testBit_two_pow]
  congr 1
  by_cases e2:k % 64=b % 64
  ·have:b=k:=by omega
   simp [e2,this]
  ·have:b ≠ k:=fun h => e2 (by rw [h])
   simp [e2,this]
 ·have:b ≠ k:=fun h => e (by rw [h])
  simp [e,this]
theorem four_row (w:World) (t:TypeId) (g:Nat→Nat):(w.alloc (.cells #[.int .u64 (g 0:Nat),.int .u64 (g 1:Nat),.int .u64 (g 2:Nat),.int .u64 (g 3:Nat)] t)).rowIs w.heap.size t 4 (fun j => .int .u64 (g j:Nat)):=by
 refine World.rowIs_alloc w #[.int .u64 (g 0:Nat),.int .u64 (g 1:Nat),.int .u64 (g 2:Nat),.int .u64 (g 3:Nat)] t (fun j => .int .u64 (g j:Nat)) ?_
 intro i hi
 match i,hi with
 | 0,_ => rfl
 | 1,_ => rfl
 | 2,_ => rfl
 | 3,_ => rfl
theorem zero_row (w:World) (t:TypeId):(w.alloc (.cells #[.int .u64 0,.int .u64 0,.int .u64 0,.int .u64 0] t)).rowIs w.heap.size t 4 (fun j => .int .u64 ((fun _ => 0:Nat→Nat) j:Nat)):=four_row w t (fun _ => 0)
set_option maxHeartbeats 1000000 in
theorem with_w (g:Nat→Nat) (lo hi:Int) (w:World) (hg:Fit g) (h0:0≤lo) (h1:hi≤255) (h2:lo≤hi) :
  Calls Tryz.prog 119 #[ws4 g,.int .i64 lo,.int .i64 hi] w fun e w' =>
   ∃ g':Nat→Nat,e = .returned (ws4 g')∧Fit g'∧(∀ b:Nat,Bt g' b=(Bt g b || decide (lo≤(b:Int)∧(b:Int)≤hi)))∧Below w.heap.size w w':=by
 unfold ws4
 have Hg:=hide hg
 clear hg
 go_enter Tryz.func119,Tryz.ntmps119
 go_wp2
 go_loopw [7] (fun i wr => ∃ x:Int,lo≤x∧x≤hi+1∧i = .int .i64 x∧(∃ q:Nat→Nat,wr.rowIs w.heap.size 85 4 (fun j => .int .u64 (q j:Nat))∧Fit q∧∀ b:Nat,Bt q b=(Bt g b || decide (lo≤(b:Int)∧(b:Int)<x)))∧(∃ g:Nat→Value,wr.rowIs (w.heap.size+1) 85 4 g)∧Below w.heap.size w wr) (fun i _ => (hi+1 - intOf i).toNat)
 case atStart =>
  refine ⟨lo,Int.le_refl _,by omega,rfl,⟨g,(four_row w _ g).alloc _,unhide Hg,fun b => ?_⟩,⟨fun j => .int .u64 ((fun _ => 0:Nat→Nat) j:Nat),?_⟩,below2 w _ _⟩
  ·have:¬ (lo≤(b:Int)∧(b:Int)<lo):=by omega
   simp [this]
  ·have h:=zero_row (w.alloc (.cells #[.int .u64 (g 0:Nat),.int .u64 (g 1:Nat),.int .u64 (g 2:Nat),.int .u64 (g 3:Nat)] 85)) 85
   rw [sz_alloc] at h; exact h
 case round =>
  obtain ⟨x,hx0,hx1,rfl,⟨q,hrow,hfit,hbt⟩,⟨g2,hrow2⟩,hb⟩ := hrel
  obtain ⟨k,rfl⟩ := Int.eq_ofNat_of_zero_le (show 0≤x by omega)
  have Hbt:=hide hbt
  have Hfit:=hide hfit
  have hfk:=hfit (k / 64)
  clear hbt hfit
  by_cases hlt:(k:Int)≤hi
  ·have hk:k≤255:=by omega
   have hq:k / 64<4:=by omega
   have c0:=hrow.cell hq
   have f0:=hrow.frozen (k / 64)
   have hq':((k / 64:Nat):Int)<4:=by omega
   have hq2:(k:Int) / 64<4:=by omega
   have hq3:0≤(k:Int) / 64:=by omega
   have hrow':=hide hrow
   have hrow2':=hide hrow2
   have hor:=or_bit (q (k / 64)) (k % 64) hfk (by omega)
   have hlt64:=or_lt (q (k / 64)) (k % 64) hfk (by omega)
   have Hor:=hide hor
   clear hrow hrow2 hor
   go_wp2
   go_region
   go_wp2
   rw [unhide Hor]
   refine ⟨⟨(k:Int)+1,by omega,by omega,rfl,⟨fun j => if j=k / 64 then q (k / 64) ||| 2 ^ (k % 64) else q j,?_,?_,?_⟩,⟨g2,?_⟩,?_⟩,by simp [intOf]; omega⟩
   ·exact (((unhide hrow').set (k / 64) _).congr (fun j _ => by by_cases e:j=k / 64 <;> simp [e])).drew
   ·intro j
    by_cases e:j=k / 64
    ·simp only [e,if_true]; exact hlt64
    ·simp only [e,if_false]; exact unhide Hfit j
   ·intro b
    rw [bt_put,unhide Hbt b,Bool.or_assoc]
    congr 1
    rw [← Bool.decide_or]
    exact decide_eq_decide.2 (by omega)
   ·exact ((unhide hrow2').setOther (by show w.heap.size+1 ≠ w.heap.size; omega) _).drew
   ·exact (bput hb (Nat.le_refl _) _).drew
  ·have c0:=hrow.cell (i:=0) (by omega)
   have c1:=hrow.cell (i:=1) (by omega)
   have c2:=hrow.cell (i:=2) (by omega)
   have c3:=hrow.cell (i:=3) (by omega)
   have d0:=hrow2.cell (i:=0) (by omega)
   have d1:=hrow2.cell (i:=1) (by omega)
   have d2:=hrow2.cell (i:=2) (by omega)
   have d3:=hrow2.cell (i:=3) (by omega)
   have f0:=hrow2.frozen 0
   have f1:=hrow2.frozen 1
   have f2:=hrow2.frozen 2
   have f3:=hrow2.frozen 3
   clear hrow hrow2
   go_wp2
   refine bodyPost_ret (v:=.agg #[.int .u64 (q 0:Nat),.int .u64 (q 1:Nat),.int .u64 (q 2:Nat),.int .u64 (q 3:Nat)]) (by simp [results,Tryz.results119,go_sem,d0,d1,d2,d3]) rfl ⟨q,rfl,unhide Hfit,fun b => ?_,?_⟩
   ·rw [unhide Hbt b]
    congr 1
    rw [Bool.eq_iff_iff]
    simp only [Bool.and_eq_true,decide_eq_true_eq]
    omega
   ·exact bput (bput (bput (bput hb (by omega) _) (by omega) _) (by omega) _) (by omega) _
end Go.Proofs.YtlidckepahpaeaaGreatDoor
