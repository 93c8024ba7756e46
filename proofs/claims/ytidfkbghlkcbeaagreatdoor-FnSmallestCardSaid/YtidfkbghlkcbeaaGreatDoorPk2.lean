import Derived.Test.YtidfkbghlkcbeaaGreatDoorPk1
import Derived.RegionTactic
import Derived.BigRegion
import Derived.Deep.RegionWith
import Derived.Deep.OwnRows
import Derived.Laws.Bits64b
namespace Go.Proofs.YtidfkbghlkcbeaaGreatDoor
open Go.RowKit Go.Proofs.Tryz
set_option maxHeartbeats 16000000
set_option maxRecDepth 100000
def gb(g:Nat->Nat):Value:=.agg #[.int .u64 (g 0:Nat),.int .u64 (g 1:Nat),.int .u64 (g 2:Nat),.int .u64 (g 3:Nat)]
def Bt(g:Nat->Nat)(b:Nat):Bool:=(g (b / 64)).testBit (b%64)
def Fit(g:Nat->Nat):Prop:=∀ j:Nat,g j<18446744073709551616
theorem uj(a i:Nat)(ha:a<18446744073709551616)(hi:i<64):bits .or .u64 (a:Int) (IntKind.u64.wrap (2 ^ i))=((a ||| 2 ^ i:Nat):Int):=by
 have h1:(2:Nat) ^ i<2 ^ 64:=Nat.pow_lt_pow_right (by omega) hi;have h2:IntKind.u64.wrap ((2:Int) ^ i)=((2 ^ i:Nat):Int):=by
  rw[IntKind.wrap_u64,Int.natCast_pow];have:((2 ^ i:Nat):Int)<18446744073709551616:=by omega
  rw[Int.natCast_pow]at this;have h0:(0:Int)<=(2:Int) ^ i:=Int.pow_nonneg (by omega);exact Int.emod_eq_of_lt h0 this
 rw[h2];exact bits_or_u64_nat a (2 ^ i) ha (by omega)
theorem yk(a i:Nat)(ha:a<18446744073709551616)(hi:i<64):a ||| 2 ^ i<18446744073709551616:=by
 have h1:(2:Nat) ^ i<2 ^ 64:=Nat.pow_lt_pow_right (by omega) hi;have:a ||| 2 ^ i<2 ^ 64:=Nat.or_lt_two_pow (by omega) h1;omega
theorem pP(g:Nat->Nat)(k b:Nat):Bt (fun j=>if j=k / 64 then g (k / 64) ||| 2 ^ (k%64) else g j) b=(Bt g b||decide (b=k)):=by
 unfold Bt
 by_cases e:b / 64=k / 64
 ·simp only[e,if_true,Nat.testBit_or,Nat.testBit_two_pow]
  congr 1
  by_cases e2:k%64=b%64
  ·have:b=k:=by omega
   simp[e2,this]
  have:b≠k:=fun h=>e2 (by rw[h])
  simp[e2,this]
 have:b≠k:=fun h=>e (by rw[h])
 simp[e,this]
theorem ib(w:World)(t:TypeId)(g:Nat->Nat):(w.alloc (.cells #[.int .u64 (g 0:Nat),.int .u64 (g 1:Nat),.int .u64 (g 2:Nat),.int .u64 (g 3:Nat)] t)).rowIs w.heap.size t 4 (fun j=>.int .u64 (g j:Nat)):=by
 refine World.rowIs_alloc w #[.int .u64 (g 0:Nat),.int .u64 (g 1:Nat),.int .u64 (g 2:Nat),.int .u64 (g 3:Nat)] t (fun j=>.int .u64 (g j:Nat)) ?_;intro i hi
 match i,hi with
 | 0,_=>rfl
 | 1,_=>rfl
 | 2,_=>rfl
 | 3,_=>rfl
theorem iG(w:World)(t:TypeId):(w.alloc (.cells #[.int .u64 0,.int .u64 0,.int .u64 0,.int .u64 0] t)).rowIs w.heap.size t 4 (fun j=>.int .u64 ((fun _=>0:Nat->Nat) j:Nat)):=ib w t (fun _=>0)
theorem Dp(g:Nat->Nat)(lo hi:Int)(w:World)(hg:Fit g)(h0:0<=lo)(h1:hi<=255)(h2:lo<=hi) :
  Calls prog 121 #[gb g,.int .i64 lo,.int .i64 hi] w fun e w' =>
   ∃ g':Nat->Nat,e=.returned (gb g')/\Fit g'/\(∀ b:Nat,Bt g' b=(Bt g b||decide (lo<=(b:Int)/\(b:Int)<=hi)))/\Below w.heap.size w w':=by
 unfold gb;have Hg:=ae hg;clear hg
 go_enter func121,ntmps121
 go_wp2
 go_loopw [7] (fun i wr=>∃ x:Int,lo<=x/\x<=hi+1/\i=.int .i64 x/\(∃ q:Nat->Nat,wr.rowIs w.heap.size 88 4 (fun j=>.int .u64 (q j:Nat))/\Fit q/\∀ b:Nat,Bt q b=(Bt g b||decide (lo<=(b:Int)/\(b:Int)<x)))/\(∃ g:Nat->Value,wr.rowIs (w.heap.size+1) 88 4 g)/\Below w.heap.size w wr) (fun i _=>(hi+1-intOf i).toNat)
 case atStart =>
  refine⟨lo,Int.le_refl _,by omega,rfl,⟨g,(ib w _ g).alloc _,Hg.u,fun b=>?_⟩,⟨fun j=>.int .u64 ((fun _=>0:Nat->Nat) j:Nat),?_⟩,aI w _ _⟩
  ·have:¬ (lo<=(b:Int)/\(b:Int)<lo):=by omega
   simp[this]
  have h:=iG (w.alloc (.cells #[.int .u64 (g 0:Nat),.int .u64 (g 1:Nat),.int .u64 (g 2:Nat),.int .u64 (g 3:Nat)] 88)) 88;rw[ah]at h;exact h
 obtain⟨x,y,z,rfl,⟨q,c,d,o⟩,⟨g2,a⟩,hb⟩:=hrel;obtain⟨k,rfl⟩:=Int.eq_ofNat_of_zero_le (show 0<=x by omega);have p:=ae o;have l:=ae d;have r:=d (k / 64);clear o d
 by_cases hlt:(k:Int)<=hi
 ·have hk:k<=255:=by omega
  have hq:k / 64<4:=by omega
  have c0:=c.cell hq;have f0:=c.frozen (k / 64);have A:((k / 64:Nat):Int)<4:=by omega
  have B:(k:Int) / 64<4:=by omega
  have C:0<=(k:Int) / 64:=by omega
  have m:=ae c;have f:=ae a;have s:=uj (q (k / 64)) (k%64) r (by omega);have n:=yk (q (k / 64)) (k%64) r (by omega);have t:=ae s;clear c a s;go_wp2
  go_region
  go_wp2;rw[t.u];refine⟨⟨(k:Int)+1,by omega,by omega,rfl,⟨fun j=>if j=k / 64 then q (k / 64) ||| 2 ^ (k%64) else q j,?_,?_,?_⟩,⟨g2,?_⟩,?_⟩,by simp[intOf];omega⟩
  ·exact((m.u.set (k / 64) _).congr (fun j _=>by by_cases e:j=k / 64<;>simp[e])).drew
  ·intro j
   by_cases e:j=k / 64
   ·simp only[e,if_true];exact n
   simp only[e,if_false];exact l.u j
  ·intro b;rw[pP,p.u b,Bool.or_assoc]
   congr 1
   rw[<-Bool.decide_or];exact decide_eq_decide.2 (by omega)
  ·exact(f.u.setOther (by show w.heap.size+1≠w.heap.size;omega) _).drew
  exact(aD hb lR _).drew
 have c0:=c.cell (i:=0) (by omega);have c1:=c.cell (i:=1) (by omega);have c2:=c.cell (i:=2) (by omega);have c3:=c.cell (i:=3) (by omega);have d0:=a.cell (i:=0) (by omega);have d1:=a.cell (i:=1) (by omega);have d2:=a.cell (i:=2) (by omega);have d3:=a.cell (i:=3) (by omega);have f0:=a.frozen 0;have f1:=a.frozen 1;have f2:=a.frozen 2;have f3:=a.frozen 3;clear c a;go_wp2;refine bodyPost_ret (v:=.agg #[.int .u64 (q 0:Nat),.int .u64 (q 1:Nat),.int .u64 (q 2:Nat),.int .u64 (q 3:Nat)]) (by simp[results,results121,go_sem,d0,d1,d2,d3]) rfl ⟨q,rfl,l.u,fun b=>?_,?_⟩
 ·rw[p.u b]
  congr 1
  rw[Bool.eq_iff_iff];simp only[Bool.and_eq_true,decide_eq_true_eq];omega
 exact aD (aD (aD (aD hb (by omega) _) (by omega) _) (by omega) _) (by omega) _
end Go.Proofs.YtidfkbghlkcbeaaGreatDoor
