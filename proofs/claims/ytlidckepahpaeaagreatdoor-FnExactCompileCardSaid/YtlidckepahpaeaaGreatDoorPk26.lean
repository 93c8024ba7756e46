import Derived.Test.YtlidckepahpaeaaGreatDoorPk25
import Derived.Test.YtlidckepahpaeaaGreatDoorPk22
import Derived.Test.YtlidckepahpaeaaGreatDoorPk17
import Derived.Test.YtlidckepahpaeaaGreatDoorPk24
import Derived.Test.YtlidckepahpaeaaGreatDoorPk14
namespace Go.Proofs.YtlidckepahpaeaaGreatDoor
open Go.RowKit
def jl:List (List El)→Nat
 | [] => 0
 | p :: r => p.length+1+jl r
theorem jl_app (a b:List (List El)):jl (a ++ b)=jl a+jl b:=by
 induction a with
 | nil => simp [jl]
 | cons p r ih => simp only [List.cons_append,jl,ih]; omega
theorem jl_rep (p:List El) (n:Nat):jl (List.replicate n p)=n * (p.length+1):=by
 induction n with
 | zero => simp [jl]
 | succ n ih => simp only [List.replicate_succ,jl,ih,Nat.succ_mul]; omega
theorem jn_jl (ps:List (List El)) (h:ps ≠ []):(jn ps).length+1=jl ps:=by
 match ps with
 | p :: r =>
  have key:∀ (r:List (List El)) (acc:List El),(r.foldl (fun acc q => acc ++ q ++ [catE]) acc).length=acc.length+jl r:=by
   intro r
   induction r with
   | nil => intro acc; simp [jl]
   | cons q r ih => intro acc; simp only [List.foldl_cons,ih,jl,List.length_append,List.length_singleton]; omega
  simp only [jn,key,jl]
  omega
theorem partsX_ne (X:List El) (mn mx:Int) (h:mx = -1∨(0<mx∧mn≤mx∧0≤mn)):partsX X mn mx ≠ []:=by
 unfold partsX
 rcases h with h | ⟨h1,h2,h3⟩
 ·rw [if_pos h]; simp
 ·rw [if_neg (by omega)]
  intro e
  have:=congrArg List.length e
  simp at this
  omega
theorem partsV_ne (U:Value) (mn mx:Int) (h:mx = -1∨(0<mx∧mn≤mx∧0≤mn)):partsV U mn mx ≠ []:=by
 unfold partsV
 rcases h with h | ⟨h1,h2,h3⟩
 ·rw [if_pos h]; simp
 ·rw [if_neg (by omega)]
  intro e
  have:=congrArg List.length e
  simp at this
  omega
theorem parts_len (X:List El) (c mn mx:Int) (hX:(X.length:Int)≤2 * c - 1) (o2:0≤mn) (h:mx = -1∨(0<mx∧mn≤mx)):((jn (partsX X mn mx)).length:Int)≤2 * repSize c mn mx - 1:=by
 have hne:=partsX_ne X mn mx (h.imp id (fun q => ⟨q.1,q.2,o2⟩))
 have h1:=jn_jl _ hne
 rcases h with h | ⟨h3,h4⟩
 ·subst h
  have e:jl (partsX X mn (-1))=(mn - 1).toNat * (X.length+1)+(X.length+2):=by
   unfold partsX
   rw [if_pos rfl,jl_app,jl_rep]
   simp [jl]
  have hm:(((mn - 1).toNat * (X.length+1):Nat):Int)≤((mn - 1).toNat:Int) * (2 * c):=by
   rw [Int.natCast_mul]
   exact Int.mul_le_mul_of_nonneg_left (by omega) (by omega)
  by_cases hmn:mn<1
  ·rw [show (mn - 1).toNat=0 by omega] at e hm
   rw [repSize_a hmn]
   omega
  ·rw [repSize_b hmn]
   have e2:((mn - 1).toNat:Int) * (2 * c)=2 * (mn * c) - 2 * c:=by
    rw [show ((mn - 1).toNat:Int)=mn - 1 by omega,Int.sub_mul,Int.one_mul,← Int.mul_assoc,Int.mul_comm mn 2,Int.mul_assoc]
   omega
 ·have e:jl (partsX X mn mx)=mn.toNat * (X.length+1)+(mx - mn).toNat * (X.length+3):=by
   unfold partsX
   rw [if_neg (by omega),jl_app,jl_rep,jl_rep]
   simp [optE]
  have hm:((mn.toNat * (X.length+1):Nat):Int)≤mn * (2 * c):=by
   rw [Int.natCast_mul,show (mn.toNat:Int)=mn by omega]
   exact Int.mul_le_mul_of_nonneg_left (by omega) (by omega)
  have hm2:(((mx - mn).toNat * (X.length+3):Nat):Int)≤(mx - mn) * (2 * (c+1)):=by
   rw [Int.natCast_mul,show ((mx - mn).toNat:Int)=mx - mn by omega]
   exact Int.mul_le_mul_of_nonneg_left (by omega) (by omega)
  rw [repSize_d (by omega) (by omega)]
  have e2:mn * (2 * c)=2 * (mn * c):=by rw [← Int.mul_assoc,Int.mul_comm mn 2,Int.mul_assoc]
  have e3:(mx - mn) * (2 * (c+1))=2 * ((mx - mn) * (c+1)):=by rw [← Int.mul_assoc,Int.mul_comm (mx - mn) 2,Int.mul_assoc]
  omega
theorem rep_ge (c mn mx:Int) (hc:0≤c) (o2:0≤mn) (h:mx = -1∨(mn≤mx∧mx≤250)):c≤repSize c mn mx:=by
 rcases h with h | ⟨h1,-⟩
 ·subst h
  by_cases hmn:mn<1
  ·rw [repSize_a hmn]; omega
  ·rw [repSize_b hmn]
   have:1 * c≤mn * c:=Int.mul_le_mul_of_nonneg_right (by omega) hc
   omega
 ·by_cases h0:mx=0
  ·subst h0; rw [repSize_c]; exact Int.le_refl _
  ·rw [repSize_d (by omega) h0]
   have p1:0≤mn * c:=Int.mul_nonneg o2 hc
   have p2:0≤(mx - mn) * (c+1):=Int.mul_nonneg (by omega) (by omega)
   by_cases h2:0<mn
   ·have:1 * c≤mn * c:=Int.mul_le_mul_of_nonneg_right (by omega) hc
    omega
   ·have:1 * (c+1)≤(mx - mn) * (c+1):=Int.mul_le_mul_of_nonneg_right (by omega) (by omega)
    omega
def xPush (st:List (List El)) (x:El):List (List El) :=
 if x.kind=0∨x.kind=1 then [x] :: st else
 match st with
 | [] => []
 | [o] => if x.kind=4 then [repX o x.mn x.mx] else [o]
 | r :: l :: b => if x.kind=4 then repX r x.mn x.mx :: l :: b else (l ++ r ++ [x]) :: b
def xRun (st:List (List El)):List El→List (List El)
 | [] => st
 | x :: r => xRun (xPush st x) r
theorem xRun_append (st:List (List El)) (a b:List El):xRun st (a ++ b)=xRun (xRun st a) b:=by
 induction a generalizing st with
 | nil => rfl
 | cons x r ih => simp [xRun,ih]
def SegX (seg L:List El):Prop:=∀ st,xRun st seg=L :: st
theorem SegX.leaf {x:El} (h:x.kind=0∨x.kind=1):SegX [x] [x]:=fun st => by simp only [xRun,xPush]; rw [if_pos h]
theorem SegX.bin {a b A B:List El} {x:El} (ha:SegX a A) (hb:SegX b B) (h:x.kind=2∨x.kind=3):SegX (a ++ b ++ [x]) (A ++ B ++ [x]):=fun st => by
 rw [xRun_append,xRun_append,ha,hb]
 simp only [xRun,xPush]
 rw [if_neg (by omega),if_neg (by omega)]
theorem SegX.rep {a A:List El} {x:El} (ha:SegX a A) (h:x.kind=4):SegX (a ++ [x]) (repX A x.mn x.mx):=fun st => by
 rw [xRun_append,ha]
 cases st with
 | nil => simp only [xRun,xPush]; rw [if_neg (by omega),if_pos h]
 | cons q st => simp only [xRun,xPush]; rw [if_neg (by omega),if_pos h]
theorem SegX.one {a A B:List El} (h:SegX a A) (k:SegX a B):A=B:=by
 have:=(h []).symm.trans (k [])
 simpa using this
theorem cap_small {n:Int} (h:cap n≤500):cap n=n∧n≤500:=by
 unfold cap at h ⊢
 by_cases e:500<n
 ·rw [if_pos e] at h; omega
 ·rw [if_neg e]; exact ⟨rfl,by omega⟩
theorem canon_len {xs:List Int} (h:Canon xs):xs.length≤300:=by
 by_cases q:xs.length≤258
 ·omega
 ·have h1:=canon_ge h 129 (by omega)
  have h2:=(h.2.1 (2 * 129) (by omega)).2
  omega
theorem nice_set {xs:List Int} (h:Canon xs):Nice [⟨1,xs,0,0⟩]:=by
 refine ⟨fun i => ?_,fun i => ?_⟩
 ·cases i with
  | zero =>
   refine ⟨by simp [In64],by simp [In64],by simp [In64],fun j => ?_⟩
   by_cases hj:j<xs.length
   ·have:=h.2.1 j hj
    show In64 (xs[j]?.getD 0)
    unfold In64
    omega
   ·show In64 (xs[j]?.getD 0)
    rw [List.getElem?_eq_none (by omega)]
    simp [In64]
  | succ i => simp [dE,In64]
 ·cases i with
  | zero => have:=canon_len h; show xs.length≤1048576; omega
  | succ i => simp [dE]
theorem parts_nice {X:List El} (h:Nice X) (mn mx:Int) (o2:0≤mn) (o3:mn≤250):Nice (jn (partsX X mn mx)):=by
 refine jn_nice _ (fun p hp => ?_)
 unfold partsX at hp
 by_cases e:mx = -1
 ·rw [if_pos e] at hp
  rcases List.mem_append.1 hp with hp | hp
  ·rw [(List.mem_replicate.1 hp).2]; exact h
  ·rw [List.mem_singleton.1 hp]
   exact h.app (Nice.op _ _ _ (by simp [In64]) (by unfold In64; split <;> omega) (by simp [In64]))
 ·rw [if_neg e] at hp
  rcases List.mem_append.1 hp with hp | hp
  ·rw [(List.mem_replicate.1 hp).2]; exact h
  ·rw [(List.mem_replicate.1 hp).2]; exact optE_nice h
theorem jV_iface {vs:List Value} (h:vs ≠ []) (hi:∀ u ∈ vs,∃ T x,u = .iface T x):∃ T x,jV vs = .iface T x:=by
 match vs with
 | p :: r => exact foldV r p (hi p (by simp))
 | [] => exact absurd rfl h
theorem parts_iface {U:Value} (h:∃ T x,U = .iface T x) (mn mx:Int):∀ u ∈ partsV U mn mx,∃ T x,u = .iface T x:=by
 intro u hu
 unfold partsV at hu
 by_cases e:mx = -1
 ·rw [if_pos e] at hu
  rcases List.mem_append.1 hu with hu | hu
  ·rw [(List.mem_replicate.1 hu).2]; exact h
  ·rw [List.mem_singleton.1 hu]; exact ⟨_,_,rfl⟩
 ·rw [if_neg e] at hu
  rcases List.mem_append.1 hu with hu | hu
  ·rw [(List.mem_replicate.1 hu).2]; exact h
  ·rw [(List.mem_replicate.1 hu).2]; exact ⟨_,_,rfl⟩
def wof (p:Nat→Bool):Nat→Nat→Nat
 | 0 => fun _ => 0
 | n+1 => if p n then (fun j => if j=n / 64 then wof p n (n / 64) ||| 2 ^ (n % 64) else wof p n j) else wof p n
theorem wof_fit (p:Nat→Bool):∀ n:Nat,Fit (wof p n)
 | 0 => fun j => by show 0<18446744073709551616; omega
 | n+1 => fun j => by
  simp only [wof]
  split
  ·by_cases e:j=n / 64
   ·simp only [e,if_true]; exact or_lt _ _ (wof_fit p n _) (by omega)
   ·simp only [e,if_false]; exact wof_fit p n j
  ·exact wof_fit p n j
theorem wof_bt (p:Nat→Bool) (b:Nat):∀ n:Nat,Bt (wof p n) b=(decide (b<n) && p b)
 | 0 => by simp [wof,Bt]
 | n+1 => by
  have ih:=wof_bt p b n
  by_cases hp:p n=true
  ·have e:wof p (n+1)=(fun j => if j=n / 64 then wof p n (n / 64) ||| 2 ^ (n % 64) else wof p n j):=by simp [wof,hp]
   rw [e,bt_put,ih]
   by_cases e2:b=n
   ·subst e2; simp [hp]
   ·have:b<n+1↔b<n:=by omega
    simp [e2,this]
  ·have e:wof p (n+1)=wof p n:=by simp [wof,hp]
   rw [e,ih]
   by_cases e2:b=n
   ·subst e2; simp [hp]
   ·have:b<n+1↔b<n:=by omega
    simp [this]
theorem words_ex {xs:List Int} (h:Canon xs):∃ g,WordsOf xs g:=by
 refine ⟨wof (InP xs (xs.length / 2)) 256,wof_fit _ _,fun b => ?_⟩
 rw [wof_bt]
 by_cases hb:b<256
 ·simp [hb]
 ·have:InP xs (xs.length / 2) b=false:=by
   rw [Bool.eq_false_iff]
   intro q
   obtain ⟨j,h1,h2,h3⟩ := (inP_iff _ _ _).1 q
   have:=(h.2.1 (2 * j+1) (by omega)).2
   omega
  rw [this]; simp
theorem PushR.gg {G:Value→List El × Int→Prop} (hG:Clos G) {st st':List (List El × Int)} {x:El} (h:PushR st x st') (ok:ElOk x) (hs:∀ s ∈ st,∃ u,G u s):∀ s ∈ st',∃ u,G u s:=by
 intro s hm
 obtain ⟨k,xs,mn,mx⟩ := x
 rcases h with ⟨hk,rfl⟩ | ⟨hk,b,l,r,rfl,rfl⟩ | ⟨hk,b,o,rfl,rfl⟩
 ·simp only [List.mem_append,List.mem_singleton] at hm; rcases hm with hm | rfl
  ·exact hs s hm
  ·rcases ok with ⟨q1,q2,q3,q4⟩ | ⟨q1,q2,q3,q4⟩ | ⟨q1,q2,q3,q4,q5⟩ <;> simp only at hk q1 q2 q3 q4
   ·subst q1 q3 q4
    obtain ⟨g,hg⟩ := words_ex q2
    exact ⟨_,hG.s q2 hg⟩
   ·subst q3 q4
    obtain rfl:=List.eq_nil_of_length_eq_zero q2
    obtain rfl:k=0:=by omega
    exact ⟨_,hG.e⟩
   ·omega
 ·simp only [List.mem_append,List.mem_singleton] at hm; rcases hm with hm | rfl
  ·exact hs s (by simp [hm])
  ·obtain ⟨u,hu⟩ := hs l (by simp)
   obtain ⟨v,hv⟩ := hs r (by simp)
   rcases ok with ⟨q1,q2,q3,q4⟩ | ⟨q1,q2,q3,q4⟩ | ⟨q1,q2,q3,q4,q5⟩ <;> simp only at hk q1 q2 q3 q4
   ·omega
   ·subst q3 q4
    obtain rfl:=List.eq_nil_of_length_eq_zero q2
    rcases hk with rfl | rfl
    ·exact ⟨_,hG.cat hu hv⟩
    ·exact ⟨_,hG.alt hu hv⟩
   ·omega
 ·simp only [List.mem_append,List.mem_singleton] at hm; rcases hm with hm | rfl
  ·exact hs s (by simp [hm])
  ·obtain ⟨u,hu⟩ := hs o (by simp)
   rcases ok with ⟨q1,q2,q3,q4⟩ | ⟨q1,q2,q3,q4⟩ | ⟨q1,q2,q3,q4,q5⟩ <;> simp only at hk q1 q2 q3 q4
   ·omega
   ·omega
   ·subst hk
    obtain rfl:=List.eq_nil_of_length_eq_zero q2
    exact ⟨_,hG.rep hu q3 q4 q5⟩
theorem valid_g {G:Value→List El × Int→Prop} (hG:Clos G) {xs:List El} (h:ValidT xs):∃ u c,G u (xs,c):=by
 obtain ⟨h1,ok,sh,c,hc1,hc2⟩ := h
 have key:∀ k:Nat,k≤xs.length→∃ st,flats st=xs.take k∧(∀ s ∈ st,SegM s.1 s.2)∧∀ s ∈ st,∃ u,G u s:=by
  intro k
  induction k with
  | zero => intro _; exact ⟨[],by simp [flats],by simp,by simp⟩
  | succ k ih =>
   intro hk
   obtain ⟨st,hst,hok,hgx⟩ := ih (by omega)
   have hx:=ok k (by omega)
   have h1:wsum (xs.take (k+1))+wsum (xs.drop (k+1))=1:=by rw [← wsum_append,List.take_append_drop]; exact sh.1
   have h2:=sh.2 (k+1) (by omega) hk
   have h3:=wsum_flats (fun s hs => (hok s hs).ws)
   rw [hst] at h3
   rw [take_next (by omega),wsum_append,h3] at h1
   simp only [wsum] at h1
   obtain ⟨st',hp⟩ := PushR.ex (st:=st) hx (by omega)
   exact ⟨st',by rw [hp.flats,hst,take_next (by omega)],hp.seg hx hok,hp.gg hG hx hgx⟩
 obtain ⟨st,hst,hok,hgx⟩ := key xs.length (Nat.le_refl _)
 rw [List.take_length] at hst
 have h3:=wsum_flats (fun s hs => (hok s hs).ws)
 rw [hst,sh.1] at h3
 obtain ⟨t,rfl⟩ := List.length_eq_one_iff.1 (show st.length=1 by omega)
 obtain ⟨u,hu⟩ := hgx t (by simp)
 rw [flats_one] at hst
 obtain ⟨t1,t2⟩ := t
 simp only at hst
 subst hst
 exact ⟨u,t2,hu⟩
theorem ta_cc (x:Value) (w:World):Sem.run Tryz.prog (Instr.typeAssert (.iface 92 x) 48 92 true) w = .ok (.tuple #[x,.bool true]) w:=by kernel_rfl
theorem ta_ac (x:Value) (w:World):Sem.run Tryz.prog (Instr.typeAssert (.iface 140 x) 48 92 true) w = .ok (.tuple #[.agg #[.nilIface,.nilIface],.bool false]) w:=by kernel_rfl
theorem ta_aa (x:Value) (w:World):Sem.run Tryz.prog (Instr.typeAssert (.iface 140 x) 48 140 true) w = .ok (.tuple #[x,.bool true]) w:=by kernel_rfl
theorem ta_rc (x:Value) (w:World):Sem.run Tryz.prog (Instr.typeAssert (.iface 90 x) 48 92 true) w = .ok (.tuple #[.agg #[.nilIface,.nilIface],.bool false]) w:=by kernel_rfl
theorem ta_ra (x:Value) (w:World):Sem.run Tryz.prog (Instr.typeAssert (.iface 90 x) 48 140 true) w = .ok (.tuple #[.agg #[.nilIface,.nilIface],.bool false]) w:=by kernel_rfl
theorem ta_rr (x:Value) (w:World):Sem.run Tryz.prog (Instr.typeAssert (.iface 90 x) 48 90 true) w = .ok (.tuple #[x,.bool true]) w:=by kernel_rfl
theorem ta_ec (w:World):Sem.run Tryz.prog (Instr.typeAssert (.iface 179 (.agg #[])) 48 92 true) w = .ok (.tuple #[.agg #[.nilIface,.nilIface],.bool false]) w:=by kernel_rfl
theorem ta_ea (w:World):Sem.run Tryz.prog (Instr.typeAssert (.iface 179 (.agg #[])) 48 140 true) w = .ok (.tuple #[.agg #[.nilIface,.nilIface],.bool false]) w:=by kernel_rfl
theorem ta_er (w:World):Sem.run Tryz.prog (Instr.typeAssert (.iface 179 (.agg #[])) 48 90 true) w = .ok (.tuple #[.agg #[.nilIface,.int .i64 0,.int .i64 0],.bool false]) w:=by kernel_rfl
theorem ta_sc (x:Value) (w:World):Sem.run Tryz.prog (Instr.typeAssert (.iface 88 x) 48 92 true) w = .ok (.tuple #[.agg #[.nilIface,.nilIface],.bool false]) w:=by kernel_rfl
theorem ta_sa (x:Value) (w:World):Sem.run Tryz.prog (Instr.typeAssert (.iface 88 x) 48 140 true) w = .ok (.tuple #[.agg #[.nilIface,.nilIface],.bool false]) w:=by kernel_rfl
theorem ta_sr (x:Value) (w:World):Sem.run Tryz.prog (Instr.typeAssert (.iface 88 x) 48 90 true) w = .ok (.tuple #[.agg #[.nilIface,.int .i64 0,.int .i64 0],.bool false]) w:=by kernel_rfl
set_option maxHeartbeats 1000000 in
theorem ExpV.e:ExpV eV eV:=by
 refine ⟨⟨_,_,rfl⟩,fun w => ?_⟩
 unfold eV
 have t1:=ta_ec
 have t2:=ta_ea
 have t3:=ta_er
 go_enter Tryz.func40,Tryz.ntmps40
 go_wp2
 go_ret
 exact ⟨rfl,Below.refl _ _⟩
set_option maxHeartbeats 1000000 in
theorem ExpV.s (g:Nat→Nat):ExpV (sV g) (sV g):=by
 refine ⟨⟨_,_,rfl⟩,fun w => ?_⟩
 unfold sV ws4
 have t1:=ta_sc
 have t2:=ta_sa
 have t3:=ta_sr
 go_enter Tryz.func40,Tryz.ntmps40
 go_wp2
 go_ret
 exact ⟨rfl,Below.refl _ _⟩
set_option maxHeartbeats 1000000 in
set_option maxRecDepth 100000 in
theorem ExpV.cat {u v U V:Value} (iu:∃ T x,u = .iface T x) (iv:∃ T x,v = .iface T x) (hu:ExpV u U) (hv:ExpV v V):ExpV (cV u v) (cV U V):=by
 refine ⟨⟨_,_,rfl⟩,fun w => ?_⟩
 obtain ⟨T,x,rfl⟩ := iu
 obtain ⟨T',x',rfl⟩ := iv
 obtain ⟨⟨T1,x1,rfl⟩,hu⟩ := hu
 obtain ⟨⟨T2,x2,rfl⟩,hv⟩ := hv
 have HF:=hide hu
 have HG:=hide hv
 clear hu hv
 unfold cV
 have t1:=ta_cc
 go_enter Tryz.func40,Tryz.ntmps40
 go_wp2_with fail
 go_region_with ((first | ((with_reducible refine (unhide HF _).mono ?_); rintro e w1 ⟨rfl,hb1⟩; have hb1':Below (w.heap.size+1) (w.alloc (.cells #[.iface T x,.iface T' x'] 92)) w1:=⟨hb1.os,hb1.tape,hb1.output,hb1.size,fun k hk => hb1.block k (by simpa using hk)⟩; have hc1:=(bcell hb1').1; clear hb1) | ((with_reducible refine (unhide HG _).mono ?_); rintro e w2 ⟨rfl,hb2⟩)))
 all_goals
  have hB1:Below w.heap.size w w1:=(below1 w _).trans (hb1'.mono (by omega))
  have hB2:Below w.heap.size w w2:=hB1.trans ⟨hb2.os,hb2.tape,hb2.output,hb2.size,fun k hk => hb2.block k (Nat.lt_of_lt_of_le hk hB1.size)⟩
  clear hc1 hb1' hb2
  go_wp2
  go_ret
  exact ⟨rfl,hB2⟩
set_option maxHeartbeats 1000000 in
set_option maxRecDepth 100000 in
theorem ExpV.alt {u v U V:Value} (iu:∃ T x,u = .iface T x) (iv:∃ T x,v = .iface T x) (hu:ExpV u U) (hv:ExpV v V):ExpV (aV u v) (aV U V):=by
 refine ⟨⟨_,_,rfl⟩,fun w => ?_⟩
 obtain ⟨T,x,rfl⟩ := iu
 obtain ⟨T',x',rfl⟩ := iv
 obtain ⟨⟨T1,x1,rfl⟩,hu⟩ := hu
 obtain ⟨⟨T2,x2,rfl⟩,hv⟩ := hv
 have HF:=hide hu
 have HG:=hide hv
 clear hu hv
 unfold aV
 have t1:=ta_ac
 have t2:=ta_aa
 go_enter Tryz.func40,Tryz.ntmps40
 go_wp2_with fail
 go_region_with ((first | ((with_reducible refine (unhide HF _).mono ?_); rintro e w1 ⟨rfl,hb1⟩; have hb1':Below (w.heap.size+1) (w.alloc (.cells #[.iface T x,.iface T' x'] 140)) w1:=⟨hb1.os,hb1.tape,hb1.output,hb1.size,fun k hk => hb1.block k (by simpa using hk)⟩; have hc1:=(bcell hb1').1; clear hb1) | ((with_reducible refine (unhide HG _).mono ?_); rintro e w2 ⟨rfl,hb2⟩)))
 all_goals
  have hB1:Below w.heap.size w w1:=(below1 w _).trans (hb1'.mono (by omega))
  have hB2:Below w.heap.size w w2:=hB1.trans ⟨hb2.os,hb2.tape,hb2.output,hb2.size,fun k hk => hb2.block k (Nat.lt_of_lt_of_le hk hB1.size)⟩
  clear hc1 hb1' hb2
  go_wp2
  go_ret
  exact ⟨rfl,hB2⟩
theorem ExpV.rep0 {u W:Value} {mn mx:Int} (iu:∃ T x,u = .iface T x) (iw:∃ T x,W = .iface T x) (h:∀ w,Calls Tryz.prog 74 #[.agg #[u,.int .i64 mn,.int .i64 mx]] w fun e w' => e = .returned W∧Below w.heap.size w w'):ExpV (rV u mn mx) W:=by
 refine ⟨iw,fun w => ?_⟩
 obtain ⟨T,x,rfl⟩ := iu
 have HF:=hide h
 clear h
 unfold rV
 have t1:=ta_rc
 have t2:=ta_ra
 have t3:=ta_rr
 go_enter Tryz.func40,Tryz.ntmps40
 go_wp2_with fail
 refine (unhide HF _).mono ?_
 rintro e w1 ⟨rfl,hb1⟩
 have hB1:Below w.heap.size w w1:=(below1 w _).trans (hb1.mono (by rw [sz_alloc]; omega))
 clear hb1
 go_wp2
 go_ret
 exact ⟨rfl,hB1⟩
theorem num_of {n:Nat} {w:World} {v:Value} {xs:List El} (h:ElsAt 0 n w v xs):Num xs:=by
 obtain ⟨a,cap,-,-,hc⟩ := h
 intro i
 by_cases hi:i<xs.length
 ·obtain ⟨b,off,-,-,-,hel⟩ := hc (by omega)
  obtain ⟨i1,i2,i3,s,-,-,-,-,a',c',-,-,hr,-⟩ := hel i hi
  exact ⟨i1,i2,i3,hr⟩
 ·rw [List.getElem?_eq_none (by omega)]
  simp [dE,In64]
theorem set_le {xs:List El} {m:Nat} (h:bulk xs≤m):∀ i:Nat,(xs[i]?.getD dE).set.length≤m:=by
 intro i
 by_cases hi:i<xs.length
 ·have h1:=bulk_take_succ xs i hi
  have hb:∀ (l:List El) (j:Nat),bulk (l.take j)≤bulk l:=by
   intro l
   induction l with
   | nil => intro j; simp [bulk]
   | cons x r ih => intro j; cases j with
    | zero => simp [bulk]
    | succ j => have:=ih j; simp only [List.take_succ_cons,bulk]; omega
  have h2:=hb xs (i+1)
  omega
 ·rw [List.getElem?_eq_none (by omega)]
  simp [dE]
theorem ElsF.keep {S:Nat→Prop} {m:Nat} {w w':World} {v:Value} {xs:List El} (h:ElsF S w v xs) (hb:Below m w w') (hs:∀ k,S k→k<m):ElsF S w' v xs:=h.same (fun k hk => hb.block k (hs k hk))
end Go.Proofs.YtlidckepahpaeaaGreatDoor
