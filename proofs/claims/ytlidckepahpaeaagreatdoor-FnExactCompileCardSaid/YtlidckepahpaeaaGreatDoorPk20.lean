import Derived.Test.YtlidckepahpaeaaGreatDoorPk18
import Derived.Test.YtlidckepahpaeaaGreatDoorX0
import Derived.BigQuiet
import Derived.BigRegion
import Derived.Test.YtlidckepahpaeaaGreatDoorPk19
namespace Go.Proofs.YtlidckepahpaeaaGreatDoor
def cntN (f:Nat→Bool):Nat→Nat
 | 0 => 0
 | n+1 => cntN f n+(if f n then 1 else 0)
theorem cntN_le (f:Nat→Bool):∀ n,cntN f n≤n
 | 0 => Nat.le_refl _
 | n+1 => by have:=cntN_le f n; simp only [cntN]; split <;> omega
theorem cntN_mono {f g:Nat→Bool}:∀ n,(∀ q,q<n→f q=true→g q=true)→cntN f n≤cntN g n
 | 0,_ => Nat.le_refl _
 | n+1,h => by
  have h1:=cntN_mono n fun q hq => h q (by omega)
  have h2:=h n (by omega)
  simp only [cntN]
  by_cases hf:f n=true
  ·rw [if_pos hf,if_pos (h2 hf)]; omega
  ·rw [if_neg hf]; omega
theorem cntN_lt {f g:Nat→Bool}:∀ n,(∀ q,q<n→f q=true→g q=true)→(∃ q,q<n∧g q=true∧f q=false)→cntN f n<cntN g n
 | 0,_,⟨q,hq,_⟩ => by omega
 | n+1,h,⟨q,hq,hg,hf⟩ => by
  simp only [cntN]
  by_cases he:q=n
  ·subst he
   have h1:=cntN_mono (f:=f) (g:=g) q fun p hp => h p (by omega)
   rw [hf,hg]
   simp
   omega
  ·have h1:=cntN_lt n (fun p hp => h p (by omega)) ⟨q,by omega,hg,hf⟩
   have h2:=h n (by omega)
   by_cases hfn:f n=true
   ·rw [if_pos hfn,if_pos (h2 hfn)]; omega
   ·rw [if_neg hfn]; omega
theorem Rds.grow {A:Tb} {C:Nat→Nat→Prop} {P N:Nat→Nat} (h:Rds A C P) (g:Rds A (rnd A C) N) (hw:A.Wf) {r:Nat→Bool} (hr:∀ q,q<A.n→(r q=true↔A.Rch q)) (hne:∃ q,A.Rch q∧N q ≠ P q) :
  cntN (fun q => r q && P q == q) A.n<cntN (fun q => r q && N q == q) A.n:=by
 refine cntN_lt _ (fun q hq hf => ?_) ?_
 ·simp only [Bool.and_eq_true,beq_iff_eq] at hf ⊢
  have rq:=(hr q hq).mp hf.1
  refine ⟨hf.1,?_⟩
  have h1:=g.lst q rq
  have h2:=(h.lst q rq).2.2 _ h1.1 h1.2.1.1
  have h3:=g.lst.le g.equ rq
  omega
 ·obtain ⟨q,rq,hd⟩ := hne
  have h1:=g.lst q rq
  have hl:=h1.1.lt hw
  refine ⟨N q,hl,?_,?_⟩
  ·simp only [Bool.and_eq_true,beq_iff_eq]
   exact ⟨(hr _ hl).mpr h1.1,g.lst.idem g.equ rq⟩
  ·have h2:=(h.lst.eq_iff h.equ h1.1 rq).mpr h1.2.1.1
   have:¬ P (N q)=N q:=fun he => hd (by rw [← h2,he])
   simp [this]
theorem nodup_le:∀ (n:Nat) (l:List Nat),l.Nodup→(∀ x ∈ l,x<n)→l.length≤n
 | 0,[],_,_ => Nat.le_refl _
 | 0,x :: l,_,h => absurd (h x (.head _)) (by omega)
 | n+1,l,hn,h => by
  have h1:=nodup_le n (l.filter (· ≠ n)) (hn.filter _) (fun x hx => by
   rw [List.mem_filter] at hx
   have:=h x hx.1
   have:=of_decide_eq_true hx.2
   omega)
  have h2:l.length≤(l.filter (· ≠ n)).length+1:=by
   clear h1 h
   induction l with
   | nil => simp
   | cons x l ih =>
    rw [List.nodup_cons] at hn
    by_cases e:x=n
    ·subst e
     have:l.filter (· ≠ x)=l:=List.filter_eq_self.mpr (fun y hy => by
      have:y ≠ x:=fun e => hn.1 (e ▸ hy)
      simpa using this)
     rw [List.filter_cons_of_neg (by simp),this,List.length_cons]
     exact Nat.le_refl _
    ·have:=ih hn.2
     rw [List.filter_cons_of_pos (by simpa using e),List.length_cons,List.length_cons]
     omega
  omega
theorem PInv.few {n N:Nat} {ms ps bs fr mk tt:Nat→Nat} (h:PInv n N ms ps bs fr mk tt):N≤n:=by
 have h1:((List.range N).map fr).Nodup:=by
  rw [List.nodup_iff_pairwise_ne,List.pairwise_map]
  refine (List.nodup_range (n:=N)).imp_of_mem (fun {a b} ha hb hne he => hne ?_)
  have ha:=List.mem_range.1 ha
  have hb:=List.mem_range.1 hb
  have b1:=h.b1 a ha
  have b2:=h.b1 b hb
  obtain ⟨q1,q2⟩ := h.m1 (fr a) (by omega)
  rw [← h.s2 (ms (fr a)) a q1 ha (by omega) (by omega),← h.s2 (ms (fr a)) b q1 hb (by omega) (by omega)]
 have:=nodup_le n _ h1 (fun x hx => by
  obtain ⟨a,ha,rfl⟩ := List.mem_map.1 hx
  have:=h.b1 a (List.mem_range.1 ha)
  omega)
 simpa using this
structure SpI (n N:Nat) (S:Nat→Prop) (bs fr mk tt:Nat→Nat) (U:Nat→Prop) (N':Nat) (bs' fr' mk' tt':Nat→Nat):Prop where
 le:N≤N'
 un:∀ b,U b→b<N∧fr' b=fr b∧mk' b=mk b∧tt' b=tt b
 ub:∀ t,t<n→(U (bs t)∨U (bs' t))→bs' t=bs t
 or:∀ t,t<n→bs' t=bs t∨N≤bs' t
 same:∀ p q,p<n→q<n→(bs' p=bs' q↔bs p=bs q∧(¬ U (bs p)→(S p↔S q)))
 um:∀ b,b<N'→¬ U b→mk' b=fr' b
section
variable {n N:Nat} {S U:Nat→Prop} {ms ps bs fr mk tt:Nat→Nat} {N':Nat} {bs' fr' mk' tt':Nat→Nat}
theorem SpI.start (h:PInv n N ms ps bs fr mk tt) (hS:∀ t,t<n→(ps t<mk (bs t)↔S t)):SpI n N S bs fr mk tt (fun b => b<N∧mk b ≠ fr b) N bs fr mk tt where
 le:=Nat.le_refl _
 un:=fun b hb => ⟨hb.1,rfl,rfl,rfl⟩
 ub:=fun _ _ _ => rfl
 or:=fun _ _ => .inl rfl
 same:=fun p q hp hq => ⟨fun e => ⟨e,fun hu => by
  have b1:=h.s1 p hp
  have b2:=h.s1 q hq
  have:mk (bs p)=fr (bs p):=Classical.byContradiction fun hne => hu ⟨b1.1,hne⟩
  rw [← hS p hp,← hS q hq,← e,this]
  rw [← e] at b2
  omega⟩,fun e => e.1⟩
 um:=fun b hb hu => Classical.byContradiction fun hne => hu ⟨hb,hne⟩
theorem SpI.unmark (h:SpI n N S bs fr mk tt U N' bs' fr' mk' tt') (hP:PInv n N' ms ps bs' fr' mk' tt') (hS:∀ t,t<n→(ps t<mk (bs t)↔S t)) {b:Nat} (hb:U b) (hw:mk' b=fr' b∨mk' b=tt' b) :
  SpI n N S bs fr mk tt (fun x => U x∧x ≠ b) N' bs' fr' (upd mk' b (fr' b)) tt' where
 le:=h.le
 un:=fun x hx => by rw [upd_ne _ hx.2]; exact h.un x hx.1
 ub:=fun t ht hu => h.ub t ht (hu.imp And.left And.left)
 or:=h.or
 same:=fun p q hp hq => by
  rw [h.same p q hp hq]
  refine ⟨fun ⟨e,hs⟩ => ⟨e,fun hu => ?_⟩,fun ⟨e,hs⟩ => ⟨e,fun hu => hs (fun k => hu k.1)⟩⟩
  by_cases hub:U (bs p)
  ·have e1:bs p=b:=Classical.byContradiction fun hne => hu ⟨hub,hne⟩
   have p1:=h.ub p hp (.inl hub)
   have q1:=h.ub q hq (.inl (e ▸ hub))
   have b1:=hP.s1 p hp
   have b2:=hP.s1 q hq
   have u1:=h.un b hb
   rw [← hS p hp,← hS q hq,← e,e1]
   rw [p1,e1] at b1
   rw [q1,← e,e1] at b2
   omega
  ·exact hs hub
 um:=fun x hx hu => by
  by_cases e:x=b
  ·subst e; rw [upd_at]
  ·rw [upd_ne _ e]; exact h.um x hx (fun k => hu ⟨k,e⟩)
theorem SpI.cut (h:SpI n N S bs fr mk tt U N' bs' fr' mk' tt') (hP:PInv n N' ms ps bs' fr' mk' tt') (hS:∀ t,t<n→(ps t<mk (bs t)↔S t)) {b r1 r2 o1 o2:Nat} {bs2:Nat→Nat} (hb:U b)
  (hs2:∀ p q,p<n→q<n→(bs2 p=bs2 q↔bs' p=bs' q∧(bs' p=b→(ps p<mk' b↔ps q<mk' b)))) (hk:∀ p,p<n→bs' p ≠ b→bs2 p=bs' p) (hn:∀ p,p<n→bs' p=b→bs2 p=b∨bs2 p=N') :
  SpI n N S bs fr mk tt (fun x => U x∧x ≠ b) (N'+1) bs2 (upd (upd fr' b r1) N' o1) (upd (upd mk' b r1) N' o1) (upd (upd tt' b r2) N' o2):=by
 have hle:=h.le
 have ub:=h.un b hb
 have no:∀ t,t<n→bs' t=b→bs t=b:=fun t ht e => by rw [← h.ub t ht (.inr (e ▸ hb)),e]
 have on:∀ t,t<n→bs t=b→bs' t=b:=fun t ht e => by rw [h.ub t ht (.inl (e ▸ hb)),e]
 refine ⟨by omega,fun x hx => ?_,fun t ht hu => ?_,fun t ht => ?_,fun p q hp hq => ?_,fun x hx hu => ?_⟩
 ·have h1:=h.un x hx.1
  have hxN:x ≠ N':=by omega
  rw [upd_ne _ hxN,upd_ne _ hxN,upd_ne _ hxN,upd_ne _ hx.2,upd_ne _ hx.2,upd_ne _ hx.2]
  exact h1
 ·by_cases e:bs' t=b
  ·rcases hu with hu | hu
   ·exact absurd (no t ht e) hu.2
   ·rcases hn t ht e with e2 | e2
    ·exact absurd e2 hu.2
    ·have:=(h.un _ hu.1).1; omega
  ·rw [hk t ht e] at hu ⊢
   exact h.ub t ht (hu.imp And.left And.left)
 ·by_cases e:bs' t=b
  ·rcases hn t ht e with e2 | e2
   ·exact .inl (by rw [e2,no t ht e])
   ·exact .inr (by omega)
  ·rw [hk t ht e]; exact h.or t ht
 ·rw [hs2 p q hp hq,h.same p q hp hq]
  refine ⟨fun ⟨⟨e,hs⟩,hc⟩ => ⟨e,fun hu => ?_⟩,fun ⟨e,hs⟩ => ⟨⟨e,fun hu => hs (fun k => hu k.1)⟩,fun hc => ?_⟩⟩
  ·by_cases hub:U (bs p)
   ·have e1:bs p=b:=Classical.byContradiction fun hne => hu ⟨hub,hne⟩
    have:=hc (on p hp e1)
    rw [← hS p hp,← hS q hq,← e,e1,← ub.2.2.1]
    exact this
   ·exact hs hub
  ·have e1:=no p hp hc
   have:=hs (fun k => k.2 e1)
   rw [← hS p hp,← hS q hq,← e,e1,← ub.2.2.1] at this
   exact this
 ·by_cases e:x=N'
  ·subst e; rw [upd_at,upd_at]
  ·rw [upd_ne _ e,upd_ne _ e]
   by_cases e2:x=b
   ·subst e2; rw [upd_at,upd_at]
   ·rw [upd_ne _ e2,upd_ne _ e2]
    exact h.um x (by omega) (fun k => hu ⟨k,e2⟩)
theorem SpI.fin (h:SpI n N S bs fr mk tt U N' bs' fr' mk' tt') (hU:∀ b,¬ U b) {W W':Nat→Prop} (hW:∀ x,W x→W' x) (hN:∀ x,N≤x→x<N'→W' x) (hlt:∀ p,p<n→bs' p<N'):CutH n S bs bs' W W' where
 same:=fun p q hp hq => by
  rw [h.same p q hp hq]
  exact ⟨fun k => ⟨k.1,k.2 (hU _)⟩,fun k => ⟨k.1,fun _ => k.2⟩⟩
 keep:=fun p hp hw => by
  rcases h.or p hp with e | e
  ·rw [e]; exact hW _ hw
  ·exact hN _ e (hlt p hp)
 new:=fun p q hp hq e hne => by
  rcases h.or p hp with e1 | e1
  ·rcases h.or q hq with e2 | e2
   ·exact absurd (by rw [e1,e2,e]) hne
   ·exact .inr (hN _ e2 (hlt q hq))
  ·exact .inl (hN _ e1 (hlt p hp))
end
open Go.RowKit
set_option maxHeartbeats 2000000 in
set_option maxRecDepth 100000 in
theorem swap_any (g mb mo pb po n c1 c2:Nat) (i j x y:Nat) (w:World) (hi:i<n) (hj:j<n) (hx:x<n) (hy:y<n) (d1:mb ≠ g) (d2:pb ≠ g) (d3:mb ≠ pb)
  (f0:w.cell? ⟨g,0,none⟩ = some (.slice (some ⟨mb,mo,none⟩) n c1)) (f1:w.cell? ⟨g,1,none⟩ = some (.slice (some ⟨pb,po,none⟩) n c2))
  (m1:w.cell? ⟨mb,mo+i,none⟩ = some (.int .i64 x)) (m2:w.cell? ⟨mb,mo+j,none⟩ = some (.int .i64 y)) (p1:∃ v,w.cell? ⟨pb,po+x,none⟩ = some v) (p2:∃ v,w.cell? ⟨pb,po+y,none⟩ = some v)
  (zm:∀ k,w.frozen? ⟨mb,k,none⟩ = false) (zp:∀ k,w.frozen? ⟨pb,k,none⟩ = false) :
  Calls Tryz.prog 120 #[.pointer (some ⟨g,0,none⟩),.int .i64 i,.int .i64 j] w fun e w' => e = .returned (.tuple #[]) ∧
   ∃ q,w'=((((w.drewN q).setCell ⟨mb,mo+i,none⟩ (.int .i64 y)).setCell ⟨mb,mo+j,none⟩ (.int .i64 x)).setCell ⟨pb,po+y,none⟩ (.int .i64 i)).setCell ⟨pb,po+x,none⟩ (.int .i64 j):=by
 have hi':(i:Int)<(n:Int):=by omega
 have hj':(j:Int)<(n:Int):=by omega
 have z1:=zm (mo+i)
 have z2:=zm (mo+j)
 have hA:(w.setCell ⟨mb,mo+i,none⟩ (.int .i64 y)).cell? ⟨mb,mo+j,none⟩ = some (.int .i64 y):=by
  by_cases he:i=j
  ·subst he; exact put_same m1
  ·rw [put_other (by right; omega)]; exact m2
 have zA:(w.setCell ⟨mb,mo+i,none⟩ (.int .i64 y)).frozen? ⟨mb,mo+j,none⟩ = false:=by rw [← z2]; exact World.frozen?_setCell ..
 obtain ⟨v1,p1⟩ := p1
 obtain ⟨v2,p2⟩ := p2
 have hx':(x:Int)<(n:Int):=by omega
 have hy':(y:Int)<(n:Int):=by omega
 obtain ⟨W1,hW1⟩ : ∃ W1,W1=(w.setCell ⟨mb,mo+i,none⟩ (.int .i64 y)).setCell ⟨mb,mo+j,none⟩ (.int .i64 x):=⟨_,rfl⟩
 have g0:W1.cell? ⟨g,0,none⟩ = some (.slice (some ⟨mb,mo,none⟩) n c1):=by rw [hW1,put_other (by left; exact d1),put_other (by left; exact d1)]; exact f0
 have g1:W1.cell? ⟨g,1,none⟩ = some (.slice (some ⟨pb,po,none⟩) n c2):=by rw [hW1,put_other (by left; exact d1),put_other (by left; exact d1)]; exact f1
 have k1:W1.cell? ⟨mb,mo+i,none⟩ = some (.int .i64 y):=by
  rw [hW1]
  by_cases he:i=j
  ·subst he
   rw [m1] at m2
   cases m2
   exact put_same hA
  ·rw [put_other (by right; omega)]; exact put_same m1
 have k2:W1.cell? ⟨mb,mo+j,none⟩ = some (.int .i64 x):=by rw [hW1]; exact put_same hA
 have k3:W1.cell? ⟨pb,po+y,none⟩ = some v2:=by rw [hW1,put_other (by left; exact d3),put_other (by left; exact d3)]; exact p2
 have k4:W1.cell? ⟨pb,po+x,none⟩ = some v1:=by rw [hW1,put_other (by left; exact d3),put_other (by left; exact d3)]; exact p1
 have z3:W1.frozen? ⟨pb,po+y,none⟩ = false:=by rw [hW1,World.frozen?_setCell,World.frozen?_setCell]; exact zp _
 have z4:W1.frozen? ⟨pb,po+x,none⟩ = false:=by rw [hW1,World.frozen?_setCell,World.frozen?_setCell]; exact zp _
 obtain ⟨W2,hW2⟩ : ∃ W2,W2=W1.setCell ⟨pb,po+y,none⟩ (.int .i64 i):=⟨_,rfl⟩
 have e0:W2.cell? ⟨g,0,none⟩ = some (.slice (some ⟨mb,mo,none⟩) n c1):=by rw [hW2,put_other (by left; exact d2)]; exact g0
 have e1:W2.cell? ⟨g,1,none⟩ = some (.slice (some ⟨pb,po,none⟩) n c2):=by rw [hW2,put_other (by left; exact d2)]; exact g1
 have e2:W2.cell? ⟨mb,mo+j,none⟩ = some (.int .i64 x):=by rw [hW2,put_other (by left; exact Ne.symm d3)]; exact k2
 have e3:∃ v,W2.cell? ⟨pb,po+x,none⟩ = some v:=by
  rw [hW2]
  by_cases he:x=y
  ·subst he; exact ⟨_,put_same k3⟩
  ·rw [put_other (by right; omega)]; exact ⟨_,k4⟩
 obtain ⟨v3,e3⟩ := e3
 have z5:W2.frozen? ⟨pb,po+x,none⟩ = false:=by rw [hW2,World.frozen?_setCell]; exact z4
 have HW1:=hide hW1
 have HW2:=hide hW2
 clear hW1 hW2 zm zp d1 d2 d3 p1 p2 z4 k4
 go_enter Tryz.func120,Tryz.ntmps120
 go_wp2_with fail
 go_region
 rw [← unhide HW1]
 clear hA zA m1 m2 f0 f1 z1 z2
 go_wp2_with fail
 go_region
 rw [← unhide HW2]
 clear g0 g1 k1 k2 k3 z3
 go_wp2_with fail
 go_region
 go_wp2
 first | (refine bodyPost_ret (results_none rfl _ _ _) rfl ?_) | (refine bodyPost_end (results_none rfl _ _ _) rfl ?_)
 refine ⟨rfl,3,?_⟩
 rw [unhide HW2,unhide HW1]
 rfl
theorem PtAt.drewN {O:Nat→Prop} {g mb mc pb pc bb bc:Nat} {w:World} {n N:Nat} {ms ps bs fr mk tt:Nat→Nat} {kb kc:Nat} {qv:Value} {qs:List Int} {tk:Nat} (h:PtAt O g mb mc pb pc bb bc w n N ms ps bs fr mk tt kb kc qv qs tk) (q:Nat):PtAt O g mb mc pb pc bb bc (w.drewN q) n N ms ps bs fr mk tt kb kc qv qs tk:=h.keep (fun _ _ _ => rfl)
theorem fro_drewN {O:Nat→Prop} (w:World) (q:Nat):FrO O w (w.drewN q):=⟨rfl,rfl,rfl,Nat.le_refl _,fun _ _ => rfl⟩
theorem swap_pt {O:Nat→Prop} {g mb mc pb pc bb bc:Nat} {w:World} {n N:Nat} {ms ps bs fr mk tt:Nat→Nat} {kb kc:Nat} {qv:Value} {qs:List Int} {tk:Nat} (h:PtAt O g mb mc pb pc bb bc w n N ms ps bs fr mk tt kb kc qv qs tk) (hI:PInv n N ms ps bs fr mk tt) {s:Nat} (hs:s<n) (hm:mk (bs s)≤ps s) :
  Calls Tryz.prog 120 #[.pointer (some ⟨g,0,none⟩),.int .i64 (ps s:Nat),.int .i64 (mk (bs s):Nat)] w fun e w' => e = .returned (.tuple #[]) ∧
   PtAt O g mb mc pb pc bb bc w' n N (upd (upd ms (ps s) (ms (mk (bs s)))) (mk (bs s)) s) (upd (upd ps (ms (mk (bs s))) (ps s)) s (mk (bs s))) bs fr mk tt kb kc qv qs tk∧FrO O w w'∧w'.heap.size=w.heap.size:=by
 obtain ⟨a1,a2,a3⟩ := hI.s1 s hs
 have b1:=hI.b1 _ a1
 obtain ⟨p1,p2⟩ := hI.p1 s hs
 obtain ⟨m1,m2⟩ := hI.m1 (mk (bs s)) (by omega)
 obtain ⟨c0,c1,-⟩ := h.facts
 refine (swap_any g mb 0 pb 0 n mc pc (ps s) (mk (bs s)) s (ms (mk (bs s))) w p1 (by omega) hs m1 (Ne.symm h.ng.1) (Ne.symm h.ng.2.1) h.ne.1 c0 c1 ?_ ?_ ?_ ?_ (fun k => h.rm.frozen k) (fun k => h.rp.frozen k)).mono ?_
 ·rw [Nat.zero_add,h.rm.cell p1,p2]
 ·rw [Nat.zero_add,h.rm.cell (by omega)]
 ·rw [Nat.zero_add]; exact ⟨_,h.rp.cell hs⟩
 ·rw [Nat.zero_add]; exact ⟨_,h.rp.cell m1⟩
 rintro e w' ⟨rfl,q,rfl⟩
 simp only [Nat.zero_add]
 have k0:=h.drewN q
 have k1:=k0.setM (ps s) (ms (mk (bs s)))
 have k2:=k1.setM (mk (bs s)) s
 have k3:=k2.setP (ms (mk (bs s))) (ps s)
 have k4:=k3.setP s (mk (bs s))
 refine ⟨trivial,k4,?_,by simp only [sz_put]; rfl⟩
 obtain ⟨o1,o2,o3,o4,o5⟩ := h.oo
 exact (fro_drewN w q).trans ((((obk_put _ _).fro o2).trans ((obk_put _ _).fro o2)).trans (((obk_put _ _).fro o3).trans ((obk_put _ _).fro o3)))
theorem row_any (cl ac:Value) (b off l c:Nat) (nc q:Nat) (w:World) (hq:(q+1) * nc≤l) (hl:l≤1000000) (hlc:l≤c) (hqn:q≤1024) (hnc:1≤nc∧nc≤256) :
  Calls Tryz.prog 87 #[.agg #[cl,.int .i64 nc,.slice (some ⟨b,off,none⟩) l c,ac],.int .i64 q] w fun e w' => e = .returned (.slice (some ⟨b,off+q * nc,none⟩) nc (c - q * nc))∧Below w.heap.size w w':=by
 have h1:q * nc+nc≤l:=by rw [Nat.add_mul,Nat.one_mul] at hq; exact hq
 obtain ⟨m,hm⟩ : ∃ m,m=q * nc:=⟨_,rfl⟩
 have h2:(q:Int) * (nc:Int)=(m:Int):=by rw [hm]; exact (Int.natCast_mul ..).symm
 have h3:((q:Int)+1) * (nc:Int)=(m:Int)+nc:=by rw [Int.add_mul,h2,Int.one_mul]
 rw [← hm] at h1 ⊢
 have h4:wrap64 ((m:Int)+nc)=(m:Int)+nc:=w64 (by omega) (by omega)
 have h5:wrap64 (m:Int)=m:=w64 (by omega) (by omega)
 have h6:wrap64 ((q:Int)+1)=(q:Int)+1:=w64 (by omega) (by omega)
 have h7:¬ c=m:=by omega
 clear hm hq
 go_enter Tryz.func87,Tryz.ntmps87
 go_wp2_with fail
 rw [show m+nc - m=nc by omega]
 go_ret
 exact ⟨rfl,below1 w _⟩
def srcL (nx:Nat→Nat→Nat) (m s c:Nat):List Nat:=(List.range m).filter (fun p => nx p c=s)
theorem srcL_zero (nx:Nat→Nat→Nat) (s c:Nat):srcL nx 0 s c = []:=rfl
theorem srcL_next (nx:Nat→Nat→Nat) (m s c:Nat):srcL nx (m+1) s c=if nx m c=s then srcL nx m s c ++ [m] else srcL nx m s c:=by
 unfold srcL
 rw [List.range_succ,List.filter_append]
 by_cases h:nx m c=s <;> simp [h]
theorem srcL_mem {nx:Nat→Nat→Nat} {m s c p:Nat}:p ∈ srcL nx m s c↔p<m∧nx p c=s:=by simp [srcL]
theorem srcL_nodup (nx:Nat→Nat→Nat) (m s c:Nat):(srcL nx m s c).Nodup:=List.nodup_range.filter _
theorem srcL_len (nx:Nat→Nat→Nat) (m s c:Nat):(srcL nx m s c).length≤m:=by
 have:=List.length_filter_le (fun p => decide (nx p c=s)) (List.range m)
 rw [List.length_range] at this
 exact this
def srcQ (nx:Nat→Nat→Nat) (k q c i:Nat):List Nat:=srcL nx (if i % k<c then q+1 else q) (i / k) (i % k)
theorem srcQ_start (nx:Nat→Nat→Nat) (k q i:Nat):srcQ nx k q 0 i=srcL nx q (i / k) (i % k):=by simp [srcQ]
theorem srcQ_end (nx:Nat→Nat→Nat) {k:Nat} (hk:0<k) (q i:Nat):srcQ nx k q k i=srcQ nx k (q+1) 0 i:=by
 unfold srcQ
 rw [if_pos (Nat.mod_lt _ hk),if_neg (Nat.not_lt_zero _)]
theorem srcQ_next (nx:Nat→Nat→Nat) {k q c:Nat} (hc:c<k) (i:Nat):srcQ nx k q (c+1) i=if i=nx q c * k+c then srcQ nx k q c i ++ [q] else srcQ nx k q c i:=by
 unfold srcQ
 by_cases h:i % k=c
 ·rw [h,if_pos (Nat.lt_succ_self c),if_neg (Nat.lt_irrefl c),srcL_next]
  by_cases e:i=nx q c * k+c
  ·have:i / k=nx q c:=by rw [e,Nat.add_comm,Nat.add_mul_div_right _ _ (by omega),Nat.div_eq_of_lt hc,Nat.zero_add]
   rw [if_pos e,if_pos this.symm]
  ·have:¬ nx q c=i / k:=fun e2 => e (by rw [e2,← h,Nat.mul_comm]; exact (Nat.div_add_mod i k).symm)
   rw [if_neg e,if_neg this]
 ·have e:¬ i=nx q c * k+c:=fun e => h (by rw [e,Nat.add_comm,Nat.add_mul_mod_self_right,Nat.mod_eq_of_lt hc])
  rw [if_neg e]
  by_cases h2:i % k<c
  ·rw [if_pos h2,if_pos (by omega)]
  ·rw [if_neg h2,if_neg (by omega)]
theorem srcQ_len (nx:Nat→Nat→Nat) (k q c i:Nat):(srcQ nx k q c i).length≤q+1:=by
 unfold srcQ
 split
 ·exact srcL_len _ _ _ _
 ·exact Nat.le_succ_of_le (srcL_len _ _ _ _)
structure SrcAt (lo B L:Nat) (w:World) (vs:Nat→Value) (ls:Nat→List Nat):Prop where
 row:w.rowIs B 26 L vs
 lt:B<lo
 own:∀ i,i<L→w.ownsRow lo 3 1 (vs i) (ls i).length ((ls i).map (fun x:Nat => mI (x:Int)))
 ap:∀ i j,i<L→j<L→i ≠ j→∀ q,(vs i).ownBlock=some q→(vs j).ownBlock ≠ some q
theorem SrcAt.keep {lo B L:Nat} {w w':World} {vs:Nat→Value} {ls:Nat→List Nat} (h:SrcAt lo B L w vs ls) (hk:∀ k,k=B∨(lo≤k∧k<w.heap.size)→w'.heap[k]? = w.heap[k]?):SrcAt lo B L w' vs ls :=
 ⟨h.row.of_block (hk B (.inl rfl)),h.lt,fun i hi => own_blk (h.own i hi) (fun q hq => hk q (.inr ((h.own i hi).lt q hq))),h.ap⟩
theorem SrcAt.congr {lo B L:Nat} {w:World} {vs:Nat→Value} {ls ls':Nat→List Nat} (h:SrcAt lo B L w vs ls) (e:∀ i,i<L→ls i=ls' i):SrcAt lo B L w vs ls' :=
 ⟨h.row,h.lt,fun i hi => by rw [← e i hi]; exact h.own i hi,h.ap⟩
theorem SrcAt.push {lo B L:Nat} {w w2:World} {vs:Nat→Value} {ls:Nat→List Nat} {i x:Nat} {v':Value} {o:Obj} (h:SrcAt lo B L w vs ls) (hi:i<L)
  (r1:w2.ownsRow lo 3 1 v' ((ls i).length+1) ((ls i).map (fun x:Nat => mI (x:Int)) ++ [.int .i64 (x:Nat)])) (r2:(w.alloc o).grownBy w2 (vs i).ownBlock) (r3:v'.ownBlock=(vs i).ownBlock∨v'.ownBlock=some (w.heap.size+1)) :
  w2.cell? ⟨B,i,none⟩ = some (vs i)∧w2.frozen? ⟨B,i,none⟩ = false∧SrcAt lo B L (w2.setCell ⟨B,i,none⟩ v') (fun j => if j=i then v' else vs j) (fun j => if j=i then ls j ++ [x] else ls j)∧Below B w (w2.setCell ⟨B,i,none⟩ v'):=by
 have hB:=h.row.lt
 have hl:=h.lt
 have hz2:=r2.size
 rw [sz_alloc] at hz2
 have k2:∀ k,k<w.heap.size→(vs i).ownBlock ≠ some k→w2.heap[k]? = w.heap[k]? := fun k hk hne => (r2.block k (by rw [sz_alloc]; omega) (fun e => hne e.symm)).trans ((below1 w o).block k hk)
 have nB:(vs i).ownBlock ≠ some B:=fun e => by have:=((h.own i hi).lt B e).1; omega
 have hF:=h.row.of_block (k2 B hB nB)
 have ks:∀ k,k ≠ B→(w2.setCell ⟨B,i,none⟩ v').heap[k]? = w2.heap[k]? := fun k hk => Below.heap_setCell _ _ _ _ (by show k ≠ B; exact hk)
 refine ⟨hF.cell hi,hF.frozen i,⟨hF.set i v',hl,fun j hj => ?_,fun a b ha hb hab q hq hq2 => ?_⟩,⟨r2.os,r2.tape,r2.output,by rw [sz_put]; omega,fun k hk => ?_⟩⟩
 ·by_cases e:j=i
  ·subst e
   simp only [if_true]
   rw [List.length_append,List.map_append]
   exact own_blk r1 (fun q hq => ks q (by have:=(r1.lt q hq).1; omega))
  ·simp only [e,if_false]
   refine own_blk (h.own j hj) (fun q hq => ?_)
   have:=(h.own j hj).lt q hq
   rw [ks q (by omega)]
   exact k2 q this.2 (fun e2 => h.ap i j hi hj (fun e3 => e e3.symm) q e2 hq)
 ·have old:∀ j,j<L→∀ q,(vs j).ownBlock=some q→q<w.heap.size:=fun j hj q hq => ((h.own j hj).lt q hq).2
  by_cases e1:a=i
  ·subst e1
   have e2:¬ b=a:=fun e => hab e.symm
   simp only [if_true,e2,if_false] at hq hq2
   rcases r3 with e | e
   ·rw [e] at hq; exact h.ap a b ha hb hab q hq hq2
   ·rw [e] at hq; cases hq; have:=old b hb _ hq2; omega
  ·simp only [e1,if_false] at hq
   by_cases e2:b=i
   ·subst e2
    simp only [if_true] at hq2
    rcases r3 with e | e
    ·rw [e] at hq2; exact h.ap a b ha hb hab q hq hq2
    ·rw [e] at hq2; cases hq2; have:=old a ha _ hq; omega
   ·simp only [e2,if_false] at hq2
    exact h.ap a b ha hb hab q hq hq2
 ·rw [ks k (by omega)]
  exact k2 k (by omega) (fun e => by have:=((h.own i hi).lt k e).1; omega)
theorem Tryz.zinISl:(Tryz.prog.info? 26).map (fun i => (i.zero,i.size,i.bytes))=some (some (.slice none 0 0),1,24):=by kernel_rfl
def mN (x:Nat):Value:=mI (x:Int)
def NxAt (w:World) (b off n k:Nat) (nx:Nat→Nat→Nat):Prop:=∀ q c,q<n→c<k→nx q c<n∧w.cell? ⟨b,off+(q * k+c),none⟩ = some (.int .i64 (nx q c:Nat))
theorem idx_lt {q c n k:Nat} (hq:q<n) (hc:c<k):q * k+c<n * k:=by
 have:(q+1) * k≤n * k:=Nat.mul_le_mul_right _ hq
 rw [Nat.add_mul,Nat.one_mul] at this
 omega
theorem at_facts {x k c L:Nat} (hL:L≤262144) (hat:x * k+c<L):∃ m t:Nat,((x:Nat):Int) * (k:Int)=(m:Int)∧t=x * k+c∧t<L∧wrap64 (m:Int)=m∧wrap64 ((m:Int)+(c:Nat))=(t:Int)∧(t:Int)<(L:Int):=by
 refine ⟨x * k,x * k+c,(Int.natCast_mul ..).symm,rfl,hat,?_,?_,?_⟩
 ·exact w64 (by omega) (by omega)
 ·rw [w64 (by omega) (by omega)]; omega
 ·omega
set_option maxHeartbeats 4000000 in
set_option maxRecDepth 100000 in
theorem sourcesOf_any (cl:Value) (aa:Option Addr) (b off cN ca n k:Nat) (nx:Nat→Nat→Nat) (w:World) (hn:1≤n∧n≤1024) (hk:1≤k∧k≤256) (hcN:n * k≤cN) (hb:b<w.heap.size) (hx:NxAt w b off n k nx) :
  Calls Tryz.prog 112 #[.agg #[cl,.int .i64 (k:Nat),.slice (some ⟨b,off,none⟩) (n * k) cN,.slice aa n ca]] w fun e w' => ∃ B,e = .returned (.slice (some ⟨B,0,none⟩) (n * k) (n * k))∧Below w.heap.size w w'∧w.heap.size≤B ∧
   ∃ lo vs,SrcAt lo B (n * k) w' vs (fun i => srcL nx n (i / k) (i % k)):=by
 obtain ⟨i0,hi0,hz0,hz1,hz2⟩ := info_parts Tryz.zinInt
 have hLn:n * k≤1024 * 256:=Nat.mul_le_mul hn.2 hk.2
 obtain ⟨L,hL⟩ : ∃ L,L=n * k:=⟨_,rfl⟩
 have hmk:=run_make_row' (P:=Tryz.prog) 68 26 (.slice none 0 0) 24 Tryz.underlying68 Tryz.zinISl rfl .i64 .i64 L (by omega) (by omega)
 rw [← hL] at hcN hLn ⊢
 have HL:=hide hL
 have HX:=hide hx
 obtain ⟨W1,hW1⟩ : ∃ W1,W1=w.alloc (.cells #[cl,.int .i64 (k:Nat),.slice (some ⟨b,off,none⟩) L cN,.slice aa n ca] 29):=⟨_,rfl⟩
 have hR1:Row4 W1 w.heap.size 29 cl (.int .i64 (k:Nat)) (.slice (some ⟨b,off,none⟩) L cN) (.slice aa n ca):=by rw [hW1]; exact Row4.new w _ _ _ _ _
 have hz1':W1.heap.size=w.heap.size+1:=by rw [hW1,sz_alloc]
 have hB1:Below w.heap.size w W1:=by rw [hW1]; exact below1 w _
 obtain ⟨W2,hW2⟩ : ∃ W2,W2=W1.alloc (.cells (madeCells #[.slice none 0 0] L) 26):=⟨_,rfl⟩
 have hR2:Row4 W2 w.heap.size 29 cl (.int .i64 (k:Nat)) (.slice (some ⟨b,off,none⟩) L cN) (.slice aa n ca):=by rw [hW2]; exact hR1.alloc _
 have hS2:SrcAt (w.heap.size+2) (w.heap.size+1) L W2 (fun _ => .slice none 0 0) (fun i => srcQ nx k 0 0 i):=by
  refine ⟨?_,by omega,fun i hi => ?_,fun i j _ _ _ q hq => by cases hq⟩
  ·rw [hW2,← hz1']; exact World.rowIs_made W1 _ L _
  ·rw [srcQ_start,srcL_zero]; exact World.ownsRow_nil _ _ _ _
 have hB2:Below w.heap.size w W2:=by rw [hW2]; exact hB1.trans ((below1 W1 _).mono (by omega))
 have hz2':W2.heap.size=w.heap.size+2:=by rw [hW2,sz_alloc,hz1']
 obtain ⟨e0,e1,e2,e3,-⟩ := hR1.facts
 obtain ⟨f0,f1,f2,f3,-⟩ := hR2.facts
 have HW1:=hide hW1
 have HW2:=hide hW2
 have HR2:=hide hR2
 have HS2:=hide hS2
 have HB2:=hide hB2
 clear hL hx hW1 hW2 hR1 hR2 hS2 hB1 hB2
 go_enter Tryz.func112,Tryz.ntmps112
 go_wp2_with fail
 rw [← unhide HW1,← unhide HW2]
 clear HW1 HW2 e0 e1 e2 e3 f0 f1 f2 f3 hmk
 go_loopw [15] (fun iv wr => ∃ (q:Nat) (vs:Nat→Value),q≤n∧iv = .int .i64 (q:Nat)∧SrcAt (w.heap.size+2) (w.heap.size+1) L wr vs (fun i => srcQ nx k q 0 i)∧Row4 wr w.heap.size 29 cl (.int .i64 (k:Nat)) (.slice (some ⟨b,off,none⟩) L cN) (.slice aa n ca)∧Below w.heap.size w wr) (fun iv _ => n - (intOf iv).toNat)
 case atStart => exact ⟨0,_,by omega,rfl,unhide HS2,unhide HR2,unhide HB2⟩
 case round =>
  obtain ⟨q,vs,hq,rfl,hS,hR,hB⟩ := hrel
  obtain ⟨w1,rfl⟩ : ∃ w1,w1=wr:=⟨_,rfl⟩
  clear HS2 HR2 HB2
  by_cases hlt:q<n
  ·have hlt':(q:Int)<(n:Int):=by omega
   obtain ⟨f0,f1,f2,f3,-⟩ := hR.facts
   have hqL:(q+1) * k≤L:=by rw [unhide HL]; exact Nat.mul_le_mul_right _ hlt
   have hrw:=row_any cl (.slice aa n ca) b off L cN k q w1 hqL (by omega) hcN (by omega) hk
   obtain ⟨rq,hrq⟩ : ∃ rq,rq=q * k:=⟨_,rfl⟩
   rw [← hrq] at hrw
   have HRW:=hide hrw
   have HRQ:=hide hrq
   clear hrw hrq
   have HS:=hide hS
   have HR:=hide hR
   have HB:=hide hB
   have hzz:=hS.row.lt
   clear hS hR hB
   clear hqL
   go_wp2_with fail
   refine (unhide HRW).mono ?_
   rintro e w2 ⟨rfl,hb2⟩
   have hS2:=(unhide HS).keep (w':=w2) (fun k hk => hb2.block k (by omega))
   have hR2:=(unhide HR).below hb2 (by omega)
   have hB2:Below w.heap.size w w2:=(unhide HB).trans (hb2.mono (unhide HB).size)
   have HS2:=hide hS2
   have HR2:=hide hR2
   have HB2:=hide hB2
   clear HRW HS HR HB hb2 hS2 hR2 hB2 f0 f1 f2 f3
   go_wp2_with fail
   go_loopw [22] (fun iv wx => ∃ (c:Nat) (vs:Nat→Value),c≤k∧iv = .int .i64 (c:Nat)∧SrcAt (w.heap.size+2) (w.heap.size+1) L wx vs (fun i => srcQ nx k q c i)∧Row4 wx w.heap.size 29 cl (.int .i64 (k:Nat)) (.slice (some ⟨b,off,none⟩) L cN) (.slice aa n ca)∧Below w.heap.size w wx) (fun iv _ => k - (intOf iv).toNat)
   case atStart => exact ⟨0,_,by omega,rfl,unhide HS2,unhide HR2,unhide HB2⟩
   case round =>
    obtain ⟨c,vs,hc,rfl,hS,hR,hB⟩ := hrel
    clear HS2 HR2 HB2
    by_cases hcl:c<k
    ·have hcl':(c:Int)<(k:Int):=by omega
     obtain ⟨x1,x2⟩ := unhide HX q c hlt hcl
     have x3:wr.cell? ⟨b,off+rq+c,none⟩ = some (.int .i64 (nx q c:Nat)):=by rw [unhide HRQ,Nat.add_assoc,hB.cell (p:=⟨b,off+(q * k+c),none⟩) hb]; exact x2
     obtain ⟨f0,f1,f2,f3,-⟩ := hR.facts
     have hat:nx q c * k+c<L:=by rw [unhide HL]; exact idx_lt x1 hcl
     obtain ⟨m,t,m1,ht,hat,m2,m3,m4⟩ := at_facts (by omega) hat
     have HT:=hide ht
     obtain ⟨y,hy⟩ : ∃ y,y=nx q c:=⟨_,rfl⟩
     rw [← hy] at m1 x1 x3
     have m1':=m1
     rw [Int.mul_comm] at m1'
     have HY:=hide hy
     clear ht hy
     have y0:=hS.row.cell (i:=t) hat
     have hown:=hS.own t hat
     have HS:=hide hS
     have HR:=hide hR
     have HB:=hide hB
     have hlen:=srcQ_len nx k q c t
     have hzz:=hS.row.lt
     obtain ⟨oa,oc,e9⟩ := own_is (hS.own t hat)
     rw [e9] at y0 hown
     have HE9:=hide e9
     obtain ⟨sl,hsl⟩ : ∃ sl,sl=srcQ nx k q c t:=⟨_,rfl⟩
     rw [← hsl] at y0 hown hlen
     have HSL:=hide hsl
     have HOW:=hide hown
     clear hS hR hB x2 f0 f2 f3 e9 hown hsl
     go_wp2_with (at_builtin; refine wpList_append_own_at _ rfl _ _ 26 rfl (w.heap.size+2) 3 i0 (.int .i64 0) 1 8 Tryz.underlying26 hi0 hz0 hz1 hz2 rfl (by decide) _ _ _ rfl ((unhide HOW).alloc _) ⟨wr.heap.size,0,none⟩ 1 1 [.int .i64 (q:Nat)] rfl rfl ?_ ?_ ?_ ?_ ?_ ?_)
     ·exact cell_1 (cell_new _ _ _)
     ·intro u hu; simp at hu; subst hu; rfl
     ·unfold maxLen; omega
     ·omega
     ·rw [sz_alloc]; omega
     intro v' w3 r1 r2 _ r3
     have h3:=(unhide HS).push (i:=t) (x:=q) hat (by rw [← unhide HSL]; exact r1) (by rw [unhide HE9,← unhide HSL]; exact r2) (by rw [unhide HE9,← unhide HSL]; exact r3)
     obtain ⟨z1,z2,z3,z4⟩ := h3
     obtain ⟨va,vc,rfl⟩ := own_is r1
     have HS3:=hide z3
     have HB3:=hide z4
     rw [unhide HE9,← unhide HSL] at z1
     clear r1 r2 r3 z3 z4 HOW y0 x3
     go_wp2
     go_roundw
     case rel =>
      refine ⟨c+1,_,by omega,by go_num,(unhide HS3).congr (fun i hi => ?_),(unhide HR).below (unhide HB3) (by omega),(unhide HB).trans ((unhide HB3).mono (by omega))⟩
      rw [srcQ_next nx hcl i,← unhide HT]
     case measure => simp [intOf]; omega
    ·have hcl':¬ (c:Int)<(k:Int):=by omega
     obtain rfl:c=k:=by omega
     have HS:=hide hS
     have HR:=hide hR
     have HB:=hide hB
     clear hS hR hB
     go_wp2
     go_roundw
     case rel => exact ⟨q+1,_,by omega,by go_num,(unhide HS).congr (fun i _ => srcQ_end nx (by omega) q i),unhide HR,unhide HB⟩
     case measure => simp [intOf]; omega
  ·have hlt':¬ (q:Int)<(n:Int):=by omega
   obtain rfl:q=n:=by omega
   have HS:=hide hS
   have HB:=hide hB
   clear hS hB
   go_wp2
   go_ret
   exact ⟨_,rfl,unhide HB,by omega,_,_,(unhide HS).congr (fun i _ => srcQ_start nx k q i)⟩
structure RcL (A:Tb) (l:List Nat) (i c:Nat):Prop where
 nd:l.Nodup
 lt:∀ x ∈ l,x<A.n
 z:0 ∈ l
 rc:∀ x ∈ l,A.Rch x
 cl:∀ j x,j<i→l[j]? = some x→∀ c',c'<A.k→A.nx x c' ∈ l
 cc:∀ x,l[i]? = some x→∀ c',c'<c→A.nx x c' ∈ l
theorem RcL.start {A:Tb} (hw:A.Wf):RcL A [0] 0 0:=⟨by simp,(fun x hx => by rw [List.mem_singleton] at hx; rw [hx]; exact hw.pos),.head _,(fun x hx => by rw [List.mem_singleton] at hx; rw [hx]; exact Tb.Rch.zero A),fun j x hj => by omega,fun x _ c' hc => by omega⟩
theorem RcL.old {A:Tb} {l:List Nat} {i c x:Nat} (h:RcL A l i c) (hx:l[i]? = some x) (hm:A.nx x c ∈ l):RcL A l i (c+1):=⟨h.nd,h.lt,h.z,h.rc,h.cl,fun y hy c' hc => by
 rw [hx] at hy
 cases hy
 by_cases e:c'=c
 ·rw [e]; exact hm
 ·exact h.cc x hx c' (by omega)⟩
theorem RcL.new {A:Tb} {l:List Nat} {i c x:Nat} (h:RcL A l i c) (hw:A.Wf) (hf:A.Full) (hc:c<A.k) (hx:l[i]? = some x) (hm:A.nx x c ∉ l):RcL A (l ++ [A.nx x c]) i (c+1):=by
 have hil:=(List.getElem?_eq_some_iff.1 hx).1
 have hxl:=List.mem_of_getElem? hx
 refine ⟨?_,fun y hy => ?_,List.mem_append_left _ h.z,fun y hy => ?_,fun j y hj hy c' hc' => ?_,fun y hy c' hc' => ?_⟩
 ·rw [List.nodup_append]
  exact ⟨h.nd,by simp,fun a ha b hb e => by rw [List.mem_singleton] at hb; rw [← hb,← e] at hm; exact hm ha⟩
 ·rcases List.mem_append.1 hy with k | k
  ·exact h.lt y k
  ·rw [List.mem_singleton] at k; rw [k]; exact hw.nxt x c (h.lt x hxl) hc
 ·rcases List.mem_append.1 hy with k | k
  ·exact h.rc y k
  ·rw [List.mem_singleton] at k; rw [k]; exact (h.rc x hxl).nx hf hc
 ·rw [List.getElem?_append_left (by omega)] at hy
  exact List.mem_append_left _ (h.cl j y hj hy c' hc')
 ·rw [List.getElem?_append_left hil,hx] at hy
  cases hy
  by_cases e:c'=c
  ·rw [e]; exact List.mem_append_right _ (.head _)
  ·exact List.mem_append_left _ (h.cc x hx c' (by omega))
theorem RcL.next {A:Tb} {l:List Nat} {i:Nat} (h:RcL A l i A.k):RcL A l (i+1) 0:=⟨h.nd,h.lt,h.z,h.rc,fun j x hj hx c' hc => by
 by_cases e:j=i
 ·subst e; exact h.cc x hx c' hc
 ·exact h.cl j x (by omega) hx c' hc,fun x _ c' hc => by omega⟩
theorem RcL.fin {A:Tb} {l:List Nat} (h:RcL A l l.length 0) (hw:A.Wf) (q:Nat):q ∈ l↔A.Rch q:=by
 refine ⟨h.rc q,?_⟩
 rintro ⟨w,hwd,rfl⟩
 have key:∀ (w:List Nat) (p:Nat),p ∈ l→Wd w→A.run p w ∈ l:=by
  intro w
  induction w with
  | nil => intro p hp _; exact hp
  | cons b w ih =>
   intro p hp hwd
   obtain ⟨j,hj⟩ := List.getElem?_of_mem hp
   exact ih _ (h.cl j p (List.getElem?_eq_some_iff.1 hj).1 hj _ (hw.cls b (hwd b (.head _)))) fun x hx => hwd x (.tail _ hx)
 exact key w 0 h.z hwd
end Go.Proofs.YtlidckepahpaeaaGreatDoor
