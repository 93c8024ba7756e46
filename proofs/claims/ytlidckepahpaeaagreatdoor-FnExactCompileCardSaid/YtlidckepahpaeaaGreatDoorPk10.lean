import Derived.Test.YtlidckepahpaeaaGreatDoorPk5
import Derived.Test.YtlidckepahpaeaaGreatDoorPk9
import Derived.Test.YtlidckepahpaeaaGreatDoorPk7
namespace Go.Proofs.YtlidckepahpaeaaGreatDoor
open Go.RowKit
def NuS (l:List El) (b:Bool):Prop:=∀ (v:Value) (w:World),ElsAt 0 w.heap.size w v l→l.length≤3000→Calls Tryz.prog 63 #[v] w fun e w' => e = .returned (.bool b)∧Below w.heap.size w w'
set_option maxHeartbeats 4000000 in
set_option maxRecDepth 100000 in
theorem nu_e:NuS [⟨0,[],0,0⟩] true:=by
 intro v w hv hlen
 obtain ⟨a,cp,rfl,-,-⟩ := id hv
 obtain ⟨hlen2,hcap,b,off,rfl,hbn,hel⟩ := ElsAt.last (p := []) hv
 simp only [List.length_singleton,List.length_nil,Nat.zero_mul,Nat.add_zero] at hel hv ⊢
 obtain ⟨i1,i2,i3,sv,c0,c1,c2,c3,hints⟩ := hel
 obtain ⟨sa,sc,rfl,-,-,-⟩ := id hints
 clear hv hints i1 i2 i3
 go_enter Tryz.func63,Tryz.ntmps63
 go_wp2
 go_ret
 exact ⟨rfl,below1 w _⟩
set_option maxHeartbeats 4000000 in
set_option maxRecDepth 100000 in
theorem nu_s (xs:List Int):NuS [⟨1,xs,0,0⟩] false:=by
 intro v w hv hlen
 obtain ⟨a,cp,rfl,-,-⟩ := id hv
 obtain ⟨hlen2,hcap,b,off,rfl,hbn,hel⟩ := ElsAt.last (p := []) hv
 simp only [List.length_singleton,List.length_nil,Nat.zero_mul,Nat.add_zero] at hel hv ⊢
 obtain ⟨i1,i2,i3,sv,c0,c1,c2,c3,hints⟩ := hel
 obtain ⟨sa,sc,rfl,-,-,-⟩ := id hints
 clear hv hints i1 i2 i3
 go_enter Tryz.func63,Tryz.ntmps63
 go_wp2
 go_ret
 exact ⟨rfl,below1 w _⟩
set_option maxHeartbeats 4000000 in
set_option maxRecDepth 100000 in
theorem nu_rep (l:List El) (b0:Bool) (mn mx:Int) (hl:NuS l b0) (hne:0<l.length):NuS (l ++ [⟨4,[],mn,mx⟩]) (b0 || decide (mn=0)):=by
 intro v w hv hlen
 have hv0:=hv
 obtain ⟨a,cp,rfl,-,-⟩ := id hv
 obtain ⟨hlen2,hcap,b,off,rfl,hbn,hel⟩ := hv.last
 rw [hlen2] at hv hv0 hcap ⊢
 simp only [List.length_append,List.length_singleton] at hlen hlen2
 unfold maxLen at hcap
 obtain ⟨i1,i2,i3,sv,c0,c1,c2,c3,hints⟩ := hel
 obtain ⟨sa,sc,rfl,-,-,-⟩ := id hints
 simp only at c0 c2 c3
 clear hlen2 i1 i2 i3 hints
 have hvL:ElsAt 0 w.heap.size w (.slice (some ⟨b,off,none⟩) l.length cp) l:=hv0.pre
 have HvL:=hide hvL
 have e1:(((l.length+1:Nat):Int) - 1)=((l.length:Nat):Int):=by omega
 have hB0:=below1 w (.cells #[.int .i64 4,.slice sa 0 sc,.int .i64 mn,.int .i64 mx] 79)
 have HH:=hide hl
 clear hvL hv hv0 hl
 by_cases h0:mn=0
 ·have HE:Hid ((b0 || decide (mn=0))=true):=by show (b0 || decide (mn=0))=true; simp [h0]
  rw [unhide HE]
  clear HE
  subst h0
  go_enter Tryz.func63,Tryz.ntmps63
  go_wp2
  go_ret
  exact ⟨rfl,hB0⟩
 ·have HE:Hid ((b0 || decide (mn=0))=b0):=by show (b0 || decide (mn=0))=b0; simp [h0]
  rw [unhide HE]
  clear HE
  go_enter Tryz.func63,Tryz.ntmps63
  go_wp2_with fail
  refine (unhide HH _ _ ((unhide HvL).below hB0 (Nat.le_refl _)) (by omega)).mono ?_
  rintro e w1 ⟨rfl,hb1⟩
  have hB1:=hB0.trans (hb1.mono (by rw [sz_alloc]; omega))
  clear hb1
  go_wp2
  go_ret
  exact ⟨rfl,hB1⟩
set_option maxHeartbeats 8000000 in
set_option maxRecDepth 100000 in
theorem nu_cat (l r:List El) (b1 b2:Bool) (cr:Int) (sr:SegM r cr) (hl:NuS l b1) (hr:NuS r b2):NuS (l ++ r ++ [⟨2,[],0,0⟩]) (b1 && b2):=by
 intro v w hv hlen
 have hv0:=hv
 obtain ⟨a,cp,rfl,-,-⟩ := id hv
 obtain ⟨hlen2,hcap,b,off,rfl,hbn,hel⟩ := hv.last
 rw [hlen2] at hv hv0 hcap ⊢
 simp only [List.length_append,List.length_singleton] at hv hv0 hlen hlen2 hel hcap ⊢
 unfold maxLen at hcap
 obtain ⟨i1,i2,i3,sv,c0,c1,c2,c3,hints⟩ := hel
 obtain ⟨sa,sc,rfl,-,-,-⟩ := id hints
 simp only at c0 c2 c3
 clear hlen2 i1 i2 i3 hints
 have e1:(((l.length+r.length+1:Nat):Int) - 1)=((l.length+r.length:Nat):Int):=by omega
 have hvL:ElsAt 0 w.heap.size w (.slice (some ⟨b,off,none⟩) l.length cp) (l):=by rw [List.append_assoc] at hv0; exact hv0.pre
 have hvR:=hv0.mid (cap':=cp - l.length) (by unfold maxLen; omega)
 have f5:l.length+r.length - l.length=r.length:=by omega
 have HvL:=hide hvL
 have HvR:=hide hvR
 have Hv0:=hide hv0
 have HHl:=hide hl
 have HHr:=hide hr
 have hB0:=below1 w (.cells #[.int .i64 2,.slice sa 0 sc,.int .i64 0,.int .i64 0] 79)
 have HRow:Hid (∀ W,Below (w.heap.size+1) (w.alloc (.cells #[.int .i64 2,.slice sa 0 sc,.int .i64 0,.int .i64 0] 79)) W→W.cell? ⟨w.heap.size,0,none⟩ = some (.int .i64 2)):=fun W hW => (hW.cell (p:=⟨w.heap.size,0,none⟩) (Nat.lt_succ_self _)).trans ((pushd_alloc w _).news 0 _ rfl)
 clear hvL hvR hv hv0 hl hr
 go_enter Tryz.func63,Tryz.ntmps63
 go_wp2_with fail
 refine (l1start_bin _ l r cr _ _ _ sr (by exact (unhide Hv0).below (below1 w _) (Nat.le_refl _)) (by omega) rfl).mono ?_
 rintro e w1 ⟨rfl,rfl⟩
 go_wp2_with fail
 have hz0:(w.alloc (.cells #[.int .i64 2,.slice sa 0 sc,.int .i64 0,.int .i64 0] 79)).heap.size=w.heap.size+1:=sz_alloc _ _
 generalize w.alloc (.cells #[.int .i64 2,.slice sa 0 sc,.int .i64 0,.int .i64 0] 79)=W0 at *
 have hz0':w.heap.size+1≤W0.heap.size:=by omega
 clear hz0 c0 c1 c2 c3
 refine (unhide HHr _ _ ((unhide HvR).below hB0 (Nat.le_refl _)) (by omega)).mono ?_
 rintro e w1 ⟨rfl,hb1⟩
 have hB1:Below w.heap.size w w1:=hB0.trans (hb1.mono (by omega))
 have k0:=unhide HRow w1 (hb1.mono (by omega))
 clear hb1
 cases b2 with
 | false =>
  go_wp2
  go_ret
  exact ⟨by simp,hB1⟩
 | true =>
  go_wp2_with fail
  refine (unhide HHl _ _ ((unhide HvL).below hB1 (Nat.le_refl _)) (by omega)).mono ?_
  rintro e w2 ⟨rfl,hb2⟩
  have hB2:=hB1.trans (hb2.mono hB1.size)
  clear hb2
  go_wp2
  go_ret
  exact ⟨by simp,hB2⟩
set_option maxHeartbeats 8000000 in
set_option maxRecDepth 100000 in
theorem nu_alt (l r:List El) (b1 b2:Bool) (cr:Int) (sr:SegM r cr) (hl:NuS l b1) (hr:NuS r b2):NuS (l ++ r ++ [⟨3,[],0,0⟩]) (b1 || b2):=by
 intro v w hv hlen
 have hv0:=hv
 obtain ⟨a,cp,rfl,-,-⟩ := id hv
 obtain ⟨hlen2,hcap,b,off,rfl,hbn,hel⟩ := hv.last
 rw [hlen2] at hv hv0 hcap ⊢
 simp only [List.length_append,List.length_singleton] at hv hv0 hlen hlen2 hel hcap ⊢
 unfold maxLen at hcap
 obtain ⟨i1,i2,i3,sv,c0,c1,c2,c3,hints⟩ := hel
 obtain ⟨sa,sc,rfl,-,-,-⟩ := id hints
 simp only at c0 c2 c3
 clear hlen2 i1 i2 i3 hints
 have e1:(((l.length+r.length+1:Nat):Int) - 1)=((l.length+r.length:Nat):Int):=by omega
 have hvL:ElsAt 0 w.heap.size w (.slice (some ⟨b,off,none⟩) l.length cp) (l):=by rw [List.append_assoc] at hv0; exact hv0.pre
 have hvR:=hv0.mid (cap':=cp - l.length) (by unfold maxLen; omega)
 have f5:l.length+r.length - l.length=r.length:=by omega
 have HvL:=hide hvL
 have HvR:=hide hvR
 have Hv0:=hide hv0
 have HHl:=hide hl
 have HHr:=hide hr
 have hB0:=below1 w (.cells #[.int .i64 3,.slice sa 0 sc,.int .i64 0,.int .i64 0] 79)
 have HRow:Hid (∀ W,Below (w.heap.size+1) (w.alloc (.cells #[.int .i64 3,.slice sa 0 sc,.int .i64 0,.int .i64 0] 79)) W→W.cell? ⟨w.heap.size,0,none⟩ = some (.int .i64 3)):=fun W hW => (hW.cell (p:=⟨w.heap.size,0,none⟩) (Nat.lt_succ_self _)).trans ((pushd_alloc w _).news 0 _ rfl)
 clear hvL hvR hv hv0 hl hr
 go_enter Tryz.func63,Tryz.ntmps63
 go_wp2_with fail
 refine (l1start_bin _ l r cr _ _ _ sr (by exact (unhide Hv0).below (below1 w _) (Nat.le_refl _)) (by omega) rfl).mono ?_
 rintro e w1 ⟨rfl,rfl⟩
 go_wp2_with fail
 have hz0:(w.alloc (.cells #[.int .i64 3,.slice sa 0 sc,.int .i64 0,.int .i64 0] 79)).heap.size=w.heap.size+1:=sz_alloc _ _
 generalize w.alloc (.cells #[.int .i64 3,.slice sa 0 sc,.int .i64 0,.int .i64 0] 79)=W0 at *
 have hz0':w.heap.size+1≤W0.heap.size:=by omega
 clear hz0 c0 c1 c2 c3
 refine (unhide HHr _ _ ((unhide HvR).below hB0 (Nat.le_refl _)) (by omega)).mono ?_
 rintro e w1 ⟨rfl,hb1⟩
 have hB1:Below w.heap.size w w1:=hB0.trans (hb1.mono (by omega))
 have k0:=unhide HRow w1 (hb1.mono (by omega))
 clear hb1
 cases b2 with
 | true =>
  go_wp2
  go_ret
  exact ⟨by simp,hB1⟩
 | false =>
  go_wp2_with fail
  refine (unhide HHl _ _ ((unhide HvL).below hB1 (Nat.le_refl _)) (by omega)).mono ?_
  rintro e w2 ⟨rfl,hb2⟩
  have hB2:=hB1.trans (hb2.mono hB1.size)
  clear hb2
  go_wp2
  go_ret
  exact ⟨by simp,hB2⟩
def lvs:List El→Nat
 | [] => 0
 | x :: r => (if x.kind=1 then 1 else 0)+lvs r
theorem lvs_app (a b:List El):lvs (a ++ b)=lvs a+lvs b:=by
 induction a with
 | nil => simp [lvs]
 | cons x r ih => simp only [List.cons_append,lvs,ih]; omega
theorem lvs_le (a:List El):lvs a≤a.length:=by
 induction a with
 | nil => simp [lvs]
 | cons x r ih => simp only [lvs,List.length_cons]; split <;> omega
theorem oPush_c (s:Ms) (x:El):(oPush s x).c=s.c+(if x.kind=1 then 1 else 0):=by
 unfold oPush
 split
 ·rw [if_neg (by omega)]; rfl
 ·split
  ·rfl
  ·split <;> (try split) <;> (try split) <;> simp
theorem oRun_c (L:List El):∀ s:Ms,(oRun s L).c=s.c+lvs L:=by
 induction L with
 | nil => intro s; simp [oRun,lvs]
 | cons x r ih => intro s; simp only [oRun,lvs,ih,oPush_c]; omega
set_option maxHeartbeats 1000000 in
set_option maxRecDepth 100000 in
theorem l2leaves_any (v:Value) (L:List El) (w:World) (hv:ElsAt 0 w.heap.size w v L) (hlen:L.length≤3000) :
  Calls Tryz.prog 102 #[v] w fun e w' => e = .returned (.int .i64 (lvs L:Nat))∧w'=w:=by
 obtain ⟨a,cp,rfl,hcap,hc⟩ := hv
 go_enter Tryz.func102,Tryz.ntmps102
 go_wp2_with fail
 go_loop [3,4] (fun nv iv => ∃ k:Nat,k≤L.length∧iv = .int .i64 k∧nv = .int .i64 (lvs (L.take k):Nat)) (fun _ iv => L.length - (intOf iv).toNat)
 case atStart => exact ⟨0,Nat.zero_le _,rfl,rfl⟩
 case round =>
  obtain ⟨k,hk,rfl,rfl⟩ := hrel
  have hl1:=lvs_le (L.take k)
  have hl2:(L.take k).length≤3000:=by rw [List.length_take]; omega
  by_cases hlt:k<L.length
  ·have hlt':(k:Int)<(L.length:Int):=by omega
   obtain ⟨b,off,rfl,-,hbn,hcell⟩ := hc (by omega)
   obtain ⟨-,-,-,sv,c0,-⟩ := hcell k hlt
   have HS:Hid (lvs (L.take (k+1))=lvs (L.take k)+(if (L[k]?.getD dE).kind=1 then 1 else 0)):=by
    show lvs (L.take (k+1))=_
    rw [List.take_add_one,List.getElem?_eq_getElem hlt,lvs_app]
    simp [lvs]
   clear hc hcell
   generalize (L[k]?.getD dE).kind=kd at *
   generalize lvs (L.take k)=n at *
   have g3:IntKind.i64.wrap ((n:Int)+1)=(n:Int)+1:=k64i (by omega) (by omega)
   by_cases hq:kd=1
   ·subst hq
    go_wp2
    go_round
    case rel => exact ⟨k+1,by omega,by go_num,by rw [unhide HS]; go_num⟩
    case measure => simp [intOf]; omega
   ·go_wp2
    go_round
    case rel => exact ⟨k+1,by omega,by go_num,by rw [unhide HS,if_neg hq]; rfl⟩
    case measure => simp [intOf]; omega
  ·obtain rfl:k=L.length:=by omega
   rw [List.take_length] at *
   go_wp2
   go_ret
   exact ⟨rfl,rfl⟩
def Bdd (a:It) (n:Nat):Prop:=(∀ i ∈ a.fi,i<n)∧∀ i ∈ a.la,i<n
theorem Bdd.sh {a:It} {n:Nat} (h:Bdd a n) (c:Nat):Bdd (a.sh c) (c+n):=by
 refine ⟨fun i hi => ?_,fun i hi => ?_⟩
 ·obtain ⟨j,hj,rfl⟩ := List.mem_map.1 hi; have:=h.1 j hj; omega
 ·obtain ⟨j,hj,rfl⟩ := List.mem_map.1 hi; have:=h.2 j hj; omega
theorem Bdd.mono {a:It} {n m:Nat} (h:Bdd a n) (hm:n≤m):Bdd a m:=⟨fun i hi => Nat.lt_of_lt_of_le (h.1 i hi) hm,fun i hi => Nat.lt_of_lt_of_le (h.2 i hi) hm⟩
theorem Bdd.cat {a b:It} {n:Nat} (h:Bdd a n) (k:Bdd b n):Bdd (itCat a b) n:=by
 refine ⟨fun i hi => ?_,fun i hi => ?_⟩
 ·rcases List.mem_append.1 hi with hi | hi
  ·exact h.1 i hi
  ·split at hi
   ·exact k.1 i hi
   ·cases hi
 ·rcases List.mem_append.1 hi with hi | hi
  ·split at hi
   ·exact h.2 i hi
   ·cases hi
  ·exact k.2 i hi
theorem Bdd.alt {a b:It} {n:Nat} (h:Bdd a n) (k:Bdd b n):Bdd (itAlt a b) n:=⟨fun i hi => (List.mem_append.1 hi).elim (h.1 i) (k.1 i),fun i hi => (List.mem_append.1 hi).elim (h.2 i) (k.2 i)⟩
theorem lvs_snoc (a b:List El) (x:El) (h:x.kind ≠ 1):lvs (a ++ b ++ [x])=lvs a+lvs b:=by rw [lvs_app,lvs_app]; simp [lvs,h]
def mkd (K:List Lk) (i j:Nat):Bool:=K.any (fun p => p.1.contains i && p.2.contains j)
theorem mkd_app (K M:List Lk) (i j:Nat):mkd (K ++ M) i j=(mkd K i j || mkd M i j):=by unfold mkd; rw [List.any_append]
theorem mkd_one (A B:List Nat) (i j:Nat):mkd [(A,B)] i j=(A.contains i && B.contains j):=by simp [mkd]
theorem mkd_step (K:List Lk) (A B:List Nat) (x y:Nat) (hx:x<A.length) (hy:y<B.length) (i j:Nat) :
  mkd (K ++ [(A.take x,B)] ++ [([A[x]],B.take (y+1))]) i j=(mkd (K ++ [(A.take x,B)] ++ [([A[x]],B.take y)]) i j || (decide (i=A[x]) && decide (j=B[y]))):=by
 rw [mkd_app,mkd_app (K ++ [(A.take x,B)]),mkd_one,mkd_one,Bool.or_assoc]
 congr 1
 rw [List.take_add_one,List.getElem?_eq_getElem hy]
 simp only [Option.toList_some,List.contains_append]
 rw [Bool.and_or_distrib_left]
 congr 1
 simp
theorem mkd_row (K:List Lk) (A B:List Nat) (x:Nat) (hx:x<A.length) (i j:Nat) :
  mkd (K ++ [(A.take x,B)] ++ [([A[x]],B)]) i j=mkd (K ++ [(A.take (x+1),B)]) i j:=by
 rw [mkd_app,mkd_app,mkd_app,mkd_one,mkd_one,mkd_one,Bool.or_assoc]
 congr 1
 rw [List.take_add_one,List.getElem?_eq_getElem hx]
 simp only [Option.toList_some,List.contains_append]
 rw [Bool.and_or_distrib_right]
theorem mkd_none (K:List Lk) (B:List Nat) (i j:Nat):mkd (K ++ [([],B)]) i j=mkd K i j:=by rw [mkd_app,mkd_one]; simp
theorem mkd_none2 (K:List Lk) (A:List Nat) (i j:Nat):mkd (K ++ [(A,[])]) i j=mkd K i j:=by rw [mkd_app,mkd_one]; simp
def ini:Ms:=⟨0,[],[],[]⟩
theorem ini_c (L:List El):(oRun ini L).c=lvs L:=by rw [oRun_c]; simp [ini]
theorem own_far {base n:Nat} {w:World} {v:Value} {A:List Nat} (h:w.ownsRow base 3 1 v n ((A.map Int.ofNat).map mI)) (hA:A.length=n) (hn:n≤10000) :
  ∃ a c,v = .slice a n c∧(0<n→∃ g o,a=some ⟨g,o,none⟩∧base≤g∧g<w.heap.size∧∀ W:World,W.heap[g]? = w.heap[g]?→∀ j (hj:j<A.length),W.cell? ⟨g,o+j,none⟩ = some (.int .i64 ((A[j]:Nat):Int))):=by
 obtain ⟨a,c,hv,hl,hc⟩ := own_slw (xs:=A.map Int.ofNat) (lo:=base) h (Nat.le_refl _) (by unfold maxLen; omega)
 rw [List.length_map,hA] at hv hc
 refine ⟨a,c,hv,fun hp => ?_⟩
 obtain ⟨b,off,rfl,h1,h2,-,hcell⟩ := hc hp
 refine ⟨b,off,rfl,h1,h2,fun W hW j hj => ?_⟩
 rw [World.cell?_of_block (w:=w) (a:=⟨b,off+j,none⟩) hW,hcell j (by omega)]
 simp [List.getElem?_eq_getElem hj,mI]
end Go.Proofs.YtlidckepahpaeaaGreatDoor
