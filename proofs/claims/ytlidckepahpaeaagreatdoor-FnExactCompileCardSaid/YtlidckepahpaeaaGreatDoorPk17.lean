import Derived.Test.YtlidckepahpaeaaGreatDoorPk4
import Derived.Test.YtlidckepahpaeaaGreatDoorPk15
import Derived.Test.YtlidckepahpaeaaGreatDoorPk14
import Derived.Test.YtlidckepahpaeaaGreatDoorPk12
import Derived.Test.YtlidckepahpaeaaGreatDoorX0
import Derived.Test.YtlidckepahpaeaaGreatDoorPk16
import Derived.Deep.AppendLies
import Derived.Deep.RegionLaw
namespace Go.Proofs.YtlidckepahpaeaaGreatDoor
open Go.RowKit
theorem Tryz.info48:(Tryz.prog.info? 48).map (fun i => (i.zero,i.size,i.bytes))=some (some .nilIface,1,16):=by kernel_rfl
theorem oc (k c:Int) (h:cnt k=c) (w:World):Calls Tryz.prog 72 #[.int .i64 k] w fun e w' => e = .returned (.int .i64 c)∧w'=w:=h ▸ operandCount_any k w
theorem cell_one {W:World} {N:Nat} {u:Value} (h:W.cell? ⟨N,0,none⟩ = some u):∀ (j:Nat) (y:Value),[u][j]? = some y→W.cell? ((⟨N,0,none⟩ : Addr).add j)=some y:=by
 intro j y hj
 match j,hj with
 | 0,hj => simp at hj; subst hj; exact h
theorem grown_of_below {m:Nat} {w w':World} (h:Below m w w') (hm:w.heap.size≤m):w.grownBy w' none:=⟨h.os,h.tape,h.output,h.size,fun k hk _ => h.block k (by omega)⟩
theorem own_below {base n m:Nat} {w w':World} {v:Value} {xs:List Value} (h:w.ownsRow base 48 1 v n xs) (hb:Below m w w') (hm:w.heap.size≤m):w'.ownsRow base 48 1 v n xs :=
 h.kept (grown_of_below hb hm) (by cases v.ownBlock <;> simp)
theorem drew_own {base n:Nat} {w:World} {v:Value} {xs:List Value} {q:Nat} (h:w.ownsRow base 48 1 v n xs):(w.drewN q).ownsRow base 48 1 v n xs:=h
theorem sz_drewN (w:World) (q:Nat):(w.drewN q).heap.size=w.heap.size:=rfl
theorem own_len {base n:Nat} {w:World} {v:Value} {vals:List Value} (hown:w.ownsRow base 48 1 v n vals) (h:0<n):∃ g cap,v = .slice (some ⟨g,0,none⟩) n cap∧n≤cap∧cap≤maxLen:=by
 rcases hown.2 with ⟨rfl,hn⟩ | ⟨g,cap,cur,rfl,hbg,hg,hnc,hcm,hcs,htake⟩
 ·omega
 ·exact ⟨g,cap,rfl,hnc,hcm⟩
set_option maxHeartbeats 1000000 in
theorem copies_any (T:TypeId) (y:Value) (n:Int) (w:World) (hn:n≤1000) :
  Calls Tryz.prog 108 #[.iface T y,.int .i64 n] w fun e w' => ∃ v,e = .returned v∧w'.ownsRow w.heap.size 48 1 v n.toNat (List.replicate n.toNat (.iface T y))∧Below w.heap.size w w':=by
 obtain ⟨i0,hi,hz0,hz1,hz2⟩ := info_parts Tryz.info48
 go_enter Tryz.func108,Tryz.ntmps108
 go_wp2
 go_loopw [5,7] (fun ov i wr => ∃ j:Nat,i = .int .i64 (j:Int)∧(j=0∨(j:Int)≤n)∧wr.ownsRow w.heap.size 48 1 ov j (List.replicate j (.iface T y))∧Below w.heap.size w wr) (fun _ i _ => (n - intOf i).toNat)
 case atStart => exact ⟨0,rfl,Or.inl rfl,World.ownsRow_nil _ _ _ _,Below.refl _ _⟩
 case round =>
  obtain ⟨j,rfl,hj,hown,hb⟩ := hrel
  have hz:=hb.size
  have Hown:=hide hown
  obtain ⟨oa,oc,rfl⟩ := own_is hown
  clear hown
  by_cases hlt:(j:Int)<n
  ·go_wp2_with (at_builtin; refine wpList_append_own _ rfl _ _ 137 rfl w.heap.size 48 i0 .nilIface 1 16 Tryz.underlying137 hi hz0 hz1 hz2 rfl (by decide) _ _ _ rfl ((unhide Hown).alloc _) ⟨wr.heap.size,0,none⟩ 1 1 [.iface T y] rfl rfl ?_ ?_ ?_ ?_ ?_ ?_)
   ·exact cell_one (by simp)
   ·intro u hu; simp at hu; subst hu; rfl
   ·unfold maxLen; omega
   ·omega
   ·simp only [sz_alloc]; omega
   intro v' w' h1 hg _
   have H1:Hid (w'.ownsRow w.heap.size 48 1 v' (j+1) (List.replicate (j+1) (.iface T y))):=by rw [List.replicate_succ']; exact h1
   have hB:Below w.heap.size w w':=(hb.alloc hz (.cells #[.iface T y] 48)).grown hg (by rw [sz_alloc]; omega) (fun k hk => ((unhide Hown).lt k hk).1)
   clear h1 hg
   go_wp2
   go_roundw
   case rel => exact ⟨j+1,by go_num,Or.inr (by omega),unhide H1,hB⟩
   case measure => simp [intOf]; omega
  ·have hjn:Hid (n.toNat=j):=by show n.toNat=j; omega
   go_wp2
   go_ret
   exact ⟨_,rfl,by rw [unhide hjn]; exact unhide Hown,hb⟩
def jV:List Value→Value
 | [] => undef
 | p :: r => r.foldl cV p
theorem foldV (r:List Value):∀ p:Value,(∃ T x,p = .iface T x)→∃ T x,r.foldl cV p = .iface T x:=by
 induction r with
 | nil => intro p h; exact h
 | cons q r ih => intro p _; exact ih (cV p q) ⟨_,_,rfl⟩
theorem foldV_next (r:List Value) (p:Value) (j:Nat) (h:j<r.length):(r.take (j+1)).foldl cV p=cV ((r.take j).foldl cV p) r[j]:=by
 rw [List.take_succ_eq_append_getElem h,List.foldl_append]; rfl
set_option maxHeartbeats 1000000 in
theorem joinParts_any (base:Nat) (v p:Value) (r:List Value) (w:World) (hown:w.ownsRow base 48 1 v (r.length+1) (p :: r)) (hif:∀ u ∈ p :: r,∃ T x,u = .iface T x) (hl:r.length≤1000000) :
  Calls Tryz.prog 107 #[v] w fun e w' => e = .returned (jV (p :: r))∧w'=w:=by
 obtain ⟨g,cap,rfl,hcell⟩ := own_at_g hown (by omega)
 have hcap:r.length+1≤cap:=by
  rcases hown.2 with ⟨e,-⟩ | ⟨g',cap',cur,e,-,-,hnc,-⟩
  ·simp at e
  ·simp only [Value.slice.injEq] at e
   rw [e.2.2]; exact hnc
 have hx0:w.cell? ⟨g,0,none⟩ = some p:=hcell 0 (by omega)
 have hxs:Hid (∀ j:Nat,(h:j<r.length)→w.cell? ⟨g,1+j,none⟩ = some r[j]):=fun j h => by
  rw [hcell (1+j) (by omega),Nat.add_comm 1 j,List.getElem?_cons_succ,List.getElem?_eq_getElem h]
 obtain ⟨T0,x0,rfl⟩ := hif p (by simp)
 have Hif:=hide hif
 have hcI:((r.length+1:Nat):Int)≤(cap:Int):=by omega
 clear hcell hown hif
 by_cases hc1:cap=1
 ·subst hc1
  obtain rfl:r = []:=List.eq_nil_of_length_eq_zero (by omega)
  go_enter Tryz.func107,Tryz.ntmps107
  go_wp2
  go_loop [3,12] (fun q i => q = .iface T0 x0∧i = .int .i64 0) (fun _ _ => 0)
  case atStart => exact ⟨rfl,rfl⟩
  case round =>
   obtain ⟨rfl,rfl⟩ := hrel
   go_wp2
   go_ret
   exact ⟨rfl,rfl⟩
 ·go_enter Tryz.func107,Tryz.ntmps107
  go_wp2
  go_loop [3,12] (fun q i => ∃ j:Nat,j≤r.length∧i = .int .i64 (j:Int)∧q=(r.take j).foldl cV (.iface T0 x0)) (fun _ i => r.length - (intOf i).toNat)
  case atStart => exact ⟨0,Nat.zero_le _,rfl,rfl⟩
  case round =>
   obtain ⟨j,hj,rfl,hq⟩ := hrel
   obtain ⟨T1,x1,e1⟩ := foldV (r.take j) _ ⟨T0,x0,rfl⟩
   by_cases hlt:j<r.length
   ·have hx:=unhide hxs j hlt
    obtain ⟨T2,x2,e2⟩ := unhide Hif r[j] (by simp)
    have Hn:=hide (foldV_next r (.iface T0 x0) j hlt)
    rw [e1] at hq Hn
    rw [e2] at hx Hn
    subst hq
    have hlt':(j:Int)<(r.length:Int):=by omega
    clear e1 e2
    go_wp2
    go_round
    case rel => exact ⟨j+1,by omega,by go_num,by rw [unhide Hn]; rfl⟩
    case measure => simp [intOf]; omega
   ·obtain rfl:j=r.length:=by omega
    rw [List.take_length] at hq e1
    have He:=hide e1
    rw [e1] at hq
    subst hq
    clear e1
    go_wp2
    go_ret
    exact ⟨by rw [← unhide He]; rfl,rfl⟩
theorem joinParts_l (base n:Nat) (v:Value) (vals:List Value) (w:World) (hown:w.ownsRow base 48 1 v n vals) (hn:0<n) (hif:∀ u ∈ vals,∃ T x,u = .iface T x) (hl:n≤1000000) :
  Calls Tryz.prog 107 #[v] w fun e w' => e = .returned (jV vals)∧w'=w:=by
 have h1:=hown.1
 rw [Nat.mul_one] at h1
 cases vals with
 | nil => simp at h1; omega
 | cons p r =>
  have e:n=r.length+1:=by rw [← h1]; rfl
  subst e
  exact joinParts_any base v p r w hown hif (by omega)
def partsV (U:Value) (mn mx:Int):List Value :=
 if mx = -1 then List.replicate (mn - 1).toNat U ++ [rV U (if 1<mn then 1 else mn) (-1)]
 else List.replicate mn.toNat U ++ List.replicate (mx - mn).toNat (aV U eV)
def ExpV (u U:Value):Prop:=(∃ T x,U = .iface T x)∧∀ w,Calls Tryz.prog 40 #[u] w fun e w' => e = .returned U∧Below w.heap.size w w'
theorem copies_k (T:TypeId) (y:Value) (n:Int) (k:Nat) (hk:n.toNat=k) (w:World) (hn:n≤1000) :
  Calls Tryz.prog 108 #[.iface T y,.int .i64 n] w fun e w' => ∃ v,e = .returned v∧w'.ownsRow w.heap.size 48 1 v k (List.replicate k (.iface T y))∧Below w.heap.size w w':=by
 subst hk
 exact copies_any T y n w hn
theorem own_base {b b' e size n:Nat} {w:World} {v:Value} {xs:List Value} (h:w.ownsRow b e size v n xs) (hb:b=b'):w.ownsRow b' e size v n xs:=hb ▸ h
set_option maxHeartbeats 2000000 in
theorem expandRep_zero (T:TypeId) (y:Value) (mn:Int) (w:World) :
  Calls Tryz.prog 74 #[.agg #[.iface T y,.int .i64 mn,.int .i64 0]] w fun e w' => e = .returned eV∧Below w.heap.size w w':=by
 go_enter Tryz.func74,Tryz.ntmps74
 go_wp2
 go_ret
 exact ⟨rfl,below1 w _⟩
set_option maxHeartbeats 2000000 in
set_option maxRecDepth 100000 in
theorem expandRep_star (T:TypeId) (y:Value) (T':TypeId) (y':Value) (mn:Int) (w:World) (h:ExpV (.iface T y) (.iface T' y')) (o2:0≤mn) (o3:mn≤250) :
  Calls Tryz.prog 74 #[.agg #[.iface T y,.int .i64 mn,.int .i64 (-1)]] w fun e w' => e = .returned (jV (partsV (.iface T' y') mn (-1)))∧Below w.heap.size w w':=by
 obtain ⟨i0,hi,hz0,hz1,hz2⟩ := info_parts Tryz.info48
 have HE:=hide h.2
 clear h
 have hw2:IntKind.i64.wrap (mn - 1)=mn - 1:=by rw [IntKind.wrap_i64]; omega
 have hw1:wrap64 (mn - 1)=mn - 1:=by unfold wrap64; omega
 obtain ⟨K,hK0⟩ : ∃ K:Nat,(mn - 1).toNat=K:=⟨_,rfl⟩
 have hK1:K≤250:=by omega
 have HK:=hide hK0
 clear hK0
 by_cases h1:1<mn
 ·have hmi:min mn 1=1:=by omega
  go_enter Tryz.func74,Tryz.ntmps74
  go_wp2_with fail
  refine (unhide HE _).mono ?_
  rintro e w1 ⟨rfl,hb1⟩
  have hB1:Below w.heap.size w w1:=(below1 w _).trans (hb1.mono (by rw [sz_alloc]; omega))
  obtain ⟨hcc,-⟩ := bcell hb1
  have hz1':=hb1.size
  rw [sz_alloc] at hz1'
  have q0:w1.cell? ⟨w.heap.size,0,none⟩ = some (.iface T y):=by rw [hcc _ _ (by rw [sz_alloc]; omega)]; simp
  have q1:w1.cell? ⟨w.heap.size,1,none⟩ = some (.int .i64 mn):=by rw [hcc _ _ (by rw [sz_alloc]; omega)]; simp
  have q2:w1.cell? ⟨w.heap.size,2,none⟩ = some (.int .i64 (-1)):=by rw [hcc _ _ (by rw [sz_alloc]; omega)]; simp
  have hlt1:w.heap.size<w1.heap.size:=by omega
  clear hb1 hcc
  have hst:Hid (∀ (w2 w3:World) (v3:Value),Below (w1.heap.size+1) (w1.alloc (.cells #[.iface T' y',.int .i64 1,.int .i64 (-1)] 90)) w2→Below (w1.heap.size+1) w2 w3→Below w.heap.size w w3):=fun w2 w3 v3 a1 a2 =>
   hB1.trans (((below1 w1 _).mono (by omega)).trans ((a1.mono (by omega)).trans (a2.mono (by omega))))
  have hJ:Hid (List.replicate K (.iface T' y') ++ [.iface 90 (.agg #[.iface T' y',.int .i64 1,.int .i64 (-1)])]=partsV (.iface T' y') mn (-1)):=by
   unfold partsV
   rw [if_pos rfl,unhide HK]
   first | rw [if_pos h1] | rw [if_neg (by omega)]
   rfl
  go_wp2_with fail
  go_region_law (((first | (refine step_call 108 #[.iface T' y',.int .i64 (mn - 1)] rfl (by kernel_rfl) (copies_k T' y' (mn - 1) K (unhide HK) _ (by omega)) ?_; rintro e w2 ⟨v2,rfl,hown2,hb2⟩; refine ⟨_,rfl,?_⟩; have hb2':Below (w1.heap.size+1) (w1.alloc (.cells #[.iface T' y',.int .i64 1,.int .i64 (-1)] 90)) w2:=⟨hb2.os,hb2.tape,hb2.output,hb2.size,fun k hk => hb2.block k (by simpa using hk)⟩; have hz2':w1.heap.size+1≤w2.heap.size:=(by have:=hb2'.size; rwa [sz_alloc] at this); have c0:w2.cell? ⟨w1.heap.size,0,none⟩ = some (.iface T' y'):=(by rw [hb2'.cell (p:=⟨w1.heap.size,0,none⟩) (by show w1.heap.size<w1.heap.size+1; omega)]; simp); have c1:w2.cell? ⟨w1.heap.size,1,none⟩ = some (.int .i64 1):=(by rw [hb2'.cell (p:=⟨w1.heap.size,1,none⟩) (by show w1.heap.size<w1.heap.size+1; omega)]; simp); have c2:w2.cell? ⟨w1.heap.size,2,none⟩ = some (.int .i64 (-1)):=(by rw [hb2'.cell (p:=⟨w1.heap.size,2,none⟩) (by show w1.heap.size<w1.heap.size+1; omega)]; simp); have Hown2:Hid (w2.ownsRow (w1.heap.size+1) 48 1 v2 K (List.replicate K (.iface T' y'))):=own_base hown2 (sz_alloc w1 (.cells #[.iface T' y',.int .i64 1,.int .i64 (-1)] 90)); clear hown2 hb2) | (refine step_call 108 #[.iface T' y',.int .i64 (mn - 1)] rfl (by kernel_rfl) (copies_k T' y' (mn - 1) K (unhide HK) _ (by omega)) ?_; rintro e w2 ⟨v2,rfl,hown2,hb2⟩; refine ⟨_,rfl,?_⟩; have hb2':Below (w1.heap.size+1) (w1.alloc (.cells #[.iface T' y',.int .i64 1,.int .i64 (-1)] 90)) w2:=(below1 _ (.cells #[.iface 90 (.agg #[.iface T' y',.int .i64 1,.int .i64 (-1)])] 48)).mono (by rw [sz_alloc]; omega) |>.trans ⟨hb2.os,hb2.tape,hb2.output,hb2.size,fun k hk => hb2.block k (by simp; omega)⟩; have hz2':w1.heap.size+1≤w2.heap.size:=(by have:=hb2'.size; rwa [sz_alloc] at this); have hnw:w2.cell? ⟨w1.heap.size+1,0,none⟩ = some (.iface 90 (.agg #[.iface T' y',.int .i64 1,.int .i64 (-1)])):=(by rw [hb2.cell (p:=⟨w1.heap.size+1,0,none⟩) (by show w1.heap.size+1<_; simp)]; simp); have Hown2:Hid (w2.ownsRow (w1.heap.size+1) 48 1 v2 K (List.replicate K (.iface T' y'))):=own_low hown2 (by simp); have Hnw:=hide hnw; clear hown2 hb2 hnw) | (refine step_append_lies _ rfl (.tmp 26) (.tmp 29) 137 rfl (w1.heap.size+1) 48 i0 .nilIface 1 16 Tryz.underlying137 hi hz0 hz1 hz2 rfl (by decide) v2 K (List.replicate K (.iface T' y')) (by simp [Act.eval]) (by refine Pushd.own (w:=w2) (o:=(.cells #[.iface 90 (.agg #[.iface T' y',.int .i64 1,.int .i64 (-1)])] 48)) ?_ (unhide Hown2); exact ⟨rfl,rfl,rfl,rfl⟩) ⟨w2.heap.size,0,none⟩ 1 1 [.iface 90 (.agg #[.iface T' y',.int .i64 1,.int .i64 (-1)])] (by simp [Act.eval]) rfl (by refine Pushd.news (w:=w2) (cs:=#[.iface 90 (.agg #[.iface T' y',.int .i64 1,.int .i64 (-1)])]) (t:=48) ?_; exact ⟨rfl,rfl,rfl,rfl⟩) (fun u hu => by obtain rfl:=List.mem_singleton.1 hu; rfl) (by decide) (by unfold maxLen; omega) (by omega) (by show w1.heap.size+1≤(w2.alloc _).heap.size; rw [sz_alloc]; omega) (w2.heap.size+1) (sz_alloc w2 _) (fun g cap' w3 r1 r2 r3 r4 => ?_); have hB3:Below (w1.heap.size+1) w2 w3:=(((below1 w2 _).mono hz2').grown r2 (by show w1.heap.size+1≤(w2.alloc _).heap.size; rw [sz_alloc]; omega) (fun k hk => ((unhide Hown2).lt k hk).1)); have R1:=hide r1; clear r1 r2 r3 r4) | (refine step_append_lies _ rfl (.tmp 26) (.tmp 29) 137 rfl (w1.heap.size+1) 48 i0 .nilIface 1 16 Tryz.underlying137 hi hz0 hz1 hz2 rfl (by decide) v2 K (List.replicate K (.iface T' y')) (by simp [Act.eval]) (unhide Hown2) ⟨w1.heap.size+1,0,none⟩ 1 1 [.iface 90 (.agg #[.iface T' y',.int .i64 1,.int .i64 (-1)])] (by simp [Act.eval]) rfl (cell_one (unhide Hnw)) (fun u hu => by obtain rfl:=List.mem_singleton.1 hu; rfl) (by decide) (by unfold maxLen; omega) (by omega) hz2' w2.heap.size rfl (fun g cap' w3 r1 r2 r3 r4 => ?_); have hB3:Below (w1.heap.size+1) w2 w3:=((Below.refl (w1.heap.size+1) w2).grown r2 hz2' (fun k hk => ((unhide Hown2).lt k hk).1)); have R1:=hide r1; clear r1 r2 r3 r4) | (refine step_call 107 #[.slice (some ⟨g,0,none⟩) (K+1) cap'] rfl (by kernel_rfl) (joinParts_l _ _ _ _ w3 (unhide R1) (by omega) (fun u hu => by rcases List.mem_append.1 hu with hu | hu; exact ⟨_,_,(List.mem_replicate.1 hu).2⟩; exact ⟨_,_,List.mem_singleton.1 hu⟩) (by omega)) ?_; rintro e w4 ⟨rfl,rfl⟩; refine ⟨_,rfl,?_⟩))))
  all_goals
   go_wp2
   go_ret
   exact ⟨congrArg (fun l => Ending.returned (jV l)) (unhide hJ),unhide hst _ _ v2 hb2' hB3⟩
 ·have hmi:min mn 1=mn:=by omega
  go_enter Tryz.func74,Tryz.ntmps74
  go_wp2_with fail
  refine (unhide HE _).mono ?_
  rintro e w1 ⟨rfl,hb1⟩
  have hB1:Below w.heap.size w w1:=(below1 w _).trans (hb1.mono (by rw [sz_alloc]; omega))
  obtain ⟨hcc,-⟩ := bcell hb1
  have hz1':=hb1.size
  rw [sz_alloc] at hz1'
  have q0:w1.cell? ⟨w.heap.size,0,none⟩ = some (.iface T y):=by rw [hcc _ _ (by rw [sz_alloc]; omega)]; simp
  have q1:w1.cell? ⟨w.heap.size,1,none⟩ = some (.int .i64 mn):=by rw [hcc _ _ (by rw [sz_alloc]; omega)]; simp
  have q2:w1.cell? ⟨w.heap.size,2,none⟩ = some (.int .i64 (-1)):=by rw [hcc _ _ (by rw [sz_alloc]; omega)]; simp
  have hlt1:w.heap.size<w1.heap.size:=by omega
  clear hb1 hcc
  have hst:Hid (∀ (w2 w3:World) (v3:Value),Below (w1.heap.size+1) (w1.alloc (.cells #[.iface T' y',.int .i64 mn,.int .i64 (-1)] 90)) w2→Below (w1.heap.size+1) w2 w3→Below w.heap.size w w3):=fun w2 w3 v3 a1 a2 =>
   hB1.trans (((below1 w1 _).mono (by omega)).trans ((a1.mono (by omega)).trans (a2.mono (by omega))))
  have hJ:Hid (List.replicate K (.iface T' y') ++ [.iface 90 (.agg #[.iface T' y',.int .i64 mn,.int .i64 (-1)])]=partsV (.iface T' y') mn (-1)):=by
   unfold partsV
   rw [if_pos rfl,unhide HK]
   first | rw [if_pos h1] | rw [if_neg (by omega)]
   rfl
  go_wp2_with fail
  go_region_law (((first | (refine step_call 108 #[.iface T' y',.int .i64 (mn - 1)] rfl (by kernel_rfl) (copies_k T' y' (mn - 1) K (unhide HK) _ (by omega)) ?_; rintro e w2 ⟨v2,rfl,hown2,hb2⟩; refine ⟨_,rfl,?_⟩; have hb2':Below (w1.heap.size+1) (w1.alloc (.cells #[.iface T' y',.int .i64 mn,.int .i64 (-1)] 90)) w2:=⟨hb2.os,hb2.tape,hb2.output,hb2.size,fun k hk => hb2.block k (by simpa using hk)⟩; have hz2':w1.heap.size+1≤w2.heap.size:=(by have:=hb2'.size; rwa [sz_alloc] at this); have c0:w2.cell? ⟨w1.heap.size,0,none⟩ = some (.iface T' y'):=(by rw [hb2'.cell (p:=⟨w1.heap.size,0,none⟩) (by show w1.heap.size<w1.heap.size+1; omega)]; simp); have c1:w2.cell? ⟨w1.heap.size,1,none⟩ = some (.int .i64 mn):=(by rw [hb2'.cell (p:=⟨w1.heap.size,1,none⟩) (by show w1.heap.size<w1.heap.size+1; omega)]; simp); have c2:w2.cell? ⟨w1.heap.size,2,none⟩ = some (.int .i64 (-1)):=(by rw [hb2'.cell (p:=⟨w1.heap.size,2,none⟩) (by show w1.heap.size<w1.heap.size+1; omega)]; simp); have Hown2:Hid (w2.ownsRow (w1.heap.size+1) 48 1 v2 K (List.replicate K (.iface T' y'))):=own_base hown2 (sz_alloc w1 (.cells #[.iface T' y',.int .i64 mn,.int .i64 (-1)] 90)); clear hown2 hb2) | (refine step_call 108 #[.iface T' y',.int .i64 (mn - 1)] rfl (by kernel_rfl) (copies_k T' y' (mn - 1) K (unhide HK) _ (by omega)) ?_; rintro e w2 ⟨v2,rfl,hown2,hb2⟩; refine ⟨_,rfl,?_⟩; have hb2':Below (w1.heap.size+1) (w1.alloc (.cells #[.iface T' y',.int .i64 mn,.int .i64 (-1)] 90)) w2:=(below1 _ (.cells #[.iface 90 (.agg #[.iface T' y',.int .i64 mn,.int .i64 (-1)])] 48)).mono (by rw [sz_alloc]; omega) |>.trans ⟨hb2.os,hb2.tape,hb2.output,hb2.size,fun k hk => hb2.block k (by simp; omega)⟩; have hz2':w1.heap.size+1≤w2.heap.size:=(by have:=hb2'.size; rwa [sz_alloc] at this); have hnw:w2.cell? ⟨w1.heap.size+1,0,none⟩ = some (.iface 90 (.agg #[.iface T' y',.int .i64 mn,.int .i64 (-1)])):=(by rw [hb2.cell (p:=⟨w1.heap.size+1,0,none⟩) (by show w1.heap.size+1<_; simp)]; simp); have Hown2:Hid (w2.ownsRow (w1.heap.size+1) 48 1 v2 K (List.replicate K (.iface T' y'))):=own_low hown2 (by simp); have Hnw:=hide hnw; clear hown2 hb2 hnw) | (refine step_append_lies _ rfl (.tmp 26) (.tmp 29) 137 rfl (w1.heap.size+1) 48 i0 .nilIface 1 16 Tryz.underlying137 hi hz0 hz1 hz2 rfl (by decide) v2 K (List.replicate K (.iface T' y')) (by simp [Act.eval]) (by refine Pushd.own (w:=w2) (o:=(.cells #[.iface 90 (.agg #[.iface T' y',.int .i64 mn,.int .i64 (-1)])] 48)) ?_ (unhide Hown2); exact ⟨rfl,rfl,rfl,rfl⟩) ⟨w2.heap.size,0,none⟩ 1 1 [.iface 90 (.agg #[.iface T' y',.int .i64 mn,.int .i64 (-1)])] (by simp [Act.eval]) rfl (by refine Pushd.news (w:=w2) (cs:=#[.iface 90 (.agg #[.iface T' y',.int .i64 mn,.int .i64 (-1)])]) (t:=48) ?_; exact ⟨rfl,rfl,rfl,rfl⟩) (fun u hu => by obtain rfl:=List.mem_singleton.1 hu; rfl) (by decide) (by unfold maxLen; omega) (by omega) (by show w1.heap.size+1≤(w2.alloc _).heap.size; rw [sz_alloc]; omega) (w2.heap.size+1) (sz_alloc w2 _) (fun g cap' w3 r1 r2 r3 r4 => ?_); have hB3:Below (w1.heap.size+1) w2 w3:=(((below1 w2 _).mono hz2').grown r2 (by show w1.heap.size+1≤(w2.alloc _).heap.size; rw [sz_alloc]; omega) (fun k hk => ((unhide Hown2).lt k hk).1)); have R1:=hide r1; clear r1 r2 r3 r4) | (refine step_append_lies _ rfl (.tmp 26) (.tmp 29) 137 rfl (w1.heap.size+1) 48 i0 .nilIface 1 16 Tryz.underlying137 hi hz0 hz1 hz2 rfl (by decide) v2 K (List.replicate K (.iface T' y')) (by simp [Act.eval]) (unhide Hown2) ⟨w1.heap.size+1,0,none⟩ 1 1 [.iface 90 (.agg #[.iface T' y',.int .i64 mn,.int .i64 (-1)])] (by simp [Act.eval]) rfl (cell_one (unhide Hnw)) (fun u hu => by obtain rfl:=List.mem_singleton.1 hu; rfl) (by decide) (by unfold maxLen; omega) (by omega) hz2' w2.heap.size rfl (fun g cap' w3 r1 r2 r3 r4 => ?_); have hB3:Below (w1.heap.size+1) w2 w3:=((Below.refl (w1.heap.size+1) w2).grown r2 hz2' (fun k hk => ((unhide Hown2).lt k hk).1)); have R1:=hide r1; clear r1 r2 r3 r4) | (refine step_call 107 #[.slice (some ⟨g,0,none⟩) (K+1) cap'] rfl (by kernel_rfl) (joinParts_l _ _ _ _ w3 (unhide R1) (by omega) (fun u hu => by rcases List.mem_append.1 hu with hu | hu; exact ⟨_,_,(List.mem_replicate.1 hu).2⟩; exact ⟨_,_,List.mem_singleton.1 hu⟩) (by omega)) ?_; rintro e w4 ⟨rfl,rfl⟩; refine ⟨_,rfl,?_⟩))))
  all_goals
   go_wp2
   go_ret
   exact ⟨congrArg (fun l => Ending.returned (jV l)) (unhide hJ),unhide hst _ _ v2 hb2' hB3⟩
theorem run_copies (x y:Value) (w:World):Sem.run Tryz.prog (callFunc 108 #[x,y]) w = .ok (.enter 108 #[x,y]) w:=by kernel_rfl
theorem run_join (x:Value) (w:World):Sem.run Tryz.prog (callFunc 107 #[x]) w = .ok (.enter 107 #[x]) w:=by kernel_rfl
end Go.Proofs.YtlidckepahpaeaaGreatDoor
