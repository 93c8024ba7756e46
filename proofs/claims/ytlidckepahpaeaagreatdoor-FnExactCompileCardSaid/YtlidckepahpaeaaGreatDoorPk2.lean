import Derived.Test.YtlidckepahpaeaaGreatDoorPk1
namespace Go.Proofs.YtlidckepahpaeaaGreatDoor
open Go.RowKit
set_option maxHeartbeats 400000 in
theorem markIntS_any (v:Value) (xs:List Int) (k:Int) (lo n:Nat) (w:World) (hv:SlW mI 0 lo n w v xs) (k0:0≤k) (k1:k≤4611686018427387904) (hlen:xs.length≤4194304) :
  Calls Tryz.prog 27 #[v,.int .i64 k] w fun e w' => e = .returned (.int .i64 (k+xs.length))∧SlW mI 0 lo n w' v (cnts k xs.length)∧Chg lo n w w':=by
 obtain ⟨a,cap,rfl,hl,hc⟩ := hv
 go_enter Tryz.func27,Tryz.ntmps27
 go_wp2
 go_loopw [1,5] (fun q i wr => ∃ m:Nat,m≤xs.length∧i = .int .i64 m∧q = .int .i64 (k+m)∧(0<xs.length→∃ b off,a=some ⟨b,off,none⟩∧lo≤b∧b<n∧(∃ c t,wr.heap[b]? = some (.cells c t (0,0))) ∧
  (∀ j:Nat,j<m→wr.cell? ⟨b,off+j,none⟩ = some (.int .i64 (k+j)))∧∀ j:Nat,m≤j→j<xs.length→∃ u,wr.cell? ⟨b,off+j,none⟩ = some u)∧Chg lo n w wr) (fun _ i _ => xs.length - (intOf i).toNat)
 case atStart =>
  refine ⟨0,Nat.zero_le _,rfl,by simp,fun hp => ?_,Chg.refl _ _ _⟩
  obtain ⟨b,off,e,h1,h2,h3,hcell⟩ := hc hp
  exact ⟨b,off,e,h1,h2,h3,fun j hj => absurd hj (Nat.not_lt_zero _),fun j _ hj => ⟨_,hcell j hj⟩⟩
 case round =>
  obtain ⟨m,hm,rfl,rfl,hrow,hch⟩ := hrel
  by_cases hlt:m<xs.length
  ·obtain ⟨b,off,rfl,h1,h2,h3,hold,hnew⟩ := hrow (by omega)
   obtain ⟨u,hu⟩ := hnew m (Nat.le_refl _) hlt
   have hf:=frz (j:=off+m) h3
   have hlt':(m:Int)<(xs.length:Int):=by omega
   have H3:=hide h3
   have Hold:=hide hold
   have Hnew:=hide hnew
   clear h3 hold hnew hc
   go_wp2
   refine ⟨⟨m+1,by omega,by go_num,by congr 1; omega,fun _ => ⟨b,off,rfl,h1,h2,own_put (unhide H3),fun j hj => ?_,fun j hj1 hj2 => ?_⟩,hch.put h1 h2 _⟩,by simp [intOf]; omega⟩
   ·by_cases e:j=m
    ·subst e
     exact put_same hu
    ·rw [put_other (Or.inr (by omega))]
     exact unhide Hold j (by omega)
   ·rw [put_other (Or.inr (by omega))]
    exact unhide Hnew j (by omega) hj2
  ·obtain rfl:m=xs.length:=by omega
   have Hrow:=hide hrow
   clear hrow hc
   go_wp2
   go_ret
   refine ⟨rfl,⟨a,cap,by rw [cnts_len],by rw [cnts_len]; exact hl,fun hp => ?_⟩,hch⟩
   rw [cnts_len] at hp
   obtain ⟨b,off,e,h1,h2,h3,hold,-⟩ := unhide Hrow hp
   refine ⟨b,off,e,h1,h2,h3,fun i hi => ?_⟩
   rw [cnts_len] at hi
   rw [hold i hi,cnts_get k _ i hi]
   rfl
set_option maxHeartbeats 400000 in
theorem heldIntS_any (v:Value) (n:Nat) (k:Int) (lo hi:Nat) (w:World) (hv:SlAt mI 0 lo hi w v (cnts k n)) (k0:0≤k) (k1:k≤4611686018427387904) (hlen:n≤4194304) :
  Calls Tryz.prog 29 #[v,.int .i64 k] w fun e w' => e = .returned (.int .i64 (k+n))∧w'=w:=by
 obtain ⟨a,cap,rfl,hl,hc⟩ := hv
 rw [cnts_len] at hl hc ⊢
 go_enter Tryz.func29,Tryz.ntmps29
 go_wp2
 go_loop [1,5] (fun q i => ∃ m:Nat,m≤n∧i = .int .i64 m∧q = .int .i64 (k+m)) (fun _ i => n - (intOf i).toNat)
 case atStart => exact ⟨0,Nat.zero_le _,rfl,by simp⟩
 case round =>
  obtain ⟨m,hm,rfl,rfl⟩ := hrel
  by_cases hlt:m<n
  ·obtain ⟨b,off,rfl,-,-,hcell⟩ := hc (by omega)
   have hx:=hcell m hlt
   rw [cnts_get k n m hlt] at hx
   unfold mI at hx
   have hlt':(m:Int)<(n:Int):=by omega
   clear hcell hc
   go_wp2
   go_round
   case rel => exact ⟨m+1,by omega,by go_num,by congr 1; omega⟩
   case measure => simp [intOf]; omega
  ·obtain rfl:m=n:=by omega
   clear hc
   go_wp2
   go_ret
   exact ⟨rfl,rfl⟩
theorem Tryz.zinInt:(Tryz.prog.info? 3).map (fun i => (i.zero,i.size,i.bytes))=some (some (.int .i64 0),1,8):=by kernel_rfl
set_option maxHeartbeats 400000 in
set_option maxRecDepth 100000 in
theorem toIntS_wc (v:Value) (xs:List Int) (w:World) (hv:SlAt mI 0 0 w.heap.size w v xs) (hlen:xs.length≤1048576) :
  Calls Tryz.prog 70 #[v] w fun e w' => ∃ v',e = .returned v'∧SlW mI 0 w.heap.size w'.heap.size w' v' xs∧CapOk v'∧Below w.heap.size w w':=by
 obtain ⟨a,cap,rfl,hl,hc⟩ := hv
 have hmk:=run_make_row' (P:=Tryz.prog) 26 3 (.int .i64 0) 8 Tryz.underlying26 Tryz.zinInt rfl .i64 .i64 xs.length (by omega) (by omega)
 go_enter Tryz.func70,Tryz.ntmps70
 go_wp2
 go_loopw [4] (fun i wr => ∃ k:Nat,k≤xs.length∧i = .int .i64 k∧wr.rowIs w.heap.size 3 xs.length (fun j => if j<k then .int .i64 (xs[j]?.getD 0) else .int .i64 0)∧Below w.heap.size w wr) (fun i _ => xs.length - (intOf i).toNat)
 case atStart => exact ⟨0,Nat.zero_le _,rfl,(World.rowIs_made w (.int .i64 0) xs.length 3).congr (by simp),(Below.refl _ _).alloc (Nat.le_refl _) _⟩
 case round =>
  obtain ⟨k,hk,rfl,hrow,hb⟩ := hrel
  by_cases hlt:k<xs.length
  ·obtain ⟨b,off,rfl,-,hbn,hcell⟩ := hc (by omega)
   have hx:wr.cell? ⟨b,off+k,none⟩ = some (.int .i64 (xs[k]?.getD 0)):=by rw [hb.cell (p:=⟨b,off+k,none⟩) hbn]; exact hcell k hlt
   have hlt':(k:Int)<(xs.length:Int):=by omega
   have hw:=hrow.cell hlt
   have hf:=hrow.frozen k
   have hrow':=hide hrow
   clear hmk hrow hcell hc
   generalize hX:xs[k]?.getD 0=x at *
   have HX:=hide hX
   clear hX
   go_wp2
   refine ⟨⟨k+1,by omega,by go_num,?_,hb.setCell (Nat.le_refl _) _⟩,by simp [intOf]; omega⟩
   refine ((unhide hrow').set k _).congr ?_
   intro j hj
   by_cases e:j=k
   ·subst e; simp only [if_true]; rw [if_pos (by omega),unhide HX]
   ·have e2:j<k+1↔j<k:=by omega
    simp only [e,if_false,e2]
  ·obtain rfl:k=xs.length:=by omega
   have hrow':=hide hrow
   clear hmk hrow hc
   go_wp2
   go_ret
   have hrow:=unhide hrow'
   refine ⟨_,rfl,⟨some ⟨w.heap.size,0,none⟩,xs.length,rfl,hl,fun _ => ⟨w.heap.size,0,rfl,Nat.le_refl _,hrow.lt,?_,fun i hi => by rw [Nat.zero_add,hrow.cell hi,if_pos hi]; rfl⟩⟩,CapOk.mk (Nat.le_refl _) hl,hb⟩
   obtain ⟨c,hcb,-⟩ := hrow
   exact ⟨c,_,hcb⟩
theorem toIntS_w (v:Value) (xs:List Int) (w:World) (hv:SlAt mI 0 0 w.heap.size w v xs) (hlen:xs.length≤1048576) :
  Calls Tryz.prog 70 #[v] w fun e w' => ∃ v',e = .returned v'∧SlW mI 0 w.heap.size w'.heap.size w' v' xs∧Below w.heap.size w w' :=
 (toIntS_wc v xs w hv hlen).mono (fun _ _ ⟨v',h1,h2,_,h3⟩ => ⟨v',h1,h2,h3⟩)
set_option maxHeartbeats 400000 in
theorem eqIntS_w (u v:Value) (xs:List Int) (w:World) (hu:SlAt mI 0 0 w.heap.size w u xs) (hv:SlAt mI 0 0 w.heap.size w v xs) :
  Calls Tryz.prog 23 #[u,v] w fun e w' => e = .returned (.bool true)∧∃ n,w'=w.drewN n:=by
 obtain ⟨a,cap,rfl,hl,hc⟩ := hu
 obtain ⟨a2,cap2,rfl,-,hc2⟩ := hv
 unfold maxLen at hl
 go_enter Tryz.func23,Tryz.ntmps23
 go_wp2
 go_loopw [5] (fun i wr => ∃ k:Nat,k≤xs.length∧i = .int .i64 k∧∃ n,wr=w.drewN n) (fun i _ => xs.length - (intOf i).toNat)
 case atStart => exact ⟨0,Nat.zero_le _,rfl,0,rfl⟩
 case round =>
  obtain ⟨k,hk,rfl,n,rfl⟩ := hrel
  by_cases hlt:k<xs.length
  ·obtain ⟨b,off,rfl,-,hbn,hcell⟩ := hc (by omega)
   obtain ⟨b2,off2,rfl,-,hbn2,hcell2⟩ := hc2 (by omega)
   have hx:w.cell? ⟨b,off+k,none⟩ = some (.int .i64 (xs[k]?.getD 0)):=hcell k hlt
   have hx2:w.cell? ⟨b2,off2+k,none⟩ = some (.int .i64 (xs[k]?.getD 0)):=hcell2 k hlt
   have hlt':(k:Int)<(xs.length:Int):=by omega
   clear hcell hcell2 hc hc2
   generalize xs[k]?.getD 0=x at *
   go_wp2
   go_quiet (fail)
   go_wp2
   go_roundw
   case rel => exact ⟨k+1,by omega,by go_num,_,rfl⟩
   case measure => simp [intOf]; omega
  ·obtain rfl:k=xs.length:=by omega
   clear hc hc2
   go_wp2
   go_ret
   exact ⟨rfl,_,rfl⟩
set_option maxHeartbeats 400000 in
theorem eqBoolS_w (u v:Value) (xs:List Bool) (w:World) (hu:SlAt mT false 0 w.heap.size w u xs) (hv:SlAt mT false 0 w.heap.size w v xs) :
  Calls Tryz.prog 24 #[u,v] w fun e w' => e = .returned (.bool true)∧∃ n,w'=w.drewN n:=by
 obtain ⟨a,cap,rfl,hl,hc⟩ := hu
 obtain ⟨a2,cap2,rfl,-,hc2⟩ := hv
 unfold maxLen at hl
 go_enter Tryz.func24,Tryz.ntmps24
 go_wp2
 go_loopw [5] (fun i wr => ∃ k:Nat,k≤xs.length∧i = .int .i64 k∧∃ n,wr=w.drewN n) (fun i _ => xs.length - (intOf i).toNat)
 case atStart => exact ⟨0,Nat.zero_le _,rfl,0,rfl⟩
 case round =>
  obtain ⟨k,hk,rfl,n,rfl⟩ := hrel
  by_cases hlt:k<xs.length
  ·obtain ⟨b,off,rfl,-,hbn,hcell⟩ := hc (by omega)
   obtain ⟨b2,off2,rfl,-,hbn2,hcell2⟩ := hc2 (by omega)
   have hx:w.cell? ⟨b,off+k,none⟩ = some (.bool (xs[k]?.getD false)):=hcell k hlt
   have hx2:w.cell? ⟨b2,off2+k,none⟩ = some (.bool (xs[k]?.getD false)):=hcell2 k hlt
   have hlt':(k:Int)<(xs.length:Int):=by omega
   clear hcell hcell2 hc hc2
   generalize xs[k]?.getD false=x at *
   go_wp2
   go_quiet (fail)
   go_wp2
   go_roundw
   case rel => exact ⟨k+1,by omega,by go_num,_,rfl⟩
   case measure => simp [intOf]; omega
  ·obtain rfl:k=xs.length:=by omega
   clear hc hc2
   go_wp2
   go_ret
   exact ⟨rfl,_,rfl⟩
end Go.Proofs.YtlidckepahpaeaaGreatDoor
