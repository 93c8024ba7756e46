import Derived.Test.YtlidckepahpaeaaGreatDoorPk1
import Derived.Deep.OwnRows
import Derived.Test.YtlidckepahpaeaaGreatDoorPk12
import Derived.Test.YtlidckepahpaeaaGreatDoorPk7
import Derived.Maps.AppendAt
import Derived.Test.YtlidckepahpaeaaGreatDoorPk4
import Derived.RegionTactic
import Derived.BigRegion
namespace Go.Proofs.YtlidckepahpaeaaGreatDoor
open Go.RowKit
theorem Tryz.info79:(Tryz.prog.info? 79).map (fun i => (i.zero,i.size,i.bytes))=some (some (.agg #[.int .i64 0,.slice none 0 0,.int .i64 0,.int .i64 0]),4,48):=by kernel_rfl
theorem row_start (w:World) (c:Array Value) (n:Nat) (h:c.size=n):∃ f,(w.alloc (.cells c 79)).rowIs w.heap.size 79 n f:=by
 subst h
 exact ⟨fun i => c[i]?.getD undef,World.rowIs_alloc w c 79 _ (fun i hi => by rw [Array.getElem?_eq_getElem hi]; rfl)⟩
theorem run_make_els (n:Nat) (h:n≤1048576) (w:World) :
  (Instr.makeSlice 32 (.int .i64 (n:Int)) (.int .i64 (n:Int))).run Tryz.prog w = .ok (.slice (some ⟨w.heap.size,0,none⟩) n n) (w.alloc (.cells (madeCells #[.int .i64 0,.slice none 0 0,.int .i64 0,.int .i64 0] (n * 4)) 79)):=by
 obtain ⟨i,hi,hzz⟩ := Option.map_eq_some_iff.1 Tryz.info79
 simp only [Prod.mk.injEq] at hzz
 obtain ⟨hz,hs,hb⟩ := hzz
 have hr:=run_make (P:=Tryz.prog) w 32 79 i _ Tryz.underlying32 hi hz .i64 .i64 n n (by omega) (Int.le_refl _) (by rw [hb]; omega) (by omega)
 simpa only [Int.toNat_natCast,hs,Value.cells] using hr
def Unf (w:World) (b:Nat):Prop:=∃ c t,w.heap[b]? = some (.cells c t (0,0))
def El4 (w:World) (b o:Nat) (x:El) (sv:Value):Prop :=
 w.cell? ⟨b,o,none⟩ = some (.int .i64 x.kind)∧w.cell? ⟨b,o+1,none⟩ = some sv∧w.cell? ⟨b,o+2,none⟩ = some (.int .i64 x.mn)∧w.cell? ⟨b,o+3,none⟩ = some (.int .i64 x.mx)
theorem El4.same {w w':World} {b o:Nat} {x:El} {sv:Value} (h:El4 w b o x sv) (e:w'.heap[b]? = w.heap[b]?):El4 w' b o x sv:=by
 obtain ⟨h0,h1,h2,h3⟩ := h
 refine ⟨?_,?_,?_,?_⟩ <;> rw [World.cell?_of_block (w:=w) (by exact e)] <;> assumption
theorem El4.put {w:World} {b o o':Nat} {x:El} {sv u:Value} (h:El4 w b o x sv) (hne:o'<o∨o+3<o'):El4 (w.setCell ⟨b,o',none⟩ u) b o x sv:=by
 obtain ⟨h0,h1,h2,h3⟩ := h
 refine ⟨?_,?_,?_,?_⟩ <;> rw [put_other (Or.inr (by omega))] <;> assumption
def ElsW (lo n:Nat) (w:World) (v:Value) (xs:List El):Prop :=
 ∃ a cap,v = .slice a xs.length cap∧(xs.length≤cap∧cap≤maxLen)∧(0<xs.length→∃ (b off:Nat) (sv:Nat→Value) (sb:Nat→Nat),a=some ⟨b,off,none⟩∧lo≤b∧b<n∧Unf w b ∧
  (∀ i:Nat,i<xs.length→El4 w b (off+i * 4) (xs[i]?.getD dE) (sv i))∧(∀ i:Nat,i<xs.length→lo≤sb i∧sb i<n∧sb i ≠ b) ∧
  (∀ i j:Nat,i<xs.length→j<xs.length→i ≠ j→sb i ≠ sb j)∧∀ i:Nat,i<xs.length→SlW mI 0 (sb i) (sb i+1) w (sv i) (xs[i]?.getD dE).set)
theorem SlW.keep' {α:Type} {mk:α→Value} {d:α} {lo n m:Nat} {w w':World} {v:Value} {xs:List α} (h:SlW mk d lo n w v xs) (hb:Below m w w') (hn:n≤m):SlW mk d lo n w' v xs:=h.same (SameB.of_below hb hn)
theorem SlW.pin {α:Type} {mk:α→Value} {d:α} {lo n:Nat} {w:World} {v:Value} {xs:List α} (h:SlW mk d lo n w v xs) (hlt:lo<n):∃ b,lo≤b∧b<n∧SlW mk d b (b+1) w v xs:=by
 obtain ⟨a,cap,rfl,hl,hc⟩ := h
 by_cases hp:0<xs.length
 ·obtain ⟨b,off,rfl,h1,h2,h3,h4⟩ := hc hp
  exact ⟨b,h1,h2,_,cap,rfl,hl,fun _ => ⟨b,off,rfl,Nat.le_refl _,by omega,h3,h4⟩⟩
 ·exact ⟨lo,Nat.le_refl _,hlt,a,cap,rfl,hl,fun k => absurd k hp⟩
set_option maxHeartbeats 400000 in
theorem toOp_w (v:Value) (x:El) (w:World) (hv:SlAt mI 0 0 w.heap.size w v x.set) (hlen:x.set.length≤1048576) :
  Calls Tryz.prog 38 #[.agg #[.int .i64 x.kind,v,.int .i64 x.mn,.int .i64 x.mx]] w fun e w' => ∃ v',e = .returned (.agg #[.int .i64 x.kind,v',.int .i64 x.mn,.int .i64 x.mx])∧SlW mI 0 w.heap.size w'.heap.size w' v' x.set∧Below w.heap.size w w'∧w.heap.size<w'.heap.size:=by
 obtain ⟨a,cap,rfl,hl,hc⟩ := id hv
 go_enter Tryz.func38,Tryz.ntmps38
 go_wp2_with fail
 refine (toIntS_w _ x.set _ (by exact hv.below (below3 w _ _ _) (Nat.le_refl _)) hlen).mono ?_
 rintro e w1 ⟨v',rfl,hv',hb1⟩
 obtain ⟨hc1,hf1⟩ := bcell hb1
 simp only [sz_alloc] at hc1 hf1
 have hz:=hb1.size
 simp only [sz_alloc] at hz
 obtain ⟨a',cap',rfl,-,-⟩ := id hv'
 go_wp2
 refine bodyPost_ret (v:=.agg #[.int .i64 x.kind,.slice a' x.set.length cap',.int .i64 x.mn,.int .i64 x.mx]) (by simp [results,Tryz.results38,go_sem,hc1]) rfl ⟨_,rfl,?_,?_,by simp only [sz_put]; omega⟩
 ·refine ((hv'.mono (lo':=w.heap.size+1+1+1) (by rw [sz_alloc,sz_alloc,sz_alloc]; omega) (Nat.le_refl _)).same (SameB.put (SameB.put (SameB.put (SameB.put (SameB.put (SameB.put (SameB.put (SameB.refl _ _ _) (Or.inl (by omega)) _) (Or.inl (by omega)) _) (Or.inl (by omega)) _) (Or.inl (by omega)) _) (Or.inl (by omega)) _) (Or.inl (by omega)) _) (Or.inl (by omega)) _)).mono (by omega) (by simp only [sz_put]; omega)
 ·have hb0:Below w.heap.size w w1:=(below3 w _ _ _).trans (hb1.mono (by rw [sz_alloc,sz_alloc,sz_alloc]; omega))
  exact bput (bput (bput (bput (bput (bput (bput hb0 (by omega) _) (by omega) _) (by omega) _) (by omega) _) (by omega) _) (by omega) _) (by omega) _
theorem ints_sl {lo n:Nat} {w:World} {v:Value} {xs:List Int} (h:IntsAt lo n w v xs):SlAt mI 0 lo n w v xs:=by
 obtain ⟨a,cap,rfl,hl,hr,hc⟩ := h
 exact ⟨a,cap,rfl,hl,hc⟩
def Part (N:Nat) (w:World) (xs:List El) (k:Nat):Prop :=
 (∃ f,w.rowIs N 79 (xs.length * 4) f)∧∃ (sv:Nat→Value) (sb:Nat→Nat),(∀ i:Nat,i<k→El4 w N (i * 4) (xs[i]?.getD dE) (sv i))∧(∀ i:Nat,i<k→N<sb i∧sb i<w.heap.size) ∧
  (∀ i j:Nat,i<k→j<k→i ≠ j→sb i ≠ sb j)∧∀ i:Nat,i<k→SlW mI 0 (sb i) (sb i+1) w (sv i) (xs[i]?.getD dE).set
theorem part_step {N k:Nat} {wr w1:World} {xs:List El} {vs:Value} (h:Part N wr xs k) (hk:k<xs.length) (hb:Below wr.heap.size wr w1) (hlt:wr.heap.size<w1.heap.size) (hN:N<wr.heap.size)
  (hv:SlW mI 0 wr.heap.size w1.heap.size w1 vs (xs[k]?.getD dE).set) (w2:World)
  (hw:w2=(((w1.setCell ⟨N,k * 4,none⟩ (.int .i64 (xs[k]?.getD dE).kind)).setCell ⟨N,k * 4+1,none⟩ vs).setCell ⟨N,k * 4+2,none⟩ (.int .i64 (xs[k]?.getD dE).mn)).setCell ⟨N,k * 4+3,none⟩ (.int .i64 (xs[k]?.getD dE).mx)) :
  Part N w2 xs (k+1):=by
 subst hw
 obtain ⟨⟨f,hrow⟩,sv,sb,h4,h5,h6,h7⟩ := h
 have hrow1:=hrow.of_block (hb.block N hN)
 have hr:=(((hrow1.set (k * 4) (.int .i64 (xs[k]?.getD dE).kind)).set (k * 4+1) vs).set (k * 4+2) (.int .i64 (xs[k]?.getD dE).mn)).set (k * 4+3) (.int .i64 (xs[k]?.getD dE).mx)
 obtain ⟨bk,g1,g2,g3⟩ := hv.pin hlt
 refine ⟨⟨_,hr⟩,fun i => if i=k then vs else sv i,fun i => if i=k then bk else sb i,fun i hi => ?_,fun i hi => ?_,fun i j hi hj hne => ?_,fun i hi => ?_⟩
 ·by_cases e:i=k
  ·subst e
   simp only [if_true]
   refine ⟨?_,?_,?_,?_⟩
   ·rw [hr.cell (by omega)]; simp
   ·rw [hr.cell (by omega)]; simp
   ·rw [hr.cell (by omega)]; simp
   ·rw [hr.cell (by omega)]; simp
  ·simp only [e,if_false]
   exact (((((h4 i (by omega)).same (hb.block N hN)).put (by omega)).put (by omega)).put (by omega)).put (by omega)
 ·simp only [sz_put]
  by_cases e:i=k
  ·simp only [e,if_true]; omega
  ·simp only [e,if_false]
   have:=h5 i (by omega)
   have:=hb.size
   omega
 ·by_cases e1:i=k
  ·by_cases e2:j=k
   ·omega
   ·simp only [e1,e2,if_true,if_false]
    have:=h5 j (by omega)
    omega
  ·by_cases e2:j=k
   ·simp only [e1,e2,if_true,if_false]
    have:=h5 i (by omega)
    omega
   ·simp only [e1,e2,if_false]
    exact h6 i j (by omega) (by omega) hne
 ·by_cases e:i=k
  ·subst e
   simp only [if_true]
   exact g3.same (SameB.put (SameB.put (SameB.put (SameB.put (SameB.refl _ _ _) (Or.inl (by omega)) _) (Or.inl (by omega)) _) (Or.inl (by omega)) _) (Or.inl (by omega)) _)
  ·simp only [e,if_false]
   have:=h5 i (by omega)
   exact ((h7 i (by omega)).keep' hb (by omega)).same (SameB.put (SameB.put (SameB.put (SameB.put (SameB.refl _ _ _) (Or.inl (by omega)) _) (Or.inl (by omega)) _) (Or.inl (by omega)) _) (Or.inl (by omega)) _)
set_option maxHeartbeats 400000 in
set_option maxRecDepth 100000 in
theorem toOpS_w (v:Value) (xs:List El) (w:World) (hv:ElsAt 0 w.heap.size w v xs) (hlen:xs.length≤1048576) (hset:∀ i:Nat,(xs[i]?.getD dE).set.length≤1048576) :
  Calls Tryz.prog 17 #[v] w fun e w' => ∃ v',e = .returned v'∧ElsW w.heap.size w'.heap.size w' v' xs∧Below w.heap.size w w':=by
 obtain ⟨a,cap,rfl,hl,hc⟩ := hv
 have hmk:=run_make_els xs.length hlen
 go_enter Tryz.func17,Tryz.ntmps17
 go_wp2
 go_loopw [4] (fun i wr => ∃ k:Nat,k≤xs.length∧i = .int .i64 k∧Part w.heap.size wr xs k∧Below w.heap.size w wr) (fun i _ => xs.length - (intOf i).toNat)
 case atStart => exact ⟨0,Nat.zero_le _,rfl,⟨row_start w _ _ (size_madeCells _ _),fun _ => undef,fun _ => 0,by intro i hi; omega,by intro i hi; omega,by intro i j hi; omega,by intro i hi; omega⟩,below1 w _⟩
 case round =>
  obtain ⟨k,hk,rfl,hpart,hb⟩ := hrel
  have Hpart:=hide hpart
  obtain ⟨⟨f,hrow⟩,-⟩ := hpart
  by_cases hlt:k<xs.length
  ·obtain ⟨b,off,rfl,-,hbn,hel⟩ := hc (by omega)
   obtain ⟨i1,i2,i3,v,c0,c1,c2,c3,hints⟩ := (hel k hlt).same (Same.of_below hb (Nat.le_refl _)) (Nat.zero_le _) hbn
   have hsk:=hset k
   generalize hX:xs[k]?.getD dE=x at *
   have HX:=hide hX
   have hlt':(k:Int)<(xs.length:Int):=by omega
   have hrow':=hide hrow
   clear hmk hX hrow
   obtain ⟨a',cap',rfl,-,-,-⟩ := id hints
   go_wp2_with fail
   refine (toOp_w _ x _ (ints_sl (hints.mono (Nat.le_refl _) hb.size)) hsk).mono ?_
   rintro e w1 ⟨v',rfl,hv',hb1,hgt1⟩
   have hN:=(unhide hrow').lt
   have hrow:=(unhide hrow').of_block (hb1.block _ hN)
   have d0:=hrow.cell (i:=k * 4) (by omega)
   have d1:=hrow.cell (i:=k * 4+1) (by omega)
   have d2:=hrow.cell (i:=k * 4+2) (by omega)
   have d3:=hrow.cell (i:=k * 4+3) (by omega)
   have e0:=hrow.frozen (k * 4)
   have e1:=hrow.frozen (k * 4+1)
   have e2:=hrow.frozen (k * 4+2)
   have e3:=hrow.frozen (k * 4+3)
   obtain ⟨a2,cap2,rfl⟩ : ∃ a2 c2,v' = .slice a2 x.set.length c2:=by
    obtain ⟨a2,c2,e,-⟩ := hv'
    exact ⟨a2,c2,e⟩
   have Hv':=hide hv'
   have hz1:=hb1.size
   clear hrow hv'
   go_wp2
   have hst:=part_step (unhide Hpart) hlt hb1 hgt1 hN (by rw [unhide HX]; exact unhide Hv') _ rfl
   rw [unhide HX] at hst
   exact ⟨⟨k+1,by omega,by go_num,hst,bput (bput (bput (bput (hb.trans (hb1.mono hb.size)) (Nat.le_refl _) _) (Nat.le_refl _) _) (Nat.le_refl _) _) (Nat.le_refl _) _⟩,by simp [intOf]; omega⟩
  ·obtain rfl:k=xs.length:=by omega
   clear hmk hrow
   go_wp2
   go_ret
   obtain ⟨⟨f,hrow⟩,sv,sb,h4,h5,h6,h7⟩ := unhide Hpart
   have hN:=hrow.lt
   obtain ⟨c,hcb,-⟩ := hrow
   exact ⟨_,rfl,⟨some ⟨w.heap.size,0,none⟩,xs.length,rfl,⟨Nat.le_refl _,by unfold maxLen; omega⟩,fun _ => ⟨w.heap.size,0,sv,sb,rfl,Nat.le_refl _,hN,⟨c,79,hcb⟩,fun i hi => by rw [Nat.zero_add]; exact h4 i hi,fun i hi => by have:=h5 i hi; omega,h6,h7⟩⟩,hb⟩
def endE (k:Int):List El→Int
 | [] => k
 | x :: r => endE (k+3+x.set.length) r
def marksE (k:Int):List El→List El
 | [] => []
 | x :: r => ⟨k,cnts (k+1) x.set.length,k+1+x.set.length,k+2+x.set.length⟩ :: marksE (k+3+x.set.length) r
theorem marksE_len (k:Int) (xs:List El):(marksE k xs).length=xs.length:=by
 induction xs generalizing k with
 | nil => rfl
 | cons x r ih => simp [marksE,ih]
theorem marksE_get (k:Int) (xs:List El) (i:Nat) (h:i<xs.length):(marksE k xs)[i]?.getD dE=⟨endE k (xs.take i),cnts (endE k (xs.take i)+1) (xs[i]?.getD dE).set.length,endE k (xs.take i)+1+(xs[i]?.getD dE).set.length,endE k (xs.take i)+2+(xs[i]?.getD dE).set.length⟩ := by
 induction xs generalizing k i with
 | nil => simp at h
 | cons x r ih =>
  cases i with
  | zero => simp [marksE,endE]
  | succ i => simp only [marksE,List.getElem?_cons_succ,List.take_succ_cons,endE]; exact ih _ i (by simpa using h)
theorem endE_step (k:Int) (xs:List El) (i:Nat) (h:i<xs.length):endE k (xs.take (i+1))=endE k (xs.take i)+3+(xs[i]?.getD dE).set.length:=by
 induction xs generalizing k i with
 | nil => simp at h
 | cons x r ih =>
  cases i with
  | zero => simp [endE]
  | succ i => simp only [List.take_succ_cons,endE,List.getElem?_cons_succ]; exact ih _ i (by simpa using h)
theorem endE_bd (k:Int) (xs:List El):k≤endE k xs∧endE k xs=k+3 * xs.length+bulk xs:=by
 induction xs generalizing k with
 | nil => simp [endE,bulk]
 | cons x r ih => have:=ih (k+3+x.set.length); simp only [endE,bulk,List.length_cons]; omega
def mixE (k:Int) (xs:List El) (m i:Nat):El:=if i<m then (marksE k xs)[i]?.getD dE else xs[i]?.getD dE
theorem El4.putK {w:World} {b o:Nat} {x:El} {sv:Value} (h:El4 w b o x sv) (k:Int):El4 (w.setCell ⟨b,o,none⟩ (.int .i64 k)) b o ⟨k,x.set,x.mn,x.mx⟩ sv:=by
 obtain ⟨h0,h1,h2,h3⟩ := h
 exact ⟨put_same h0,by rw [put_other (Or.inr (by omega))]; exact h1,by rw [put_other (Or.inr (by omega))]; exact h2,by rw [put_other (Or.inr (by omega))]; exact h3⟩
theorem El4.putM {w:World} {b o:Nat} {x:El} {sv:Value} (h:El4 w b o x sv) (k:Int):El4 (w.setCell ⟨b,o+2,none⟩ (.int .i64 k)) b o ⟨x.kind,x.set,k,x.mx⟩ sv:=by
 obtain ⟨h0,h1,h2,h3⟩ := h
 exact ⟨by rw [put_other (Or.inr (by omega))]; exact h0,by rw [put_other (Or.inr (by omega))]; exact h1,put_same h2,by rw [put_other (Or.inr (by omega))]; exact h3⟩
theorem El4.putX {w:World} {b o:Nat} {x:El} {sv:Value} (h:El4 w b o x sv) (k:Int):El4 (w.setCell ⟨b,o+3,none⟩ (.int .i64 k)) b o ⟨x.kind,x.set,x.mn,k⟩ sv:=by
 obtain ⟨h0,h1,h2,h3⟩ := h
 exact ⟨by rw [put_other (Or.inr (by omega))]; exact h0,by rw [put_other (Or.inr (by omega))]; exact h1,by rw [put_other (Or.inr (by omega))]; exact h2,put_same h3⟩
def ElsF (S:Nat→Prop) (w:World) (v:Value) (xs:List El):Prop :=
 ∃ a cap,v = .slice a xs.length cap∧(xs.length≤cap∧cap≤maxLen)∧(0<xs.length→∃ (b off:Nat) (sv:Nat→Value) (T:Nat→Nat→Prop),a=some ⟨b,off,none⟩∧S b∧Free w b ∧
  (∀ i:Nat,i<xs.length→El4 w b (off+i * 4) (xs[i]?.getD dE) (sv i))∧(∀ i:Nat,i<xs.length→SlF mI 0 (T i) w (sv i) (xs[i]?.getD dE).set) ∧
  (∀ i:Nat,i<xs.length→∀ k,T i k→S k∧k ≠ b)∧∀ i j:Nat,i<xs.length→j<xs.length→i ≠ j→∀ k,T i k→¬ T j k)
theorem ElsW.foot {lo n:Nat} {w:World} {v:Value} {xs:List El} (h:ElsW lo n w v xs):ElsF (Rng lo n) w v xs:=by
 obtain ⟨a,cap,rfl,hl,hc⟩ := h
 refine ⟨a,cap,rfl,hl,fun hp => ?_⟩
 obtain ⟨b,off,sv,sb,e,h1,h2,h3,h4,h5,h6,h7⟩ := hc hp
 exact ⟨b,off,sv,fun i => Rng (sb i) (sb i+1),e,⟨h1,h2⟩,h3,h4,fun i hi => (h7 i hi).foot,fun i hi k hk => by have:=h5 i hi; unfold Rng at *; omega,
  fun i j hi hj hne k hk hk' => by have:=h6 i j hi hj hne; unfold Rng at *; omega⟩
theorem ElsF.same {S:Nat→Prop} {w w':World} {v:Value} {xs:List El} (h:ElsF S w v xs) (hs:∀ k,S k→w'.heap[k]? = w.heap[k]?):ElsF S w' v xs:=by
 obtain ⟨a,cap,rfl,hl,hc⟩ := h
 refine ⟨a,cap,rfl,hl,fun hp => ?_⟩
 obtain ⟨b,off,sv,T,e,h1,h2,h3,h4,h5,h6⟩ := hc hp
 exact ⟨b,off,sv,T,e,h1,h2.same (hs b h1),fun i hi => (h3 i hi).same (hs b h1),fun i hi => (h4 i hi).same (fun k hk => hs k (h5 i hi k hk).1),h5,h6⟩
theorem ElsF.mono {S S':Nat→Prop} {w:World} {v:Value} {xs:List El} (h:ElsF S w v xs) (hs:∀ k,S k→S' k):ElsF S' w v xs:=by
 obtain ⟨a,cap,rfl,hl,hc⟩ := h
 refine ⟨a,cap,rfl,hl,fun hp => ?_⟩
 obtain ⟨b,off,sv,T,e,h1,h2,h3,h4,h5,h6⟩ := hc hp
 exact ⟨b,off,sv,T,e,hs b h1,h2,h3,h4,fun i hi k hk => ⟨hs k (h5 i hi k hk).1,(h5 i hi k hk).2⟩,h6⟩
def Num (xs:List El):Prop:=∀ i:Nat,In64 (xs[i]?.getD dE).kind∧In64 (xs[i]?.getD dE).mn∧In64 (xs[i]?.getD dE).mx∧∀ j:Nat,In64 ((xs[i]?.getD dE).set[j]?.getD 0)
theorem ElsF.at {S:Nat→Prop} {N:Nat} {w:World} {v:Value} {xs:List El} (h:ElsF S w v xs) (hs:∀ k,S k→k<N) (hr:Num xs):ElsAt 0 N w v xs:=by
 obtain ⟨a,cap,rfl,hl,hc⟩ := h
 refine ⟨a,cap,rfl,hl,fun hp => ?_⟩
 obtain ⟨b,off,sv,T,e,h1,h2,h3,h4,h5,h6⟩ := hc hp
 refine ⟨b,off,e,Nat.zero_le _,hs b h1,fun i hi => ?_⟩
 obtain ⟨r1,r2,r3,r4⟩ := hr i
 obtain ⟨q0,q1,q2,q3⟩ := h3 i hi
 refine ⟨r1,r2,r3,sv i,q0,q1,q2,q3,?_⟩
 obtain ⟨a',cap',e',hl',hc'⟩ := (h4 i hi).at (N:=N) (fun k hk => hs k (h5 i hi k hk).1)
 refine ⟨a',cap',e',hl',r4,fun hp' => ?_⟩
 obtain ⟨b',off',e2,k1,k2,k4⟩ := hc' hp'
 exact ⟨b',off',e2,k1,k2,k4⟩
structure Pc where
 x:El
 s:Value
 T:Nat→Prop
def cell4 (x:El) (s:Value):List Value := [.int .i64 x.kind,s,.int .i64 x.mn,.int .i64 x.mx]
def cellsP:List Pc→List Value
 | [] => []
 | p :: r => cell4 p.x p.s ++ cellsP r
theorem cellsP_append (a b:List Pc):cellsP (a ++ b)=cellsP a ++ cellsP b:=by
 induction a with
 | nil => rfl
 | cons p r ih => simp [cellsP,ih]
theorem cellsP_len (a:List Pc):(cellsP a).length=a.length * 4:=by
 induction a with
 | nil => rfl
 | cons p r ih => simp [cellsP,ih,cell4]; omega
theorem cellsP_get (a:List Pc) (i:Nat) (p:Pc) (h:a[i]? = some p) (j:Nat) (hj:j<4):(cellsP a)[i * 4+j]? = (cell4 p.x p.s)[j]? := by
 induction a generalizing i with
 | nil => simp at h
 | cons q r ih =>
  cases i with
  | zero =>
   simp at h
   subst h
   rw [cellsP,List.getElem?_append_left (by simp [cell4]; omega)]
   simp
  | succ i =>
   rw [cellsP,List.getElem?_append_right (by simp [cell4]; omega),show (i+1) * 4+j - (cell4 q.x q.s).length=i * 4+j by simp [cell4]; omega]
   exact ih i (by simpa using h)
theorem cellsP_one (a:List Pc) (hs:∀ p ∈ a,p.s.oneCell'=true):∀ u ∈ cellsP a,u.oneCell'=true:=by
 induction a with
 | nil => intro u hu; simp [cellsP] at hu
 | cons p r ih =>
  intro u hu
  simp only [cellsP,cell4,List.mem_append,List.mem_cons,List.not_mem_nil,or_false] at hu
  rcases hu with (rfl | rfl | rfl | rfl) | hu
  ·rfl
  ·exact hs p (by simp)
  ·rfl
  ·rfl
  ·exact ih (fun q hq => hs q (by simp [hq])) u hu
def Apart (ps:List Pc):Prop:=ps.Pairwise (fun p q => ∀ k,p.T k→¬ q.T k)
structure GrowP (base:Nat) (w:World) (v:Value) (ps:List Pc):Prop where
 own:w.ownsRow base 79 4 v ps.length (cellsP ps)
 set:∀ p ∈ ps,SlF mI 0 p.T w p.s p.x.set
 blk:∀ p ∈ ps,∀ k,p.T k→base≤k∧k<w.heap.size∧v.ownBlock ≠ some k
 dis:Apart ps
def GrowE (base:Nat) (w:World) (v:Value) (xs:List El):Prop:=∃ ps:List Pc,ps.map Pc.x=xs∧GrowP base w v ps
theorem GrowE.nil (base:Nat) (w:World):GrowE base w (.slice none 0 0) []:=⟨[],rfl,World.ownsRow_nil _ _ _ _,by simp,by simp,List.Pairwise.nil⟩
theorem GrowP.keep {base m:Nat} {w w':World} {v:Value} {ps:List Pc} (h:GrowP base w v ps) (hb:Below m w w') (hm:w.heap.size≤m):GrowP base w' v ps :=
 ⟨h.own.kept (show w.grownBy w' none from ⟨hb.os,hb.tape,hb.output,hb.size,fun k hk _ => hb.block k (by omega)⟩) (by cases v.ownBlock <;> simp),
  fun p hp => (h.set p hp).same (fun k hk => hb.block k (by have:=(h.blk p hp k hk).2.1; omega)),fun p hp k hk => by have h1:=h.blk p hp k hk; have h2:=hb.size; exact ⟨h1.1,by omega,h1.2.2⟩,h.dis⟩
theorem GrowE.keep {base m:Nat} {w w':World} {v:Value} {xs:List El} (h:GrowE base w v xs) (hb:Below m w w') (hm:w.heap.size≤m):GrowE base w' v xs:=by
 obtain ⟨ps,e,h1⟩ := h
 exact ⟨ps,e,h1.keep hb hm⟩
theorem GrowP.app {base:Nat} {w0 w w':World} {v v':Value} {ps qs:List Pc} (h:GrowP base w0 v ps) (hbase:base≤w0.heap.size) (hb:Below w0.heap.size w0 w) (hq:∀ p ∈ qs,SlF mI 0 p.T w p.s p.x.set) (hT:∀ p ∈ qs,∀ k,p.T k→w0.heap.size≤k∧k<w.heap.size) (hd:Apart qs)
  (h1:w'.ownsRow base 79 4 v' (ps.length+qs.length) (cellsP ps ++ cellsP qs)) (hg:w.grownBy w' v.ownBlock) (ho:v'.ownBlock=v.ownBlock∨v'.ownBlock=some w.heap.size):GrowP base w' v' (ps ++ qs):=by
 have hs:=hb.size
 have hgz:w.heap.size≤w'.heap.size:=hg.size
 have hvb:∀ k,w0.heap.size≤k→v.ownBlock ≠ some k:=fun k hk e => by have:=(h.own.lt k e).2; omega
 have hv'b:∀ k,k<w.heap.size→v.ownBlock ≠ some k→v'.ownBlock ≠ some k:=fun k hk hne e => by
  rcases ho with ho | ho
  ·exact hne (by rw [← ho,e])
  ·rw [ho] at e; simp at e; omega
 have hblk:∀ k,k<w.heap.size→v.ownBlock ≠ some k→w'.heap[k]? = w.heap[k]? := fun k hk hne => hg.block k hk (fun e => hne e.symm)
 refine ⟨by rw [List.length_append,cellsP_append]; exact h1,fun p hp => ?_,fun p hp k hk => ?_,List.pairwise_append.2 ⟨h.dis,hd,fun p hp q hq2 k hk hk' => ?_⟩⟩
 ·rcases List.mem_append.1 hp with hp | hp
  ·refine ((h.set p hp).same (w':=w) (fun k hk => hb.block k (h.blk p hp k hk).2.1)).same (fun k hk => ?_)
   have:=h.blk p hp k hk
   exact hblk k (by omega) this.2.2
  ·exact (hq p hp).same (fun k hk => hblk k (hT p hp k hk).2 (hvb k (hT p hp k hk).1))
 ·rcases List.mem_append.1 hp with hp | hp
  ·have:=h.blk p hp k hk
   exact ⟨this.1,by omega,hv'b k (by omega) this.2.2⟩
  ·have:=hT p hp k hk
   exact ⟨by omega,by omega,hv'b k this.2 (hvb k this.1)⟩
 ·have h3:=h.blk p hp k hk
  have h4:=hT q hq2 k hk'
  omega
theorem GrowP.foot {base:Nat} {w:World} {v:Value} {ps:List Pc} (h:GrowP base w v ps):ElsF (Rng base w.heap.size) w v (ps.map Pc.x):=by
 rcases h.own.2 with ⟨rfl,hz⟩ | ⟨g,cap,cur,rfl,hbg,hgc,hnc,hcm,hcs,htake⟩
 ·obtain rfl:ps = []:=List.eq_nil_of_length_eq_zero hz
  exact ⟨none,0,rfl,⟨Nat.le_refl _,by unfold maxLen; omega⟩,fun hp => absurd hp (by simp)⟩
 ·have hlt:=(h.own.lt g rfl).2
  refine ⟨_,cap,by simp,⟨by simpa using hnc,hcm⟩,fun _ => ⟨g,0,fun i => (ps[i]?.map Pc.s).getD undef,fun i k => ∃ p,ps[i]? = some p∧p.T k,rfl,⟨hbg,hlt⟩,⟨cur,_,hgc⟩,fun i hi => ?_,fun i hi => ?_,fun i hi k hk => ?_,fun i j hi hj hne k hk hk' => ?_⟩⟩
  ·rw [List.length_map] at hi
   have hp:ps[i]? = some ps[i]:=List.getElem?_eq_getElem hi
   have e:(ps.map Pc.x)[i]?.getD dE=ps[i].x:=by rw [List.getElem?_map,hp]; rfl
   simp only [hp,Option.map_some,Option.getD_some,e,Nat.zero_add]
   have hc:∀ j,j<4→w.cell? ⟨g,i * 4+j,none⟩ = (cell4 ps[i].x ps[i].s)[j]? := fun j hj => by
    rw [h.own.cellAt (i * 4+j) (by omega)]; exact cellsP_get ps i _ hp j hj
   exact ⟨hc 0 (by omega),hc 1 (by omega),hc 2 (by omega),hc 3 (by omega)⟩
  ·rw [List.length_map] at hi
   have hp:ps[i]? = some ps[i]:=List.getElem?_eq_getElem hi
   have e:(ps.map Pc.x)[i]?.getD dE=ps[i].x:=by rw [List.getElem?_map,hp]; rfl
   simp only [hp,Option.map_some,Option.getD_some,e]
   exact (h.set _ (List.getElem_mem hi)).mono (fun k hk => ⟨_,rfl,hk⟩)
  ·obtain ⟨p,hp,hk⟩ := hk
   have hm:=List.mem_of_getElem? hp
   have:=h.blk p hm k hk
   exact ⟨⟨this.1,this.2.1⟩,fun e => this.2.2 (by rw [e]; rfl)⟩
  ·obtain ⟨p,hp,hk⟩ := hk
   obtain ⟨q,hq,hk'⟩ := hk'
   rw [List.length_map] at hi hj
   rw [List.getElem?_eq_getElem hi] at hp
   rw [List.getElem?_eq_getElem hj] at hq
   simp only [Option.some.injEq] at hp hq
   subst hp hq
   rcases Nat.lt_or_gt_of_ne hne with hlt | hgt
   ·exact List.pairwise_iff_getElem.1 h.dis i j hi hj hlt k hk hk'
   ·exact List.pairwise_iff_getElem.1 h.dis j i hj hi hgt k hk' hk
theorem GrowE.foot {base:Nat} {w:World} {v:Value} {xs:List El} (h:GrowE base w v xs):ElsF (Rng base w.heap.size) w v xs:=by
 obtain ⟨ps,rfl,h1⟩ := h
 exact h1.foot
theorem GrowE.base {base base':Nat} {w:World} {v:Value} {xs:List El} (h:GrowE base w v xs) (hb:base'≤base):GrowE base' w v xs:=by
 obtain ⟨ps,e,h1⟩ := h
 refine ⟨ps,e,⟨h1.own.1,h1.own.2.imp id (fun ⟨g,cap,cur,q1,q2,q3⟩ => ⟨g,cap,cur,q1,by omega,q3⟩)⟩,h1.set,fun p hp k hk => ⟨by have:=(h1.blk p hp k hk).1; omega,(h1.blk p hp k hk).2⟩,h1.dis⟩
theorem GrowE.form {base:Nat} {w:World} {v:Value} {xs:List El} (h:GrowE base w v xs):∃ a c,v = .slice a xs.length c:=by
 obtain ⟨ps,rfl,h1⟩ := h
 rcases h1.own.2 with ⟨rfl,hz⟩ | ⟨g,cap,cur,rfl,-⟩
 ·exact ⟨none,0,by rw [List.length_map,hz]⟩
 ·exact ⟨_,cap,by rw [List.length_map]⟩
set_option maxHeartbeats 1000000 in
theorem validElement_any (v:Value) (x:El) (w:World) (hv:IntsAt 0 w.heap.size w v x.set) :
  Calls Tryz.prog 71 #[.agg #[.int .i64 x.kind,v,.int .i64 x.mn,.int .i64 x.mx]] w fun e w' => RetB e (ElOk x)∧Below w.heap.size w w':=by
 obtain ⟨a,cap,rfl,hl,-,-⟩ := id hv
 unfold maxLen at hl
 obtain ⟨k,xs,mn,mx⟩ := x
 simp only at *
 have Hv:=hide hv
 clear hv
 by_cases h1:k=1
 ·subst h1
  go_enter Tryz.func71,Tryz.ntmps71
  go_wp2_with fail
  refine (canonical_any _ xs _ (by exact (unhide Hv).below (below1 w _) (Nat.le_refl _))).mono ?_
  rintro e w1 ⟨hret,hb1⟩
  obtain ⟨hc1,hf1⟩ := bcell hb1
  simp only [sz_alloc] at hc1 hf1
  have hB:Below w.heap.size w w1:=(below1 w _).trans (hb1.mono (by rw [sz_alloc]; omega))
  clear hb1
  rcases hret.cases with ⟨rfl,hcn⟩ | ⟨rfl,hcn⟩
  ·have Hcn:=hide hcn
   clear hcn
   by_cases h2:mn=0
   ·by_cases h3:mx=0
    ·go_wp2
     go_ret
     exact ⟨RetB.yes (Or.inl ⟨rfl,unhide Hcn,h2,h3⟩),hB⟩
    ·have h3':(mx == 0)=false:=by simp [h3]
     go_wp2
     go_ret
     exact ⟨RetB.no (by rintro (⟨q1,q2,q3,q4⟩ | ⟨q1,q2,q3,q4⟩ | ⟨q1,q2,q3,q4,q5⟩) <;> simp only at * <;> omega),hB⟩
   ·have h2':(mn == 0)=false:=by simp [h2]
    go_wp2
    go_ret
    exact ⟨RetB.no (by rintro (⟨q1,q2,q3,q4⟩ | ⟨q1,q2,q3,q4⟩ | ⟨q1,q2,q3,q4,q5⟩) <;> simp only at * <;> omega),hB⟩
  ·have Hcn:=hide hcn
   clear hcn
   go_wp2
   go_ret
   exact ⟨RetB.no (by rintro (⟨q1,q2,q3,q4⟩ | ⟨q1,q2,q3,q4⟩ | ⟨q1,q2,q3,q4,q5⟩) <;> simp only at * <;> first | exact unhide Hcn q2 | omega),hB⟩
 ·have b1:(k == 1)=false:=by simp [h1]
  by_cases h4:k=4
  ·subst h4
   by_cases hlen:xs.length=0
   ·have hlen':((xs.length:Int) == 0)=true:=by simp; exact List.eq_nil_of_length_eq_zero hlen
    have Hlen:=hide hlen
    clear hlen
    go_enter Tryz.func71,Tryz.ntmps71
    go_wp2_with fail
    refine (validBounds_any mn mx _).mono ?_
    rintro e w1 ⟨hret,rfl⟩
    rcases hret.cases with ⟨rfl,hcn⟩ | ⟨rfl,hcn⟩
    ·have Hcn:=hide hcn
     clear hcn
     go_wp2
     go_ret
     exact ⟨RetB.yes (Or.inr (Or.inr ⟨rfl,unhide Hlen,unhide Hcn⟩)),below1 w _⟩
    ·have Hcn:=hide hcn
     clear hcn
     go_wp2
     go_ret
     exact ⟨RetB.no (by rintro (⟨q1,q2,q3,q4⟩ | ⟨q1,q2,q3,q4⟩ | ⟨q1,q2,q3⟩) <;> simp only at * <;> first | exact unhide Hcn q3 | omega),below1 w _⟩
   ·have hlen':((xs.length:Int) == 0)=false:=by simp; intro e; exact hlen (by rw [e]; rfl)
    go_enter Tryz.func71,Tryz.ntmps71
    go_wp2
    go_ret
    exact ⟨RetB.no (by rintro (⟨q1,q2,q3,q4⟩ | ⟨q1,q2,q3,q4⟩ | ⟨q1,q2,q3⟩) <;> simp only at * <;> omega),below1 w _⟩
  ·have b4:(k == 4)=false:=by simp [h4]
   by_cases hk:k=0∨k=2∨k=3
   ·by_cases hlen:xs.length=0
    ·have hlen':((xs.length:Int) == 0)=true:=by simp; exact List.eq_nil_of_length_eq_zero hlen
     have Hlen:=hide hlen
     clear hlen h1 h4
     by_cases h2:mn=0
     ·by_cases h3:mx=0
      ·rcases hk with rfl | rfl | rfl
       all_goals
        go_enter Tryz.func71,Tryz.ntmps71
        go_wp2
        go_ret
        exact ⟨RetB.yes (Or.inr (Or.inl ⟨by simp,unhide Hlen,h2,h3⟩)),below1 w _⟩
      ·have h3':(mx == 0)=false:=by simp [h3]
       rcases hk with rfl | rfl | rfl
       all_goals
        go_enter Tryz.func71,Tryz.ntmps71
        go_wp2
        go_ret
        exact ⟨RetB.no (by rintro (⟨q1,q2,q3,q4⟩ | ⟨q1,q2,q3,q4⟩ | ⟨q1,q2,q3,q4,q5⟩) <;> simp only at * <;> omega),below1 w _⟩
     ·have h2':(mn == 0)=false:=by simp [h2]
      rcases hk with rfl | rfl | rfl
      all_goals
       go_enter Tryz.func71,Tryz.ntmps71
       go_wp2
       go_ret
       exact ⟨RetB.no (by rintro (⟨q1,q2,q3,q4⟩ | ⟨q1,q2,q3,q4⟩ | ⟨q1,q2,q3,q4,q5⟩) <;> simp only at * <;> omega),below1 w _⟩
    ·have hlen':((xs.length:Int) == 0)=false:=by simp; intro e; exact hlen (by rw [e]; rfl)
     clear h1 h4
     rcases hk with rfl | rfl | rfl
     all_goals
      go_enter Tryz.func71,Tryz.ntmps71
      go_wp2
      go_ret
      exact ⟨RetB.no (by rintro (⟨q1,q2,q3,q4⟩ | ⟨q1,q2,q3,q4⟩ | ⟨q1,q2,q3,q4,q5⟩) <;> simp only at * <;> omega),below1 w _⟩
   ·have b0:(k == 0)=false:=by simp; omega
    have b2:(k == 2)=false:=by simp; omega
    have b3:(k == 3)=false:=by simp; omega
    go_enter Tryz.func71,Tryz.ntmps71
    go_wp2
    go_ret
    exact ⟨RetB.no (by rintro (⟨q1,q2,q3,q4⟩ | ⟨q1,q2,q3,q4⟩ | ⟨q1,q2,q3,q4,q5⟩) <;> simp only at * <;> omega),below1 w _⟩
end Go.Proofs.YtlidckepahpaeaaGreatDoor
