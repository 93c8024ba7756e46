import Derived.Test.YtlidckepahpaeaaGreatDoorPk28
import Derived.Test.YtlidckepahpaeaaGreatDoorPk21
import Derived.BigQuiet
import Derived.Test.YtlidckepahpaeaaGreatDoorPk27
namespace Go.Proofs.YtlidckepahpaeaaGreatDoor
open Go.RowKit
theorem Tryz.lawPd:Maps.Keyed Tryz.prog 115:=Maps.Keyed.of_law (deep_law_laid Tryz.laidOutN (m:=4) (by omega) (of_decide_eq_true (by kernel_rfl)) (by kernel_rfl) (by rw [Tryz.underlying115]))
theorem key_pd {g:Nat→Nat} (h:Fit g) (e:Bool):KeyIs 115 (pd g e):=by
 have c0:Tryz.prog.cellsOf 115=9:=by kernel_rfl
 have c1:Tryz.prog.cellsOf 99=8:=by kernel_rfl
 have c2:Tryz.prog.cellsOf 83=1:=by kernel_rfl
 have c3:Tryz.prog.cellsOf 4=1:=by kernel_rfl
 have hk:Tryz.prog.keyType 115=true:=by kernel_rfl
 obtain ⟨m,hm⟩ : ∃ m,Tryz.prog.types.size=m+1+1:=⟨Tryz.prog.types.size - 2,by have:2<Tryz.prog.types.size:=of_decide_eq_true (by kernel_rfl); omega⟩
 unfold KeyIs keyOf
 simp only [Tryz.underlying115]
 rw [if_pos (by simp [hk,Value.formed,Tryz.underlying115,c0,pd]),hm]
 unfold Program.keyLits
 simp only [Tryz.underlying115,Value.cells,pd]
 first
  | rw [if_pos (by rw [c0]; rfl)]
  | skip
 simp [List.range_succ,Program.keyLits,Tryz.underlying99,Tryz.underlying83,Tryz.underlying4,c0,c1,c2,c3,wf64 (h 0),wf64 (h 1),wf64 (h 2),wf64 (h 3),wf64 (h 4),wf64 (h 5),wf64 (h 6),wf64 (h 7)]
set_option maxHeartbeats 2000000 in
set_option maxRecDepth 100000 in
theorem newPd_any (w:World):Calls Tryz.prog 47 #[] w fun e w' => e = .returned (.agg #[.map (some (w.heap.size+1))])∧NumAt 115 w' (w.heap.size+1) []∧w'.heap.size=w.heap.size+2∧Below w.heap.size w w':=by
 have hmm := @run_makeMap Tryz.prog
 have hN:=num_new 115 (w.alloc (.cells #[.map (some (w.heap.size+1))] 112))
 rw [sz_alloc] at hN
 have hB:=below2 w (.cells #[.map (some (w.heap.size+1))] 112) (.map #[] 0)
 have HN:=hide hN
 have HB:=hide hB
 clear hN hB
 go_enter Tryz.func47,Tryz.ntmps47
 go_wp2
 refine bodyPost_ret (v:=.agg #[.map (some (w.heap.size+1))]) (by simp [results,Tryz.results47,go_sem]) rfl ?_
 refine ⟨rfl,unhide HN,by rw [sz_alloc,sz_alloc],unhide HB⟩
set_option maxHeartbeats 4000000 in
set_option maxRecDepth 100000 in
theorem ofPd_any (b:Nat) (g:Nat→Nat) (e:Bool) (ks:List Value) (w:World) (h:NumAt 115 w b ks) (hg:Fit g) (hn:ks.length<100000) :
  Calls Tryz.prog 48 #[.agg #[.map (some b)],pd g e] w fun e1 w' => ∃ i ks' f,e1 = .returned (.tuple #[.int .i64 (i:Nat),.bool f])∧NumR ks (pd g e) ks' i f∧NumAt 115 w' b ks'∧FrO (OneB w b) w w':=by
 have hB:=below2 w (.cells #[.map (some b)] 112) (.cells #[.int .u64 (g 0:Nat),.int .u64 (g 1:Nat),.int .u64 (g 2:Nat),.int .u64 (g 3:Nat),.int .u64 (g 4:Nat),.int .u64 (g 5:Nat),.int .u64 (g 6:Nat),.int .u64 (g 7:Nat),.bool e] 115)
 have hlt:=h.lt
 have hW:=h.keep (hB.block b hlt)
 have hz:((w.alloc (.cells #[.map (some b)] 112)).alloc (.cells #[.int .u64 (g 0:Nat),.int .u64 (g 1:Nat),.int .u64 (g 2:Nat),.int .u64 (g 3:Nat),.int .u64 (g 4:Nat),.int .u64 (g 5:Nat),.int .u64 (g 6:Nat),.int .u64 (g 7:Nat),.bool e] 115)).heap.size=w.heap.size+2:=by rw [sz_alloc,sz_alloc]
 have HF0:Hid (FrO (OneB w b) w ((w.alloc (.cells #[.map (some b)] 112)).alloc (.cells #[.int .u64 (g 0:Nat),.int .u64 (g 1:Nat),.int .u64 (g 2:Nat),.int .u64 (g 3:Nat),.int .u64 (g 4:Nat),.int .u64 (g 5:Nat),.int .u64 (g 6:Nat),.int .u64 (g 7:Nat),.bool e] 115))):=fro_of hB (fun k hk => Or.inr hk)
 rcases hW.look Tryz.lawPd Tryz.underlying110 (key_pd hg e) with ⟨i,hi,hl⟩ | ⟨hno,hl⟩
 ·have HW:=hide hW
  have HI:=hide hi
  clear hW hi h hB
  unfold pd at hl ⊢
  go_enter Tryz.func48,Tryz.ntmps48
  go_wp2
  go_ret2
  exact ⟨i,ks,false,rfl,Or.inl ⟨List.mem_of_getElem? (unhide HI),rfl,unhide HI,rfl⟩,unhide HW,unhide HF0⟩
 ·have hln:=fun ty => hW.len Tryz.underlying110 ty
  obtain ⟨w3,hput,hN3,hob⟩ := hW.put Tryz.lawPd Tryz.underlying110 hn (key_pd hg e) hno
  have HN3:=hide hN3
  have HF3:=hide ((unhide HF0).trans (hob.fro (Or.inl rfl)))
  have HNO:=hide hno
  clear hW hno h hB hN3 hob
  unfold pd at hl hput ⊢
  go_enter Tryz.func48,Tryz.ntmps48
  go_wp2
  go_ret2
  exact ⟨ks.length,ks ++ [pd g e],true,rfl,Or.inr ⟨unhide HNO,rfl,rfl,rfl⟩,unhide HN3,unhide HF3⟩
set_option maxHeartbeats 2000000 in
set_option maxRecDepth 100000 in
theorem countPd_any (b:Nat) (ks:List Value) (w:World) (h:NumAt 115 w b ks) :
  Calls Tryz.prog 53 #[.agg #[.map (some b)]] w fun e w' => e = .returned (.int .i64 (ks.length:Nat))∧Below w.heap.size w w':=by
 have hB:=below1 w (.cells #[.map (some b)] 112)
 have hW:=h.keep (hB.block b h.lt)
 have hln:=fun ty => hW.len Tryz.underlying110 ty
 have HB:=hide hB
 clear hW h hB
 go_enter Tryz.func53,Tryz.ntmps53
 go_wp2
 go_ret
 exact ⟨rfl,unhide HB⟩
def Rq2 (w:World) (b:Nat) (t:TypeId) (c0 c1:Value):Prop:=w.rowIs b t 2 (fun j => [c0,c1].getD j undef)
theorem Rq2.new (w:World) (t:TypeId) (c0 c1:Value):Rq2 (w.alloc (.cells #[c0,c1] t)) w.heap.size t c0 c1 :=
 World.rowIs_alloc w #[c0,c1] t _ (fun i hi => by
  match i,hi with
  | 0,_ => rfl
  | 1,_ => rfl)
theorem Rq2.alloc {w:World} {b:Nat} {t:TypeId} {c0 c1:Value} (h:Rq2 w b t c0 c1) (o:Obj):Rq2 (w.alloc o) b t c0 c1:=World.rowIs.alloc h o
theorem Rq2.on {w w':World} {b:Nat} {t:TypeId} {c0 c1:Value} (h:Rq2 w b t c0 c1) (e:w'.heap[b]? = w.heap[b]?):Rq2 w' b t c0 c1:=World.rowIs.of_block h e
theorem Rq2.put0 {w:World} {b:Nat} {t:TypeId} {c0 c1 u:Value} (h:Rq2 w b t c0 c1):Rq2 (w.setCell ⟨b,0,none⟩ u) b t u c1:=(World.rowIs.set h 0 u).congr (fun i hi => by
  match i,hi with
  | 0,_ => rfl
  | 1,_ => rfl)
theorem Rq2.put1 {w:World} {b:Nat} {t:TypeId} {c0 c1 u:Value} (h:Rq2 w b t c0 c1):Rq2 (w.setCell ⟨b,1,none⟩ u) b t c0 u:=(World.rowIs.set h 1 u).congr (fun i hi => by
  match i,hi with
  | 0,_ => rfl
  | 1,_ => rfl)
theorem Rq2.cells {w:World} {b:Nat} {t:TypeId} {c0 c1:Value} (h:Rq2 w b t c0 c1):w.cell? ⟨b,0,none⟩ = some c0∧w.cell? ⟨b,1,none⟩ = some c1:=⟨World.rowIs.cell h (i:=0) (by omega),World.rowIs.cell h (i:=1) (by omega)⟩
theorem Obk.bel {g m:Nat} {a b:World} (h:Obk g a b) (hm:m≤g):Below m a b:=⟨h.os,h.tape,h.output,by rw [h.size]; exact Nat.le_refl _,fun k hk => h.block k (by omega)⟩
theorem put9_ob (w:World) (B:Nat) (v0 v1 v2 v3 v4 v5 v6 v7 v8:Value):Obk B w (((((((((w.setCell ⟨B,0,none⟩ v0).setCell ⟨B,1,none⟩ v1).setCell ⟨B,2,none⟩ v2).setCell ⟨B,3,none⟩ v3).setCell ⟨B,4,none⟩ v4).setCell ⟨B,5,none⟩ v5).setCell ⟨B,6,none⟩ v6).setCell ⟨B,7,none⟩ v7).setCell ⟨B,8,none⟩ v8) :=
 ((((((((obk_put _ _).trans (obk_put _ _)).trans (obk_put _ _)).trans (obk_put _ _)).trans (obk_put _ _)).trans (obk_put _ _)).trans (obk_put _ _)).trans (obk_put _ _)).trans (obk_put _ _)
theorem row9_all {w:World} {B:Nat} {t:TypeId} {f:Nat→Value} (h:w.rowIs B t 9 f) (g:Nat→Nat) (e:Bool):(((((((((w.setCell ⟨B,0,none⟩ (.int .u64 (g 0:Nat))).setCell ⟨B,1,none⟩ (.int .u64 (g 1:Nat))).setCell ⟨B,2,none⟩ (.int .u64 (g 2:Nat))).setCell ⟨B,3,none⟩ (.int .u64 (g 3:Nat))).setCell ⟨B,4,none⟩ (.int .u64 (g 4:Nat))).setCell ⟨B,5,none⟩ (.int .u64 (g 5:Nat))).setCell ⟨B,6,none⟩ (.int .u64 (g 6:Nat))).setCell ⟨B,7,none⟩ (.int .u64 (g 7:Nat))).setCell ⟨B,8,none⟩ (.bool e)).rowIs B t 9 (pdF g e):=by
 refine (World.rowIs.set (World.rowIs.set (World.rowIs.set (World.rowIs.set (World.rowIs.set (World.rowIs.set (World.rowIs.set (World.rowIs.set (World.rowIs.set h 0 _) 1 _) 2 _) 3 _) 4 _) 5 _) 6 _) 7 _) 8 _).congr (fun i hi => ?_)
 match i,hi with
 | 0,_ => rfl
 | 1,_ => rfl
 | 2,_ => rfl
 | 3,_ => rfl
 | 4,_ => rfl
 | 5,_ => rfl
 | 6,_ => rfl
 | 7,_ => rfl
 | 8,_ => rfl
set_option maxHeartbeats 4000000 in
set_option maxRecDepth 100000 in
theorem popP_none (q l c:Nat) (a:Option Addr) (w:World) (h:Rq2 w q 118 (.slice a l c) (.int .i64 (l:Nat))) :
  Calls Tryz.prog 51 #[.pointer (some ⟨q,0,none⟩)] w fun e w' => e = .returned (.tuple #[pd (fun _ => 0) false,.bool false])∧Below w.heap.size w w':=by
 have hb1:=below1 w (.cells #[.int .u64 0,.int .u64 0,.int .u64 0,.int .u64 0,.int .u64 0,.int .u64 0,.int .u64 0,.int .u64 0,.bool false] 115)
 have h1:=h.alloc (.cells #[.int .u64 0,.int .u64 0,.int .u64 0,.int .u64 0,.int .u64 0,.int .u64 0,.int .u64 0,.int .u64 0,.bool false] 115)
 have c0:(w.alloc (.cells #[.int .u64 0,.int .u64 0,.int .u64 0,.int .u64 0,.int .u64 0,.int .u64 0,.int .u64 0,.int .u64 0,.bool false] 115)).cell? ⟨q,0,none⟩ = some (.slice a l c):=World.rowIs.cell h1 (i:=0) (by omega)
 have c1:(w.alloc (.cells #[.int .u64 0,.int .u64 0,.int .u64 0,.int .u64 0,.int .u64 0,.int .u64 0,.int .u64 0,.int .u64 0,.bool false] 115)).cell? ⟨q,1,none⟩ = some (.int .i64 (l:Nat)):=World.rowIs.cell h1 (i:=1) (by omega)
 have HB:=hide hb1
 clear h h1 hb1
 go_enter Tryz.func51,Tryz.ntmps51
 go_wp2_with fail
 go_quiet (fail)
 go_wp2
 refine bodyPost_ret (v:=.tuple #[pd (fun _ => 0) false,.bool false]) (by simp [results,Tryz.results51,go_sem,pd]) rfl ?_
 exact ⟨rfl,(below_drewN (unhide HB) _).trans ((put9_ob _ _ _ _ _ _ _ _ _ _ _).bel (Nat.le_refl _))⟩
set_option maxHeartbeats 8000000 in
set_option maxRecDepth 100000 in
theorem popP_some (q b t l c:Nat) (g:Nat→Nat) (e:Bool) (w:World) (hl:l≤100000) (ht:t<l) (h:Rq2 w q 118 (.slice (some ⟨b,0,none⟩) l c) (.int .i64 (t:Nat))) (hb:b<w.heap.size) (hit:∀ j,j<9→w.cell? ⟨b,t * 9+j,none⟩ = some (pdF g e j)) :
  Calls Tryz.prog 51 #[.pointer (some ⟨q,0,none⟩)] w fun x w' => x = .returned (.tuple #[pd g e,.bool true])∧FrO (OneB w q) w w'∧Rq2 w' q 118 (.slice (some ⟨b,0,none⟩) l c) (.int .i64 ((t+1:Nat):Int)):=by
 have hq:=World.rowIs.lt h
 obtain ⟨W1,hW1⟩ : ∃ W1,W1=w.alloc (.cells #[.int .u64 0,.int .u64 0,.int .u64 0,.int .u64 0,.int .u64 0,.int .u64 0,.int .u64 0,.int .u64 0,.bool false] 115):=⟨_,rfl⟩
 have hb1:Below w.heap.size w W1:=by rw [hW1]; exact below1 w _
 have hz1:w.heap.size+1≤W1.heap.size:=by rw [hW1,sz_alloc]; omega
 have h1:Rq2 W1 q 118 (.slice (some ⟨b,0,none⟩) l c) (.int .i64 (t:Nat)):=h.on (hb1.block q hq)
 have hr1:W1.rowIs w.heap.size 115 9 (pdF (fun _ => 0) false):=by rw [hW1]; exact blk_row9 (pushd_alloc w _).new
 obtain ⟨c0,c1⟩ := h1.cells
 have c2:=World.rowIs.frozen h1 1
 have hit1:∀ j,j<9→W1.cell? ⟨b,t * 9+j,none⟩ = some (pdF g e j):=fun j hj => by rw [hb1.cell (p:=⟨b,t * 9+j,none⟩) hb]; exact hit j hj
 have i0:=hit1 0 (by omega)
 have i1:=hit1 1 (by omega)
 have i2:=hit1 2 (by omega)
 have i3:=hit1 3 (by omega)
 have i4:=hit1 4 (by omega)
 have i5:=hit1 5 (by omega)
 have i6:=hit1 6 (by omega)
 have i7:=hit1 7 (by omega)
 have i8:=hit1 8 (by omega)
 simp only [pdF,wd,Nat.reduceLT,if_true,if_false,Nat.add_zero] at i0 i1 i2 i3 i4 i5 i6 i7 i8
 have r0:=hr1.cell (i:=0) (by omega)
 have r1:=hr1.cell (i:=1) (by omega)
 have r2:=hr1.cell (i:=2) (by omega)
 have r3:=hr1.cell (i:=3) (by omega)
 have r4:=hr1.cell (i:=4) (by omega)
 have r5:=hr1.cell (i:=5) (by omega)
 have r6:=hr1.cell (i:=6) (by omega)
 have r7:=hr1.cell (i:=7) (by omega)
 have r8:=hr1.cell (i:=8) (by omega)
 have z0:=hr1.frozen 0
 have z1:=hr1.frozen 1
 have z2:=hr1.frozen 2
 have z3:=hr1.frozen 3
 have z4:=hr1.frozen 4
 have z5:=hr1.frozen 5
 have z6:=hr1.frozen 6
 have z7:=hr1.frozen 7
 have z8:=hr1.frozen 8
 have ht1:¬ (t:Int)=(l:Int):=by omega
 have ht2:(t:Int)<(l:Int):=by omega
 have hw:wrap64 ((t:Int)+1)=(t:Int)+1:=w64 (by omega) (by omega)
 have HW1:=hide hW1
 have HB1:=hide hb1
 have H1:=hide h1
 have HR1:=hide hr1
 clear h h1 hb1 hr1 hW1 hit hit1
 go_enter Tryz.func51,Tryz.ntmps51
 go_wp2_with fail
 rw [← unhide HW1]
 go_quiet (fail)
 go_wp2_with fail
 refine wp_region_quiet_tail 10 (by kernel_rfl) (by kernel_rfl) ?_
 simp only [List.take_succ_cons,List.take_zero,List.drop_succ_cons,List.drop_zero]
 repeat (first | go_big_quiet_skip | (go_big_quiet_want; go_big_quiet_op; go_big_quiet_on))
 refine wpQuiet_nil ?_
 go_wp2
 generalize hWf:World.setCell _ _ _=Wf
 have hrow:Wf.rowIs w.heap.size 115 9 (pdF g e):=by
  rw [← hWf]
  exact row9_all (World.rowIs.setOther (row9_all ((unhide HR1).of_block rfl) g e) (by show w.heap.size ≠ q; omega) _) g e
 have hqq:Rq2 Wf q 118 (.slice (some ⟨b,0,none⟩) l c) (.int .i64 ((t+1:Nat):Int)):=by
  rw [← hWf]
  show Rq2 _ q _ _ (.int .i64 ((t:Int)+1))
  exact Rq2.on (Rq2.put1 (Rq2.on (Rq2.on (unhide H1) rfl) ((put9_ob (W1.drewN (nq+1)) w.heap.size _ _ _ _ _ _ _ _ _).block q (by omega)))) ((put9_ob _ w.heap.size _ _ _ _ _ _ _ _ _).block q (by omega))
 have hfr:FrO (OneB w q) w Wf:=by
  rw [← hWf]
  have hdr:FrO (OneB w q) W1 (W1.drewN (nq+1)):=⟨rfl,rfl,rfl,Nat.le_refl _,fun _ _ => rfl⟩
  exact FrO.trans ((fro_of (unhide HB1) (fun k hk => .inr hk)).trans hdr) (FrO.trans (FrO.trans (Obk.fro (put9_ob _ w.heap.size _ _ _ _ _ _ _ _ _) (.inr (Nat.le_refl _))) (Obk.fro (obk_put (b:=q) 1 _) (.inl rfl))) (Obk.fro (put9_ob _ w.heap.size _ _ _ _ _ _ _ _ _) (.inr (Nat.le_refl _))))
 clear hWf i0 i1 i2 i3 i4 i5 i6 i7 i8 r0 r1 r2 r3 r4 r5 r6 r7 r8 z0 z1 z2 z3 z4 z5 z6 z7 z8 c0 c1 c2
 have x0:=hrow.cell (i:=0) (by omega)
 have x1:=hrow.cell (i:=1) (by omega)
 have x2:=hrow.cell (i:=2) (by omega)
 have x3:=hrow.cell (i:=3) (by omega)
 have x4:=hrow.cell (i:=4) (by omega)
 have x5:=hrow.cell (i:=5) (by omega)
 have x6:=hrow.cell (i:=6) (by omega)
 have x7:=hrow.cell (i:=7) (by omega)
 have x8:=hrow.cell (i:=8) (by omega)
 simp only [pdF,wd,Nat.reduceLT,if_true,if_false] at x0 x1 x2 x3 x4 x5 x6 x7 x8
 refine bodyPost_ret (v:=.tuple #[pd g e,.bool true]) (by simp [results,Tryz.results51,go_sem,pd,x0,x1,x2,x3,x4,x5,x6,x7,x8]) rfl ?_
 exact ⟨rfl,hfr,hqq⟩
theorem Tryz.zinPd:(Tryz.prog.info? 115).map (fun i => (i.zero,i.size,i.bytes))=some (some (.agg #[.int .u64 0,.int .u64 0,.int .u64 0,.int .u64 0,.int .u64 0,.int .u64 0,.int .u64 0,.int .u64 0,.bool false]),9,72):=by kernel_rfl
def l9 (p:(Nat→Nat) × Bool):List Value:=(c9 p.1 p.2).toList
def fl9 (ps:List ((Nat→Nat) × Bool)):List Value:=ps.flatMap l9
theorem fl9_at (ps:List ((Nat→Nat) × Bool)) {t j:Nat} {g:Nat→Nat} {e:Bool} (ht:ps[t]? = some (g,e)) (hj:j<9):(fl9 ps)[t * 9+j]? = some (pdF g e j):=by
 induction ps generalizing t with
 | nil => simp at ht
 | cons p ps ih =>
  cases t with
  | zero =>
   simp at ht
   subst ht
   simp only [fl9,List.flatMap_cons]
   rw [List.getElem?_append_left (by simp [l9]; omega)]
   match j,hj with
   | 0,_ => rfl
   | 1,_ => rfl
   | 2,_ => rfl
   | 3,_ => rfl
   | 4,_ => rfl
   | 5,_ => rfl
   | 6,_ => rfl
   | 7,_ => rfl
   | 8,_ => rfl
  | succ t =>
   simp only [List.getElem?_cons_succ] at ht
   have:=ih ht
   simp only [fl9,List.flatMap_cons] at this ⊢
   rw [List.getElem?_append_right (by simp [l9]; omega)]
   rw [← this]
   congr 1
   simp [l9]
   omega
theorem fl9_snoc (ps:List ((Nat→Nat) × Bool)) (g:Nat→Nat) (e:Bool):fl9 (ps ++ [(g,e)])=fl9 ps ++ [.int .u64 (g 0:Nat),.int .u64 (g 1:Nat),.int .u64 (g 2:Nat),.int .u64 (g 3:Nat),.int .u64 (g 4:Nat),.int .u64 (g 5:Nat),.int .u64 (g 6:Nat),.int .u64 (g 7:Nat),.bool e]:=by simp [fl9,l9]
set_option maxHeartbeats 8000000 in
set_option maxRecDepth 100000 in
theorem pushP_any (q base:Nat) (v tk:Value) (ps:List ((Nat→Nat) × Bool)) (g:Nat→Nat) (e:Bool) (w:World) (hl:ps.length≤100000) (h:Rq2 w q 118 v tk) (hown:w.ownsRow base 115 9 v ps.length (fl9 ps)) (hb:base≤w.heap.size) (hqv:v.ownBlock ≠ some q) :
  Calls Tryz.prog 50 #[.pointer (some ⟨q,0,none⟩),pd g e] w fun x w' => x = .returned (.tuple #[])∧∃ v',w'.ownsRow base 115 9 v' (ps ++ [(g,e)]).length (fl9 (ps ++ [(g,e)]))∧Rq2 w' q 118 v' tk∧FrO (fun k => k=q∨v.ownBlock=some k∨w.heap.size≤k) w w'∧∀ k,v'.ownBlock=some k→v.ownBlock=some k∨w.heap.size≤k:=by
 obtain ⟨j0,hj0,hy0,hy1,hy2⟩ := info_parts Tryz.zinPd
 obtain ⟨oa,oc,rfl⟩ := own_is hown
 have hq:=World.rowIs.lt h
 unfold pd
 obtain ⟨W1,hW1⟩ : ∃ W1,W1=w.alloc (.cells #[.int .u64 (g 0:Nat),.int .u64 (g 1:Nat),.int .u64 (g 2:Nat),.int .u64 (g 3:Nat),.int .u64 (g 4:Nat),.int .u64 (g 5:Nat),.int .u64 (g 6:Nat),.int .u64 (g 7:Nat),.bool e] 115):=⟨_,rfl⟩
 have hb1:Below w.heap.size w W1:=by rw [hW1]; exact below1 w _
 have hz1:W1.heap.size=w.heap.size+1:=by rw [hW1,sz_alloc]
 have h1:Rq2 W1 q 118 (.slice oa ps.length oc) tk:=h.on (hb1.block q hq)
 have hr1:W1.rowIs w.heap.size 115 9 (pdF g e):=by rw [hW1]; exact blk_row9 (pushd_alloc w _).new
 have hown1:=own_keep hown hb1 (Nat.le_refl _)
 obtain ⟨c0,c1⟩ := h1.cells
 have x0:=hr1.cell (i:=0) (by omega)
 have x1:=hr1.cell (i:=1) (by omega)
 have x2:=hr1.cell (i:=2) (by omega)
 have x3:=hr1.cell (i:=3) (by omega)
 have x4:=hr1.cell (i:=4) (by omega)
 have x5:=hr1.cell (i:=5) (by omega)
 have x6:=hr1.cell (i:=6) (by omega)
 have x7:=hr1.cell (i:=7) (by omega)
 have x8:=hr1.cell (i:=8) (by omega)
 simp only [pdF,wd,Nat.reduceLT,if_true,if_false] at x0 x1 x2 x3 x4 x5 x6 x7 x8
 have d0:∀ o:Obj,(W1.alloc o).cell? ⟨q,0,none⟩ = some (.slice oa ps.length oc):=fun o => (h1.alloc o).cells.1
 have HSO:=hide hown1
 have HPS:Hid (∀ (WA w7:World) (gg cap:Nat),w7.ownsRow base 115 9 (.slice (some ⟨gg,0,none⟩) (ps.length+1) cap) (ps.length+1) (fl9 ps ++ [.int .u64 (g 0:Nat),.int .u64 (g 1:Nat),.int .u64 (g 2:Nat),.int .u64 (g 3:Nat),.int .u64 (g 4:Nat),.int .u64 (g 5:Nat),.int .u64 (g 6:Nat),.int .u64 (g 7:Nat),.bool e])→WA.grownBy w7 (Value.slice oa ps.length oc).ownBlock→((Value.slice oa ps.length oc).ownBlock=some gg∨gg=W1.heap.size+1)→Pushd W1 WA (.cells #[.int .u64 (g 0:Nat),.int .u64 (g 1:Nat),.int .u64 (g 2:Nat),.int .u64 (g 3:Nat),.int .u64 (g 4:Nat),.int .u64 (g 5:Nat),.int .u64 (g 6:Nat),.int .u64 (g 7:Nat),.bool e] 115)→w7.cell? ⟨q,0,none⟩ = some (.slice oa ps.length oc)∧w7.frozen? ⟨q,0,none⟩ = false ∧
   ((w7.setCell ⟨q,0,none⟩ (.slice (some ⟨gg,0,none⟩) (ps.length+1) cap)).ownsRow base 115 9 (.slice (some ⟨gg,0,none⟩) (ps.length+1) cap) (ps ++ [(g,e)]).length (fl9 (ps ++ [(g,e)]))∧Rq2 (w7.setCell ⟨q,0,none⟩ (.slice (some ⟨gg,0,none⟩) (ps.length+1) cap)) q 118 (.slice (some ⟨gg,0,none⟩) (ps.length+1) cap) tk∧FrO (fun k => k=q∨(Value.slice oa ps.length oc).ownBlock=some k∨w.heap.size≤k) w (w7.setCell ⟨q,0,none⟩ (.slice (some ⟨gg,0,none⟩) (ps.length+1) cap))∧∀ k,(Value.slice (some ⟨gg,0,none⟩) (ps.length+1) cap).ownBlock=some k→(Value.slice oa ps.length oc).ownBlock=some k∨w.heap.size≤k)):=fun WA w7 gg cap r1 r2 r3 hP => by
  have hsz:=hP.size
  have hblk:w7.heap[q]? = W1.heap[q]? := (r2.block q (by omega) (fun z => hqv z.symm)).trans (hP.old (by omega))
  have h7:=h1.on hblk
  have hgq:gg ≠ q:=by
   rcases r3 with k | k
   ·intro z; rw [z] at k; exact hqv k
   ·omega
  refine ⟨h7.cells.1,World.rowIs.frozen h7 0,?_,h7.put0,⟨?_,?_,?_,?_,fun k hk => ?_⟩,fun k hk => ?_⟩
  ·rw [fl9_snoc,List.length_append]
   exact own_blk r1 (fun k hk => (obk_put 0 _).block k (by
    have:k=gg:=by cases hk; rfl
    omega))
  ·exact (obk_put (w:=w7) (b:=q) 0 _).os.trans (r2.os.trans (hP.os.trans hb1.os))
  ·exact (obk_put (w:=w7) (b:=q) 0 _).tape.trans (r2.tape.trans (hP.tape.trans hb1.tape))
  ·exact (obk_put (w:=w7) (b:=q) 0 _).output.trans (r2.output.trans (hP.output.trans hb1.output))
  ·rw [(obk_put (w:=w7) (b:=q) 0 _).size]; have:=r2.size; omega
  ·have k1:k ≠ q:=fun z => hk (.inl z)
   have k2:(Value.slice oa ps.length oc).ownBlock ≠ some k:=fun z => hk (.inr (.inl z))
   have k3:k<w.heap.size:=by apply Nat.lt_of_not_le; intro z; exact hk (.inr (.inr z))
   rw [(obk_put (w:=w7) (b:=q) 0 _).block k k1,r2.block k (by omega) (fun z => k2 z.symm),hP.old (by omega),hb1.block k k3]
  ·have:k=gg:=by cases hk; rfl
   subst this
   rcases r3 with z | z
   ·exact .inl z
   ·exact .inr (by omega)
 have HW1:=hide hW1
 have HB1:=hide hb1
 have H1:=hide h1
 clear h h1 hb1 hr1 hW1 hown hown1
 go_enter Tryz.func50,Tryz.ntmps50
 go_wp2_with fail
 rw [← unhide HW1]
 go_region_law (
  (refine step_append_lies _ rfl (.tmp 8) (.tmp 10) 116 rfl base 115 j0 (.agg #[.int .u64 0,.int .u64 0,.int .u64 0,.int .u64 0,.int .u64 0,.int .u64 0,.int .u64 0,.int .u64 0,.bool false]) 9 72 Tryz.underlying116 hj0 hy0 hy1 hy2 rfl (by decide) (.slice oa ps.length oc) ps.length (fl9 ps) (by first | (simp [Act.eval]; done) | (simp [Act.eval,Act.put]; done)) (by refine Pushd.own (w:=W1) (o:=.cells #[.int .u64 (g 0:Nat),.int .u64 (g 1:Nat),.int .u64 (g 2:Nat),.int .u64 (g 3:Nat),.int .u64 (g 4:Nat),.int .u64 (g 5:Nat),.int .u64 (g 6:Nat),.int .u64 (g 7:Nat),.bool e] 115) ?_ (unhide HSO); exact ⟨rfl,rfl,rfl,rfl⟩) ⟨W1.heap.size,0,none⟩ 1 1 [.int .u64 (g 0:Nat),.int .u64 (g 1:Nat),.int .u64 (g 2:Nat),.int .u64 (g 3:Nat),.int .u64 (g 4:Nat),.int .u64 (g 5:Nat),.int .u64 (g 6:Nat),.int .u64 (g 7:Nat),.bool e] (by first | (simp [Act.eval]; done) | (simp [Act.eval,Act.put]; done)) rfl (by refine Pushd.news (w:=W1) (cs:=#[.int .u64 (g 0:Nat),.int .u64 (g 1:Nat),.int .u64 (g 2:Nat),.int .u64 (g 3:Nat),.int .u64 (g 4:Nat),.int .u64 (g 5:Nat),.int .u64 (g 6:Nat),.int .u64 (g 7:Nat),.bool e]) (t:=115) ?_; exact ⟨rfl,rfl,rfl,rfl⟩) (by intro u hu; simp only [List.mem_cons,List.not_mem_nil,or_false] at hu; rcases hu with rfl | rfl | rfl | rfl | rfl | rfl | rfl | rfl | rfl <;> rfl) (by decide) (by unfold maxLen; omega) (by omega) (by show base≤(World.alloc _ _).heap.size; rw [sz_alloc]; omega) (W1.heap.size+1) (sz_alloc W1 _) (fun gg cap w7 r1 r2 r3 r4 => ?_); have h7:=hide (unhide HPS _ w7 gg cap r1 r2 r3 (by exact ⟨rfl,rfl,rfl,rfl⟩)); obtain ⟨c7,z7,-⟩ := unhide h7; clear r1 r2 r3 r4))
 all_goals
  go_wp2
  first | (refine bodyPost_ret (results_none rfl _ _ _) rfl ?_) | (refine bodyPost_end (results_none rfl _ _ _) rfl ?_)
  obtain ⟨-,-,h8⟩ := unhide h7
  exact ⟨rfl,_,h8⟩
theorem row4_all {w:World} {B:Nat} {t:TypeId} {F:Nat→Value} (h:w.rowIs B t 4 F) (u0 u1 u2 u3:Value):Row4 ((((w.setCell ⟨B,0,none⟩ u0).setCell ⟨B,1,none⟩ u1).setCell ⟨B,2,none⟩ u2).setCell ⟨B,3,none⟩ u3) B t u0 u1 u2 u3 :=
 (World.rowIs.set (World.rowIs.set (World.rowIs.set (World.rowIs.set h 0 u0) 1 u1) 2 u2) 3 u3).congr (fun j hj => by
  match j,hj with
  | 0,_ => rfl
  | 1,_ => rfl
  | 2,_ => rfl
  | 3,_ => rfl)
theorem row4_ob (w:World) (B:Nat) (u0 u1 u2 u3:Value):Obk B w ((((w.setCell ⟨B,0,none⟩ u0).setCell ⟨B,1,none⟩ u1).setCell ⟨B,2,none⟩ u2).setCell ⟨B,3,none⟩ u3):=(((obk_put _ _).trans (obk_put _ _)).trans (obk_put _ _)).trans (obk_put _ _)
theorem dfab_ret {w:World} {B:Nat} {c0 c1 c2 c3 x:Value} (h:Row4 w B 29 c0 c1 c2 c3) {fn:Func} {p q:Tmp} (hr:fn.results = #[.cell p 29,.tmp q]) (tmps:Array Value) (hp:tmps.getD p undef = .pointer (some ⟨B,0,none⟩)) (hq:tmps.getD q undef=x):(results fn tmps).run Tryz.prog w = .ok (.tuple #[.agg #[c0,c1,c2,c3],x]) w:=by
 obtain ⟨c,hb,hs,hc⟩ := h
 have e:c = #[c0,c1,c2,c3]:=by
  apply Array.ext_getElem?
  intro i
  by_cases hi:i<4
  ·rw [hc i hi]
   match i,hi with
   | 0,_ => rfl
   | 1,_ => rfl
   | 2,_ => rfl
   | 3,_ => rfl
  ·rw [Array.getElem?_eq_none (by omega),Array.getElem?_eq_none (by simp; omega)]
 subst e
 have hp':tmps[p]?.getD undef = .pointer (some ⟨B,0,none⟩):=by simpa using hp
 have hq':tmps[q]?.getD undef=x:=by simpa using hq
 have hl:=run_loadVar_row (P:=Tryz.prog) w B 29 29 #[c0,c1,c2,c3] (0,0) _ hb Tryz.underlying29 rfl (by kernel_rfl)
 simp [results,hr,hp',hq',asAddr,hl]
end Go.Proofs.YtlidckepahpaeaaGreatDoor
