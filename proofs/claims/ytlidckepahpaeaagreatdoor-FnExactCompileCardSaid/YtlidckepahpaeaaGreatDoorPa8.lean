import Derived.Test.YtlidckepahpaeaaGreatDoorPa7
namespace Go.Proofs.YtlidckepahpaeaaGreatDoor
open Go.RowKit
set_option maxHeartbeats 8000000 in
set_option maxRecDepth 100000 in
theorem joinCat_false_false (O:Nat→Prop) (A N:Nat) (S:List (List Int)) (K:List Lk) (f1 l1 f2 l2:Nat→Nat) (xs ys:List Nat) (w:World) (h:AuAt O A w N S K) (hO:∀ k,w.heap.size≤k→O k) (htz:TzO O w)
  (h1:Fit f1) (h2:BitsOf l1 xs) (h3:BitsOf f2 ys) (h4:Fit l2) (hx:∀ x ∈ xs,x<N) (hN:N≤512) :
  Calls Tryz.prog 80 #[.pointer (some ⟨A,0,none⟩),endV false f1 l1,endV false f2 l2] w fun e w' => e = .returned (endV false f1 l2)∧AuAt O A w' N S (K ++ [(xs,ys)])∧FrO O w w':=by
 obtain ⟨W1,hW1⟩ : ∃ W1,W1=((w.alloc (oE false f1 l1)).alloc (oE false f2 l2)).alloc oE0:=⟨_,rfl⟩
 have hz:W1.heap.size=w.heap.size+3:=by rw [hW1,sz_alloc,sz_alloc,sz_alloc]
 have hb1:Below w.heap.size w W1:=by
  rw [hW1]
  exact (below2 w _ _).trans ((below1 _ _).mono (by rw [sz_alloc,sz_alloc]; omega))
 have e1:EndAt W1 w.heap.size false f1 l1:=by
  rw [hW1]
  exact World.rowIs.alloc (World.rowIs.alloc (end_new w false f1 l1) _) _
 have e2:EndAt W1 (w.heap.size+1) false f2 l2:=by
  have:=end_new (w.alloc (oE false f1 l1)) false f2 l2
  rw [sz_alloc] at this
  rw [hW1]
  exact World.rowIs.alloc this _
 have e3:EndAt W1 (w.heap.size+2) false z8 z8:=by
  have:=end_new0 ((w.alloc (oE false f1 l1)).alloc (oE false f2 l2))
  rw [sz_alloc,sz_alloc] at this
  rw [hW1]
  exact this
 have hL:=link_any (Sk O w.heap.size W1.heap.size) A N S K l1 f2 xs ys W1 (h.skip hb1) (fun k hk => ⟨hO k (by omega),Or.inr hk⟩) ((htz.below hb1).less Sk.sub) h2 h3 hx hN
 have HL:=hide hL
 have HE1:=hide e1
 have HE2:=hide e2
 have HE3:=hide e3
 have H1:=hide h1
 have H2:=hide h2.1
 have H3:=hide h3.1
 have H4:=hide h4
 have HO:=hide hO
 have HW1:=hide hW1
 have HB1:=hide hb1
 have HZ1:=hide hz
 clear e1 e2 e3 hz hb1 hW1 h1 h2 h3 h4 hL hx hO htz h
 have HFIN:Hid (∀ (w2 wf:World) (cs:Array Value),AuAt (Sk O w.heap.size W1.heap.size) A w2 N S (K ++ [(xs,ys)])→FrO (Sk O w.heap.size W1.heap.size) W1 w2→Below w2.heap.size w2 wf→AuAt O A (wf.setRow (w.heap.size+2) cs) N S (K ++ [(xs,ys)])∧FrO O w (wf.setRow (w.heap.size+2) cs)):=fun w2 wf cs ha hf hb => by
  have hz:=unhide HZ1
  have hs1:=hf.size
  have hs2:=hb.size
  refine ⟨(ha.keep (w':=wf.setRow (w.heap.size+2) cs) (fun k hk hk2 => ?_)).mono Sk.sub,(fro_of (unhide HB1) (unhide HO)).trans ((hf.mono Sk.sub).trans ⟨hb.os,hb.tape,hb.output,by rw [setRow_size]; exact hb.size,fun k hk => ?_⟩)⟩
  ·rw [setRow_other _ _ _ _ (by rcases hk.2 with q | q <;> omega)]
   exact hb.block k hk2
  ·have hk2:k<w.heap.size:=by apply Nat.lt_of_not_le; intro e; exact hk (unhide HO k e)
   rw [setRow_other _ _ _ _ (by omega)]
   exact hb.block k (by omega)
 have HNO:Hid (∀ (w2:World) (k:Nat),FrO (Sk O w.heap.size W1.heap.size) W1 w2→w.heap.size≤k→k<w.heap.size+3→w2.heap[k]? = W1.heap[k]?):=fun w2 k hf q1 q2 => hf.block k (fun q => by
  have:=unhide HZ1
  rcases q.2 with q | q <;> omega)
 unfold endV
 ·go_enter Tryz.func80,Tryz.ntmps80
  go_wp2_with fail
  rw [← unhide HW1]
  clear HW1
  refine (unhide HL).mono ?_
  rintro e w2 ⟨rfl,ha,hf⟩
  have Ha:=hide (EndAt.on (unhide HE1) (unhide HNO w2 _ hf (by omega) (by omega)))
  have Hc:=hide (EndAt.on (unhide HE2) (unhide HNO w2 _ hf (by omega) (by omega)))
  have Hd:=hide (EndAt.on (unhide HE3) (unhide HNO w2 _ hf (by omega) (by omega)))
  have a0:w2.cell? ⟨w.heap.size,0,none⟩ = some (.bool false):=EndAt.cell (unhide Ha) 0 (by omega)
  have a1:w2.cell? ⟨w.heap.size,1,none⟩ = some (.int .u64 (f1 0:Nat)):=EndAt.cell (unhide Ha) 1 (by omega)
  have a2:w2.cell? ⟨w.heap.size,2,none⟩ = some (.int .u64 (f1 1:Nat)):=EndAt.cell (unhide Ha) 2 (by omega)
  have a3:w2.cell? ⟨w.heap.size,3,none⟩ = some (.int .u64 (f1 2:Nat)):=EndAt.cell (unhide Ha) 3 (by omega)
  have a4:w2.cell? ⟨w.heap.size,4,none⟩ = some (.int .u64 (f1 3:Nat)):=EndAt.cell (unhide Ha) 4 (by omega)
  have a5:w2.cell? ⟨w.heap.size,5,none⟩ = some (.int .u64 (f1 4:Nat)):=EndAt.cell (unhide Ha) 5 (by omega)
  have a6:w2.cell? ⟨w.heap.size,6,none⟩ = some (.int .u64 (f1 5:Nat)):=EndAt.cell (unhide Ha) 6 (by omega)
  have a7:w2.cell? ⟨w.heap.size,7,none⟩ = some (.int .u64 (f1 6:Nat)):=EndAt.cell (unhide Ha) 7 (by omega)
  have a8:w2.cell? ⟨w.heap.size,8,none⟩ = some (.int .u64 (f1 7:Nat)):=EndAt.cell (unhide Ha) 8 (by omega)
  have c0:w2.cell? ⟨w.heap.size+1,0,none⟩ = some (.bool false):=EndAt.cell (unhide Hc) 0 (by omega)
  have c9:w2.cell? ⟨w.heap.size+1,9,none⟩ = some (.int .u64 (l2 0:Nat)):=EndAt.cell (unhide Hc) 9 (by omega)
  have c10:w2.cell? ⟨w.heap.size+1,10,none⟩ = some (.int .u64 (l2 1:Nat)):=EndAt.cell (unhide Hc) 10 (by omega)
  have c11:w2.cell? ⟨w.heap.size+1,11,none⟩ = some (.int .u64 (l2 2:Nat)):=EndAt.cell (unhide Hc) 11 (by omega)
  have c12:w2.cell? ⟨w.heap.size+1,12,none⟩ = some (.int .u64 (l2 3:Nat)):=EndAt.cell (unhide Hc) 12 (by omega)
  have c13:w2.cell? ⟨w.heap.size+1,13,none⟩ = some (.int .u64 (l2 4:Nat)):=EndAt.cell (unhide Hc) 13 (by omega)
  have c14:w2.cell? ⟨w.heap.size+1,14,none⟩ = some (.int .u64 (l2 5:Nat)):=EndAt.cell (unhide Hc) 14 (by omega)
  have c15:w2.cell? ⟨w.heap.size+1,15,none⟩ = some (.int .u64 (l2 6:Nat)):=EndAt.cell (unhide Hc) 15 (by omega)
  have c16:w2.cell? ⟨w.heap.size+1,16,none⟩ = some (.int .u64 (l2 7:Nat)):=EndAt.cell (unhide Hc) 16 (by omega)
  have HA:=hide ha
  have HF:=hide hf
  have hz2:w.heap.size+3≤w2.heap.size:=by have h1:=hf.size; have h2:=unhide HZ1; omega
  clear ha hf HL HE1 HE2 HE3
  obtain ⟨W3,hW3⟩ : ∃ W3,W3=w2.alloc (oE false f1 l2):=⟨_,rfl⟩
  have HG:Hid (EndAt W3 w2.heap.size false f1 l2):=by rw [hW3]; exact end_new w2 _ _ _
  have HX:Hid (EndAt W3 w.heap.size false f1 l1):=by rw [hW3]; exact World.rowIs.alloc (unhide Ha) _
  have HY:Hid (EndAt W3 (w.heap.size+1) false f2 l2):=by rw [hW3]; exact World.rowIs.alloc (unhide Hc) _
  have HR:Hid (EndAt W3 (w.heap.size+2) false z8 z8):=by rw [hW3]; exact World.rowIs.alloc (unhide Hd) _
  have HBB:Hid (Below w2.heap.size w2 W3):=by rw [hW3]; exact below1 w2 _
  have x0:(w2.alloc (.cells #[.bool false,.int .u64 (f1 0:Nat),.int .u64 (f1 1:Nat),.int .u64 (f1 2:Nat),.int .u64 (f1 3:Nat),.int .u64 (f1 4:Nat),.int .u64 (f1 5:Nat),.int .u64 (f1 6:Nat),.int .u64 (f1 7:Nat),.int .u64 (l2 0:Nat),.int .u64 (l2 1:Nat),.int .u64 (l2 2:Nat),.int .u64 (l2 3:Nat),.int .u64 (l2 4:Nat),.int .u64 (l2 5:Nat),.int .u64 (l2 6:Nat),.int .u64 (l2 7:Nat)] 101)).cell? ⟨w.heap.size,0,none⟩ = some (.bool false):=by rw [← hW3]; exact EndAt.cell (unhide HX) 0 (by omega)
  have y0:(w2.alloc (.cells #[.bool false,.int .u64 (f1 0:Nat),.int .u64 (f1 1:Nat),.int .u64 (f1 2:Nat),.int .u64 (f1 3:Nat),.int .u64 (f1 4:Nat),.int .u64 (f1 5:Nat),.int .u64 (f1 6:Nat),.int .u64 (f1 7:Nat),.int .u64 (l2 0:Nat),.int .u64 (l2 1:Nat),.int .u64 (l2 2:Nat),.int .u64 (l2 3:Nat),.int .u64 (l2 4:Nat),.int .u64 (l2 5:Nat),.int .u64 (l2 6:Nat),.int .u64 (l2 7:Nat)] 101)).cell? ⟨w.heap.size+1,0,none⟩ = some (.bool false):=by rw [← hW3]; exact EndAt.cell (unhide HY) 0 (by omega)
  have HW3:=hide hW3
  clear hW3
  rw [unhide HW3] at HG HR
  go_wp2_with (first | (refine wpList_load_row rfl 101 (.tmp 7) rfl (w2.heap.size) (by first | (simp [Act.eval]; done) | (simp [Act.eval,Act.put]; done)) 101 _ _ _ (EndAt.blk (unhide HG)) Tryz.underlying101 rfl (by kernel_rfl) ?_) | (refine wpList_store_row rfl 101 (.tmp 6) (.tmp 35) rfl (w.heap.size+1+1) #[.bool false,.int .u64 (f1 0:Nat),.int .u64 (f1 1:Nat),.int .u64 (f1 2:Nat),.int .u64 (f1 3:Nat),.int .u64 (f1 4:Nat),.int .u64 (f1 5:Nat),.int .u64 (f1 6:Nat),.int .u64 (f1 7:Nat),.int .u64 (l2 0:Nat),.int .u64 (l2 1:Nat),.int .u64 (l2 2:Nat),.int .u64 (l2 3:Nat),.int .u64 (l2 4:Nat),.int .u64 (l2 5:Nat),.int .u64 (l2 6:Nat),.int .u64 (l2 7:Nat)] (by first | (simp [Act.eval]; done) | (simp [Act.eval,Act.put]; done)) (by first | (simp [Act.eval]; done) | (simp [Act.eval,Act.put]; done)) 101 _ (EndAt.blk (unhide HR)) (by kernel_rfl) rfl (all1 _ _ _) ?_))
  refine bodyPost_ret (end_ret (EndAt.row (unhide HR) _ _ _) rfl _ rfl) rfl ?_
  exact ⟨rfl,unhide HFIN w2 _ _ (unhide HA) (unhide HF) (below1 w2 _)⟩
set_option maxHeartbeats 8000000 in
set_option maxRecDepth 100000 in
theorem joinCat_false_true (O:Nat→Prop) (A N:Nat) (S:List (List Int)) (K:List Lk) (f1 l1 f2 l2:Nat→Nat) (xs ys:List Nat) (w:World) (h:AuAt O A w N S K) (hO:∀ k,w.heap.size≤k→O k) (htz:TzO O w)
  (h1:Fit f1) (h2:BitsOf l1 xs) (h3:BitsOf f2 ys) (h4:Fit l2) (hx:∀ x ∈ xs,x<N) (hN:N≤512) :
  Calls Tryz.prog 80 #[.pointer (some ⟨A,0,none⟩),endV false f1 l1,endV true f2 l2] w fun e w' => e = .returned (endV false f1 (orW l2 l1))∧AuAt O A w' N S (K ++ [(xs,ys)])∧FrO O w w':=by
 obtain ⟨W1,hW1⟩ : ∃ W1,W1=((w.alloc (oE false f1 l1)).alloc (oE true f2 l2)).alloc oE0:=⟨_,rfl⟩
 have hz:W1.heap.size=w.heap.size+3:=by rw [hW1,sz_alloc,sz_alloc,sz_alloc]
 have hb1:Below w.heap.size w W1:=by
  rw [hW1]
  exact (below2 w _ _).trans ((below1 _ _).mono (by rw [sz_alloc,sz_alloc]; omega))
 have e1:EndAt W1 w.heap.size false f1 l1:=by
  rw [hW1]
  exact World.rowIs.alloc (World.rowIs.alloc (end_new w false f1 l1) _) _
 have e2:EndAt W1 (w.heap.size+1) true f2 l2:=by
  have:=end_new (w.alloc (oE false f1 l1)) true f2 l2
  rw [sz_alloc] at this
  rw [hW1]
  exact World.rowIs.alloc this _
 have e3:EndAt W1 (w.heap.size+2) false z8 z8:=by
  have:=end_new0 ((w.alloc (oE false f1 l1)).alloc (oE true f2 l2))
  rw [sz_alloc,sz_alloc] at this
  rw [hW1]
  exact this
 have hL:=link_any (Sk O w.heap.size W1.heap.size) A N S K l1 f2 xs ys W1 (h.skip hb1) (fun k hk => ⟨hO k (by omega),Or.inr hk⟩) ((htz.below hb1).less Sk.sub) h2 h3 hx hN
 have HL:=hide hL
 have HE1:=hide e1
 have HE2:=hide e2
 have HE3:=hide e3
 have H1:=hide h1
 have H2:=hide h2.1
 have H3:=hide h3.1
 have H4:=hide h4
 have HO:=hide hO
 have HW1:=hide hW1
 have HB1:=hide hb1
 have HZ1:=hide hz
 clear e1 e2 e3 hz hb1 hW1 h1 h2 h3 h4 hL hx hO htz h
 have HFIN:Hid (∀ (w2 wf:World) (cs:Array Value),AuAt (Sk O w.heap.size W1.heap.size) A w2 N S (K ++ [(xs,ys)])→FrO (Sk O w.heap.size W1.heap.size) W1 w2→Below w2.heap.size w2 wf→AuAt O A (wf.setRow (w.heap.size+2) cs) N S (K ++ [(xs,ys)])∧FrO O w (wf.setRow (w.heap.size+2) cs)):=fun w2 wf cs ha hf hb => by
  have hz:=unhide HZ1
  have hs1:=hf.size
  have hs2:=hb.size
  refine ⟨(ha.keep (w':=wf.setRow (w.heap.size+2) cs) (fun k hk hk2 => ?_)).mono Sk.sub,(fro_of (unhide HB1) (unhide HO)).trans ((hf.mono Sk.sub).trans ⟨hb.os,hb.tape,hb.output,by rw [setRow_size]; exact hb.size,fun k hk => ?_⟩)⟩
  ·rw [setRow_other _ _ _ _ (by rcases hk.2 with q | q <;> omega)]
   exact hb.block k hk2
  ·have hk2:k<w.heap.size:=by apply Nat.lt_of_not_le; intro e; exact hk (unhide HO k e)
   rw [setRow_other _ _ _ _ (by omega)]
   exact hb.block k (by omega)
 have HNO:Hid (∀ (w2:World) (k:Nat),FrO (Sk O w.heap.size W1.heap.size) W1 w2→w.heap.size≤k→k<w.heap.size+3→w2.heap[k]? = W1.heap[k]?):=fun w2 k hf q1 q2 => hf.block k (fun q => by
  have:=unhide HZ1
  rcases q.2 with q | q <;> omega)
 unfold endV
 ·go_enter Tryz.func80,Tryz.ntmps80
  go_wp2_with fail
  rw [← unhide HW1]
  clear HW1
  refine (unhide HL).mono ?_
  rintro e w2 ⟨rfl,ha,hf⟩
  have Ha:=hide (EndAt.on (unhide HE1) (unhide HNO w2 _ hf (by omega) (by omega)))
  have Hc:=hide (EndAt.on (unhide HE2) (unhide HNO w2 _ hf (by omega) (by omega)))
  have Hd:=hide (EndAt.on (unhide HE3) (unhide HNO w2 _ hf (by omega) (by omega)))
  have a0:w2.cell? ⟨w.heap.size,0,none⟩ = some (.bool false):=EndAt.cell (unhide Ha) 0 (by omega)
  have a1:w2.cell? ⟨w.heap.size,1,none⟩ = some (.int .u64 (f1 0:Nat)):=EndAt.cell (unhide Ha) 1 (by omega)
  have a2:w2.cell? ⟨w.heap.size,2,none⟩ = some (.int .u64 (f1 1:Nat)):=EndAt.cell (unhide Ha) 2 (by omega)
  have a3:w2.cell? ⟨w.heap.size,3,none⟩ = some (.int .u64 (f1 2:Nat)):=EndAt.cell (unhide Ha) 3 (by omega)
  have a4:w2.cell? ⟨w.heap.size,4,none⟩ = some (.int .u64 (f1 3:Nat)):=EndAt.cell (unhide Ha) 4 (by omega)
  have a5:w2.cell? ⟨w.heap.size,5,none⟩ = some (.int .u64 (f1 4:Nat)):=EndAt.cell (unhide Ha) 5 (by omega)
  have a6:w2.cell? ⟨w.heap.size,6,none⟩ = some (.int .u64 (f1 5:Nat)):=EndAt.cell (unhide Ha) 6 (by omega)
  have a7:w2.cell? ⟨w.heap.size,7,none⟩ = some (.int .u64 (f1 6:Nat)):=EndAt.cell (unhide Ha) 7 (by omega)
  have a8:w2.cell? ⟨w.heap.size,8,none⟩ = some (.int .u64 (f1 7:Nat)):=EndAt.cell (unhide Ha) 8 (by omega)
  have c0:w2.cell? ⟨w.heap.size+1,0,none⟩ = some (.bool true):=EndAt.cell (unhide Hc) 0 (by omega)
  have c9:w2.cell? ⟨w.heap.size+1,9,none⟩ = some (.int .u64 (l2 0:Nat)):=EndAt.cell (unhide Hc) 9 (by omega)
  have c10:w2.cell? ⟨w.heap.size+1,10,none⟩ = some (.int .u64 (l2 1:Nat)):=EndAt.cell (unhide Hc) 10 (by omega)
  have c11:w2.cell? ⟨w.heap.size+1,11,none⟩ = some (.int .u64 (l2 2:Nat)):=EndAt.cell (unhide Hc) 11 (by omega)
  have c12:w2.cell? ⟨w.heap.size+1,12,none⟩ = some (.int .u64 (l2 3:Nat)):=EndAt.cell (unhide Hc) 12 (by omega)
  have c13:w2.cell? ⟨w.heap.size+1,13,none⟩ = some (.int .u64 (l2 4:Nat)):=EndAt.cell (unhide Hc) 13 (by omega)
  have c14:w2.cell? ⟨w.heap.size+1,14,none⟩ = some (.int .u64 (l2 5:Nat)):=EndAt.cell (unhide Hc) 14 (by omega)
  have c15:w2.cell? ⟨w.heap.size+1,15,none⟩ = some (.int .u64 (l2 6:Nat)):=EndAt.cell (unhide Hc) 15 (by omega)
  have c16:w2.cell? ⟨w.heap.size+1,16,none⟩ = some (.int .u64 (l2 7:Nat)):=EndAt.cell (unhide Hc) 16 (by omega)
  have HA:=hide ha
  have HF:=hide hf
  have hz2:w.heap.size+3≤w2.heap.size:=by have h1:=hf.size; have h2:=unhide HZ1; omega
  clear ha hf HL HE1 HE2 HE3
  obtain ⟨W3,hW3⟩ : ∃ W3,W3=w2.alloc (oE false f1 l2):=⟨_,rfl⟩
  have HG:Hid (EndAt W3 w2.heap.size false f1 l2):=by rw [hW3]; exact end_new w2 _ _ _
  have HX:Hid (EndAt W3 w.heap.size false f1 l1):=by rw [hW3]; exact World.rowIs.alloc (unhide Ha) _
  have HY:Hid (EndAt W3 (w.heap.size+1) true f2 l2):=by rw [hW3]; exact World.rowIs.alloc (unhide Hc) _
  have HR:Hid (EndAt W3 (w.heap.size+2) false z8 z8):=by rw [hW3]; exact World.rowIs.alloc (unhide Hd) _
  have HBB:Hid (Below w2.heap.size w2 W3):=by rw [hW3]; exact below1 w2 _
  have x0:(w2.alloc (.cells #[.bool false,.int .u64 (f1 0:Nat),.int .u64 (f1 1:Nat),.int .u64 (f1 2:Nat),.int .u64 (f1 3:Nat),.int .u64 (f1 4:Nat),.int .u64 (f1 5:Nat),.int .u64 (f1 6:Nat),.int .u64 (f1 7:Nat),.int .u64 (l2 0:Nat),.int .u64 (l2 1:Nat),.int .u64 (l2 2:Nat),.int .u64 (l2 3:Nat),.int .u64 (l2 4:Nat),.int .u64 (l2 5:Nat),.int .u64 (l2 6:Nat),.int .u64 (l2 7:Nat)] 101)).cell? ⟨w.heap.size,0,none⟩ = some (.bool false):=by rw [← hW3]; exact EndAt.cell (unhide HX) 0 (by omega)
  have y0:(w2.alloc (.cells #[.bool false,.int .u64 (f1 0:Nat),.int .u64 (f1 1:Nat),.int .u64 (f1 2:Nat),.int .u64 (f1 3:Nat),.int .u64 (f1 4:Nat),.int .u64 (f1 5:Nat),.int .u64 (f1 6:Nat),.int .u64 (f1 7:Nat),.int .u64 (l2 0:Nat),.int .u64 (l2 1:Nat),.int .u64 (l2 2:Nat),.int .u64 (l2 3:Nat),.int .u64 (l2 4:Nat),.int .u64 (l2 5:Nat),.int .u64 (l2 6:Nat),.int .u64 (l2 7:Nat)] 101)).cell? ⟨w.heap.size+1,0,none⟩ = some (.bool true):=by rw [← hW3]; exact EndAt.cell (unhide HY) 0 (by omega)
  have HW3:=hide hW3
  clear hW3
  go_wp2_with fail
  rw [← unhide HW3]
  clear HW3
  refine (join_ll (unhide HG) (unhide HX) (by omega) (unhide H4) (unhide H2)).mono ?_
  rintro e w5 ⟨rfl,q1,q2⟩
  have HG:=hide q1
  have HR:=hide (EndAt.on (unhide HR) (q2.block _ (by omega)))
  have HBB:=hide ((unhide HBB).trans (q2.below (Nat.le_refl _)))
  clear q1 q2
  go_wp2_with (first | (refine wpList_load_row rfl 101 (.tmp 7) rfl (w2.heap.size) (by first | (simp [Act.eval]; done) | (simp [Act.eval,Act.put]; done)) 101 _ _ _ (EndAt.blk (unhide HG)) Tryz.underlying101 rfl (by kernel_rfl) ?_) | (refine wpList_store_row rfl 101 (.tmp 6) (.tmp 35) rfl (w.heap.size+1+1) #[.bool false,.int .u64 (f1 0:Nat),.int .u64 (f1 1:Nat),.int .u64 (f1 2:Nat),.int .u64 (f1 3:Nat),.int .u64 (f1 4:Nat),.int .u64 (f1 5:Nat),.int .u64 (f1 6:Nat),.int .u64 (f1 7:Nat),.int .u64 ((orW l2 l1) 0:Nat),.int .u64 ((orW l2 l1) 1:Nat),.int .u64 ((orW l2 l1) 2:Nat),.int .u64 ((orW l2 l1) 3:Nat),.int .u64 ((orW l2 l1) 4:Nat),.int .u64 ((orW l2 l1) 5:Nat),.int .u64 ((orW l2 l1) 6:Nat),.int .u64 ((orW l2 l1) 7:Nat)] (by first | (simp [Act.eval]; done) | (simp [Act.eval,Act.put]; done)) (by first | (simp [Act.eval]; done) | (simp [Act.eval,Act.put]; done)) 101 _ (EndAt.blk (unhide HR)) (by kernel_rfl) rfl (all1 _ _ _) ?_))
  refine bodyPost_ret (end_ret (EndAt.row (unhide HR) _ _ _) rfl _ rfl) rfl ?_
  exact ⟨rfl,unhide HFIN w2 _ _ (unhide HA) (unhide HF) (unhide HBB)⟩
set_option maxHeartbeats 8000000 in
set_option maxRecDepth 100000 in
theorem joinCat_true_false (O:Nat→Prop) (A N:Nat) (S:List (List Int)) (K:List Lk) (f1 l1 f2 l2:Nat→Nat) (xs ys:List Nat) (w:World) (h:AuAt O A w N S K) (hO:∀ k,w.heap.size≤k→O k) (htz:TzO O w)
  (h1:Fit f1) (h2:BitsOf l1 xs) (h3:BitsOf f2 ys) (h4:Fit l2) (hx:∀ x ∈ xs,x<N) (hN:N≤512) :
  Calls Tryz.prog 80 #[.pointer (some ⟨A,0,none⟩),endV true f1 l1,endV false f2 l2] w fun e w' => e = .returned (endV false (orW f1 f2) l2)∧AuAt O A w' N S (K ++ [(xs,ys)])∧FrO O w w':=by
 obtain ⟨W1,hW1⟩ : ∃ W1,W1=((w.alloc (oE true f1 l1)).alloc (oE false f2 l2)).alloc oE0:=⟨_,rfl⟩
 have hz:W1.heap.size=w.heap.size+3:=by rw [hW1,sz_alloc,sz_alloc,sz_alloc]
 have hb1:Below w.heap.size w W1:=by
  rw [hW1]
  exact (below2 w _ _).trans ((below1 _ _).mono (by rw [sz_alloc,sz_alloc]; omega))
 have e1:EndAt W1 w.heap.size true f1 l1:=by
  rw [hW1]
  exact World.rowIs.alloc (World.rowIs.alloc (end_new w true f1 l1) _) _
 have e2:EndAt W1 (w.heap.size+1) false f2 l2:=by
  have:=end_new (w.alloc (oE true f1 l1)) false f2 l2
  rw [sz_alloc] at this
  rw [hW1]
  exact World.rowIs.alloc this _
 have e3:EndAt W1 (w.heap.size+2) false z8 z8:=by
  have:=end_new0 ((w.alloc (oE true f1 l1)).alloc (oE false f2 l2))
  rw [sz_alloc,sz_alloc] at this
  rw [hW1]
  exact this
 have hL:=link_any (Sk O w.heap.size W1.heap.size) A N S K l1 f2 xs ys W1 (h.skip hb1) (fun k hk => ⟨hO k (by omega),Or.inr hk⟩) ((htz.below hb1).less Sk.sub) h2 h3 hx hN
 have HL:=hide hL
 have HE1:=hide e1
 have HE2:=hide e2
 have HE3:=hide e3
 have H1:=hide h1
 have H2:=hide h2.1
 have H3:=hide h3.1
 have H4:=hide h4
 have HO:=hide hO
 have HW1:=hide hW1
 have HB1:=hide hb1
 have HZ1:=hide hz
 clear e1 e2 e3 hz hb1 hW1 h1 h2 h3 h4 hL hx hO htz h
 have HFIN:Hid (∀ (w2 wf:World) (cs:Array Value),AuAt (Sk O w.heap.size W1.heap.size) A w2 N S (K ++ [(xs,ys)])→FrO (Sk O w.heap.size W1.heap.size) W1 w2→Below w2.heap.size w2 wf→AuAt O A (wf.setRow (w.heap.size+2) cs) N S (K ++ [(xs,ys)])∧FrO O w (wf.setRow (w.heap.size+2) cs)):=fun w2 wf cs ha hf hb => by
  have hz:=unhide HZ1
  have hs1:=hf.size
  have hs2:=hb.size
  refine ⟨(ha.keep (w':=wf.setRow (w.heap.size+2) cs) (fun k hk hk2 => ?_)).mono Sk.sub,(fro_of (unhide HB1) (unhide HO)).trans ((hf.mono Sk.sub).trans ⟨hb.os,hb.tape,hb.output,by rw [setRow_size]; exact hb.size,fun k hk => ?_⟩)⟩
  ·rw [setRow_other _ _ _ _ (by rcases hk.2 with q | q <;> omega)]
   exact hb.block k hk2
  ·have hk2:k<w.heap.size:=by apply Nat.lt_of_not_le; intro e; exact hk (unhide HO k e)
   rw [setRow_other _ _ _ _ (by omega)]
   exact hb.block k (by omega)
 have HNO:Hid (∀ (w2:World) (k:Nat),FrO (Sk O w.heap.size W1.heap.size) W1 w2→w.heap.size≤k→k<w.heap.size+3→w2.heap[k]? = W1.heap[k]?):=fun w2 k hf q1 q2 => hf.block k (fun q => by
  have:=unhide HZ1
  rcases q.2 with q | q <;> omega)
 unfold endV
 ·go_enter Tryz.func80,Tryz.ntmps80
  go_wp2_with fail
  rw [← unhide HW1]
  clear HW1
  refine (unhide HL).mono ?_
  rintro e w2 ⟨rfl,ha,hf⟩
  have Ha:=hide (EndAt.on (unhide HE1) (unhide HNO w2 _ hf (by omega) (by omega)))
  have Hc:=hide (EndAt.on (unhide HE2) (unhide HNO w2 _ hf (by omega) (by omega)))
  have Hd:=hide (EndAt.on (unhide HE3) (unhide HNO w2 _ hf (by omega) (by omega)))
  have a0:w2.cell? ⟨w.heap.size,0,none⟩ = some (.bool true):=EndAt.cell (unhide Ha) 0 (by omega)
  have a1:w2.cell? ⟨w.heap.size,1,none⟩ = some (.int .u64 (f1 0:Nat)):=EndAt.cell (unhide Ha) 1 (by omega)
  have a2:w2.cell? ⟨w.heap.size,2,none⟩ = some (.int .u64 (f1 1:Nat)):=EndAt.cell (unhide Ha) 2 (by omega)
  have a3:w2.cell? ⟨w.heap.size,3,none⟩ = some (.int .u64 (f1 2:Nat)):=EndAt.cell (unhide Ha) 3 (by omega)
  have a4:w2.cell? ⟨w.heap.size,4,none⟩ = some (.int .u64 (f1 3:Nat)):=EndAt.cell (unhide Ha) 4 (by omega)
  have a5:w2.cell? ⟨w.heap.size,5,none⟩ = some (.int .u64 (f1 4:Nat)):=EndAt.cell (unhide Ha) 5 (by omega)
  have a6:w2.cell? ⟨w.heap.size,6,none⟩ = some (.int .u64 (f1 5:Nat)):=EndAt.cell (unhide Ha) 6 (by omega)
  have a7:w2.cell? ⟨w.heap.size,7,none⟩ = some (.int .u64 (f1 6:Nat)):=EndAt.cell (unhide Ha) 7 (by omega)
  have a8:w2.cell? ⟨w.heap.size,8,none⟩ = some (.int .u64 (f1 7:Nat)):=EndAt.cell (unhide Ha) 8 (by omega)
  have c0:w2.cell? ⟨w.heap.size+1,0,none⟩ = some (.bool false):=EndAt.cell (unhide Hc) 0 (by omega)
  have c9:w2.cell? ⟨w.heap.size+1,9,none⟩ = some (.int .u64 (l2 0:Nat)):=EndAt.cell (unhide Hc) 9 (by omega)
  have c10:w2.cell? ⟨w.heap.size+1,10,none⟩ = some (.int .u64 (l2 1:Nat)):=EndAt.cell (unhide Hc) 10 (by omega)
  have c11:w2.cell? ⟨w.heap.size+1,11,none⟩ = some (.int .u64 (l2 2:Nat)):=EndAt.cell (unhide Hc) 11 (by omega)
  have c12:w2.cell? ⟨w.heap.size+1,12,none⟩ = some (.int .u64 (l2 3:Nat)):=EndAt.cell (unhide Hc) 12 (by omega)
  have c13:w2.cell? ⟨w.heap.size+1,13,none⟩ = some (.int .u64 (l2 4:Nat)):=EndAt.cell (unhide Hc) 13 (by omega)
  have c14:w2.cell? ⟨w.heap.size+1,14,none⟩ = some (.int .u64 (l2 5:Nat)):=EndAt.cell (unhide Hc) 14 (by omega)
  have c15:w2.cell? ⟨w.heap.size+1,15,none⟩ = some (.int .u64 (l2 6:Nat)):=EndAt.cell (unhide Hc) 15 (by omega)
  have c16:w2.cell? ⟨w.heap.size+1,16,none⟩ = some (.int .u64 (l2 7:Nat)):=EndAt.cell (unhide Hc) 16 (by omega)
  have HA:=hide ha
  have HF:=hide hf
  have hz2:w.heap.size+3≤w2.heap.size:=by have h1:=hf.size; have h2:=unhide HZ1; omega
  clear ha hf HL HE1 HE2 HE3
  obtain ⟨W3,hW3⟩ : ∃ W3,W3=w2.alloc (oE false f1 l2):=⟨_,rfl⟩
  have HG:Hid (EndAt W3 w2.heap.size false f1 l2):=by rw [hW3]; exact end_new w2 _ _ _
  have HX:Hid (EndAt W3 w.heap.size true f1 l1):=by rw [hW3]; exact World.rowIs.alloc (unhide Ha) _
  have HY:Hid (EndAt W3 (w.heap.size+1) false f2 l2):=by rw [hW3]; exact World.rowIs.alloc (unhide Hc) _
  have HR:Hid (EndAt W3 (w.heap.size+2) false z8 z8):=by rw [hW3]; exact World.rowIs.alloc (unhide Hd) _
  have HBB:Hid (Below w2.heap.size w2 W3):=by rw [hW3]; exact below1 w2 _
  have x0:(w2.alloc (.cells #[.bool false,.int .u64 (f1 0:Nat),.int .u64 (f1 1:Nat),.int .u64 (f1 2:Nat),.int .u64 (f1 3:Nat),.int .u64 (f1 4:Nat),.int .u64 (f1 5:Nat),.int .u64 (f1 6:Nat),.int .u64 (f1 7:Nat),.int .u64 (l2 0:Nat),.int .u64 (l2 1:Nat),.int .u64 (l2 2:Nat),.int .u64 (l2 3:Nat),.int .u64 (l2 4:Nat),.int .u64 (l2 5:Nat),.int .u64 (l2 6:Nat),.int .u64 (l2 7:Nat)] 101)).cell? ⟨w.heap.size,0,none⟩ = some (.bool true):=by rw [← hW3]; exact EndAt.cell (unhide HX) 0 (by omega)
  have y0:(w2.alloc (.cells #[.bool false,.int .u64 (f1 0:Nat),.int .u64 (f1 1:Nat),.int .u64 (f1 2:Nat),.int .u64 (f1 3:Nat),.int .u64 (f1 4:Nat),.int .u64 (f1 5:Nat),.int .u64 (f1 6:Nat),.int .u64 (f1 7:Nat),.int .u64 (l2 0:Nat),.int .u64 (l2 1:Nat),.int .u64 (l2 2:Nat),.int .u64 (l2 3:Nat),.int .u64 (l2 4:Nat),.int .u64 (l2 5:Nat),.int .u64 (l2 6:Nat),.int .u64 (l2 7:Nat)] 101)).cell? ⟨w.heap.size+1,0,none⟩ = some (.bool false):=by rw [← hW3]; exact EndAt.cell (unhide HY) 0 (by omega)
  have HW3:=hide hW3
  clear hW3
  go_wp2_with fail
  rw [← unhide HW3]
  clear HW3
  refine (join_ff (unhide HG) (unhide HY) (by omega) (unhide H1) (unhide H3)).mono ?_
  rintro e w4 ⟨rfl,q1,q2⟩
  have HG:=hide q1
  have HX:=hide (EndAt.on (unhide HX) (q2.block _ (by omega)))
  have HY:=hide (EndAt.on (unhide HY) (q2.block _ (by omega)))
  have HR:=hide (EndAt.on (unhide HR) (q2.block _ (by omega)))
  have HBB:=hide ((unhide HBB).trans (q2.below (Nat.le_refl _)))
  have y0:w4.cell? ⟨w.heap.size+1,0,none⟩ = some (.bool false):=EndAt.cell (unhide HY) 0 (by omega)
  clear q1 q2
  go_wp2_with (first | (refine wpList_load_row rfl 101 (.tmp 7) rfl (w2.heap.size) (by first | (simp [Act.eval]; done) | (simp [Act.eval,Act.put]; done)) 101 _ _ _ (EndAt.blk (unhide HG)) Tryz.underlying101 rfl (by kernel_rfl) ?_) | (refine wpList_store_row rfl 101 (.tmp 6) (.tmp 35) rfl (w.heap.size+1+1) #[.bool false,.int .u64 ((orW f1 f2) 0:Nat),.int .u64 ((orW f1 f2) 1:Nat),.int .u64 ((orW f1 f2) 2:Nat),.int .u64 ((orW f1 f2) 3:Nat),.int .u64 ((orW f1 f2) 4:Nat),.int .u64 ((orW f1 f2) 5:Nat),.int .u64 ((orW f1 f2) 6:Nat),.int .u64 ((orW f1 f2) 7:Nat),.int .u64 (l2 0:Nat),.int .u64 (l2 1:Nat),.int .u64 (l2 2:Nat),.int .u64 (l2 3:Nat),.int .u64 (l2 4:Nat),.int .u64 (l2 5:Nat),.int .u64 (l2 6:Nat),.int .u64 (l2 7:Nat)] (by first | (simp [Act.eval]; done) | (simp [Act.eval,Act.put]; done)) (by first | (simp [Act.eval]; done) | (simp [Act.eval,Act.put]; done)) 101 _ (EndAt.blk (unhide HR)) (by kernel_rfl) rfl (all1 _ _ _) ?_))
  refine bodyPost_ret (end_ret (EndAt.row (unhide HR) _ _ _) rfl _ rfl) rfl ?_
  exact ⟨rfl,unhide HFIN w2 _ _ (unhide HA) (unhide HF) (unhide HBB)⟩
set_option maxHeartbeats 8000000 in
set_option maxRecDepth 100000 in
theorem joinCat_true_true (O:Nat→Prop) (A N:Nat) (S:List (List Int)) (K:List Lk) (f1 l1 f2 l2:Nat→Nat) (xs ys:List Nat) (w:World) (h:AuAt O A w N S K) (hO:∀ k,w.heap.size≤k→O k) (htz:TzO O w)
  (h1:Fit f1) (h2:BitsOf l1 xs) (h3:BitsOf f2 ys) (h4:Fit l2) (hx:∀ x ∈ xs,x<N) (hN:N≤512) :
  Calls Tryz.prog 80 #[.pointer (some ⟨A,0,none⟩),endV true f1 l1,endV true f2 l2] w fun e w' => e = .returned (endV true (orW f1 f2) (orW l2 l1))∧AuAt O A w' N S (K ++ [(xs,ys)])∧FrO O w w':=by
 obtain ⟨W1,hW1⟩ : ∃ W1,W1=((w.alloc (oE true f1 l1)).alloc (oE true f2 l2)).alloc oE0:=⟨_,rfl⟩
 have hz:W1.heap.size=w.heap.size+3:=by rw [hW1,sz_alloc,sz_alloc,sz_alloc]
 have hb1:Below w.heap.size w W1:=by
  rw [hW1]
  exact (below2 w _ _).trans ((below1 _ _).mono (by rw [sz_alloc,sz_alloc]; omega))
 have e1:EndAt W1 w.heap.size true f1 l1:=by
  rw [hW1]
  exact World.rowIs.alloc (World.rowIs.alloc (end_new w true f1 l1) _) _
 have e2:EndAt W1 (w.heap.size+1) true f2 l2:=by
  have:=end_new (w.alloc (oE true f1 l1)) true f2 l2
  rw [sz_alloc] at this
  rw [hW1]
  exact World.rowIs.alloc this _
 have e3:EndAt W1 (w.heap.size+2) false z8 z8:=by
  have:=end_new0 ((w.alloc (oE true f1 l1)).alloc (oE true f2 l2))
  rw [sz_alloc,sz_alloc] at this
  rw [hW1]
  exact this
 have hL:=link_any (Sk O w.heap.size W1.heap.size) A N S K l1 f2 xs ys W1 (h.skip hb1) (fun k hk => ⟨hO k (by omega),Or.inr hk⟩) ((htz.below hb1).less Sk.sub) h2 h3 hx hN
 have HL:=hide hL
 have HE1:=hide e1
 have HE2:=hide e2
 have HE3:=hide e3
 have H1:=hide h1
 have H2:=hide h2.1
 have H3:=hide h3.1
 have H4:=hide h4
 have HO:=hide hO
 have HW1:=hide hW1
 have HB1:=hide hb1
 have HZ1:=hide hz
 clear e1 e2 e3 hz hb1 hW1 h1 h2 h3 h4 hL hx hO htz h
 have HFIN:Hid (∀ (w2 wf:World) (cs:Array Value),AuAt (Sk O w.heap.size W1.heap.size) A w2 N S (K ++ [(xs,ys)])→FrO (Sk O w.heap.size W1.heap.size) W1 w2→Below w2.heap.size w2 wf→AuAt O A (wf.setRow (w.heap.size+2) cs) N S (K ++ [(xs,ys)])∧FrO O w (wf.setRow (w.heap.size+2) cs)):=fun w2 wf cs ha hf hb => by
  have hz:=unhide HZ1
  have hs1:=hf.size
  have hs2:=hb.size
  refine ⟨(ha.keep (w':=wf.setRow (w.heap.size+2) cs) (fun k hk hk2 => ?_)).mono Sk.sub,(fro_of (unhide HB1) (unhide HO)).trans ((hf.mono Sk.sub).trans ⟨hb.os,hb.tape,hb.output,by rw [setRow_size]; exact hb.size,fun k hk => ?_⟩)⟩
  ·rw [setRow_other _ _ _ _ (by rcases hk.2 with q | q <;> omega)]
   exact hb.block k hk2
  ·have hk2:k<w.heap.size:=by apply Nat.lt_of_not_le; intro e; exact hk (unhide HO k e)
   rw [setRow_other _ _ _ _ (by omega)]
   exact hb.block k (by omega)
 have HNO:Hid (∀ (w2:World) (k:Nat),FrO (Sk O w.heap.size W1.heap.size) W1 w2→w.heap.size≤k→k<w.heap.size+3→w2.heap[k]? = W1.heap[k]?):=fun w2 k hf q1 q2 => hf.block k (fun q => by
  have:=unhide HZ1
  rcases q.2 with q | q <;> omega)
 unfold endV
 ·go_enter Tryz.func80,Tryz.ntmps80
  go_wp2_with fail
  rw [← unhide HW1]
  clear HW1
  refine (unhide HL).mono ?_
  rintro e w2 ⟨rfl,ha,hf⟩
  have Ha:=hide (EndAt.on (unhide HE1) (unhide HNO w2 _ hf (by omega) (by omega)))
  have Hc:=hide (EndAt.on (unhide HE2) (unhide HNO w2 _ hf (by omega) (by omega)))
  have Hd:=hide (EndAt.on (unhide HE3) (unhide HNO w2 _ hf (by omega) (by omega)))
  have a0:w2.cell? ⟨w.heap.size,0,none⟩ = some (.bool true):=EndAt.cell (unhide Ha) 0 (by omega)
  have a1:w2.cell? ⟨w.heap.size,1,none⟩ = some (.int .u64 (f1 0:Nat)):=EndAt.cell (unhide Ha) 1 (by omega)
  have a2:w2.cell? ⟨w.heap.size,2,none⟩ = some (.int .u64 (f1 1:Nat)):=EndAt.cell (unhide Ha) 2 (by omega)
  have a3:w2.cell? ⟨w.heap.size,3,none⟩ = some (.int .u64 (f1 2:Nat)):=EndAt.cell (unhide Ha) 3 (by omega)
  have a4:w2.cell? ⟨w.heap.size,4,none⟩ = some (.int .u64 (f1 3:Nat)):=EndAt.cell (unhide Ha) 4 (by omega)
  have a5:w2.cell? ⟨w.heap.size,5,none⟩ = some (.int .u64 (f1 4:Nat)):=EndAt.cell (unhide Ha) 5 (by omega)
  have a6:w2.cell? ⟨w.heap.size,6,none⟩ = some (.int .u64 (f1 5:Nat)):=EndAt.cell (unhide Ha) 6 (by omega)
  have a7:w2.cell? ⟨w.heap.size,7,none⟩ = some (.int .u64 (f1 6:Nat)):=EndAt.cell (unhide Ha) 7 (by omega)
  have a8:w2.cell? ⟨w.heap.size,8,none⟩ = some (.int .u64 (f1 7:Nat)):=EndAt.cell (unhide Ha) 8 (by omega)
  have c0:w2.cell? ⟨w.heap.size+1,0,none⟩ = some (.bool true):=EndAt.cell (unhide Hc) 0 (by omega)
  have c9:w2.cell? ⟨w.heap.size+1,9,none⟩ = some (.int .u64 (l2 0:Nat)):=EndAt.cell (unhide Hc) 9 (by omega)
  have c10:w2.cell? ⟨w.heap.size+1,10,none⟩ = some (.int .u64 (l2 1:Nat)):=EndAt.cell (unhide Hc) 10 (by omega)
  have c11:w2.cell? ⟨w.heap.size+1,11,none⟩ = some (.int .u64 (l2 2:Nat)):=EndAt.cell (unhide Hc) 11 (by omega)
  have c12:w2.cell? ⟨w.heap.size+1,12,none⟩ = some (.int .u64 (l2 3:Nat)):=EndAt.cell (unhide Hc) 12 (by omega)
  have c13:w2.cell? ⟨w.heap.size+1,13,none⟩ = some (.int .u64 (l2 4:Nat)):=EndAt.cell (unhide Hc) 13 (by omega)
  have c14:w2.cell? ⟨w.heap.size+1,14,none⟩ = some (.int .u64 (l2 5:Nat)):=EndAt.cell (unhide Hc) 14 (by omega)
  have c15:w2.cell? ⟨w.heap.size+1,15,none⟩ = some (.int .u64 (l2 6:Nat)):=EndAt.cell (unhide Hc) 15 (by omega)
  have c16:w2.cell? ⟨w.heap.size+1,16,none⟩ = some (.int .u64 (l2 7:Nat)):=EndAt.cell (unhide Hc) 16 (by omega)
  have HA:=hide ha
  have HF:=hide hf
  have hz2:w.heap.size+3≤w2.heap.size:=by have h1:=hf.size; have h2:=unhide HZ1; omega
  clear ha hf HL HE1 HE2 HE3
  obtain ⟨W3,hW3⟩ : ∃ W3,W3=w2.alloc (oE true f1 l2):=⟨_,rfl⟩
  have HG:Hid (EndAt W3 w2.heap.size true f1 l2):=by rw [hW3]; exact end_new w2 _ _ _
  have HX:Hid (EndAt W3 w.heap.size true f1 l1):=by rw [hW3]; exact World.rowIs.alloc (unhide Ha) _
  have HY:Hid (EndAt W3 (w.heap.size+1) true f2 l2):=by rw [hW3]; exact World.rowIs.alloc (unhide Hc) _
  have HR:Hid (EndAt W3 (w.heap.size+2) false z8 z8):=by rw [hW3]; exact World.rowIs.alloc (unhide Hd) _
  have HBB:Hid (Below w2.heap.size w2 W3):=by rw [hW3]; exact below1 w2 _
  have x0:(w2.alloc (.cells #[.bool true,.int .u64 (f1 0:Nat),.int .u64 (f1 1:Nat),.int .u64 (f1 2:Nat),.int .u64 (f1 3:Nat),.int .u64 (f1 4:Nat),.int .u64 (f1 5:Nat),.int .u64 (f1 6:Nat),.int .u64 (f1 7:Nat),.int .u64 (l2 0:Nat),.int .u64 (l2 1:Nat),.int .u64 (l2 2:Nat),.int .u64 (l2 3:Nat),.int .u64 (l2 4:Nat),.int .u64 (l2 5:Nat),.int .u64 (l2 6:Nat),.int .u64 (l2 7:Nat)] 101)).cell? ⟨w.heap.size,0,none⟩ = some (.bool true):=by rw [← hW3]; exact EndAt.cell (unhide HX) 0 (by omega)
  have y0:(w2.alloc (.cells #[.bool true,.int .u64 (f1 0:Nat),.int .u64 (f1 1:Nat),.int .u64 (f1 2:Nat),.int .u64 (f1 3:Nat),.int .u64 (f1 4:Nat),.int .u64 (f1 5:Nat),.int .u64 (f1 6:Nat),.int .u64 (f1 7:Nat),.int .u64 (l2 0:Nat),.int .u64 (l2 1:Nat),.int .u64 (l2 2:Nat),.int .u64 (l2 3:Nat),.int .u64 (l2 4:Nat),.int .u64 (l2 5:Nat),.int .u64 (l2 6:Nat),.int .u64 (l2 7:Nat)] 101)).cell? ⟨w.heap.size+1,0,none⟩ = some (.bool true):=by rw [← hW3]; exact EndAt.cell (unhide HY) 0 (by omega)
  have HW3:=hide hW3
  clear hW3
  go_wp2_with fail
  rw [← unhide HW3]
  clear HW3
  refine (join_ff (unhide HG) (unhide HY) (by omega) (unhide H1) (unhide H3)).mono ?_
  rintro e w4 ⟨rfl,q1,q2⟩
  have HG:=hide q1
  have HX:=hide (EndAt.on (unhide HX) (q2.block _ (by omega)))
  have HY:=hide (EndAt.on (unhide HY) (q2.block _ (by omega)))
  have HR:=hide (EndAt.on (unhide HR) (q2.block _ (by omega)))
  have HBB:=hide ((unhide HBB).trans (q2.below (Nat.le_refl _)))
  have y0:w4.cell? ⟨w.heap.size+1,0,none⟩ = some (.bool true):=EndAt.cell (unhide HY) 0 (by omega)
  clear q1 q2
  go_wp2_with fail
  refine (join_ll (unhide HG) (unhide HX) (by omega) (unhide H4) (unhide H2)).mono ?_
  rintro e w5 ⟨rfl,q1,q2⟩
  have HG:=hide q1
  have HR:=hide (EndAt.on (unhide HR) (q2.block _ (by omega)))
  have HBB:=hide ((unhide HBB).trans (q2.below (Nat.le_refl _)))
  clear q1 q2
  go_wp2_with (first | (refine wpList_load_row rfl 101 (.tmp 7) rfl (w2.heap.size) (by first | (simp [Act.eval]; done) | (simp [Act.eval,Act.put]; done)) 101 _ _ _ (EndAt.blk (unhide HG)) Tryz.underlying101 rfl (by kernel_rfl) ?_) | (refine wpList_store_row rfl 101 (.tmp 6) (.tmp 35) rfl (w.heap.size+1+1) #[.bool true,.int .u64 ((orW f1 f2) 0:Nat),.int .u64 ((orW f1 f2) 1:Nat),.int .u64 ((orW f1 f2) 2:Nat),.int .u64 ((orW f1 f2) 3:Nat),.int .u64 ((orW f1 f2) 4:Nat),.int .u64 ((orW f1 f2) 5:Nat),.int .u64 ((orW f1 f2) 6:Nat),.int .u64 ((orW f1 f2) 7:Nat),.int .u64 ((orW l2 l1) 0:Nat),.int .u64 ((orW l2 l1) 1:Nat),.int .u64 ((orW l2 l1) 2:Nat),.int .u64 ((orW l2 l1) 3:Nat),.int .u64 ((orW l2 l1) 4:Nat),.int .u64 ((orW l2 l1) 5:Nat),.int .u64 ((orW l2 l1) 6:Nat),.int .u64 ((orW l2 l1) 7:Nat)] (by first | (simp [Act.eval]; done) | (simp [Act.eval,Act.put]; done)) (by first | (simp [Act.eval]; done) | (simp [Act.eval,Act.put]; done)) 101 _ (EndAt.blk (unhide HR)) (by kernel_rfl) rfl (all1 _ _ _) ?_))
  refine bodyPost_ret (end_ret (EndAt.row (unhide HR) _ _ _) rfl _ rfl) rfl ?_
  exact ⟨rfl,unhide HFIN w2 _ _ (unhide HA) (unhide HF) (unhide HBB)⟩
theorem joinCat_any (O:Nat→Prop) (A N:Nat) (S:List (List Int)) (K:List Lk) (b1 b2:Bool) (f1 l1 f2 l2:Nat→Nat) (xs ys:List Nat) (w:World) (h:AuAt O A w N S K) (hO:∀ k,w.heap.size≤k→O k) (htz:TzO O w)
  (h1:Fit f1) (h2:BitsOf l1 xs) (h3:BitsOf f2 ys) (h4:Fit l2) (hx:∀ x ∈ xs,x<N) (hN:N≤512) :
  Calls Tryz.prog 80 #[.pointer (some ⟨A,0,none⟩),endV b1 f1 l1,endV b2 f2 l2] w fun e w' => e = .returned (endV (b1 && b2) (if b1 then orW f1 f2 else f1) (if b2 then orW l2 l1 else l2))∧AuAt O A w' N S (K ++ [(xs,ys)])∧FrO O w w':=by
 cases b1 <;> cases b2
 ·exact joinCat_false_false O A N S K f1 l1 f2 l2 xs ys w h hO htz h1 h2 h3 h4 hx hN
 ·exact joinCat_false_true O A N S K f1 l1 f2 l2 xs ys w h hO htz h1 h2 h3 h4 hx hN
 ·exact joinCat_true_false O A N S K f1 l1 f2 l2 xs ys w h hO htz h1 h2 h3 h4 hx hN
 ·exact joinCat_true_true O A N S K f1 l1 f2 l2 xs ys w h hO htz h1 h2 h3 h4 hx hN
end Go.Proofs.YtlidckepahpaeaaGreatDoor
