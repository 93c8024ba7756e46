import Derived.Test.YtlidckepahpaeaaGreatDoorPk11
namespace Go.Proofs.YtlidckepahpaeaaGreatDoor
open Go.RowKit
theorem own_some {base e sz n:Nat} {w:World} {v:Value} {xs:List Value} (h:w.ownsRow base e sz v n xs) (hp:0<n):∃ g cap,v = .slice (some ⟨g,0,none⟩) n cap:=by
 obtain ⟨g,cap,m,F,rfl,-⟩ := own_row h hp
 exact ⟨g,cap,rfl⟩
set_option maxHeartbeats 8000000 in
set_option maxRecDepth 100000 in
theorem addSet_any (O:Nat→Prop) (A N:Nat) (S:List (List Int)) (K:List Lk) (g:Nat→Nat) (xs:List Int) (w:World) (h:AuAt O A w N S K) (hO:∀ k,w.heap.size≤k→O k) (hw:WordsOf xs g) (hc:Canon xs) (hN:N+1≤512) :
  Calls Tryz.prog 79 #[.pointer (some ⟨A,0,none⟩),ws4 g] w fun e w' => ∃ f,e = .returned (endV false f f)∧BitsOf f [N]∧AuAt O A w' (N+1) (S ++ [xs]) K∧FrO O w w':=by
 obtain ⟨i0,hi0,hz0,hz1,hz2⟩ := info_parts Tryz.zinBS
 obtain ⟨j0,hj0,hy0,hy1,hy2⟩ := info_parts Tryz.zinPS
 obtain ⟨sv,fv,gs,hs,hM,hSl,hset,hfit,hbt,hzero⟩ := h
 obtain ⟨sa,sc,rfl⟩ := own_is hM.so
 obtain ⟨fa,fc,rfl⟩ := own_is hM.fo
 have HW:=hide hw
 have HC:=hide hc
 have HO:=hide hO
 have HSET:=hide hset
 have HFIT:=hide hfit
 have HBT:=hide hbt
 have HZ:=hide hzero
 have HSL:=hide hSl
 obtain ⟨W1,hW1⟩ : ∃ W1,W1=((w.alloc (o4 g)).alloc oE0).alloc o80:=⟨_,rfl⟩
 have hz:W1.heap.size=w.heap.size+3:=by rw [hW1,sz_alloc,sz_alloc,sz_alloc]
 have hb1:Below w.heap.size w W1:=by
  rw [hW1]
  exact (below2 w _ _).trans ((below1 _ _).mono (by rw [sz_alloc,sz_alloc]; omega))
 have r4:W1.rowIs w.heap.size 85 4 (fun j => .int .u64 (g j:Nat)):=by
  rw [hW1]
  exact ((four_row w _ g).alloc _).alloc _
 have rE:EndAt W1 (w.heap.size+1) false z8 z8:=by
  have:=end_new0 (w.alloc (o4 g))
  rw [sz_alloc] at this
  rw [hW1]
  exact World.rowIs.alloc this _
 have r8:W1.rowIs (w.heap.size+2) 99 8 (wd z8):=by
  have:=eight_new0 ((w.alloc (o4 g)).alloc oE0)
  rw [sz_alloc,sz_alloc] at this
  rw [hW1]
  exact this
 obtain ⟨cA,-,-,-⟩ := (hM.keep (fun k _ hk => hb1.block k hk)).facts
 have HM:=hide hM
 have HP:=hide (put_any (w.heap.size+2) N z8 W1 z8_fit (by omega) r8)
 have HR4:=hide r4
 have HRE:=hide rE
 clear hw hc hO hset hfit hbt hzero hSl hM r4 rE r8
 rw [hW1] at cA
 unfold ws4
 have HW1:=hide hW1
 go_enter Tryz.func79,Tryz.ntmps79
 go_wp2_with fail
 rw [← unhide HW1]
 refine (unhide HP).mono ?_
 rintro e w2 ⟨rfl,hr2,hob⟩
 clear cA HW1 hW1 HP
 have hz2':w2.heap.size=w.heap.size+3:=hob.size.trans hz
 have hb2:Below w.heap.size w w2:=hb1.trans ⟨hob.os,hob.tape,hob.output,by rw [hob.size]; exact Nat.le_refl _,fun k hk => hob.block k (by omega)⟩
 have hM2:=(unhide HM).skip hb2
 have hO2:∀ k,w2.heap.size≤k→Sk O w.heap.size w2.heap.size k:=fun k hk => ⟨unhide HO k (by omega),Or.inr hk⟩
 have r4:=(unhide HR4).of_block (hob.block _ (by omega))
 have HRE2:=hide ((unhide HRE).on (hob.block _ (by omega)))
 have HR8:=hide hr2
 have k0:=r4.cell (i:=0) (by omega)
 have k1:=r4.cell (i:=1) (by omega)
 have k2:=r4.cell (i:=2) (by omega)
 have k3:=r4.cell (i:=3) (by omega)
 obtain ⟨a0,a1,a2,a3⟩ := hM2.facts
 have HSO:=hide hM2.so
 have HM2:=hide hM2
 have HO2:=hide hO2
 have HB2:=hide hb2
 have hA0:A<w.heap.size:=(unhide HM).lt
 have HNO:Hid (∀ k,w.heap.size≤k→k<w.heap.size+3→¬ Sk O w.heap.size w2.heap.size k):=fun k q1 q2 q => by rcases q.2 with q | q <;> omega
 have hA1:¬ A=w.heap.size+1:=by omega
 have hA2:¬ w.heap.size+1=A:=by omega
 have hA3:¬ A=w.heap.size+1+1:=by omega
 have hA4:¬ w.heap.size+1+1=A:=by omega
 have HFIN:Hid (∀ (w9 wf:World) (sv' fv':Value),AuM (Sk O w.heap.size w2.heap.size) A w9 sv' fv' (N+1) (N+1) (fun i => if i=N then g else gs i) hs→FrO (Sk O w.heap.size w2.heap.size) w2 w9→Obk (w.heap.size+1) w9 wf→∃ f,Ending.returned (endV false (putW z8 N) (putW z8 N)) = .returned (endV false f f)∧BitsOf f [N]∧AuAt O A wf (N+1) (S ++ [xs]) K∧FrO O w wf):=fun w9 wf sv' fv' hm hf hob9 => by
  have hmf:=(hm.keep (w':=wf) (fun k hk _ => hob9.block k (fun e => unhide HNO k (by omega) (by omega) hk))).mono Sk.sub
  refine ⟨_,rfl,bits_put0 N,⟨_,_,_,_,hmf,by rw [List.length_append,unhide HSL]; rfl,fun i hi => ?_,unhide HFIT,unhide HBT,fun i hi => unhide HZ i (by omega)⟩,?_⟩
  ·(try dsimp only)
   by_cases e:i=N
   ·subst e
    rw [if_pos rfl,List.getElem?_append_right (by rw [unhide HSL]; exact Nat.le_refl _),unhide HSL,Nat.sub_self]
    exact ⟨unhide HC,unhide HW⟩
   ·rw [if_neg e,List.getElem?_append_left (by rw [unhide HSL]; omega)]
    exact unhide HSET i (by omega)
  ·exact (fro_of hb2 (unhide HO)).trans ((hf.mono Sk.sub).trans (hob9.fro (unhide HO _ (by omega))))
 obtain ⟨b0,-,-,-⟩ := (hM2.keep (w':=w2.alloc (.cells #[.int .u64 (g 0:Nat),.int .u64 (g 1:Nat),.int .u64 (g 2:Nat),.int .u64 (g 3:Nat)] 85)) (fun k _ hk => (below1 w2 _).block k hk)).facts
 have HZ2:=hide hz2'
 clear hr2 hob hM2 hO2 r4 HR4 HRE HM hb1 hz hb2 hz2'
 have HPS:Hid (∀ (WA w7:World) (gg cap:Nat),w7.ownsRow 0 85 4 (.slice (some ⟨gg,0,none⟩) (N+1) cap) (N+1) (flatF 4 N gs ++ [wd g 0,wd g 1,wd g 2,wd g 3])→WA.grownBy w7 (Value.slice sa N sc).ownBlock→((Value.slice sa N sc).ownBlock=some gg∨gg=w2.heap.size+1)→Pushd w2 WA (.cells #[wd g 0,wd g 1,wd g 2,wd g 3] 85) →
   AuM (Sk O w.heap.size w2.heap.size) A (w7.setCell ⟨A,0,none⟩ (.slice (some ⟨gg,0,none⟩) (N+1) cap)) (.slice (some ⟨gg,0,none⟩) (N+1) cap) (.slice fa N fc) (N+1) N (fun i => if i=N then g else gs i) hs∧FrO (Sk O w.heap.size w2.heap.size) w2 (w7.setCell ⟨A,0,none⟩ (.slice (some ⟨gg,0,none⟩) (N+1) cap))∧w7.frozen? ⟨A,0,none⟩ = false∧w7.cell? ⟨A,0,none⟩ = some (.slice sa N sc)):=fun WA w7 gg cap r1 r2 r3 hP => by
  obtain ⟨q1,q2,-,q3,q4⟩ := (unhide HM2).pushS (H:=w2.heap.size+1) hP.below hP.size (unhide HO2) r1 r2 r3
  exact ⟨q1,q2,q3,q4⟩
 go_wp2_with fail
 go_region_law (
  (refine step_append_lies _ rfl (.tmp 16) (.tmp 18) 97 rfl 0 85 i0 (.agg #[.int .u64 0,.int .u64 0,.int .u64 0,.int .u64 0]) 4 32 Tryz.underlying97 hi0 hz0 hz1 hz2 rfl (by decide) (.slice sa N sc) N (flatF 4 N gs) (by first | (simp [Act.eval]; done) | (simp [Act.eval,Act.put]; done)) (by refine Pushd.own (w:=w2) (o:=.cells #[wd g 0,wd g 1,wd g 2,wd g 3] 85) ?_ (unhide HSO); exact ⟨rfl,rfl,rfl,rfl⟩) ⟨w2.heap.size,0,none⟩ 1 1 [wd g 0,wd g 1,wd g 2,wd g 3] (by first | (simp [Act.eval]; done) | (simp [Act.eval,Act.put]; done)) rfl (by refine Pushd.news (w:=w2) (cs:=#[wd g 0,wd g 1,wd g 2,wd g 3]) (t:=85) ?_; exact ⟨rfl,rfl,rfl,rfl⟩) (by intro u hu; simp only [List.mem_cons,List.not_mem_nil,or_false] at hu; rcases hu with rfl | rfl | rfl | rfl <;> rfl) (by decide) (by unfold maxLen; omega) (by omega) (Nat.zero_le _) (w2.heap.size+1) (sz_alloc w2 _) (fun gg cap w7 r1 r2 r3 r4 => ?_); have h7:=hide (unhide HPS _ w7 gg cap r1 r2 r3 (by exact ⟨rfl,rfl,rfl,rfl⟩)); obtain ⟨-,-,z7,c7⟩ := unhide h7; clear r1 r2 r3 r4))
 all_goals
  obtain ⟨hM3,hF3,-,-⟩ := unhide h7
  clear z7 c7 h7 HPS
  generalize w7.setCell ⟨A,0,none⟩ (.slice (some ⟨gg,0,none⟩) (N+1) cap)=w3 at *
  obtain ⟨-,a1,-,a3⟩ := hM3.facts
  have HFO:=hide hM3.fo
  have HM3:=hide hM3
  have HF3:=hide hF3
  have hz3:=hF3.size
  clear hM3 hF3 a0 k0 k1 k2 k3 b0 HSO a2 HM2
  go_wp2_with (at_builtin; refine wpList_append_own_at _ rfl (.tmp 26) (.tmp 28) 52 rfl 0 99 j0 (.agg #[.int .u64 0,.int .u64 0,.int .u64 0,.int .u64 0,.int .u64 0,.int .u64 0,.int .u64 0,.int .u64 0]) 8 64 Tryz.underlying52 hj0 hy0 hy1 hy2 rfl (by decide) (.slice fa N fc) N (flatF 8 N hs) (by first | (simp [Act.eval]; done) | (simp [Act.eval,Act.put]; done)) (by refine Pushd.own (w:=w3) (o:=o80) ?_ (unhide HFO); exact ⟨rfl,rfl,rfl,rfl⟩) ⟨w3.heap.size,0,none⟩ 1 1 [wd z8 0,wd z8 1,wd z8 2,wd z8 3,wd z8 4,wd z8 5,wd z8 6,wd z8 7] (by first | (simp [Act.eval]; done) | (simp [Act.eval,Act.put]; done)) rfl (by refine Pushd.news (w:=w3) (cs:=#[wd z8 0,wd z8 1,wd z8 2,wd z8 3,wd z8 4,wd z8 5,wd z8 6,wd z8 7]) (t:=99) ?_; exact ⟨rfl,rfl,rfl,rfl⟩) (by intro u hu; simp only [List.mem_cons,List.not_mem_nil,or_false] at hu; rcases hu with rfl | rfl | rfl | rfl | rfl | rfl | rfl | rfl <;> rfl) (by unfold maxLen; omega) (by omega) (Nat.zero_le _) ?_; intro fv2 w8 r1 r2 _ r3; obtain ⟨g2,cap2,rfl⟩ := own_some r1 (by omega); have h8:=hide ((unhide HM3).pushF (H:=w3.heap.size+1) (x:=z8) (below1 w3 o80) (sz_alloc w3 _) (fun k hk => unhide HO2 k (by omega)) (unhide HZ N (Nat.le_refl _)) r1 r2 (r3.imp (fun e => e.symm) (fun e => by have:=Option.some.inj e; exact this.trans (sz_alloc w3 _)))); obtain ⟨-,-,hF8,z8',c8⟩ := unhide h8; have HE8:=(unhide HRE2).on ((hF8.block _ (unhide HNO _ (by omega) (by omega))).trans ((unhide HF3).block _ (unhide HNO _ (by omega) (by omega)))); have HP8:=(unhide HR8).of_block ((hF8.block _ (unhide HNO _ (by omega) (by omega))).trans ((unhide HF3).block _ (unhide HNO _ (by omega) (by omega)))); have p0:=HP8.cell (i:=0) (by omega); have p1:=HP8.cell (i:=1) (by omega); have p2:=HP8.cell (i:=2) (by omega); have p3:=HP8.cell (i:=3) (by omega); have p4:=HP8.cell (i:=4) (by omega); have p5:=HP8.cell (i:=5) (by omega); have p6:=HP8.cell (i:=6) (by omega); have p7:=HP8.cell (i:=7) (by omega); have q0:=HE8.cell 0 (by omega); have q1:=HE8.cell 1 (by omega); have q2:=HE8.cell 2 (by omega); have q3:=HE8.cell 3 (by omega); have q4:=HE8.cell 4 (by omega); have q5:=HE8.cell 5 (by omega); have q6:=HE8.cell 6 (by omega); have q7:=HE8.cell 7 (by omega); have q8:=HE8.cell 8 (by omega); have q9:=HE8.cell 9 (by omega); have q10:=HE8.cell 10 (by omega); have q11:=HE8.cell 11 (by omega); have q12:=HE8.cell 12 (by omega); have q13:=HE8.cell 13 (by omega); have q14:=HE8.cell 14 (by omega); have q15:=HE8.cell 15 (by omega); have q16:=HE8.cell 16 (by omega); have y0:=World.rowIs.frozen HE8 0; have y1:=World.rowIs.frozen HE8 1; have y2:=World.rowIs.frozen HE8 2; have y3:=World.rowIs.frozen HE8 3; have y4:=World.rowIs.frozen HE8 4; have y5:=World.rowIs.frozen HE8 5; have y6:=World.rowIs.frozen HE8 6; have y7:=World.rowIs.frozen HE8 7; have y8:=World.rowIs.frozen HE8 8; have y9:=World.rowIs.frozen HE8 9; have y10:=World.rowIs.frozen HE8 10; have y11:=World.rowIs.frozen HE8 11; have y12:=World.rowIs.frozen HE8 12; have y13:=World.rowIs.frozen HE8 13; have y14:=World.rowIs.frozen HE8 14; have y15:=World.rowIs.frozen HE8 15; have y16:=World.rowIs.frozen HE8 16; unfold wd at p0 p1 p2 p3 p4 p5 p6 p7; have HEX:=hide HE8; clear HE8 HP8 r1 r2 r3 hF8)
  refine bodyPost_ret (end_ret (s17_end (World.rowIs.of_block (unhide HEX) (Below.heap_setCell w8 ⟨A,1,none⟩ _ (w.heap.size+1) hA2)) false (putW z8 N) (putW z8 N)) rfl _ rfl) rfl ?_
  exact unhide HFIN _ _ _ _ (unhide h8).1 ((unhide HF3).trans (unhide h8).2.1) (s17_ob _ _ _ _ _)
end Go.Proofs.YtlidckepahpaeaaGreatDoor
