import Derived.Test.YtlidckepahpaeaaGreatDoorPk19
import Derived.BigRegion
import Derived.Deep.DeepCutAuto
namespace Go.Proofs.YtlidckepahpaeaaGreatDoor
open Go.RowKit
set_option maxHeartbeats 4000000 in
set_option maxRecDepth 100000 in
theorem cut_any (O:Nat→Prop) (g mb mc pb pc bb bc:Nat) (w:World) (n N:Nat) (ms ps bs fr mk tt:Nat→Nat) (kb kc:Nat) (qv:Value) (qs:List Int) (tk:Nat) (k:Nat)
  (h:PtAt O g mb mc pb pc bb bc w n N ms ps bs fr mk tt kb kc qv qs tk) (hI:PInv n N ms ps bs fr mk tt) (hO:∀ k,w.heap.size≤k→O k) (hk:k<N) (hn:n≤1024) (hN:N≤1024) (hq:qs.length≤1024) :
  Calls Tryz.prog 121 #[.pointer (some ⟨g,0,none⟩),.int .i64 (k:Nat)] w fun e w' => e = .returned (.tuple #[])∧FrO O w w'∧CutRet O g mb mc pb pc bb bc w' n N ms ps bs fr mk tt qs tk k:=by
 obtain ⟨c0,c1,c2,c3,c4,c5,fz⟩ := h.facts
 obtain ⟨b0,b1,b2,fk⟩ := h.blk hk
 obtain ⟨i1,i2,i3,i4⟩ := hI.b1 k hk
 have hk':(k:Int)<(N:Int):=by omega
 have al:∀ (W:World) (o:Obj) (j:Nat),kb<W.heap.size→(W.alloc o).cell? ⟨kb,j,none⟩ = W.cell? ⟨kb,j,none⟩ := fun W o j hj => (below1 W o).cell (p:=⟨kb,j,none⟩) hj
 have a0:=(al w (.cells #[.int .i64 0,.int .i64 0,.int .i64 0] 199) (k * 3) h.ltk).trans b0
 have a1:=(al w (.cells #[.int .i64 0,.int .i64 0,.int .i64 0] 199) (k * 3+1) h.ltk).trans b1
 obtain ⟨W1,hW1⟩ : ∃ W1,W1=w.alloc (.cells #[.int .i64 (fr k:Nat),.int .i64 (fr k:Nat),.int .i64 (mk k:Nat)] 199):=⟨_,rfl⟩
 have hz1:W1.heap.size=w.heap.size+1:=by rw [hW1,sz_alloc]
 have hlk:=h.ltk
 have d1:W1.cell? ⟨kb,k * 3+1,none⟩ = some (.int .i64 (mk k:Nat)):=by rw [hW1]; exact (al _ _ _ hlk).trans b1
 have d2:W1.cell? ⟨kb,k * 3+2,none⟩ = some (.int .i64 (tt k:Nat)):=by rw [hW1]; exact (al _ _ _ hlk).trans b2
 have e1:=(al W1 (.cells #[.int .i64 0,.int .i64 0,.int .i64 0] 199) (k * 3+1) (by omega)).trans d1
 have e2:=(al W1 (.cells #[.int .i64 0,.int .i64 0,.int .i64 0] 199) (k * 3+2) (by omega)).trans d2
 obtain ⟨W2,hW2⟩ : ∃ W2,W2=W1.alloc (.cells #[.int .i64 (mk k:Nat),.int .i64 (mk k:Nat),.int .i64 (tt k:Nat)] 199):=⟨_,rfl⟩
 have hM:CutM w W2 (fr k) (mk k) (mk k) (tt k):=by
  rw [hW2]
  refine ⟨?_,?_,?_,by rw [sz_alloc,hz1]⟩
  ·rw [hW1]; exact (row3_new w _ _ _ _).alloc _
  ·rw [← hz1]; exact row3_new W1 _ _ _ _
  ·rw [hW1]; exact below2 w _ _
 have o0:=hM.off.cell (i:=0) (by omega)
 have o1:=hM.off.cell (i:=1) (by omega)
 have o2:=hM.off.cell (i:=2) (by omega)
 have r0:=hM.rest.cell (i:=0) (by omega)
 have r1:=hM.rest.cell (i:=1) (by omega)
 have r2:=hM.rest.cell (i:=2) (by omega)
 have zo:=fun j => hM.off.frozen j
 have zr:=fun j => hM.rest.frozen j
 simp only [List.getD_cons_succ,List.getD_cons_zero] at o0 o1 o2 r0 r1 r2
 have HM:=hide hM
 have HW1:=hide hW1
 have HW2:=hide hW2
 have H:=hide h
 have HI:=hide hI
 have HO:=hide hO
 clear hW1 hW2 hM h hI hO al
 go_enter Tryz.func121,Tryz.ntmps121
 go_wp2_with fail
 go_region
 rw [← unhide HW1]
 clear a0 a1 b0 b1 b2
 go_wp2_with fail
 go_region
 rw [← unhide HW2]
 clear d1 d2 e1 e2 HW1 HW2
 go_upto_if 52 with fail
 go_cut [5] (fun pv wx => pv = .pointer (some ⟨w.heap.size,0,none⟩)∧∃ o1 o2 r1 r2,CutM w wx o1 o2 r1 r2∧CutS (fr k) (mk k) (tt k) o1 o2 r1 r2)
 case first =>
  by_cases hc:tt k - mk k<mk k - fr k
  ·have hc':((tt k:Nat):Int) - (mk k:Nat)<((mk k:Nat):Int) - (fr k:Nat):=by omega
   go_wp2_with fail
   go_meet
   exact ⟨rfl,_,_,_,_,(unhide HM).swap.drew.drew,.inr ⟨rfl,rfl,rfl,rfl,hc⟩⟩
  ·have hc':¬ ((tt k:Nat):Int) - (mk k:Nat)<((mk k:Nat):Int) - (fr k:Nat):=by omega
   go_wp2_with fail
   go_meet
   exact ⟨rfl,_,_,_,_,(unhide HM).drew.drew,.inl ⟨rfl,rfl,rfl,rfl,by omega⟩⟩
 case rest =>
  obtain ⟨rfl,q1,q2,s1,s2,hM,hS⟩ := hcut
  obtain ⟨w4,rfl⟩ : ∃ w4,w4=wc:=⟨_,rfl⟩
  clear o0 o1 o2 r0 r1 r2 zo zr HM c0 c1 c2 c3 c4 c5 fz fk
  obtain ⟨O1,hO1⟩ : ∃ O1,O1=Sk O w.heap.size w4.heap.size:=⟨_,rfl⟩
  have hV:=(unhide H).skip hM.bl
  rw [← hO1] at hV
  have hT1:∀ k,w4.heap.size≤k→O1 k:=fun k hk => by rw [hO1]; exact ⟨unhide HO k (by have:=hM.sz; omega),Or.inr hk⟩
  have hN1:∀ k,w.heap.size≤k→k<w.heap.size+2→¬ O1 k:=fun k h1 h2 => by rw [hO1]; rintro ⟨-,h3⟩; have:=hM.sz; omega
  have hS1:∀ k,O1 k→O k:=by rw [hO1]; exact Sk.sub
  obtain ⟨b0,b1,b2,fk⟩ := hV.blk hk
  have f1:=fk (k * 3+1)
  have hV5:=hV.setMk hk (fr k)
  have fr5:=hV.fro (k * 3+1) (.int .i64 (fr k:Nat))
  obtain ⟨W5,hW5⟩ : ∃ W5,W5=w4.setCell ⟨kb,k * 3+1,none⟩ (.int .i64 (fr k:Nat)):=⟨_,rfl⟩
  rw [← hW5] at hV5 fr5
  have ro:=hM.off.of_block (fr5.block _ (hN1 _ (by omega) (by omega)))
  have rr:=hM.rest.of_block (fr5.block _ (hN1 _ (by omega) (by omega)))
  have p0:=ro.cell (i:=0) (by omega)
  have p1:=ro.cell (i:=1) (by omega)
  have p2:=ro.cell (i:=2) (by omega)
  have t0:=rr.cell (i:=0) (by omega)
  have t1:=rr.cell (i:=1) (by omega)
  have t2:=rr.cell (i:=2) (by omega)
  simp only [List.getD_cons_succ,List.getD_cons_zero] at p0 p1 p2 t0 t1 t2
  subst hW5
  have HV:=hide hV
  have HV5:=hide hV5
  have FR5:=hide fr5
  have HM:=hide hM
  have HS:=hide hS
  have T1:=hide hT1
  have N1:=hide hN1
  have S1:=hide hS1
  have HRO:=hide ro
  clear hO1 hV hT1 hN1 hS1 fk hV5 fr5 ro rr hM hS
  by_cases he:q1=q2
  ·have he':(q1:Int)=(q2:Int):=by omega
   go_wp2_with fail
   first | (refine bodyPost_ret (results_none rfl _ _ _) rfl ?_) | (refine bodyPost_end (results_none rfl _ _ _) rfl ?_)
   refine ⟨rfl,(fro_of (unhide HM).bl (unhide HO)).trans ((unhide FR5).mono (unhide S1)),.inl ⟨_,_,_,?_,(unhide HV5).mono (unhide S1)⟩⟩
   rcases unhide HS with ⟨rfl,rfl,-⟩ | ⟨rfl,rfl,-⟩
   ·exact .inl he.symm
   ·exact .inr he
  ·have he':¬ (q1:Int)=(q2:Int):=by omega
   have hst:fr k<mk k∧mk k<tt k∧q1<q2∧q2≤n:=by
    rcases unhide HS with ⟨rfl,rfl,-,-,hc⟩ | ⟨rfl,rfl,-,-,hc⟩ <;> omega
   obtain ⟨x0,x1,x2,fx⟩ := (unhide HV5).blk hk
   have hV7:=(((unhide HV5).setFr hk s1).setMk hk s1).setTt hk s2
   have fr7:=((unhide HV5).fro (k * 3) (.int .i64 (s1:Nat))).trans ((((unhide HV5).setFr hk s1).fro (k * 3+1) (.int .i64 (s1:Nat))).trans ((((unhide HV5).setFr hk s1).setMk hk s1).fro (k * 3+2) (.int .i64 (s2:Nat))))
   rw [upd_upd] at hV7
   have FR7:=hide fr7
   obtain ⟨-,-,-,y3,-⟩ := hV7.facts
   have HV7:=hide hV7
   clear hV7 fr7
   go_wp2_with fail
   obtain ⟨w7,hw7⟩ : ∃ w7,w7=(((w4.setCell ⟨kb,k * 3+1,none⟩ (.int .i64 (fr k:Nat))).setCell ⟨kb,k * 3,none⟩ (.int .i64 (s1:Nat))).setCell ⟨kb,k * 3+1,none⟩ (.int .i64 (s1:Nat))).setCell ⟨kb,k * 3+2,none⟩ (.int .i64 (s2:Nat)):=⟨_,rfl⟩
   rw [← hw7] at HV7 FR7 y3 ⊢
   clear hw7 x0 x1 x2 fx b0 b1 b2 f1 p0 p1 p2 t0 t1 t2
   have ro7:=(unhide HRO).of_block ((unhide FR7).block _ (unhide N1 _ (by omega) (by omega)))
   have k0:=ro7.cell (i:=0) (by omega)
   have k1:=ro7.cell (i:=1) (by omega)
   have k2:=ro7.cell (i:=2) (by omega)
   simp only [List.getD_cons_succ,List.getD_cons_zero] at k0 k1 k2
   have hz7:w4.heap.size≤w7.heap.size:=Nat.le_trans (unhide FR5).size (unhide FR7).size
   refine cut_append w7 g w.heap.size kb kc N q1 q2 _ (unhide HV7).lt (by omega) y3 k0 k1 k2 (unhide HV7).rk (fun WA w8 gg cap r1 r2 r3 hP => ?_)
   obtain ⟨hP9,hF9,c7,z7⟩ := (unhide HV7).pushK (fun k hk => unhide T1 k (by omega)) hP.below r1 r2 (by
    rcases r3 with e | e
    ·exact .inl (Option.some.inj e).symm
    ·exact .inr (by omega))
   refine ⟨c7,z7,?_⟩
   clear c7 z7 r1 r2 r3 hP k0 k1 k2 y3
   obtain ⟨w9,hw9⟩ : ∃ w9,w9=w8.setCell ⟨g,3,none⟩ (.slice (some ⟨gg,0,none⟩) (N+1) cap):=⟨_,rfl⟩
   rw [← hw9] at hP9 hF9 ⊢
   clear hw9
   obtain ⟨d0,d1,d2,d3,d4,d5,fz⟩ := hP9.facts
   obtain ⟨e0,e1,e2,-⟩ := hP9.blk (k:=N) (by omega)
   rw [upd_at] at e0 e1 e2
   have HMO:=hide (membersOf_any g mb 0 gg 0 n (N+1) mc cap N q1 q1 q2 w9 (by omega) (by omega) (by omega) hP9.cap hP9.lt d0 d3 (by rw [Nat.zero_add]; exact e0) (by rw [Nat.zero_add]; exact e1) (by rw [Nat.zero_add]; exact e2))
   have HP9:=hide hP9
   have HF9:=hide hF9
   clear hP9 hF9 d0 d1 d2 d3 d4 d5 fz e0 e1 e2
   go_wp2_with fail
   refine (unhide HMO).mono ?_
   rintro e w10 ⟨rfl,hB10⟩
   have hP10:=(unhide HP9).keep (w':=w10) (fun k _ hk => hB10.block k hk)
   have HP10:=hide hP10
   have HB10:=hide hB10
   rw [Nat.zero_add]
   clear HMO HP9 hP10 hB10
   go_wp2_with fail
   go_loopw [89] (fun iv wr => ∃ i:Nat,i≤q2 - q1∧iv = .int .i64 (i:Nat)∧PtAt O1 g mb mc pb pc bb bc wr n (N+1) ms ps (fun t => if q1≤ps t∧ps t<q1+i then N else bs t) (upd (upd fr k s1) N q1) (upd (upd mk k s1) N q1) (upd (upd tt k s2) N q2) gg cap qv qs tk∧FrO O1 w10 wr) (fun iv _ => q2 - q1 - (intOf iv).toNat)
   case atStart => exact ⟨0,by omega,rfl,(unhide HP10).congrB (fun t _ => by rw [if_neg (by omega)]),FrO.refl _ _⟩
   case round =>
    obtain ⟨i,hi,rfl,hPr,hFr⟩ := hrel
    by_cases hlt:i<q2 - q1
    ·have hlt':(i:Int)<((q2 - q1:Nat):Int):=by omega
     have hm1:=((unhide HI).m1 (q1+i) (by omega)).1
     have hm2:=((unhide HI).m1 (q1+i) (by omega)).2
     have m0:=hPr.rm.cell (j:=q1+i) (by omega)
     obtain ⟨-,-,d2,-⟩ := hPr.facts
     have m1:=hPr.rb.cell hm1
     have m2:=hPr.rb.frozen (ms (q1+i))
     have hm1':((ms (q1+i):Nat):Int)<(n:Int):=by omega
     have HPR:=hide (hPr.setB (ms (q1+i)) N)
     have HFR:=hide (hFr.trans (hPr.froB (ms (q1+i)) (.int .i64 (N:Nat))))
     clear hPr hFr
     go_wp2_with fail
     go_roundw
     case rel =>
      refine ⟨i+1,by omega,rfl,(unhide HPR).congrB (fun t ht => ?_),unhide HFR⟩
      by_cases e:t=ms (q1+i)
      ·subst e; rw [upd_at,if_pos (by omega)]
      ·rw [upd_ne _ e]
       have hne:ps t ≠ q1+i:=fun h => e (by rw [← ((unhide HI).p1 t ht).2,h])
       by_cases h5:q1≤ps t∧ps t<q1+i
       ·rw [if_pos h5,if_pos (by omega)]
       ·rw [if_neg h5,if_neg (by omega)]
     case measure => simp [intOf]; omega
    ·have hlt':¬ (i:Int)<((q2 - q1:Nat):Int):=by omega
     obtain rfl:i=q2 - q1:=by omega
     rw [show q1+(q2 - q1)=q2 by omega] at hPr
     obtain ⟨-,-,-,-,d4,-,fz⟩ := hPr.facts
     have HPU:=hide (push_any g 4 qv qs (N:Nat) wr hPr.lt (fun e => (hPr.oq _ e).2.1 rfl) (by omega) d4 (fz 4) hPr.rq)
     have HPR:=hide hPr
     have HFR:=hide hFr
     clear hPr hFr d4 fz
     go_wp2_with fail
     refine (unhide HPU).mono ?_
     rintro e w12 ⟨rfl,v',w11,rfl,r1,r2,r3⟩
     have hPf:=(unhide HPR).pushQ (fun k hk => unhide T1 k (by have:=(unhide HFR).size; have:=(unhide HB10).size; have:=(unhide HF9).size; omega)) (below1 wr _) r1 r2 r3
     have HPF:=hide hPf
     clear hPf r1 r2 r3 HPU
     go_wp2_with fail
     first | (refine bodyPost_ret (results_none rfl _ _ _) rfl ?_) | (refine bodyPost_end (results_none rfl _ _ _) rfl ?_)
     refine ⟨rfl,(fro_of (unhide HM).bl (unhide HO)).trans (FrO.mono ((unhide FR5).trans ((unhide FR7).trans ((unhide HF9).trans ((fro_of (unhide HB10) (fun k hk => unhide T1 k (by have:=(unhide HF9).size; omega))).trans ((unhide HFR).trans (unhide HPF).2))))) (unhide S1)),.inr ⟨_,_,_,q1,q2,s1,s2,hst.1,hst.2.1,unhide HS,(unhide HPF).1.mono (unhide S1)⟩⟩
end Go.Proofs.YtlidckepahpaeaaGreatDoor
