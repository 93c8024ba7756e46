import Derived.Test.YtlidckepahpaeaaGreatDoorPk32
namespace Go.Proofs.YtlidckepahpaeaaGreatDoor
open Go.RowKit
theorem ws_bt {g h:Nat→Nat} (e:ws4 g=ws4 h) (b:Nat) (hb:b<256):Bt g b=Bt h b:=by
 unfold ws4 at e
 simp only [Value.agg.injEq,Array.mk.injEq,List.cons.injEq,Value.int.injEq,Int.natCast_inj,true_and,and_true] at e
 obtain ⟨e0,e1,e2,e3⟩ := e
 have:∀ j,j<4→g j=h j:=fun j hj => by
  match j,hj with
  | 0,_ => exact e0
  | 1,_ => exact e1
  | 2,_ => exact e2
  | 3,_ => exact e3
 unfold Bt
 rw [this (b / 64) (by omega)]
theorem bt_putW (g:Nat→Nat) (k i:Nat):Bt (putW g k) i=true↔(Bt g i=true∨i=k):=by
 have h:=bt_put g k i
 unfold putW
 rw [h]
 simp
structure Dst (gs:Nat→Nat→Nat) (x m:Nat) (ds ps:Nat→Nat→Nat) (ks:List Value):Prop where
 len:ks.length=m
 at_:∀ j,j<m→ks[j]? = some (ws4 (ds j))
 fd:∀ j,j<m→Fit (ds j)
 fp:∀ j,j<m→Fit (ps j)
 bt:∀ j,j<m→∀ i,Bt (ps j) i=true↔(i<x∧ws4 (gs i)=ws4 (ds j))
 cov:∀ i,i<x→∃ j,j<m∧ws4 (gs i)=ws4 (ds j)
 le:m≤x
 nd:ks.Nodup
def updF (ps:Nat→Nat→Nat) (i:Nat) (v:Nat→Nat):Nat→Nat→Nat:=fun j => if j=i then v else ps j
theorem Dst.start (gs ds ps:Nat→Nat→Nat):Dst gs 0 0 ds ps [] :=
 ⟨rfl,fun _ h => absurd h (Nat.not_lt_zero _),fun _ h => absurd h (Nat.not_lt_zero _),fun _ h => absurd h (Nat.not_lt_zero _),fun _ h => absurd h (Nat.not_lt_zero _),fun _ h => absurd h (Nat.not_lt_zero _),Nat.le_refl _,List.nodup_nil⟩
theorem nodup_at {ks:List Value} (h:ks.Nodup) {i j:Nat} {v:Value} (hi:ks[i]? = some v) (hj:ks[j]? = some v):i=j:=by
 have h1:i<ks.length:=by apply Nat.lt_of_not_le; intro q; rw [List.getElem?_eq_none q] at hi; cases hi
 have h2:j<ks.length:=by apply Nat.lt_of_not_le; intro q; rw [List.getElem?_eq_none q] at hj; cases hj
 rw [List.getElem?_eq_getElem h1] at hi
 rw [List.getElem?_eq_getElem h2] at hj
 have h3:ks[i]=ks[j]:=(Option.some.inj hi).trans (Option.some.inj hj).symm
 rcases Nat.lt_trichotomy i j with q | q | q
 ·exact absurd h3 (List.pairwise_iff_getElem.1 h i j h1 h2 q)
 ·exact q
 ·exact absurd h3.symm (List.pairwise_iff_getElem.1 h j i h2 h1 q)
section
variable {gs ds ps:Nat→Nat→Nat} {x m i:Nat} {ks ks':List Value} {f:Bool}
theorem Dst.old (h:Dst gs x m ds ps ks) (hr:NumR ks (ws4 (gs x)) ks' i false):i<m∧Dst gs (x+1) m ds (updF ps i (putW (ps i) x)) ks':=by
 rcases hr with ⟨h1,rfl,h2,-⟩ | ⟨-,-,-,h⟩
 ·have hi:i<m:=by
   rw [← h.len]
   apply Nat.lt_of_not_le
   intro q
   rw [List.getElem?_eq_none q] at h2
   cases h2
  have hv:ws4 (gs x)=ws4 (ds i):=by have:=h.at_ i hi; rw [h2] at this; exact Option.some.inj this
  refine ⟨hi,h.len,h.at_,h.fd,fun j hj => ?_,fun j hj t => ?_,fun t ht => ?_,by have:=h.le; omega,h.nd⟩
  ·unfold updF
   by_cases e:j=i
   ·rw [if_pos e]; exact fit_put (h.fp i hi) x
   ·rw [if_neg e]; exact h.fp j hj
  ·unfold updF
   by_cases e:j=i
   ·subst e
    rw [if_pos rfl,bt_putW,h.bt j hj t]
    constructor
    ·rintro (⟨q1,q2⟩ | rfl)
     ·exact ⟨by omega,q2⟩
     ·exact ⟨by omega,hv⟩
    ·rintro ⟨q1,q2⟩
     by_cases e:t=x
     ·exact Or.inr e
     ·exact Or.inl ⟨by omega,q2⟩
   ·rw [if_neg e,h.bt j hj t]
    constructor
    ·rintro ⟨q1,q2⟩; exact ⟨by omega,q2⟩
    ·rintro ⟨q1,q2⟩
     refine ⟨?_,q2⟩
     by_cases e2:t=x
     ·subst e2
      exact absurd (nodup_at h.nd (by rw [h.at_ j hj,← q2]) h2) e
     ·omega
  ·by_cases e:t=x
   ·subst e; exact ⟨i,hi,hv⟩
   ·exact h.cov t (by omega)
 ·cases h
theorem Dst.new (h:Dst gs x m ds ps ks) (hg:Fit (gs x)) (hr:NumR ks (ws4 (gs x)) ks' i true):i=m∧Dst gs (x+1) (m+1) (updF ds m (gs x)) (updF (updF ps m (fun _ => 0)) m (putW (fun _ => 0) x)) ks':=by
 rcases hr with ⟨-,-,-,h⟩ | ⟨h1,rfl,h2,-⟩
 ·cases h
 ·refine ⟨h2.trans h.len,by rw [List.length_append,h.len]; rfl,fun j hj => ?_,fun j hj => ?_,fun j hj => ?_,fun j hj t => ?_,fun t ht => ?_,by have:=h.le; omega,?_⟩
  ·unfold updF
   by_cases e:j=m
   ·subst e
    rw [if_pos rfl,List.getElem?_append_right (by rw [h.len]; exact Nat.le_refl _),h.len,Nat.sub_self]
    rfl
   ·rw [if_neg e,List.getElem?_append_left (by rw [h.len]; omega)]
    exact h.at_ j (by omega)
  ·unfold updF
   by_cases e:j=m
   ·rw [if_pos e]; exact hg
   ·rw [if_neg e]; exact h.fd j (by omega)
  ·unfold updF
   by_cases e:j=m
   ·rw [if_pos e]; exact fit_put fit_z x
   ·rw [if_neg e,if_neg e]; exact h.fp j (by omega)
  ·unfold updF
   by_cases e:j=m
   ·subst e
    rw [if_pos rfl,if_pos rfl,bt_putW]
    constructor
    ·rintro (q | rfl)
     ·simp [Bt] at q
     ·exact ⟨by omega,rfl⟩
    ·rintro ⟨q1,q2⟩
     right
     apply Classical.byContradiction
     intro e
     obtain ⟨j',h3,h4⟩ := h.cov t (by omega)
     refine h1 ?_
     rw [← q2,h4]
     exact List.mem_of_getElem? (h.at_ j' h3)
   ·rw [if_neg e,if_neg e,if_neg e,h.bt j (by omega) t]
    constructor
    ·rintro ⟨q1,q2⟩; exact ⟨by omega,q2⟩
    ·rintro ⟨q1,q2⟩
     refine ⟨?_,q2⟩
     by_cases e2:t=x
     ·subst e2
      refine absurd ?_ h1
      rw [q2]
      exact List.mem_of_getElem? (h.at_ j (by omega))
     ·omega
  ·unfold updF
   by_cases e:t=x
   ·subst e; exact ⟨m,by omega,by rw [if_pos rfl]⟩
   ·obtain ⟨j,h3,h4⟩ := h.cov t (by omega)
    exact ⟨j,by omega,by rw [if_neg (by omega)]; exact h4⟩
  ·rw [List.nodup_append]
   refine ⟨h.nd,by simp,fun a ha c hc e => ?_⟩
   rw [List.mem_singleton] at hc
   subst hc e
   exact h1 ha
theorem Dst.holds (h:Dst gs x m ds ps ks) (b:Nat) (hb:b<256) (i:Nat):Bt (holdW ds ps b m) i=true↔(i<x∧Bt (gs i) b=true):=by
 rw [bt_hold]
 constructor
 ·rintro ⟨j,hj,h1,h2⟩
  have:=(h.bt j hj i).1 h2
  exact ⟨this.1,by rw [ws_bt this.2 b hb]; exact h1⟩
 ·rintro ⟨h1,h2⟩
  obtain ⟨j,hj,h3⟩ := h.cov i h1
  exact ⟨j,hj,by rw [← ws_bt h3 b hb]; exact h2,(h.bt j hj i).2 ⟨h1,h3⟩⟩
end
theorem bs_pushed {base n gg cap:Nat} {w WA w7:World} {v:Value} {hs:Nat→Nat→Nat} {x:Nat→Nat} {o:Obj} (hP:Pushd w WA o)
  (r1:w7.ownsRow base 85 4 (.slice (some ⟨gg,0,none⟩) (n+1) cap) (n+1) (flatF 4 n hs ++ [wd x 0,wd x 1,wd x 2,wd x 3])) (r2:WA.grownBy w7 v.ownBlock) :
  w7.ownsRow base 85 4 (.slice (some ⟨gg,0,none⟩) (n+1) cap) (n+1) (flatF 4 (n+1) (updF hs n x))∧FrO (fun k => v.ownBlock=some k∨w.heap.size≤k) w w7:=by
 refine ⟨?_,⟨r2.os.trans hP.os,r2.tape.trans hP.tape,r2.output.trans hP.output,by have:=r2.size; have:=hP.size; omega,fun k hk => ?_⟩⟩
 ·have e:flatF 4 (n+1) (updF hs n x)=flatF 4 n hs ++ [wd x 0,wd x 1,wd x 2,wd x 3]:=by
   rw [flatF_next _ _ (by omega),flatF_congr (h:=hs) (by omega) (fun i hi => by unfold updF; rw [if_neg (by omega)])]
   simp [List.range_succ,updF]
  rw [e]; exact r1
 ·have hk1:k<w.heap.size:=by apply Nat.lt_of_not_le; intro q; exact hk (Or.inr q)
  have hk2:v.ownBlock ≠ some k:=fun q => hk (Or.inl q)
  exact (r2.block k (by have:=hP.size; omega) (fun q => hk2 q.symm)).trans (hP.old hk1)
structure WoP (N1:Nat) (W1 wr:World) (sv pv:Value) (n m:Nat) (ds ps:Nat→Nat→Nat) (ks:List Value):Prop where
 so:wr.ownsRow (N1+3) 85 4 sv n (flatF 4 n ds)
 po:wr.ownsRow (N1+3) 99 8 pv m (flatF 8 m ps)
 ap:∀ q,sv.ownBlock=some q→pv.ownBlock ≠ some q
 num:NumAt 85 wr (N1+1) ks
 nb:wr.heap[N1+2]? = some (.cells #[.map (some (N1+1))] 95 (0,0))
 fr:Below N1 W1 wr
 sz:N1+3≤wr.heap.size
section
variable {N1 n m:Nat} {W1 wr wr':World} {sv pv:Value} {ds ps:Nat→Nat→Nat} {ks ks':List Value}
theorem WoP.below (h:WoP N1 W1 wr sv pv n m ds ps ks) (hb:Below wr.heap.size wr wr'):WoP N1 W1 wr' sv pv n m ds ps ks :=
 ⟨own_keep h.so hb (Nat.le_refl _),own_keep h.po hb (Nat.le_refl _),h.ap,h.num.keep (hb.block _ h.num.lt),(hb.block _ (Array.getElem?_eq_some_iff.1 h.nb).1).trans h.nb,h.fr.trans (hb.mono (by have:=h.sz; omega)),Nat.le_trans h.sz hb.size⟩
theorem WoP.num' (h:WoP N1 W1 wr sv pv n m ds ps ks) (hn:NumAt 85 wr' (N1+1) ks') (hf:FrO (OneB wr (N1+1)) wr wr'):WoP N1 W1 wr' sv pv n m ds ps ks':=by
 have hz:=h.sz
 have hk:∀ k,k<wr.heap.size→k ≠ N1+1→wr'.heap[k]? = wr.heap[k]? := fun k h1 h2 => hf.block k (by rintro (q | q) <;> omega)
 exact ⟨own_blk h.so (fun q hq => hk q (h.so.lt q hq).2 (by have:=(h.so.lt q hq).1; omega)),own_blk h.po (fun q hq => hk q (h.po.lt q hq).2 (by have:=(h.po.lt q hq).1; omega)),h.ap,hn,(hk _ (by omega) (by omega)).trans h.nb,h.fr.trans (hf.below (fun k hk => by rintro (q | q) <;> omega)),Nat.le_trans h.sz hf.size⟩
theorem WoP.pushS {w7:World} {gg cap:Nat} {x:Nat→Nat} (h:WoP N1 W1 wr sv pv n m ds ps ks) (r1:w7.ownsRow (N1+3) 85 4 (.slice (some ⟨gg,0,none⟩) (n+1) cap) (n+1) (flatF 4 (n+1) (updF ds n x))) (hf:FrO (fun k => sv.ownBlock=some k∨wr.heap.size≤k) wr w7) (hg:sv.ownBlock=some gg∨wr.heap.size≤gg) :
  WoP N1 W1 w7 (.slice (some ⟨gg,0,none⟩) (n+1) cap) pv (n+1) m (updF ds n x) ps ks:=by
 have hz:=h.sz
 have hk:∀ k,k<N1+3→w7.heap[k]? = wr.heap[k]? := fun k hk => hf.block k (by rintro (q | q); (have:=(h.so.lt k q).1; omega); omega)
 refine ⟨r1,own_blk h.po (fun q hq => hf.block q (by rintro (e | e); exact h.ap q e hq; (have:=(h.po.lt q hq).2; omega))),fun q hq hq2 => ?_,h.num.keep (hk _ (by omega)),(hk _ (by omega)).trans h.nb,h.fr.trans (hf.below (fun k hk => by rintro (q | q); (have:=(h.so.lt k q).1; omega); omega)),Nat.le_trans h.sz hf.size⟩
 cases hq
 rcases hg with hg | hg
 ·exact h.ap gg hg hq2
 ·have:=(h.po.lt gg hq2).2; omega
theorem WoP.pushP {w7:World} {gg cap:Nat} {x:Nat→Nat} (h:WoP N1 W1 wr sv pv n m ds ps ks) (r1:w7.ownsRow (N1+3) 99 8 (.slice (some ⟨gg,0,none⟩) (m+1) cap) (m+1) (flatF 8 (m+1) (fun i => if i=m then x else ps i))) (hf:FrO (fun k => pv.ownBlock=some k∨wr.heap.size≤k) wr w7) (hg:pv.ownBlock=some gg∨wr.heap.size≤gg) :
  WoP N1 W1 w7 sv (.slice (some ⟨gg,0,none⟩) (m+1) cap) n (m+1) ds (updF ps m x) ks:=by
 have hz:=h.sz
 have hk:∀ k,k<N1+3→w7.heap[k]? = wr.heap[k]? := fun k hk => hf.block k (by rintro (q | q); (have:=(h.po.lt k q).1; omega); omega)
 refine ⟨own_blk h.so (fun q hq => hf.block q (by rintro (e | e); exact h.ap q hq e; (have:=(h.so.lt q hq).2; omega))),r1,fun q hq hq2 => ?_,h.num.keep (hk _ (by omega)),(hk _ (by omega)).trans h.nb,h.fr.trans (hf.below (fun k hk => by rintro (q | q); (have:=(h.po.lt k q).1; omega); omega)),Nat.le_trans h.sz hf.size⟩
 cases hq2
 rcases hg with hg | hg
 ·exact h.ap gg hq hg
 ·have:=(h.so.lt gg hq).2; omega
theorem WoP.puts (h:WoP N1 W1 wr sv pv n m ds ps ks) {i:Nat} (hi:i<m):∃ g cap M F,pv = .slice (some ⟨g,0,none⟩) m cap∧wr.rowIs g 99 M F∧i * 8+8≤M∧(∀ j,j<8→F (i * 8+j)=wd (ps i) j) ∧
  ∀ (w':World) (x:Nat→Nat),w'.rowIs g 99 M (fun k => if i * 8≤k∧k<i * 8+8 then wd x (k - i * 8) else F k)→Obk g wr w'→WoP N1 W1 w' sv pv n m ds (updF ps i x) ks:=by
 obtain ⟨g,cap,M,F,rfl,hlt,hr,hM,hF,hback⟩ := own_row h.po (by omega)
 have hgl:=(h.po.lt g rfl).1
 refine ⟨g,cap,M,F,rfl,hr,by omega,fun j hj => ?_,fun w' x hr' hob => ⟨own_blk h.so (fun q hq => hob.block q (fun e => h.ap q hq (by rw [e]; rfl))),?_,h.ap,h.num.keep (hob.block _ (by omega)),(hob.block _ (by omega)).trans h.nb,h.fr.trans (hob.bel2 (by omega)),by rw [hob.size]; exact h.sz⟩⟩
 ·have h1:=hF (i * 8+j) (by omega)
  rw [flatF_at _ _ _ (by omega),show (i * 8+j) / 8=i by omega,show (i * 8+j) % 8=j by omega] at h1
  exact (Option.some.inj h1).symm
 ·refine hback w' _ _ hr' (flatF_len _ _ _) (fun k hk => ?_)
  rw [flatF_at _ _ _ hk]
  unfold updF
  by_cases e:i * 8≤k∧k<i * 8+8
  ·rw [if_pos e,if_pos (by omega),show k % 8=k - i * 8 by omega]
  ·rw [if_neg e,if_neg (by omega)]
   have h2:=hF k hk
   rw [flatF_at _ _ _ hk] at h2
   exact h2
end
theorem all3 (A g:Nat) (c:Value) (hc:c.oneCell'=true):(#[.pointer (some ⟨A,0,none⟩),.slice (some ⟨g,0,none⟩) 256 256,c]:Array Value).all (·.oneCell')=true:=by
 have h1:(Value.pointer (some ⟨A,0,none⟩)).oneCell'=true:=rfl
 have h2:(Value.slice (some ⟨g,0,none⟩) 256 256).oneCell'=true:=rfl
 simp [h1,h2,hc]
theorem wk_ret {w:World} {B:Nat} {cs:Array Value} (h:w.heap[B]? = some (.cells cs 54 (0,0))) {fn:Func} {p:Tmp} (hr:fn.results = #[.cell p 54]) (tmps:Array Value) (hp:tmps.getD p undef = .pointer (some ⟨B,0,none⟩)) (hs:(Tryz.prog.info? 54).map (·.size)=some cs.size):(results fn tmps).run Tryz.prog w = .ok (.agg cs) w :=
 results_cell_row hr tmps w B _ _ _ _ hp h Tryz.underlying54 rfl hs
def WoRet (A N:Nat) (gs:Nat→Nat→Nat) (e:Ending) (w':World):Prop:=∃ gc mm K hs hv ks H,e = .returned (.agg #[.pointer (some ⟨A,0,none⟩),.slice (some ⟨gc,0,none⟩) 256 256,hv])∧w'.rowIs gc 3 256 (fun x => .int .i64 (K x:Nat))∧RsP w' hv mm hs∧Cls H 256 mm K hs ks∧(∀ x,x<256→Fit (H x)∧∀ i,Bt (H x) i=true↔(i<N∧Bt (gs i) x=true))
set_option maxHeartbeats 16000000 in
set_option maxRecDepth 100000 in
theorem walkerOf_any (A N:Nat) (av:Value) (gs:Nat→Nat→Nat) (w:World) (ha:w.cell? ⟨A,0,none⟩ = some av) (hA:A<w.heap.size) (hS:RsB w av N gs) (hg:∀ i,i<N→Fit (gs i)) (hN:N≤512) :
  Calls Tryz.prog 19 #[.pointer (some ⟨A,0,none⟩)] w fun e w' => WoRet A N gs e w'∧Below w.heap.size w w':=by
 obtain ⟨aa,ac,rfl⟩ := own_is hS
 have hmk:=run_make_row' (P:=Tryz.prog) 26 3 (.int .i64 0) 8 Tryz.underlying26 Tryz.zinInt rfl .i64 .i64 256 (by omega) (by omega)
 simp only [show ((256:Nat):Int)=256 from rfl] at hmk
 obtain ⟨W1,hW1⟩ : ∃ W1,W1=((w.alloc (.cells #[.pointer none,.slice none 0 0,.slice none 0 0] 54)).alloc (.cells (madeCells #[.int .i64 0] 256) 3)).alloc (.cells #[.pointer (some ⟨A,0,none⟩),.slice (some ⟨w.heap.size+1,0,none⟩) 256 256,.slice none 0 0] 54):=⟨_,rfl⟩
 have hb1:Below w.heap.size w W1:=by rw [hW1]; exact (below2 w _ _).alloc (by rw [sz_alloc,sz_alloc]; omega) _
 have hz1:W1.heap.size=w.heap.size+3:=by rw [hW1,sz_alloc,sz_alloc,sz_alloc]
 have HS:=hide hS
 have HG:=hide hg
 have HB1:=hide hb1
 have HW1:=hide hW1
 have HZ1:=hide hz1
 have HNB:=hide (newBs_any W1)
 clear hS hg hb1 hW1 hz1
 go_enter Tryz.func19,Tryz.ntmps19
 go_wp2_with fail
 rw [← unhide HW1]
 refine (unhide HNB).mono ?_
 rintro e w2 ⟨rfl,hn2,hz2,hb2⟩
 obtain ⟨N1,hN1⟩ : ∃ N1,N1=W1.heap.size:=⟨_,rfl⟩
 rw [← hN1] at hn2 hz2 hb2 ⊢
 have hzN:N1=w.heap.size+3:=hN1.trans (unhide HZ1)
 have hb02:Below w.heap.size w w2:=(unhide HB1).trans (hb2.mono (by omega))
 have hV:Below w.heap.size w (w2.alloc (.cells #[.map (some (N1+1))] 95)):=hb02.alloc (by have:=hb02.size; omega) _
 have HST:Hid (WoP N1 W1 (w2.alloc (.cells #[.map (some (N1+1))] 95)) (.slice none 0 0) (.slice none 0 0) 0 0 (fun _ _ => 0) (fun _ _ => 0) []):=by
  refine ⟨World.ownsRow_nil _ _ _ _,World.ownsRow_nil _ _ _ _,fun q hq => (by cases hq),hn2.keep ((below1 w2 _).block _ (by omega)),?_,hb2.alloc (by omega) _,by rw [sz_alloc]; omega⟩
  have:=(pushd_alloc w2 (.cells #[.map (some (N1+1))] 95)).new
  rw [hz2] at this
  exact this
 have ha2:(w2.alloc (.cells #[.map (some (N1+1))] 95)).cell? ⟨A,0,none⟩ = some (.slice aa N ac):=(hV.cell (p:=⟨A,0,none⟩) hA).trans ha
 have HZ2:=hide hz2
 have HZN:=hide hzN
 have hN1w:w.heap.size+3≤N1:=by omega
 have hw1N:N1≤W1.heap.size:=by omega
 clear hn2 hz2 hb2 hb02 hV HNB hN1 hzN ha
 go_wp2_with fail
 rw [unhide HZ2]
 go_loopw [5,6,20] (fun sv pv iv wr => ∃ (x m:Nat) (ds ps:Nat→Nat→Nat) (ks:List Value),x≤N∧iv = .int .i64 x∧WoP N1 W1 wr sv pv m m ds ps ks∧Dst gs x m ds ps ks) (fun _ _ iv _ => N - (intOf iv).toNat)
 case atStart => exact ⟨0,0,_,_,_,by omega,rfl,unhide HST,Dst.start _ _ _⟩
 case round =>
  clear HST ha2 HZ2 hmk
  obtain ⟨x,m,ds,ps,ks,hx,rfl,hW,hD⟩ := hrel
  obtain ⟨sa,sc,rfl⟩ := own_is hW.so
  obtain ⟨pa,pc,rfl⟩ := own_is hW.po
  have hbw:Below w.heap.size w wr:=(unhide HB1).trans (hW.fr.mono (by omega))
  by_cases hlt:x<N
  ·have hlt':(x:Int)<(N:Int):=by omega
   obtain ⟨ga,ca,e,hgl,hcell⟩ := rsB_at (unhide HS) hlt
   cases e
   obtain ⟨g,hgd⟩ : ∃ g,g=gs x:=⟨_,rfl⟩
   have d:=hcell wr (hbw.block ga hgl)
   rw [← hgd] at d
   have d0:=d 0 (by omega)
   have d1:=d 1 (by omega)
   have d2:=d 2 (by omega)
   have d3:=d 3 (by omega)
   unfold wd at d0 d1 d2 d3
   rw [Nat.add_zero] at d0
   have hgf:Fit g:=by rw [hgd]; exact unhide HG x hlt
   obtain ⟨X,hX⟩ : ∃ X,X=wr.alloc (.cells #[.int .u64 (g 0:Nat),.int .u64 (g 1:Nat),.int .u64 (g 2:Nat),.int .u64 (g 3:Nat)] 85):=⟨_,rfl⟩
   have hWX:WoP N1 W1 X (.slice sa m sc) (.slice pa m pc) m m ds ps ks:=hW.below (by rw [hX]; exact below1 _ _)
   have hE:X.rowIs wr.heap.size 85 4 (wd g):=by
    rw [hX]
    refine ⟨_,(pushd_alloc wr _).new,rfl,fun i hi => ?_⟩
    match i,hi with
    | 0,_ => rfl
    | 1,_ => rfl
    | 2,_ => rfl
    | 3,_ => rfl
   have n0:(wr.alloc (.cells #[.int .u64 (g 0:Nat),.int .u64 (g 1:Nat),.int .u64 (g 2:Nat),.int .u64 (g 3:Nat)] 85)).cell? ⟨N1+2,0,none⟩ = some (.map (some (N1+1))):=by rw [← hX]; exact World.news_of_block hWX.nb 0 _ rfl
   have hmx:=hD.le
   have hOF:=ofBs_any (N1+1) g ks X hWX.num hgf (by rw [hD.len]; omega)
   have h9:ws4 (gs x) = .agg #[.int .u64 (g 0:Nat),.int .u64 (g 1:Nat),.int .u64 (g 2:Nat),.int .u64 (g 3:Nat)]:=by rw [← hgd]; rfl
   have HOF:Hid (Calls Tryz.prog 43 #[.agg #[.map (some (N1+1))],.agg #[.int .u64 (g 0:Nat),.int .u64 (g 1:Nat),.int .u64 (g 2:Nat),.int .u64 (g 3:Nat)]] X fun e w' => ∃ i ks' f,e = .returned (.tuple #[.int .i64 (i:Nat),.bool f])∧NumR ks (ws4 (gs x)) ks' i f∧NumAt 85 w' (N1+1) ks'∧FrO (OneB X (N1+1)) X w'):=by
    rw [h9]
    exact hOF
   have HX:=hide hX
   have HWX:=hide hWX
   have HD:=hide hD
   have HE:=hide hE
   have HGD:=hide hgd
   have hszr:=hW.sz
   have hEX:=hE.lt
   clear hW hD hcell d hX hWX hE hOF hgd hbw h9
   go_wp2_with fail
   rw [← unhide HX]
   refine (unhide HOF).mono ?_
   rintro e w3 ⟨i,ks',fl,rfl,hNR,hN3,hF3⟩
   have hP3:=(unhide HWX).num' hN3 hF3
   have hE3:=(unhide HE).of_block (hF3.block wr.heap.size (by rintro (q | q) <;> omega))
   clear n0 HX HOF
   cases fl with
   | false =>
    obtain ⟨him,hD'⟩ := (unhide HD).old hNR
    obtain ⟨gp,cp,M,F,e,hrow,hM,hF,hback⟩ := hP3.puts him
    cases e
    have him':(i:Int)<(m:Int):=by omega
    have HJ:=hide (put_off gp (i * 8) M x 99 F (ps i) w3 ((unhide HD).fp i him) (by omega) hrow hF (by omega))
    have HBK:=hide hback
    have HD':=hide hD'
    clear hNR hN3 hF3 hP3 hE3 hD' hrow hF hback HD HE HWX
    go_wp2_with fail
    refine (unhide HJ).mono ?_
    rintro e w4 ⟨rfl,hr4,hob⟩
    have HF4:=hide (unhide HBK w4 _ hr4 hob)
    clear hr4 hob HJ HBK
    go_wp2
    go_roundw
    case rel => exact ⟨x+1,m,ds,_,ks',by omega,by go_num,unhide HF4,unhide HD'⟩
    case measure => simp [intOf]; omega
   | true =>
    have hgf2:Fit (gs x):=unhide HG x hlt
    obtain ⟨him,hD'⟩ := (unhide HD).new hgf2 hNR
    rw [← unhide HGD] at hD'
    have x0:=hE3.cell (i:=0) (by omega)
    have x1:=hE3.cell (i:=1) (by omega)
    have x2:=hE3.cell (i:=2) (by omega)
    have x3:=hE3.cell (i:=3) (by omega)
    unfold wd at x0 x1 x2 x3
    obtain ⟨i0,hi0,hz0,hz1,hz2⟩ := info_parts Tryz.zinBS
    obtain ⟨j0,hj0,hy0,hy1,hy2⟩ := info_parts Tryz.zinPS
    have HSO:=hide hP3.so
    have hsz3:=hP3.sz
    have HD':=hide hD'
    have hmx2:m≤512:=by omega
    have HPS:Hid (∀ (WA w7:World) (gg cap:Nat),w7.ownsRow (N1+3) 85 4 (.slice (some ⟨gg,0,none⟩) (m+1) cap) (m+1) (flatF 4 m ds ++ [wd g 0,wd g 1,wd g 2,wd g 3])→WA.grownBy w7 (Value.slice sa m sc).ownBlock→((Value.slice sa m sc).ownBlock=some gg∨gg=w3.heap.size+1)→Pushd w3 WA (.cells #[wd g 0,wd g 1,wd g 2,wd g 3] 85)→WoP N1 W1 w7 (.slice (some ⟨gg,0,none⟩) (m+1) cap) (.slice pa m pc) (m+1) m (updF ds m g) ps ks'):=fun WA w7 gg cap r1 r2 r3 hP => by
     obtain ⟨q1,q2⟩ := bs_pushed (x:=g) hP r1 r2
     exact hP3.pushS q1 q2 (r3.imp id (fun q => by omega))
    have him2:=him.symm
    subst him2
    have HPP:Hid (∀ (w7 WA w8:World) (sv':Value) (gg cap:Nat),WoP N1 W1 w7 sv' (.slice pa m pc) (m+1) m (updF ds m g) ps ks'→w8.ownsRow (N1+3) 99 8 (.slice (some ⟨gg,0,none⟩) (m+1) cap) (m+1) (flatF 8 m ps ++ [wd (fun _ => 0) 0,wd (fun _ => 0) 1,wd (fun _ => 0) 2,wd (fun _ => 0) 3,wd (fun _ => 0) 4,wd (fun _ => 0) 5,wd (fun _ => 0) 6,wd (fun _ => 0) 7])→WA.grownBy w8 (Value.slice pa m pc).ownBlock→((Value.slice pa m pc).ownBlock=some gg∨gg=w7.heap.size+1)→Pushd w7 WA (.cells #[wd (fun _ => 0) 0,wd (fun _ => 0) 1,wd (fun _ => 0) 2,wd (fun _ => 0) 3,wd (fun _ => 0) 4,wd (fun _ => 0) 5,wd (fun _ => 0) 6,wd (fun _ => 0) 7] 99)→WoP N1 W1 w8 sv' (.slice (some ⟨gg,0,none⟩) (m+1) cap) (m+1) (m+1) (updF ds m g) (updF ps m (fun _ => 0)) ks'):=fun w7 WA w8 sv' gg cap h7 r1 r2 r3 hP => by
     obtain ⟨q1,q2⟩ := ps_pushed (x:=fun _ => 0) h7.po hP r1 r2
     exact h7.pushP q1 q2 (r3.imp id (fun q => by omega))
    clear hNR hN3 hF3 hP3 hE3 hD' HD HE HWX him
    go_wp2_with (first
     | (at_builtin; refine wpList_append_lies _ rfl (.tmp 32) (.tmp 34) 97 rfl (N1+3) 85 i0 (.agg #[.int .u64 0,.int .u64 0,.int .u64 0,.int .u64 0]) 4 32 Tryz.underlying97 hi0 hz0 hz1 hz2 rfl (by decide) (.slice sa m sc) m (flatF 4 m ds) (by first | (simp [Act.eval]; done) | (simp [Act.eval,Act.put]; done)) (by refine Pushd.own (w:=w3) (o:=.cells #[wd g 0,wd g 1,wd g 2,wd g 3] 85) ?_ (unhide HSO); exact ⟨rfl,rfl,rfl,rfl⟩) ⟨w3.heap.size,0,none⟩ 1 1 [wd g 0,wd g 1,wd g 2,wd g 3] (by first | (simp [Act.eval]; done) | (simp [Act.eval,Act.put]; done)) rfl (by refine Pushd.news (w:=w3) (cs:=#[wd g 0,wd g 1,wd g 2,wd g 3]) (t:=85) ?_; exact ⟨rfl,rfl,rfl,rfl⟩) (by intro u hu; simp only [List.mem_cons,List.not_mem_nil,or_false] at hu; rcases hu with rfl | rfl | rfl | rfl <;> rfl) (by decide) (by unfold maxLen; omega) (by omega) (by show N1+3≤(World.alloc _ _).heap.size; rw [sz_alloc]; omega) (w3.heap.size+1) (sz_alloc w3 _) (fun gg cap w7 r1 r2 r3 r4 => ?_); have h7:=hide (unhide HPS _ w7 gg cap r1 r2 r3 (by exact ⟨rfl,rfl,rfl,rfl⟩)); clear r1 r2 r3 r4 x0 x1 x2 x3)
     | (at_builtin; refine wpList_append_lies _ rfl (.tmp 36) (.tmp 38) 52 rfl (N1+3) 99 j0 (.agg #[.int .u64 0,.int .u64 0,.int .u64 0,.int .u64 0,.int .u64 0,.int .u64 0,.int .u64 0,.int .u64 0]) 8 64 Tryz.underlying52 hj0 hy0 hy1 hy2 rfl (by decide) (.slice pa m pc) m (flatF 8 m ps) (by first | (simp [Act.eval]; done) | (simp [Act.eval,Act.put]; done)) (by refine Pushd.own (w:=w7) (o:=.cells #[wd (fun _ => 0) 0,wd (fun _ => 0) 1,wd (fun _ => 0) 2,wd (fun _ => 0) 3,wd (fun _ => 0) 4,wd (fun _ => 0) 5,wd (fun _ => 0) 6,wd (fun _ => 0) 7] 99) ?_ (unhide h7).po; exact ⟨rfl,rfl,rfl,rfl⟩) ⟨w7.heap.size,0,none⟩ 1 1 [wd (fun _ => 0) 0,wd (fun _ => 0) 1,wd (fun _ => 0) 2,wd (fun _ => 0) 3,wd (fun _ => 0) 4,wd (fun _ => 0) 5,wd (fun _ => 0) 6,wd (fun _ => 0) 7] (by first | (simp [Act.eval]; done) | (simp [Act.eval,Act.put]; done)) rfl (by refine Pushd.news (w:=w7) (cs:=#[wd (fun _ => 0) 0,wd (fun _ => 0) 1,wd (fun _ => 0) 2,wd (fun _ => 0) 3,wd (fun _ => 0) 4,wd (fun _ => 0) 5,wd (fun _ => 0) 6,wd (fun _ => 0) 7]) (t:=99) ?_; exact ⟨rfl,rfl,rfl,rfl⟩) (by intro u hu; simp only [List.mem_cons,List.not_mem_nil,or_false] at hu; rcases hu with rfl | rfl | rfl | rfl | rfl | rfl | rfl | rfl <;> rfl) (by decide) (by unfold maxLen; omega) (by omega) (by have:=(unhide h7).sz; show N1+3≤(World.alloc _ _).heap.size; rw [sz_alloc]; omega) (w7.heap.size+1) (sz_alloc w7 _) (fun gg2 cap2 w8 r1 r2 r3 r4 => ?_); have h8:=hide (unhide HPP w7 _ w8 _ gg2 cap2 (unhide h7) r1 r2 r3 (by exact ⟨rfl,rfl,rfl,rfl⟩)); clear r1 r2 r3 r4; have hmm:(m:Int)<(m:Int)+1:=(by omega)) | fail)
    obtain ⟨gp,cp,M,F,e,hrow,hM,hF,hback⟩ := (unhide h8).puts (Nat.lt_succ_self m)
    cases e
    have HJ:=hide (put_off _ (m * 8) M x 99 F (updF ps m (fun _ => 0) m) w8 (by unfold updF; rw [if_pos rfl]; exact fit_z) (by omega) hrow hF (by omega))
    have HBK:=hide hback
    clear hrow hF hback
    refine (unhide HJ).mono ?_
    rintro e w9 ⟨rfl,hr9,hob9⟩
    have hF9:=unhide HBK w9 _ hr9 hob9
    rw [show updF ps m (fun _ => 0) m=fun _ => 0 by unfold updF; rw [if_pos rfl]] at hF9
    have HF9:=hide hF9
    clear hr9 hob9 HJ HBK hF9 h7 h8 HPS HPP HSO
    go_wp2
    go_roundw
    case rel => exact ⟨x+1,m+1,_,_,ks',by omega,by go_num,unhide HF9,unhide HD'⟩
    case measure => simp [intOf]; omega
  ·obtain rfl:x=N:=by omega
   have hzN:=unhide HZN
   have hW1:=unhide HW1
   have hgc1:W1.rowIs (w.heap.size+1) 3 256 (fun _ => .int .i64 0):=by
    have h1:=World.rowIs_made (w.alloc (.cells #[.pointer none,.slice none 0 0,.slice none 0 0] 54)) (.int .i64 0) 256 3
    rw [sz_alloc] at h1
    rw [hW1]
    exact h1.alloc _
   have hB1:WkBox W1 (w.heap.size+2) A (.slice (some ⟨w.heap.size+1,0,none⟩) 256 256) (.slice none 0 0):=by
    have h1:=(pushd_alloc ((w.alloc (.cells #[.pointer none,.slice none 0 0,.slice none 0 0] 54)).alloc (.cells (madeCells #[.int .i64 0] 256) 3)) (.cells #[.pointer (some ⟨A,0,none⟩),.slice (some ⟨w.heap.size+1,0,none⟩) 256 256,.slice none 0 0] 54)).new
    rw [sz_alloc,sz_alloc,← hW1] at h1
    exact h1
   have hR1:W1.heap[w.heap.size]? = some (.cells #[.pointer none,.slice none 0 0,.slice none 0 0] 54 (0,0)):=by
    have h1:=(pushd_alloc w (.cells #[.pointer none,.slice none 0 0,.slice none 0 0] 54)).new
    have h2:=below2 (w.alloc (.cells #[.pointer none,.slice none 0 0,.slice none 0 0] 54)) (.cells (madeCells #[.int .i64 0] 256) 3) (.cells #[.pointer (some ⟨A,0,none⟩),.slice (some ⟨w.heap.size+1,0,none⟩) 256 256,.slice none 0 0] 54)
    rw [← hW1,sz_alloc] at h2
    exact (h2.block _ (Nat.lt_succ_self _)).trans h1
   have hzw:=hW.sz
   have hCL:=classify_any (w.heap.size+1+1) A (w.heap.size+1) m (.slice sa m sc) (.slice pa m pc) ds ps wr (hB1.keep (hW.fr.block _ (by omega))) (hgc1.of_block (hW.fr.block _ (by omega))) (by omega) (by have:=hD.le; omega) (own_low hW.so (Nat.zero_le _)) (own_low hW.po (Nat.zero_le _)) hD.fd hD.fp (fun q hq => by have:=(hW.so.lt q hq).1; exact ⟨by omega,by omega⟩) (fun q hq => by have:=(hW.po.lt q hq).1; exact ⟨by omega,by omega⟩)
   have HCL:=hide hCL
   have HR:Hid (wr.heap[w.heap.size]? = _):=(hW.fr.block _ (by omega)).trans hR1
   have HBW:=hide hbw
   have HD:=hide hD
   have hwr:w.heap.size<wr.heap.size:=by omega
   clear hCL hW hD hbw hR1 hB1 hgc1 hW1 hzN
   go_wp2_with fail
   refine (unhide HCL).mono ?_
   rintro e w3 ⟨mm,K,hs,hv,ks9,rfl,hcl⟩
   have HA:Hid (w3.heap[w.heap.size+1+1]? = some (.cells #[.pointer (some ⟨A,0,none⟩),.slice (some ⟨w.heap.size+1,0,none⟩) 256 256,hv] 54 (0,0))):=hcl.p.box
   have HZ:Hid (w3.heap[w.heap.size]? = some (.cells #[.pointer none,.slice none 0 0,.slice none 0 0] 54 (0,0))):=(hcl.p.fr.block _ (by rintro (q | q | q) <;> omega)).trans (unhide HR)
   have HCC:=hide hcl
   have hv1:hv.oneCell'=true:=by
    obtain ⟨a1,a2,rfl⟩ := own_is hcl.p.hol
    rfl
   clear hcl HCL HR
   go_wp2_with (first
    | (refine wpList_load_row rfl 54 (.tmp 3) rfl (w.heap.size+1+1) (by first | (simp [Act.eval]; done) | (simp [Act.eval,Act.put]; done)) 54 _ _ _ (unhide HA) Tryz.underlying54 rfl (by kernel_rfl) ?_)
    | (refine wpList_store_row rfl 54 (.tmp 2) (.tmp 49) rfl (w.heap.size) #[.pointer (some ⟨A,0,none⟩),.slice (some ⟨w.heap.size+1,0,none⟩) 256 256,hv] (by first | (simp [Act.eval]; done) | (simp [Act.eval,Act.put]; done)) (by first | (simp [Act.eval]; done) | (simp [Act.eval,Act.put]; done)) 54 _ (unhide HZ) (by kernel_rfl) rfl (all3 _ _ hv hv1) ?_))
   refine bodyPost_ret (wk_ret (setRow_heap _ _ _ _ _ _ (unhide HZ)) rfl _ rfl (by kernel_rfl)) rfl ?_
   have hcl:=unhide HCC
   have hk:∀ k,k ≠ w.heap.size→(w3.setRow w.heap.size #[.pointer (some ⟨A,0,none⟩),.slice (some ⟨w.heap.size+1,0,none⟩) 256 256,hv]).heap[k]? = w3.heap[k]? := fun k hk => setRow_other _ _ k _ hk
   refine ⟨⟨w.heap.size+1,mm,K,hs,hv,ks9,fun x => holdW ds ps x m,rfl,hcl.p.row.of_block (hk _ (by omega)),own_low (own_blk hcl.p.hol (fun q hq => hk q (by have:=(hcl.p.hol.lt q hq).1; omega))) (Nat.zero_le _),hcl.cls,fun x hx => ⟨fit_hold (unhide HD).fp,fun i => (unhide HD).holds x hx i⟩⟩,?_⟩
   have h1:Below w.heap.size w w3:=(unhide HBW).trans (hcl.p.fr.below (m:=w.heap.size) (fun k hk => by rintro (q | q | q) <;> omega))
   exact h1.trans (Obk.bel2 ⟨rfl,rfl,rfl,by simp [World.setRow],fun k hk => setRow_other _ _ k _ hk⟩ (Nat.le_refl _))
end Go.Proofs.YtlidckepahpaeaaGreatDoor
