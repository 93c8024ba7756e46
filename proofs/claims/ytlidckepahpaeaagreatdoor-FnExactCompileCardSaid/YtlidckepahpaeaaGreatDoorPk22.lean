import Derived.Test.YtlidckepahpaeaaGreatDoorPk16
import Derived.Test.YtlidckepahpaeaaGreatDoorPk9
import Derived.Laws.Bits64b
import Derived.Test.YtlidckepahpaeaaGreatDoorPk18
import Derived.Test.YtlidckepahpaeaaGreatDoorX0
import Derived.BigQuiet
import Derived.Test.YtlidckepahpaeaaGreatDoorPk21
import Derived.Test.YtlidckepahpaeaaGreatDoorPk20
namespace Go.Proofs.YtlidckepahpaeaaGreatDoor
open Go.RowKit
def tk (X:List El) (m j:Nat):List (List El):=List.replicate (min j m) X ++ List.replicate (j - m) (optE X)
theorem tk_lt {X:List El} {m j:Nat} (h:j<m):tk X m (j+1)=tk X m j ++ [X]:=by
 unfold tk
 rw [show min (j+1) m=j+1 by omega,show j+1 - m=0 by omega,show min j m=j by omega,show j - m=0 by omega,List.replicate_succ']
 simp
theorem tk_ge {X:List El} {m j:Nat} (h:m≤j):tk X m (j+1)=tk X m j ++ [optE X]:=by
 unfold tk
 rw [show min (j+1) m=m by omega,show j+1 - m=(j - m)+1 by omega,show min j m=m by omega,List.replicate_succ',List.append_assoc]
theorem tk_all {X:List El} {m M:Nat} (h:m≤M):tk X m M=partsX X m M:=by
 unfold tk partsX
 rw [if_neg (by omega),show min M m=m by omega,show ((m:Int)).toNat=m by omega,show ((M:Int) - (m:Int)).toNat=M - m by omega]
theorem tk_mem {X:List El} {m j:Nat} {p:List El} (h:p ∈ tk X m j):p=X∨p=optE X:=by
 unfold tk at h
 rcases List.mem_append.1 h with h | h
 ·exact Or.inl (List.mem_replicate.1 h).2
 ·exact Or.inr (List.mem_replicate.1 h).2
theorem tk_len (X:List El) (m j:Nat):(tk X m j).length=j:=by unfold tk; simp; omega
theorem optE_nice {X:List El} (h:Nice X):Nice (optE X):=(h.app (Nice.op 0 0 0 (by simp [In64]) (by simp [In64]) (by simp [In64]))).app (Nice.op 3 0 0 (by simp [In64]) (by simp [In64]) (by simp [In64]))
set_option maxHeartbeats 4000000 in
set_option maxRecDepth 100000 in
theorem xpS_count (m M:Nat) (x X:List El) (cx:Int) (sx:SegM x cx) (Hx:XpS x X) (o2:m≤M) (o3:M≤250) (o4:0<M) (nx:Nice X) (lx:X.length≤3000):XpS (x ++ [⟨4,[],m,M⟩]) (jn (partsX X m M)):=by
 intro v w hv hlen
 obtain ⟨a,cp,rfl,-,-⟩ := id hv
 obtain ⟨hlen2,hcap,b,off,rfl,hbn,hel⟩ := hv.last
 rw [hlen2] at hv hcap ⊢
 simp only [List.length_append,List.length_singleton] at hv hlen hlen2 hel hcap ⊢
 unfold maxLen at hcap
 obtain ⟨i1,i2,i3,sv,c0,c1,c2,c3,hints⟩ := hel
 obtain ⟨sa,sc,rfl,-,-,-⟩ := id hints
 simp only at c0 c2 c3
 clear hlen2 i1 i2 i3 hints
 have pl:=sx.ne
 have hvL:ElsAt 0 w.heap.size w (.slice (some ⟨b,off,none⟩) x.length cp) x:=hv.pre
 have HvL:=hide hvL
 have NX:=hide nx
 have hM0:((M:Int) == 0)=false:=by simp; omega
 have hM1:((M:Int) == -1)=false:=by rw [beq_eq_false_iff_ne]; omega
 clear hvL hv nx
 go_enter Tryz.func97,Tryz.ntmps97
 go_wp2_with fail
 refine (Hx _ _ (by exact (unhide HvL).below (below1 w _) (Nat.le_refl _)) (by omega)).mono ?_
 rintro e w1 ⟨v1,rfl,hg1,hb1⟩
 obtain ⟨o1,d1,rfl⟩ := hg1.form
 have hB1:Below w.heap.size w w1:=(below1 w _).trans (hb1.mono (by rw [sz_alloc]; omega))
 have hz1:=hb1.size
 rw [sz_alloc] at hz1
 have RA:=hide ((Row4.new w 79 (.int .i64 4) (.slice sa 0 sc) (.int .i64 (m:Int)) (.int .i64 (M:Int))).below hb1 (by rw [sz_alloc]; omega))
 have hX0:=hg1.foot
 rw [sz_alloc] at hX0
 have HX:=hide hX0
 obtain ⟨q0,q1,q2,q3,-⟩ := Row4.facts (unhide RA)
 clear hb1 hg1 hX0
 go_wp2
 go_loopw [9,12] (fun pv i wr => ∃ (j:Nat) (ps:List Pt),i = .int .i64 (j:Int)∧j≤M∧ps.map Pt.P=tk X m j∧PGrow w1.heap.size wr pv ps∧Below w1.heap.size w1 wr) (fun _ i _ => M - (intOf i).toNat)
 case atStart => exact ⟨0,[],rfl,Nat.zero_le _,by simp [tk],PGrow.nil _ _,Below.refl _ _⟩
 case round =>
  obtain ⟨j,ps,rfl,hj,hps,hpg,hbr⟩ := hrel
  clear q0 q1 q2 q3
  obtain ⟨q0,q1,q2,q3,-⟩ := Row4.facts ((unhide RA).below hbr (by omega))
  have hzr:=hbr.size
  have Hpg:=hide hpg
  have Hps:=hide hps
  have hpj:ps.length=j:=by rw [← tk_len X m j,← hps,List.length_map]
  have hXr:=hide ((unhide HX).same (w':=wr) (fun k hk => hbr.block k hk.2))
  have hTr:Hid (∀ k,Rng (w.heap.size+1) w1.heap.size k→k<wr.heap.size):=fun k hk => Nat.lt_of_lt_of_le hk.2 hzr
  have hown:Hid (∀ k,Rng (w.heap.size+1) w1.heap.size k→∀ (u:Value) (n:Nat) (vs:List Value),wr.ownsRow w1.heap.size 32 1 u n vs→u.ownBlock ≠ some k):=fun k hk u n vs h e => by
   have:=(h.lt k e).1
   unfold Rng at hk
   omega
  have hXe:=hide ((unhide hXr).at (fun k hk => unhide hTr k hk) (unhide NX).num)
  obtain ⟨pa,pc,rfl⟩ := own_is hpg.own
  clear hpg hps
  subst hpj
  by_cases hlt:ps.length<M
  ·have hltI:(ps.length:Int)<(M:Int):=by omega
   by_cases hm:ps.length<m
   ·have hmI:(ps.length:Int)<(m:Int):=by omega
    go_wp2_with (at_builtin; refine app_part ⟨X,.slice o1 X.length d1,Rng (w.heap.size+1) w1.heap.size⟩ rfl _ _ rfl rfl rfl (unhide Hpg) hzr (Below.refl _ _) (unhide hXr) (fun k hk => ⟨unhide hTr k hk,unhide hown k hk _ _ _ (unhide Hpg).own⟩) ⟨rfl,rfl,rfl,rfl⟩ (by omega) ?_)
    intro v2 w2 hg2 hb2
    have Hg2:=hide hg2
    clear hg2
    go_wp2
    go_roundw
    case rel => exact ⟨ps.length+1,_,by go_num,by omega,by rw [List.map_append,unhide Hps,tk_lt hm]; rfl,unhide Hg2,hbr.trans hb2⟩
    case measure => simp [intOf]; omega
   ·have hmI:¬ (ps.length:Int)<(m:Int):=by omega
    go_wp2_with fail
    refine (l1empty_w _).mono ?_
    rintro e w2 ⟨v2,rfl,hg2,hb2⟩
    obtain ⟨p2,d2,rfl⟩ := hg2.form
    have hYe:=hide (hg2.els (Nice.op 0 0 0 (by simp [In64]) (by simp [In64]) (by simp [In64])))
    have hXe2:=hide ((unhide hXe).below hb2 (Nat.le_refl _))
    clear hg2
    go_wp2_with fail
    refine (l1alt_w _ _ X [⟨0,[],0,0⟩] _ (unhide hXe2) (unhide hYe) (by omega) (by simp) (unhide NX).len (Nice.op 0 0 0 (by simp [In64]) (by simp [In64]) (by simp [In64])).len).mono ?_
    rintro e w4 ⟨v4,rfl,hg4,hb4⟩
    obtain ⟨p4,d4,rfl⟩ : ∃ a c,v4 = .slice a (X.length+1+1) c:=by have:=hg4.form; rwa [List.length_append,List.length_append] at this
    have Hf4:=hide (hg4.base hb2.size).foot
    have hb24:Below wr.heap.size wr w4:=hb2.trans (hb4.mono hb2.size)
    clear hg4 hb4 hb2 hXe2 hYe
    go_wp2_with (at_builtin; refine app_part ⟨optE X,.slice p4 (X.length+1+1) d4,Rng wr.heap.size w4.heap.size⟩ rfl _ _ rfl rfl rfl (unhide Hpg) hzr hb24 (unhide Hf4) (fun k hk => ⟨hk.2,fun e => by have:=((unhide Hpg).own.lt k e).2; unfold Rng at hk; omega⟩) ⟨rfl,rfl,rfl,rfl⟩ (by omega) ?_)
    intro v5 w5 hg5 hb5
    have Hg5:=hide hg5
    clear hg5
    go_wp2
    go_roundw
    case rel => exact ⟨ps.length+1,_,by go_num,by omega,by rw [List.map_append,unhide Hps,tk_ge (by omega)]; rfl,unhide Hg5,hbr.trans hb5⟩
    case measure => simp [intOf]; omega
  ·have hltI:¬ (ps.length:Int)<(M:Int):=by omega
   have hjn:Hid (jn (ps.map Pt.P)=jn (partsX X m M)):=by
    show jn (ps.map Pt.P)=jn (partsX X m M)
    rw [unhide Hps,show ps.length=M by omega,tk_all o2]
   have hpl:ps.length≤251:=by omega
   have hpn:Hid (∀ p ∈ ps,Nice p.P∧p.P.length≤3002):=fun p hp => by
    have h1:p.P ∈ tk X m ps.length:=by rw [← unhide Hps]; exact List.mem_map_of_mem hp
    rcases tk_mem h1 with e | e
    ·rw [e]; exact ⟨unhide NX,by omega⟩
    ·rw [e]; exact ⟨optE_nice (unhide NX),by unfold optE; rw [List.length_append,List.length_append]; simp; omega⟩
   obtain ⟨w3,hw3⟩ : ∃ w3,w3=wr:=⟨_,rfl⟩
   have Hg3:Hid (PGrow w1.heap.size w3 (.slice pa ps.length pc) ps):=by rw [hw3]; exact unhide Hpg
   have hB3:Below w1.heap.size w1 w3:=by rw [hw3]; exact hbr
   have hB:Below w.heap.size w w3:=hB1.trans (hB3.mono (by omega))
   have hz3:=hB3.size
   rw [← hw3]
   rw [← hw3] at q0 q1 q2 q3
   clear hw3 hbr Hpg hXr hTr hown hXe
   go_wp2
   go_loopw [13,14] (fun ov i wl => ∃ k:Nat,k≤ps.length∧i = .int .i64 k∧GrowE w3.heap.size wl ov (jn ((ps.take k).map Pt.P))∧Below w3.heap.size w3 wl) (fun _ i _ => ps.length - (intOf i).toNat)
   case atStart => exact ⟨0,Nat.zero_le _,rfl,GrowE.nil _ _,Below.refl _ _⟩
   case round =>
    obtain ⟨k,hk,rfl,hgo,hbl⟩ := hrel
    have hzl:=hbl.size
    by_cases hlt2:k<ps.length
    ·have hmem:=List.getElem_mem hlt2
     have hE:=(unhide Hg3).els _ hmem
     have hTk:=(unhide Hg3).blk _ hmem
     have hNk:=unhide hpn _ hmem
     have hEl:=hide ((hE.same (w':=wr) (fun k hk => hbl.block k (hTk k hk).1)).at (N:=wr.heap.size) (fun k hk => Nat.lt_of_lt_of_le (hTk k hk).1 hzl) hNk.1.num)
     obtain ⟨g,cap,ev,hcell⟩ := own_at_g (own_keep (unhide Hg3).own hbl (Nat.le_refl _)) (by omega)
     simp only [Value.slice.injEq,true_and] at ev
     obtain ⟨rfl,rfl⟩ := ev
     have hx:=hcell k hlt2
     rw [List.getElem?_map,List.getElem?_eq_getElem hlt2,Option.map_some] at hx
     have Hnext:=hide (jn_next hlt2)
     obtain ⟨sa2,sc2,hsv,-⟩ := hE
     have Hsv:=hide hsv
     rw [hsv] at hx hEl
     have hNk1:=hide hNk.1
     have hNk2:=hNk.2
     clear hcell hTk hmem hNk hsv
     generalize (ps[k]).P=P at *
     have hlt3:(k:Int)<(ps.length:Int):=by omega
     obtain ⟨qa,qc,rfl⟩ := hgo.form
     obtain ⟨os,hos,hgp⟩ := hgo
     have hol:os.length=(jn ((ps.take k).map Pt.P)).length:=by rw [← hos,List.length_map]
     have hjl:=jn_len ((ps.take k).map Pt.P) (fun p hp => by obtain ⟨q,hq,rfl⟩ := List.mem_map.1 hp; exact (unhide hpn q (List.mem_of_mem_take hq)).2)
     rw [List.length_map,List.length_take] at hjl
     have hol2:os.length≤800000:=by omega
     have Hos:=hide hos
     have Hgp:=hide hgp
     clear hos hgp hjl
     have hJ0:Hid (k=0→jn ((ps.take k).map Pt.P) = []):=fun e => by subst e; rfl
     generalize jn ((ps.take k).map Pt.P)=J at *
     go_wp2_with fail
     refine (l1copy_w _ P _ (unhide hEl) (by omega) (unhide hNk1).len).mono ?_
     rintro e w4 ⟨v4,rfl,hg4,hb4⟩
     obtain ⟨qb,qd,rfl⟩ := hg4.form
     obtain ⟨us,hus,hg4⟩ := hg4
     have hul:us.length=P.length:=by rw [← hus,List.length_map]
     have Hus:=hide hus
     have Hg4:=hide hg4
     clear hus hg4 hx hEl
     go_wp2_with (at_builtin; refine app_ops rfl _ _ rfl rfl rfl (unhide Hgp) hzl hb4 (unhide Hg4) (fun p hp => Pc.one ((unhide Hg4).set p hp)) (by omega) (by omega) ?_)
     intro v5 w5 hg5 hb5
     obtain ⟨qe,qf,rfl⟩ := own_is hg5.own
     have hB5:Below w3.heap.size w3 w5:=hbl.trans hb5
     have hz5:=hB5.size
     have Hg5:=hide hg5
     clear hg5
     by_cases hk0:k=0
     ·subst hk0
      have hfin:Hid (GrowE w3.heap.size w5 (.slice qe (os ++ us).length qf) (jn ((ps.take (0+1)).map Pt.P))):=⟨_,by rw [unhide Hnext,if_pos rfl,List.map_append,unhide Hos,unhide Hus,unhide hJ0 rfl]; rfl,unhide Hg5⟩
      go_wp2
      exact ⟨⟨1,by omega,rfl,unhide hfin,hB5⟩,by simp [intOf]; omega⟩
     ·have hk1:(0:Int)<(k:Int):=by omega
      go_wp2_with (at_builtin; refine app_op ⟨2,[],0,0⟩ (.slice none 0 0) (fun _ => False) rfl _ _ rfl rfl rfl (unhide Hg5) hz5 (Below.refl _ _) (SlF.none _) (fun k hk => hk.elim) rfl ⟨rfl,rfl,rfl,rfl⟩ (by rw [List.length_append]; omega) ?_)
      intro v6 w6 hg6 hb6
      have hfin:Hid (GrowE w3.heap.size w6 v6 (jn ((ps.take (k+1)).map Pt.P))):=⟨_,by rw [unhide Hnext,if_neg hk0]; simp [unhide Hos,unhide Hus,catE],hg6⟩
      clear hg6
      go_wp2
      exact ⟨⟨k+1,by omega,by go_num,unhide hfin,hB5.trans hb6⟩,by simp [intOf]; omega⟩
    ·obtain rfl:k=ps.length:=by omega
     rw [List.take_length,unhide hjn] at hgo
     have Hgo:=hide (hgo.base hB.size)
     clear hgo
     go_wp2
     go_ret
     exact ⟨_,rfl,unhide Hgo,hB.trans (hbl.mono hB.size)⟩
set_option maxHeartbeats 2000000 in
theorem l1treeOK_any (v:Value) (xs:List El) (w:World) (hv:ElsAt 0 w.heap.size w v xs) :
  Calls Tryz.prog 32 #[v] w fun e w' => RetB e (ValidT xs)∧Below w.heap.size w w':=by
 have hv0:=hv
 obtain ⟨a,cp,rfl,hl,hc⟩ := hv
 unfold maxLen at hl
 by_cases n1:xs.length<1
 ·have n1':(xs.length:Int)<1:=by omega
  go_enter Tryz.func32,Tryz.ntmps32
  go_wp2
  go_ret
  exact ⟨RetB.no (fun h => by have:=h.1; omega),Below.refl _ _⟩
 ·have n1':¬ (xs.length:Int)<1:=by omega
  by_cases n2:3000<xs.length
  ·have n2':3000<(xs.length:Int):=by omega
   go_enter Tryz.func32,Tryz.ntmps32
   go_wp2
   go_ret
   exact ⟨RetB.no (fun h => by have:=h.1; omega),Below.refl _ _⟩
  ·have n2':¬ 3000<(xs.length:Int):=by omega
   have Hv0:=hide hv0
   clear hv0
   go_enter Tryz.func32,Tryz.ntmps32
   go_wp2
   go_loopw [3] (fun i wr => ∃ k:Nat,k≤xs.length∧i = .int .i64 k∧(∀ j:Nat,j<k→ElOk (xs[j]?.getD dE))∧Below w.heap.size w wr) (fun i _ => xs.length - (intOf i).toNat)
   case atStart => exact ⟨0,Nat.zero_le _,rfl,fun j hj => absurd hj (Nat.not_lt_zero _),Below.refl _ _⟩
   case round =>
    obtain ⟨k,hk,rfl,hok,hb⟩ := hrel
    have Hok:=hide hok
    clear hok
    by_cases hlt:k<xs.length
    ·obtain ⟨b,off,rfl,-,hbn,hel⟩ := hc (by omega)
     obtain ⟨i1,i2,i3,v,c0,c1,c2,c3,hints⟩ := (hel k hlt).same (Same.of_below hb (Nat.le_refl _)) (Nat.zero_le _) hbn
     have hlt':(k:Int)<(xs.length:Int):=by omega
     generalize hX:xs[k]?.getD dE=x at *
     have HX:=hide hX
     clear hX hel
     obtain ⟨a',cap',rfl,-,-,-⟩ := id hints
     go_wp2_with fail
     refine (l1opOK_any _ x _ (hints.mono (Nat.le_refl _) hb.size)).mono ?_
     rintro e w1 ⟨hret,hb1⟩
     have hB1:=hb.trans (hb1.mono hb.size)
     rcases hret.cases with ⟨rfl,hgood⟩ | ⟨rfl,hbad⟩
     ·have Hgood:=hide hgood
      clear hgood hb1
      go_wp2
      go_roundw
      case rel => exact ⟨k+1,by omega,by go_num,fun j hj => by
       by_cases e:j=k
       ·subst e; rw [unhide HX]; exact unhide Hgood
       ·exact unhide Hok j (by omega),hB1⟩
      case measure => simp [intOf]; omega
     ·have Hbad:=hide hbad
      clear hbad hb1
      go_wp2
      go_ret
      exact ⟨RetB.no (fun h => by have:=h.2.1 k hlt; rw [unhide HX] at this; exact unhide Hbad this),hB1⟩
    ·obtain rfl:k=xs.length:=by omega
     have hv1:=(unhide Hv0).below hb (Nat.le_refl _)
     go_wp2_with fail
     refine (l1shape_any _ xs _ hv1 (by omega)).mono ?_
     rintro e w1 ⟨hret,rfl⟩
     rcases hret.cases with ⟨rfl,hgood⟩ | ⟨rfl,hbad⟩
     ·obtain ⟨c,hseg,hsz⟩ := exists_seg (unhide Hok) hgood
      have Hgood:=hide hgood
      have Hrun:=hide (hseg.run [])
      have hts:=hseg.bd
      clear hgood hseg
      go_wp2_with fail
      refine (hsz _ _ hv1 (by omega)).mono ?_
      rintro e w2 ⟨rfl,hb2⟩
      have hB2:=hb.trans (hb2.mono hb.size)
      clear hb2 hv1 hsz
      go_wp2
      go_ret
      refine ⟨RetB.of ?_,hB2⟩
      rw [decide_eq_true_iff]
      exact ⟨fun h => ⟨⟨by omega,by omega⟩,unhide Hok,unhide Hgood,c,unhide Hrun,h⟩,fun ⟨_,_,_,u,hu,hus⟩ => by rw [unhide Hrun] at hu; simp only [List.cons.injEq,and_true] at hu; omega⟩
     ·have Hbad:=hide hbad
      clear hbad hv1
      go_wp2
      go_ret
      exact ⟨RetB.no (fun h => unhide Hbad h.2.2.1),hb⟩
set_option maxHeartbeats 400000 in
theorem specValid_any (l r:Bool) (v:Value) (xs:List El) (w:World) (hv:ElsAt 0 w.heap.size w v xs) :
  Calls Tryz.prog 14 #[.agg #[.bool l,.bool r,v]] w fun e w' => RetB e (ValidT xs)∧Below w.heap.size w w':=by
 obtain ⟨a,cp,rfl,-,-⟩ := id hv
 have Hv:=hide hv
 clear hv
 go_enter Tryz.func14,Tryz.ntmps14
 go_wp2_with fail
 refine (l1treeOK_any _ xs _ (by exact (unhide Hv).below (below1 w _) (Nat.le_refl _))).mono ?_
 rintro e w1 ⟨hret,hb1⟩
 have hB1:Below w.heap.size w w1:=(below1 w _).trans (hb1.mono (by rw [sz_alloc]; omega))
 rcases hret.cases with ⟨rfl,hgood⟩ | ⟨rfl,hbad⟩
 ·have Hgood:=hide hgood
  clear hgood hb1
  go_wp2
  go_ret
  exact ⟨RetB.yes (unhide Hgood),hB1⟩
 ·have Hbad:=hide hbad
  clear hbad hb1
  go_wp2
  go_ret
  exact ⟨RetB.no (unhide Hbad),hB1⟩
def cmp4 (g:Nat→Nat) (j:Nat):Nat:=if j<4 then 18446744073709551615 - g j else 0
theorem cmp4_fit (g:Nat→Nat):Fit (cmp4 g):=fun j => by unfold cmp4; split <;> omega
theorem cmp4_bt {g:Nat→Nat} (hg:Fit g) (b:Nat):Bt (cmp4 g) b=(decide (b<256) && !Bt g b):=by
 unfold Bt cmp4
 by_cases hb:b<256
 ·rw [if_pos (by omega)]
  have:=Nat.testBit_two_pow_sub_succ (show g (b / 64)<2 ^ 64 from hg (b / 64)) (b % 64)
  rw [show (2:Nat) ^ 64 - (g (b / 64)+1)=18446744073709551615 - g (b / 64) by omega] at this
  rw [this]
  simp [hb,show b % 64<64 by omega]
 ·rw [if_neg (by omega)]
  simp [hb]
theorem xor_all {a:Nat} (h:a<18446744073709551616):18446744073709551615 ^^^ a=18446744073709551615 - a:=by
 apply Nat.eq_of_testBit_eq
 intro i
 have h1:=Nat.testBit_two_pow_sub_one 64 i
 have h2:=Nat.testBit_two_pow_sub_succ (show a<2 ^ 64 from h) i
 rw [show (2:Nat) ^ 64 - 1=18446744073709551615 by decide] at h1
 rw [show (2:Nat) ^ 64 - (a+1)=18446744073709551615 - a by omega] at h2
 rw [Nat.testBit_xor,h1,h2]
 by_cases hi:i<64
 ·simp [hi]
 ·have:a.testBit i=false:=Nat.testBit_lt_two_pow (Nat.lt_of_lt_of_le h (by
   have:(2:Nat) ^ 64≤2 ^ i:=Nat.pow_le_pow_right (by decide) (by omega)
   exact this))
  simp [hi,this]
theorem xor_u64 {a:Nat} (h:a<18446744073709551616):bits BinOp.xor IntKind.u64 (if IntKind.u64.signed=true then -1 else IntKind.u64.max) (a:Int)=((18446744073709551615 - a:Nat):Int):=by
 rw [← xor_all h]
 exact bits_xor_u64_nat 18446744073709551615 a (by decide) h
set_option maxHeartbeats 2000000 in
set_option maxRecDepth 100000 in
theorem complement_w (g:Nat→Nat) (w:World) (hg:Fit g):Calls Tryz.prog 75 #[ws4 g] w fun e w' => e = .returned (ws4 (cmp4 g))∧Below w.heap.size w w':=by
 unfold ws4
 have Hg:=hide hg
 clear hg
 go_enter Tryz.func75,Tryz.ntmps75
 go_wp2
 go_loopw [4] (fun iv wr => ∃ i:Nat,i≤4∧iv = .int .i64 i∧wr.rowIs w.heap.size 85 4 (fun j => .int .u64 ((if j<i then cmp4 g j else g j:Nat):Int))∧(∃ g:Nat→Value,wr.rowIs (w.heap.size+1) 85 4 g)∧Below w.heap.size w wr) (fun iv _ => 4 - (intOf iv).toNat)
 case atStart =>
  refine ⟨0,by omega,rfl,((four_row w _ g).alloc _).congr (fun j hj => by simp),⟨fun j => .int .u64 ((fun _ => 0:Nat→Nat) j:Nat),?_⟩,below2 w _ _⟩
  have h:=zero_row (w.alloc (.cells #[.int .u64 (g 0:Nat),.int .u64 (g 1:Nat),.int .u64 (g 2:Nat),.int .u64 (g 3:Nat)] 85)) 85
  rw [sz_alloc] at h; exact h
 case round =>
  obtain ⟨i,hi,rfl,hrow,⟨g2,hrow2⟩,hb⟩ := hrel
  by_cases hlt:i<4
  ·have hlt':(i:Int)<4:=by omega
   have c0:=hrow.cell hlt
   rw [if_neg (Nat.lt_irrefl _)] at c0
   have f0:=hrow.frozen i
   have hgi:=unhide Hg i
   have Hrow:=hide hrow
   have Hrow2:=hide hrow2
   clear hrow hrow2
   have hx:=xor_u64 hgi
   have HX:=hide hx
   clear hx
   go_wp2
   rw [unhide HX]
   refine ⟨⟨i+1,by omega,by go_num,?_,⟨g2,?_⟩,?_⟩,by simp [intOf]; omega⟩
   ·refine ((unhide Hrow).set i _).congr (fun j hj => ?_)
    by_cases e:j=i
    ·subst e; simp [cmp4,hlt]
    ·have e2:(j<i+1)↔j<i:=by omega
     simp [e,e2]
   ·exact (unhide Hrow2).setOther (by show w.heap.size+1 ≠ w.heap.size; omega) _
   ·exact bput hb (Nat.le_refl _) _
  ·obtain rfl:i=4:=by omega
   have c0:=hrow.cell (i:=0) (by omega)
   have c1:=hrow.cell (i:=1) (by omega)
   have c2:=hrow.cell (i:=2) (by omega)
   have c3:=hrow.cell (i:=3) (by omega)
   rw [if_pos (by omega)] at c0 c1 c2 c3
   have d0:=hrow2.cell (i:=0) (by omega)
   have d1:=hrow2.cell (i:=1) (by omega)
   have d2:=hrow2.cell (i:=2) (by omega)
   have d3:=hrow2.cell (i:=3) (by omega)
   have f0:=hrow2.frozen 0
   have f1:=hrow2.frozen 1
   have f2:=hrow2.frozen 2
   have f3:=hrow2.frozen 3
   clear hrow hrow2
   go_wp2
   refine bodyPost_ret (v:=.agg #[.int .u64 (cmp4 g 0:Nat),.int .u64 (cmp4 g 1:Nat),.int .u64 (cmp4 g 2:Nat),.int .u64 (cmp4 g 3:Nat)]) (by simp [results,Tryz.results75,go_sem,d0,d1,d2,d3]) rfl ⟨rfl,?_⟩
   exact bput (bput (bput (bput hb (by omega) _) (by omega) _) (by omega) _) (by omega) _
theorem zero_fit:Fit (fun _ => 0):=fun _ => by show 0<18446744073709551616; omega
theorem zero_bt (b:Nat):Bt (fun _ => 0) b=false:=by simp [Bt]
theorem canon_all:Canon [0,255]:=⟨rfl,fun i hi => by
  match i,hi with
  | 0,_ => simp
  | 1,_ => simp,fun m hm => by
  obtain rfl:m=0:=by simp at hm; omega
  simp [PairOk]⟩
theorem words_all:WordsOf [0,255] (cmp4 (fun _ => 0)):=⟨cmp4_fit _,fun b => by
 rw [cmp4_bt zero_fit,zero_bt]
 show (decide (b<256) && !false)=(false || decide ((0:Int)≤(b:Int)∧(b:Int)≤255))
 simp
 omega⟩
theorem box4 {w w1:World} {t:TypeId} (hb:Below (w.heap.size+1) (w.alloc (.cells #[.int .u64 0,.int .u64 0,.int .u64 0,.int .u64 0] t)) w1):w1.rowIs w.heap.size t 4 (fun j => .int .u64 ((fun _ => 0:Nat→Nat) j:Nat)) :=
 World.rowIs.of_block (zero_row w t) (hb.block _ (Nat.lt_succ_self _))
set_option maxHeartbeats 2000000 in
set_option maxRecDepth 100000 in
theorem allBytes_w (w:World):Calls Tryz.prog 41 #[] w fun e w' => (∃ g,e = .returned (ws4 g)∧WordsOf [0,255] g)∧Below w.heap.size w w':=by
 have hB0:=below1 w (.cells #[.int .u64 0,.int .u64 0,.int .u64 0,.int .u64 0] 85)
 go_enter Tryz.func41,Tryz.ntmps41
 go_wp2_with fail
 refine (complement_w (fun _ => 0) _ zero_fit).mono ?_
 rintro e w1 ⟨rfl,hb1⟩
 have hrow:=box4 (hb1.mono (by rw [sz_alloc]; omega))
 have hB1:Below w.heap.size w w1:=hB0.trans (hb1.mono (by rw [sz_alloc]; omega))
 have d0:=hrow.cell (i:=0) (by omega)
 have d1:=hrow.cell (i:=1) (by omega)
 have d2:=hrow.cell (i:=2) (by omega)
 have d3:=hrow.cell (i:=3) (by omega)
 have f0:=hrow.frozen 0
 have f1:=hrow.frozen 1
 have f2:=hrow.frozen 2
 have f3:=hrow.frozen 3
 have HW:=hide words_all
 clear hrow hb1
 generalize cmp4 (fun _ => 0)=q at *
 unfold ws4
 go_wp2
 refine bodyPost_ret (v:=.agg #[.int .u64 (q 0:Nat),.int .u64 (q 1:Nat),.int .u64 (q 2:Nat),.int .u64 (q 3:Nat)]) (by simp [results,Tryz.results41,go_sem,d0,d1,d2,d3]) rfl ⟨⟨q,rfl,unhide HW⟩,?_⟩
 exact bput (bput (bput (bput hB1 (by omega) _) (by omega) _) (by omega) _) (by omega) _
theorem pop_none (g o:Nat) (a:Option Addr) (l c:Nat) (w:World) (h0:w.cell? ⟨g,o,none⟩ = some (.slice a l c)) (h1:w.cell? ⟨g,o+1,none⟩ = some (.int .i64 l)) :
  Calls Tryz.prog 94 #[.pointer (some ⟨g,o,none⟩)] w fun e w' => e = .returned (.tuple #[.int .i64 0,.bool false])∧∃ q,w'=w.drewN q:=by
 go_enter Tryz.func94,Tryz.ntmps94
 go_wp2_with fail
 go_quiet (fail)
 go_wp2
 go_ret2
 exact ⟨rfl,_,rfl⟩
theorem pop_some (g o b off:Nat) (t:Nat) (x:Int) (l c:Nat) (w:World) (hl:l≤1000000) (ht:t<l) (h0:w.cell? ⟨g,o,none⟩ = some (.slice (some ⟨b,off,none⟩) l c)) (h1:w.cell? ⟨g,o+1,none⟩ = some (.int .i64 t)) (h2:w.cell? ⟨b,off+t,none⟩ = some (.int .i64 x)) (hz:w.frozen? ⟨g,o+1,none⟩ = false) :
  Calls Tryz.prog 94 #[.pointer (some ⟨g,o,none⟩)] w fun e w' => e = .returned (.tuple #[.int .i64 x,.bool true])∧∃ q,w'=(w.drewN q).setCell ⟨g,o+1,none⟩ (.int .i64 ((t:Int)+1)):=by
 have ht1:(t:Int) ≠ (l:Int):=by omega
 have ht2:(t:Int)<(l:Int):=by omega
 have hw:wrap64 ((t:Int)+1)=(t:Int)+1:=w64 (by omega) (by omega)
 go_enter Tryz.func94,Tryz.ntmps94
 go_wp2_with fail
 go_quiet (fail)
 go_wp2_with fail
 go_quiet (fail)
 go_wp2
 go_ret2
 exact ⟨rfl,_,rfl⟩
theorem Tryz.lawI:Maps.Keyed Tryz.prog 3:=Maps.int_keyed Tryz.underlying3
theorem Tryz.lawII:Maps.Keyed Tryz.prog 160:=Maps.Keyed.of_law (deep_law_laid Tryz.laidOutN (m:=2) (by omega) (of_decide_eq_true (by kernel_rfl)) (by kernel_rfl) (by rw [Tryz.underlying160]))
theorem wfI {n:Int} (h0 : -9223372036854775808≤n) (h1:n≤9223372036854775807):(Lit.int .i64 n).wf=true:=WalkArith.wf_i64 (by omega)
theorem key_i {n:Int} (h0 : -9223372036854775808≤n) (h1:n≤9223372036854775807):KeyIs 3 (.int .i64 n):=by
 unfold KeyIs keyOf
 simp only [Tryz.underlying3]
 exact ⟨_,by simp [mapKey,Tryz.underlying3,wfI h0 h1]; rfl⟩
set_option maxHeartbeats 2000000 in
set_option maxRecDepth 100000 in
theorem newI_any (w:World):Calls Tryz.prog 91 #[] w fun e w' => e = .returned (.agg #[.map (some (w.heap.size+1))])∧NumAt 3 w' (w.heap.size+1) []∧w'.heap.size=w.heap.size+2∧Below w.heap.size w w':=by
 have hmm := @run_makeMap Tryz.prog
 have hN:=num_new 3 (w.alloc (.cells #[.map (some (w.heap.size+1))] 165))
 rw [sz_alloc] at hN
 have hB:=below2 w (.cells #[.map (some (w.heap.size+1))] 165) (.map #[] 0)
 have HN:=hide hN
 have HB:=hide hB
 clear hN hB
 go_enter Tryz.func91,Tryz.ntmps91
 go_wp2
 refine bodyPost_ret (v:=.agg #[.map (some (w.heap.size+1))]) (by simp [results,Tryz.results91,go_sem]) rfl ?_
 refine ⟨rfl,unhide HN,by rw [sz_alloc,sz_alloc],unhide HB⟩
set_option maxHeartbeats 4000000 in
set_option maxRecDepth 100000 in
theorem ofI_any (b:Nat) (x:Int) (ks:List Value) (w:World) (h:NumAt 3 w b ks) (h0 : -9223372036854775808≤x) (h1:x≤9223372036854775807) (hn:ks.length<100000) :
  Calls Tryz.prog 92 #[.agg #[.map (some b)],.int .i64 x] w fun e w' => ∃ i ks' f,e = .returned (.tuple #[.int .i64 (i:Nat),.bool f])∧NumR ks (.int .i64 x) ks' i f∧NumAt 3 w' b ks'∧FrO (OneB w b) w w':=by
 have hB:=below1 w (.cells #[.map (some b)] 165)
 have hlt:=h.lt
 have hW:=h.keep (hB.block b hlt)
 have HF0:Hid (FrO (OneB w b) w (w.alloc (.cells #[.map (some b)] 165))):=fro_of hB (fun k hk => Or.inr hk)
 rcases hW.look Tryz.lawI Tryz.underlying163 (key_i h0 h1) with ⟨i,hi,hl⟩ | ⟨hno,hl⟩
 ·have HW:=hide hW
  have HI:=hide hi
  clear hW hi h hB
  go_enter Tryz.func92,Tryz.ntmps92
  go_wp2
  go_ret2
  exact ⟨i,ks,false,rfl,Or.inl ⟨List.mem_of_getElem? (unhide HI),rfl,unhide HI,rfl⟩,unhide HW,unhide HF0⟩
 ·have hln:=fun ty => hW.len Tryz.underlying163 ty
  obtain ⟨w3,hput,hN3,hob⟩ := hW.put Tryz.lawI Tryz.underlying163 hn (key_i h0 h1) hno
  have HN3:=hide hN3
  have HF3:=hide ((unhide HF0).trans (hob.fro (Or.inl rfl)))
  have HNO:=hide hno
  clear hW hno h hB hN3 hob
  go_enter Tryz.func92,Tryz.ntmps92
  go_wp2
  go_ret2
  exact ⟨ks.length,ks ++ [.int .i64 x],true,rfl,Or.inr ⟨unhide HNO,rfl,rfl,rfl⟩,unhide HN3,unhide HF3⟩
theorem FstIn.congr {R R' L L':Nat→Prop} {C C':Nat→Nat→Prop} {q v:Nat} (h:FstIn R L C q v) (hR:∀ p,p<q→(R p↔R' p)) (hL:∀ p,p<q→(R p→(L p↔L' p))) (hC:∀ p,p<q→R p→(C p q↔C' p q)):FstIn R' L' C' q v:=by
 rcases h with ⟨k1,k2,k3,k4,k5⟩ | ⟨k1,k2⟩
 ·exact .inl ⟨k1,(hR v k1).1 k2,(hL v k1 k2).1 k3,(hC v k1 k2).1 k4,fun p hp r l c => by
   have r':=(hR p (by omega)).2 r
   exact k5 p hp r' ((hL p (by omega) r').2 l) ((hC p (by omega) r').2 c)⟩
 ·exact .inr ⟨k1,fun p hp r l c => by
   have r':=(hR p hp).2 r
   exact k2 p hp r' ((hL p hp r').2 l) ((hC p hp r').2 c)⟩
def BkV (r:Nat→Bool) (L:Nat→Prop) (C:Nat→Nat→Prop) (j:Nat) (v:Int):Prop :=
 (r j=false∧v = -1)∨(r j=true∧∃ m:Nat,v=m∧FstIn (fun p => r p=true) L C j m)
theorem BkV.congrL {r:Nat→Bool} {L L':Nat→Prop} {C:Nat→Nat→Prop} {j:Nat} {v:Int} (h:BkV r L C j v) (hL:∀ p,p<j→(L p↔L' p)):BkV r L' C j v:=by
 rcases h with h | ⟨h1,m,h2,h3⟩
 ·exact .inl h
 ·exact .inr ⟨h1,m,h2,h3.congr (fun _ _ => Iff.rfl) (fun p hp _ => hL p hp) (fun _ _ _ => Iff.rfl)⟩
def BkR (r:Nat→Bool) (n:Nat) (pv:Nat→Int):Prop:=∀ j,j<n→(r j=false∧pv j = -1)∨(r j=true∧∃ m:Nat,pv j=m∧m≤j)
theorem FstIn.le {R L:Nat→Prop} {C:Nat→Nat→Prop} {q v:Nat} (h:FstIn R L C q v):v≤q:=by
 rcases h with h | h
 ·omega
 ·omega
theorem bkr_of {r:Nat→Bool} {L:Nat→Nat→Prop} {C:Nat→Nat→Prop} {n:Nat} {pv:Nat→Int} (h:∀ j,j<n→BkV r (L j) C j (pv j)):BkR r n pv:=fun j hj => by
 rcases h j hj with h | ⟨h1,m,h2,h3⟩
 ·exact .inl h
 ·exact .inr ⟨h1,m,h2,h3.le⟩
theorem BkR.nat {r:Nat→Bool} {n:Nat} {pv:Nat→Int} (h:BkR r n pv) {j:Nat} (hj:j<n) (hr:r j=true):pv j=((pv j).toNat:Int):=by
 rcases h j hj with ⟨h1,-⟩ | ⟨-,m,h2,-⟩
 ·rw [hr] at h1; cases h1
 ·omega
theorem BkR.eq {r:Nat→Bool} {n:Nat} {pv:Nat→Int} (h:BkR r n pv) {i j:Nat} (hi:i<n) (hri:r i=true) (hj:j<n) (hrj:r j=true):pv i=pv j↔(pv i).toNat=(pv j).toNat:=by
 have h1:=h.nat hi hri
 have h2:=h.nat hj hrj
 omega
theorem BkR.self {r:Nat→Bool} {n:Nat} {pv:Nat→Int} (h:BkR r n pv) {j:Nat} (hj:j<n):pv j=(j:Int)↔r j=true∧(pv j).toNat=j:=by
 rcases h j hj with ⟨h1,h2⟩ | ⟨h1,m,h2,-⟩
 ·rw [h1]; simp; omega
 ·rw [h1]; simp; omega
theorem bk_start {A:Tb} {r:Nat→Bool} {pv:Nat→Int} (hw:A.Wf) (hr:∀ q,q<A.n→(r q=true↔A.Rch q)) (h:∀ j,j<A.n→BkV r (fun _ => True) (fun a b => A.ac a=A.ac b) j (pv j)):Rds A (fun p q => A.ac p=A.ac q) (fun j => (pv j).toNat) :=
 Rds.start fun q hq => by
  have hql:=hq.lt hw
  rcases h q hql with ⟨h1,-⟩ | ⟨-,m,h2,h3⟩
  ·rw [(hr q hql).2 hq] at h1; cases h1
  ·rw [h2]
   exact h3.congr (fun p hp => hr p (by omega)) (fun _ _ _ => Iff.rfl) (fun _ _ _ => Iff.rfl)
def RdC (A:Tb) (pv:Nat→Int) (a b:Nat):Prop:=pv a=pv b∧∀ c,c<A.k→pv (A.nx a c)=pv (A.nx b c)
theorem bk_next {A:Tb} {C:Nat→Nat→Prop} {r:Nat→Bool} {pv nv:Nat→Int} (h:Rds A C (fun j => (pv j).toNat)) (hw:A.Wf) (hf:A.Full) (hr:∀ q,q<A.n→(r q=true↔A.Rch q)) (hp:BkR r A.n pv)
  (hN:∀ j,j<A.n→BkV r (fun p => nv p=(p:Int)) (RdC A pv) j (nv j)):Rds A (rnd A C) (fun j => (nv j).toNat) :=
 h.next hf fun q hq => by
  have hql:=hq.lt hw
  have hq':=(hr q hql).2 hq
  have hnr:BkR r A.n nv:=bkr_of (L:=fun _ p => nv p=(p:Int)) hN
  rcases hN q hql with ⟨h1,-⟩ | ⟨-,m,h2,h3⟩
  ·rw [hq'] at h1; cases h1
  ·show FstIn _ _ _ _ (nv q).toNat
   rw [h2]
   refine h3.congr (fun p hp => hr p (by omega)) (fun p hp hrp => ?_) (fun p hp' hrp => ?_)
   ·rw [hnr.self (by omega)]
    exact ⟨fun k => k.2,fun k => ⟨hrp,k⟩⟩
   ·have hrc:=(hr p (by omega)).1 hrp
    have e:∀ c,c<A.k→(pv (A.nx p c)=pv (A.nx q c)↔(pv (A.nx p c)).toNat=(pv (A.nx q c)).toNat):=fun c hc => by
     have a1:=hw.nxt p c (by omega) hc
     have a2:=hw.nxt q c hql hc
     exact hp.eq a1 ((hr _ a1).2 (hrc.nx hf hc)) a2 ((hr _ a2).2 (hq.nx hf hc))
    unfold RdC
    rw [hp.eq (by omega) hrp hql hq']
    exact ⟨fun k => ⟨k.1,fun c hc => (e c hc).1 (k.2 c hc)⟩,fun k => ⟨k.1,fun c hc => (e c hc).2 (k.2 c hc)⟩⟩
def cntP (pv:Nat→Int) (n:Nat):Nat:=cntN (fun q => decide (pv q=(q:Int))) n
theorem cntN_congr {f g:Nat→Bool}:∀ n,(∀ q,q<n→f q=g q)→cntN f n=cntN g n
 | 0,_ => rfl
 | n+1,h => by simp only [cntN]; rw [cntN_congr n fun q hq => h q (by omega),h n (by omega)]
theorem cntP_eq {r:Nat→Bool} {n:Nat} {pv:Nat→Int} (h:BkR r n pv):cntP pv n=cntN (fun q => r q && (pv q).toNat == q) n :=
 cntN_congr n fun q hq => by
  rw [Bool.eq_iff_iff]
  simp only [decide_eq_true_eq,Bool.and_eq_true,beq_iff_eq]
  exact h.self hq
theorem cntP_le (pv:Nat→Int) (n:Nat):cntP pv n≤n:=cntN_le _ n
theorem bk_grow {A:Tb} {C:Nat→Nat→Prop} {r:Nat→Bool} {pv nv:Nat→Int} (h:Rds A C (fun j => (pv j).toNat)) (g:Rds A (rnd A C) (fun j => (nv j).toNat)) (hw:A.Wf) (hr:∀ q,q<A.n→(r q=true↔A.Rch q)) (hp:BkR r A.n pv) (hn:BkR r A.n nv) (hne:∃ q,q<A.n∧nv q ≠ pv q):cntP pv A.n<cntP nv A.n:=by
 rw [cntP_eq hp,cntP_eq hn]
 refine h.grow g hw hr ?_
 obtain ⟨q,hq,hd⟩ := hne
 have hrq:r q=true:=by
  rcases hp q hq with ⟨h1,h2⟩ | ⟨h1,-⟩
  ·rcases hn q hq with ⟨h3,h4⟩ | ⟨h3,-⟩
   ·rw [h2,h4] at hd; exact absurd rfl hd
   ·exact h3
  ·exact h1
 refine ⟨q,(hr q hq).1 hrq,fun e => hd ?_⟩
 rw [hn.nat hq hrq,hp.nat hq hrq,e]
theorem bk_fin {A:Tb} {C:Nat→Nat→Prop} {pv nv:Nat→Int} (h:Rds A C (fun j => (pv j).toNat)) (g:Rds A (rnd A C) (fun j => (nv j).toNat)) (hw:A.Wf) (he:∀ q,q<A.n→nv q=pv q):Fst A (fun j => (nv j).toNat):=by
 have hf:=h.fin g hw fun q hq => by rw [he q (hq.lt hw)]
 have e:∀ q,A.Rch q→(nv q).toNat=(pv q).toNat:=fun q hq => by rw [he q (hq.lt hw)]
 exact ⟨fun q hq => by rw [e q hq]; exact hf.rch q hq,fun q hq => by rw [e q hq]; exact hf.tel q hq,fun p q hp hq ht => by rw [e p hp,e q hq]; exact hf.one p q hp hq ht⟩
def bkK (A:Tb) (pv:Nat→Int) (b:Nat):Nat→Int:=fun q => if q<A.n∧pv q=(q:Int) then pv (A.stp q b) else 0
theorem bkK_sm {A:Tb} {r:Nat→Bool} {pv:Nat→Int} (hw:A.Wf) (hr:∀ q,q<A.n→(r q=true↔A.Rch q)) (hp:BkR r A.n pv) (hF:Fst A (fun j => (pv j).toNat)) {b b':Nat} (hb:b<256) (hb':b'<256):bkK A pv b=bkK A pv b'↔SmB A b b':=by
 have eqv:∀ {x y:Nat},A.Rch x→A.Rch y→(pv x=pv y↔(pv x).toNat=(pv y).toNat):=fun {x y} hx hy => hp.eq (hx.lt hw) ((hr _ (hx.lt hw)).2 hx) (hy.lt hw) ((hr _ (hy.lt hw)).2 hy)
 constructor
 ·intro he q hq
  have hP:A.Rch (pv q).toNat:=hF.rch q hq
  have hPl:=hP.lt hw
  have ht:Tel A A (pv q).toNat q:=hF.tel q hq
  have hid:(pv (pv q).toNat).toNat=(pv q).toNat:=hF.idem hq
  obtain ⟨p,hpp⟩ : ∃ p,p=(pv q).toNat:=⟨_,rfl⟩
  rw [← hpp] at hP hPl ht hid
  have hself:pv p=(p:Int):=(hp.self hPl).2 ⟨(hr p hPl).2 hP,hid⟩
  have h1:=congrFun he p
  simp only [bkK,hPl,hself,and_self,if_true] at h1
  have hx:=hP.stp hb
  have hy:=hP.stp hb'
  have t1:Tel A A (pv (A.stp p b)).toNat (A.stp p b):=hF.tel _ hx
  have t2:Tel A A (pv (A.stp p b')).toNat (A.stp p b'):=hF.tel _ hy
  rw [(eqv hx hy).1 h1] at t1
  exact (ht.stp hb).symm.trans (t1.symm.trans (t2.trans (ht.stp hb')))
 ·intro hs
  funext q
  simp only [bkK]
  split
  ·rename_i h
   have hq:A.Rch q:=(hr q h.1).1 ((hp.self h.1).1 h.2).1
   exact (eqv (hq.stp hb) (hq.stp hb')).2 (hF.one _ _ (hq.stp hb) (hq.stp hb') (hs q hq))
  ·rfl
theorem specT_of {A:Tb} {r:Nat→Bool} {pv:Nat→Int} {ns fs o ys:List Nat} (hw:A.Wf) (hr:∀ q,q<A.n→(r q=true↔A.Rch q)) (hp:BkR r A.n pv) (hF:Fst A (fun j => (pv j).toNat)) (hN:NumL (bkK A pv) (fs.map (bkK A pv)) ns fs) (hl:ns.length=256)
  (hB:Bfs fs.length (fun q e => (pv (A.stp q (fs[e]?.getD 0))).toNat) (pv 0).toNat o ys) (hy:ys.length=o.length * fs.length):SpecT A (fun j => (pv j).toNat) fs.length (fun b => ns[b]?.getD 0) (fun e => fs[e]?.getD 0) o ys where
 wf:=hw
 fst:=hF
 num:=by
  have:=hN.num1
  rw [hl,List.length_map] at this
  exact this
 sm:=fun b b' hb hb' => by
  have:=hN.eq_iff (p:=b) (q:=b') (by omega) (by omega)
  rw [this]
  exact bkK_sm hw hr hp hF hb hb'
 bfs:=hB
 len:=hy
theorem clL_of {k:Nat} {ns o ys:List Nat} {ac:Nat→Bool} (hl:ns.length=256):clL (bfsT k (fun b => ns[b]?.getD 0) ac o ys)=ns.map fun (x:Nat) => (x:Int):=by
 apply List.ext_getElem?
 intro i
 simp only [clL,bfsT,List.getElem?_map]
 by_cases hi:i<256
 ·rw [List.getElem?_range hi,List.getElem?_eq_getElem (l:=ns) (i:=i) (by omega)]
  simp only [Option.map_some,List.getElem?_eq_getElem (l:=ns) (i:=i) (by omega),Option.getD_some]
 ·rw [List.getElem?_eq_none (by simp; omega),List.getElem?_eq_none (by omega)]; rfl
theorem nxL_of {k:Nat} {cl:Nat→Nat} {o ys:List Nat} {ac:Nat→Bool} (hy:ys.length=o.length * k):nxL (bfsT k cl ac o ys)=ys.map fun (x:Nat) => (x:Int):=by
 apply List.ext_getElem?
 intro i
 simp only [nxL,bfsT,List.getElem?_map]
 by_cases hi:i<ys.length
 ·rw [List.getElem?_range (by omega),List.getElem?_eq_getElem (l:=ys) hi]
  simp only [Option.map_some,Nat.div_add_mod',List.getElem?_eq_getElem (l:=ys) hi,Option.getD_some]
 ·rw [List.getElem?_eq_none (by simp; omega),List.getElem?_eq_none (by omega)]; rfl
theorem acL_of {k:Nat} {cl:Nat→Nat} {o ys:List Nat} {ac:Nat→Bool}:acL (bfsT k cl ac o ys)=o.map ac:=by
 apply List.ext_getElem?
 intro i
 simp only [acL,bfsT,List.getElem?_map]
 by_cases hi:i<o.length
 ·rw [List.getElem?_range hi,List.getElem?_eq_getElem (l:=o) hi]
  simp [hi]
 ·rw [List.getElem?_eq_none (by simp; omega),List.getElem?_eq_none (by omega)]; rfl
def I64 (x:Int):Prop := -9223372036854775808≤x∧x≤9223372036854775807
def ii (x y:Int):Value:=.agg #[.int .i64 x,.int .i64 y]
theorem key_ii {x y:Int} (hx:I64 x) (hy:I64 y):KeyIs 160 (ii x y):=by
 have c1:Tryz.prog.cellsOf 160=2:=by kernel_rfl
 have c2:Tryz.prog.cellsOf 3=1:=by kernel_rfl
 have hk:Tryz.prog.keyType 160=true:=by kernel_rfl
 obtain ⟨m,hm⟩ : ∃ m,Tryz.prog.types.size=m+1:=⟨Tryz.prog.types.size - 1,by have:0<Tryz.prog.types.size:=of_decide_eq_true (by kernel_rfl); omega⟩
 unfold KeyIs keyOf
 simp only [Tryz.underlying160]
 rw [if_pos (by simp [hk,Value.formed,Tryz.underlying160,c1,ii]),hm]
 unfold Program.keyLits
 simp only [Tryz.underlying160,Value.cells,ii]
 rw [if_pos (by rw [c1]; rfl)]
 simp [List.range_succ,Program.keyLits,Tryz.underlying3,c2,wfI hx.1 hx.2,wfI hy.1 hy.2]
set_option maxHeartbeats 2000000 in
set_option maxRecDepth 100000 in
theorem newII_any (w:World):Calls Tryz.prog 86 #[] w fun e w' => e = .returned (.agg #[.map (some (w.heap.size+1))])∧NumAt 160 w' (w.heap.size+1) []∧w'.heap.size=w.heap.size+2∧Below w.heap.size w w':=by
 have hmm := @run_makeMap Tryz.prog
 have hN:=num_new 160 (w.alloc (.cells #[.map (some (w.heap.size+1))] 158))
 rw [sz_alloc] at hN
 have hB:=below2 w (.cells #[.map (some (w.heap.size+1))] 158) (.map #[] 0)
 have HN:=hide hN
 have HB:=hide hB
 clear hN hB
 go_enter Tryz.func86,Tryz.ntmps86
 go_wp2
 refine bodyPost_ret (v:=.agg #[.map (some (w.heap.size+1))]) (by simp [results,Tryz.results86,go_sem]) rfl ?_
 refine ⟨rfl,unhide HN,by rw [sz_alloc,sz_alloc],unhide HB⟩
set_option maxHeartbeats 4000000 in
set_option maxRecDepth 100000 in
theorem ofII_any (b:Nat) (x y:Int) (ks:List Value) (w:World) (h:NumAt 160 w b ks) (hx:I64 x) (hy:I64 y) (hn:ks.length<100000) :
  Calls Tryz.prog 88 #[.agg #[.map (some b)],ii x y] w fun e w' => ∃ i ks' f,e = .returned (.tuple #[.int .i64 (i:Nat),.bool f])∧NumR ks (ii x y) ks' i f∧NumAt 160 w' b ks'∧FrO (OneB w b) w w':=by
 have hB:=below2 w (.cells #[.map (some b)] 158) (.cells #[.int .i64 x,.int .i64 y] 160)
 have hlt:=h.lt
 have hW:=h.keep (hB.block b hlt)
 have hz:((w.alloc (.cells #[.map (some b)] 158)).alloc (.cells #[.int .i64 x,.int .i64 y] 160)).heap.size=w.heap.size+2:=by rw [sz_alloc,sz_alloc]
 have HF0:Hid (FrO (OneB w b) w ((w.alloc (.cells #[.map (some b)] 158)).alloc (.cells #[.int .i64 x,.int .i64 y] 160))):=fro_of hB (fun k hk => Or.inr hk)
 rcases hW.look Tryz.lawII Tryz.underlying156 (key_ii hx hy) with ⟨i,hi,hl⟩ | ⟨hno,hl⟩
 ·have HW:=hide hW
  have HI:=hide hi
  clear hW hi h hB
  unfold ii at hl ⊢
  go_enter Tryz.func88,Tryz.ntmps88
  go_wp2
  go_ret2
  exact ⟨i,ks,false,rfl,Or.inl ⟨List.mem_of_getElem? (unhide HI),rfl,unhide HI,rfl⟩,unhide HW,unhide HF0⟩
 ·have hln:=fun ty => hW.len Tryz.underlying156 ty
  obtain ⟨w3,hput,hN3,hob⟩ := hW.put Tryz.lawII Tryz.underlying156 hn (key_ii hx hy) hno
  have HN3:=hide hN3
  have HF3:=hide ((unhide HF0).trans (hob.fro (Or.inl rfl)))
  have HNO:=hide hno
  clear hW hno h hB hN3 hob
  unfold ii at hl hput ⊢
  go_enter Tryz.func88,Tryz.ntmps88
  go_wp2
  go_ret2
  exact ⟨ks.length,ks ++ [ii x y],true,rfl,Or.inr ⟨unhide HNO,rfl,rfl,rfl⟩,unhide HN3,unhide HF3⟩
set_option maxHeartbeats 2000000 in
set_option maxRecDepth 100000 in
theorem countII_any (b:Nat) (ks:List Value) (w:World) (h:NumAt 160 w b ks) :
  Calls Tryz.prog 89 #[.agg #[.map (some b)]] w fun e w' => e = .returned (.int .i64 (ks.length:Nat))∧Below w.heap.size w w':=by
 have hB:=below1 w (.cells #[.map (some b)] 158)
 have hW:=h.keep (hB.block b h.lt)
 have hln:=fun ty => hW.len Tryz.underlying156 ty
 have HB:=hide hB
 clear hW h hB
 go_enter Tryz.func89,Tryz.ntmps89
 go_wp2
 go_ret
 exact ⟨rfl,unhide HB⟩
end Go.Proofs.YtlidckepahpaeaaGreatDoor
