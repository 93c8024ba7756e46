import Derived.Test.YtlidckepahpaeaaGreatDoorPk33
import Derived.Test.YtlidckepahpaeaaGreatDoorPk37
import Derived.Test.YtlidckepahpaeaaGreatDoorPk36
import Derived.Test.YtlidckepahpaeaaGreatDoorPk28
import Derived.Test.YtlidckepahpaeaaGreatDoorPk22
import Derived.Test.YtlidckepahpaeaaGreatDoorPk9
import Derived.Test.YtlidckepahpaeaaGreatDoorPk29
import Derived.Deep.RegionHeld3
import Derived.Deep.DeepCutAuto
namespace Go.Proofs.YtlidckepahpaeaaGreatDoor
open Go.RowKit
theorem GrowE.set1 {w w1:World} {v1:Value} {xs:List Int} (hb:Below w.heap.size w w1) (hs:SlW mI 0 w.heap.size w1.heap.size w1 v1 xs):GrowE w.heap.size (w1.alloc (.cells #[.int .i64 1,v1,.int .i64 0,.int .i64 0] 79)) (.slice (some ⟨w1.heap.size,0,none⟩) 1 1) [⟨1,xs,0,0⟩]:=by
 refine ⟨[⟨⟨1,xs,0,0⟩,v1,Rng w.heap.size w1.heap.size⟩],rfl,World.ownsRow_lit w1 _ 1 hb.size (by unfold maxLen; omega) rfl,fun p hp => ?_,fun p hp k hk => ?_,List.pairwise_singleton _ _⟩
 ·obtain rfl:=List.mem_singleton.1 hp
  exact hs.foot.same (fun k hk => (below1 w1 _).block k hk.2)
 ·obtain rfl:=List.mem_singleton.1 hp
  have h2:=hk.2
  exact ⟨hk.1,by rw [sz_alloc]; omega,fun e => by have e2:w1.heap.size=k:=Option.some.inj e; omega⟩
set_option maxHeartbeats 2000000 in
theorem l1set_w (v:Value) (xs:List Int) (w:World) (hv:SlAt mI 0 0 w.heap.size w v xs) (hlen:xs.length≤1048576):Calls Tryz.prog 99 #[v] w fun e w' => ∃ v',e = .returned v'∧GrowE w.heap.size w' v' [⟨1,xs,0,0⟩]∧Below w.heap.size w w':=by
 obtain ⟨a,cp,rfl,-,-⟩ := id hv
 have Hv:=hide hv
 clear hv
 go_enter Tryz.func99,Tryz.ntmps99
 go_wp2_with (at_builtin; refine app_ints rfl _ _ rfl rfl _ rfl xs (unhide Hv) hlen ?_; intro sv w1 hb1 hsl h1c; obtain ⟨sa,sc,rfl⟩ : ∃ a c,sv = .slice a xs.length c:=(by obtain ⟨a,c,e,-⟩ := hsl; exact ⟨a,c,e⟩); have HG:=hide (GrowE.set1 hb1 hsl); have HB:=hide (hb1.trans ((below1 w1 (.cells #[.int .i64 1,.slice sa xs.length sc,.int .i64 0,.int .i64 0] 79)).mono hb1.size)); clear hsl h1c hb1)
 go_ret
 exact ⟨_,rfl,unhide HG,unhide HB⟩
set_option maxHeartbeats 2000000 in
theorem l1cat_w (vx vy:Value) (xs ys:List El) (w:World) (hx:ElsAt 0 w.heap.size w vx xs) (hy:ElsAt 0 w.heap.size w vy ys) (hlx:xs.length≤1048576) (hly:ys.length≤1048576) (hsx:∀ i:Nat,(xs[i]?.getD dE).set.length≤1048576) (hsy:∀ i:Nat,(ys[i]?.getD dE).set.length≤1048576) :
  Calls Tryz.prog 101 #[vx,vy] w fun e w' => ∃ v',e = .returned v'∧GrowE w.heap.size w' v' (xs ++ ys ++ [⟨2,[],0,0⟩])∧Below w.heap.size w w':=by
 have H:=hide (l1bin_w 2 vx vy xs ys w hx hy hlx hly hsx hsy)
 obtain ⟨a1,c1,rfl,-,-⟩ := id hx
 obtain ⟨a2,c2,rfl,-,-⟩ := id hy
 clear hx hy hsx hsy
 go_enter Tryz.func101,Tryz.ntmps101
 go_wp2_with fail
 refine (unhide H).mono ?_
 rintro e w1 ⟨v1,rfl,hg1,hb1⟩
 obtain ⟨Z,hZ⟩ : ∃ Z,Z=xs ++ ys ++ [⟨2,[],0,0⟩]:=⟨_,rfl⟩
 rw [← hZ] at hg1
 have HZ:=hide hZ
 have HG:=hide hg1
 obtain ⟨o1,d1,rfl⟩ := hg1.form
 clear hg1 hZ
 go_wp2
 go_ret
 exact ⟨_,rfl,by rw [← unhide HZ]; exact unhide HG,hb1⟩
theorem nice_all:Nice allE:=(nice_set canon_all).app (Nice.op _ _ _ (by simp [In64]) (by simp [In64]) (by simp [In64]))
theorem nice_cat {a b:List El} (ha:Nice a) (hb:Nice b):Nice (a ++ b ++ [⟨2,[],0,0⟩]):=(ha.app hb).app (Nice.op _ _ _ (by simp [In64]) (by simp [In64]) (by simp [In64]))
theorem nice_wh (l r:Bool) {L:List El} (h:Nice L):Nice (whL l r L):=by
 unfold whL
 cases l <;> cases r
 ·exact nice_cat (nice_cat nice_all h) nice_all
 ·exact nice_cat nice_all h
 ·exact nice_cat h nice_all
 ·exact h
set_option maxHeartbeats 4000000 in
theorem l2whole_any (l r:Bool) (v:Value) (xs L:List El) (w:World) (hv:ElsAt 0 w.heap.size w v xs) (hlen:xs.length≤3000) (hx:XpS xs L) (hn:Nice L) (hL:L.length≤1000) :
  Calls Tryz.prog 62 #[.agg #[.bool l,.bool r,v]] w fun e w' => ∃ v',e = .returned v'∧GrowE w.heap.size w' v' (whL l r L)∧Below w.heap.size w w':=by
 obtain ⟨a,cp,rfl,-,-⟩ := id hv
 have Hv:=hide hv
 have HX:=hide hx
 have HN:=hide hn
 have hb0:=below1 w (.cells #[.bool l,.bool r,.slice a xs.length cp] 34)
 have HC:Hid (∀ W,Below (w.heap.size+1) (w.alloc (.cells #[.bool l,.bool r,.slice a xs.length cp] 34)) W→W.cell? ⟨w.heap.size,0,none⟩ = some (.bool l)∧W.cell? ⟨w.heap.size,1,none⟩ = some (.bool r)):=fun W hW =>
  ⟨(hW.cell (p:=⟨w.heap.size,0,none⟩) (Nat.lt_succ_self _)).trans ((pushd_alloc w _).news 0 _ rfl),(hW.cell (p:=⟨w.heap.size,1,none⟩) (Nat.lt_succ_self _)).trans ((pushd_alloc w _).news 1 _ rfl)⟩
 clear hv hx hn
 go_enter Tryz.func62,Tryz.ntmps62
 go_wp2_with fail
 have hz0:(w.alloc (.cells #[.bool l,.bool r,.slice a xs.length cp] 34)).heap.size=w.heap.size+1:=sz_alloc _ _
 generalize w.alloc (.cells #[.bool l,.bool r,.slice a xs.length cp] 34)=W0 at *
 refine (unhide HX _ _ ((unhide Hv).below hb0 (Nat.le_refl _)) hlen).mono ?_
 rintro e w1 ⟨v1,rfl,hg1,hb1⟩
 have hz1:=hb1.size
 have HG1:=hide hg1
 obtain ⟨a1,c1,rfl⟩ := hg1.form
 have HB1:=hide (hb1.mono (show w.heap.size+1≤W0.heap.size by omega))
 have HB01:=hide (hb0.trans (hb1.mono (by omega)))
 clear hg1 hb1 hb0
 go_wp2_with fail
 refine (l1all_any _).mono ?_
 rintro e w2 ⟨v2,rfl,hs2,hb2⟩
 have hz2:=hb2.size
 have HS2:=hide hs2
 obtain ⟨a2,c2,rfl,-,-⟩ := id hs2
 have HG2:=hide ((unhide HG1).keep hb2 (Nat.le_refl _))
 have HB2:=hide ((unhide HB1).trans (hb2.mono (by omega)))
 have HB02:=hide ((unhide HB01).trans (hb2.mono (by omega)))
 clear hs2 hb2 HG1 HB1 HB01
 go_wp2_with fail
 refine (l1set_w _ [0,255] _ (unhide HS2) (by simp)).mono ?_
 rintro e w3 ⟨v3,rfl,hg3,hb3⟩
 have hz3:=hb3.size
 have HG3:=hide hg3
 obtain ⟨a3,c3,rfl⟩ := hg3.form
 have HG23:=hide ((unhide HG2).keep hb3 (Nat.le_refl _))
 have HB3:=hide ((unhide HB2).trans (hb3.mono (by omega)))
 have HB03:=hide ((unhide HB02).trans (hb3.mono (by omega)))
 clear hg3 hb3 HG2 HB2 HB02 HS2
 go_wp2_with fail
 refine (l1rep_w 0 (-1) _ [⟨1,[0,255],0,0⟩] _ ((unhide HG3).els (nice_set canon_all)) (by simp) (nice_set canon_all).len).mono ?_
 rintro e w4 ⟨v4,rfl,hg4,hb4⟩
 have hz4:=hb4.size
 have HG4:Hid (GrowE w3.heap.size w4 v4 allE):=hg4
 obtain ⟨a4,c4,rfl⟩ := hg4.form
 have HG24:=hide ((unhide HG23).keep hb4 (Nat.le_refl _))
 have HB4:=hide ((unhide HB3).trans (hb4.mono (by omega)))
 have HB04:=hide ((unhide HB03).trans (hb4.mono (by omega)))
 obtain ⟨k0,k1⟩ := unhide HC _ (unhide HB4)
 clear hg4 hb4 HG23 HG3 HB3 HB03
 have hAl:allE.length=2:=rfl
 cases l <;> cases r
 ·go_wp2_with fail
  refine (l1cat_w _ _ allE L _ ((unhide HG4).els nice_all) ((unhide HG24).els (unhide HN)) (by rw [hAl]; omega) (by omega) nice_all.len (unhide HN).len).mono ?_
  rintro e w5 ⟨v5,rfl,hg5,hb5⟩
  have hz5:=hb5.size
  obtain ⟨M,hM⟩ : ∃ M,M=allE ++ L ++ [⟨2,[],0,0⟩]:=⟨_,rfl⟩
  rw [← hM] at hg5
  have HG5:=hide hg5
  have HG45:=hide ((unhide HG4).keep hb5 (Nat.le_refl _))
  have h5l:M.length≤1003:=by rw [hM,List.length_append,List.length_append,hAl]; simp; omega
  obtain ⟨a5,c5,rfl⟩ := hg5.form
  have HB05:=hide ((unhide HB04).trans (hb5.mono (by omega)))
  obtain ⟨-,k5⟩ := unhide HC _ ((unhide HB4).trans (hb5.mono (by omega)))
  have HNM:Hid (Nice M):=by rw [hM]; exact nice_cat nice_all (unhide HN)
  have HM:=hide hM
  clear hg5 hb5 hM k0 k1
  go_wp2_with fail
  refine (l1cat_w _ _ M allE _ ((unhide HG5).els (unhide HNM)) ((unhide HG45).els nice_all) (by omega) (by rw [hAl]; omega) (unhide HNM).len nice_all.len).mono ?_
  rintro e w6 ⟨v6,rfl,hg6,hb6⟩
  obtain ⟨Y,hY⟩ : ∃ Y,Y=M ++ allE ++ [⟨2,[],0,0⟩]:=⟨_,rfl⟩
  rw [← hY] at hg6
  have HY:=hide hY
  have HG6:=hide hg6
  obtain ⟨a6,c6,rfl⟩ := hg6.form
  have HB06:=hide ((unhide HB05).trans (hb6.mono (by omega)))
  clear hg6 hb6 hY
  go_wp2
  go_ret
  have hfin:GrowE w.heap.size _ _ Y:=(unhide HG6).base (by omega)
  have hwl:Y=whL false false L:=(by rw [unhide HY,unhide HM]; rfl)
  exact ⟨_,rfl,by rw [← hwl]; exact hfin,unhide HB06⟩
 ·go_wp2_with fail
  refine (l1cat_w _ _ allE L _ ((unhide HG4).els nice_all) ((unhide HG24).els (unhide HN)) (by rw [hAl]; omega) (by omega) nice_all.len (unhide HN).len).mono ?_
  rintro e w5 ⟨v5,rfl,hg5,hb5⟩
  have hz5:=hb5.size
  obtain ⟨M,hM⟩ : ∃ M,M=allE ++ L ++ [⟨2,[],0,0⟩]:=⟨_,rfl⟩
  rw [← hM] at hg5
  have HG5:=hide hg5
  have HG45:=hide ((unhide HG4).keep hb5 (Nat.le_refl _))
  have h5l:M.length≤1003:=by rw [hM,List.length_append,List.length_append,hAl]; simp; omega
  obtain ⟨a5,c5,rfl⟩ := hg5.form
  have HB05:=hide ((unhide HB04).trans (hb5.mono (by omega)))
  obtain ⟨-,k5⟩ := unhide HC _ ((unhide HB4).trans (hb5.mono (by omega)))
  have HNM:Hid (Nice M):=by rw [hM]; exact nice_cat nice_all (unhide HN)
  have HM:=hide hM
  clear hg5 hb5 hM k0 k1
  go_wp2
  go_ret
  have hfin:GrowE w.heap.size _ _ M:=(unhide HG5).base (by omega)
  have hwl:M=whL false true L:=(unhide HM)
  exact ⟨_,rfl,by rw [← hwl]; exact hfin,unhide HB05⟩
 ·go_wp2_with fail
  refine (l1cat_w _ _ L allE _ ((unhide HG24).els (unhide HN)) ((unhide HG4).els nice_all) (by omega) (by rw [hAl]; omega) (unhide HN).len nice_all.len).mono ?_
  rintro e w6 ⟨v6,rfl,hg6,hb6⟩
  obtain ⟨Y,hY⟩ : ∃ Y,Y=L ++ allE ++ [⟨2,[],0,0⟩]:=⟨_,rfl⟩
  rw [← hY] at hg6
  have HY:=hide hY
  have HG6:=hide hg6
  obtain ⟨a6,c6,rfl⟩ := hg6.form
  have HB06:=hide ((unhide HB04).trans (hb6.mono (by omega)))
  clear hg6 hb6 hY
  go_wp2
  go_ret
  have hfin:GrowE w.heap.size _ _ Y:=(unhide HG6).base (by omega)
  have hwl:Y=whL true false L:=(unhide HY)
  exact ⟨_,rfl,by rw [← hwl]; exact hfin,unhide HB06⟩
 ·go_wp2
  go_ret
  have hfin:GrowE w.heap.size _ _ L:=(unhide HG24).base (by omega)
  have hwl:L=whL true true L:=rfl
  exact ⟨_,rfl,by rw [← hwl]; exact hfin,unhide HB04⟩
def FootL (v:Value) (ps:List (Cl Int)) (k:Nat):Prop:=v.ownBlock=some k∨∃ p ∈ ps,0<p.xs.length∧k=p.b
abbrev LI (base:Nat) (w:World) (v:Value) (ps:List (Cl Int)):Prop:=LL mI 0 3 26 base w v ps
theorem is_ne:26 ≠ 3:=by decide
section
variable {base:Nat} {w w':World} {v:Value} {ps:List (Cl Int)}
theorem LI.lt (h:LI base w v ps) {k:Nat} (hk:FootL v ps k):base≤k∧k<w.heap.size:=by
 rcases hk with hk | ⟨p,hp,h0,rfl⟩
 ·exact h.own.lt k hk
 ·exact ⟨h.lo p hp h0,(h.ok p hp).lt h0⟩
theorem LI.keepF (h:LI base w v ps) (e:∀ k,FootL v ps k→w'.heap[k]? = w.heap[k]?):LI base w' v ps :=
 ⟨own_blk h.own (fun q hq => e q (Or.inl hq)),fun p hp => (h.ok p hp).same (fun h0 => e _ (Or.inr ⟨p,hp,h0,rfl⟩)),h.lo,h.apart⟩
theorem LI.footX (h:LI base w v ps) (_:ps.length≤maxLen):SsF mI 0 (FootL v ps) w v (ps.map Cl.xs):=by
 have hlen:=h.own.1
 rcases h.own.2 with ⟨rfl,hz⟩ | ⟨g,cap,cur,rfl,hbg,hg,hnc,hcm,hcs,htake⟩
 ·have:ps = []:=List.eq_nil_of_length_eq_zero hz
  subst this
  exact SsF.nil _ _ _ _ _ _ (Nat.zero_le _)
 ·have hget:∀ i:Nat,i<ps.length→∃ p,ps[i]? = some p∧p ∈ ps:=fun i hi => ⟨ps[i],by simp [hi],List.getElem_mem hi⟩
  refine ⟨some ⟨g,0,none⟩,cap,by rw [List.length_map],⟨by rw [List.length_map]; exact hnc,hcm⟩,fun _ => ⟨g,0,fun i => ((ps[i]?).map Cl.v).getD undef,fun i k => ∃ p,ps[i]? = some p∧0<p.xs.length∧k=p.b,rfl,Or.inl rfl,⟨cur,_,hg⟩,fun i hi => ?_,fun i hi => ?_,fun i hi k hk => ?_,fun i j hi hj hne k hk hk' => ?_⟩⟩
  ·rw [List.length_map] at hi
   obtain ⟨p,hp,-⟩ := hget i hi
   show w.cell? ⟨g,0+i,none⟩ = some (((ps[i]?).map Cl.v).getD undef)
   rw [Nat.zero_add,h.own.cellAt i (by omega),List.getElem?_map,hp]
   rfl
  ·rw [List.length_map] at hi
   obtain ⟨p,hp,hm⟩ := hget i hi
   have e1:((ps[i]?).map Cl.v).getD undef=p.v:=by rw [hp]; rfl
   have e2:((ps.map Cl.xs)[i]?).getD []=p.xs:=by rw [List.getElem?_map,hp]; rfl
   show SlF mI 0 _ w (((ps[i]?).map Cl.v).getD undef) (((ps.map Cl.xs)[i]?).getD [])∧CapOk (((ps[i]?).map Cl.v).getD undef)
   rw [e1,e2]
   exact ⟨(h.ok p hm).foot.mono (fun k hk => ⟨p,hp,hk.1,hk.2⟩),(h.ok p hm).cap⟩
  ·obtain ⟨p,hp,hp0,rfl⟩ := hk
   have hm:p ∈ ps:=List.mem_of_getElem? hp
   refine ⟨Or.inr ⟨p,hm,hp0,rfl⟩,fun e1 => ?_⟩
   exact h.not_row is_ne (h.ok p hm) rfl hp0 (by rw [e1]; rfl)
  ·obtain ⟨p,hp,hp0,rfl⟩ := hk
   obtain ⟨q,hq,hq0,e1⟩ := hk'
   have hi':=(List.getElem?_eq_some_iff.1 hp).1
   have hj':=(List.getElem?_eq_some_iff.1 hq).1
   have hpi:=(List.getElem?_eq_some_iff.1 hp).2
   have hqj:=(List.getElem?_eq_some_iff.1 hq).2
   rcases Nat.lt_or_gt_of_ne hne with hlt | hgt
   ·have:=List.pairwise_iff_getElem.1 h.apart i j hi' hj' hlt
    rw [hpi,hqj] at this
    exact this hp0 hq0 e1
   ·have:=List.pairwise_iff_getElem.1 h.apart j i hj' hi' hgt
    rw [hpi,hqj] at this
    exact this hq0 hp0 e1.symm
theorem LI.pushed {W w7:World} {g cap:Nat} {p:Cl Int} (h:LI base w v ps) (hbase:base≤w.heap.size) (hp:p.ok mI 0 3 w) (hplo:0<p.xs.length→base≤p.b) (hnew:∀ q ∈ ps,0<q.xs.length→0<p.xs.length→q.b ≠ p.b) (hP:Pushd w W (.cells #[p.v] 26))
  (r1:w7.ownsRow base 26 1 (.slice (some ⟨g,0,none⟩) (ps.length+1) cap) (ps.length+1) (ps.map Cl.v ++ [p.v])) (r2:W.grownBy w7 v.ownBlock) (r3:v.ownBlock=some g∨g=w.heap.size+1) :
  LI base w7 (.slice (some ⟨g,0,none⟩) (ps.length+1) cap) (ps ++ [p])∧FrO (fun k => v.ownBlock=some k∨w.heap.size≤k) w w7∧∀ k,FootL (.slice (some ⟨g,0,none⟩) (ps.length+1) cap) (ps ++ [p]) k→FootL v ps k∨(0<p.xs.length∧k=p.b)∨w.heap.size≤k:=by
 obtain ⟨a,-⟩ := LL.app is_ne h hbase hp hplo hnew hP r1 r2
 have hz:=hP.size
 have hz7:=r2.size
 refine ⟨a,⟨r2.os.trans hP.below.os,r2.tape.trans hP.below.tape,r2.output.trans hP.below.output,by omega,fun k hk => ?_⟩,fun k hk => ?_⟩
 ·have h1:k<w.heap.size:=by apply Nat.lt_of_not_le; intro e; exact hk (Or.inr e)
  exact (r2.block k (by omega) (fun e => hk (Or.inl e.symm))).trans (hP.old h1)
 ·rcases hk with hk | ⟨q,hq,h0,rfl⟩
  ·have e:g=k:=Option.some.inj hk
   rcases r3 with r3 | r3
   ·exact Or.inl (Or.inl (by rw [r3,e]))
   ·exact Or.inr (Or.inr (by omega))
  ·rcases List.mem_append.1 hq with hq | hq
   ·exact Or.inl (Or.inr ⟨q,hq,h0,rfl⟩)
   ·rw [List.mem_singleton] at hq
    subst hq
    exact Or.inr (Or.inl ⟨h0,rfl⟩)
end
theorem Tryz.zinIS:(Tryz.prog.info? 26).map (fun i => (i.zero,i.size,i.bytes))=some (some (.slice none 0 0),1,24):=by kernel_rfl
theorem app_list {ops:Array Oper} {rest:List Oper} {o:Oper} {a:Act} {Q:Exit→Act→World→Prop} (hgd:o.guard=none) (s y:Operand) (ho:o.op = .call { callee:=.builtin .append,args:=#[s,y],argTypes:=#[68,68] })
  {base:Nat} {w W:World} {v:Value} {ps:List (Cl Int)} {p:Cl Int} (h:LI base w v ps) (hs:a.eval s=v) (hbase:base≤w.heap.size) (hp:p.ok mI 0 3 w) (hplo:0<p.xs.length→base≤p.b) (hnew:∀ q ∈ ps,0<q.xs.length→0<p.xs.length→q.b ≠ p.b) (hP:Pushd w W (.cells #[p.v] 26))
  (hy:a.eval y = .slice (some ⟨w.heap.size,0,none⟩) 1 1) (hl:ps.length≤1048576)
  (K:∀ g cap w7,LI base w7 (.slice (some ⟨g,0,none⟩) (ps.length+1) cap) (ps ++ [p])→FrO (fun k => v.ownBlock=some k∨w.heap.size≤k) w w7→(∀ k,FootL (.slice (some ⟨g,0,none⟩) (ps.length+1) cap) (ps ++ [p]) k→FootL v ps k∨(0<p.xs.length∧k=p.b)∨w.heap.size≤k)→wpList Tryz.prog ops Q rest (a.put o.dst (.slice (some ⟨g,0,none⟩) (ps.length+1) cap)) w7):wpList Tryz.prog ops Q (o :: rest) a W:=by
 obtain ⟨j0,hj,hy0,hy1,hy2⟩ := info_parts Tryz.zinIS
 have hz:=hP.size
 refine wpList_append_own_at W hgd s y 68 ho base 26 j0 (.slice none 0 0) 1 24 Tryz.underlying68 hj hy0 hy1 hy2 rfl (by decide) v ps.length (ps.map Cl.v) hs (hP.own h.own) ⟨w.heap.size,0,none⟩ 1 1 [p.v] hy rfl (Pushd.news hP) (fun u hu => by rw [List.mem_singleton] at hu; subst hu; exact hp.one) (by unfold maxLen; omega) (by omega) (by omega) ?_
 intro v' w7 r1 r2 _ r3
 obtain ⟨g,cap,rfl⟩ := own_some r1 (by omega)
 obtain ⟨q1,q2,q3⟩ := h.pushed hbase hp hplo hnew hP r1 r2 (r3.imp (fun e => e.symm) (fun e => by have:=Option.some.inj e; exact this.trans hz))
 exact K g cap w7 q1 q2 q3
def auF (s:Value) (b:Bool) (f l k:Value):Nat→Value:=fun j => if j=0 then s else if j=1 then .bool b else if j=2 then f else if j=3 then l else k
def Row5 (w:World) (D:Nat) (s:Value) (b:Bool) (f l k:Value):Prop:=w.rowIs D 70 5 (auF s b f l k)
theorem Row5.new (w:World) (s:Value) (b:Bool) (f l k:Value):Row5 (w.alloc (.cells #[s,.bool b,f,l,k] 70)) w.heap.size s b f l k:=by
 refine World.rowIs_alloc w #[s,.bool b,f,l,k] 70 _ (fun i hi => ?_)
 match i,hi with
 | 0,_ => rfl
 | 1,_ => rfl
 | 2,_ => rfl
 | 3,_ => rfl
 | 4,_ => rfl
theorem Row5.put0 {w:World} {D:Nat} {s f l k:Value} {b:Bool} (h:Row5 w D s b f l k) (s':Value):Row5 (w.setCell ⟨D,0,none⟩ s') D s' b f l k:=by
 refine World.rowIs.congr (World.rowIs.set h 0 _) (fun j hj => ?_)
 match j,hj with
 | 0,_ => simp [auF]
 | 1,_ => simp [auF]
 | 2,_ => simp [auF]
 | 3,_ => simp [auF]
 | 4,_ => simp [auF]
theorem Row5.put1 {w:World} {D:Nat} {s f l k:Value} {b:Bool} (h:Row5 w D s b f l k) (b':Bool):Row5 (w.setCell ⟨D,1,none⟩ (.bool b')) D s b' f l k:=by
 refine World.rowIs.congr (World.rowIs.set h 1 _) (fun j hj => ?_)
 match j,hj with
 | 0,_ => simp [auF]
 | 1,_ => simp [auF]
 | 2,_ => simp [auF]
 | 3,_ => simp [auF]
 | 4,_ => simp [auF]
theorem Row5.put2 {w:World} {D:Nat} {s f l k:Value} {b:Bool} (h:Row5 w D s b f l k) (f':Value):Row5 (w.setCell ⟨D,2,none⟩ f') D s b f' l k:=by
 refine World.rowIs.congr (World.rowIs.set h 2 _) (fun j hj => ?_)
 match j,hj with
 | 0,_ => simp [auF]
 | 1,_ => simp [auF]
 | 2,_ => simp [auF]
 | 3,_ => simp [auF]
 | 4,_ => simp [auF]
theorem Row5.put3 {w:World} {D:Nat} {s f l k:Value} {b:Bool} (h:Row5 w D s b f l k) (l':Value):Row5 (w.setCell ⟨D,3,none⟩ l') D s b f l' k:=by
 refine World.rowIs.congr (World.rowIs.set h 3 _) (fun j hj => ?_)
 match j,hj with
 | 0,_ => simp [auF]
 | 1,_ => simp [auF]
 | 2,_ => simp [auF]
 | 3,_ => simp [auF]
 | 4,_ => simp [auF]
theorem Row5.put4 {w:World} {D:Nat} {s f l k:Value} {b:Bool} (h:Row5 w D s b f l k) (k':Value):Row5 (w.setCell ⟨D,4,none⟩ k') D s b f l k':=by
 refine World.rowIs.congr (World.rowIs.set h 4 _) (fun j hj => ?_)
 match j,hj with
 | 0,_ => simp [auF]
 | 1,_ => simp [auF]
 | 2,_ => simp [auF]
 | 3,_ => simp [auF]
 | 4,_ => simp [auF]
theorem Row5.on {w w':World} {D:Nat} {s f l k:Value} {b:Bool} (h:Row5 w D s b f l k) (e:w'.heap[D]? = w.heap[D]?):Row5 w' D s b f l k:=World.rowIs.of_block h e
theorem Row5.lt {w:World} {D:Nat} {s f l k:Value} {b:Bool} (h:Row5 w D s b f l k):D<w.heap.size:=World.rowIs.lt h
theorem Row5.facts {w:World} {D:Nat} {s f l k:Value} {b:Bool} (h:Row5 w D s b f l k):w.cell? ⟨D,0,none⟩ = some s∧w.cell? ⟨D,1,none⟩ = some (.bool b)∧w.cell? ⟨D,2,none⟩ = some f∧w.cell? ⟨D,3,none⟩ = some l∧w.cell? ⟨D,4,none⟩ = some k :=
 ⟨World.rowIs.cell h (i:=0) (by omega),World.rowIs.cell h (i:=1) (by omega),World.rowIs.cell h (i:=2) (by omega),World.rowIs.cell h (i:=3) (by omega),World.rowIs.cell h (i:=4) (by omega)⟩
theorem Row5.blk {w:World} {D:Nat} {s f l k:Value} {b:Bool} (h:Row5 w D s b f l k):w.heap[D]? = some (.cells #[s,.bool b,f,l,k] 70):=by
 obtain ⟨cur,h1,h2,h3⟩ := h
 rw [h1]
 congr 2
 refine Array.ext (by rw [h2]; rfl) (fun i hi hj => ?_)
 have h4:=h3 i (by omega)
 rw [Array.getElem?_eq_getElem hi] at h4
 rw [Option.some.inj h4]
 have hi2:i<5:=by omega
 match i,hi2 with
 | 0,_ => rfl
 | 1,_ => rfl
 | 2,_ => rfl
 | 3,_ => rfl
 | 4,_ => rfl
theorem row5_of {w:World} {D:Nat} {s f l k:Value} {b:Bool} (h:w.heap[D]? = some (.cells #[s,.bool b,f,l,k] 70)):Row5 w D s b f l k:=by
 refine ⟨_,h,rfl,fun i hi => ?_⟩
 match i,hi with
 | 0,_ => rfl
 | 1,_ => rfl
 | 2,_ => rfl
 | 3,_ => rfl
 | 4,_ => rfl
theorem Row5.row {w:World} {D:Nat} {s0 f0 l0 k0:Value} {b0:Bool} (h:Row5 w D s0 b0 f0 l0 k0) (s:Value) (b:Bool) (f l k:Value):Row5 (w.setRow D #[s,.bool b,f,l,k]) D s b f l k:=row5_of (setRow_heap w D _ _ _ _ h.blk)
theorem all5 (b:Bool) (a1 a2 a3 a4:Option Addr) (n1 n2 n3 n4 c1 c2 c3 c4:Nat):(#[.slice a1 n1 c1,.bool b,.slice a2 n2 c2,.slice a3 n3 c3,.slice a4 n4 c4]:Array Value).all (·.oneCell')=true:=by kernel_rfl
theorem au_ret {w:World} {B:Nat} {s f l k:Value} {b:Bool} (h:Row5 w B s b f l k) {fn:Func} {p:Tmp} (hr:fn.results = #[.cell p 70]) (tmps:Array Value) (hp:tmps.getD p undef = .pointer (some ⟨B,0,none⟩)):(results fn tmps).run Tryz.prog w = .ok (.agg #[s,.bool b,f,l,k]) w :=
 results_cell_row hr tmps w B _ _ _ _ hp h.blk Tryz.underlying70 rfl (by kernel_rfl)
def folR (K:List Lk) (n i:Nat):List Int:=((List.range n).filter (mkd K i)).map (fun j:Nat => (j:Int))
def folL (K:List Lk) (n:Nat):List (List Int):=(List.range n).map (folR K n)
def AnsA (l r:Bool) (xs:List El) (S:List (List Int)) (b:Bool) (F L:List Int) (W:List (List Int)):Prop :=
 (ValidT xs∧∃ L0 a ln ss,SegX xs L0∧L0.length≤1000∧SegO (whL l r L0) (lvs (whL l r L0)) a ln ss∧S=setsOf (whL l r L0)∧b=a.nl∧F=edg a false 0∧L=edg a true 0∧W=folL ln (lvs (whL l r L0)))∨(¬ ValidT xs∧S = []∧b=false∧F = []∧L = []∧W = [])
theorem sh0 (a:It):a.sh 0=a:=by obtain ⟨b,f,l⟩ := a; simp [It.sh]
theorem shL0b (ln:List Lk):shL 0 ln=ln:=by unfold shL; simp
theorem AnsA.one {l r:Bool} {xs:List El} {S S':List (List Int)} {b b':Bool} {F F' L L':List Int} {W W':List (List Int)} (h:AnsA l r xs S b F L W) (k:AnsA l r xs S' b' F' L' W'):S=S'∧b=b'∧F=F'∧L=L'∧W=W':=by
 rcases h with ⟨h1,L0,a,ln,ss,h2,-,h3,rfl,rfl,rfl,rfl,rfl⟩ | ⟨h1,rfl,rfl,rfl,rfl,rfl⟩ <;> rcases k with ⟨k1,M0,a',ln',ss',k2,-,k3,rfl,rfl,rfl,rfl,rfl⟩ | ⟨k1,rfl,rfl,rfl,rfl,rfl⟩
 ·obtain rfl:=h2.one k2
  obtain ⟨-,e1,e2,-⟩ := h3.one k3
  rw [sh0,sh0] at e1
  rw [shL0b,shL0b] at e2
  subst e1 e2
  exact ⟨rfl,rfl,rfl,rfl,rfl⟩
 ·exact absurd h1 k1
 ·exact absurd k1 h1
 ·exact ⟨rfl,rfl,rfl,rfl,rfl⟩
def AutoV (w:World) (v:Value) (S:List (List Int)) (b:Bool) (F L:List Int) (W:List (List Int)):Prop :=
 ∃ sv fv lv wv,v = .agg #[sv,.bool b,fv,lv,wv]∧SsAt mI 0 w.heap.size w sv S∧SlAt mI 0 0 w.heap.size w fv F∧SlAt mI 0 0 w.heap.size w lv L∧SsAt mI 0 w.heap.size w wv W
theorem app_int1 {ops:Array Oper} {rest:List Oper} {o:Oper} {a:Act} {Q:Exit→Act→World→Prop} (hgd:o.guard=none) (s y:Operand) (ho:o.op = .call { callee:=.builtin .append,args:=#[s,y],argTypes:=#[26,26] })
  {base:Nat} {w W:World} {v:Value} {os:List Int} {u:Int} (h:w.ownsRow base 3 1 v os.length (os.map mI)) (hs:a.eval s=v) (hbase:base≤w.heap.size) (hP:Pushd w W (.cells #[.int .i64 u] 3))
  (hy:a.eval y = .slice (some ⟨w.heap.size,0,none⟩) 1 1) (hl:os.length≤1048576)
  (K:∀ v' w7,w7.ownsRow base 3 1 v' (os ++ [u]).length ((os ++ [u]).map mI)→Below base w w7→wpList Tryz.prog ops Q rest (a.put o.dst v') w7):wpList Tryz.prog ops Q (o :: rest) a W:=by
 obtain ⟨j0,hj,hy0,hy1,hy2⟩ := info_parts Tryz.zinInt
 have hz:=hP.size
 refine wpList_append_own_at W hgd s y 26 ho base 3 j0 (.int .i64 0) 1 8 Tryz.underlying26 hj hy0 hy1 hy2 rfl (by decide) v os.length (os.map mI) hs (hP.own h) ⟨w.heap.size,0,none⟩ 1 1 [.int .i64 u] hy rfl (Pushd.news hP) (fun x hx => by rw [List.mem_singleton] at hx; subst hx; rfl) (by unfold maxLen; omega) (by omega) (by omega) ?_
 intro v' w7 r1 r2 _ _
 obtain ⟨q1,q2⟩ := grow_int h hbase hP r1 r2
 exact K v' w7 q1 q2
theorem Mx.on {w w':World} {G n:Nat} {f:Nat→Nat→Bool} (h:Mx w G n f) (e:∀ k,G≤k→k<G+1+n→w'.heap[k]? = w.heap[k]?):Mx w' G n f :=
 ⟨h.top.of_block (e G (Nat.le_refl _) (by omega)),fun i hi => (h.row i hi).of_block (e _ (by omega) (by omega))⟩
theorem setsOf_next {M:List El} {k:Nat} (h:k<M.length):setsOf (M.take (k+1))=setsOf (M.take k) ++ (if (M[k]?.getD dE).kind=1 then [(M[k]?.getD dE).set] else []):=by
 have key:∀ (A B:List El),setsOf (A ++ B)=setsOf A ++ setsOf B:=by
  intro A B
  induction A with
  | nil => rfl
  | cons x r ih => simp [setsOf,ih]
 rw [take_next h,key]
 simp [setsOf]
theorem folR_next (K:List Lk) (i j:Nat):((List.range (j+1)).filter (mkd K i)).map (fun j:Nat => (j:Int))=((List.range j).filter (mkd K i)).map (fun j:Nat => (j:Int)) ++ (if mkd K i j then [(j:Int)] else []):=by
 rw [List.range_succ,List.filter_append,List.map_append]
 congr 1
 by_cases h:mkd K i j=true
 ·simp [h]
 ·simp [h]
theorem folL_next (K:List Lk) (n i:Nat) (h:i<n):(folL K n).take (i+1)=(folL K n).take i ++ [folR K n i]:=by
 unfold folL
 rw [List.take_add_one]
 simp [h]
set_option maxHeartbeats 16000000 in
set_option maxRecDepth 100000 in
theorem specPos_any (l r:Bool) (v:Value) (xs:List El) (w:World) (hv:ElsAt 0 w.heap.size w v xs) :
  Calls Tryz.prog 33 #[.agg #[.bool l,.bool r,v]] w fun e w' => ∃ v' S b F L W,e = .returned v'∧AnsA l r xs S b F L W∧AutoV w' v' S b F L W∧Below w.heap.size w w':=by
 obtain ⟨a,cp,rfl,-,-⟩ := id hv
 have Hv:=hide hv
 obtain ⟨W0,hW0⟩ : ∃ W0,W0=(w.alloc (.cells #[.bool l,.bool r,.slice a xs.length cp] 34)).alloc (.cells #[.slice none 0 0,.bool false,.slice none 0 0,.slice none 0 0,.slice none 0 0] 70):=⟨_,rfl⟩
 have hz0:W0.heap.size=w.heap.size+2:=by rw [hW0,sz_alloc,sz_alloc]
 have hb0:Below w.heap.size w W0:=by rw [hW0]; exact below2 w _ _
 have HC:Hid (∀ W,Below (w.heap.size+2) W0 W→W.cell? ⟨w.heap.size,0,none⟩ = some (.bool l)∧W.cell? ⟨w.heap.size,1,none⟩ = some (.bool r)∧W.cell? ⟨w.heap.size,2,none⟩ = some (.slice a xs.length cp)):=fun W hW => by
  have hW1:Below (w.heap.size+1) (w.alloc (.cells #[.bool l,.bool r,.slice a xs.length cp] 34)) W:=by
   have:=(below1 (w.alloc (.cells #[.bool l,.bool r,.slice a xs.length cp] 34)) (.cells #[.slice none 0 0,.bool false,.slice none 0 0,.slice none 0 0,.slice none 0 0] 70))
   rw [sz_alloc,← hW0] at this
   exact this.trans (hW.mono (by omega))
  exact ⟨(hW1.cell (p:=⟨w.heap.size,0,none⟩) (Nat.lt_succ_self _)).trans ((pushd_alloc w _).news 0 _ rfl),(hW1.cell (p:=⟨w.heap.size,1,none⟩) (Nat.lt_succ_self _)).trans ((pushd_alloc w _).news 1 _ rfl),(hW1.cell (p:=⟨w.heap.size,2,none⟩) (Nat.lt_succ_self _)).trans ((pushd_alloc w _).news 2 _ rfl)⟩
 have HR:Hid (Row5 W0 (w.heap.size+1) (.slice none 0 0) false (.slice none 0 0) (.slice none 0 0) (.slice none 0 0)):=by
  have:=Row5.new (w.alloc (.cells #[.bool l,.bool r,.slice a xs.length cp] 34)) (.slice none 0 0) false (.slice none 0 0) (.slice none 0 0) (.slice none 0 0)
  rw [sz_alloc,← hW0] at this
  exact this
 have HW0:=hide hW0
 clear hv hW0
 go_enter Tryz.func33,Tryz.ntmps33
 go_wp2_with fail
 rw [← unhide HW0]
 clear HW0
 refine (specValid_any l r _ xs _ ((unhide Hv).below hb0 (Nat.le_refl _))).mono ?_
 rintro e w1 ⟨hret,hb1⟩
 have hz1:=hb1.size
 have HB1:=hide (hb1.mono (show w.heap.size+2≤W0.heap.size by omega))
 have HB01:=hide (hb0.trans (hb1.mono (by omega)))
 have HR1:=hide ((unhide HR).on ((unhide HB1).block _ (by omega)))
 clear hb1 hb0 HR
 rcases hret.cases with ⟨rfl,hok⟩ | ⟨rfl,hbad⟩
 ·obtain ⟨k0,k1,k2⟩ := unhide HC _ (unhide HB1)
  obtain ⟨L0,hx,hn,hl,hsx,⟨U,hpos⟩,-⟩ := valid_q closPos hok
  -- what the model finds at the whole list
  have hwh:∃ U',PosS U' (whL l r L0):=by
   obtain ⟨g,hg⟩ := words_ex canon_all
   unfold whL
   cases l <;> cases r
   ·exact ⟨_,closPos.cat (closPos.cat (closPos.all hg) hpos) (closPos.all hg)⟩
   ·exact ⟨_,closPos.cat (closPos.all hg) hpos⟩
   ·exact ⟨_,closPos.cat hpos (closPos.all hg)⟩
   ·exact ⟨_,hpos⟩
  have hMl:=whL_len l r L0
  have HNM:=hide (nice_wh l r hn)
  have HL2:=hide (l2whole_any l r (.slice a xs.length cp) xs L0 w1 ((unhide Hv).below (unhide HB01) (Nat.le_refl _)) hok.1.2 hx hn hl)
  obtain ⟨M,hM⟩ : ∃ M,M=whL l r L0:=⟨_,rfl⟩
  rw [← hM] at hwh hMl HNM HL2
  obtain ⟨U',A,ln,ss,c,-,hnu,hed,hso,hbd,hasc,hsm,hall⟩ := hwh
  have HANS:Hid (AnsA l r xs (setsOf M) A.nl (edg A false 0) (edg A true 0) (folL ln (lvs M))):=Or.inl ⟨hok,L0,A,ln,ss,hsx,hl,by rw [← hM]; exact hso,by rw [← hM],rfl,rfl,rfl,by rw [← hM]⟩
  have HNU:=hide hnu
  have HED:=hide hed
  have HSM:=hide hsm
  have HALL:=hide hall
  have HLN:Hid ((oRun ini M).ln=ln):=by
   show (oRun ini M).ln=ln
   rw [hso ini]
   simp [ini,shL0b]
  have hMl2:M.length≤1006:=by omega
  have hlv:=lvs_le M
  clear hret hok hx hn hsx hpos hM hMl hnu hed hso hbd hasc hsm hall hl
  go_wp2_with fail
  refine (unhide HL2).mono ?_
  rintro e w2 ⟨v2,rfl,hg2,hb2⟩
  have hz2:=hb2.size
  have HEL:=hide (hg2.els (unhide HNM))
  obtain ⟨a2,c2,rfl⟩ := hg2.form
  have HB2:=hide ((unhide HB1).trans (hb2.mono (by omega)))
  have HB02:=hide ((unhide HB01).trans (hb2.mono (by omega)))
  have HR2:=hide ((unhide HR1).on (hb2.block _ (by omega)))
  clear hg2 hb2 HL2 k0 k1 k2 HB1 HB01 HR1
  have hr3:=Row5.new w2 (.slice none 0 0) false (.slice none 0 0) (.slice none 0 0) (.slice none 0 0)
  have hb3:=below1 w2 (.cells #[.slice none 0 0,.bool false,.slice none 0 0,.slice none 0 0,.slice none 0 0] 70)
  go_wp2_with fail
  go_loopw [5] (fun iv wr => ∃ (k:Nat) (sv:Value) (ps:List (Cl Int)),k≤M.length∧iv = .int .i64 k∧Row5 wr w2.heap.size sv false (.slice none 0 0) (.slice none 0 0) (.slice none 0 0)∧LI (w2.heap.size+1) wr sv ps∧ps.map Cl.xs=setsOf (M.take k)∧Below w2.heap.size w2 wr) (fun iv _ => M.length - (intOf iv).toNat)
  case atStart => exact ⟨0,_,[],Nat.zero_le _,rfl,hr3,LL.nil,rfl,hb3⟩
  case round =>
   clear hr3 hb3
   obtain ⟨k,sv,ps,hk,rfl,hrow,hli,hps,hb⟩ := hrel
   have hszr:=hrow.lt
   by_cases hlt:k<M.length
   ·have hlt':(k:Int)<(M.length:Int):=by omega
    obtain ⟨x1,x2,e9,-,hc⟩ := id (unhide HEL)
    cases e9
    obtain ⟨b,off,rfl,-,hbn,hel⟩ := hc (by omega)
    obtain ⟨i1,i2,i3,sv',c0,c1,c2',c3,hints⟩ := (hel k hlt).same (Same.of_below hb (Nat.le_refl _)) (Nat.zero_le _) hbn
    have hsk:=(unhide HNM).len k
    have Hsv:=hide (ints_sl (hints.mono (Nat.le_refl _) hb.size))
    have HNX:=hide (setsOf_next hlt)
    generalize M[k]?.getD dE=x at *
    obtain ⟨sa',sc',rfl,-,-,-⟩ := id hints
    obtain ⟨sa,sc,rfl⟩ := own_is hli.own
    have hpl:ps.length≤1006:=by
     have h1:=congrArg List.length hps
     rw [List.length_map,setsOf_len] at h1
     have h2:=lvs_le (M.take k)
     rw [List.length_take] at h2
     omega
    have hbw:b<wr.heap.size:=by omega
    have HLI:=hide hli
    have HPS:=hide hps
    have HRW:=hide hrow
    have HBB:=hide hb
    clear hel hc hints i1 i2 i3 hli hps hrow hb c2' c3
    by_cases hq:x.kind=1
    ·go_wp2_with (first
      | (at_builtin; refine app_ints_own rfl _ _ rfl rfl _ rfl x.set (unhide Hsv) hsk ?_; intro sv1 w3 hb3 hown h1c; obtain ⟨pb,hpok,hplo⟩ := own_cl hown; obtain ⟨s1,s2,rfl⟩ := own_is hown; have hz3:=hb3.size; have HP:=hide hpok; have HPL:=hide hplo; have HB3:=hide hb3; have HLI3:=hide ((unhide HLI).keep hb3 (Nat.le_refl _)); have HR3:=hide ((unhide HRW).on (hb3.block _ (by omega))); obtain ⟨f0,f1,f2,f3,f4⟩ := (unhide HR3).facts; clear hown h1c hpok hplo hb3)
      | (at_builtin; refine app_list rfl _ _ rfl (p:=⟨.slice s1 x.set.length s2,x.set,pb⟩) (unhide HLI3) rfl (by omega) (unhide HP) (fun h0 => by have:=unhide HPL h0; show w2.heap.size+1≤pb; omega) (fun q hq h0 h1 => by have h2:=unhide HPL h1; have h3:=((unhide HLI).ok q hq).lt h0; show q.b ≠ pb; omega) (pushd_alloc w3 _) rfl (by omega) ?_; intro g cap w7 q1 q2 q3; have hnD:¬ ((Value.slice sa ps.length sc).ownBlock=some w2.heap.size∨w3.heap.size≤w2.heap.size):=(by rintro (h | h); (have:=((unhide HLI).own.lt _ h).1; omega); omega); have HR7:=hide ((unhide HR3).on (q2.block _ hnD)); have HQ1:=hide q1; have HQ2:=hide q2; obtain ⟨g0,-,-,-,-⟩ := (unhide HR7).facts; have y0:=World.rowIs.frozen (unhide HR7) 0; clear q1 q2 q3 hnD))
     go_roundw
     case rel =>
      refine ⟨k+1,_,ps ++ [⟨.slice s1 x.set.length s2,x.set,pb⟩],by omega,by go_num,(unhide HR7).put0 _,?_,?_,?_⟩
      ·exact (unhide HQ1).keepF (fun j hj => Below.heap_setCell _ _ _ _ (by have:=(LI.lt (unhide HQ1) hj).1; show j ≠ w2.heap.size; omega))
      ·rw [List.map_append,unhide HPS,unhide HNX,if_pos hq]; rfl
      ·refine bput ((unhide HBB).trans (((unhide HB3).mono (by omega)).trans ((unhide HQ2).below (fun j hj => ?_)))) (Nat.le_refl _) _
       rintro (h | h)
       ·have:=((unhide HLI).own.lt _ h).1; omega
       ·omega
     case measure => simp [intOf]; omega
    ·go_wp2
     go_roundw
     case rel => exact ⟨k+1,_,ps,by omega,by go_num,unhide HRW,unhide HLI,by rw [unhide HPS,unhide HNX,if_neg hq,List.append_nil],unhide HBB⟩
     case measure => simp [intOf]; omega
   ·obtain rfl:k=M.length:=by omega
    rw [List.take_length] at hps
    obtain ⟨sa,sc,rfl⟩ := own_is hli.own
    have HPS:=hide hps
    have HLI:=hide hli
    have HRW:=hide hrow
    have HB:=hide hb
    clear hps hli hrow hb
    go_wp2_with fail
    refine (unhide HNU _ _ ((unhide HEL).below (unhide HB) (Nat.le_refl _)) (by omega)).mono ?_
    rintro e w4 ⟨rfl,hb4⟩
    have hz4:=hb4.size
    have hr4:=(unhide HRW).on (hb4.block _ (by omega))
    have HLI5:Hid (LI (w2.heap.size+1) (w4.setCell ⟨w2.heap.size,1,none⟩ (.bool A.nl)) (.slice sa ps.length sc) ps):=LI.keepF ((unhide HLI).keep hb4 (Nat.le_refl _)) (fun j hj => Below.heap_setCell _ _ _ _ (by have:=(LI.lt (unhide HLI) hj).1; show j ≠ w2.heap.size; omega))
    have HR5:=hide (hr4.put1 A.nl)
    have HB5:=hide (bput ((unhide HB).trans (hb4.mono (by omega))) (Nat.le_refl _) (o:=1) (.bool A.nl))
    obtain ⟨-,g1,-,-,-⟩ := hr4.facts
    have y1:=World.rowIs.frozen hr4 1
    have hz5:(w4.setCell ⟨w2.heap.size,1,none⟩ (.bool A.nl)).heap.size=w4.heap.size:=sz_put _ _ _
    clear hb4 hr4 HLI HRW HB HNU
    go_wp2_with fail
    generalize w4.setCell ⟨w2.heap.size,1,none⟩ (.bool A.nl)=w5 at *
    have HSL:=hide (unhide HANS)
    obtain ⟨F,hF⟩ : ∃ F,F=edg A false 0:=⟨_,rfl⟩
    obtain ⟨Z,hZ⟩ : ∃ Z,Z=edg A true 0:=⟨_,rfl⟩
    have hFl:F.length≤1006:=by have:=edg_len (unhide HED) false 0; rw [← hF] at this; omega
    have hZl:Z.length≤1006:=by have:=edg_len (unhide HED) true 0; rw [← hZ] at this; omega
    have hE5:=(unhide HED).2.2 (.slice a2 M.length c2) w5 0 false ((unhide HEL).below (unhide HB5) (Nat.le_refl _)) (by omega) (by omega)
    rw [← hF] at hE5
    have HE5:=hide hE5
    have HFq:=hide hF
    have HZq:=hide hZ
    clear hE5 HSL g1 y1 hF hZ
    refine (unhide HE5).mono ?_
    rintro e w6 ⟨fv,rfl,hf6,hb6⟩
    obtain ⟨fa,fc,rfl⟩ := own_is hf6
    have hz6:=hb6.size
    have hr6:=(unhide HR5).on (hb6.block _ (by omega))
    have HLI7:Hid (LI (w2.heap.size+1) (w6.setCell ⟨w2.heap.size,2,none⟩ (.slice fa F.length fc)) (.slice sa ps.length sc) ps):=LI.keepF ((unhide HLI5).keep hb6 (Nat.le_refl _)) (fun j hj => Below.heap_setCell _ _ _ _ (by have:=(LI.lt (unhide HLI5) hj).1; show j ≠ w2.heap.size; omega))
    have HR7:=hide (hr6.put2 (.slice fa F.length fc))
    have HB7:=hide (bput ((unhide HB5).trans (hb6.mono (by omega))) (Nat.le_refl _) (o:=2) (.slice fa F.length fc))
    have HF7:Hid ((w6.setCell ⟨w2.heap.size,2,none⟩ (.slice fa F.length fc)).ownsRow w5.heap.size 3 1 (.slice fa F.length fc) F.length (F.map mI)):=own_blk hf6 (fun q hq => Below.heap_setCell _ _ _ _ (by have:=(hf6.lt q hq).1; show q ≠ w2.heap.size; omega))
    obtain ⟨-,-,g2,-,-⟩ := hr6.facts
    have y2:=World.rowIs.frozen hr6 2
    have hz7:(w6.setCell ⟨w2.heap.size,2,none⟩ (.slice fa F.length fc)).heap.size=w6.heap.size:=sz_put _ _ _
    clear hb6 hr6 hf6 HLI5 HR5 HB5 HE5
    go_wp2_with fail
    generalize w6.setCell ⟨w2.heap.size,2,none⟩ (.slice fa F.length fc)=w7 at *
    have hE7:=(unhide HED).2.2 (.slice a2 M.length c2) w7 0 true ((unhide HEL).below (unhide HB7) (Nat.le_refl _)) (by omega) (by omega)
    rw [← unhide HZq] at hE7
    have HE7:=hide hE7
    clear hE7 g2 y2
    refine (unhide HE7).mono ?_
    rintro e w8 ⟨lv,rfl,hl8,hb8⟩
    obtain ⟨la,lc,rfl⟩ := own_is hl8
    have hz8:=hb8.size
    have hr8:=(unhide HR7).on (hb8.block _ (by omega))
    have HLI9:Hid (LI (w2.heap.size+1) (w8.setCell ⟨w2.heap.size,3,none⟩ (.slice la Z.length lc)) (.slice sa ps.length sc) ps):=LI.keepF ((unhide HLI7).keep hb8 (Nat.le_refl _)) (fun j hj => Below.heap_setCell _ _ _ _ (by have:=(LI.lt (unhide HLI7) hj).1; show j ≠ w2.heap.size; omega))
    have HR9:=hide (hr8.put3 (.slice la Z.length lc))
    have HB9:=hide (bput ((unhide HB7).trans (hb8.mono (by omega))) (Nat.le_refl _) (o:=3) (.slice la Z.length lc))
    have HF9:Hid ((w8.setCell ⟨w2.heap.size,3,none⟩ (.slice la Z.length lc)).ownsRow (w2.heap.size+1) 3 1 (.slice fa F.length fc) F.length (F.map mI)):=own_low (own_blk (unhide HF7) (fun q hq => (Below.heap_setCell _ _ _ _ (by have:=((unhide HF7).lt q hq).1; show q ≠ w2.heap.size; omega)).trans (hb8.block q ((unhide HF7).lt q hq).2))) (by omega)
    have HL9:Hid ((w8.setCell ⟨w2.heap.size,3,none⟩ (.slice la Z.length lc)).ownsRow (w2.heap.size+1) 3 1 (.slice la Z.length lc) Z.length (Z.map mI)):=own_low (own_blk hl8 (fun q hq => Below.heap_setCell _ _ _ _ (by have:=(hl8.lt q hq).1; show q ≠ w2.heap.size; omega))) (by omega)
    obtain ⟨-,-,-,g3,-⟩ := hr8.facts
    have y3:=World.rowIs.frozen hr8 3
    have hz9:(w8.setCell ⟨w2.heap.size,3,none⟩ (.slice la Z.length lc)).heap.size=w8.heap.size:=sz_put _ _ _
    clear hb8 hr8 hl8 HLI7 HR7 HB7 HE7 HF7
    go_wp2_with fail
    generalize w8.setCell ⟨w2.heap.size,3,none⟩ (.slice la Z.length lc)=w9 at *
    have hK:=l2marks_any (.slice a2 M.length c2) M w9 ((unhide HEL).below (unhide HB9) (Nat.le_refl _)) (by omega) (unhide HALL) (unhide HSM).ws (fun k h1 h2 => (unhide HSM).tl k (by omega) h2)
    rw [unhide HLN] at hK
    obtain ⟨n,hn⟩ : ∃ n,n=lvs M:=⟨_,rfl⟩
    rw [← unhide HFq,← unhide HZq,← hn] at HANS
    rw [← hn] at hK hlv
    have HK:=hide hK
    clear hK g3 y3 hn HFq HZq
    refine (unhide HK).mono ?_
    rintro e w10 ⟨G,gc,rfl,hG,hmx,hG2,hb10⟩
    have HMX:=hide hmx
    have HLI10:=hide ((unhide HLI9).keep hb10 (Nat.le_refl _))
    have HR10:=hide ((unhide HR9).on (hb10.block _ (by omega)))
    have HB10:=hide ((unhide HB9).trans (hb10.mono (by omega)))
    have HF10:=hide (own_keep (unhide HF9) hb10 (Nat.le_refl _))
    have HL10:=hide (own_keep (unhide HL9) hb10 (Nat.le_refl _))
    have hz10:=hb10.size
    clear hmx hb10 HK HLI9 HR9 HB9 HF9 HL9 HLN HALL HSM HED HNM
    go_wp2_with fail
    go_loopw [8] (fun iv wr => ∃ (i:Nat) (wv:Value) (qs:List (Cl Int)),i≤n∧iv = .int .i64 i∧Row5 wr w2.heap.size (.slice sa ps.length sc) A.nl (.slice fa F.length fc) (.slice la Z.length lc) wv∧LI w10.heap.size wr wv qs∧qs.map Cl.xs=(folL ln n).take i∧FrO (fun k => k=w2.heap.size∨w10.heap.size≤k) w10 wr) (fun iv _ => n - (intOf iv).toNat)
    case atStart => exact ⟨0,_,[],Nat.zero_le _,rfl,unhide HR10,LL.nil,by simp,FrO.refl _ _⟩
    case round =>
     obtain ⟨i,wv,qs,hi,rfl,hrow,hli,hqs,hfr⟩ := hrel
     obtain ⟨V,rfl⟩ : ∃ V,V=wr:=⟨_,rfl⟩
     have hfz:=hfr.size
     obtain ⟨wa,wc,rfl⟩ := own_is hli.own
     have hql:qs.length≤1006:=by
      have h1:=congrArg List.length hqs
      rw [List.length_map,List.length_take] at h1
      omega
     have HQS:=hide hqs
     have HLW:=hide hli
     have HRW:=hide hrow
     have HFR:=hide hfr
     by_cases hlt:i<n
     ·have hlt':(i:Int)<(n:Int):=by omega
      have hmx:=(unhide HMX).on (w':=V) (fun k h1 h2 => hfr.block k (by rintro (h | h) <;> omega))
      have t0:=hmx.top.cell hlt
      have HRI:=hide (hmx.row i hlt)
      have HTI:=hide hmx.top
      clear hqs hli hrow hfr hmx
      go_wp2_with fail
      go_loopw [9,10] (fun fvv jv wq => ∃ (j:Nat) (os:List Int),j≤n∧jv = .int .i64 j∧wq.ownsRow V.heap.size 3 1 fvv os.length (os.map mI)∧os=((List.range j).filter (mkd ln i)).map (fun j:Nat => (j:Int))∧Below V.heap.size V wq) (fun _ jv _ => n - (intOf jv).toNat)
      case atStart => exact ⟨0,[],Nat.zero_le _,rfl,World.ownsRow_nil _ _ _ _,rfl,Below.refl _ _⟩
      case round =>
       clear t0
       obtain ⟨j,os,hj,rfl,hown,hos,hb⟩ := hrel
       obtain ⟨fva,fvc,rfl⟩ := own_is hown
       have hbz:=hb.size
       by_cases hlj:j<n
       ·have hlj':(j:Int)<(n:Int):=by omega
        have t0:=((unhide HTI).of_block (hb.block _ (by omega))).cell hlt
        have t1:=((unhide HRI).of_block (hb.block _ (by omega))).cell hlj
        have hol:os.length≤1006:=by
         rw [hos,List.length_map]
         have:=List.length_filter_le (mkd ln i) (List.range j)
         rw [List.length_range] at this
         omega
        have HNX:=hide (folR_next ln i j)
        have HOS:=hide hos
        have HOWN:=hide hown
        have HBB:=hide hb
        generalize mkd ln i j=bb at *
        clear hos hown hb
        cases bb
        ·go_wp2
         go_roundw
         case rel => exact ⟨j+1,os,by omega,by go_num,unhide HOWN,by rw [unhide HNX,← unhide HOS]; simp,unhide HBB⟩
         case measure => simp [intOf]; omega
        ·go_wp2_with (at_builtin; refine app_int1 rfl _ _ rfl (u:=(j:Int)) (unhide HOWN) rfl (by omega) (pushd_alloc wr _) rfl (by omega) ?_; intro v7 w7 q1 q2; obtain ⟨Y,hY⟩ : ∃ Y,Y=os ++ [(j:Int)]:=⟨_,rfl⟩; rw [← hY] at q1; obtain ⟨ya,yc,rfl⟩ := own_is q1; have HY:=hide hY; have HQ1:=hide q1; have HQ2:=hide q2; clear q1 q2 hY)
         go_roundw
         case rel => exact ⟨j+1,Y,by omega,by go_num,unhide HQ1,by rw [unhide HNX,← unhide HOS,unhide HY]; simp,(unhide HBB).trans (unhide HQ2)⟩
         case measure => simp [intOf]; omega
       ·obtain rfl:j=n:=by omega
        have HOS:Hid (os=folR ln j i):=hos
        obtain ⟨pb,hpok,hplo⟩ := own_cl hown
        have t0:=((unhide HTI).of_block (hb.block _ (by omega))).cell hlt
        have hDV:=(unhide HRW).lt
        have HP:=hide hpok
        have HPL:=hide hplo
        have HLW2:=hide ((unhide HLW).keep hb (Nat.le_refl _))
        have HRW2:=hide ((unhide HRW).on (hb.block _ hDV))
        have HBB:=hide hb
        obtain ⟨-,-,-,-,f4⟩ := (unhide HRW2).facts
        clear hos hown hb hpok hplo
        go_wp2_with (at_builtin; refine app_list rfl _ _ rfl (p:=⟨.slice fva os.length fvc,os,pb⟩) (unhide HLW2) rfl (by omega) (unhide HP) (fun h0 => by have:=unhide HPL h0; show w10.heap.size≤pb; omega) (fun q hq h0 h1 => by have h2:=unhide HPL h1; have h3:=((unhide HLW).ok q hq).lt h0; show q.b ≠ pb; omega) (pushd_alloc wr _) rfl (by omega) ?_; intro g cap w7 q1 q2 q3; have hnD:¬ ((Value.slice wa qs.length wc).ownBlock=some w2.heap.size∨wr.heap.size≤w2.heap.size):=(by rintro (h | h); (have:=((unhide HLW).own.lt _ h).1; omega); omega); have HR7:=hide ((unhide HRW2).on (q2.block _ hnD)); have HQ1:=hide q1; have HQ2:=hide q2; obtain ⟨-,-,-,-,g4⟩ := (unhide HR7).facts; have y4:=World.rowIs.frozen (unhide HR7) 4; clear q1 q2 q3 hnD)
        go_roundw
        case rel =>
         refine ⟨i+1,_,qs ++ [⟨.slice fva os.length fvc,os,pb⟩],by omega,by go_num,(unhide HR7).put4 _,?_,?_,?_⟩
         ·exact LI.keepF (unhide HQ1) (fun k hk => Below.heap_setCell _ _ _ _ (by have:=(LI.lt (unhide HQ1) hk).1; show k ≠ w2.heap.size; omega))
         ·rw [List.map_append,unhide HQS,folL_next _ _ _ hlt,← unhide HOS]; rfl
         ·refine (unhide HFR).trans ((fro_of (unhide HBB) (fun k hk => Or.inr (by omega))).trans (((unhide HQ2).mono (fun k hk => ?_)).trans ((obk_put _ _).fro (Or.inl rfl))))
          rcases hk with hk | hk
          ·exact Or.inr ((unhide HLW).own.lt _ hk).1
          ·exact Or.inr (by omega)
        case measure => simp [intOf]; omega
     ·obtain rfl:i=n:=by omega
      have hfull:qs.map Cl.xs=folL ln i:=by rw [hqs,List.take_of_length_le (by simp [folL])]
      have HFULL:=hide hfull
      have hRA:=((unhide HR2).on ((unhide HB10).block _ (by omega))).on (hfr.block _ (by rintro (h | h) <;> omega))
      have HRA:=hide hRA
      have HLS:=hide (LI.keepF (w':=V) (unhide HLI10) (fun k hk => hfr.block k (by have:=LI.lt (unhide HLI10) hk; rintro (h | h) <;> omega)))
      have HFS:=hide (own_blk (w':=V) (unhide HF10) (fun k hk => hfr.block k (by have:=(unhide HF10).lt k hk; rintro (h | h) <;> omega)))
      have HZS:=hide (own_blk (w':=V) (unhide HL10) (fun k hk => hfr.block k (by have:=(unhide HL10).lt k hk; rintro (h | h) <;> omega)))
      clear hqs hfull hli hrow hfr hRA
      go_wp2_with (first | (refine wpList_load_row rfl 70 (.tmp 4) rfl w2.heap.size (by first | (simp [Act.eval]; done) | (simp [Act.eval,Act.put]; done)) 70 _ _ _ (Row5.blk (unhide HRW)) Tryz.underlying70 rfl (by kernel_rfl) ?_) | (refine wpList_store_row rfl 70 (.tmp 2) (.tmp 85) rfl (w.heap.size+1) #[.slice sa ps.length sc,.bool A.nl,.slice fa F.length fc,.slice la Z.length lc,.slice wa qs.length wc] (by first | (simp [Act.eval]; done) | (simp [Act.eval,Act.put]; done)) (by first | (simp [Act.eval]; done) | (simp [Act.eval,Act.put]; done)) 70 _ (Row5.blk (unhide HRA)) (by kernel_rfl) rfl (all5 _ _ _ _ _ _ _ _ _ _ _ _ _) ?_))
      refine bodyPost_ret (au_ret (Row5.row (unhide HRA) _ _ _ _ _) rfl _ rfl) rfl ?_
      have hset:∀ k,k ≠ w.heap.size+1→(V.setRow (w.heap.size+1) #[.slice sa ps.length sc,.bool A.nl,.slice fa F.length fc,.slice la Z.length lc,.slice wa qs.length wc]).heap[k]? = V.heap[k]? := fun k hk => setRow_other _ _ _ _ hk
      generalize hWF:V.setRow (w.heap.size+1) #[.slice sa ps.length sc,.bool A.nl,.slice fa F.length fc,.slice la Z.length lc,.slice wa qs.length wc]=WF at *
      have l1:LI _ WF _ ps:=LI.keepF (unhide HLS) (fun k hk => hset k (by have:=(LI.lt (unhide HLS) hk).1; omega))
      have l2:LI _ WF _ qs:=LI.keepF (unhide HLW) (fun k hk => hset k (by have:=(LI.lt (unhide HLW) hk).1; omega))
      have l3:=own_blk (w':=WF) (unhide HFS) (fun k hk => hset k (by have:=((unhide HFS).lt k hk).1; omega))
      have l4:=own_blk (w':=WF) (unhide HZS) (fun k hk => hset k (by have:=((unhide HZS).lt k hk).1; omega))
      have hpl:ps.length≤1006:=by
       have h1:=congrArg List.length (unhide HPS)
       rw [List.length_map,setsOf_len] at h1
       have h2:=lvs_le M
       omega
      refine ⟨_,setsOf M,A.nl,F,Z,folL ln i,rfl,unhide HANS,⟨_,_,_,_,rfl,?_,(own_slw l3 (Nat.zero_le _) (by unfold maxLen; omega)).at,(own_slw l4 (Nat.zero_le _) (by unfold maxLen; omega)).at,?_⟩,?_⟩
      ·have:=(l1.footX (by unfold maxLen; omega)).at (fun k hk => (l1.lt hk).2)
       rw [unhide HPS] at this
       exact this
      ·have:=(l2.footX (by unfold maxLen; omega)).at (fun k hk => (l2.lt hk).2)
       rw [unhide HFULL] at this
       exact this
      ·rw [← hWF]
       exact ((unhide HB02).trans ((unhide HB10).mono (by omega))).trans (((unhide HFR).below (m:=w.heap.size) (fun k hk => by rintro (h | h) <;> omega)).trans ((row_obk _ _ _).below (by omega)))
 ·have HANS:Hid (AnsA l r xs [] false [] [] []):=Or.inr ⟨hbad,rfl,rfl,rfl,rfl,rfl⟩
  clear hret hbad
  go_wp2_with (refine wpList_store_row rfl 70 (.tmp 2) (.tmp 14) rfl (w.heap.size+1) #[.slice none 0 0,.bool false,.slice none 0 0,.slice none 0 0,.slice none 0 0] (by simp [Act.eval]) (by simp [Act.eval]) 70 _ (Row5.blk (unhide HR1)) (by kernel_rfl) rfl (all5 _ _ _ _ _ _ _ _ _ _ _ _ _) ?_)
  refine bodyPost_ret (au_ret (Row5.row (unhide HR1) _ _ _ _ _) rfl _ rfl) rfl ?_
  have hn:∀ (w':World),SsAt mI 0 w'.heap.size w' (.slice none 0 0) []:=fun w' => (SsF.nil mI 0 (fun _ => False) w' none 0 (Nat.zero_le _)).at (fun _ h => h.elim)
  have hn2:∀ (w':World),SlAt mI 0 0 w'.heap.size w' (.slice none 0 0) []:=fun w' => ⟨none,0,rfl,by unfold maxLen; simp,fun h => absurd h (by simp)⟩
  exact ⟨_,[],false,[],[],[],rfl,unhide HANS,⟨_,_,_,_,rfl,hn _,hn2 _,hn2 _,hn _⟩,(unhide HB01).trans ((row_obk _ _ _).below (by omega))⟩
structure StM (w wr:World) (N:Nat) (sv fv lv wv pv:Value) (nl e0:Bool) (mk:Nat→Bool) (ee:Bool) (ov:Value):Prop where
 a:Row5 wr w.heap.size sv nl fv lv wv
 p:Rq2 wr (w.heap.size+1) 74 pv (.bool e0)
 r:Rq2 wr (w.heap.size+2) 74 (.slice none 0 0) (.bool false)
 m:wr.rowIs (w.heap.size+3) 4 N (fun j => .bool (mk j))
 o:Rq2 wr (w.heap.size+4) 74 ov (.bool ee)
 lo:Below w.heap.size w wr
 z:w.heap.size+5≤wr.heap.size
section
variable {w wr wr':World} {N:Nat} {sv fv lv wv pv ov:Value} {nl e0 ee:Bool} {mk:Nat→Bool}
theorem StM.keep (h:StM w wr N sv fv lv wv pv nl e0 mk ee ov) (hb:Below (w.heap.size+5) wr wr'):StM w wr' N sv fv lv wv pv nl e0 mk ee ov :=
 ⟨h.a.on (hb.block _ (by omega)),h.p.on (hb.block _ (by omega)),h.r.on (hb.block _ (by omega)),h.m.of_block (hb.block _ (by omega)),h.o.on (hb.block _ (by omega)),h.lo.trans (hb.mono (by omega)),Nat.le_trans h.z hb.size⟩
theorem StM.mark (h:StM w wr N sv fv lv wv pv nl e0 mk ee ov) (y:Nat):StM w (wr.setCell ⟨w.heap.size+3,y,none⟩ (.bool true)) N sv fv lv wv pv nl e0 (fun j => if j=y then true else mk j) ee ov:=by
 have hb:=obk_put (w:=wr) (b:=w.heap.size+3) y (.bool true)
 refine ⟨h.a.on (hb.block _ (by omega)),h.p.on (hb.block _ (by omega)),h.r.on (hb.block _ (by omega)),(World.rowIs.set h.m y _).congr (fun j _ => by by_cases e:j=y <;> simp [e]),h.o.on (hb.block _ (by omega)),h.lo.trans ⟨hb.os,hb.tape,hb.output,Nat.le_of_eq hb.size.symm,fun k hk => hb.block k (by omega)⟩,by rw [hb.size]; exact h.z⟩
theorem StM.yes (h:StM w wr N sv fv lv wv pv nl e0 mk ee ov):StM w (wr.setCell ⟨w.heap.size+4,1,none⟩ (.bool true)) N sv fv lv wv pv nl e0 mk true ov:=by
 have hb:=obk_put (w:=wr) (b:=w.heap.size+4) 1 (.bool true)
 exact ⟨h.a.on (hb.block _ (by omega)),h.p.on (hb.block _ (by omega)),h.r.on (hb.block _ (by omega)),h.m.of_block (hb.block _ (by omega)),h.o.put1,h.lo.trans ⟨hb.os,hb.tape,hb.output,Nat.le_of_eq hb.size.symm,fun k hk => hb.block k (by omega)⟩,by rw [hb.size]; exact h.z⟩
theorem StM.out (h:StM w wr N sv fv lv wv pv nl e0 mk ee ov) (u:Value):StM w (wr.setCell ⟨w.heap.size+4,0,none⟩ u) N sv fv lv wv pv nl e0 mk ee u:=by
 have hb:=obk_put (w:=wr) (b:=w.heap.size+4) 0 u
 exact ⟨h.a.on (hb.block _ (by omega)),h.p.on (hb.block _ (by omega)),h.r.on (hb.block _ (by omega)),h.m.of_block (hb.block _ (by omega)),h.o.put0,h.lo.trans ⟨hb.os,hb.tape,hb.output,Nat.le_of_eq hb.size.symm,fun k hk => hb.block k (by omega)⟩,by rw [hb.size]; exact h.z⟩
theorem StM.congr (h:StM w wr N sv fv lv wv pv nl e0 mk ee ov) {mk':Nat→Bool} (e:∀ j,j<N→mk j=mk' j):StM w wr N sv fv lv wv pv nl e0 mk' ee ov :=
 ⟨h.a,h.p,h.r,h.m.congr (fun j hj => by rw [e j hj]),h.o,h.lo,h.z⟩
end
def orM (mk:Nat→Bool) (Y:List Nat):Nat→Bool:=fun j => mk j || Y.contains j
theorem orM_snoc (mk:Nat→Bool) (Y:List Nat) (y j:Nat):orM mk (Y ++ [y]) j=(if j=y then true else orM mk Y j):=by
 unfold orM
 by_cases e:j=y
 ·subst e; simp
 ·simp [e]
set_option maxHeartbeats 8000000 in
set_option maxRecDepth 100000 in
theorem l2step_any (S W:List (List Int)) (F L:List Int) (nl e0:Bool) (sv fv lv wv pv:Value) (X:List Nat) (b N:Nat) (hold fol:Nat→Nat→Bool) (last:Nat→Bool) (w:World) (hS:SsAt mI 0 w.heap.size w sv S) (hF:SlAt mI 0 0 w.heap.size w fv F) (hL:SlAt mI 0 0 w.heap.size w lv L) (hW:SsAt mI 0 w.heap.size w wv W) (hp:SlAt mI 0 0 w.heap.size w pv (X.map fun (x:Nat) => (x:Int)))
  (hSn:S.length=N) (hWn:W.length=N) (hN:N≤512) (hX:∀ x ∈ X,x<N) (hSl:∀ i:Nat,i<N→(S[i]?.getD []).length≤1048576) (hh:∀ i,i<N→(hold i b=true↔inPs (S[i]?.getD []) (b:Int))) (hf:∀ i,i<N→W[i]?.getD []=((List.range N).filter (fol i)).map fun (j:Nat) => (j:Int)) (hl:∀ i:Nat,i<N→(last i=true↔(i:Int) ∈ L)) :
  Calls Tryz.prog 35 #[.agg #[sv,.bool nl,fv,lv,wv],.agg #[pv,.bool e0],.int .i64 (b:Nat)] w fun x w' => ∃ ov:Value,x = .returned (.agg #[ov,.bool (pstep N hold fol last (X,e0) b).2])∧w'.ownsRow w.heap.size 3 1 ov (pstep N hold fol last (X,e0) b).1.length ((pstep N hold fol last (X,e0) b).1.map mN)∧Below w.heap.size w w':=by
 obtain ⟨sa,sc,rfl,hscap,hsc⟩ := id hS
 obtain ⟨fa,fc,rfl,-,-⟩ := id hF
 obtain ⟨la,lc,rfl,-,-⟩ := id hL
 obtain ⟨wa,wc,rfl,hwcap,hwc⟩ := id hW
 obtain ⟨pa,pc,rfl,hpl,hpc⟩ := id hp
 rw [List.length_map] at hpl hpc
 rw [hSn] at hscap hsc
 rw [hWn] at hwcap hwc
 simp only [List.length_map,hSn,hWn]
 have hmk:=run_make_row' (P:=Tryz.prog) 27 4 (.bool false) 1 Tryz.underlying27 Tryz.zinBoR rfl .i64 .i64 N (by omega) (by omega)
 obtain ⟨W5,hW5⟩ : ∃ W5,W5=((((w.alloc (.cells #[.slice sa N sc,.bool nl,.slice fa F.length fc,.slice la L.length lc,.slice wa N wc] 70)).alloc (.cells #[.slice pa X.length pc,.bool e0] 74)).alloc (.cells #[.slice none 0 0,.bool false] 74)).alloc (.cells (madeCells #[.bool false] N) 4)).alloc (.cells #[.slice none 0 0,.bool false] 74):=⟨_,rfl⟩
 have hb5:Below w.heap.size w W5:=by
  rw [hW5]
  exact (((below2 w _ _).alloc (by rw [sz_alloc,sz_alloc]; omega) _).alloc (by rw [sz_alloc,sz_alloc,sz_alloc]; omega) _).alloc (by rw [sz_alloc,sz_alloc,sz_alloc,sz_alloc]; omega) _
 have hM5:StM w W5 N (.slice sa N sc) (.slice fa F.length fc) (.slice la L.length lc) (.slice wa N wc) (.slice pa X.length pc) nl e0 (fun _ => false) false (.slice none 0 0):=by
  refine ⟨?_,?_,?_,?_,?_,hb5,by rw [hW5]; simp only [sz_alloc]; omega⟩
  ·rw [hW5]
   exact World.rowIs.alloc (World.rowIs.alloc (World.rowIs.alloc (World.rowIs.alloc (Row5.new w _ _ _ _ _) _) _) _) _
  ·rw [hW5]
   have:=Rq2.new (w.alloc (.cells #[.slice sa N sc,.bool nl,.slice fa F.length fc,.slice la L.length lc,.slice wa N wc] 70)) 74 (.slice pa X.length pc) (.bool e0)
   rw [sz_alloc] at this
   exact ((this.alloc _).alloc _).alloc _
  ·rw [hW5]
   have:=Rq2.new ((w.alloc (.cells #[.slice sa N sc,.bool nl,.slice fa F.length fc,.slice la L.length lc,.slice wa N wc] 70)).alloc (.cells #[.slice pa X.length pc,.bool e0] 74)) 74 (.slice none 0 0) (.bool false)
   simp only [sz_alloc] at this
   exact (this.alloc _).alloc _
  ·rw [hW5]
   have:=World.rowIs_made (((w.alloc (.cells #[.slice sa N sc,.bool nl,.slice fa F.length fc,.slice la L.length lc,.slice wa N wc] 70)).alloc (.cells #[.slice pa X.length pc,.bool e0] 74)).alloc (.cells #[.slice none 0 0,.bool false] 74)) (.bool false) N 4
   simp only [sz_alloc] at this
   exact this.alloc _
  ·rw [hW5]
   have:=Rq2.new ((((w.alloc (.cells #[.slice sa N sc,.bool nl,.slice fa F.length fc,.slice la L.length lc,.slice wa N wc] 70)).alloc (.cells #[.slice pa X.length pc,.bool e0] 74)).alloc (.cells #[.slice none 0 0,.bool false] 74)).alloc (.cells (madeCells #[.bool false] N) 4)) 74 (.slice none 0 0) (.bool false)
   simp only [sz_alloc] at this
   exact this
 have HW5:=hide hW5
 have HM5:=hide hM5
 have HL:=hide hL
 have HSC:=hide hsc
 have HWC:=hide hwc
 have HPC:=hide hpc
 have HSL:=hide hSl
 have HX:=hide hX
 have HH:=hide hh
 have HF:=hide hf
 have HLA:=hide hl
 clear hS hF hL hW hp hW5 hM5 hb5 hsc hwc hpc hSl hX hh hf hl hSn hWn hscap hwcap
 unfold maxLen at hpl
 go_enter Tryz.func35,Tryz.ntmps35
 go_wp2_with fail
 rw [← unhide HW5]
 clear HW5 hmk
 simp only [Nat.add_assoc,Nat.reduceAdd]
 go_loopw [9] (fun iv wr => ∃ i:Nat,i≤X.length∧iv = .int .i64 (i:Nat)∧StM w wr N (.slice sa N sc) (.slice fa F.length fc) (.slice la L.length lc) (.slice wa N wc) (.slice pa X.length pc) nl e0 (fun j => (X.take i).any fun x => hold x b && fol x j) ((X.take i).any fun x => hold x b && last x) (.slice none 0 0)) (fun iv _ => X.length - (intOf iv).toNat)
 case atStart => exact ⟨0,by omega,rfl,by simpa using unhide HM5⟩
 case round =>
  clear HM5
  obtain ⟨i,hi,rfl,hM⟩ := hrel
  obtain ⟨w1,rfl⟩ : ∃ w1,w1=wr:=⟨_,rfl⟩
  obtain ⟨p0,p1⟩ := hM.p.cells
  by_cases hlt:i<X.length
  ·have hlt':(i:Int)<(X.length:Int):=by omega
   obtain ⟨x,hx⟩ : ∃ x,X[i]? = some x:=⟨_,List.getElem?_eq_getElem hlt⟩
   have hxN:=unhide HX x (List.mem_of_getElem? hx)
   have hxN':(x:Int)<(N:Int):=by omega
   obtain ⟨pb,po,era,-,hpb,hpcell⟩ := unhide HPC (by omega)
   have y0:w1.cell? ⟨pb,po+i,none⟩ = some (.int .i64 (x:Nat)):=by
    rw [hM.lo.cell (p:=⟨pb,po+i,none⟩) hpb,hpcell i hlt,List.getElem?_map,hx]; rfl
   obtain ⟨sb,so,esa,hsb,hsel⟩ := unhide HSC (by omega)
   obtain ⟨s,hs1,hs2,-⟩ := hsel x hxN
   have y1:w1.cell? ⟨sb,so+x,none⟩ = some s:=by rw [hM.lo.cell (p:=⟨sb,so+x,none⟩) hsb]; exact hs1
   obtain ⟨ss,scap,es,-,-⟩ := id hs2
   obtain ⟨a0,a1,a2,a3,a4⟩ := hM.a.facts
   obtain ⟨rh,hrh⟩ : ∃ rh,rh=hold x b:=⟨_,rfl⟩
   have HHR:=hide (has_r s _ b w1.heap.size rh w1 (by rw [hrh]; exact unhide HH x hxN) (hs2.below hM.lo (Nat.le_refl _)) (Nat.le_refl _) (unhide HSL x hxN))
   have hany:∀ p:Nat→Bool,(X.take (i+1)).any p=((X.take i).any p || p x):=fun p => by rw [List.take_add_one,hx,List.any_append]; simp
   obtain ⟨mk0,hmk0⟩ : ∃ mk0:Nat→Bool,mk0=fun j => (X.take i).any fun x => hold x b && fol x j:=⟨_,rfl⟩
   obtain ⟨ee0,hee0⟩ : ∃ ee0:Bool,ee0=(X.take i).any fun x => hold x b && last x:=⟨_,rfl⟩
   rw [← hmk0,← hee0] at hM
   have HM:=hide hM
   have HANY:=hide hany
   have HMK0:=hide hmk0
   have HEE0:=hide hee0
   have HRH:=hide hrh
   obtain ⟨sn,hsn⟩ : ∃ sn,sn=(S[x]?.getD []).length:=⟨_,rfl⟩
   rw [← hsn] at es
   subst es
   subst era
   subst esa
   clear hM hany hmk0 hee0 hrh hs1 hs2 hsel hpcell hx hsn
   cases rh
   ·go_wp2_with fail
    refine (unhide HHR).mono ?_
    rintro e w2 ⟨rfl,rfl⟩
    go_wp2
    go_roundw
    case rel =>
     refine ⟨i+1,by omega,by go_num,?_⟩
     have h:=unhide HM
     simp only [unhide HANY,← unhide HRH,Bool.false_and,Bool.or_false]
     rw [unhide HMK0,unhide HEE0] at h
     exact h
    case measure => simp [intOf]; omega
   ·obtain ⟨wb,wo,ewa,hwb,hwel⟩ := unhide HWC (by omega)
    obtain ⟨t,ht1,ht2,-⟩ := hwel x hxN
    obtain ⟨Yx,hYx⟩ : ∃ Yx,Yx=(List.range N).filter (fol x):=⟨_,rfl⟩
    rw [unhide HF x hxN,← hYx] at ht2
    have hYl:Yx.length≤512:=by
     rw [hYx]
     exact Nat.le_trans (List.length_filter_le _ _) (by rw [List.length_range]; exact hN)
    have hYm:∀ q,q<N→Yx.contains q=fol x q:=fun q hq => by
     rw [hYx,Bool.eq_iff_iff,List.contains_iff_mem,List.mem_filter,List.mem_range]
     exact ⟨fun h => h.2,fun h => ⟨hq,h⟩⟩
    have hYN:∀ y ∈ Yx,y<N:=fun y hy => by
     rw [hYx,List.mem_filter,List.mem_range] at hy
     exact hy.1
    obtain ⟨ta,tc,et,-,htc⟩ := id ht2
    rw [List.length_map] at et htc
    subst et
    subst ewa
    have HT1:=hide ht1
    have HTC:=hide htc
    have HYM:=hide hYm
    have HYN:=hide hYN
    have hwcell:w1.cell? ⟨wb,wo+x,none⟩ = some (.slice ta Yx.length tc):=by rw [(unhide HM).lo.cell (p:=⟨wb,wo+x,none⟩) hwb]; exact ht1
    clear hwel ht1 ht2 hYx htc hYm hYN
    go_wp2_with fail
    refine (unhide HHR).mono ?_
    rintro e w2 ⟨rfl,rfl⟩
    go_wp2_with fail
    clear p0 p1 y0 y1 a0 a1 a2 a3 a4 hwcell HHR
    go_loopw [11] (fun jv wx => ∃ j:Nat,j≤Yx.length∧jv = .int .i64 (j:Nat)∧StM w wx N (.slice (some ⟨sb,so,none⟩) N sc) (.slice fa F.length fc) (.slice la L.length lc) (.slice (some ⟨wb,wo,none⟩) N wc) (.slice (some ⟨pb,po,none⟩) X.length pc) nl e0 (orM mk0 (Yx.take j)) ee0 (.slice none 0 0)) (fun jv _ => Yx.length - (intOf jv).toNat)
    case atStart => exact ⟨0,by omega,rfl,(unhide HM).congr (fun j _ => by simp [orM])⟩
    case round =>
     clear HM
     obtain ⟨j,hj,rfl,hM⟩ := hrel
     obtain ⟨w3,rfl⟩ : ∃ w3,w3=wr:=⟨_,rfl⟩
     obtain ⟨a0,a1,a2,a3,a4⟩ := hM.a.facts
     have hwcell:w3.cell? ⟨wb,wo+x,none⟩ = some (.slice ta Yx.length tc):=by rw [hM.lo.cell (p:=⟨wb,wo+x,none⟩) hwb]; exact unhide HT1
     by_cases hjl:j<Yx.length
     ·have hjl':(j:Int)<(Yx.length:Int):=by omega
      obtain ⟨y,hy⟩ : ∃ y,Yx[j]? = some y:=⟨_,List.getElem?_eq_getElem hjl⟩
      have hyN:=unhide HYN y (List.mem_of_getElem? hy)
      have hyN':(y:Int)<(N:Int):=by omega
      obtain ⟨tb,to',eta,-,htb,htcell⟩ := unhide HTC (by omega)
      have y0:w3.cell? ⟨tb,to'+j,none⟩ = some (.int .i64 (y:Nat)):=by
       rw [hM.lo.cell (p:=⟨tb,to'+j,none⟩) htb,htcell j hjl,List.getElem?_map,hy]; rfl
      have m0:=hM.m.cell (i:=y) hyN
      have m1:=hM.m.frozen y
      have hM2:=(hM.mark y).congr (mk':=orM mk0 (Yx.take (j+1))) (fun q _ => by rw [List.take_add_one,hy]; exact (orM_snoc mk0 (Yx.take j) y q).symm)
      have HM2:=hide hM2
      subst eta
      clear hM hM2 hy htcell
      go_wp2
      go_roundw
      case rel => exact ⟨j+1,by omega,by go_num,unhide HM2⟩
      case measure => simp [intOf]; omega
     ·have hjl':¬ (j:Int)<(Yx.length:Int):=by omega
      obtain rfl:j=Yx.length:=by omega
      have hM2:=hM.congr (mk':=fun q => (X.take (i+1)).any fun x => hold x b && fol x q) (fun q hq => by
       rw [unhide HANY,← unhide HRH,Bool.true_and,unhide HMK0]
       simp only [orM,List.take_length,unhide HYM q hq])
      have hz3:=hM.lo.size
      have HLI:=hide (l2inList_any (.slice la L.length lc) L (x:Nat) w3 ((unhide HL).below hM.lo (Nat.le_refl _)))
      have o1:=hM.o.cells.2
      have o2:=World.rowIs.frozen hM.o 1
      have HM2:=hide hM2
      clear hM hM2
      go_wp2_with fail
      refine (unhide HLI).mono ?_
      rintro e w4 ⟨hr,q,rfl⟩
      have hM4:=(unhide HM2).keep (wr':=w3.drewN q) ⟨rfl,rfl,rfl,Nat.le_refl _,fun _ _ => rfl⟩
      rcases hr.cases with ⟨rfl,hyes⟩ | ⟨rfl,hno⟩
      ·have hM5:=hM4.yes
       have hev:(true:Bool)=(X.take (i+1)).any fun x => hold x b && last x:=by rw [unhide HANY,← unhide HRH,Bool.true_and,(unhide HLA x hxN).2 hyes,Bool.or_true]
       have HEV:=hide hev
       have HM5:=hide hM5
       clear hM4 hM5 hev HM2 HLI hr
       go_wp2
       go_roundw
       case rel => exact ⟨i+1,by omega,by go_num,by rw [← unhide HEV]; exact unhide HM5⟩
       case measure => simp [intOf]; omega
      ·have hev:ee0=(X.take (i+1)).any fun x => hold x b && last x:=by
        rw [unhide HANY,← unhide HRH,Bool.true_and,unhide HEE0]
        have:last x=false:=by
         cases hlx:last x
         ·rfl
         ·exact absurd ((unhide HLA x hxN).1 hlx) hno
        rw [this,Bool.or_false]
       rw [hev] at hM4
       have HM4:=hide hM4
       clear hM4 HM2 HLI hr
       go_wp2
       go_roundw
       case rel => exact ⟨i+1,by omega,by go_num,unhide HM4⟩
       case measure => simp [intOf]; omega
  ·have hlt':¬ (i:Int)<(X.length:Int):=by omega
   obtain rfl:i=X.length:=by omega
   rw [List.take_length] at hM
   obtain ⟨mk,hmk⟩ : ∃ mk:Nat→Bool,mk=fun j => X.any fun x => hold x b && fol x j:=⟨_,rfl⟩
   obtain ⟨ee,hee⟩ : ∃ ee:Bool,ee=X.any fun x => hold x b && last x:=⟨_,rfl⟩
   rw [← hmk,← hee] at hM
   have HMK:=hide hmk
   have HEE:=hide hee
   have HM:=hide hM
   have hNb:N≤512:=hN
   clear hM hmk hee
   go_wp2_with fail
   clear p0 p1
   go_loopw [12] (fun iv wr => ∃ (i:Nat) (ov:Value),i≤N∧iv = .int .i64 (i:Nat)∧StM w wr N (.slice sa N sc) (.slice fa F.length fc) (.slice la L.length lc) (.slice wa N wc) (.slice pa X.length pc) nl e0 mk ee ov∧wr.ownsRow (w.heap.size+5) 3 1 ov ((List.range i).filter mk).length (((List.range i).filter mk).map mN)) (fun iv _ => N - (intOf iv).toNat)
   case atStart => exact ⟨0,_,by omega,rfl,unhide HM,World.ownsRow_nil _ _ _ _⟩
   case round =>
    clear HM
    obtain ⟨i,ov,hi,rfl,hM,hown⟩ := hrel
    obtain ⟨w2,rfl⟩ : ∃ w2,w2=wr:=⟨_,rfl⟩
    obtain ⟨Yi,hYi⟩ : ∃ Yi,Yi=(List.range i).filter mk:=⟨_,rfl⟩
    rw [← hYi] at hown
    have hYl:Yi.length≤512:=by
     rw [hYi]
     exact Nat.le_trans (List.length_filter_le _ _) (by rw [List.length_range]; omega)
    obtain ⟨oa,oc,rfl⟩ := own_is hown
    obtain ⟨o0,o1⟩ := hM.o.cells
    have hz2:=hM.z
    by_cases hil:i<N
    ·have hil':(i:Int)<(N:Int):=by omega
     have m0:=hM.m.cell (i:=i) hil
     have hnx:(List.range (i+1)).filter mk=Yi ++ (if mk i then [i] else []):=by rw [List.range_succ,List.filter_append,hYi]; simp [List.filter_cons]
     obtain ⟨mi,hmi⟩ : ∃ mi,mi=mk i:=⟨_,rfl⟩
     rw [← hmi] at m0 hnx
     have HM:=hide hM
     have HO:=hide hown
     have HNX:=hide hnx
     clear hM hown hnx hmi hYi
     cases mi
     ·go_wp2
      go_roundw
      case rel => exact ⟨i+1,_,by omega,by go_num,unhide HM,by rw [unhide HNX]; simpa using unhide HO⟩
      case measure => simp [intOf]; omega
     ·go_wp2_with (at_builtin; refine app_n1 rfl _ _ rfl (w.heap.size+5) (.slice oa Yi.length oc) rfl i rfl Yi (unhide HO) hz2 (by omega) ?_)
      intro ov3 w3 r1 r2 r3
      have hb3:Below (w.heap.size+5) w2 w3:=r2.belowG (unhide HO) (Nat.le_refl _) hz2
      have hM3:=(unhide HM).keep hb3
      have r1:w3.ownsRow (w.heap.size+5) 3 1 ov3 (Yi ++ [i]).length ((Yi ++ [i]).map mN):=by rw [List.length_append,List.map_append]; exact r1
      have hM4:=hM3.out ov3
      have hown4:=own_blk (w':=w3.setCell ⟨w.heap.size+4,0,none⟩ ov3) r1 (fun q hq => (obk_put 0 _).block q (by have:=(r1.lt q hq).1; omega))
      have c0:=hM3.o.cells.1
      have c1:=World.rowIs.frozen hM3.o 0
      obtain ⟨oa3,oc3,e3⟩ := own_is r1
      obtain ⟨l3,hl3⟩ : ∃ l3,l3=(Yi ++ [i]).length:=⟨_,rfl⟩
      rw [← hl3] at e3
      subst e3
      have HM4:=hide hM4
      have HO4:=hide hown4
      clear r1 r2 r3 hb3 hM3 hM4 hown4 o0 o1 m0 HM HO hl3
      go_wp2
      go_roundw
      case rel => exact ⟨i+1,_,by omega,by go_num,unhide HM4,by rw [unhide HNX]; exact unhide HO4⟩
      case measure => simp [intOf]; omega
    ·have hil':¬ (i:Int)<(N:Int):=by omega
     obtain rfl:i=N:=by omega
     obtain ⟨r0,r1⟩ := hM.r.cells
     have rf0:=World.rowIs.frozen hM.r 0
     have rf1:=World.rowIs.frozen hM.r 1
     have HM:=hide hM
     have HO:=hide hown
     have HYI:=hide hYi
     clear hM hown hYi
     go_wp2
     generalize hWf:World.setCell _ _ _=Wf
     have hob:Obk (w.heap.size+2) w2 Wf:=by rw [← hWf]; exact (obk_put _ _).trans (obk_put _ _)
     have hr9:Rq2 Wf (w.heap.size+2) 74 (.slice oa Yi.length oc) (.bool ee):=by rw [← hWf]; exact (unhide HM).r.put0.put1
     obtain ⟨x0,x1⟩ := hr9.cells
     refine bodyPost_ret (v:=.agg #[.slice oa Yi.length oc,.bool ee]) (by simp [results,Tryz.results35,go_sem,x0,x1]) rfl ?_
     have hlo:=(unhide HM).lo
     have e1:(pstep i hold fol last (X,e0) b).1=Yi:=by rw [unhide HYI,unhide HMK]; rfl
     have e2:(pstep i hold fol last (X,e0) b).2=ee:=by rw [unhide HEE]; rfl
     rw [e1,e2]
     exact ⟨_,rfl,own_low (own_blk (unhide HO) (fun q hq => hob.block q (by have:=((unhide HO).lt q hq).1; omega))) (by omega),⟨hob.os.trans hlo.os,hob.tape.trans hlo.tape,hob.output.trans hlo.output,Nat.le_trans hlo.size (Nat.le_of_eq hob.size.symm),fun k hk => (hob.block k (by omega)).trans (hlo.block k hk)⟩⟩
structure CsL (out:Nat→Nat) (b:Nat) (cls:Nat→Nat) (fs:List Nat):Prop where
 sf:∀ (j x:Nat),fs[j]? = some x→x<b∧out x=x∧cls x=j
 up:∀ (i j x y:Nat),i<j→fs[i]? = some x→fs[j]? = some y→x<y
 cl:∀ x,x<b→fs[cls x]? = some (out x)
def updC (f:Nat→Nat) (b v:Nat):Nat→Nat:=fun x => if x=b then v else f x
theorem updC_at (f:Nat→Nat) (b v:Nat):updC f b v b=v:=by simp [updC]
theorem updC_ne (f:Nat→Nat) {b v x:Nat} (h:x ≠ b):updC f b v x=f x:=by simp [updC,h]
theorem CsL.start (out cls:Nat→Nat):CsL out 0 cls []:=⟨fun j x h => by simp at h,fun i j x y _ h => by simp at h,fun x hx => by omega⟩
theorem CsL.le {out cls:Nat→Nat} {b:Nat} {fs:List Nat} (h:CsL out b cls fs):fs.length≤b:=by
 refine nodup_le b fs ?_ (fun x hx => ?_)
 ·rw [List.nodup_iff_pairwise_ne,List.pairwise_iff_getElem]
  intro i j hi hj hij e
  have:=h.up i j _ _ hij (List.getElem?_eq_getElem hi) (List.getElem?_eq_getElem hj)
  omega
 ·obtain ⟨j,hj⟩ := List.getElem?_of_mem hx
  exact (h.sf j x hj).1
theorem CsL.new {out cls:Nat→Nat} {b:Nat} {fs:List Nat} (h:CsL out b cls fs) (hb:out b=b):CsL out (b+1) (updC cls b fs.length) (fs ++ [b]):=by
 refine ⟨fun j x hx => ?_,fun i j x y hij hx hy => ?_,fun x hx => ?_⟩
 ·by_cases hj:j<fs.length
  ·rw [List.getElem?_append_left hj] at hx
   obtain ⟨h1,h2,h3⟩ := h.sf j x hx
   exact ⟨by omega,h2,by rw [updC_ne _ (by omega)]; exact h3⟩
  ·rw [List.getElem?_append_right (by omega)] at hx
   have:j=fs.length∧x=b:=by
    by_cases e:j=fs.length
    ·subst e; simp at hx; exact ⟨rfl,hx.symm⟩
    ·rw [List.getElem?_eq_none (by simp; omega)] at hx; cases hx
   obtain ⟨rfl,rfl⟩ := this
   exact ⟨by omega,hb,updC_at _ _ _⟩
 ·have hi:i<fs.length:=by
   have:=(List.getElem?_eq_some_iff.1 hy).1
   simp at this
   omega
  rw [List.getElem?_append_left hi] at hx
  by_cases hj:j<fs.length
  ·rw [List.getElem?_append_left hj] at hy
   exact h.up i j x y hij hx hy
  ·rw [List.getElem?_append_right (by omega)] at hy
   have:=(h.sf i x hx).1
   have hyb:y=b:=by
    have hm:=List.mem_of_getElem? hy
    simpa using hm
   omega
 ·by_cases e:x=b
  ·subst e; rw [updC_at,hb]; simp
  ·rw [updC_ne _ e]
   have:=h.cl x (by omega)
   rw [List.getElem?_append_left (List.getElem?_eq_some_iff.1 this).1]
   exact this
theorem CsL.old {out cls:Nat→Nat} {b:Nat} {fs:List Nat} (h:CsL out b cls fs) (hlt:out b<b) (hid:out (out b)=out b):CsL out (b+1) (updC cls b (cls (out b))) fs:=by
 refine ⟨fun j x hx => ?_,h.up,fun x hx => ?_⟩
 ·obtain ⟨h1,h2,h3⟩ := h.sf j x hx
  exact ⟨by omega,h2,by rw [updC_ne _ (by omega)]; exact h3⟩
 ·by_cases e:x=b
  ·subst e; rw [updC_at,h.cl _ hlt,hid]
  ·rw [updC_ne _ e]; exact h.cl x (by omega)
theorem CsL.num1 {out cls:Nat→Nat} {fs:List Nat} (h:CsL out 256 cls fs) (hle:∀ x,x<256→out x≤x):Num1 256 fs.length cls (fun e => fs[e]?.getD 0):=by
 refine ⟨fun s hs => (List.getElem?_eq_some_iff.1 (h.cl s hs)).1,fun j hj => ?_,fun s hs => ?_,fun i j hij hj => ?_⟩
 ·have:=h.sf j _ (List.getElem?_eq_getElem hj)
  simp only [List.getElem?_eq_getElem hj,Option.getD_some]
  exact ⟨this.1,this.2.2⟩
 ·simp only [h.cl s hs,Option.getD_some]
  exact hle s hs
 ·have hi:i<fs.length:=by omega
  simp only [List.getElem?_eq_getElem hi,List.getElem?_eq_getElem hj,Option.getD_some]
  exact h.up i j _ _ hij (List.getElem?_eq_getElem hi) (List.getElem?_eq_getElem hj)
theorem CsL.rep {out cls:Nat→Nat} {fs:List Nat} (h:CsL out 256 cls fs) {x:Nat} (hx:x<256):fs[cls x]?.getD 0=out x:=by rw [h.cl x hx]; rfl
theorem Tryz.zinLp:(Tryz.prog.info? 74).map (fun i => (i.zero,i.size,i.bytes))=some (some (.agg #[.slice none 0 0,.bool false]),2,32):=by kernel_rfl
theorem slAt_on {w w':World} {v:Value} {X:List Nat} (h:SlAt mI 0 0 w.heap.size w v (iL X)) (hz:w.heap.size≤w'.heap.size) (hb:0<X.length→∀ b off n c,v = .slice (some ⟨b,off,none⟩) n c→w'.heap[b]? = w.heap[b]?):SlAt mI 0 0 w'.heap.size w' v (iL X):=by
 obtain ⟨a,c,rfl,hl,hc⟩ := h
 refine ⟨a,c,rfl,hl,fun hp => ?_⟩
 obtain ⟨b,off,rfl,h1,h2,h3⟩ := hc hp
 refine ⟨b,off,rfl,h1,by omega,fun i hi => ?_⟩
 rw [World.cell?_of_block (a:=⟨b,off+i,none⟩) (hb (by simpa [iL] using hp) b off _ _ rfl)]
 exact h3 i hi
theorem slAt_lt {w:World} {v:Value} {X:List Nat} (h:SlAt mI 0 0 w.heap.size w v (iL X)) (hp:0<X.length) {b off n c:Nat} (e:v = .slice (some ⟨b,off,none⟩) n c):b<w.heap.size:=by
 obtain ⟨a,c',rfl,hl,hc⟩ := h
 obtain ⟨b',off',rfl,h1,h2,-⟩ := hc (by simpa [iL] using hp)
 cases e
 exact h2
theorem app_pd {w:World} {ops:Array Oper} {rest:List Oper} {o:Oper} {a:Act} {Q:Exit→Act→World→Prop} (hgd:o.guard=none) (s x:Operand)
  (ho:o.op = .call { callee:=.builtin .append,args:=#[s,x],argTypes:=#[75,75] }) (base:Nat) (lv:Value) (hs:a.eval s=lv) (oa:Option Addr) (on oc:Nat) (X:List Nat) (e:Bool) (hx:a.eval x = .slice (some ⟨w.heap.size,0,none⟩) 1 1) (ps:List (Value × List Nat × Bool))
  (h1:PdL w base lv ps) (hov:SlAt mI 0 0 w.heap.size w (.slice oa on oc) (iL X)) (hfar:0<X.length→∀ b off n c,(Value.slice oa on oc) = .slice (some ⟨b,off,none⟩) n c→lv.ownBlock ≠ some b) (hb:base≤w.heap.size) (hl:ps.length≤1000000)
  (h:∀ lv' w',PdL w' base lv' (ps ++ [(.slice oa on oc,X,e)])→FrO (Gro lv w.heap.size) w w'→(∀ q,lv'.ownBlock=some q→lv.ownBlock=some q∨w.heap.size≤q)→wpList Tryz.prog ops Q rest (a.put o.dst lv') w'):wpList Tryz.prog ops Q (o :: rest) a (w.alloc (.cells #[.slice oa on oc,.bool e] 74)):=by
 obtain ⟨i0,hi,hz0,hz1,hz2⟩ := info_parts Tryz.zinLp
 refine wpList_append_own_at _ hgd s x 75 ho base 74 i0 (.agg #[.slice none 0 0,.bool false]) 2 32 Tryz.underlying75 hi hz0 hz1 hz2 rfl (by decide) lv ps.length (fl2 ps) hs (h1.own.alloc _) ⟨w.heap.size,0,none⟩ 1 1 [.slice oa on oc,.bool e] hx rfl (fun j u hu => ?_) (fun u hu => ?_) (by unfold maxLen; omega) (by omega) (by rw [sz_alloc]; omega) ?_
 ·have hr:=Rq2.new w 74 (.slice oa on oc) (.bool e)
  match j,hu with
  | 0,hu => simp at hu; subst hu; exact hr.cells.1
  | 1,hu => simp at hu; subst hu; exact hr.cells.2
 ·simp only [List.mem_cons,List.not_mem_nil,or_false] at hu
  rcases hu with rfl | rfl <;> rfl
 intro lv' w' r1 r2 _ r3
 have hfr:=gro_of r2
 have hgr:∀ q,lv'.ownBlock=some q→lv.ownBlock=some q∨w.heap.size≤q:=fun q hq => by
  rcases r3 with k | k
  ·rw [k] at hq; exact .inl hq
  ·rw [k] at hq
   cases hq
   rw [sz_alloc]
   exact .inr (by omega)
 refine h lv' w' ⟨?_,fun p hp => ?_⟩ hfr hgr
 ·rw [fl2_snoc,List.length_append]; exact r1
 ·have hold:SlAt mI 0 0 w.heap.size w p.1 (iL p.2.1)∧(0<p.2.1.length→∀ b off n c,p.1 = .slice (some ⟨b,off,none⟩) n c→lv.ownBlock ≠ some b):=by
   rcases List.mem_append.1 hp with hp | hp
   ·exact h1.at_ p hp
   ·rw [List.mem_singleton] at hp
    subst hp
    exact ⟨hov,hfar⟩
  refine ⟨slAt_on hold.1 hfr.size (fun hp b off n c he => hfr.block b (fun hg => ?_)),fun hp b off n c he hq => ?_⟩
  ·rcases hg with k | k
   ·exact hold.2 hp b off n c he k
   ·have:=slAt_lt hold.1 hp he; omega
  ·rcases hgr b hq with k | k
   ·exact hold.2 hp b off n c he k
   ·have:=slAt_lt hold.1 hp he; omega
def SubR (pst:List Nat × Bool→Nat→List Nat × Bool) (s0:List Nat × Bool) (x:Ending) (w w':World):Prop :=
 (∃ (cb k:Nat) (nv av:Value) (cls rep:Nat→Nat) (o:List (List Nat × Bool)) (ys:List Nat),x = .returned (.tuple #[.agg #[.slice (some ⟨cb,0,none⟩) 256 256,.int .i64 (k:Nat),nv,av],.bool true])∧PTab pst s0 k cls rep o ys∧ys.length=o.length * k∧o.length≤1024∧k≤256∧w'.rowIs cb 3 256 (fun x => .int .i64 (cls x:Nat))∧w'.ownsRow w.heap.size 3 1 nv ys.length (ys.map mN)∧w'.ownsRow w.heap.size 4 1 av o.length ((o.map Prod.snd).map mT)) ∨
 (∃ (k:Nat) (cls rep:Nat→Nat) (o:List (List Nat × Bool)) (ys:List Nat),x = .returned (.tuple #[.agg #[.slice none 0 0,.int .i64 0,.slice none 0 0,.slice none 0 0],.bool false])∧PTab pst s0 k cls rep o ys∧1024<o.length)
structure SbM (w7 wr:World) (lv nv:Value) (ps:List (Value × List Nat × Bool)) (ys:List Nat):Prop where
 l:PdL wr w7.heap.size lv ps
 n:wr.ownsRow w7.heap.size 3 1 nv ys.length (ys.map mN)
 ap:Ap lv nv
 far:∀ p ∈ ps,0<p.2.1.length→∀ b off n c,p.1 = .slice (some ⟨b,off,none⟩) n c→nv.ownBlock ≠ some b
 lo:Below w7.heap.size w7 wr
theorem SbM.keep {w7 wr wr':World} {lv nv:Value} {ps:List (Value × List Nat × Bool)} {ys:List Nat} (h:SbM w7 wr lv nv ps ys) (hb:Below wr.heap.size wr wr'):SbM w7 wr' lv nv ps ys where
 l:=⟨own_keep h.l.own hb (Nat.le_refl _),fun p hp => ⟨(h.l.at_ p hp).1.below hb (Nat.le_refl _),(h.l.at_ p hp).2⟩⟩
 n:=own_keep h.n hb (Nat.le_refl _)
 ap:=h.ap
 far:=h.far
 lo:=h.lo.trans (hb.mono h.lo.size)
theorem lbox {w10 w11:World} (h:Below ((w10.alloc (.cells #[.slice none 0 0,.bool false] 74)).drew).heap.size ((w10.alloc (.cells #[.slice none 0 0,.bool false] 74)).drew) w11):Rq2 w11 w10.heap.size 74 (.slice none 0 0) (.bool false) :=
 (Rq2.new w10 74 (.slice none 0 0) (.bool false)).on (h.block w10.heap.size (by show w10.heap.size<(w10.alloc (.cells #[.slice none 0 0,.bool false] 74)).heap.size; rw [sz_alloc]; omega))
theorem lbox_c {w:World} {b:Nat} (h:Rq2 w b 74 (.slice none 0 0) (.bool false)):w.cell? ⟨b,0,none⟩ = some (.slice none 0 0)∧w.cell? ⟨b,1,none⟩ = some (.bool false)∧w.frozen? ⟨b,0,none⟩ = false∧w.frozen? ⟨b,1,none⟩ = false:=⟨h.cells.1,h.cells.2,World.rowIs.frozen h 0,World.rowIs.frozen h 1⟩
theorem app_h1 {w:World} {ops:Array Oper} {rest:List Oper} {o:Oper} {a:Act} {Q:Exit→Act→World→Prop} (H:Nat) (hH:w.heap.size=H) (hgd:o.guard=none) (s x:Operand)
  (ho:o.op = .call { callee:=.builtin .append,args:=#[s,x],argTypes:=#[26,26] }) (base:Nat) (v:Value) (hs:a.eval s=v) (y:Nat) (hx:a.eval x = .slice (some ⟨H,0,none⟩) 1 1) (xs:List Nat)
  (h1:w.ownsRow base 3 1 v xs.length (xs.map mN)) (hb:base≤w.heap.size) (hl:xs.length≤1000000)
  (h:∀ v' w',w'.ownsRow base 3 1 v' (xs ++ [y]).length ((xs ++ [y]).map mN)→FrO (Gro v w.heap.size) w w'→(∀ q,v'.ownBlock=some q→v.ownBlock=some q∨w.heap.size≤q)→wpList Tryz.prog ops Q rest (a.put o.dst v') w'):wpList Tryz.prog ops Q (o :: rest) a (w.alloc (.cells #[.int .i64 (y:Nat)] 3)):=by
 subst hH
 exact app_n1 hgd s x ho base v hs y hx xs h1 hb hl h
def ToBox (w10 wx:World) (bx:Value) (R1:List Nat) (R2:Bool):Prop:=∃ (rb:Nat) (oa:Option Addr) (oc:Nat),bx = .pointer (some ⟨rb,0,none⟩)∧w10.heap.size≤rb∧Rq2 wx rb 74 (.slice oa R1.length oc) (.bool R2)∧SlAt mI 0 0 wx.heap.size wx (.slice oa R1.length oc) (iL R1)∧(0<R1.length→∀ b off n c,Value.slice oa R1.length oc = .slice (some ⟨b,off,none⟩) n c→w10.heap.size≤b)∧Below w10.heap.size w10 wx
theorem own_iL {w:World} {base:Nat} {v:Value} {X:List Nat} (h:w.ownsRow base 3 1 v X.length (X.map mN)) (hl:X.length≤1048576):SlAt mI 0 0 w.heap.size w v (iL X):=by
 have h2:w.ownsRow base 3 1 v (iL X).length ((iL X).map mI):=by
  have e1:(iL X).length=X.length:=by simp [iL]
  have e2:(iL X).map mI=X.map mN:=by simp [iL,mN]
  rw [e1,e2]; exact h
 exact (own_slw h2 (Nat.zero_le _) (by have e9:(iL X).length=X.length:=by { simp [iL] }; unfold maxLen; omega)).at
theorem own_far2 {w:World} {base n:Nat} {oa:Option Addr} {l oc:Nat} {xs:List Value} (h:w.ownsRow base 3 1 (.slice oa l oc) n xs):∀ b off m c,Value.slice oa l oc = .slice (some ⟨b,off,none⟩) m c→base≤b:=fun b off m c e => (h.lt b (by cases e; rfl)).1
theorem toBox_a {w10 w11:World} {oa:Option Addr} {oc:Nat} {R1:List Nat} {R2:Bool} (hown:w11.ownsRow w10.heap.size 3 1 (.slice oa R1.length oc) R1.length (R1.map mN)) (hl:R1.length≤512) (hb:Below w10.heap.size w10 w11):ToBox w10 (w11.alloc (.cells #[.slice oa R1.length oc,.bool R2] 74)) (.pointer (some ⟨w11.heap.size,0,none⟩)) R1 R2:=by
 have hb1:=below1 w11 (.cells #[.slice oa R1.length oc,.bool R2] 74)
 exact ⟨_,oa,oc,rfl,hb.size,Rq2.new _ _ _ _,(own_iL hown (by omega)).below hb1 (Nat.le_refl _),fun _ => own_far2 hown,hb.trans (hb1.mono hb.size)⟩
theorem toBox_b {w10 w11:World} {oa:Option Addr} {oc:Nat} {R1:List Nat} {R2:Bool} (hown:w11.ownsRow (w10.heap.size+1) 3 1 (.slice oa R1.length oc) R1.length (R1.map mN)) (hl:R1.length≤512) (hR:Rq2 w11 w10.heap.size 74 (.slice none 0 0) (.bool false)) (hb:Below w10.heap.size w10 w11):ToBox w10 ((w11.setCell ⟨w10.heap.size,0,none⟩ (.slice oa R1.length oc)).setCell ⟨w10.heap.size,1,none⟩ (.bool R2)) (.pointer (some ⟨w10.heap.size,0,none⟩)) R1 R2:=by
 have ho:Obk w10.heap.size w11 ((w11.setCell ⟨w10.heap.size,0,none⟩ (.slice oa R1.length oc)).setCell ⟨w10.heap.size,1,none⟩ (.bool R2)):=(obk_put _ _).trans (obk_put _ _)
 refine ⟨_,oa,oc,rfl,Nat.le_refl _,hR.put0.put1,slAt_on (own_iL hown (by omega)) (Nat.le_of_eq ho.size.symm) (fun _ b off n c e => ho.block b (by have:=own_far2 hown b off n c e; omega)),fun _ b off n c e => by have:=own_far2 hown b off n c e; omega,hb.trans (ho.bel (Nat.le_refl _))⟩
theorem lz_c (w:World):(w.alloc (.cells #[.slice none 0 0,.bool false] 74)).cell? ⟨w.heap.size,0,none⟩ = some (.slice none 0 0)∧(w.alloc (.cells #[.slice none 0 0,.bool false] 74)).cell? ⟨w.heap.size,1,none⟩ = some (.bool false)∧(w.alloc (.cells #[.slice none 0 0,.bool false] 74)).frozen? ⟨w.heap.size,0,none⟩ = false∧(w.alloc (.cells #[.slice none 0 0,.bool false] 74)).frozen? ⟨w.heap.size,1,none⟩ = false:=lbox_c (Rq2.new w _ _ _)
theorem pstep_len (N:Nat) (hold fol:Nat→Nat→Bool) (last:Nat→Bool) (x:List Nat × Bool) (b:Nat):(pstep N hold fol last x b).1.length≤N∧∀ y ∈ (pstep N hold fol last x b).1,y<N:=by
 refine ⟨Nat.le_trans (List.length_filter_le _ _) (by simp),fun y hy => ?_⟩
 exact List.mem_range.1 (List.mem_filter.1 hy).1
theorem alk_same {N:Nat} {S:List (List Int)} {hold fol:Nat→Nat→Bool} {last:Nat→Bool} (hSn:S.length=N) (hh:∀ b,b<256→∀ i,i<N→(hold i b=true↔inPs (S[i]?.getD []) (b:Int))) (hho:∀ i b,N≤i→hold i b=false) {a b:Nat} (ha:a<256) (hb:b<256) (h:Alk S a b) (x:List Nat × Bool):pstep N hold fol last x a=pstep N hold fol last x b:=by
 refine pstep_same x fun i _ => ?_
 by_cases hi:i<N
 ·rw [Bool.eq_iff_iff,hh a ha i hi,hh b hb i hi]; exact h i (by omega)
 ·rw [hho i a (by omega),hho i b (by omega)]
theorem lb_new {w w':World} {h:Nat} (hb:Below (w.drew).heap.size w.drew w') (hh:h=w.heap.size):Below h w w':=by subst hh; exact ⟨hb.os,hb.tape,hb.output,hb.size,fun k hk => hb.block k hk⟩
theorem bfs_old2 {k:Nat} {fn:List Nat × Bool→Nat→List Nat × Bool} {s0 x r:List Nat × Bool} {ps:List (Value × List Nat × Bool)} {ys:List Nat} {i e j:Nat} {pv:Value} {p:Value × List Nat × Bool} (h:Bfs k fn s0 (ps.map Prod.snd) ys) (hd:ys.length / k=i∧ys.length % k=e) (hi:ps[i]? = some (pv,x)) (hr:fn x e=r) (hj:ps[j]? = some p) (hp:p.2=r):Bfs k fn s0 (ps.map Prod.snd) (ys ++ [j]) :=
 h.old (x:=x) (by rw [hd.1,List.getElem?_map,hi]; rfl) (by rw [hd.2,List.getElem?_map,hj,hr,← hp]; rfl)
theorem bfs_new2 {k:Nat} {fn:List Nat × Bool→Nat→List Nat × Bool} {s0 x r:List Nat × Bool} {ps:List (Value × List Nat × Bool)} {ys:List Nat} {i e:Nat} {pv:Value} (h:Bfs k fn s0 (ps.map Prod.snd) ys) (hd:ys.length / k=i∧ys.length % k=e) (hi:ps[i]? = some (pv,x)) (hr:fn x e=r) (hno:∀ (i:Nat) (p:Value × List Nat × Bool),ps[i]? = some p→p.2 ≠ r) (ov:Value):Bfs k fn s0 ((ps ++ [(ov,r)]).map Prod.snd) (ys ++ [ps.length]):=by
 have:=h.new (x:=x) (by rw [hd.1,List.getElem?_map,hi]; rfl) (fun j hj e9 => by
  rw [hd.2,hr,List.getElem?_map] at e9
  cases e8:ps[j]? with
  | none => rw [e8] at e9; cases e9
  | some p => rw [e8] at e9; exact hno j p e8 (Option.some.inj e9))
 rw [hd.2,hr,List.length_map] at this
 rw [List.map_append]
 exact this
theorem SbM.pushL {w7 w w':World} {lv lv' nv ov:Value} {ps:List (Value × List Nat × Bool)} {ys:List Nat} {X:List Nat} {e:Bool} (h:SbM w7 w lv nv ps ys) (hl:PdL w' w7.heap.size lv' (ps ++ [(ov,X,e)])) (hf:FrO (Gro lv w.heap.size) w w') (hg:∀ q,lv'.ownBlock=some q→lv.ownBlock=some q∨w.heap.size≤q) (hfar:0<X.length→∀ b off n c,ov = .slice (some ⟨b,off,none⟩) n c→nv.ownBlock ≠ some b):SbM w7 w' lv' nv (ps ++ [(ov,X,e)]) ys where
 l:=hl
 n:=hf.own h.n h.ap.symm
 ap:=(h.ap.symm.grow h.n hg).symm
 far:=fun p hp hx b off n c he => by
  rcases List.mem_append.1 hp with hp | hp
  ·exact h.far p hp hx b off n c he
  ·rw [List.mem_singleton] at hp
   subst hp
   exact hfar hx b off n c he
 lo:=h.lo.trans (hf.belowG h.l.own (Nat.le_refl _) h.lo.size)
theorem SbM.pushN {w7 w w':World} {lv nv nv':Value} {ps:List (Value × List Nat × Bool)} {ys ys':List Nat} (h:SbM w7 w lv nv ps ys) (hn:w'.ownsRow w7.heap.size 3 1 nv' ys'.length (ys'.map mN)) (hf:FrO (Gro nv w.heap.size) w w') (hg:∀ q,nv'.ownBlock=some q→nv.ownBlock=some q∨w.heap.size≤q):SbM w7 w' lv nv' ps ys' where
 l:=⟨hf.own h.l.own h.ap,fun p hp => ⟨slAt_on (h.l.at_ p hp).1 hf.size (fun hx b off n c he => hf.block b (fun k => by
  rcases k with k | k
  ·exact h.far p hp hx b off n c he k
  ·have:=slAt_lt (h.l.at_ p hp).1 hx he; omega)),(h.l.at_ p hp).2⟩⟩
 n:=hn
 ap:=h.ap.grow h.l.own hg
 far:=fun p hp hx b off n c he e => by
  rcases hg b e with k | k
  ·exact h.far p hp hx b off n c he k
  ·have:=slAt_lt (h.l.at_ p hp).1 hx he; omega
 lo:=h.lo.trans (hf.belowG h.n (Nat.le_refl _) h.lo.size)
set_option maxHeartbeats 8000000 in
set_option maxRecDepth 100000 in
theorem l2subsets_any (l r:Bool) (v:Value) (xs:List El) (w:World) (hv:ElsAt 0 w.heap.size w v xs) (S W:List (List Int)) (nl:Bool) (X0:List Nat) (L:List Int) (N:Nat) (hold fol:Nat→Nat→Bool) (last:Nat→Bool)
  (hA:∀ S' b' F' L' W',AnsA l r xs S' b' F' L' W'→S'=S∧b'=nl∧F'=iL X0∧L'=L∧W'=W)
  (hSn:S.length=N) (hWn:W.length=N) (hN:N≤512) (hX:∀ x ∈ X0,x<N) (hSl:∀ i:Nat,i<N→(S[i]?.getD []).length≤1048576) (hh:∀ b,b<256→∀ i,i<N→(hold i b=true↔inPs (S[i]?.getD []) (b:Int))) (hf:∀ i,i<N→W[i]?.getD []=((List.range N).filter (fol i)).map fun (j:Nat) => (j:Int)) (hl:∀ i:Nat,i<N→(last i=true↔(i:Int) ∈ L)) (hho:∀ i b,N≤i→hold i b=false) :
  Calls Tryz.prog 15 #[.agg #[.bool l,.bool r,v]] w fun x w' => Below w.heap.size w w'∧SubR (pstep N hold fol last) (X0,nl) x w w':=by
 obtain ⟨a,cp,rfl,-,-⟩ := id hv
 obtain ⟨W2,hW2⟩ : ∃ W2,W2=(w.alloc (.cells #[.bool l,.bool r,.slice a xs.length cp] 34)).alloc (.cells #[.slice none 0 0,.int .i64 0,.slice none 0 0,.slice none 0 0] 29):=⟨_,rfl⟩
 have hB2:Below w.heap.size w W2:=by rw [hW2]; exact below2 w _ _
 have hz2:W2.heap.size=w.heap.size+2:=by rw [hW2,sz_alloc,sz_alloc]
 have hE2:Row4 W2 (w.heap.size+1) 29 (.slice none 0 0) (.int .i64 0) (.slice none 0 0) (.slice none 0 0):=by
  have:=Row4.new (w.alloc (.cells #[.bool l,.bool r,.slice a xs.length cp] 34)) 29 (.slice none 0 0) (.int .i64 0) (.slice none 0 0) (.slice none 0 0)
  rw [sz_alloc] at this
  rw [hW2]
  exact this
 have HPO:=hide (specPos_any l r _ xs W2 (hv.below hB2 (Nat.le_refl _)))
 have hmk:=run_make_row' (P:=Tryz.prog) 26 3 (.int .i64 0) 8 Tryz.underlying26 Tryz.zinInt rfl .i64 .i64 256 (by omega) (by omega)
 simp only [show ((256:Nat):Int)=256 from rfl] at hmk
 have HA:=hide hA
 have HX:=hide hX
 have HSL:=hide hSl
 have HH:=hide hh
 have HF:=hide hf
 have HLA:=hide hl
 have HHO:=hide hho
 have HSN:=hide hSn
 have HWN:=hide hWn
 have HW2:=hide hW2
 have HB2:=hide hB2
 have HE2:=hide hE2
 clear hA hX hSl hh hf hl hho hSn hWn hW2 hB2 hE2 hv
 go_enter Tryz.func15,Tryz.ntmps15
 go_wp2_with fail
 rw [← unhide HW2]
 refine (unhide HPO).mono ?_
 rintro e w3 ⟨v',S',nl',F',L',WW,rfl,hans,⟨sv,fv,lv,wv,rfl,s1,s2,s3,s4⟩,hb3⟩
 obtain ⟨rfl,rfl,rfl,rfl,rfl⟩ := unhide HA _ _ _ _ _ hans
 have hz3:=hb3.size
 obtain ⟨w4,hw4⟩ : ∃ w4,w4=w3.alloc (.cells #[sv,.bool nl',fv,lv,wv] 70):=⟨_,rfl⟩
 have hV4:Below w3.heap.size w3 w4:=by rw [hw4]; exact below1 w3 _
 have hz4:w3.heap.size+1≤w4.heap.size:=by rw [hw4,sz_alloc]; omega
 have hR4:Row5 w4 w3.heap.size sv nl' fv lv wv:=by rw [hw4]; exact Row5.new w3 _ _ _ _ _
 have hB4:Below w.heap.size w w4:=(unhide HB2).trans ((hb3.mono (by omega)).trans (hV4.mono (by omega)))
 have hE4:=((unhide HE2).below hb3 (by omega)).below hV4 (by omega)
 have hS4:SsAt mI 0 w4.heap.size w4 sv S'∧SlAt mI 0 0 w4.heap.size w4 fv (iL X0)∧SlAt mI 0 0 w4.heap.size w4 lv L'∧SsAt mI 0 w4.heap.size w4 wv WW:=⟨s1.below hV4 (Nat.le_refl _),s2.below hV4 (Nat.le_refl _),s3.below hV4 (Nat.le_refl _),s4.below hV4 (Nat.le_refl _)⟩
 have HAL:=hide (l2alike_any sv S' w4 hS4.1 (by rw [unhide HSN]; omega) (by rw [unhide HSN]; exact unhide HSL))
 obtain ⟨q1,qc1,rfl,-,-⟩ := id s1
 obtain ⟨q2,qc2,rfl,-,-⟩ := id s2
 obtain ⟨q3,qc3,rfl,-,-⟩ := id s3
 obtain ⟨q4,qc4,rfl,-,-⟩ := id s4
 have HS4:=hide hS4
 have HR4:=hide hR4
 have HB4:=hide hB4
 have HE4:=hide hE4
 have HW4:=hide hw4
 obtain ⟨f0,f1,f2,f3,f4⟩ := hR4.facts
 rw [hw4] at f0 f1 f2 f3 f4
 clear s1 s2 s3 s4 hb3 hV4 hR4 hB4 hE4 hS4 hw4 hans HPO HW2 HB2 HE2 HA
 go_wp2_with fail
 rw [← unhide HW4]
 clear HW4 f0 f1 f2 f3 f4
 refine (unhide HAL).mono ?_
 rintro e w5 ⟨av,out,rfl,hown5,hol,hout,hb5⟩
 have hz5:=hb5.size
 obtain ⟨ag,acap,rfl,-,-,-,hacell⟩ := own_cells hown5 (by omega)
 obtain ⟨w6,hw6⟩ : ∃ w6,w6=w5.alloc (.cells (madeCells #[.int .i64 0] 256) 3):=⟨_,rfl⟩
 have hP6:w6.rowIs w5.heap.size 3 256 (fun _ => .int .i64 (((0:Nat):Nat):Int)):=by rw [hw6]; exact World.rowIs_made w5 _ 256 _
 have hz6:w5.heap.size+1≤w6.heap.size:=by rw [hw6,sz_alloc]; omega
 have hb6:Below w5.heap.size w5 w6:=by rw [hw6]; exact below1 w5 _
 obtain ⟨outf,houtf⟩ : ∃ outf:Nat→Nat,outf=fun x => out[x]?.getD 0:=⟨_,rfl⟩
 have hofl:∀ x,x<256→outf x≤x:=fun x hx => by rw [houtf]; exact (hout x hx).le
 have hoid:∀ x,x<256→outf (outf x)=outf x:=fun x hx => by
  rw [houtf]
  rcases hout x hx with ⟨k1,-,k3,-⟩ | ⟨k1,-⟩
  ·exact k3
  ·show out[out[x]?.getD 0]?.getD 0=out[x]?.getD 0
   rw [k1,k1]
 have halk:∀ x,x<256→Alk S' (outf x) x:=fun x hx => by
  rw [houtf]
  rcases hout x hx with ⟨-,-,-,k4,-⟩ | ⟨k1,-⟩
  ·exact k4
  ·show Alk S' (out[x]?.getD 0) x
   rw [k1]; exact (alk_equ S').rfl' x trivial
 have hcellA:∀ x,x<256→w5.cell? ⟨ag,x,none⟩ = some (.int .i64 (outf x:Nat)):=fun x hx => by
  rw [hacell x (by omega),List.getElem?_map,List.getElem?_eq_getElem (by omega:x<out.length),houtf]
  simp only [List.getElem?_eq_getElem (by omega:x<out.length),Option.getD_some]
  rfl
 have hagl:ag<w5.heap.size:=World.block_lt_of_cell? _ _ (hcellA 0 (by omega))
 have HOFL:=hide hofl
 have HOID:=hide hoid
 have HALK:=hide halk
 have HCA:=hide hcellA
 have HP6:=hide hP6
 have HB6:=hide hb6
 have HB5:=hide hb5
 have HW6:=hide hw6
 clear hofl hoid halk hcellA hP6 hb6 hb5 hw6 houtf hout hol hown5 hacell HAL
 go_wp2_with fail
 rw [← unhide HW6]
 clear HW6 hmk
 go_loopw [6,8] (fun rv bv wr => ∃ (b:Nat) (fs:List Nat) (cls:Nat→Nat),b≤256∧bv = .int .i64 (b:Nat)∧wr.ownsRow (w5.heap.size+1) 3 1 rv fs.length (fs.map mN)∧wr.rowIs w5.heap.size 3 256 (fun x => .int .i64 (cls x:Nat))∧Below w5.heap.size w5 wr∧w5.heap.size+1≤wr.heap.size∧CsL outf b cls fs) (fun _ bv _ => 256 - (intOf bv).toNat)
 case atStart => exact ⟨0,[],fun _ => 0,by omega,rfl,World.ownsRow_nil _ _ _ _,unhide HP6,unhide HB6,hz6,CsL.start _ _⟩
 case round =>
  clear HP6 HB6 hz6
  obtain ⟨b,fs,cls,hb,rfl,hown,hP,hB,hzr,hC⟩ := hrel
  obtain ⟨w7,rfl⟩ : ∃ w7,w7=wr:=⟨_,rfl⟩
  have hfl:=hC.le
  obtain ⟨ra,rc,rfl⟩ := own_is hown
  by_cases hlt:b<256
  ·have hlt':(b:Int)<256:=by omega
   have y0:w7.cell? ⟨ag,b,none⟩ = some (.int .i64 (outf b:Nat)):=by rw [hB.cell (p:=⟨ag,b,none⟩) hagl]; exact unhide HCA b hlt
   have hle:=unhide HOFL b hlt
   have hid:=unhide HOID b hlt
   obtain ⟨ob,hob⟩ : ∃ ob,ob=outf b:=⟨_,rfl⟩
   rw [← hob] at y0 hle hid
   have y1:=hP.cell (i:=b) hlt
   have y2:=hP.frozen b
   have y3:=hP.cell (i:=ob) (by omega)
   have hobn:(ob:Int)<256:=by omega
   by_cases heq:ob=b
   ·have hC2:=hC.new (by rw [← hob]; exact heq)
    obtain ⟨w8,hw8⟩ : ∃ w8,w8=w7.setCell ⟨w5.heap.size,b,none⟩ (.int .i64 (fs.length:Nat)):=⟨_,rfl⟩
    have hP8:w8.rowIs w5.heap.size 3 256 (fun x => .int .i64 (updC cls b fs.length x:Nat)):=by
     rw [hw8]
     exact (World.rowIs.set hP b _).congr (fun j _ => by by_cases e:j=b <;> simp [updC,e])
    have hob8:Obk w5.heap.size w7 w8:=by rw [hw8]; exact obk_put _ _
    have hz8:=Nat.le_of_eq hob8.size.symm
    have HZ8:=hide hob8.size
    have hown8:=own_blk hown (fun q hq => hob8.block q (by have:=(hown.lt q hq).1; omega))
    have hB8:Below w5.heap.size w5 w8:=hB.trans hob8.blw
    rw [heq] at y0
    have HC2:=hide hC2
    have HP8:=hide hP8
    have HO8:=hide hown8
    have HB8:=hide hB8
    have HW8:=hide hw8
    clear hown hP hB hC hC2 hP8 hown8 hB8 hw8 hob hid hle y3 heq hob8
    go_wp2_with (at_builtin; rw [← unhide HW8]; refine app_h1 w7.heap.size (unhide HZ8) rfl _ _ rfl (w5.heap.size+1) (.slice ra fs.length rc) rfl b rfl fs (unhide HO8) (by omega) (by omega) ?_)
    intro rv9 w9 r1 r2 r3
    have hb9:Below (w5.heap.size+1) w8 w9:=r2.belowG (unhide HO8) (Nat.le_refl _) (by omega)
    obtain ⟨fs2,hfs2⟩ : ∃ fs2,fs2=fs ++ [b]:=⟨_,rfl⟩
    have r1:w9.ownsRow (w5.heap.size+1) 3 1 rv9 fs2.length (fs2.map mN):=by rw [hfs2,List.length_append,List.map_append]; exact r1
    rw [← hfs2] at HC2
    have hP9:=(unhide HP8).of_block (hb9.block w5.heap.size (by omega))
    have hB9:Below w5.heap.size w5 w9:=(unhide HB8).trans (hb9.mono (by omega))
    have hz9:=hb9.size
    have HO9:=hide r1
    have HP9:=hide hP9
    have HB9:=hide hB9
    clear r1 r2 r3 hb9 hP9 hB9 hfs2 y0 y1 y2
    go_wp2
    go_roundw
    case rel => exact ⟨b+1,fs2,_,by omega,by go_num,unhide HO9,unhide HP9,unhide HB9,by omega,unhide HC2⟩
    case measure => simp [intOf]; omega
   ·have hltb:ob<b:=by omega
    have hne:¬ (ob:Int)=(b:Int):=by omega
    have hC2:=hC.old (by rw [← hob]; exact hltb) (by rw [← hob]; rw [hid])
    rw [← hob] at hC2
    have hP8:(w7.setCell ⟨w5.heap.size,b,none⟩ (.int .i64 (cls ob:Nat))).rowIs w5.heap.size 3 256 (fun x => .int .i64 (updC cls b (cls ob) x:Nat)):=(World.rowIs.set hP b _).congr (fun j _ => by by_cases e:j=b <;> simp [updC,e])
    have hob8:Obk w5.heap.size w7 (w7.setCell ⟨w5.heap.size,b,none⟩ (.int .i64 (cls ob:Nat))):=obk_put _ _
    have hown8:=own_blk hown (fun q hq => hob8.block q (by have:=(hown.lt q hq).1; omega))
    have hB8:=hB.trans hob8.blw
    have HZ8:Hid (w5.heap.size+1≤(w7.setCell ⟨w5.heap.size,b,none⟩ (.int .i64 (cls ob:Nat))).heap.size):=by show _≤_; rw [hob8.size]; exact hzr
    have HC2:=hide hC2
    have HP8:=hide hP8
    have HO8:=hide hown8
    have HB8:=hide hB8
    clear hown hP hB hC hC2 hP8 hown8 hB8 hob hid hle heq hob8
    go_wp2
    go_roundw
    case rel => exact ⟨b+1,fs,_,by omega,by go_num,unhide HO8,unhide HP8,unhide HB8,unhide HZ8,unhide HC2⟩
    case measure => simp [intOf]; omega
  ·have hlt':¬ (b:Int)<256:=by omega
   obtain rfl:b=256:=by omega
   have hz7:=hB.size
   have hR7:=(unhide HR4).on (w':=w7) ((hB.block _ (by omega)).trans ((unhide HB5).block _ (by omega)))
   obtain ⟨f0,f1,f2,f3,f4⟩ := hR7.facts
   have hB47:Below w4.heap.size w4 w7:=(unhide HB5).trans (hB.mono hz5)
   obtain ⟨w8,hw8⟩ : ∃ w8,w8=w7.alloc (.cells #[.slice q2 (iL X0).length qc2,.bool nl'] 74):=⟨_,rfl⟩
   have hb8:Below w7.heap.size w7 w8:=by rw [hw8]; exact below1 w7 _
   have hS7:=(unhide HS4).2.1.below hB47 (Nat.le_refl _)
   have hM8:SbM w7 w8 (.slice (some ⟨w7.heap.size,0,none⟩) 1 1) (.slice none 0 0) [(.slice q2 (iL X0).length qc2,X0,nl')] []:=by
    refine ⟨⟨?_,fun p hp => ?_⟩,World.ownsRow_nil _ _ _ _,fun q _ h => (by cases h),fun p _ _ b off n c _ h => (by cases h),hb8⟩
    ·refine ⟨rfl,.inr ⟨_,1,#[.slice q2 (iL X0).length qc2,.bool nl'],rfl,Nat.le_refl _,?_,Nat.le_refl _,by unfold maxLen; omega,rfl,rfl⟩⟩
     rw [hw8]
     exact (MapKept.heap_alloc _ _).1
    ·rw [List.mem_singleton] at hp
     subst hp
     refine ⟨hS7.below hb8 (Nat.le_refl _),fun hp b off n c he hq => ?_⟩
     have h1:=slAt_lt hS7 hp he
     have hq':some w7.heap.size=some b:=hq
     have:=Option.some.inj hq'
     omega
   have HOR:=hide hown
   have HP7:=hide hP
   have HB7:=hide hB
   have HC:=hide hC
   have HR7:=hide hR7
   have HB47:=hide hB47
   have HE7:=hide ((unhide HE4).below hB47 (by omega))
   have HBW7:Hid (Below w.heap.size w w7):=(unhide HB4).trans (hB47.mono (unhide HB4).size)
   have HM8:=hide hM8
   have HW8:=hide hw8
   clear hown hP hB hC hR7 hB47 hb8 hM8 hw8 hS7
   go_wp2_with fail
   rw [← unhide HW8]
   clear HW8 f0 f1 f2 f3 f4
   go_loopw [9,10,11] (fun lv nv iv wr => ∃ (i:Nat) (ps:List (Value × List Nat × Bool)) (ys:List Nat),i≤ps.length∧iv = .int .i64 (i:Nat)∧SbM w7 wr lv nv ps ys∧Bfs fs.length (fun x e => pstep N hold fol last x (fs[e]?.getD 0)) (X0,nl') (ps.map Prod.snd) ys∧ys.length=i * fs.length∧ps.length≤1024∧∀ p ∈ ps,∀ x ∈ p.2.1,x<N) (fun _ _ iv _ => 1024 - (intOf iv).toNat)
   case atStart => exact ⟨0,_,[],by simp,rfl,unhide HM8,Bfs.start _ _ _,by simp,by simp,fun p hp => by rw [List.mem_singleton] at hp; subst hp; exact unhide HX⟩
   case round =>
    clear HM8
    obtain ⟨i,ps,ys,hi,rfl,hM,hBf,hyl,hpl,hin⟩ := hrel
    obtain ⟨w9,rfl⟩ : ∃ w9,w9=wr:=⟨_,rfl⟩
    obtain ⟨la,lc,e1⟩ := own_is hM.l.own
    subst e1
    obtain ⟨na,nc,e2⟩ := own_is hM.n
    subst e2
    have hyb:ys.length≤1024 * 256:=by rw [hyl]; exact Nat.mul_le_mul (Nat.le_trans hi hpl) hfl
    have HM:=hide hM
    have HBF:=hide hBf
    have HYL:=hide hyl
    have HIN:=hide hin
    clear hM hBf hyl hin
    by_cases hlt2:i<ps.length
    ·have hlt2':(i:Int)<(ps.length:Int):=by omega
     obtain ⟨p,hpi⟩ : ∃ p,ps[i]? = some p:=⟨_,List.getElem?_eq_getElem hlt2⟩
     have HPI:=hide hpi
     clear hpi
     go_wp2_with fail
     go_loopw [9,10,12] (fun lv nv ev wr => ∃ (e:Nat) (ps:List (Value × List Nat × Bool)) (ys:List Nat),e≤fs.length∧ev = .int .i64 (e:Nat)∧ps[i]? = some p∧SbM w7 wr lv nv ps ys∧Bfs fs.length (fun x e => pstep N hold fol last x (fs[e]?.getD 0)) (X0,nl') (ps.map Prod.snd) ys∧ys.length=i * fs.length+e∧ps.length≤1024∧∀ p ∈ ps,∀ x ∈ p.2.1,x<N) (fun _ _ ev _ => fs.length - (intOf ev).toNat)
     case atStart => exact ⟨0,ps,ys,by omega,rfl,unhide HPI,unhide HM,unhide HBF,by rw [unhide HYL]; rfl,hpl,unhide HIN⟩
     case round =>
      clear HM HBF HYL HIN HPI hlt2 hlt2' hi hpl hyb
      obtain ⟨e,ps,ys,he,rfl,hpi,hM,hBf,hyl,hpl,hin⟩ := hrel
      obtain ⟨w10,rfl⟩ : ∃ w10,w10=wr:=⟨_,rfl⟩
      have hilt:=get_lt hpi
      have hyb:ys.length≤1024 * 256+256:=by
       rw [hyl]; exact Nat.add_le_add (Nat.mul_le_mul (Nat.le_trans (Nat.le_of_lt hilt) hpl) hfl) (Nat.le_trans he hfl)
      have hz10:=hM.lo.size
      by_cases hel:e<fs.length
      ·have hel':(e:Int)<(fs.length:Int):=by omega
       obtain ⟨y,hy⟩ : ∃ y,fs[e]? = some y:=⟨_,List.getElem?_eq_getElem hel⟩
       have hyy:=(unhide HC).sf e y hy
       have hilt':(i:Int)<(ps.length:Int):=by omega
       obtain ⟨lg,lcap,e9,-,hlg,hcell⟩ := own_cells2 hM.l.own (by omega)
       subst e9
       obtain ⟨pv,X,ep⟩ := p
       obtain ⟨c1,c2⟩ := fl2_at ps hpi
       have y0:w10.cell? ⟨lg,i * 2,none⟩ = some pv:=by rw [hcell _ (by omega),c1]
       have y1:w10.cell? ⟨lg,i * 2+1,none⟩ = some (.bool ep):=by rw [hcell _ (by omega),c2]
       obtain ⟨hat0,-⟩ := hM.l.at_ _ (List.mem_of_getElem? hpi)
       have hat:SlAt mI 0 0 w10.heap.size w10 pv (iL X):=hat0
       clear hat0
       obtain ⟨pa,pc,e8,-,-⟩ := id hat
       subst e8
       obtain ⟨rg,rcap,e7,-,hrg,-,hrcell⟩ := own_cells (unhide HOR) (by omega)
       have hrax:ra=some ⟨rg,0,none⟩∧rc=rcap:=by simpa using e7
       obtain ⟨era,erc⟩ := hrax
       have y2:w10.cell? ⟨rg,e,none⟩ = some (.int .i64 (y:Nat)):=by
        rw [hM.lo.cell (p:=⟨rg,e,none⟩) hrg,hrcell e hel,List.getElem?_map,hy]; rfl
       have hB410:Below w4.heap.size w4 w10:=(unhide HB47).trans (hM.lo.mono (by omega))
       obtain ⟨f0,f1,f2,f3,f4⟩ := ((unhide HR7).on (hM.lo.block _ (by omega))).facts
       have HR10:=hide ((unhide HR7).on (hM.lo.block _ (by omega)))
       have hrg10:rg<w10.heap.size:=by omega
       have g0:∀ o:Obj,(w10.alloc o).cell? ⟨w3.heap.size,0,none⟩ = some (.slice q1 S'.length qc1):=fun o => ((unhide HR10).on ((below1 w10 o).block _ (by omega))).facts.1
       have g1:∀ o:Obj,(w10.alloc o).cell? ⟨w3.heap.size,1,none⟩ = some (.bool nl'):=fun o => ((unhide HR10).on ((below1 w10 o).block _ (by omega))).facts.2.1
       have g2:∀ o:Obj,(w10.alloc o).cell? ⟨w3.heap.size,2,none⟩ = some (.slice q2 (iL X0).length qc2):=fun o => ((unhide HR10).on ((below1 w10 o).block _ (by omega))).facts.2.2.1
       have g3:∀ o:Obj,(w10.alloc o).cell? ⟨w3.heap.size,3,none⟩ = some (.slice q3 L'.length qc3):=fun o => ((unhide HR10).on ((below1 w10 o).block _ (by omega))).facts.2.2.2.1
       have g4:∀ o:Obj,(w10.alloc o).cell? ⟨w3.heap.size,4,none⟩ = some (.slice q4 WW.length qc4):=fun o => ((unhide HR10).on ((below1 w10 o).block _ (by omega))).facts.2.2.2.2
       have y0a:∀ o:Obj,(w10.alloc o).cell? ⟨lg,i * 2,none⟩ = some (.slice pa (iL X).length pc):=fun o => by rw [(below1 w10 o).cell (p:=⟨lg,i * 2,none⟩) hlg]; exact y0
       have y1a:∀ o:Obj,(w10.alloc o).cell? ⟨lg,i * 2+1,none⟩ = some (.bool ep):=fun o => by rw [(below1 w10 o).cell (p:=⟨lg,i * 2+1,none⟩) hlg]; exact y1
       have y2a:∀ o:Obj,(w10.alloc o).cell? ⟨rg,e,none⟩ = some (.int .i64 (y:Nat)):=fun o => by rw [(below1 w10 o).cell (p:=⟨rg,e,none⟩) hrg10]; exact y2
       have HSTG:Hid (∀ V:World,Below w10.heap.size w10 V→Calls Tryz.prog 35 #[.agg #[.slice q1 S'.length qc1,.bool nl',.slice q2 (iL X0).length qc2,.slice q3 L'.length qc3,.slice q4 WW.length qc4],.agg #[.slice pa (iL X).length pc,.bool ep],.int .i64 (y:Nat)] V fun x w' => ∃ ov:Value,x = .returned (.agg #[ov,.bool (pstep N hold fol last (X,ep) y).2])∧w'.ownsRow V.heap.size 3 1 ov (pstep N hold fol last (X,ep) y).1.length ((pstep N hold fol last (X,ep) y).1.map mN)∧Below V.heap.size V w'):=fun V hV => by
        have h4:Below w4.heap.size w4 V:=hB410.trans (hV.mono (by omega))
        exact l2step_any S' WW (iL X0) L' nl' ep _ _ _ _ _ X y N hold fol last V ((unhide HS4).1.below h4 (Nat.le_refl _)) ((unhide HS4).2.1.below h4 (Nat.le_refl _)) ((unhide HS4).2.2.1.below h4 (Nat.le_refl _)) ((unhide HS4).2.2.2.below h4 (Nat.le_refl _)) (hat.below hV (Nat.le_refl _)) (unhide HSN) (unhide HWN) hN (hin _ (List.mem_of_getElem? hpi)) (unhide HSL) (unhide HH y hyy.1) (unhide HF) (unhide HLA)
       obtain ⟨R1,hR1⟩ : ∃ R1,R1=(pstep N hold fol last (X,ep) y).1:=⟨_,rfl⟩
       obtain ⟨R2,hR2⟩ : ∃ R2,R2=(pstep N hold fol last (X,ep) y).2:=⟨_,rfl⟩
       rw [← hR1,← hR2] at HSTG
       have hRl:R1.length≤512∧∀ y ∈ R1,y<N:=by rw [hR1]; have:=pstep_len N hold fol last (X,ep) y; exact ⟨by omega,this.2⟩
       have HST1:=hide ((unhide HSTG w10.drew (Below.refl _ _).drew).mono (R':=fun x w11 => ∃ (oa:Option Addr) (oc:Nat),x = .returned (.agg #[.slice oa R1.length oc,.bool R2])∧w11.ownsRow w10.heap.size 3 1 (.slice oa R1.length oc) R1.length (R1.map mN)∧Below w10.heap.size w10 w11) (fun x w11 ⟨ov,h1,h2,h3⟩ => by
        obtain ⟨oa,oc,e6⟩ := own_is h2
        subst e6
        exact ⟨oa,oc,h1,h2,lb_new h3 rfl⟩))
       have HST2:=hide ((unhide HSTG (w10.alloc (.cells #[.slice none 0 0,.bool false] 74)).drew (below1 w10 _).drew).mono (R':=fun x w11 => ∃ (oa:Option Addr) (oc:Nat),x = .returned (.agg #[.slice oa R1.length oc,.bool R2])∧w11.ownsRow (w10.heap.size+1) 3 1 (.slice oa R1.length oc) R1.length (R1.map mN)∧Rq2 w11 w10.heap.size 74 (.slice none 0 0) (.bool false)∧Below w10.heap.size w10 w11) (fun x w11 ⟨ov,h1,h2,h3⟩ => by
        obtain ⟨oa,oc,e6⟩ := own_is h2
        subst e6
        have hsz:(w10.alloc (.cells #[.slice none 0 0,.bool false] 74)).drew.heap.size=w10.heap.size+1:=sz_alloc w10 _
        rw [hsz] at h2
        refine ⟨oa,oc,h1,h2,lbox h3,?_⟩
        exact (below1 w10 _).trans ((lb_new h3 (sz_alloc w10 _).symm).mono (by omega))))
       have HR1:=hide hR1
       have HR2:=hide hR2
       have HRL:=hide hRl
       clear hR1 hR2 HSTG hRl
       obtain ⟨na,nc,e2⟩ := own_is hM.n
       subst e2
       subst era
       subst erc
       have hS:Hid (∀ W':World,Below w10.heap.size w10 W'→W'.cell? ⟨w3.heap.size,0,none⟩ = some (.slice q1 S'.length qc1)∧W'.cell? ⟨w3.heap.size,1,none⟩ = some (.bool nl')∧W'.cell? ⟨w3.heap.size,2,none⟩ = some (.slice q2 (iL X0).length qc2)∧W'.cell? ⟨w3.heap.size,3,none⟩ = some (.slice q3 L'.length qc3)∧W'.cell? ⟨w3.heap.size,4,none⟩ = some (.slice q4 WW.length qc4)∧W'.cell? ⟨lg,i * 2,none⟩ = some (.slice pa (iL X).length pc)∧W'.cell? ⟨lg,i * 2+1,none⟩ = some (.bool ep)∧W'.cell? ⟨rg,e,none⟩ = some (.int .i64 (y:Nat))):=fun V hV => by
        obtain ⟨d0,d1,d2,d3,d4⟩ := ((unhide HR10).on (hV.block _ (by omega))).facts
        exact ⟨d0,d1,d2,d3,d4,by rw [hV.cell (p:=⟨lg,i * 2,none⟩) hlg]; exact y0,by rw [hV.cell (p:=⟨lg,i * 2+1,none⟩) hlg]; exact y1,by rw [hV.cell (p:=⟨rg,e,none⟩) hrg10]; exact y2⟩
       have hBaa:∀ o:Obj,Below w10.heap.size w10 (w10.alloc o):=fun o => below1 _ o
       have HM:=hide hM
       have HBF:=hide hBf
       have HYL:=hide hyl
       have HIN:=hide hin
       have HPI:=hide hpi
       have HY:=hide hy
       clear hM hBf hyl hin hpi hy hcell hrcell c1 c2 hat hB410 e7 hyy
       go_upto_region 20 with fail
       go_cut [13] (fun bx wx => ToBox w10 wx bx R1 R2)
       case first =>
        go_region_held3 (fun W' => W'.cell? ⟨w3.heap.size,0,none⟩ = some (.slice q1 S'.length qc1)∧W'.cell? ⟨w3.heap.size,1,none⟩ = some (.bool nl')∧W'.cell? ⟨w3.heap.size,2,none⟩ = some (.slice q2 (iL X0).length qc2)∧W'.cell? ⟨w3.heap.size,3,none⟩ = some (.slice q3 L'.length qc3)∧W'.cell? ⟨w3.heap.size,4,none⟩ = some (.slice q4 WW.length qc4)∧W'.cell? ⟨lg,i * 2,none⟩ = some (.slice pa (iL X).length pc)∧W'.cell? ⟨lg,i * 2+1,none⟩ = some (.bool ep)∧W'.cell? ⟨rg,e,none⟩ = some (.int .i64 (y:Nat)))
         (first | (with_reducible exact unhide hS _ hBb) | (with_reducible exact unhide hS _ (hBba _)) | (with_reducible exact unhide hS _ (hBaa _)) | (with_reducible exact unhide hS _ hBp) | go_keep)
         (first
          | (go_at_call 35; (with_reducible refine (unhide HST2).mono ?_); rintro x w11 ⟨oa,oc,rfl,hown11,hRq,hBb⟩; obtain ⟨b0,b1,b2,b3⟩ := lbox_c hRq; have hBp:=hBb.trans (((obk_put (w:=w11) (b:=w10.heap.size) 0 (.slice oa R1.length oc)).trans (obk_put 1 (.bool R2))).bel (Nat.le_refl _)); have hBba:∀ o:Obj,Below w10.heap.size w10 (w11.alloc o):=fun o => hBb.alloc hBb.size o)
          | (go_at_call 35; (with_reducible refine (unhide HST1).mono ?_); rintro x w11 ⟨oa,oc,rfl,hown11,hBb⟩; obtain ⟨b0,b1,b2,b3⟩ := lz_c w11; have hBba:∀ o:Obj,Below w10.heap.size w10 (w11.alloc o):=fun o => hBb.alloc hBb.size o))
        all_goals go_wp2_with fail
        all_goals go_meet
        all_goals first
         | exact toBox_b hown11 (unhide HRL).1 hRq hBb
         | exact toBox_a hown11 (unhide HRL).1 hBb
       case rest =>
        obtain ⟨rb,oa,oc,rfl,hrb,hRq,hsl,hfar,hb11⟩ := hcut
        obtain ⟨w11,hw11⟩ : ∃ w11,w11=wc:=⟨_,rfl⟩
        rw [← hw11] at hRq hsl hb11 ⊢
        have hM11:=(unhide HM).keep hb11
        have hz11:=hb11.size
        have hrl:=World.rowIs.lt hRq
        have hnlt:∀ b,w10.heap.size≤b→(Value.slice na ys.length nc).ownBlock ≠ some b:=fun b hb e9 => by have:=own_lt (unhide HM).n b e9; omega
        have hfarn:0<R1.length→∀ b off n c,Value.slice oa R1.length oc = .slice (some ⟨b,off,none⟩) n c→(Value.slice na ys.length nc).ownBlock ≠ some b:=fun hp b off n c he => hnlt b (hfar hp b off n c he)
        have hfarl:0<R1.length→∀ b off n c,Value.slice oa R1.length oc = .slice (some ⟨b,off,none⟩) n c→(Value.slice (some ⟨lg,0,none⟩) ps.length lcap).ownBlock ≠ some b:=fun hp b off n c he hq => by
         have:=hfar hp b off n c he
         have h9:some lg=some b:=hq
         have:=Option.some.inj h9
         omega
        obtain ⟨c0,c1⟩ := hRq.cells
        have HFI:=hide (l2find_any w7.heap.size _ _ ps R1 R2 w11 hM11.l (by omega) hsl)
        have HRQ:=hide hRq
        have HSL:=hide hsl
        have HFN:=hide hfarn
        have HFL:=hide hfarl
        have HM11:=hide hM11
        clear hRq hsl hfar hb11 hM11 hw11 hS hBaa HST1 HST2 f0 f1 f2 f3 f4 g0 g1 g2 g3 g4 y0 y1 y2 y0a y1a y2a hnlt hfarn hfarl HM HR10
        go_wp2_with fail
        refine (unhide HFI).mono ?_
        rintro x w12 ⟨hb12,hfr⟩
        have hM12:=(unhide HM11).keep hb12
        have hz12:=hb12.size
        have hsl12:=(unhide HSL).below hb12 (Nat.le_refl _)
        obtain ⟨c0,c1⟩ := ((unhide HRQ).on (hb12.block _ hrl)).cells
        have hR12:fs[e]?.getD 0=y:=by rw [unhide HY]; rfl
        have hst:pstep N hold fol last (X,ep) (fs[e]?.getD 0)=(R1,R2):=by rw [hR12,unhide HR1,unhide HR2]
        have HST:=hide hst
        have hdv:ys.length / fs.length=i∧ys.length % fs.length=e:=by rw [unhide HYL]; exact row_at hel
        have HDV:=hide hdv
        have HM12:=hide hM12
        have HSL12:=hide hsl12
        clear hb12 hM12 hsl12 HSL HM11 HRQ HFI hR12 hst hdv
        rcases hfr with ⟨rfl,hno⟩ | ⟨j,rfl,p2,hp2,he2⟩
        ·have HNO:=hide hno
         clear hno
         go_wp2_with (at_builtin; refine app_pd rfl _ _ rfl w7.heap.size (.slice (some ⟨lg,0,none⟩) ps.length lcap) rfl oa R1.length oc R1 R2 rfl ps (unhide HM12).l (unhide HSL12) (unhide HFL) ?_ ?_ ?_)
         ·omega
         ·omega
         intro lv13 w13 r1 r2 r3
         have hM13:=(unhide HM12).pushL r1 r2 r3 (unhide HFN)
         have hz13:=r2.size
         obtain ⟨ps2,hps2⟩ : ∃ ps2,ps2=ps ++ [(Value.slice oa R1.length oc,R1,R2)]:=⟨_,rfl⟩
         have hbn:=bfs_new2 (unhide HBF) (unhide HDV) (unhide HPI) (unhide HST) (unhide HNO) (.slice oa R1.length oc)
         have hpl2:ps2.length=ps.length+1:=by rw [hps2,List.length_append]; rfl
         have hpi2:ps2[i]? = some (.slice pa (iL X).length pc,X,ep):=by rw [hps2,List.getElem?_append_left hilt]; exact unhide HPI
         have hin2:∀ p ∈ ps2,∀ x ∈ p.2.1,x<N:=fun p hp => by
          rw [hps2] at hp
          rcases List.mem_append.1 hp with hp | hp
          ·exact unhide HIN p hp
          ·rw [List.mem_singleton] at hp; subst hp; exact (unhide HRL).2
         rw [← hps2] at hM13 hbn
         obtain ⟨la3,lc3,e13⟩ := own_is hM13.l.own
         subst e13
         have hE13:=(unhide HE7).below hM13.lo (by omega)
         have HM13:=hide hM13
         have HBN:=hide hbn
         have HPI2:=hide hpi2
         have HIN2:=hide hin2
         have HPS2:=hide hps2
         have HE13:=hide hE13
         clear r1 r2 r3 hM13 hbn hpi2 hin2 hps2 HM12 HSL12 HFL c0 c1 hE13
         by_cases hbig:1024<ps2.length
         ·have hbig':(1024:Int)<(ps2.length:Int):=by omega
          obtain ⟨z0,z1,z2,z3,-⟩ := (unhide HE13).facts
          have t0:=World.rowIs.frozen (unhide HE13) 0
          have t1:=World.rowIs.frozen (unhide HE13) 1
          have t2:=World.rowIs.frozen (unhide HE13) 2
          have t3:=World.rowIs.frozen (unhide HE13) 3
          have HPL2:=hide hpl2
          have hz7b:=(unhide HM13).lo.size
          clear hpl2
          go_wp2
          refine bodyPost_ret (dfab_ret (row4_all (unhide HE13) (.slice none 0 0) (.int .i64 0) (.slice none 0 0) (.slice none 0 0)) rfl _ rfl rfl) rfl ?_
          have hbw:=unhide HBW7
          refine ⟨(hbw.trans ((unhide HM13).lo.mono hbw.size)).trans ((row4_ob w13 (w.heap.size+1) _ _ _ _).bel (by omega)),.inr ⟨fs.length,_,_,_,_,rfl,⟨(unhide HC).num1 (unhide HOFL),?_,unhide HBN⟩,by rw [List.length_map]; exact hbig⟩⟩
          intro b hb x
          show pstep N hold fol last x (fs[_]?.getD 0)=_
          rw [(unhide HC).rep hb]
          exact alk_same (unhide HSN) (unhide HH) (unhide HHO) (by have:=unhide HOFL b hb; omega) hb (unhide HALK b hb) x
         ·have hbig':¬ (1024:Int)<(ps2.length:Int):=by omega
          have hle2:ps2.length≤1024:=by omega
          have HPL2:=hide hpl2
          clear hpl2
          have HNX:=hide (unhide HM13).n
          go_wp2_with (at_builtin; refine app_n1 rfl _ _ rfl w7.heap.size (.slice na ys.length nc) rfl ps.length rfl ys (unhide HNX) ?_ ?_ ?_)
          ·omega
          ·omega
          intro nv14 w14 r1 r2 r3
          obtain ⟨ys2,hys2⟩ : ∃ ys2,ys2=ys ++ [ps.length]:=⟨_,rfl⟩
          have r1:w14.ownsRow w7.heap.size 3 1 nv14 ys2.length (ys2.map mN):=by rw [hys2,List.length_append,List.map_append]; exact r1
          have hM14:=(unhide HM13).pushN r1 r2 r3
          obtain ⟨na4,nc4,e14⟩ := own_is r1
          subst e14
          have hyl2:ys2.length=i * fs.length+(e+1):=by rw [hys2,List.length_append,unhide HYL]; rfl
          have hbf2:Bfs fs.length (fun x e => pstep N hold fol last x (fs[e]?.getD 0)) (X0,nl') (ps2.map Prod.snd) ys2:=by rw [hys2]; exact unhide HBN
          have HM14:=hide hM14
          have HYL2:=hide hyl2
          have HBF2:=hide hbf2
          clear hM14 hyl2 hbf2 r1 r2 r3 hys2 HNX
          go_wp2
          go_roundw
          case rel => exact ⟨e+1,ps2,ys2,by omega,by go_num,unhide HPI2,unhide HM14,unhide HBF2,unhide HYL2,by omega,unhide HIN2⟩
          case measure => simp [intOf]; omega
        ·have hj0:¬ (j:Int)<0:=by omega
         have hbig':¬ (1024:Int)<(ps.length:Int):=by omega
         have HP2:=hide hp2
         have HE2:=hide he2
         clear hp2 he2
         have HNX:=hide (unhide HM12).n
         go_wp2_with (at_builtin; refine app_n1 rfl _ _ rfl w7.heap.size (.slice na ys.length nc) rfl j rfl ys (unhide HNX) ?_ ?_ ?_)
         ·omega
         ·omega
         intro nv14 w14 r1 r2 r3
         obtain ⟨ys2,hys2⟩ : ∃ ys2,ys2=ys ++ [j]:=⟨_,rfl⟩
         have r1:w14.ownsRow w7.heap.size 3 1 nv14 ys2.length (ys2.map mN):=by rw [hys2,List.length_append,List.map_append]; exact r1
         have hM14:=(unhide HM12).pushN r1 r2 r3
         obtain ⟨na4,nc4,e14⟩ := own_is r1
         subst e14
         have hyl2:ys2.length=i * fs.length+(e+1):=by rw [hys2,List.length_append,unhide HYL]; rfl
         have hbf2:Bfs fs.length (fun x e => pstep N hold fol last x (fs[e]?.getD 0)) (X0,nl') (ps.map Prod.snd) ys2:=by rw [hys2]; exact bfs_old2 (unhide HBF) (unhide HDV) (unhide HPI) (unhide HST) (unhide HP2) (unhide HE2)
         have HM14:=hide hM14
         have HYL2:=hide hyl2
         have HBF2:=hide hbf2
         clear hM14 hyl2 hbf2 r1 r2 r3 hys2 HNX
         go_wp2
         go_roundw
         case rel => exact ⟨e+1,ps,ys2,by omega,by go_num,unhide HPI,unhide HM14,unhide HBF2,unhide HYL2,by omega,unhide HIN⟩
         case measure => simp [intOf]; omega
      ·have hel':¬ (e:Int)<(fs.length:Int):=by omega
       have hee:e=fs.length:=by omega
       have hyl2:ys.length=(i+1) * fs.length:=by rw [hyl,hee,Nat.add_mul,Nat.one_mul]
       obtain ⟨la,lc,e1⟩ := own_is hM.l.own
       subst e1
       obtain ⟨na,nc,e2⟩ := own_is hM.n
       subst e2
       have HM:=hide hM
       have HBF:=hide hBf
       have HYL:=hide hyl2
       have HIN:=hide hin
       clear hM hBf hyl hyl2 hin hpi hee
       go_wp2
       go_roundw
       case rel => exact ⟨i+1,ps,ys,by omega,by go_num,unhide HM,unhide HBF,unhide HYL,hpl,unhide HIN⟩
       case measure => simp [intOf]; omega
    ·have hlt2':¬ (i:Int)<(ps.length:Int):=by omega
     have hii:i=ps.length:=by omega
     have hz9:=(unhide HM).lo.size
     have HII:=hide hii
     clear hii
     go_wp2_with fail
     go_loopw [15,16] (fun av jv wr => ∃ (j:Nat) (zs:List Bool),j≤ps.length∧jv = .int .i64 (j:Nat)∧wr.ownsRow w9.heap.size 4 1 av zs.length (zs.map mT)∧zs=((ps.map Prod.snd).map Prod.snd).take j∧Below w9.heap.size w9 wr) (fun _ jv _ => ps.length - (intOf jv).toNat)
     case atStart => exact ⟨0,[],by omega,rfl,World.ownsRow_nil _ _ _ _,by simp,Below.refl _ _⟩
     case round =>
      obtain ⟨j,zs,hj,rfl,hoa,hzs,hB⟩ := hrel
      obtain ⟨w15,rfl⟩ : ∃ w15,w15=wr:=⟨_,rfl⟩
      have hz15:=hB.size
      have hzl:zs.length=j:=by rw [hzs]; simp; omega
      have hzl2:zs.length≤1024:=by omega
      obtain ⟨aa,ac,e15⟩ := own_is hoa
      subst e15
      by_cases hjl:j<ps.length
      ·have hjl':(j:Int)<(ps.length:Int):=by omega
       obtain ⟨p,hpj⟩ : ∃ p,ps[j]? = some p:=⟨_,List.getElem?_eq_getElem hjl⟩
       obtain ⟨lg,lcap,e9,-,hlg,hcell⟩ := own_cells2 (unhide HM).l.own (by omega)
       have hlax:la=some ⟨lg,0,none⟩∧lc=lcap:=by simpa using e9
       obtain ⟨rfl,rfl⟩ := hlax
       obtain ⟨-,k2⟩ := fl2_at ps hpj
       have y1:w15.cell? ⟨lg,j * 2+1,none⟩ = some (.bool p.2.2):=by rw [hB.cell (p:=⟨lg,j * 2+1,none⟩) hlg,hcell _ (by omega),k2]
       obtain ⟨px,hpx⟩ : ∃ px,px=p.2.2:=⟨_,rfl⟩
       rw [← hpx] at y1
       obtain ⟨zs2,hzs2⟩ : ∃ zs2,zs2=zs ++ [px]:=⟨_,rfl⟩
       have hzt:zs2=((ps.map Prod.snd).map Prod.snd).take (j+1):=by rw [hzs2,hzs,hpx,List.take_add_one,List.getElem?_map,List.getElem?_map,hpj]; rfl
       have HZT:=hide hzt
       have HZ2:=hide hzs2
       have HOA:=hide hoa
       have HB:=hide hB
       clear hoa hB hzs hcell k2 e9 hpj hpx hzt hzs2 hzl
       go_wp2_with (at_builtin; refine app_t1 rfl _ _ rfl w9.heap.size (.slice aa zs.length ac) rfl px rfl zs (unhide HOA) ?_ ?_ ?_)
       ·omega
       ·omega
       intro av16 w16 r1 r2 r3
       have r1:w16.ownsRow w9.heap.size 4 1 av16 zs2.length (zs2.map mT):=by rw [unhide HZ2,List.length_append,List.map_append]; exact r1
       have hB16:Below w9.heap.size w9 w16:=(unhide HB).trans (r2.belowG (unhide HOA) (Nat.le_refl _) hz15)
       obtain ⟨aa7,ac7,e16⟩ := own_is r1
       subst e16
       have HOA7:=hide r1
       have HB16:=hide hB16
       clear r1 r2 r3 hB16 y1 HOA HB
       go_wp2
       go_roundw
       case rel => exact ⟨j+1,zs2,by omega,by go_num,unhide HOA7,unhide HZT,unhide HB16⟩
       case measure => simp [intOf]; omega
      ·have hjl':¬ (j:Int)<(ps.length:Int):=by omega
       have hjj:j=ps.length:=by omega
       have hE15:=((unhide HE7).below (unhide HM).lo (by omega)).below hB (by omega)
       obtain ⟨z0,z1,z2,z3,-⟩ := hE15.facts
       have t0:=World.rowIs.frozen hE15 0
       have t1:=World.rowIs.frozen hE15 1
       have t2:=World.rowIs.frozen hE15 2
       have t3:=World.rowIs.frozen hE15 3
       have hzz:zs=(ps.map Prod.snd).map Prod.snd:=by rw [hzs,hjj,List.take_of_length_le (by simp)]
       have HZZ:=hide hzz
       have HOA:=hide hoa
       have HB:=hide hB
       have HE15:=hide hE15
       have hoal:=hzl
       have HZL:=hide hzl
       have HJJ:=hide hjj
       clear hoa hB hzs hE15 hjj hzz hzl hoal
       go_wp2
       refine bodyPost_ret (dfab_ret (row4_all (unhide HE15) _ _ _ _) rfl _ rfl rfl) rfl ?_
       have hbw:=unhide HBW7
       have hlo:=(unhide HM).lo
       have hbw9:=hbw.size
       have hob:=row4_ob w15 (w.heap.size+1) (.slice (some ⟨w5.heap.size,0,none⟩) 256 256) (.int .i64 (fs.length:Nat)) (.slice na ys.length nc) (.slice aa zs.length ac)
       refine ⟨((hbw.trans (hlo.mono hbw9)).trans ((unhide HB).mono (by omega))).trans (hob.bel (by omega)),.inl ⟨w5.heap.size,fs.length,_,_,cls,fun e => fs[e]?.getD 0,ps.map Prod.snd,ys,rfl,⟨(unhide HC).num1 (unhide HOFL),?_,unhide HBF⟩,?_,?_,hfl,?_,?_,?_⟩⟩
       ·intro b hb x
        show pstep N hold fol last x (fs[_]?.getD 0)=_
        rw [(unhide HC).rep hb]
        exact alk_same (unhide HSN) (unhide HH) (unhide HHO) (by have:=unhide HOFL b hb; omega) hb (unhide HALK b hb) x
       ·rw [List.length_map,unhide HYL,unhide HII]
       ·rw [List.length_map]; exact hpl
       ·exact (unhide HP7).of_block ((hob.block _ (by omega)).trans (((unhide HB).block _ (by omega)).trans (hlo.block _ (by omega))))
       ·exact own_low (own_blk (own_keep (unhide HM).n (unhide HB) (Nat.le_refl _)) (fun q hq => hob.block q (by have:=((unhide HM).n.lt q hq).1; omega))) (by omega)
       ·rw [← unhide HZZ,show (ps.map Prod.snd).length=zs.length by rw [List.length_map,unhide HZL,unhide HJJ]]
        exact own_low (own_blk (unhide HOA) (fun q hq => hob.block q (by have:=((unhide HOA).lt q hq).1; omega))) (by omega)
end Go.Proofs.YtlidckepahpaeaaGreatDoor
