import Derived.Test.YtlidckepahpaeaaGreatDoorPk8
import Derived.Test.YtlidckepahpaeaaGreatDoorPk2
import Derived.Test.YtlidckepahpaeaaGreatDoorX0
import Derived.Test.YtlidckepahpaeaaGreatDoorPk12
import Derived.Test.YtlidckepahpaeaaGreatDoorPk14
import Derived.Test.YtlidckepahpaeaaGreatDoorPk9
import Derived.Laws.AppendOwnNone
import Derived.Deep.AppendLies
import Derived.Deep.RegionLaw
import Derived.BigRegion
namespace Go.Proofs.YtlidckepahpaeaaGreatDoor
open Go.RowKit
theorem inP_iff (xs:List Int) (k b:Nat):InP xs k b=true↔∃ j:Nat,j<k∧xs[2 * j]?.getD 0≤(b:Int)∧(b:Int)≤xs[2 * j+1]?.getD 0:=by
 induction k with
 | zero => simp [InP]
 | succ k ih =>
  simp only [InP,Bool.or_eq_true,decide_eq_true_eq,ih]
  constructor
  ·rintro (⟨j,h1,h2⟩ | h)
   ·exact ⟨j,by omega,h2⟩
   ·exact ⟨k,by omega,h⟩
  ·rintro ⟨j,h1,h2⟩
   by_cases e:j=k
   ·subst e; exact Or.inr h2
   ·exact Or.inl ⟨j,by omega,h2⟩
theorem canon_mono {xs:List Int} (h:Canon xs) (j:Nat):∀ d:Nat,2 * (j+d+1)<xs.length→xs[2 * j+1]?.getD 0+2≤xs[2 * (j+d+1)]?.getD 0:=by
 intro d
 induction d with
 | zero =>
  intro hlt
  have h1:=(h.2.2 (j+1) (by omega)).2 (by omega)
  rw [show 2 * (j+1) - 1=2 * j+1 by omega] at h1
  rw [show j+0+1=j+1 by omega]
  omega
 | succ d ih =>
  intro hlt
  have h0:=ih (by omega)
  have h1:=(h.2.2 (j+d+1+1) (by omega)).2 (by omega)
  have h2:=(h.2.2 (j+d+1) (by omega)).1
  rw [show 2 * (j+d+1+1) - 1=2 * (j+d+1)+1 by omega] at h1
  rw [show j+(d+1)+1=j+d+1+1 by omega]
  omega
def cut (xs:List Int) (m b:Nat):List Int:=(xs.take (2 * m)).set (2 * m - 1) (min (xs[2 * m - 1]?.getD 0) ((b:Int) - 1))
theorem shr_bit (a i:Nat) (ha:a<18446744073709551616):(bits .and .u64 ((a:Int) / 2 ^ i) 1 == 1)=a.testBit i:=by
 have h1:(a:Int) / 2 ^ i=((a / 2 ^ i:Nat):Int):=by rw [Int.natCast_ediv,Int.natCast_pow]; rfl
 have h2:a / 2 ^ i<18446744073709551616:=Nat.lt_of_le_of_lt (Nat.div_le_self _ _) ha
 rw [h1,show (1:Int)=((1:Nat):Int) from rfl,bits_and_u64_nat _ _ h2 (by omega),Nat.and_one_is_mod,Nat.testBit_eq_decide_div_mod_eq]
 by_cases e:a / 2 ^ i % 2=1
 ·simp [e]
 ·have e0:a / 2 ^ i % 2=0:=by omega
  simp [e0]
set_option maxHeartbeats 1000000 in
theorem has_w (g:Nat→Nat) (b:Nat) (w:World) (hg:Fit g) (hb:b<256) :
  Calls Tryz.prog 109 #[ws4 g,.int .i64 b] w fun e w' => e = .returned (.bool (Bt g b))∧Below w.heap.size w w':=by
 unfold ws4
 have hbt:Hid ((bits .and .u64 ((g (b / 64):Int) / 2 ^ (b % 64)) 1 == 1)=Bt g b):=shr_bit _ _ (hg _)
 have hrow:=four_row w 85 g
 have hq:b / 64<4:=by omega
 have c0:=hrow.cell hq
 have hq2:(b:Int) / 64<4:=by omega
 have hq3:0≤(b:Int) / 64:=by omega
 clear hrow hg
 go_enter Tryz.func109,Tryz.ntmps109
 go_wp2
 go_ret
 exact ⟨ret_bool (unhide hbt),below1 w _⟩
theorem canon_ge {xs:List Int} (h:Canon xs):∀ j:Nat,2 * j<xs.length→2 * (j:Int)≤xs[2 * j]?.getD 0:=by
 intro j
 induction j with
 | zero => intro hlt; have:=(h.2.1 0 hlt).1; simpa using this
 | succ j ih =>
  intro hlt
  have h1:=ih (by omega)
  have h2:=(h.2.2 j (by omega)).1
  have h3:=canon_mono h j 0 (by omega)
  rw [show j+0+1=j+1 by omega] at h3
  omega
theorem Tryz.zinOp:(Tryz.prog.info? 79).map (fun i => (i.zero,i.size,i.bytes))=some (some (.agg #[.int .i64 0,.slice none 0 0,.int .i64 0,.int .i64 0]),4,48):=by kernel_rfl
theorem GrowP.app1 {base:Nat} {wr w1 W w':World} {v v':Value} {ps:List Pc} {x:El} {s:Value} {T:Nat→Prop} {o:Obj} (h:GrowP base wr v ps) (hbase:base≤wr.heap.size) (hb:Below wr.heap.size wr w1) (hs:SlF mI 0 T w1 s x.set) (hT:∀ k,T k→wr.heap.size≤k∧k<w1.heap.size) (hP:Pushd w1 W o)
  (h1:w'.ownsRow base 79 4 v' (ps.length+1) (cellsP ps ++ cell4 x s)) (hg:W.grownBy w' v.ownBlock) (ho:v'.ownBlock=v.ownBlock∨v'.ownBlock=some W.heap.size):GrowP base w' v' (ps ++ [⟨x,s,T⟩])∧Below base wr w':=by
 have hB:Below wr.heap.size wr W:=hb.trans (hP.below.mono hb.size)
 refine ⟨h.app (qs := [⟨x,s,T⟩]) hbase hB (fun p hp => ?_) (fun p hp k hk => ?_) (List.pairwise_singleton _ _) (by simpa [cellsP] using h1) hg ho,(hB.mono hbase).grown hg (by have:=hB.size; omega) (fun k hk => (h.own.lt k hk).1)⟩
 ·obtain rfl:=List.mem_singleton.1 hp
  exact hs.same (fun k hk => hP.old (hT k hk).2)
 ·obtain rfl:=List.mem_singleton.1 hp
  have:=hT k hk
  have:=hP.size
  exact ⟨(hT k hk).1,by omega⟩
set_option maxHeartbeats 2000000 in
set_option maxRecDepth 100000 in
theorem l1copy_w (v:Value) (xs:List El) (w:World) (hv:ElsAt 0 w.heap.size w v xs) (hlen:xs.length≤1048576) (hset:∀ i:Nat,(xs[i]?.getD dE).set.length≤1048576) :
  Calls Tryz.prog 115 #[v] w fun e w' => ∃ v',e = .returned v'∧GrowE w.heap.size w' v' xs∧Below w.heap.size w w':=by
 obtain ⟨a,cap,rfl,hl,hc⟩ := hv
 obtain ⟨i0,hi,hz0,hz1,hz2⟩ := info_parts Tryz.zinInt
 obtain ⟨j0,hj,hy0,hy1,hy2⟩ := info_parts Tryz.zinOp
 have Hset:=hide hset
 clear hset
 go_enter Tryz.func115,Tryz.ntmps115
 go_wp2
 go_loopw [3,4] (fun ov i wr => ∃ k:Nat,k≤xs.length∧i = .int .i64 k∧GrowE w.heap.size wr ov (xs.take k)∧Below w.heap.size w wr) (fun _ i _ => xs.length - (intOf i).toNat)
 case atStart => exact ⟨0,Nat.zero_le _,rfl,GrowE.nil _ _,Below.refl _ _⟩
 case round =>
  obtain ⟨k,hk,rfl,hgr,hb⟩ := hrel
  have hszr:=hb.size
  by_cases hlt:k<xs.length
  ·obtain ⟨b,off,rfl,-,hbn,hel⟩ := hc (by omega)
   obtain ⟨i1,i2,i3,sv,c0,c1,c2,c3,hints⟩ := (hel k hlt).same (Same.of_below hb (Nat.le_refl _)) (Nat.zero_le _) hbn
   have hsk:=unhide Hset k
   have Htk:=hide (take_next hlt)
   have Hsv:=hide (ints_sl (hints.mono (Nat.le_refl _) hb.size))
   generalize xs[k]?.getD dE=x at *
   obtain ⟨sa,sc,rfl,-,-,-⟩ := id hints
   obtain ⟨ps,hps,hgp⟩ := hgr
   have Hps:=hide hps
   have Hgp:=hide hgp
   have hpl:ps.length=k:=by
    have:=congrArg List.length hps
    rw [List.length_map,List.length_take] at this
    omega
   subst hpl
   obtain ⟨oa,oc,rfl⟩ := own_is hgp.own
   have hlt':(ps.length:Int)<(xs.length:Int):=by omega
   have hbw:b<wr.heap.size:=by omega
   clear hel hc hints i1 i2 i3 hps hgp
   go_wp2_with (at_builtin; refine app_ints rfl _ _ rfl rfl _ rfl x.set (unhide Hsv) hsk ?_)
   intro sv' w1 hb1 hsl h1c
   have d0:w1.cell? ⟨b,off+ps.length * 4,none⟩ = some (.int .i64 x.kind):=by rw [hb1.cell (p:=⟨b,off+ps.length * 4,none⟩) hbw]; exact c0
   have d2:w1.cell? ⟨b,off+ps.length * 4+2,none⟩ = some (.int .i64 x.mn):=by rw [hb1.cell (p:=⟨b,off+ps.length * 4+2,none⟩) hbw]; exact c2
   have d3:w1.cell? ⟨b,off+ps.length * 4+3,none⟩ = some (.int .i64 x.mx):=by rw [hb1.cell (p:=⟨b,off+ps.length * 4+3,none⟩) hbw]; exact c3
   have Hsl:=hide hsl
   obtain ⟨sa',sc',rfl⟩ : ∃ a c,sv' = .slice a x.set.length c:=by obtain ⟨a,c,e,-⟩ := hsl; exact ⟨a,c,e⟩
   clear hsl c0 c1 c2 c3
   have Hown1:=hide (own_keep (unhide Hgp).own hb1 (Nat.le_refl _))
   have hsz1:=hb1.size
   have hst:Hid (∀ (W w':World) (v':Value) (o:Obj),Pushd w1 W o→w'.ownsRow w.heap.size 79 4 v' (ps.length+1) (cellsP ps ++ cell4 x (.slice sa' x.set.length sc'))→W.grownBy w' (Value.slice oa ps.length oc).ownBlock→(v'.ownBlock=(Value.slice oa ps.length oc).ownBlock∨v'.ownBlock=some W.heap.size)→GrowE w.heap.size w' v' (xs.take (ps.length+1))∧Below w.heap.size wr w'):=fun W w' v' o hP q1 q2 q3 => by
    obtain ⟨r1,r2⟩ := (unhide Hgp).app1 (T:=Rng wr.heap.size w1.heap.size) hszr hb1 (unhide Hsl).foot (fun k hk => hk) hP q1 q2 q3
    exact ⟨⟨_,by rw [List.map_append,unhide Hps,unhide Htk]; rfl,r1⟩,r2⟩
   have hone:Hid (∀ u ∈ cell4 x (.slice sa' x.set.length sc'),u.oneCell'=true):=fun u hu => by
    simp only [cell4,List.mem_cons,List.not_mem_nil,or_false] at hu
    rcases hu with rfl | rfl | rfl | rfl <;> rfl
   go_wp2
   go_region_law (refine step_append_lies _ rfl (.tmp 19) (.tmp 37) 32 rfl w.heap.size 79 j0 (.agg #[.int .i64 0,.slice none 0 0,.int .i64 0,.int .i64 0]) 4 48 Tryz.underlying32 hj hy0 hy1 hy2 rfl (by decide) (.slice oa ps.length oc) ps.length (cellsP ps) (by simp [Act.eval]) (by refine Pushd.own (w:=w1) (o:=.cells #[.int .i64 x.kind,.slice sa' x.set.length sc',.int .i64 x.mn,.int .i64 x.mx] 79) ?_ (unhide Hown1); exact ⟨rfl,rfl,rfl,rfl⟩) ⟨w1.heap.size,0,none⟩ 1 1 (cell4 x (.slice sa' x.set.length sc')) (by simp [Act.eval]) rfl (by refine Pushd.news (w:=w1) (cs:=#[.int .i64 x.kind,.slice sa' x.set.length sc',.int .i64 x.mn,.int .i64 x.mx]) (t:=79) ?_; exact ⟨rfl,rfl,rfl,rfl⟩) (unhide hone) (by decide) (by unfold maxLen; omega) (by omega) (by show w.heap.size≤(w1.alloc _).heap.size; rw [sz_alloc]; omega) (w1.heap.size+1) (sz_alloc w1 _) (fun g cap' w' q1 q2 q3 q4 => ?_); have hs:=hide (unhide hst _ w' (.slice (some ⟨g,0,none⟩) (ps.length+1) cap') (.cells #[.int .i64 x.kind,.slice sa' x.set.length sc',.int .i64 x.mn,.int .i64 x.mx] 79) (by exact ⟨rfl,rfl,rfl,rfl⟩) q1 q2 (q3.elim (fun e => Or.inl e.symm) (fun e => Or.inr (by subst e; simp [Value.ownBlock])))); clear q1 q2 q3 q4)
   all_goals
    go_wp2
    exact ⟨⟨ps.length+1,by omega,by go_num,(unhide hs).1,hb.trans (unhide hs).2⟩,by simp [intOf]; omega⟩
  ·obtain rfl:k=xs.length:=by omega
   rw [List.take_length] at hgr
   have Hgr:=hide hgr
   clear hc hgr
   go_wp2
   go_ret
   exact ⟨_,rfl,unhide Hgr,hb⟩
theorem SlF.none (w:World):SlF mI 0 (fun _ => False) w (.slice none 0 0) []:=⟨0,0,⟨.none,0,rfl,Nat.zero_le _,fun h => absurd h (by simp)⟩,fun k h1 h2 => by omega⟩
theorem app_op {base:Nat} {wr w1 W:World} {ops:Array Oper} {rest:List Oper} {o:Oper} {a:Act} {Q:Exit→Act→World→Prop} {v:Value} {ps:List Pc} (x:El) (sv:Value) (T:Nat→Prop) (hgd:o.guard=none) (s y:Operand)
  (ho:o.op = .call { callee:=.builtin .append,args:=#[s,y],argTypes:=#[32,32] }) (hs:a.eval s=v) (hy:a.eval y = .slice (some ⟨w1.heap.size,0,none⟩) 1 1)
  (h:GrowP base wr v ps) (hbase:base≤wr.heap.size) (hb:Below wr.heap.size wr w1) (hsl:SlF mI 0 T w1 sv x.set) (hT:∀ k,T k→wr.heap.size≤k∧k<w1.heap.size) (h1c:sv.oneCell'=true)
  (hP:Pushd w1 W (.cells #[.int .i64 x.kind,sv,.int .i64 x.mn,.int .i64 x.mx] 79)) (hlen:ps.length≤16777216)
  (K:∀ v' w',GrowP base w' v' (ps ++ [⟨x,sv,T⟩])→Below base wr w'→wpList Tryz.prog ops Q rest (a.put o.dst v') w'):wpList Tryz.prog ops Q (o :: rest) a W:=by
 obtain ⟨j0,hj,hy0,hy1,hy2⟩ := info_parts Tryz.zinOp
 have hown:=hP.own (own_keep h.own hb (Nat.le_refl _))
 refine wpList_append_own_at W hgd s y 32 ho base 79 j0 (.agg #[.int .i64 0,.slice none 0 0,.int .i64 0,.int .i64 0]) 4 48 Tryz.underlying32 hj hy0 hy1 hy2 rfl (by decide) v ps.length (cellsP ps) hs hown ⟨w1.heap.size,0,none⟩ 1 1 (cell4 x sv) hy rfl ?_ ?_ ?_ ?_ ?_ ?_
 ·exact Pushd.news hP
 ·intro u hu
  simp only [cell4,List.mem_cons,List.not_mem_nil,or_false] at hu
  rcases hu with rfl | rfl | rfl | rfl
  ·rfl
  ·exact h1c
  ·rfl
  ·rfl
 ·unfold maxLen; omega
 ·omega
 ·have:=hP.size; have:=hb.size; omega
 ·intro v' w' q1 q2 _ q3
  obtain ⟨r1,r2⟩ := h.app1 hbase hb hsl hT hP q1 q2 q3
  exact K v' w' r1 r2
theorem app_ops {base:Nat} {wr W:World} {ops:Array Oper} {rest:List Oper} {o:Oper} {a:Act} {Q:Exit→Act→World→Prop} {v u:Value} {ps qs:List Pc} (hgd:o.guard=none) (s y:Operand)
  (ho:o.op = .call { callee:=.builtin .append,args:=#[s,y],argTypes:=#[32,32] }) (hs:a.eval s=v) (hy:a.eval y=u)
  (h:GrowP base wr v ps) (hbase:base≤wr.heap.size) (hb:Below wr.heap.size wr W) (hq:GrowP wr.heap.size W u qs) (hq1:∀ p ∈ qs,p.s.oneCell'=true) (hlen:ps.length≤16777216) (hlen2:qs.length≤16777216)
  (K:∀ v' w',GrowP base w' v' (ps ++ qs)→Below base wr w'→wpList Tryz.prog ops Q rest (a.put o.dst v') w'):wpList Tryz.prog ops Q (o :: rest) a W:=by
 obtain ⟨j0,hj,hy0,hy1,hy2⟩ := info_parts Tryz.zinOp
 have hown:=own_keep h.own hb (Nat.le_refl _)
 rcases hq.own.2 with ⟨rfl,hz⟩ | ⟨g,cap,cur,rfl,hbg,hgc,hnc,hcm,hcs,htake⟩
 ·obtain rfl:qs = []:=List.eq_nil_of_length_eq_zero hz
  refine wpList_append_none_c hgd s y 32 ho base 79 j0 4 Tryz.underlying32 hj v ps.length (cellsP ps) hs hown 0 hy (K v W ?_ (hb.mono hbase))
  rw [List.append_nil]
  exact h.keep hb (Nat.le_refl _)
 ·refine wpList_append_own_at W hgd s y 32 ho base 79 j0 (.agg #[.int .i64 0,.slice none 0 0,.int .i64 0,.int .i64 0]) 4 48 Tryz.underlying32 hj hy0 hy1 hy2 rfl (by decide) v ps.length (cellsP ps) hs hown ⟨g,0,none⟩ qs.length cap (cellsP qs) hy (cellsP_len qs) ?_ (cellsP_one qs hq1) ?_ ?_ ?_ ?_
  ·intro j y hj2
   have e3:(⟨g,0,none⟩ : Addr).add j=⟨g,j,none⟩ := by cases j <;> simp [Addr.add]
   rw [e3,hq.own.cellAt j (by have:=(List.getElem?_eq_some_iff.1 hj2).1; rw [cellsP_len] at this; exact this)]
   exact hj2
  ·unfold maxLen; omega
  ·omega
  ·have:=hb.size; omega
  ·intro v' w' q1 q2 _ q3
   exact K v' w' (h.app hbase hb hq.set (fun p hp k hk => ⟨(hq.blk p hp k hk).1,(hq.blk p hp k hk).2.1⟩) hq.dis q1 q2 q3) ((hb.mono hbase).grown q2 (by have:=hb.size; omega) (fun k hk => (h.own.lt k hk).1))
theorem Pc.one {w:World} {p:Pc} (h:SlF mI 0 p.T w p.s p.x.set):p.s.oneCell'=true:=by
 obtain ⟨a,c,e⟩ := h.val
 rw [e]; rfl
set_option maxHeartbeats 2000000 in
theorem l1bin_w (k:Int) (vx vy:Value) (xs ys:List El) (w:World) (hx:ElsAt 0 w.heap.size w vx xs) (hy:ElsAt 0 w.heap.size w vy ys) (hlx:xs.length≤1048576) (hly:ys.length≤1048576) (hsx:∀ i:Nat,(xs[i]?.getD dE).set.length≤1048576) (hsy:∀ i:Nat,(ys[i]?.getD dE).set.length≤1048576) :
  Calls Tryz.prog 116 #[.int .i64 k,vx,vy] w fun e w' => ∃ v',e = .returned v'∧GrowE w.heap.size w' v' (xs ++ ys ++ [⟨k,[],0,0⟩])∧Below w.heap.size w w':=by
 obtain ⟨a1,c1,rfl,-,-⟩ := id hx
 obtain ⟨a2,c2,rfl,-,-⟩ := id hy
 have Hx:=hide hx
 have Hy:=hide hy
 have Sx:=hide hsx
 have Sy:=hide hsy
 clear hx hy hsx hsy
 go_enter Tryz.func116,Tryz.ntmps116
 go_wp2_with fail
 refine (l1copy_w _ xs _ (unhide Hx) hlx (unhide Sx)).mono ?_
 rintro e w1 ⟨v1,rfl,hg1,hb1⟩
 obtain ⟨o1,d1,rfl⟩ := hg1.form
 obtain ⟨ps,hps,hg1⟩ := hg1
 have hpl:ps.length=xs.length:=by rw [← hps,List.length_map]
 have Hg1:=hide hg1
 have Hps:=hide hps
 have hz1:=hb1.size
 clear hg1 hps
 go_wp2_with fail
 refine (l1copy_w _ ys _ (by exact (unhide Hy).below hb1 (Nat.le_refl _)) hly (unhide Sy)).mono ?_
 rintro e w2 ⟨v2,rfl,hg2,hb2⟩
 obtain ⟨o2,d2,rfl⟩ := hg2.form
 obtain ⟨qs,hqs,hg2⟩ := hg2
 have hql:qs.length=ys.length:=by rw [← hqs,List.length_map]
 have Hg2:=hide hg2
 have Hqs:=hide hqs
 clear hg2 hqs
 go_wp2_with (at_builtin; refine app_ops rfl _ _ rfl rfl rfl (unhide Hg1) hz1 hb2 (unhide Hg2) (fun p hp => Pc.one ((unhide Hg2).set p hp)) (by omega) (by omega) ?_)
 intro v3 w3 hg3 hb3
 obtain ⟨o3,d3,rfl⟩ := own_is hg3.own
 have Hg3:=hide hg3
 have hB3:Below w.heap.size w w3:=hb1.trans hb3
 have hz3:=hB3.size
 clear hg3
 go_wp2_with (at_builtin; refine app_op ⟨k,[],0,0⟩ (.slice none 0 0) (fun _ => False) rfl _ _ rfl rfl rfl (unhide Hg3) hz3 (Below.refl _ _) (SlF.none _) (fun k hk => hk.elim) rfl ⟨rfl,rfl,rfl,rfl⟩ (by rw [List.length_append]; omega) ?_)
 intro v4 w4 hg4 hb4
 have hfin:Hid (GrowE w.heap.size w4 v4 (xs ++ ys ++ [⟨k,[],0,0⟩])):=⟨_,by simp [unhide Hps,unhide Hqs],hg4⟩
 clear hg4
 go_wp2
 go_ret
 exact ⟨_,rfl,unhide hfin,hB3.trans hb4⟩
set_option maxHeartbeats 2000000 in
theorem l1alt_w (vx vy:Value) (xs ys:List El) (w:World) (hx:ElsAt 0 w.heap.size w vx xs) (hy:ElsAt 0 w.heap.size w vy ys) (hlx:xs.length≤1048576) (hly:ys.length≤1048576) (hsx:∀ i:Nat,(xs[i]?.getD dE).set.length≤1048576) (hsy:∀ i:Nat,(ys[i]?.getD dE).set.length≤1048576) :
  Calls Tryz.prog 118 #[vx,vy] w fun e w' => ∃ v',e = .returned v'∧GrowE w.heap.size w' v' (xs ++ ys ++ [⟨3,[],0,0⟩])∧Below w.heap.size w w':=by
 obtain ⟨a1,c1,rfl,-,-⟩ := id hx
 obtain ⟨a2,c2,rfl,-,-⟩ := id hy
 have Hx:=hide hx
 have Hy:=hide hy
 have Sx:=hide hsx
 have Sy:=hide hsy
 clear hx hy hsx hsy
 go_enter Tryz.func118,Tryz.ntmps118
 go_wp2_with fail
 refine (l1bin_w 3 _ _ xs ys _ (unhide Hx) (unhide Hy) hlx hly (unhide Sx) (unhide Sy)).mono ?_
 rintro e w1 ⟨v1,rfl,hg1,hb1⟩
 have Hg1:=hide hg1
 clear hg1
 go_wp2
 go_ret
 exact ⟨_,rfl,unhide Hg1,hb1⟩
set_option maxHeartbeats 2000000 in
theorem l1rep_w (lo hi:Int) (vx:Value) (xs:List El) (w:World) (hx:ElsAt 0 w.heap.size w vx xs) (hlx:xs.length≤1048576) (hsx:∀ i:Nat,(xs[i]?.getD dE).set.length≤1048576) :
  Calls Tryz.prog 98 #[vx,.int .i64 lo,.int .i64 hi] w fun e w' => ∃ v',e = .returned v'∧GrowE w.heap.size w' v' (xs ++ [⟨4,[],lo,hi⟩])∧Below w.heap.size w w':=by
 obtain ⟨a1,c1,rfl,-,-⟩ := id hx
 have Hx:=hide hx
 have Sx:=hide hsx
 clear hx hsx
 go_enter Tryz.func98,Tryz.ntmps98
 go_wp2_with fail
 refine (l1copy_w _ xs _ (unhide Hx) hlx (unhide Sx)).mono ?_
 rintro e w1 ⟨v1,rfl,hg1,hb1⟩
 obtain ⟨o1,d1,rfl⟩ := hg1.form
 obtain ⟨ps,hps,hg1⟩ := hg1
 have hpl:ps.length=xs.length:=by rw [← hps,List.length_map]
 have Hg1:=hide hg1
 have Hps:=hide hps
 have hz1:=hb1.size
 clear hg1 hps
 go_wp2_with (at_builtin; refine app_op ⟨4,[],lo,hi⟩ (.slice none 0 0) (fun _ => False) rfl _ _ rfl rfl rfl (unhide Hg1) hz1 (Below.refl _ _) (SlF.none _) (fun k hk => hk.elim) rfl ⟨rfl,rfl,rfl,rfl⟩ (by omega) ?_)
 intro v4 w4 hg4 hb4
 have hfin:Hid (GrowE w.heap.size w4 v4 (xs ++ [⟨4,[],lo,hi⟩])):=⟨_,by simp [unhide Hps],hg4⟩
 clear hg4
 go_wp2
 go_ret
 exact ⟨_,rfl,unhide hfin,hb1.trans hb4⟩
theorem GrowE.lit (w:World):GrowE w.heap.size (w.alloc (.cells #[.int .i64 0,.slice none 0 0,.int .i64 0,.int .i64 0] 79)) (.slice (some ⟨w.heap.size,0,none⟩) 1 1) [⟨0,[],0,0⟩]:=by
 refine ⟨[⟨⟨0,[],0,0⟩,.slice none 0 0,fun _ => False⟩],rfl,World.ownsRow_lit w _ 1 (Nat.le_refl _) (by unfold maxLen; omega) rfl,fun p hp => ?_,fun p hp k hk => ?_,List.pairwise_singleton _ _⟩
 ·obtain rfl:=List.mem_singleton.1 hp
  exact SlF.none _
 ·obtain rfl:=List.mem_singleton.1 hp
  exact hk.elim
set_option maxHeartbeats 2000000 in
theorem l1empty_w (w:World):Calls Tryz.prog 117 #[] w fun e w' => ∃ v',e = .returned v'∧GrowE w.heap.size w' v' [⟨0,[],0,0⟩]∧Below w.heap.size w w':=by
 have hl:=hide (GrowE.lit w)
 go_enter Tryz.func117,Tryz.ntmps117
 go_wp2
 go_ret
 exact ⟨_,rfl,unhide hl,below1 w _⟩
structure Nice (xs:List El):Prop where
 num:Num xs
 len:∀ i:Nat,(xs[i]?.getD dE).set.length≤1048576
theorem Nice.nil:Nice []:=⟨fun i => by simp [dE,In64],fun i => by simp [dE]⟩
theorem Nice.app {a b:List El} (ha:Nice a) (hb:Nice b):Nice (a ++ b):=by
 refine ⟨fun i => ?_,fun i => ?_⟩
 ·by_cases h:i<a.length
  ·rw [List.getElem?_append_left h]; exact ha.num i
  ·rw [List.getElem?_append_right (by omega)]; exact hb.num _
 ·by_cases h:i<a.length
  ·rw [List.getElem?_append_left h]; exact ha.len i
  ·rw [List.getElem?_append_right (by omega)]; exact hb.len _
theorem Nice.op (k mn mx:Int) (h1:In64 k) (h2:In64 mn) (h3:In64 mx):Nice [⟨k,[],mn,mx⟩]:=by
 refine ⟨fun i => ?_,fun i => ?_⟩
 ·cases i with
  | zero => exact ⟨h1,h2,h3,fun j => by simp [In64]⟩
  | succ i => simp [dE,In64]
 ·cases i with
  | zero => simp
  | succ i => simp [dE]
theorem GrowE.els {base:Nat} {w:World} {v:Value} {xs:List El} (h:GrowE base w v xs) (hn:Nice xs):ElsAt 0 w.heap.size w v xs:=h.foot.at (fun _ hk => hk.2) hn.num
def XpS (l L:List El):Prop:=∀ (v:Value) (w:World),ElsAt 0 w.heap.size w v l→l.length≤3000→Calls Tryz.prog 97 #[v] w fun e w' => ∃ v',e = .returned v'∧GrowE w.heap.size w' v' L∧Below w.heap.size w w'
set_option maxHeartbeats 2000000 in
theorem xpS_leaf (x:El) (hk:x.kind=0∨x.kind=1) (hs:x.set.length≤1048576):XpS [x] [x]:=by
 intro v w hv hlen
 have hv0:=hv
 obtain ⟨a,cp,rfl,-,-⟩ := id hv
 obtain ⟨hlen2,hcap,b,off,rfl,hbn,hel⟩ := ElsAt.last (p := []) hv
 simp only [List.length_singleton,List.length_nil,Nat.zero_mul,Nat.add_zero] at hel hv hv0 ⊢
 obtain ⟨i1,i2,i3,sv,c0,c1,c2,c3,hints⟩ := hel
 obtain ⟨sa,sc,rfl,-,-,-⟩ := id hints
 have Hv:=hide (hv.below (below1 w (.cells #[.int .i64 x.kind,.slice sa x.set.length sc,.int .i64 x.mn,.int .i64 x.mx] 79)) (Nat.le_refl _))
 have Hs:Hid (∀ i:Nat,(([x]:List El)[i]?.getD dE).set.length≤1048576):=fun i => by
  cases i with
  | zero => exact hs
  | succ i => simp [dE]
 clear hv hv0 hints i1 i2 i3
 rcases hk with hk | hk
 ·rw [hk] at c0
  have Hk:=hide hk
  rw [hk] at Hv
  clear hk
  go_enter Tryz.func97,Tryz.ntmps97
  go_wp2_with fail
  refine (l1copy_w _ [x] _ (unhide Hv) (by simp) (unhide Hs)).mono ?_
  rintro e w1 ⟨v1,rfl,hg1,hb1⟩
  have hB:Below w.heap.size w w1:=(below1 w _).trans (hb1.mono (by rw [sz_alloc]; omega))
  have Hg1:Hid (GrowE w.heap.size w1 v1 [x]):=hg1.base (by rw [sz_alloc]; omega)
  clear hg1
  go_wp2
  go_ret
  exact ⟨_,rfl,unhide Hg1,hB⟩
 ·rw [hk] at c0
  have Hk:=hide hk
  rw [hk] at Hv
  clear hk
  go_enter Tryz.func97,Tryz.ntmps97
  go_wp2_with fail
  refine (l1copy_w _ [x] _ (unhide Hv) (by simp) (unhide Hs)).mono ?_
  rintro e w1 ⟨v1,rfl,hg1,hb1⟩
  have hB:Below w.heap.size w w1:=(below1 w _).trans (hb1.mono (by rw [sz_alloc]; omega))
  have Hg1:Hid (GrowE w.heap.size w1 v1 [x]):=hg1.base (by rw [sz_alloc]; omega)
  clear hg1
  go_wp2
  go_ret
  exact ⟨_,rfl,unhide Hg1,hB⟩
set_option maxHeartbeats 2000000 in
theorem xpS_bin (k:Int) (hk:k=2∨k=3) (l r L R:List El) (cl cr:Int) (sl:SegM l cl) (sr:SegM r cr) (Hl:XpS l L) (Hr:XpS r R) (nl:Nice L) (nr:Nice R) (ll:L.length≤3000) (lr:R.length≤3000):XpS (l ++ r ++ [⟨k,[],0,0⟩]) (L ++ R ++ [⟨k,[],0,0⟩]):=by
 intro v w hv hlen
 have hv0:=hv
 obtain ⟨a,cp,rfl,-,-⟩ := id hv
 obtain ⟨hlen2,hcap,b,off,rfl,hbn,hel⟩ := hv.last
 rw [hlen2] at hv hv0 hcap ⊢
 simp only [List.length_append,List.length_singleton] at hv hv0 hlen hlen2 hel hcap ⊢
 unfold maxLen at hcap
 obtain ⟨i1,i2,i3,sv,c0,c1,c2,c3,hints⟩ := hel
 obtain ⟨sa,sc,rfl,-,-,-⟩ := id hints
 simp only at c0 c2 c3
 clear hlen2 i1 i2 i3 hints
 have e1:(((l.length+r.length+1:Nat):Int) - 1)=((l.length+r.length:Nat):Int):=by omega
 have pl:=sl.ne
 have pr:=sr.ne
 have hvL:ElsAt 0 w.heap.size w (.slice (some ⟨b,off,none⟩) l.length cp) (l):=by rw [List.append_assoc] at hv0; exact hv0.pre
 have hvR:=hv0.mid (cap':=cp - l.length) (by unfold maxLen; omega)
 have HvL:=hide hvL
 have HvR:=hide hvR
 have Hv0:=hide hv0
 have NL:=hide nl
 have NR:=hide nr
 clear hvL hvR hv hv0 nl nr
 rcases hk with rfl | rfl
 all_goals
  go_enter Tryz.func97,Tryz.ntmps97
  go_wp2_with fail
  refine (l1start_bin _ l r cr _ _ _ sr (by exact (unhide Hv0).below (below1 w _) (Nat.le_refl _)) (by omega) rfl).mono ?_
  rintro e w1 ⟨rfl,rfl⟩
  go_wp2_with fail
  refine (Hl _ _ (by exact (unhide HvL).below (below1 w _) (Nat.le_refl _)) (by omega)).mono ?_
  rintro e w1 ⟨v1,rfl,hg1,hb1⟩
  obtain ⟨o1,d1,rfl⟩ := hg1.form
  have hB1:Below w.heap.size w w1:=(below1 w _).trans (hb1.mono (by rw [sz_alloc]; omega))
  have Hg1:=hide hg1
  have Hb1:=hide hb1
  clear hb1 hg1
  go_wp2_with fail
  refine (Hr _ _ (by exact (unhide HvR).below hB1 (Nat.le_refl _)) (by omega)).mono ?_
  rintro e w2 ⟨v2,rfl,hg2,hb2⟩
  obtain ⟨o2,d2,rfl⟩ := hg2.form
  have hB2:Below w.heap.size w w2:=hB1.trans (hb2.mono hB1.size)
  have hX:=hide (((unhide Hg1).keep hb2 (Nat.le_refl _)).els (unhide NL))
  have hY:=hide (hg2.els (unhide NR))
  have hz1:=(unhide Hb1).size
  obtain ⟨hcc,-⟩ := bcell ((unhide Hb1).trans (hb2.mono hz1))
  simp only [sz_alloc] at hcc
  clear hb2 hg2 hz1
  go_wp2_with fail
  refine (l1bin_w _ _ _ L R _ (unhide hX) (unhide hY) (by omega) (by omega) (unhide NL).len (unhide NR).len).mono ?_
  rintro e w3 ⟨v3,rfl,hg3,hb3⟩
  have Hg3:=hide (hg3.base hB2.size)
  have hB3:Below w.heap.size w w3:=hB2.trans (hb3.mono hB2.size)
  clear hg3 hb3 hcc
  go_wp2
  go_ret
  exact ⟨_,rfl,unhide Hg3,hB3⟩
structure Pt where
 P:List El
 s:Value
 T:Nat→Prop
theorem Tryz.zinOpS:(Tryz.prog.info? 32).map (fun i => (i.zero,i.size,i.bytes))=some (some (.slice none 0 0),1,24):=by kernel_rfl
structure PGrow (base:Nat) (w:World) (v:Value) (ps:List Pt):Prop where
 own:w.ownsRow base 32 1 v ps.length (ps.map Pt.s)
 els:∀ p ∈ ps,ElsF p.T w p.s p.P
 blk:∀ p ∈ ps,∀ k,p.T k→k<w.heap.size∧v.ownBlock ≠ some k
theorem PGrow.nil (base:Nat) (w:World):PGrow base w (.slice none 0 0) []:=⟨World.ownsRow_nil _ _ _ _,by simp,by simp⟩
theorem ElsF.one {S:Nat→Prop} {w:World} {v:Value} {xs:List El} (h:ElsF S w v xs):v.oneCell'=true:=by
 obtain ⟨a,cap,rfl,-⟩ := h
 rfl
theorem app_part {base:Nat} {wr w1 W:World} {ops:Array Oper} {rest:List Oper} {o:Oper} {a:Act} {Q:Exit→Act→World→Prop} {v:Value} {ps:List Pt} (p:Pt) (hgd:o.guard=none) (s y:Operand)
  (ho:o.op = .call { callee:=.builtin .append,args:=#[s,y],argTypes:=#[196,196] }) (hs:a.eval s=v) (hy:a.eval y = .slice (some ⟨w1.heap.size,0,none⟩) 1 1)
  (h:PGrow base wr v ps) (hbase:base≤wr.heap.size) (hb:Below wr.heap.size wr w1) (hE:ElsF p.T w1 p.s p.P) (hT:∀ k,p.T k→k<w1.heap.size∧v.ownBlock ≠ some k)
  (hP:Pushd w1 W (.cells #[p.s] 32)) (hlen:ps.length≤16777216)
  (K:∀ v' w',PGrow base w' v' (ps ++ [p])→Below base wr w'→wpList Tryz.prog ops Q rest (a.put o.dst v') w'):wpList Tryz.prog ops Q (o :: rest) a W:=by
 obtain ⟨j0,hj,hy0,hy1,hy2⟩ := info_parts Tryz.zinOpS
 have hown:=hP.own (own_keep h.own hb (Nat.le_refl _))
 have hz:=hb.size
 have hZ:=hP.size
 refine wpList_append_own_at W hgd s y 196 ho base 32 j0 (.slice none 0 0) 1 24 Tryz.underlying196 hj hy0 hy1 hy2 rfl (by decide) v ps.length (ps.map Pt.s) hs hown ⟨w1.heap.size,0,none⟩ 1 1 [p.s] hy rfl ?_ ?_ ?_ ?_ ?_ ?_
 ·exact Pushd.news hP
 ·intro u hu
  obtain rfl:=List.mem_singleton.1 hu
  exact hE.one
 ·unfold maxLen; omega
 ·omega
 ·omega
 ·intro v' w' q1 q2 _ q3
  have hgz:W.heap.size≤w'.heap.size:=q2.size
  have hv'b:∀ k,k<W.heap.size→v.ownBlock ≠ some k→v'.ownBlock ≠ some k:=fun k hk hne e => by
   rcases q3 with ho | ho
   ·exact hne (by rw [← ho,e])
   ·rw [ho] at e; simp at e; omega
  have hblk:∀ k,k<W.heap.size→v.ownBlock ≠ some k→w'.heap[k]? = W.heap[k]? := fun k hk hne => q2.block k hk (fun e => hne e.symm)
  have hB:Below wr.heap.size wr W:=hb.trans (hP.below.mono hb.size)
  refine K v' w' ⟨by rw [List.length_append,List.map_append]; exact q1,fun q hq => ?_,fun q hq k hk => ?_⟩ ((hB.mono hbase).grown q2 (by omega) (fun k hk => (h.own.lt k hk).1))
  ·rcases List.mem_append.1 hq with hq | hq
   ·refine ((h.els q hq).same (w':=W) (fun k hk => hB.block k (h.blk q hq k hk).1)).same (fun k hk => ?_)
    have:=h.blk q hq k hk
    exact hblk k (by omega) this.2
   ·obtain rfl:=List.mem_singleton.1 hq
    refine (hE.same (w':=W) (fun k hk => hP.old (hT k hk).1)).same (fun k hk => ?_)
    have:=hT k hk
    exact hblk k (by omega) this.2
  ·rcases List.mem_append.1 hq with hq | hq
   ·have:=h.blk q hq k hk
    exact ⟨by omega,hv'b k (by omega) this.2⟩
   ·obtain rfl:=List.mem_singleton.1 hq
    have:=hT k hk
    exact ⟨by omega,hv'b k (by omega) this.2⟩
def catE:El:=⟨2,[],0,0⟩
def jn:List (List El)→List El
 | [] => []
 | p :: r => r.foldl (fun acc q => acc ++ q ++ [catE]) p
theorem jn_snoc {ps:List (List El)} (h:ps ≠ []) (q:List El):jn (ps ++ [q])=jn ps ++ q ++ [catE]:=by
 cases ps with
 | nil => exact absurd rfl h
 | cons p r => simp [jn,List.foldl_append]
def optE (X:List El):List El:=X ++ [⟨0,[],0,0⟩] ++ [⟨3,[],0,0⟩]
def partsX (X:List El) (mn mx:Int):List (List El) :=
 if mx = -1 then List.replicate (mn - 1).toNat X ++ [X ++ [⟨4,[],if 1<mn then 1 else mn,-1⟩]]
 else List.replicate mn.toNat X ++ List.replicate (mx - mn).toNat (optE X)
def repX (X:List El) (mn mx:Int):List El:=if mx=0 then [⟨0,[],0,0⟩] else jn (partsX X mn mx)
set_option maxHeartbeats 4000000 in
set_option maxRecDepth 100000 in
theorem xpS_zero (mn:Int) (x X:List El) (cx:Int) (sx:SegM x cx) (Hx:XpS x X):XpS (x ++ [⟨4,[],mn,0⟩]) [⟨0,[],0,0⟩]:=by
 intro v w hv hlen
 obtain ⟨a,cp,rfl,-,-⟩ := id hv
 obtain ⟨hlen2,hcap,b,off,rfl,hbn,hel⟩ := hv.last
 rw [hlen2] at hv hcap ⊢
 simp only [List.length_append,List.length_singleton] at hv hlen hlen2 hel hcap ⊢
 unfold maxLen at hcap
 obtain ⟨i1,i2,i3,sv,c0,c1,c2,c3,hints⟩ := hel
 obtain ⟨sa,sc,rfl,-,-,-⟩ := id hints
 simp only at c0 c2 c3
 clear hlen2 i1 i2 i3 hints
 have pl:=sx.ne
 have hvL:ElsAt 0 w.heap.size w (.slice (some ⟨b,off,none⟩) x.length cp) x:=hv.pre
 have HvL:=hide hvL
 clear hvL hv
 go_enter Tryz.func97,Tryz.ntmps97
 go_wp2_with fail
 refine (Hx _ _ (by exact (unhide HvL).below (below1 w _) (Nat.le_refl _)) (by omega)).mono ?_
 rintro e w1 ⟨v1,rfl,hg1,hb1⟩
 have hB1:Below w.heap.size w w1:=(below1 w _).trans (hb1.mono (by rw [sz_alloc]; omega))
 obtain ⟨hcc,-⟩ := bcell hb1
 simp only [sz_alloc] at hcc
 clear hb1 hg1
 go_wp2_with fail
 refine (l1empty_w _).mono ?_
 rintro e w2 ⟨v2,rfl,hg2,hb2⟩
 have Hg2:=hide (hg2.base hB1.size)
 have hB2:Below w.heap.size w w2:=hB1.trans (hb2.mono hB1.size)
 clear hg2 hb2 hcc
 go_wp2
 go_ret
 exact ⟨_,rfl,unhide Hg2,hB2⟩
theorem own_at_g {base n e:Nat} {w:World} {v:Value} {xs:List Value} (h:w.ownsRow base e 1 v n xs) (hp:0<n):∃ g cap,v = .slice (some ⟨g,0,none⟩) n cap∧∀ j:Nat,j<n→w.cell? ⟨g,j,none⟩ = xs[j]? := by
 rcases h.2 with ⟨rfl,hz⟩ | ⟨g,cap,cur,rfl,hbg,hg,hnc,hcm,hcs,htake⟩
 ·omega
 ·exact ⟨g,cap,rfl,fun j hj => h.cellAt j (by omega)⟩
theorem jn_len (ps:List (List El)) (h:∀ p ∈ ps,p.length≤3002):(jn ps).length≤ps.length * 3003:=by
 cases ps with
 | nil => simp [jn]
 | cons p r =>
  have key:∀ (r:List (List El)) (acc:List El),(∀ p ∈ r,p.length≤3002)→(r.foldl (fun acc q => acc ++ q ++ [catE]) acc).length≤acc.length+r.length * 3003:=by
   intro r
   induction r with
   | nil => intro acc _; simp
   | cons q r ih =>
    intro acc hq
    have h1:=ih (acc ++ q ++ [catE]) (fun p hp => hq p (by simp [hp]))
    have h2:=hq q (by simp)
    simp only [List.foldl_cons,List.length_cons,List.length_append,List.length_nil] at h1 ⊢
    omega
  have h1:=key r p (fun q hq => h q (by simp [hq]))
  have h2:=h p (by simp)
  simp only [jn,List.length_cons]
  omega
theorem jn_nice (ps:List (List El)) (h:∀ p ∈ ps,Nice p):Nice (jn ps):=by
 cases ps with
 | nil => exact Nice.nil
 | cons p r =>
  have key:∀ (r:List (List El)) (acc:List El),Nice acc→(∀ p ∈ r,Nice p)→Nice (r.foldl (fun acc q => acc ++ q ++ [catE]) acc):=by
   intro r
   induction r with
   | nil => intro acc h _; exact h
   | cons q r ih =>
    intro acc ha hq
    exact ih _ ((ha.app (hq q (by simp))).app (Nice.op 2 0 0 (by simp [In64]) (by simp [In64]) (by simp [In64]))) (fun p hp => hq p (by simp [hp]))
  exact key r p (h p (by simp)) (fun q hq => h q (by simp [hq]))
theorem jn_next {ps:List Pt} {k:Nat} (h:k<ps.length):jn ((ps.take (k+1)).map Pt.P)=if k=0 then (ps[k]).P else jn ((ps.take k).map Pt.P) ++ (ps[k]).P ++ [catE]:=by
 rw [List.take_succ_eq_append_getElem h,List.map_append]
 by_cases e:k=0
 ·subst e; simp [jn]
 ·rw [if_neg e]
  exact jn_snoc (by intro q; have:=congrArg List.length q; rw [List.length_map,List.length_take,List.length_nil] at this; omega) _
set_option maxHeartbeats 4000000 in
set_option maxRecDepth 100000 in
theorem xpS_star (mn:Int) (x X:List El) (cx:Int) (sx:SegM x cx) (Hx:XpS x X) (o2:0≤mn) (o3:mn≤250) (nx:Nice X) (lx:X.length≤3000):XpS (x ++ [⟨4,[],mn,-1⟩]) (jn (partsX X mn (-1))):=by
 intro v w hv hlen
 obtain ⟨a,cp,rfl,-,-⟩ := id hv
 obtain ⟨hlen2,hcap,b,off,rfl,hbn,hel⟩ := hv.last
 rw [hlen2] at hv hcap ⊢
 simp only [List.length_append,List.length_singleton] at hv hlen hlen2 hel hcap ⊢
 unfold maxLen at hcap
 obtain ⟨i1,i2,i3,sv,c0,c1,c2,c3,hints⟩ := hel
 obtain ⟨sa,sc,rfl,-,-,-⟩ := id hints
 simp only at c0 c2 c3
 clear hlen2 i1 i2 i3 hints
 have pl:=sx.ne
 have hvL:ElsAt 0 w.heap.size w (.slice (some ⟨b,off,none⟩) x.length cp) x:=hv.pre
 have HvL:=hide hvL
 have NX:=hide nx
 clear hvL hv nx
 go_enter Tryz.func97,Tryz.ntmps97
 go_wp2_with fail
 refine (Hx _ _ (by exact (unhide HvL).below (below1 w _) (Nat.le_refl _)) (by omega)).mono ?_
 rintro e w1 ⟨v1,rfl,hg1,hb1⟩
 obtain ⟨o1,d1,rfl⟩ := hg1.form
 have hB1:Below w.heap.size w w1:=(below1 w _).trans (hb1.mono (by rw [sz_alloc]; omega))
 have hz1:=hb1.size
 rw [sz_alloc] at hz1
 have RA:=hide ((Row4.new w 79 (.int .i64 4) (.slice sa 0 sc) (.int .i64 mn) (.int .i64 (-1))).below hb1 (by rw [sz_alloc]; omega))
 have hX0:=hg1.foot
 rw [sz_alloc] at hX0
 have HX:=hide hX0
 obtain ⟨q0,q1,q2,q3,-⟩ := Row4.facts (unhide RA)
 clear hb1 hg1 hX0
 go_wp2
 go_loopw [9,10] (fun pv i wr => ∃ j:Nat,i = .int .i64 ((j:Int)+1)∧(j=0∨(j:Int)+1≤mn)∧PGrow w1.heap.size wr pv (List.replicate j ⟨X,.slice o1 X.length d1,Rng (w.heap.size+1) w1.heap.size⟩)∧Below w1.heap.size w1 wr) (fun _ i _ => (mn - intOf i).toNat)
 case atStart => exact ⟨0,rfl,Or.inl rfl,PGrow.nil _ _,Below.refl _ _⟩
 case round =>
  obtain ⟨j,rfl,hj,hpg,hbr⟩ := hrel
  clear q0 q1 q2 q3
  obtain ⟨q0,q1,q2,q3,-⟩ := Row4.facts ((unhide RA).below hbr (by omega))
  have hzr:=hbr.size
  have Hpg:=hide hpg
  have hXr:=hide ((unhide HX).same (w':=wr) (fun k hk => hbr.block k hk.2))
  have hTr:Hid (∀ k,Rng (w.heap.size+1) w1.heap.size k→k<wr.heap.size):=fun k hk => Nat.lt_of_lt_of_le hk.2 hzr
  have hown:Hid (∀ k,Rng (w.heap.size+1) w1.heap.size k→∀ (u:Value) (n:Nat) (vs:List Value),wr.ownsRow w1.heap.size 32 1 u n vs→u.ownBlock ≠ some k):=fun k hk u n vs h e => by
   have:=(h.lt k e).1
   unfold Rng at hk
   omega
  obtain ⟨pa,pc,rfl⟩ := own_is hpg.own
  rw [List.length_replicate] at Hpg ⊢
  clear hpg
  by_cases hlt:(j:Int)+1<mn
  ·go_wp2_with (at_builtin; refine app_part ⟨X,.slice o1 X.length d1,Rng (w.heap.size+1) w1.heap.size⟩ rfl _ _ rfl rfl rfl (unhide Hpg) hzr (Below.refl _ _) (unhide hXr) (fun k hk => ⟨unhide hTr k hk,unhide hown k hk _ _ _ (unhide Hpg).own⟩) ⟨rfl,rfl,rfl,rfl⟩ (by rw [List.length_replicate]; omega) ?_)
   intro v2 w2 hg2 hb2
   have Hg2:Hid (PGrow w1.heap.size w2 v2 (List.replicate (j+1) ⟨X,.slice o1 X.length d1,Rng (w.heap.size+1) w1.heap.size⟩)):=by rw [List.replicate_succ']; exact hg2
   clear hg2
   go_wp2
   go_roundw
   case rel => exact ⟨j+1,by go_num,Or.inr (by omega),unhide Hg2,hbr.trans hb2⟩
   case measure => simp [intOf]; omega
  ·have hjj:Hid (j=(mn - 1).toNat):=by show j=(mn - 1).toNat; omega
   have hXe:=hide ((unhide hXr).at (fun k hk => unhide hTr k hk) (unhide NX).num)
   by_cases h1:1<mn
   ·go_wp2_with fail
    refine (l1rep_w 1 (-1) _ X _ (unhide hXe) (by omega) (unhide NX).len).mono ?_
    rintro e w2 ⟨v2,rfl,hg2,hb2⟩
    obtain ⟨p2,d2,rfl⟩ : ∃ a c,v2 = .slice a (X.length+1) c:=by have:=hg2.form; rwa [List.length_append] at this
    have Hf2:=hide hg2.foot
    clear hg2
    go_wp2_with (at_builtin; refine app_part ⟨X ++ [⟨4,[],1,-1⟩],.slice p2 (X.length+1) d2,Rng wr.heap.size w2.heap.size⟩ rfl _ _ rfl rfl rfl (unhide Hpg) hzr hb2 (unhide Hf2) (fun k hk => ⟨hk.2,fun e => by have:=((unhide Hpg).own.lt k e).2; unfold Rng at hk; omega⟩) ⟨rfl,rfl,rfl,rfl⟩ (by rw [List.length_replicate]; omega) ?_)
    intro v3 w3 hg3 hb3
    have hB3:Below w1.heap.size w1 w3:=hbr.trans hb3
    obtain ⟨ps,hps⟩ : ∃ ps,ps=List.replicate j (⟨X,.slice o1 X.length d1,Rng (w.heap.size+1) w1.heap.size⟩ : Pt) ++ [⟨X ++ [⟨4,[],1,-1⟩],.slice p2 (X.length+1) d2,Rng wr.heap.size w2.heap.size⟩]:=⟨_,rfl⟩
    rw [← hps] at hg3
    have hjn:Hid (jn (ps.map Pt.P)=jn (partsX X mn (-1))):=by
     rw [hps,List.map_append,List.map_replicate,unhide hjj]
     unfold partsX
     rw [if_pos rfl,if_pos h1]
     rfl
    have hpl:ps.length≤251:=by rw [hps,List.length_append,List.length_replicate]; simp; omega
    have hpn:Hid (∀ p ∈ ps,Nice p.P∧p.P.length≤3002):=fun p hp => by
     rw [hps] at hp
     rcases List.mem_append.1 hp with hp | hp
     ·rw [(List.mem_replicate.1 hp).2]
      exact ⟨unhide NX,by show X.length≤3002; omega⟩
     ·rw [List.mem_singleton.1 hp]
      exact ⟨(unhide NX).app (Nice.op _ _ _ (by simp [In64]) (by unfold In64; omega) (by simp [In64])),by show (X ++ [_]).length≤3002; rw [List.length_append]; simp; omega⟩
    have Hg3:=hide hg3
    have hB:Below w.heap.size w w3:=hB1.trans (hB3.mono (by omega))
    have hz3:=hB3.size
    obtain ⟨pa3,pc3,rfl⟩ := own_is hg3.own
    clear hg3 hps hb3 hb2 Hf2 q0 q1 q2 q3 Hpg hXr hTr hown hXe
    go_wp2
    go_loopw [13,14] (fun ov i wl => ∃ k:Nat,k≤ps.length∧i = .int .i64 k∧GrowE w3.heap.size wl ov (jn ((ps.take k).map Pt.P))∧Below w3.heap.size w3 wl) (fun _ i _ => ps.length - (intOf i).toNat)
    case atStart => exact ⟨0,Nat.zero_le _,rfl,GrowE.nil _ _,Below.refl _ _⟩
    case round =>
     obtain ⟨k,hk,rfl,hgo,hbl⟩ := hrel
     have hzl:=hbl.size
     by_cases hlt2:k<ps.length
     ·have hmem:=List.getElem_mem hlt2
      have hE:=(unhide Hg3).els _ hmem
      have hTk:=(unhide Hg3).blk _ hmem
      have hNk:=unhide hpn _ hmem
      have hEl:=hide ((hE.same (w':=wr) (fun k hk => hbl.block k (hTk k hk).1)).at (N:=wr.heap.size) (fun k hk => Nat.lt_of_lt_of_le (hTk k hk).1 hzl) hNk.1.num)
      obtain ⟨g,cap,ev,hcell⟩ := own_at_g (own_keep (unhide Hg3).own hbl (Nat.le_refl _)) (by omega)
      simp only [Value.slice.injEq,true_and] at ev
      obtain ⟨rfl,rfl⟩ := ev
      have hx:=hcell k hlt2
      rw [List.getElem?_map,List.getElem?_eq_getElem hlt2,Option.map_some] at hx
      have Hnext:=hide (jn_next hlt2)
      obtain ⟨sa2,sc2,hsv,-⟩ := hE
      have Hsv:=hide hsv
      rw [hsv] at hx hEl
      have hNk1:=hide hNk.1
      have hNk2:=hNk.2
      clear hcell hTk hmem hNk hsv
      generalize (ps[k]).P=P at *
      have hlt3:(k:Int)<(ps.length:Int):=by omega
      obtain ⟨qa,qc,rfl⟩ := hgo.form
      obtain ⟨os,hos,hgp⟩ := hgo
      have hol:os.length=(jn ((ps.take k).map Pt.P)).length:=by rw [← hos,List.length_map]
      have hjl:=jn_len ((ps.take k).map Pt.P) (fun p hp => by obtain ⟨q,hq,rfl⟩ := List.mem_map.1 hp; exact (unhide hpn q (List.mem_of_mem_take hq)).2)
      rw [List.length_map,List.length_take] at hjl
      have hol2:os.length≤800000:=by omega
      have Hos:=hide hos
      have Hgp:=hide hgp
      clear hos hgp hjl
      have hJ0:Hid (k=0→jn ((ps.take k).map Pt.P) = []):=fun e => by subst e; rfl
      generalize jn ((ps.take k).map Pt.P)=J at *
      go_wp2_with fail
      refine (l1copy_w _ P _ (unhide hEl) (by omega) (unhide hNk1).len).mono ?_
      rintro e w4 ⟨v4,rfl,hg4,hb4⟩
      obtain ⟨qb,qd,rfl⟩ := hg4.form
      obtain ⟨us,hus,hg4⟩ := hg4
      have hul:us.length=P.length:=by rw [← hus,List.length_map]
      have Hus:=hide hus
      have Hg4:=hide hg4
      clear hus hg4 hx hEl
      go_wp2_with (at_builtin; refine app_ops rfl _ _ rfl rfl rfl (unhide Hgp) hzl hb4 (unhide Hg4) (fun p hp => Pc.one ((unhide Hg4).set p hp)) (by omega) (by omega) ?_)
      intro v5 w5 hg5 hb5
      obtain ⟨qe,qf,rfl⟩ := own_is hg5.own
      have hB5:Below w3.heap.size w3 w5:=hbl.trans hb5
      have hz5:=hB5.size
      have Hg5:=hide hg5
      clear hg5
      by_cases hk0:k=0
      ·subst hk0
       have hfin:Hid (GrowE w3.heap.size w5 (.slice qe (os ++ us).length qf) (jn ((ps.take (0+1)).map Pt.P))):=⟨_,by rw [unhide Hnext,if_pos rfl,List.map_append,unhide Hos,unhide Hus,unhide hJ0 rfl]; rfl,unhide Hg5⟩
       go_wp2
       exact ⟨⟨1,by omega,rfl,unhide hfin,hB5⟩,by simp [intOf]; omega⟩
      ·have hk1:(0:Int)<(k:Int):=by omega
       go_wp2_with (at_builtin; refine app_op ⟨2,[],0,0⟩ (.slice none 0 0) (fun _ => False) rfl _ _ rfl rfl rfl (unhide Hg5) hz5 (Below.refl _ _) (SlF.none _) (fun k hk => hk.elim) rfl ⟨rfl,rfl,rfl,rfl⟩ (by rw [List.length_append]; omega) ?_)
       intro v6 w6 hg6 hb6
       have hfin:Hid (GrowE w3.heap.size w6 v6 (jn ((ps.take (k+1)).map Pt.P))):=⟨_,by rw [unhide Hnext,if_neg hk0]; simp [unhide Hos,unhide Hus,catE],hg6⟩
       clear hg6
       go_wp2
       exact ⟨⟨k+1,by omega,by go_num,unhide hfin,hB5.trans hb6⟩,by simp [intOf]; omega⟩
     ·obtain rfl:k=ps.length:=by omega
      rw [List.take_length,unhide hjn] at hgo
      have Hgo:=hide (hgo.base hB.size)
      clear hgo
      go_wp2
      go_ret
      exact ⟨_,rfl,unhide Hgo,hB.trans (hbl.mono hB.size)⟩
   ·go_wp2_with fail
    refine (l1rep_w mn (-1) _ X _ (unhide hXe) (by omega) (unhide NX).len).mono ?_
    rintro e w2 ⟨v2,rfl,hg2,hb2⟩
    obtain ⟨p2,d2,rfl⟩ : ∃ a c,v2 = .slice a (X.length+1) c:=by have:=hg2.form; rwa [List.length_append] at this
    have Hf2:=hide hg2.foot
    clear hg2
    go_wp2_with (at_builtin; refine app_part ⟨X ++ [⟨4,[],mn,-1⟩],.slice p2 (X.length+1) d2,Rng wr.heap.size w2.heap.size⟩ rfl _ _ rfl rfl rfl (unhide Hpg) hzr hb2 (unhide Hf2) (fun k hk => ⟨hk.2,fun e => by have:=((unhide Hpg).own.lt k e).2; unfold Rng at hk; omega⟩) ⟨rfl,rfl,rfl,rfl⟩ (by rw [List.length_replicate]; omega) ?_)
    intro v3 w3 hg3 hb3
    have hB3:Below w1.heap.size w1 w3:=hbr.trans hb3
    obtain ⟨ps,hps⟩ : ∃ ps,ps=List.replicate j (⟨X,.slice o1 X.length d1,Rng (w.heap.size+1) w1.heap.size⟩ : Pt) ++ [⟨X ++ [⟨4,[],mn,-1⟩],.slice p2 (X.length+1) d2,Rng wr.heap.size w2.heap.size⟩]:=⟨_,rfl⟩
    rw [← hps] at hg3
    have hjn:Hid (jn (ps.map Pt.P)=jn (partsX X mn (-1))):=by
     rw [hps,List.map_append,List.map_replicate,unhide hjj]
     unfold partsX
     rw [if_pos rfl,if_neg (by omega)]
     rfl
    have hpl:ps.length≤251:=by rw [hps,List.length_append,List.length_replicate]; simp; omega
    have hpn:Hid (∀ p ∈ ps,Nice p.P∧p.P.length≤3002):=fun p hp => by
     rw [hps] at hp
     rcases List.mem_append.1 hp with hp | hp
     ·rw [(List.mem_replicate.1 hp).2]
      exact ⟨unhide NX,by show X.length≤3002; omega⟩
     ·rw [List.mem_singleton.1 hp]
      exact ⟨(unhide NX).app (Nice.op _ _ _ (by simp [In64]) (by unfold In64; omega) (by simp [In64])),by show (X ++ [_]).length≤3002; rw [List.length_append]; simp; omega⟩
    have Hg3:=hide hg3
    have hB:Below w.heap.size w w3:=hB1.trans (hB3.mono (by omega))
    have hz3:=hB3.size
    obtain ⟨pa3,pc3,rfl⟩ := own_is hg3.own
    clear hg3 hps hb3 hb2 Hf2 q0 q1 q2 q3 Hpg hXr hTr hown hXe
    go_wp2
    go_loopw [13,14] (fun ov i wl => ∃ k:Nat,k≤ps.length∧i = .int .i64 k∧GrowE w3.heap.size wl ov (jn ((ps.take k).map Pt.P))∧Below w3.heap.size w3 wl) (fun _ i _ => ps.length - (intOf i).toNat)
    case atStart => exact ⟨0,Nat.zero_le _,rfl,GrowE.nil _ _,Below.refl _ _⟩
    case round =>
     obtain ⟨k,hk,rfl,hgo,hbl⟩ := hrel
     have hzl:=hbl.size
     by_cases hlt2:k<ps.length
     ·have hmem:=List.getElem_mem hlt2
      have hE:=(unhide Hg3).els _ hmem
      have hTk:=(unhide Hg3).blk _ hmem
      have hNk:=unhide hpn _ hmem
      have hEl:=hide ((hE.same (w':=wr) (fun k hk => hbl.block k (hTk k hk).1)).at (N:=wr.heap.size) (fun k hk => Nat.lt_of_lt_of_le (hTk k hk).1 hzl) hNk.1.num)
      obtain ⟨g,cap,ev,hcell⟩ := own_at_g (own_keep (unhide Hg3).own hbl (Nat.le_refl _)) (by omega)
      simp only [Value.slice.injEq,true_and] at ev
      obtain ⟨rfl,rfl⟩ := ev
      have hx:=hcell k hlt2
      rw [List.getElem?_map,List.getElem?_eq_getElem hlt2,Option.map_some] at hx
      have Hnext:=hide (jn_next hlt2)
      obtain ⟨sa2,sc2,hsv,-⟩ := hE
      have Hsv:=hide hsv
      rw [hsv] at hx hEl
      have hNk1:=hide hNk.1
      have hNk2:=hNk.2
      clear hcell hTk hmem hNk hsv
      generalize (ps[k]).P=P at *
      have hlt3:(k:Int)<(ps.length:Int):=by omega
      obtain ⟨qa,qc,rfl⟩ := hgo.form
      obtain ⟨os,hos,hgp⟩ := hgo
      have hol:os.length=(jn ((ps.take k).map Pt.P)).length:=by rw [← hos,List.length_map]
      have hjl:=jn_len ((ps.take k).map Pt.P) (fun p hp => by obtain ⟨q,hq,rfl⟩ := List.mem_map.1 hp; exact (unhide hpn q (List.mem_of_mem_take hq)).2)
      rw [List.length_map,List.length_take] at hjl
      have hol2:os.length≤800000:=by omega
      have Hos:=hide hos
      have Hgp:=hide hgp
      clear hos hgp hjl
      have hJ0:Hid (k=0→jn ((ps.take k).map Pt.P) = []):=fun e => by subst e; rfl
      generalize jn ((ps.take k).map Pt.P)=J at *
      go_wp2_with fail
      refine (l1copy_w _ P _ (unhide hEl) (by omega) (unhide hNk1).len).mono ?_
      rintro e w4 ⟨v4,rfl,hg4,hb4⟩
      obtain ⟨qb,qd,rfl⟩ := hg4.form
      obtain ⟨us,hus,hg4⟩ := hg4
      have hul:us.length=P.length:=by rw [← hus,List.length_map]
      have Hus:=hide hus
      have Hg4:=hide hg4
      clear hus hg4 hx hEl
      go_wp2_with (at_builtin; refine app_ops rfl _ _ rfl rfl rfl (unhide Hgp) hzl hb4 (unhide Hg4) (fun p hp => Pc.one ((unhide Hg4).set p hp)) (by omega) (by omega) ?_)
      intro v5 w5 hg5 hb5
      obtain ⟨qe,qf,rfl⟩ := own_is hg5.own
      have hB5:Below w3.heap.size w3 w5:=hbl.trans hb5
      have hz5:=hB5.size
      have Hg5:=hide hg5
      clear hg5
      by_cases hk0:k=0
      ·subst hk0
       have hfin:Hid (GrowE w3.heap.size w5 (.slice qe (os ++ us).length qf) (jn ((ps.take (0+1)).map Pt.P))):=⟨_,by rw [unhide Hnext,if_pos rfl,List.map_append,unhide Hos,unhide Hus,unhide hJ0 rfl]; rfl,unhide Hg5⟩
       go_wp2
       exact ⟨⟨1,by omega,rfl,unhide hfin,hB5⟩,by simp [intOf]; omega⟩
      ·have hk1:(0:Int)<(k:Int):=by omega
       go_wp2_with (at_builtin; refine app_op ⟨2,[],0,0⟩ (.slice none 0 0) (fun _ => False) rfl _ _ rfl rfl rfl (unhide Hg5) hz5 (Below.refl _ _) (SlF.none _) (fun k hk => hk.elim) rfl ⟨rfl,rfl,rfl,rfl⟩ (by rw [List.length_append]; omega) ?_)
       intro v6 w6 hg6 hb6
       have hfin:Hid (GrowE w3.heap.size w6 v6 (jn ((ps.take (k+1)).map Pt.P))):=⟨_,by rw [unhide Hnext,if_neg hk0]; simp [unhide Hos,unhide Hus,catE],hg6⟩
       clear hg6
       go_wp2
       exact ⟨⟨k+1,by omega,by go_num,unhide hfin,hB5.trans hb6⟩,by simp [intOf]; omega⟩
     ·obtain rfl:k=ps.length:=by omega
      rw [List.take_length,unhide hjn] at hgo
      have Hgo:=hide (hgo.base hB.size)
      clear hgo
      go_wp2
      go_ret
      exact ⟨_,rfl,unhide Hgo,hB.trans (hbl.mono hB.size)⟩
end Go.Proofs.YtlidckepahpaeaaGreatDoor
