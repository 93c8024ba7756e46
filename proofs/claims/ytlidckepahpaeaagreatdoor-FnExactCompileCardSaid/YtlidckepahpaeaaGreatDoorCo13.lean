import Derived.Test.YtlidckepahpaeaaGreatDoorPk35
import Derived.Test.YtlidckepahpaeaaGreatDoorPk29
import Derived.BigQuiet
import Derived.BigRegion
import Derived.Deep.RegionHeld3
import Derived.Deep.DeepCutAuto
namespace Go.Proofs.YtlidckepahpaeaaGreatDoor
open Go.RowKit
def TabR (N m:Nat) (st:List Nat × Bool→Nat→List Nat × Bool) (s0:List Nat × Bool) (cl:Value) (x:Ending) (w w':World):Prop :=
 (∃ (nv av:Value) (o:List ((Nat→Nat) × Bool)) (ys:List Nat),x = .returned (.tuple #[.agg #[cl,.int .i64 (m:Nat),nv,av],.bool true])∧Bfs m st s0 (o.map (pab N)) ys∧ys.length=o.length * m∧o.length≤1024∧w'.ownsRow w.heap.size 3 1 nv ys.length (ys.map mN)∧w'.ownsRow w.heap.size 4 1 av o.length ((o.map Prod.snd).map mT)∧∀ r,nv.ownBlock=some r→av.ownBlock ≠ some r) ∨
 (∃ (o:List ((Nat→Nat) × Bool)) (ys:List Nat),x = .returned (.tuple #[.agg #[.slice none 0 0,.int .i64 0,.slice none 0 0,.slice none 0 0],.bool false])∧Bfs m st s0 (o.map (pab N)) ys∧1024<o.length)
def TbH (N m:Nat) (st:List Nat × Bool→Nat→List Nat × Bool) (s0:List Nat × Bool) (w0 w:World) (b0:Nat) (cl:Value) (fv ov:Value):Prop :=
 ∃ (o:List ((Nat→Nat) × Bool)) (tk:Nat) (ys:List Nat) (zs:List Bool) (qv nv av:Value) (fb:Nat) (p:(Nat→Nat) × Bool),fv = .pointer (some ⟨fb,0,none⟩)∧FbAt w (b0+6) fb qv nv av p∧TbAt w0 w (b0+1) (b0+3) (b0+4) (b0+5) (b0+6) cl m o o tk ys zs qv nv av∧Bfs m st s0 (o.map (pab N)) ys∧(∀ x ∈ o,Low N x.1)∧o.length≤1024 ∧
  ((ov = .bool false∧tk=o.length∧ys.length=tk * m∧zs=o.map Prod.snd) ∨
   (ov = .bool true∧∃ t,tk=t+1∧o[t]? = some p∧ys.length=t * m∧zs=(o.take t).map Prod.snd))
theorem bfs_oldP {k N:Nat} {fn:List Nat × Bool→Nat→List Nat × Bool} {s0 r:List Nat × Bool} {x p:(Nat→Nat) × Bool} {o:List ((Nat→Nat) × Bool)} {ys:List Nat} {i e j:Nat} (h:Bfs k fn s0 (o.map (pab N)) ys) (hd:ys.length / k=i∧ys.length % k=e) (hi:o[i]? = some x) (hr:fn (pab N x) e=r) (hj:o[j]? = some p) (hp:pab N p=r):Bfs k fn s0 (o.map (pab N)) (ys ++ [j]) :=
 h.old (x:=pab N x) (by rw [hd.1,List.getElem?_map,hi]; rfl) (by rw [hd.2,List.getElem?_map,hj,hr,← hp]; rfl)
theorem bfs_newP {k N:Nat} {fn:List Nat × Bool→Nat→List Nat × Bool} {s0:List Nat × Bool} {x r:(Nat→Nat) × Bool} {o:List ((Nat→Nat) × Bool)} {ys:List Nat} {i e:Nat} (h:Bfs k fn s0 (o.map (pab N)) ys) (hd:ys.length / k=i∧ys.length % k=e) (hi:o[i]? = some x) (hr:fn (pab N x) e=pab N r) (hno:∀ p ∈ o,pab N p ≠ pab N r):Bfs k fn s0 ((o ++ [r]).map (pab N)) (ys ++ [o.length]):=by
 have:=h.new (x:=pab N x) (by rw [hd.1,List.getElem?_map,hi]; rfl) (fun j hj e9 => by
  rw [hd.2,hr,List.getElem?_map] at e9
  cases e8:o[j]? with
  | none => rw [e8] at e9; cases e9
  | some p => rw [e8] at e9; exact hno p (List.mem_of_getElem? e8) (Option.some.inj e9))
 rw [hd.2,hr,List.length_map] at this
 rw [List.map_append]
 exact this
set_option maxHeartbeats 8000000 in
set_option maxRecDepth 100000 in
theorem table_any (B A N m gc:Nat) (hv fv:Value) (K:Nat→Nat) (hs fs:Nat→Nat→Nat) (b:Bool) (f l:Nat→Nat) (w:World) (hW:WkR w B A N m gc hv fv K hs fs b f l) (hold fol:Nat→Nat→Bool) (last:Nat→Bool) (rep:Nat→Nat) (hN:N≤512) (hm:m≤256) (hm1:1≤m)
  (hh:∀ c,c<m→∀ i,Bt (hs c) i=hold i (rep c)) (hf:∀ i j,Bt (fs i) j=fol i j) (hl:∀ i,Bt l i=last i) (hfN:∀ i j,Bt (fs i) j=true→j<N) (hf0:Low N f) (htz:TZ w) (htl:Tryz.laysTZ_ren.g 1<w.heap.size) :
  Calls Tryz.prog 21 #[.pointer (some ⟨B,0,none⟩)] w fun x w' => Below w.heap.size w w'∧TabR N m (fun x e => pstep N hold fol last x (rep e)) (pab N (f,b)) (.slice (some ⟨gc,0,none⟩) 256 256) x w w':=by
 obtain ⟨i0,hi0,hz0,hz1,hz2⟩ := info_parts Tryz.zinInt
 obtain ⟨st,hst⟩ : ∃ st:List Nat × Bool→Nat→List Nat × Bool,st=fun x e => pstep N hold fol last x (rep e):=⟨_,rfl⟩
 rw [← hst]
 have hstep:∀ (Q:Nat→Nat) (e0:Bool) (c:Nat),c<m→Low N Q→st (pab N (Q,e0)) c=pab N (orL fs (blN (andW Q (hs c)) 512),!(eq8 (andW (andW Q (hs c)) l))):=fun Q e0 c hc hQ => by
  rw [hst]
  exact (step_pab hN hQ (hh c hc) hf hl).symm
 have hlow:∀ Y,Low N (orL fs Y):=fun Y => step_low hW.fs hfN
 obtain ⟨ha,hc,hvv⟩ : ∃ ha hc,hv = .slice ha m hc:=own_is hW.hol
 subst hvv
 have HSTP:=hide hstep
 have HLOW:=hide hlow
 have HF0:=hide hf0
 have HW:=hide hW
 have HTZ:Hid (∀ W,Below w.heap.size w W→TZ W):=fun W hW => htz.below hW htl
 have hltB:=hW.box.lt
 obtain ⟨W1,hW1⟩ : ∃ W1,W1=w.alloc (.cells #[.slice none 0 0,.int .i64 0,.slice none 0 0,.slice none 0 0] 29):=⟨_,rfl⟩
 have hB1:Below w.heap.size w W1:=by rw [hW1]; exact below1 w _
 have hz1':W1.heap.size=w.heap.size+1:=by rw [hW1,sz_alloc]
 have hE1:Row4 W1 w.heap.size 29 (.slice none 0 0) (.int .i64 0) (.slice none 0 0) (.slice none 0 0):=by rw [hW1]; exact Row4.new w _ _ _ _ _
 obtain ⟨-,k1,k2⟩ := (hW.box.keep (hB1.block B hltB)).cells
 have HB1:=hide hB1
 have HE1:=hide hE1
 have HZ1:=hide hz1'
 have HW1:=hide hW1
 clear hst hstep hlow hf0 hW htz hh hf hl hfN hB1 hE1 hW1 hz1'
 go_enter Tryz.func21,Tryz.ntmps21
 have k1a:∀ o:Obj,(W1.alloc o).cell? ⟨B,1,none⟩ = some (.slice (some ⟨gc,0,none⟩) 256 256):=fun o => by rw [(below1 W1 o).cell (p:=⟨B,1,none⟩) (by have:=unhide HZ1; show B<_; omega)]; exact k1
 have k2a:∀ o:Obj,(W1.alloc o).cell? ⟨B,2,none⟩ = some (.slice ha m hc):=fun o => by rw [(below1 W1 o).cell (p:=⟨B,2,none⟩) (by have:=unhide HZ1; show B<_; omega)]; exact k2
 go_upto_region 1 with fail
 rw [← unhide HW1]
 go_region
 go_wp2_with fail
 refine (newPd_any _).mono ?_
 have hsz:((W1.alloc (.cells #[.slice (some ⟨gc,0,none⟩) 256 256,.int .i64 (m:Nat),.slice none 0 0,.slice none 0 0] 29)).drew).heap.size=w.heap.size+2:=(sz_alloc W1 _).trans (by rw [unhide HZ1])
 have hD2:Row4 ((W1.alloc (.cells #[.slice (some ⟨gc,0,none⟩) 256 256,.int .i64 (m:Nat),.slice none 0 0,.slice none 0 0] 29)).drew) (w.heap.size+1) 29 (.slice (some ⟨gc,0,none⟩) 256 256) (.int .i64 (m:Nat)) (.slice none 0 0) (.slice none 0 0):=by
  have:=Row4.new W1 29 (.slice (some ⟨gc,0,none⟩) 256 256) (.int .i64 (m:Nat)) (.slice none 0 0) (.slice none 0 0)
  rw [unhide HZ1] at this
  exact this
 have hE2:Row4 ((W1.alloc (.cells #[.slice (some ⟨gc,0,none⟩) 256 256,.int .i64 (m:Nat),.slice none 0 0,.slice none 0 0] 29)).drew) w.heap.size 29 (.slice none 0 0) (.int .i64 0) (.slice none 0 0) (.slice none 0 0):=(unhide HE1).alloc _
 have hB2:Below w.heap.size w ((W1.alloc (.cells #[.slice (some ⟨gc,0,none⟩) 256 256,.int .i64 (m:Nat),.slice none 0 0,.slice none 0 0] 29)).drew):=((unhide HB1).alloc (unhide HB1).size _).drew
 rw [show W1.heap.size=w.heap.size+1 from unhide HZ1]
 generalize (W1.alloc (.cells #[.slice (some ⟨gc,0,none⟩) 256 256,.int .i64 (m:Nat),.slice none 0 0,.slice none 0 0] 29)).drew=W2 at hsz hD2 hE2 hB2 ⊢
 rintro e w4 ⟨rfl,hN4,hz4,hB4⟩
 rw [hsz] at hN4 hz4 ⊢
 obtain ⟨W6,hW6⟩ : ∃ W6,W6=(w4.alloc (.cells #[.map (some (w.heap.size+2+1))] 112)).alloc (.cells #[.slice none 0 0,.int .i64 0] 118):=⟨_,rfl⟩
 have hR6:TbAt w W6 (w.heap.size+1) (w.heap.size+3) (w.heap.size+4) (w.heap.size+5) (w.heap.size+6) (.slice (some ⟨gc,0,none⟩) 256 256) m [] [] 0 [] [] (.slice none 0 0) (.slice none 0 0) (.slice none 0 0):=by
  have hb6:Below w4.heap.size w4 W6:=by rw [hW6]; exact below2 w4 _ _
  have hb26:Below W2.heap.size W2 W6:=hB4.trans (hb6.mono (by omega))
  refine ⟨by omega,by omega,⟨_,World.rowIs.of_block hE2 (hb26.block _ (by omega))⟩,hD2.below hb26 (by omega),hN4.keep (hb6.block _ (by omega)),?_,?_,World.ownsRow_nil _ _ _ _,World.ownsRow_nil _ _ _ _,World.ownsRow_nil _ _ _ _,(fun r hr => by cases hr),(fun r hr => by cases hr),hB2.trans (hb26.mono (by omega)),by rw [hW6,sz_alloc,sz_alloc]; omega⟩
  ·have:=World.rowIs_alloc w4 #[.map (some (w.heap.size+2+1))] 112 (fun _ => .map (some (w.heap.size+2+1))) (fun j hj => by
    match j,hj with
    | 0,_ => rfl)
   rw [hz4] at this
   rw [hW6]
   exact this.alloc _
  ·have:=Rq2.new (w4.alloc (.cells #[.map (some (w.heap.size+2+1))] 112)) 118 (.slice none 0 0) (.int .i64 ((0:Nat):Int))
   rw [sz_alloc,hz4] at this
   rw [hW6]
   exact this
 have u0:W6.cell? ⟨w.heap.size+4,0,none⟩ = some (.map (some (w.heap.size+3))):=hR6.kn.cell (by omega)
 have hz6:=hR6.sz
 have hSTA:Hid (∀ V:World,Below w.heap.size w V→Calls Tryz.prog 49 #[.pointer (some ⟨B,0,none⟩)] V fun e w' => e = .returned (pd f b)∧Below V.heap.size V w'):=fun V hV => start_any B A N _ _ fv fs b f l V ((unhide HW).box.keep (hV.block B hltB)) ((unhide HW).aut.keep hV (Nat.le_refl _))
 have HS6:=hide ((unhide hSTA W6.drew hR6.bl.drew).mono (R':=fun e w7 => e = .returned (pd f b)∧Below W6.heap.size W6 w7) (fun e w7 h => ⟨h.1,⟨h.2.os,h.2.tape,h.2.output,h.2.size,fun k hk => h.2.block k hk⟩⟩))
 have HOF:Hid (∀ V:World,Below W6.heap.size W6 V→Calls Tryz.prog 48 #[.agg #[.map (some (w.heap.size+3))],pd f b] V fun x w' => ∃ (i:Nat),x = .returned (.tuple #[.int .i64 (i:Nat),.bool true])∧w'.cell? ⟨w.heap.size+4,0,none⟩ = some (.map (some (w.heap.size+3)))∧TbAt w w' (w.heap.size+1) (w.heap.size+3) (w.heap.size+4) (w.heap.size+5) (w.heap.size+6) (.slice (some ⟨gc,0,none⟩) 256 256) m [(f,b)] [] 0 [] [] (.slice none 0 0) (.slice none 0 0) (.slice none 0 0)):=fun V hV => by
  refine (of_tb (hR6.keep hV) f b (unhide HF0).1 (by decide)).mono ?_
  rintro e w' ⟨i,ff,rfl,⟨rfl,⟨p,hp,-⟩,-⟩ | ⟨rfl,-,rfl,h⟩,-⟩
  ·cases hp
  ·exact ⟨_,rfl,h.kn.cell (by omega),h⟩
 have hS:Hid (∀ V:World,Below W6.heap.size W6 V→V.cell? ⟨w.heap.size+4,0,none⟩ = some (.map (some (w.heap.size+3)))):=fun V hV => (hR6.keep hV).kn.cell (by omega)
 unfold pd at HS6 HOF
 have HW6:=hide hW6
 clear hR6 hW6 HE1 hB4 hN4 hD2 hE2 hB2 hsz k1a k2a k1 k2 HW1 HB1
 go_upto_region 4 with fail
 rw [← unhide HW6]
 clear HW6
 simp only [Nat.add_assoc,Nat.reduceAdd]
 go_cut [5] (fun kv wx => kv = .pointer (some ⟨w.heap.size+4,0,none⟩)∧TbAt w wx (w.heap.size+1) (w.heap.size+3) (w.heap.size+4) (w.heap.size+5) (w.heap.size+6) (.slice (some ⟨gc,0,none⟩) 256 256) m [(f,b)] [] 0 [] [] (.slice none 0 0) (.slice none 0 0) (.slice none 0 0))
 case first =>
  go_region_held3 (fun V => V.cell? ⟨w.heap.size+4,0,none⟩ = some (.map (some (w.heap.size+3))))
   (first | (with_reducible exact hc8) | (with_reducible exact unhide hS _ hb7) | go_keep)
   (first
    | (go_at_call 49; (with_reducible refine (unhide HS6).mono ?_); rintro e w7 ⟨rfl,hb7⟩)
    | (go_at_call 48; (with_reducible refine (unhide HOF _ hb7).mono ?_); rintro e w8 ⟨i8,rfl,hc8,hR8⟩))
  all_goals go_wp2_with fail
  all_goals go_meet
  all_goals exact ⟨rfl,hR8⟩
 case rest =>
  obtain ⟨rfl,hR8⟩ := hcut
  have HS8:=hide (unhide hSTA wc hR8.bl)
  have HR8:=hide hR8
  unfold pd at HS8
  clear hR8 HS6 HOF hS u0 hz6
  go_wp2_with fail
  refine (unhide HS8).mono ?_
  rintro e w9 ⟨rfl,hb9⟩
  have HPU:=hide (push_tb ((unhide HR8).keep hb9) f b (by decide))
  unfold pd at HPU
  clear hb9 HR8 HS8
  go_wp2_with fail
  refine (unhide HPU).mono ?_
  rintro e w10 ⟨rfl,qv10,hR10,-⟩
  rw [List.nil_append] at hR10
  have HPO:=hide (pop_tb hR10 (by simp) (by simp))
  clear hR10 HPU
  go_wp2_with fail
  refine (unhide HPO).mono ?_
  rintro e w11 hcs
  have hH11:∃ p:(Nat→Nat) × Bool,e = .returned (.tuple #[.agg (c9 p.1 p.2),.bool true])∧TbH N m st (pab N (f,b)) w (w11.alloc (.cells (c9 p.1 p.2) 115)) w.heap.size (.slice (some ⟨gc,0,none⟩) 256 256) (.pointer (some ⟨w11.heap.size,0,none⟩)) (.bool true):=by
   rcases hcs with ⟨h1,-⟩ | ⟨s,h1,rfl,h2,-⟩
   ·cases h1
   ·refine ⟨s,rfl,[(f,b)],1,[],[],_,_,_,w11.heap.size,s,rfl,h2.fresh s,h2.keep (below1 w11 _),Bfs.start _ _ _,(fun x hx => by rw [List.mem_singleton] at hx; rw [hx]; exact unhide HF0),by simp,.inr ⟨rfl,0,rfl,h1,by simp,by simp⟩⟩
  obtain ⟨p11,rfl,hH11⟩ := hH11
  have HH11:=hide hH11
  clear hcs hH11 HPO
  go_wp2_with fail
  go_loopw [7,8] (fun fv ov wr => TbH N m st (pab N (f,b)) w wr w.heap.size (.slice (some ⟨gc,0,none⟩) 256 256) fv ov) (fun _ ov wr => 2 * (1024 - tkOf2 (w.heap.size+5) wr)+okOf2 ov)
  case atStart => exact unhide HH11
  case round =>
   clear HH11
   obtain ⟨o,tk,ys,zs,qv,nv,av,fb,p,rfl,hF,hR,hBf,hlow,hol,⟨rfl,htk,hyl,hzs⟩ | ⟨rfl,t,htk,hp,hyl,hzs⟩⟩ := hrel
   ·obtain ⟨g0,g1,g2,g3,-⟩ := hR.d.facts
    obtain ⟨F,hFF⟩ := hR.res
    have x0:=hFF.cell (i:=0) (by omega)
    have x1:=hFF.cell (i:=1) (by omega)
    have x2:=hFF.cell (i:=2) (by omega)
    have x3:=hFF.cell (i:=3) (by omega)
    have z0:=hFF.frozen 0
    have z1:=hFF.frozen 1
    have z2:=hFF.frozen 2
    have z3:=hFF.frozen 3
    obtain ⟨na,nc,e1⟩ := own_is hR.on
    subst e1
    obtain ⟨va,vc,e2⟩ := own_is hR.oa
    subst e2
    have hzl:zs.length=o.length:=by rw [hzs,List.length_map]
    have HR:=hide hR
    have HBF:=hide hBf
    have HFF:=hide hFF
    have HYL:=hide hyl
    have HTK:=hide htk
    have HZS:=hide hzs
    have HZL:=hide hzl
    clear hR hBf hFF hyl htk hzs hzl hF
    go_wp2
    refine bodyPost_ret (dfab_ret (row4_all (unhide HFF) _ _ _ _) rfl _ rfl rfl) rfl ?_
    have hob:=row4_ob wr w.heap.size (.slice (some ⟨gc,0,none⟩) 256 256) (.int .i64 (m:Nat)) (.slice na ys.length nc) (.slice va zs.length vc)
    have hR:=unhide HR
    refine ⟨hR.bl.trans (hob.bel (Nat.le_refl _)),.inl ⟨_,_,o,ys,rfl,unhide HBF,by rw [unhide HYL,unhide HTK],hol,own_low (own_blk hR.on (fun q hq => hob.block q (by have:=(hR.on.lt q hq).1; omega))) (by omega),?_,hR.na⟩⟩
    rw [← unhide HZS,← unhide HZL]
    exact own_low (own_blk hR.oa (fun q hq => hob.block q (by have:=(hR.oa.lt q hq).1; omega))) (by omega)
   ·obtain ⟨P,y⟩ := p
    have hto:t<o.length:=get_lt hp
    have hPl:Low N P:=hlow _ (List.mem_of_getElem? hp)
    obtain ⟨g0,g1,g2,g3,-⟩ := hR.d.facts
    have p8:=(blk_row9 hF.blk).cell (i:=8) (by omega)
    simp only [pdF,Nat.lt_irrefl,if_false] at p8
    obtain ⟨va,vc,e2⟩ := own_is hR.oa
    subst e2
    have hzl:zs.length≤1024:=by rw [hzs,List.length_map,List.length_take]; omega
    have hmeas:tkOf2 (w.heap.size+5) wr=t+1:=by
     rw [tkOf2,World.rowIs.cell hR.q (by omega),htk]
     simp [intOf]
    have HME:=hide hmeas
    rw [htk] at hR
    have HOA:=hide hR.oa
    have HR:=hide hR
    have HF:=hide hF
    have HBF:=hide hBf
    have HYL:=hide hyl
    have HZS:=hide hzs
    have HLO:=hide hlow
    have HP:=hide hp
    clear hR hF hBf hyl hzs hlow hp hmeas htk
    go_wp2_with (first | (at_builtin; refine app_t1 rfl _ _ rfl (w.heap.size+6) (.slice va zs.length vc) rfl y rfl zs (unhide HOA) (unhide HR).sz (by omega) ?_) | fail)
    intro v12 w12 r1 r2 r3
    obtain ⟨z1,z2,hR12⟩ := (unhide HR).pushA (x:=y) (by rw [List.length_append,List.map_append]; exact r1) r2 r3
    have hF12:=(unhide HF).on ((unhide HR).kpA r2 r3 3)
    obtain ⟨zs2,hzs2⟩ : ∃ zs2,zs2=zs ++ [y]:=⟨_,rfl⟩
    have r1:w12.ownsRow (w.heap.size+6) 4 1 v12 zs2.length (zs2.map mT):=by rw [hzs2,List.length_append,List.map_append]; exact r1
    rw [← hzs2] at hR12
    have hzt:zs2=(o.take (t+1)).map Prod.snd:=by rw [hzs2,unhide HZS,List.take_add_one,unhide HP,List.map_append]; rfl
    obtain ⟨pa,pc,e8⟩ := own_is r1
    subst e8
    obtain ⟨-,d1,-⟩ := hR12.d.facts
    obtain ⟨w13,hw13⟩ : ∃ w13,w13=w12.setCell ⟨w.heap.size+1,3,none⟩ (.slice pa zs2.length pc):=⟨_,rfl⟩
    have HW13:=hide hw13
    have HR12:=hide hR12
    have HF12:=hide hF12
    have HZT:=hide hzt
    clear r1 r2 r3 hR12 hF12 hzs2 hzt HR HF HOA g0 g1 g2 g3 p8 HZS hw13
    go_wp2_with fail
    rw [← unhide HW13]
    rw [← unhide HW13] at HR12 HF12
    clear HW13 z1 z2 d1
    go_loopw [49] (fun cv wx => ∃ (c:Nat) (o:List ((Nat→Nat) × Bool)) (ys:List Nat) (zs:List Bool) (qv nv av:Value),c≤m∧cv = .int .i64 (c:Nat)∧TbAt w wx (w.heap.size+1) (w.heap.size+3) (w.heap.size+4) (w.heap.size+5) (w.heap.size+6) (.slice (some ⟨gc,0,none⟩) 256 256) m o o (t+1) ys zs qv nv av∧FbAt wx (w.heap.size+6) fb qv nv av (P,y)∧Bfs m st (pab N (f,b)) (o.map (pab N)) ys∧(∀ x ∈ o,Low N x.1)∧o[t]? = some (P,y)∧ys.length=t * m+c∧zs=(o.take (t+1)).map Prod.snd∧o.length≤1024) (fun cv _ => m - (intOf cv).toNat)
    case atStart => exact ⟨0,o,ys,_,_,_,_,by omega,rfl,unhide HR12,unhide HF12,unhide HBF,unhide HLO,unhide HP,unhide HYL,unhide HZT,hol⟩
    case round =>
     clear HR12 HF12 HBF HLO HP HYL HZT hol hto hzl
     obtain ⟨c,o,ys,zs,qv,nv,av,hcm,rfl,hR,hF,hBf,hlow,hp,hyl,hzs,hol⟩ := hrel
     obtain ⟨w14,rfl⟩ : ∃ w14,w14=wr:=⟨_,rfl⟩
     have hto:t<o.length:=get_lt hp
     by_cases hcl:c<m
     ·have hcl':(c:Int)<(m:Int):=by omega
      have hW14:=(unhide HW).keep hR.bl (Nat.le_refl _)
      have hdv:ys.length / m=t∧ys.length % m=c:=by rw [hyl]; exact row_at hcl
      have hyb:ys.length≤262144:=by
       have h1:=row_in (k:=m) (Nat.lt_of_lt_of_le hto hol) hcl
       have h2:1024 * m≤1024 * 256:=Nat.mul_le_mul_left _ hm
       omega
      have HST:=hide (step_any B A N c m _ (.slice ha m hc) fv hs fs b f l P y w14 hW14.box hW14.aut hW14.hol hcl hPl.1 (hW14.fh _ hcl) hW14.fl hW14.fs (hW14.inn _ hcl) (unhide HTZ _ hR.bl) (by have:=hR.bl.size; omega))
      have hstp:=unhide HSTP P y c hcl hPl
      have hPl2:=unhide HLOW (blN (andW P (hs c)) 512)
      obtain ⟨P',hP'⟩ : ∃ P',P'=orL fs (blN (andW P (hs c)) 512):=⟨_,rfl⟩
      obtain ⟨y',hy'⟩ : ∃ y',y' = !(eq8 (andW (andW P (hs c)) l)):=⟨_,rfl⟩
      rw [← hP',← hy'] at HST hstp
      rw [← hP'] at hPl2
      unfold pd at HST
      have HBK:=hide hF.blk
      have HSTP2:=hide hstp
      have HPL2:=hide hPl2
      have HR:=hide hR
      have HF:=hide hF
      have HBF:=hide hBf
      have HYL:=hide hyl
      have HZS:=hide hzs
      have HLO:=hide hlow
      have HP:=hide hp
      have HDV:=hide hdv
      clear hR hF hBf hyl hzs hlow hp hW14 hstp hPl2 hP' hy' hdv
      go_wp2_with (first | (refine wpList_load_row rfl 115 (.tmp 7) rfl fb rfl 115 (c9 P y) (0,0) _ (unhide HBK) Tryz.underlying115 rfl (by kernel_rfl) ?_) | fail)
      refine (unhide HST).mono ?_
      rintro e w15 ⟨rfl,hb15⟩
      have hR15:=(unhide HR).keep hb15
      have hT16:=hR15.fresh (P',y')
      obtain ⟨w16,hw16⟩ : ∃ w16,w16=w15.alloc (.cells (c9 P' y') 115):=⟨_,rfl⟩
      have hb16:Below w15.heap.size w15 w16:=by rw [hw16]; exact below1 w15 _
      have hR16:=hR15.keep hb16
      have hF16:=((unhide HF).on (KpB.keep hb15)).on (KpB.keep hb16)
      have hT16:FbAt w16 (w.heap.size+6) w15.heap.size qv nv av (P',y'):=by rw [hw16]; exact hT16
      have u0:w16.cell? ⟨w.heap.size+4,0,none⟩ = some (.map (some (w.heap.size+3))):=hR16.kn.cell (by omega)
      have HBT:=hide hT16.blk
      have HOF:=hide (of_tb hR16 P' y' (unhide HPL2).1 (by omega))
      unfold pd at HOF
      have HW16:=hide hw16
      have HF16:=hide hF16
      have HT16:=hide hT16
      rw [hw16] at u0
      clear hb15 hR15 hT16 hb16 hR16 hF16 hw16 HST HR HF HBK
      go_wp2_with (first | (rw [← unhide HW16]; refine wpList_load_row rfl 115 (.tmp 10) rfl w15.heap.size rfl 115 (c9 P' y') (0,0) _ (unhide HBT) Tryz.underlying115 rfl (by kernel_rfl) ?_) | fail)
      refine (unhide HOF).mono ?_
      rintro e w17 ⟨num,fr,rfl,hcs,hkp⟩
      have hF17:=(unhide HF16).on hkp
      have hT17:=(unhide HT16).on hkp
      have HF17:=hide hF17
      clear hF17 hkp HF16 HT16 HOF HW16 u0 HBT
      rcases hcs with ⟨rfl,⟨p2,hp2,he2⟩,hR17⟩ | ⟨rfl,hno,rfl,hR17⟩
      ·have u0:w17.cell? ⟨w.heap.size+4,0,none⟩ = some (.map (some (w.heap.size+3))):=hR17.kn.cell (by omega)
       have hco:=countPd_any (w.heap.size+3) _ w17 hR17.num
       rw [List.length_map] at hco
       have HCO:=hide hco
       have hpp:pab N p2=pab N (P',y'):=(pab_iff hN (unhide HLO _ (List.mem_of_getElem? hp2)) (unhide HPL2)).1 he2
       have HPP:=hide hpp
       have HP2:=hide hp2
       have HR17:=hide hR17
       have hbig:¬ (1024:Int)<(o.length:Int):=by omega
       clear hpp hp2 he2 hR17 hco hT17
       go_wp2_with fail
       refine (unhide HCO).mono ?_
       rintro e w19 ⟨rfl,hb19⟩
       have HR19:=hide ((unhide HR17).keep hb19)
       have HF19:=hide ((unhide HF17).on (KpB.keep hb19))
       clear hb19 HR17 HF17 HCO u0
       obtain ⟨na,nc,e1⟩ := own_is (unhide HR19).on
       subst e1
       obtain ⟨-,-,g2,-⟩ := (unhide HR19).d.facts
       have HON:=hide (unhide HR19).on
       have hzR:=(unhide HR19).sz
       go_wp2_with (first | (at_builtin; refine app_n1 rfl _ _ rfl (w.heap.size+6) (.slice na ys.length nc) rfl num rfl ys (unhide HON) hzR ?_ ?_) | fail)
       ·omega
       intro v16 w21 r1 r2 r3
       obtain ⟨z1,z2,hR21⟩ := (unhide HR19).pushN (x:=num) (by rw [List.length_append,List.map_append]; exact r1) r2 r3
       have hF21:=(unhide HF19).on ((unhide HR19).kpN r2 r3 2)
       obtain ⟨ys2,hys2⟩ : ∃ ys2,ys2=ys ++ [num]:=⟨_,rfl⟩
       have r1:w21.ownsRow (w.heap.size+6) 3 1 v16 ys2.length (ys2.map mN):=by rw [hys2,List.length_append,List.map_append]; exact r1
       rw [← hys2] at hR21
       obtain ⟨pa,pc,e8⟩ := own_is r1
       subst e8
       have hyl2:ys2.length=t * m+(c+1):=by rw [hys2,List.length_append,unhide HYL]; rfl
       have hbf2:Bfs m st (pab N (f,b)) (o.map (pab N)) ys2:=by rw [hys2]; exact bfs_oldP (unhide HBF) (unhide HDV) (unhide HP) (unhide HSTP2) (unhide HP2) (unhide HPP)
       have HR21:=hide hR21
       have HF21:=hide hF21
       have HYL2:=hide hyl2
       have HBF2:=hide hbf2
       clear r1 r2 r3 hR21 hF21 hys2 hyl2 hbf2 HON g2
       go_wp2
       go_roundw
       case rel => exact ⟨c+1,o,ys2,zs,_,_,_,by omega,by go_num,unhide HR21,unhide HF21,unhide HBF2,unhide HLO,unhide HP,unhide HYL2,unhide HZS,hol⟩
       case measure => simp [intOf]; omega
      ·have HBT:=hide hT17.blk
       have HPU:=hide (push_tb hR17 P' y' (by omega))
       unfold pd at HPU
       have hnp:∀ p ∈ o,pab N p ≠ pab N (P',y'):=fun p hp e9 => hno p hp ((pab_iff hN (unhide HLO _ hp) (unhide HPL2)).2 e9)
       have hbn:=bfs_newP (unhide HBF) (unhide HDV) (unhide HP) (unhide HSTP2) hnp
       have HBN:=hide hbn
       clear hnp hbn hno hR17 hT17
       go_wp2_with (first | (refine wpList_load_row rfl 115 (.tmp 10) rfl w15.heap.size rfl 115 (c9 P' y') (0,0) _ (unhide HBT) Tryz.underlying115 rfl (by kernel_rfl) ?_) | fail)
       refine (unhide HPU).mono ?_
       rintro e w18 ⟨rfl,qv18,hR18,hk18⟩
       obtain ⟨o2,ho2⟩ : ∃ o2,o2=o ++ [(P',y')]:=⟨_,rfl⟩
       rw [← ho2] at hR18 HBN
       have hF18:=(unhide HF17).on hk18
       have u0:w18.cell? ⟨w.heap.size+4,0,none⟩ = some (.map (some (w.heap.size+3))):=hR18.kn.cell (by omega)
       have hco:=countPd_any (w.heap.size+3) _ w18 hR18.num
       rw [List.length_map] at hco
       have HCO:=hide hco
       have hlo2:∀ x ∈ o2,Low N x.1:=fun x hx => by
        rw [ho2] at hx
        rcases List.mem_append.1 hx with h | h
        ·exact unhide HLO x h
        ·rw [List.mem_singleton] at h; rw [h]; exact unhide HPL2
       have hp2:o2[t]? = some (P,y):=by rw [ho2,List.getElem?_append_left hto]; exact unhide HP
       have hzs2:zs=(o2.take (t+1)).map Prod.snd:=by rw [unhide HZS,ho2,List.take_append_of_le_length hto]
       have hol2:o2.length=o.length+1:=by rw [ho2,List.length_append]; rfl
       have HLO2:=hide hlo2
       have HP2:=hide hp2
       have HZS2:=hide hzs2
       have HR18:=hide hR18
       have HF18:=hide hF18
       have HO2:=hide ho2
       clear hR18 hk18 hF18 hco hlo2 hp2 hzs2 ho2 HPU HBT HF17
       by_cases hbig:1024<o2.length
       ·have hbig':(1024:Int)<(o2.length:Int):=by omega
        have HOL2:=hide hol2
        clear hol2
        go_wp2_with fail
        refine (unhide HCO).mono ?_
        rintro e w19 ⟨rfl,hb19⟩
        have hR19:=(unhide HR18).keep hb19
        obtain ⟨F,hFF⟩ := hR19.res
        have x0:=hFF.cell (i:=0) (by omega)
        have x1:=hFF.cell (i:=1) (by omega)
        have x2:=hFF.cell (i:=2) (by omega)
        have x3:=hFF.cell (i:=3) (by omega)
        have z0:=hFF.frozen 0
        have z1:=hFF.frozen 1
        have z2:=hFF.frozen 2
        have z3:=hFF.frozen 3
        have HFF:=hide hFF
        have HR19:=hide hR19
        clear hb19 HR18 HF18 HCO u0 hR19 hFF
        go_wp2
        refine bodyPost_ret (dfab_ret (row4_all (unhide HFF) _ _ _ _) rfl _ rfl rfl) rfl ?_
        exact ⟨(unhide HR19).bl.trans ((row4_ob w19 w.heap.size (.slice none 0 0) (.int .i64 0) (.slice none 0 0) (.slice none 0 0)).bel (Nat.le_refl _)),.inr ⟨o2,_,rfl,unhide HBN,hbig⟩⟩
       ·have hbig':¬ (1024:Int)<(o2.length:Int):=by omega
        have hle2:o2.length≤1024:=by omega
        have HOL2:=hide hol2
        clear hol2
        go_wp2_with fail
        refine (unhide HCO).mono ?_
        rintro e w19 ⟨rfl,hb19⟩
        have HR19:=hide ((unhide HR18).keep hb19)
        have HF19:=hide ((unhide HF18).on (KpB.keep hb19))
        clear hb19 HR18 HF18 HCO u0
        obtain ⟨na,nc,e1⟩ := own_is (unhide HR19).on
        subst e1
        obtain ⟨-,-,g2,-⟩ := (unhide HR19).d.facts
        have HON:=hide (unhide HR19).on
        have hzR:=(unhide HR19).sz
        go_wp2_with (first | (at_builtin; refine app_n1 rfl _ _ rfl (w.heap.size+6) (.slice na ys.length nc) rfl o.length rfl ys (unhide HON) hzR ?_ ?_) | fail)
        ·omega
        intro v16 w21 r1 r2 r3
        obtain ⟨z1,z2,hR21⟩ := (unhide HR19).pushN (x:=o.length) (by rw [List.length_append,List.map_append]; exact r1) r2 r3
        have hF21:=(unhide HF19).on ((unhide HR19).kpN r2 r3 2)
        obtain ⟨ys2,hys2⟩ : ∃ ys2,ys2=ys ++ [o.length]:=⟨_,rfl⟩
        have r1:w21.ownsRow (w.heap.size+6) 3 1 v16 ys2.length (ys2.map mN):=by rw [hys2,List.length_append,List.map_append]; exact r1
        rw [← hys2] at hR21
        obtain ⟨pa,pc,e8⟩ := own_is r1
        subst e8
        have hyl2:ys2.length=t * m+(c+1):=by rw [hys2,List.length_append,unhide HYL]; rfl
        have hbf2:Bfs m st (pab N (f,b)) (o2.map (pab N)) ys2:=by rw [hys2]; exact unhide HBN
        have HR21:=hide hR21
        have HF21:=hide hF21
        have HYL2:=hide hyl2
        have HBF2:=hide hbf2
        clear r1 r2 r3 hR21 hF21 hys2 hyl2 hbf2 HON g2
        go_wp2
        go_roundw
        case rel => exact ⟨c+1,o2,ys2,zs,_,_,_,by omega,by go_num,unhide HR21,unhide HF21,unhide HBF2,unhide HLO2,unhide HP2,unhide HYL2,unhide HZS2,hle2⟩
        case measure => simp [intOf]; omega
     ·have hcl':¬ (c:Int)<(m:Int):=by omega
      obtain rfl:c=m:=by omega
      have hfre:=hR.fresh (P,y)
      obtain ⟨w15,hw15⟩ : ∃ w15,w15=w14.alloc (.cells (c9 P y) 115):=⟨_,rfl⟩
      have hR15:TbAt w w15 (w.heap.size+1) (w.heap.size+3) (w.heap.size+4) (w.heap.size+5) (w.heap.size+6) (.slice (some ⟨gc,0,none⟩) 256 256) c o o (t+1) ys zs qv nv av:=by rw [hw15]; exact hR.keep (below1 w14 _)
      have hF15:FbAt w15 (w.heap.size+6) w14.heap.size qv nv av (P,y):=by rw [hw15]; exact hfre
      have HPO:=hide (pop_tb hR15 (by omega) (by omega))
      have HBK:=hide hF.blk
      have HF15:=hide hF15
      have HW15:=hide hw15
      have HBF:=hide hBf
      have HYL:=hide hyl
      have HZS:=hide hzs
      have HLO:=hide hlow
      clear hR hF hBf hyl hzs hlow hp hfre hR15 hF15 hw15
      go_wp2_with (first | (refine wpList_load_row rfl 115 (.tmp 7) rfl fb rfl 115 (c9 P y) (0,0) _ (unhide HBK) Tryz.underlying115 rfl (by kernel_rfl) ?_) | fail)
      rw [← unhide HW15]
      clear HW15
      refine (unhide HPO).mono ?_
      rintro e w16 hcs
      have hcs2:∃ (P3:Nat→Nat) (y3 bb:Bool),e = .returned (.tuple #[.agg (c9 P3 y3),.bool bb])∧∃ tk3,TbAt w w16 (w.heap.size+1) (w.heap.size+3) (w.heap.size+4) (w.heap.size+5) (w.heap.size+6) (.slice (some ⟨gc,0,none⟩) 256 256) c o o tk3 ys zs qv nv av∧KpB (w.heap.size+6) w15 w16 qv nv av qv nv av∧((bb=false∧tk3=t+1∧t+1=o.length)∨(bb=true∧tk3=t+2∧o[t+1]? = some (P3,y3))):=by
       rcases hcs with ⟨h1,rfl,h2,h3⟩ | ⟨s,h1,rfl,h2,h3⟩
       ·exact ⟨fun _ => 0,false,false,rfl,_,h2,h3,.inl ⟨rfl,rfl,h1⟩⟩
       ·exact ⟨s.1,s.2,true,rfl,_,h2,h3,.inr ⟨rfl,rfl,h1⟩⟩
      obtain ⟨P3,y3,bb,rfl,tk3,hR16,hk16,hcs3⟩ := hcs2
      have hF16:=(unhide HF15).on hk16
      have HBQ:=hide hF16.blk
      have HR16:=hide hR16
      have HF16:=hide hF16
      have HCS:=hide hcs3
      clear hcs hR16 hk16 hF16 hcs3 HPO HF15
      go_wp2_with (first | (refine wpList_store_row rfl 115 (.tmp 7) (.tmp 38) rfl w14.heap.size (c9 P3 y3) rfl rfl 115 _ (unhide HBQ) (by kernel_rfl) rfl (all9 _ _) ?_) | fail)
      go_roundw
      case rel =>
       have hob:Obk w14.heap.size w16 (w16.setRow w14.heap.size (c9 P3 y3)):=⟨rfl,rfl,rfl,by simp [World.setRow],fun k hk => setRow_other _ _ k _ hk⟩
       have hF:=unhide HF16
       refine ⟨o,tk3,ys,zs,qv,nv,av,w14.heap.size,(P3,y3),rfl,⟨setRow_heap _ _ _ _ _ _ (unhide HBQ),hF.lo,hF.q,hF.n,hF.a⟩,(unhide HR16).over hF hob,unhide HBF,unhide HLO,hol,?_⟩
       have hlk:ys.length=(t+1) * c:=by rw [unhide HYL,Nat.add_mul,Nat.one_mul]
       rcases unhide HCS with ⟨rfl,rfl,h3⟩ | ⟨rfl,rfl,h3⟩
       ·exact .inl ⟨rfl,h3,hlk,by rw [unhide HZS,h3,List.take_length]⟩
       ·exact .inr ⟨rfl,t+1,rfl,h3,hlk,unhide HZS⟩
      case measure =>
       have hob:Obk w14.heap.size w16 (w16.setRow w14.heap.size (c9 P3 y3)):=⟨rfl,rfl,rfl,by simp [World.setRow],fun k hk => setRow_other _ _ k _ hk⟩
       have hq:=((unhide HR16).over (unhide HF16) hob).q
       rw [unhide HME]
       have e1:tkOf2 (w.heap.size+5) (w16.setRow w14.heap.size (c9 P3 y3))=tk3:=by
        rw [tkOf2,World.rowIs.cell hq (by omega)]
        simp [intOf]
       rw [e1]
       rcases unhide HCS with ⟨rfl,rfl,h3⟩ | ⟨rfl,rfl,h3⟩
       ·show 2 * (1024 - (t+1))+0<2 * (1024 - (t+1))+1
        omega
       ·have:=get_lt h3
        show 2 * (1024 - (t+2))+1<2 * (1024 - (t+1))+1
        omega
end Go.Proofs.YtlidckepahpaeaaGreatDoor
