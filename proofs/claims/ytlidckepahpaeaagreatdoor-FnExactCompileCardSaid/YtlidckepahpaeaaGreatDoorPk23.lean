import Derived.Test.YtlidckepahpaeaaGreatDoorPk16
import Derived.Test.YtlidckepahpaeaaGreatDoorPk7
import Derived.Test.YtlidckepahpaeaaGreatDoorPk12
import Derived.Test.YtlidckepahpaeaaGreatDoorPk21
import Derived.Test.YtlidckepahpaeaaGreatDoorPk9
import Derived.Test.YtlidckepahpaeaaGreatDoorPk10
import Derived.Test.YtlidckepahpaeaaGreatDoorPk20
import Derived.Test.YtlidckepahpaeaaGreatDoorPk22
namespace Go.Proofs.YtlidckepahpaeaaGreatDoor
open Go.RowKit
abbrev Rl:=Nat→Nat→Prop
section
variable {n:Nat} {hs:List Int→Nat→Prop}
end
def inPs (set:List Int) (b:Int):Prop:=∃ i:Nat,2 * i+1<set.length∧set[2 * i]?.getD 0≤b∧b≤set[2 * i+1]?.getD 0
set_option maxHeartbeats 4000000 in
set_option maxRecDepth 100000 in
theorem l1has_any (v:Value) (set:List Int) (b:Int) (w:World) (hv:SlAt mI 0 0 w.heap.size w v set) (hl:set.length≤1048576) :
  Calls Tryz.prog 66 #[v,.int .i64 b] w fun e w' => RetB e (inPs set b)∧w'=w:=by
 obtain ⟨a,cap,rfl,-,hc⟩ := hv
 go_enter Tryz.func66,Tryz.ntmps66
 go_wp2_with fail
 go_loop [5] (fun iv => ∃ k:Nat,2 * k≤set.length+1∧iv = .int .i64 ((2 * k:Nat):Int)∧∀ j:Nat,j<k→¬ (set[2 * j]?.getD 0≤b∧b≤set[2 * j+1]?.getD 0)) (fun iv => set.length+2 - (intOf iv).toNat)
 case atStart => exact ⟨0,Nat.zero_le _,rfl,fun j hj => absurd hj (Nat.not_lt_zero _)⟩
 case round =>
  obtain ⟨k,hk,rfl,hno⟩ := hrel
  have Hno:=hide hno
  clear hno
  by_cases hlt:2 * k+1<set.length
  ·have h1':((2 * k:Nat):Int)+1<(set.length:Int):=by omega
   have h2':((2 * k:Nat):Int)<(set.length:Int):=by omega
   have h3':(0:Int)≤((2 * k:Nat):Int)+1:=by omega
   obtain ⟨g,off,rfl,-,-,hcell⟩ := hc (by omega)
   have hx:w.cell? ⟨g,off+2 * k,none⟩ = some (.int .i64 (set[2 * k]?.getD 0)):=hcell _ (by omega)
   have hy:w.cell? ⟨g,off+(2 * k+1),none⟩ = some (.int .i64 (set[2 * k+1]?.getD 0)):=hcell _ (by omega)
   have Hyes:Hid (set[2 * k]?.getD 0≤b→b≤set[2 * k+1]?.getD 0→inPs set b):=fun q1 q2 => ⟨k,hlt,q1,q2⟩
   have Hnx:Hid (¬ (set[2 * k]?.getD 0≤b∧b≤set[2 * k+1]?.getD 0)→∀ j:Nat,j<k+1→¬ (set[2 * j]?.getD 0≤b∧b≤set[2 * j+1]?.getD 0)):=fun h j hj => by
    by_cases e:j=k
    ·subst e; exact h
    ·exact unhide Hno j (by omega)
   clear hcell hc Hno
   generalize set[2 * k]?.getD 0=x at *
   generalize set[2 * k+1]?.getD 0=y at *
   have hk2:2 * (k+1)≤set.length+1:=by omega
   have hkm:set.length+2 - 2 * (k+1)<set.length+2 - 2 * k:=by omega
   have ek:((2 * (k+1):Nat):Int)=((2 * k:Nat):Int)+2:=by omega
   have EK:=hide ek
   have hkb:2 * k≤1048576:=by omega
   clear ek hlt hk
   generalize hm:2 * k=m at *
   have HM:=hide hm
   clear hm
   by_cases g1:x≤b
   ·by_cases g2:b≤y
    ·have HQ:=hide (unhide Hyes g1 g2)
     clear Hyes Hnx
     go_wp2
     go_ret
     exact ⟨RetB.yes (unhide HQ),rfl⟩
    ·have HQ:=hide (unhide Hnx (fun h => g2 h.2))
     clear Hyes Hnx
     go_wp2
     go_round
     case rel => exact ⟨k+1,hk2,by rw [unhide EK],unhide HQ⟩
     case measure => simp [intOf]; omega
   ·have HQ:=hide (unhide Hnx (fun h => g1 h.1))
    clear Hyes Hnx
    go_wp2
    go_round
    case rel => exact ⟨k+1,hk2,by rw [unhide EK],unhide HQ⟩
    case measure => simp [intOf]; omega
  ·have h1':¬ ((2 * k:Nat):Int)+1<(set.length:Int):=by omega
   have hkb:2 * k≤1048577:=by omega
   have HQ:Hid (¬ inPs set b):=fun ⟨i,hi,h2⟩ => unhide Hno i (by omega) h2
   generalize hm:2 * k=m at *
   clear hm
   go_wp2
   go_ret
   exact ⟨RetB.no (unhide HQ),rfl⟩
def hsL (bs:List Int):List Int→Nat→Prop:=fun xs i => inPs xs (bs[i]?.getD 0)
theorem Tryz.zinBoR:(Tryz.prog.info? 4).map (fun i => (i.zero,i.size,i.bytes))=some (some (.bool false),1,1):=by kernel_rfl
set_option maxHeartbeats 4000000 in
set_option maxRecDepth 100000 in
theorem l2reach_any (A:Tb) (n k:Nat) (cl:Value) (b off cN ab ao ca:Nat) (w:World) (hAn:A.n=n) (hAk:A.k=k) (hw:A.Wf) (hf:A.Full) (hn:n≤1024) (hk:1≤k∧k≤256) (hb:b<w.heap.size) (hx:NxAt w b off n k A.nx) :
  Calls Tryz.prog 69 #[.agg #[cl,.int .i64 (k:Nat),.slice (some ⟨b,off,none⟩) (n * k) cN,.slice (some ⟨ab,ao,none⟩) n ca]] w fun e w' => ∃ mb,e = .returned (.slice (some ⟨mb,0,none⟩) n n)∧Below w.heap.size w w'∧w.heap.size≤mb ∧
   ∃ r:Nat→Bool,w'.rowIs mb 4 n (fun q => .bool (r q))∧∀ q,q<n→(r q=true↔A.Rch q):=by
 obtain ⟨i0,hi0,hz0,hz1,hz2⟩ := info_parts Tryz.zinInt
 have hn1:1≤n:=by rw [← hAn]; exact hw.pos
 have hLn:n * k≤1024 * 256:=Nat.mul_le_mul hn hk.2
 obtain ⟨L,hL⟩ : ∃ L,L=n * k:=⟨_,rfl⟩
 rw [← hL] at hLn ⊢
 have hmk:=run_make_row' (P:=Tryz.prog) 27 4 (.bool false) 1 Tryz.underlying27 Tryz.zinBoR rfl .i64 .i64 n (by omega) (by omega)
 have HL:=hide hL
 have HX:=hide hx
 have HAn:=hide hAn
 have HAk:=hide hAk
 have HW:=hide hw
 have HF:=hide hf
 clear hL hx hAn hAk hw hf
 have h0n:(0:Int)<(n:Int):=by omega
 obtain ⟨W1,hW1⟩ : ∃ W1,W1=w.alloc (.cells #[cl,.int .i64 (k:Nat),.slice (some ⟨b,off,none⟩) L cN,.slice (some ⟨ab,ao,none⟩) n ca] 29):=⟨_,rfl⟩
 have hsz1:W1.heap.size=w.heap.size+1:=by rw [hW1,sz_alloc]
 have hD1:Row4 W1 w.heap.size 29 cl (.int .i64 (k:Nat)) (.slice (some ⟨b,off,none⟩) L cN) (.slice (some ⟨ab,ao,none⟩) n ca):=by rw [hW1]; exact Row4.new w _ _ _ _ _
 have hM2:(W1.alloc (.cells (madeCells #[.bool false] n) 4)).rowIs (w.heap.size+1) 4 n (fun _ => .bool false):=by
  have:=World.rowIs_made W1 (.bool false) n 4
  rw [hsz1] at this
  exact this
 have x0:=hM2.cell (i:=0) (by omega)
 have x1:=hM2.frozen 0
 obtain ⟨W4,hW4⟩ : ∃ W4,W4=(W1.alloc (.cells ((madeCells #[.bool false] n).setIfInBounds 0 (.bool true)) 4)).alloc (.cells #[.int .i64 0] 3):=⟨_,rfl⟩
 have hsz4:W4.heap.size=w.heap.size+3:=by rw [hW4,sz_alloc,sz_alloc,hsz1]
 have hM4:W4.rowIs (w.heap.size+1) 4 n (fun q => .bool (decide (q ∈ [0]))):=by
  rw [hW4]
  have hs:((madeCells #[Value.bool false] n).setIfInBounds 0 (.bool true)).size=n:=by rw [Array.size_setIfInBounds]; exact size_madeCells _ _
  have:=World.rowIs_alloc W1 ((madeCells #[Value.bool false] n).setIfInBounds 0 (.bool true)) 4 (fun q => .bool (decide (q ∈ [0]))) (fun j hj => by
   rw [hs] at hj
   rw [Array.getElem?_setIfInBounds]
   by_cases e:j=0
   ·subst e; rw [if_pos rfl,if_pos (by rw [size_madeCells]; omega)]; simp
   ·rw [if_neg (fun h => e h.symm)]
    simp [madeCells,hj,e,Nat.mod_one])
  rw [hs,hsz1] at this
  exact this.alloc _
 have hB4:Below w.heap.size w W4:=by
  rw [hW4,hW1]
  exact (below2 w _ _).alloc (by rw [sz_alloc,sz_alloc]; omega) _
 have hD4:Row4 W4 w.heap.size 29 cl (.int .i64 (k:Nat)) (.slice (some ⟨b,off,none⟩) L cN) (.slice (some ⟨ab,ao,none⟩) n ca):=by
  rw [hW4]
  exact (hD1.alloc _).alloc _
 have hown4:W4.ownsRow (w.heap.size+2) 3 1 (.slice (some ⟨w.heap.size+2,0,none⟩) 1 1) 1 ([0].map mN):=by
  refine ⟨rfl,.inr ⟨_,1,#[.int .i64 0],rfl,Nat.le_refl _,?_,Nat.le_refl _,by unfold maxLen; omega,rfl,rfl⟩⟩
  have e:(W1.alloc (.cells ((madeCells #[.bool false] n).setIfInBounds 0 (.bool true)) 4)).heap.size=w.heap.size+2:=by rw [sz_alloc,hsz1]
  rw [hW4,← e]
  exact (MapKept.heap_alloc _ _).1
 obtain ⟨e0,e1,e2,e3,-⟩ := hD1.facts
 rw [hW1] at e0 e1 e2 e3 x0 x1
 have HW1:=hide hW1
 have HW4:=hide hW4
 have HM4:=hide hM4
 have HD4:=hide hD4
 have HB4:=hide hB4
 have HO4:=hide hown4
 clear hW1 hW4 hM4 hD4 hB4 hown4 hD1 hM2
 go_enter Tryz.func69,Tryz.ntmps69
 go_wp2_with fail
 rw [← unhide HW1,← unhide HW4]
 clear HW1 HW4 e0 e1 e2 e3 x0 x1 hmk
 simp only [Nat.add_assoc,Nat.reduceAdd]
 go_loopw [5,6] (fun lv iv wr => ∃ (i:Nat) (l:List Nat),i≤l.length∧iv = .int .i64 (i:Nat)∧wr.ownsRow (w.heap.size+2) 3 1 lv l.length (l.map mN)∧wr.rowIs (w.heap.size+1) 4 n (fun q => .bool (decide (q ∈ l)))∧Row4 wr w.heap.size 29 cl (.int .i64 (k:Nat)) (.slice (some ⟨b,off,none⟩) L cN) (.slice (some ⟨ab,ao,none⟩) n ca)∧Below w.heap.size w wr∧w.heap.size+3≤wr.heap.size∧RcL A l i 0) (fun _ iv _ => n+1 - (intOf iv).toNat)
 case atStart => exact ⟨0,[0],by omega,rfl,unhide HO4,unhide HM4,unhide HD4,unhide HB4,by omega,RcL.start (unhide HW)⟩
 case round =>
  clear HO4 HM4 HD4 HB4
  obtain ⟨i,l,hi,rfl,hown,hM,hD,hB,hz,hR⟩ := hrel
  have hll:=nodup_le n l hR.nd (by rw [← unhide HAn]; exact hR.lt)
  obtain ⟨la,lc,rfl⟩ := own_is hown
  by_cases hlt:i<l.length
  ·have hlt':(i:Int)<(l.length:Int):=by omega
   have HO:=hide hown
   have HM:=hide hM
   have HD:=hide hD
   have HB:=hide hB
   have HR:=hide hR
   obtain ⟨f0,f1,f2,f3,-⟩ := hD.facts
   clear hown hM hD hB hR
   go_wp2_with fail
   go_loopw [5,7] (fun lv cv wx => ∃ (c:Nat) (l:List Nat),c≤k∧cv = .int .i64 (c:Nat)∧i<l.length∧wx.ownsRow (w.heap.size+2) 3 1 lv l.length (l.map mN)∧wx.rowIs (w.heap.size+1) 4 n (fun q => .bool (decide (q ∈ l)))∧Row4 wx w.heap.size 29 cl (.int .i64 (k:Nat)) (.slice (some ⟨b,off,none⟩) L cN) (.slice (some ⟨ab,ao,none⟩) n ca)∧Below w.heap.size w wx∧w.heap.size+3≤wx.heap.size∧RcL A l i c) (fun _ cv _ => k - (intOf cv).toNat)
   case atStart => exact ⟨0,l,by omega,rfl,hlt,unhide HO,unhide HM,unhide HD,unhide HB,hz,unhide HR⟩
   case round =>
    clear HO HM HD HB HR f0 f1 f2 f3 hlt hlt' hi hll hz
    obtain ⟨c,l,hc,rfl,hlt,hown,hM,hD,hB,hz,hR⟩ := hrel
    have hll:=nodup_le n l hR.nd (by rw [← unhide HAn]; exact hR.lt)
    obtain ⟨f0,f1,f2,f3,-⟩ := hD.facts
    by_cases hcl:c<k
    ·have hcl':(c:Int)<(k:Int):=by omega
     obtain ⟨x,hx⟩ : ∃ x,l[i]? = some x:=⟨_,List.getElem?_eq_getElem hlt⟩
     have hxn:x<n:=by rw [← unhide HAn]; exact hR.lt x (List.mem_of_getElem? hx)
     obtain ⟨lg,lcap,e9,hcell⟩ := own_at hown (by omega)
     subst e9
     have y0:wr.cell? ⟨lg,i,none⟩ = some (.int .i64 (x:Nat)):=by rw [hcell i hlt,List.getElem?_map,hx]; rfl
     have hlt':(i:Int)<(l.length:Int):=by omega
     obtain ⟨v1,v2⟩ := unhide HX x c hxn hcl
     have hat0:x * k+c<L:=by rw [unhide HL]; exact idx_lt hxn hcl
     obtain ⟨m,t,a1,ht,hat,a2,a3,a4⟩ := at_facts (by omega) hat0
     clear hat0
     obtain ⟨nxt,hnxt⟩ : ∃ y,y=A.nx x c:=⟨_,rfl⟩
     rw [← ht,← hnxt] at v2
     have y1:wr.cell? ⟨b,off+t,none⟩ = some (.int .i64 (nxt:Nat)):=by rw [hB.cell (p:=⟨b,off+t,none⟩) hb]; exact v2
     rw [← hnxt] at v1
     have y2:=hM.cell (i:=nxt) v1
     have y3:=hM.frozen nxt
     have v1':(nxt:Int)<(n:Int):=by omega
     have HNX:=hide hnxt
     have HX2:=hide hx
     have HO:=hide hown
     have HM:=hide hM
     have HD:=hide hD
     have HB:=hide hB
     have HR:=hide hR
     have hlgb:=(hown.lt lg rfl).1
     clear hown hM hD hB hR hcell v2 ht hnxt hx
     by_cases hmem:nxt ∈ l
     ·rw [decide_eq_true hmem] at y2
      have HME:=hide hmem
      clear hmem
      go_wp2_with fail
      go_quiet (fail)
      go_wp2
      go_roundw
      case rel => exact ⟨c+1,l,by omega,by go_num,hlt,unhide HO,(unhide HM).of_block rfl,World.rowIs.of_block (unhide HD) rfl,below_drewN (unhide HB) _,hz,(unhide HR).old (unhide HX2) (by rw [← unhide HNX]; exact unhide HME)⟩
      case measure => simp [intOf]; omega
     ·rw [decide_eq_false hmem] at y2
      have HME:=hide hmem
      clear hmem
      go_wp2_with fail
      go_quiet (fail)
      have hsz:((wr.drewN nq).setCell ⟨w.heap.size+1,nxt,none⟩ (.bool true)).heap.size=wr.heap.size:=(obk_put (w:=wr.drewN nq) nxt (.bool true)).size
      have hO2:((wr.drewN nq).setCell ⟨w.heap.size+1,nxt,none⟩ (.bool true)).ownsRow (w.heap.size+2) 3 1 (.slice (some ⟨lg,0,none⟩) l.length lcap) l.length (l.map mN):=own_blk (unhide HO) (fun q hq => (obk_put (w:=wr.drewN nq) nxt (.bool true)).block q (by have:=((unhide HO).lt q hq).1; omega))
      have hM2:((wr.drewN nq).setCell ⟨w.heap.size+1,nxt,none⟩ (.bool true)).rowIs (w.heap.size+1) 4 n (fun q => .bool (decide (q ∈ l ++ [nxt]))):=by
       have hM1:(wr.drewN nq).rowIs (w.heap.size+1) 4 n (fun q => .bool (decide (q ∈ l))):=(unhide HM).of_block rfl
       refine (World.rowIs.set hM1 nxt (.bool true)).congr (fun j hj => ?_)
       by_cases e:j=nxt
       ·subst e; simp
       ·simp [e]
      have hB2:Below w.heap.size w ((wr.drewN nq).setCell ⟨w.heap.size+1,nxt,none⟩ (.bool true)):=by
       have h1:=below_drewN (unhide HB) nq
       have h2:=obk_put (w:=wr.drewN nq) (b:=w.heap.size+1) nxt (.bool true)
       exact ⟨h2.os.trans h1.os,h2.tape.trans h1.tape,h2.output.trans h1.output,Nat.le_trans h1.size (Nat.le_of_eq h2.size.symm),fun k hk => (h2.block k (by omega)).trans (h1.block k hk)⟩
      have hD2:Row4 ((wr.drewN nq).setCell ⟨w.heap.size+1,nxt,none⟩ (.bool true)) w.heap.size 29 cl (.int .i64 (k:Nat)) (.slice (some ⟨b,off,none⟩) L cN) (.slice (some ⟨ab,ao,none⟩) n ca):=World.rowIs.of_block (unhide HD) ((obk_put (w:=wr.drewN nq) nxt (.bool true)).block w.heap.size (by omega))
      have HO2:=hide hO2
      have HM2:=hide hM2
      have HB2:=hide hB2
      have HD2:=hide hD2
      clear hO2 hM2 hB2 hD2
      go_wp2_with (at_builtin; refine wpList_append_own_at _ rfl _ _ 26 rfl (w.heap.size+2) 3 i0 (.int .i64 0) 1 8 Tryz.underlying26 hi0 hz0 hz1 hz2 rfl (by decide) _ _ _ rfl ((unhide HO2).alloc _) ⟨wr.heap.size,0,none⟩ 1 1 [.int .i64 (nxt:Nat)] rfl rfl ?_ ?_ ?_ ?_ ?_ ?_)
      ·rw [← hsz]; exact cell_1 (cell_new _ _ _)
      ·intro u hu; simp at hu; subst hu; rfl
      ·unfold maxLen; omega
      ·omega
      ·rw [sz_alloc,hsz]; omega
      intro v' w6 r1 r2 _ r3
      have hb6:Below (w.heap.size+2) ((wr.drewN nq).setCell ⟨w.heap.size+1,nxt,none⟩ (.bool true)) w6:=((below1 _ _).mono (by omega)).grown r2 (by rw [sz_alloc]; omega) (fun k hk => ((unhide HO2).lt k hk).1)
      have hz6:=hb6.size
      have HM6:=hide ((unhide HM2).of_block (hb6.block (w.heap.size+1) (by omega)))
      have HD6:=hide ((unhide HD2).below hb6 (by omega))
      have HB6:=hide ((unhide HB2).trans (hb6.mono (by omega)))
      have e9:(l.map mN ++ [.int .i64 (nxt:Nat)])=(l ++ [nxt]).map mN:=by rw [List.map_append]; rfl
      have e8:l.length+1=(l ++ [nxt]).length:=by simp
      rw [e9,e8] at r1
      obtain ⟨va,vc,rfl⟩ := own_is r1
      have HO6:=hide r1
      have hR6:RcL A (l ++ [nxt]) i (c+1):=by
       have:=(unhide HR).new (unhide HW) (unhide HF) (by rw [unhide HAk]; exact hcl) (unhide HX2) (by rw [← unhide HNX]; exact unhide HME)
       rw [← unhide HNX] at this
       exact this
      have HR6:=hide hR6
      obtain ⟨l2,hl2⟩ : ∃ l2,l2=l ++ [nxt]:=⟨_,rfl⟩
      rw [← hl2] at HO6 HR6 HM6 ⊢
      have hil2:i<l2.length:=by rw [hl2]; simp; omega
      clear r1 r2 r3 hb6 HO2 HM2 HB2 HD2 e9 e8 hl2 hR6 y0 y1 y2 y3
      go_wp2
      go_roundw
      case rel => exact ⟨c+1,l2,by omega,by go_num,hil2,unhide HO6,unhide HM6,unhide HD6,unhide HB6,by omega,unhide HR6⟩
      case measure => simp [intOf]; omega
    ·have hcl':¬ (c:Int)<(k:Int):=by omega
     obtain rfl:c=k:=by omega
     have HO:=hide hown
     have HM:=hide hM
     have HD:=hide hD
     have HB:=hide hB
     rw [← unhide HAk] at hR
     have HR:=hide hR.next
     clear hown hM hD hB hR
     go_wp2
     go_roundw
     case rel => exact ⟨i+1,l,by omega,by go_num,unhide HO,unhide HM,unhide HD,unhide HB,hz,unhide HR⟩
     case measure => simp [intOf]; omega
  ·have hlt':¬ (i:Int)<(l.length:Int):=by omega
   obtain rfl:i=l.length:=by omega
   have HM:=hide hM
   have HB:=hide hB
   have HR:=hide hR
   clear hM hB hR hD hown
   go_wp2
   go_ret
   exact ⟨_,rfl,unhide HB,by omega,_,unhide HM,fun q hq => by rw [decide_eq_true_iff]; exact (unhide HR).fin (unhide HW) q⟩
theorem Obk.drewN {g:Nat} {a b:World} (h:Obk g a b) (q:Nat):Obk g a (b.drewN q):=⟨h.os,h.tape,h.output,h.size,h.block⟩
theorem Obk.blw {g:Nat} {a b:World} (h:Obk g a b):Below g a b:=⟨h.os,h.tape,h.output,Nat.le_of_eq h.size.symm,fun k hk => h.block k (by omega)⟩
structure RdM (A:Tb) (n k:Nat) (cl:Value) (b off L cN ab ao ca D mb:Nat) (r:Nat→Bool) (w:World):Prop where
 d:Row4 w D 29 cl (.int .i64 (k:Nat)) (.slice (some ⟨b,off,none⟩) L cN) (.slice (some ⟨ab,ao,none⟩) n ca)
 m:w.rowIs mb 4 n (fun q => .bool (r q))
 x:NxAt w b off n k A.nx
 a:∀ q,q<n→w.cell? ⟨ab,ao+q,none⟩ = some (.bool (A.ac q))
theorem RdM.keep {A:Tb} {n k:Nat} {cl:Value} {b off L cN ab ao ca D mb g:Nat} {r:Nat→Bool} {w w':World} (h:RdM A n k cl b off L cN ab ao ca D mb r w) (hB:Below g w w') (h1:D<g) (h2:mb<g) (h3:b<g) (h4:ab<g):RdM A n k cl b off L cN ab ao ca D mb r w' where
 d:=h.d.below hB h1
 m:=h.m.of_block (hB.block mb h2)
 x:=fun q c hq hc => ⟨(h.x q c hq hc).1,by rw [hB.cell (p:=⟨b,off+(q * k+c),none⟩) h3]; exact (h.x q c hq hc).2⟩
 a:=fun q hq => by rw [hB.cell (p:=⟨ab,ao+q,none⟩) h4]; exact h.a q hq
def updI (pv:Nat→Int) (q:Nat) (v:Int):Nat→Int:=fun j => if j=q then v else pv j
theorem updI_at (pv:Nat→Int) (q:Nat) (v:Int):updI pv q v q=v:=by simp [updI]
theorem updI_ne (pv:Nat→Int) {q j:Nat} (v:Int) (h:j ≠ q):updI pv q v j=pv j:=by simp [updI,h]
theorem rowI_set {w:World} {g n:Nat} {pv:Nat→Int} (h:w.rowIs g 3 n (fun j => .int .i64 (pv j))) (q:Nat) (v:Int):(w.setCell ⟨g,q,none⟩ (.int .i64 v)).rowIs g 3 n (fun j => .int .i64 (updI pv q v j)) :=
 (World.rowIs.set h q _).congr (fun j _ => by by_cases e:j=q <;> simp [updI,e])
def cntM (v:Value) (n:Nat) (w:World):Nat:=cntP (fun q => intOf ((w.cell? ⟨v.ownBlock.getD 0,q,none⟩).getD undef)) n
theorem cntM_is {w:World} {g n:Nat} {pv:Nat→Int} (h:w.rowIs g 3 n (fun j => .int .i64 (pv j))):cntM (.slice (some ⟨g,0,none⟩) n n) n w=cntP pv n :=
 cntN_congr n fun q hq => by
  have:w.cell? ⟨g,q,none⟩ = some (.int .i64 (pv q)):=h.cell hq
  show decide (intOf ((w.cell? ⟨g,q,none⟩).getD undef)=(q:Int))=_
  rw [this]
  rfl
def okOf3:Value→Nat
 | .bool true => 1
 | _ => 0
set_option maxHeartbeats 4000000 in
set_option maxRecDepth 100000 in
theorem l2blocks_any (A:Tb) (n k:Nat) (cl:Value) (b off cN ab ao ca:Nat) (w:World) (hAn:A.n=n) (hAk:A.k=k) (hw:A.Wf) (hf:A.Full) (hn:n≤1024) (hk:1≤k∧k≤256) (hb:b<w.heap.size) (hx:NxAt w b off n k A.nx) (hab:ab<w.heap.size) (hac:∀ q,q<n→w.cell? ⟨ab,ao+q,none⟩ = some (.bool (A.ac q))) :
  Calls Tryz.prog 37 #[.agg #[cl,.int .i64 (k:Nat),.slice (some ⟨b,off,none⟩) (n * k) cN,.slice (some ⟨ab,ao,none⟩) n ca]] w fun e w' => ∃ pb,e = .returned (.slice (some ⟨pb,0,none⟩) n n)∧Below w.heap.size w w'∧w.heap.size≤pb ∧
   ∃ (pv:Nat→Int) (r:Nat→Bool),w'.rowIs pb 3 n (fun q => .int .i64 (pv q))∧(∀ q,q<n→(r q=true↔A.Rch q))∧BkR r n pv∧Fst A (fun j => (pv j).toNat):=by
 have hn1:1≤n:=by rw [← hAn]; exact hw.pos
 have hLn:n * k≤1024 * 256:=Nat.mul_le_mul hn hk.2
 have HRE:=hide (fun (W1:World) (hB:Below w.heap.size w W1) => l2reach_any A n k cl b off cN ab ao ca W1 hAn hAk hw hf hn hk (Nat.lt_of_lt_of_le hb hB.size) (fun q c hq hc => ⟨(hx q c hq hc).1,by rw [hB.cell (p:=⟨b,off+(q * k+c),none⟩) hb]; exact (hx q c hq hc).2⟩))
 obtain ⟨L,hL⟩ : ∃ L,L=n * k:=⟨_,rfl⟩
 rw [← hL] at hLn ⊢
 rw [← hL] at HRE
 have hmk:=run_make_row' (P:=Tryz.prog) 26 3 (.int .i64 0) 8 Tryz.underlying26 Tryz.zinInt rfl .i64 .i64 n (by omega) (by omega)
 have HL:=hide hL
 have HX:=hide hx
 have HAC:=hide hac
 have HAn:=hide hAn
 have HAk:=hide hAk
 have HW:=hide hw
 have HF:=hide hf
 clear hL hx hAn hAk hw hf hac
 obtain ⟨W1,hW1⟩ : ∃ W1,W1=w.alloc (.cells #[cl,.int .i64 (k:Nat),.slice (some ⟨b,off,none⟩) L cN,.slice (some ⟨ab,ao,none⟩) n ca] 29):=⟨_,rfl⟩
 have hsz1:W1.heap.size=w.heap.size+1:=by rw [hW1,sz_alloc]
 have hB1:Below w.heap.size w W1:=by rw [hW1]; exact below1 w _
 have hD1:Row4 W1 w.heap.size 29 cl (.int .i64 (k:Nat)) (.slice (some ⟨b,off,none⟩) L cN) (.slice (some ⟨ab,ao,none⟩) n ca):=by rw [hW1]; exact Row4.new w _ _ _ _ _
 have HR1:=hide (unhide HRE W1 hB1)
 obtain ⟨e0,e1,e2,e3,-⟩ := hD1.facts
 have HW1:=hide hW1
 have HB1:=hide hB1
 have HD1:=hide hD1
 clear hW1 hB1 hD1 HRE
 go_enter Tryz.func37,Tryz.ntmps37
 go_wp2_with fail
 rw [← unhide HW1]
 refine (unhide HR1).mono ?_
 rintro e w2 ⟨mb,rfl,hB2,hmb,r,hM2,hr⟩
 have hz2:=hB2.size
 have hmb2:=hM2.lt
 have hBw2:Below w.heap.size w w2:=(unhide HB1).trans (hB2.mono (by omega))
 obtain ⟨w3,hw3⟩ : ∃ w3,w3=w2.alloc (.cells (madeCells #[.int .i64 0] n) 3):=⟨_,rfl⟩
 have hP3:w3.rowIs w2.heap.size 3 n (fun _ => .int .i64 0):=by rw [hw3]; exact World.rowIs_made w2 _ n _
 have hz3:w3.heap.size=w2.heap.size+1:=by rw [hw3,sz_alloc]
 have hBw3:Below w2.heap.size w2 w3:=by rw [hw3]; exact below1 w2 _
 have hRd2:RdM A n k cl b off L cN ab ao ca w.heap.size mb r w2:=⟨(unhide HD1).below hB2 (by omega),hM2,fun q c hq hc => ⟨(unhide HX q c hq hc).1,by rw [hBw2.cell (p:=⟨b,off+(q * k+c),none⟩) hb]; exact (unhide HX q c hq hc).2⟩,fun q hq => by rw [hBw2.cell (p:=⟨ab,ao+q,none⟩) hab]; exact unhide HAC q hq⟩
 have hRd3:=hRd2.keep hBw3 (by omega) (by omega) (by omega) (by omega)
 have HW3:=hide hw3
 have HP3:=hide hP3
 have HB2:=hide hBw2
 have HB3:=hide hBw3
 have HRd2:=hide hRd2
 have HRd3:=hide hRd3
 have HR:=hide hr
 clear hw3 hP3 hBw2 hBw3 hRd2 hRd3 hr hB2 hM2 HR1 HD1 e0 e1 e2 e3 HW1
 go_wp2_with fail
 rw [← unhide HW3]
 clear HW3
 go_loopw [6] (fun qv wr => ∃ (q:Nat) (pv:Nat→Int),q≤n∧qv = .int .i64 (q:Nat)∧wr.rowIs w2.heap.size 3 n (fun j => .int .i64 (pv j))∧Obk w2.heap.size w3 wr∧∀ j,j<q→BkV r (fun _ => True) (fun a b => A.ac a=A.ac b) j (pv j)) (fun qv _ => n - (intOf qv).toNat)
 case atStart => exact ⟨0,_,by omega,rfl,unhide HP3,Obk.refl _ _,fun j hj => by omega⟩
 case round =>
  obtain ⟨q,pv,hq,rfl,hP,hO,hV⟩ := hrel
  obtain ⟨w4,rfl⟩ : ∃ w4,w4=wr:=⟨_,rfl⟩
  have hz4:=hO.size
  by_cases hlt:q<n
  ·have hlt':(q:Int)<(n:Int):=by omega
   have hRd:=(unhide HRd3).keep hO.blw (by omega) (by omega) (by omega) (by omega)
   obtain ⟨f0,f1,f2,f3,-⟩ := hRd.d.facts
   have y0:=hRd.m.cell (i:=q) hlt
   have y1:=hP.cell (i:=q) hlt
   have y2:=hP.frozen q
   obtain ⟨rq,hrq⟩ : ∃ rq,rq=r q:=⟨_,rfl⟩
   rw [← hrq] at y0
   have hP5:=rowI_set hP q (-1)
   have hO5:=hO.trans (obk_put (w:=w4) (b:=w2.heap.size) q (.int .i64 (-1)))
   have y3:=hP5.cell (i:=q) hlt
   have y4:=hP5.frozen q
   have hb5:=(obk_put (w:=w4) (b:=w2.heap.size) q (.int .i64 (-1))).blw
   have y5:(w4.setCell ⟨w2.heap.size,q,none⟩ (.int .i64 (-1))).cell? ⟨mb,q,none⟩ = some (.bool rq):=by rw [hb5.cell (p:=⟨mb,q,none⟩) (by show mb<w2.heap.size; omega)]; exact y0
   have HP:=hide hP
   have HO:=hide hO
   have HP5:=hide hP5
   have HO5:=hide hO5
   have HV:=hide hV
   have HRQ:=hide hrq
   clear hP hO hV hrq hP5 hO5 hRd hb5 y0
   cases rq
   ·go_wp2
    go_roundw
    case rel =>
     refine ⟨q+1,_,by omega,by go_num,unhide HP5,unhide HO5,fun j hj => ?_⟩
     by_cases e:j=q
     ·subst e; rw [updI_at]; exact .inl ⟨(unhide HRQ).symm,rfl⟩
     ·rw [updI_ne _ _ e]; exact unhide HV j (by omega)
    case measure => simp [intOf]; omega
   ·obtain ⟨w6,hw6⟩ : ∃ w6,w6=(w4.setCell ⟨w2.heap.size,q,none⟩ (.int .i64 (-1))).setCell ⟨w2.heap.size,q,none⟩ (.int .i64 (q:Nat)):=⟨_,rfl⟩
    have hP6:w6.rowIs w2.heap.size 3 n (fun j => .int .i64 (updI (updI pv q (-1)) q (q:Nat) j)):=by rw [hw6]; exact rowI_set (unhide HP5) q _
    have hO6:Obk w2.heap.size w3 w6:=by rw [hw6]; exact (unhide HO5).trans (obk_put _ _)
    have HP6:=hide hP6
    have HO6:=hide hO6
    have HW6:=hide hw6
    clear hP6 hO6 hw6
    go_wp2_with fail
    rw [← unhide HW6]
    have epv:updI (updI pv q (-1)) q (q:Nat)=updI pv q (q:Nat):=by funext j; by_cases e:j=q <;> simp [updI,e]
    rw [epv] at HP6
    clear HW6 HP5 HO5 HP HO f0 f1 f2 f3 y1 y2 y3 y4 y5 epv
    go_loopw [7] (fun iv wx => ∃ p:Nat,p≤q∧iv = .int .i64 (p:Nat)∧wx.rowIs w2.heap.size 3 n (fun j => .int .i64 (updI pv q (q:Nat) j))∧Obk w2.heap.size w3 wx∧∀ p',p'<p→r p'=true→¬ A.ac p'=A.ac q) (fun iv _ => q - (intOf iv).toNat)
    case atStart => exact ⟨0,by omega,rfl,unhide HP6,unhide HO6,fun p' hp' => by omega⟩
    case round =>
     obtain ⟨p,hp,rfl,hPx,hOx,hNx⟩ := hrel
     clear HP6 HO6
     have hzx:=hOx.size
     by_cases hpl:p<q
     ·have hpl':(p:Int)<(q:Int):=by omega
      have hpn':(p:Int)<(n:Int):=by omega
      have hRd:=(unhide HRd3).keep hOx.blw (by omega) (by omega) (by omega) (by omega)
      obtain ⟨f0,f1,f2,f3,-⟩ := hRd.d.facts
      have y0:=hRd.m.cell (i:=p) (by omega)
      have y1:=hRd.a p (by omega)
      have y2:=hRd.a q hlt
      have y3:=hPx.cell (i:=q) hlt
      have y4:=hPx.frozen q
      obtain ⟨rp,hrp⟩ : ∃ rp,rp=r p:=⟨_,rfl⟩
      obtain ⟨ap,hap⟩ : ∃ ap,ap=A.ac p:=⟨_,rfl⟩
      obtain ⟨aq,haq⟩ : ∃ aq,aq=A.ac q:=⟨_,rfl⟩
      rw [← hrp] at y0
      rw [← hap] at y1
      rw [← haq] at y2
      have HPx:=hide hPx
      have HOx:=hide hOx
      have HNx:=hide hNx
      have HRP:=hide hrp
      have HAP:=hide hap
      have HAQ:=hide haq
      clear hPx hOx hNx hrp hap haq hRd
      cases rp
      ·go_wp2_with fail
       go_quiet (fail)
       go_wp2
       go_roundw
       case rel => exact ⟨p+1,by omega,by go_num,(unhide HPx).of_block rfl,(unhide HOx).drewN _,fun p' hp' hr' => by
        by_cases e:p'=p
        ·subst e; rw [← unhide HRP] at hr'; cases hr'
        ·exact unhide HNx p' (by omega) hr'⟩
       case measure => simp [intOf]; omega
      ·cases ap <;> cases aq
       ·go_wp2_with fail
        go_quiet (fail)
        have HP8:=hide (rowI_set (w:=wr.drewN nq) ((unhide HPx).of_block rfl) q (p:Nat))
        have HO8:=hide (((unhide HOx).drewN nq).trans (obk_put (w:=wr.drewN nq) (b:=w2.heap.size) q (.int .i64 (p:Nat))))
        go_wp2
        go_roundw
        case rel =>
         refine ⟨q+1,_,by omega,by go_num,unhide HP8,unhide HO8,fun j hj => ?_⟩
         by_cases e:j=q
         ·subst e
          rw [updI_at]
          exact .inr ⟨(unhide HRQ).symm,p,rfl,.inl ⟨hpl,(unhide HRP).symm,trivial,(unhide HAP).symm.trans (unhide HAQ),fun p' hp' hr' _ => unhide HNx p' hp' hr'⟩⟩
         ·rw [updI_ne _ _ e,updI_ne _ _ e]; exact unhide HV j (by omega)
        case measure => simp [intOf]; omega
       ·go_wp2_with fail
        go_quiet (fail)
        go_wp2
        go_roundw
        case rel => exact ⟨p+1,by omega,by go_num,(unhide HPx).of_block rfl,(unhide HOx).drewN _,fun p' hp' hr' => by
         by_cases e:p'=p
         ·subst e; rw [← unhide HAP,← unhide HAQ]; decide
         ·exact unhide HNx p' (by omega) hr'⟩
        case measure => simp [intOf]; omega
       ·go_wp2_with fail
        go_quiet (fail)
        go_wp2
        go_roundw
        case rel => exact ⟨p+1,by omega,by go_num,(unhide HPx).of_block rfl,(unhide HOx).drewN _,fun p' hp' hr' => by
         by_cases e:p'=p
         ·subst e; rw [← unhide HAP,← unhide HAQ]; decide
         ·exact unhide HNx p' (by omega) hr'⟩
        case measure => simp [intOf]; omega
       ·go_wp2_with fail
        go_quiet (fail)
        have HP8:=hide (rowI_set (w:=wr.drewN nq) ((unhide HPx).of_block rfl) q (p:Nat))
        have HO8:=hide (((unhide HOx).drewN nq).trans (obk_put (w:=wr.drewN nq) (b:=w2.heap.size) q (.int .i64 (p:Nat))))
        go_wp2
        go_roundw
        case rel =>
         refine ⟨q+1,_,by omega,by go_num,unhide HP8,unhide HO8,fun j hj => ?_⟩
         by_cases e:j=q
         ·subst e
          rw [updI_at]
          exact .inr ⟨(unhide HRQ).symm,p,rfl,.inl ⟨hpl,(unhide HRP).symm,trivial,(unhide HAP).symm.trans (unhide HAQ),fun p' hp' hr' _ => unhide HNx p' hp' hr'⟩⟩
         ·rw [updI_ne _ _ e,updI_ne _ _ e]; exact unhide HV j (by omega)
        case measure => simp [intOf]; omega
     ·have hpl':¬ (p:Int)<(q:Int):=by omega
      obtain rfl:p=q:=by omega
      have HPx:=hide hPx
      have HOx:=hide hOx
      have HNx:=hide hNx
      clear hPx hOx hNx
      go_wp2
      go_roundw
      case rel =>
       refine ⟨p+1,_,by omega,by go_num,unhide HPx,unhide HOx,fun j hj => ?_⟩
       by_cases e:j=p
       ·subst e
        rw [updI_at]
        exact .inr ⟨(unhide HRQ).symm,j,rfl,.inr ⟨rfl,fun p' hp' hr' _ => unhide HNx p' hp' hr'⟩⟩
       ·rw [updI_ne _ _ e]; exact unhide HV j (by omega)
      case measure => simp [intOf]; omega
  ·have hlt':¬ (q:Int)<(n:Int):=by omega
   obtain rfl:q=n:=by omega
   have hS:=bk_start (unhide HW) (by rw [unhide HAn]; exact unhide HR) (by rw [unhide HAn]; exact hV)
   have hBk:BkR r q pv:=bkr_of (L:=fun _ _ => True) hV
   have hBB:Below w2.heap.size w2 w4:=(unhide HB3).trans (hO.blw.mono (by omega))
   have HS:=hide hS
   have HBk:=hide hBk
   have HBB:=hide hBB
   have HPp:=hide hP
   clear hS hBk hBB hP hV hO HRd3 HP3 HB3
   go_wp2_with fail
   obtain ⟨n,rfl⟩ : ∃ n,n=q:=⟨_,rfl⟩
   go_loopw [5,8] (fun tv cv wr => ∃ (pb:Nat) (pv:Nat→Int) (ch:Bool),tv = .slice (some ⟨pb,0,none⟩) n n∧cv = .bool ch∧wr.rowIs pb 3 n (fun j => .int .i64 (pv j))∧w2.heap.size≤pb∧Below w2.heap.size w2 wr∧BkR r n pv∧(ch=true→∃ C,Rds A C (fun j => (pv j).toNat))∧(ch=false→Fst A (fun j => (pv j).toNat))) (fun tv cv wr => 2 * (n - cntM tv n wr)+okOf3 cv)
   case atStart => exact ⟨_,pv,true,rfl,rfl,unhide HPp,Nat.le_refl _,unhide HBB,unhide HBk,fun _ => ⟨_,unhide HS⟩,fun h => by cases h⟩
   case round =>
    clear HS HBk HBB HPp hz4 hz3 hlt hlt' hq
    obtain ⟨pb,pv,ch,rfl,rfl,hPp,hpb,hBB,hBk,hC,hFs⟩ := hrel
    obtain ⟨w5,rfl⟩ : ∃ w5,w5=wr:=⟨_,rfl⟩
    have hz5:=hBB.size
    have hpb5:=hPp.lt
    cases ch
    ·have HPp:=hide hPp
     have HBB:=hide hBB
     have HBk:=hide hBk
     have HFs:=hide (hFs rfl)
     clear hPp hBB hBk hC hFs
     go_wp2
     go_ret
     exact ⟨_,rfl,(unhide HB2).trans ((unhide HBB).mono (by omega)),by omega,_,_,unhide HPp,unhide HR,unhide HBk,unhide HFs⟩
    ·obtain ⟨C,hC⟩ := hC rfl
     obtain ⟨w6,hw6⟩ : ∃ w6,w6=w5.alloc (.cells (madeCells #[.int .i64 0] n) 3):=⟨_,rfl⟩
     have hP6:w6.rowIs w5.heap.size 3 n (fun _ => .int .i64 0):=by rw [hw6]; exact World.rowIs_made w5 _ n _
     have hz6:w6.heap.size=w5.heap.size+1:=by rw [hw6,sz_alloc]
     have hB6:Below w5.heap.size w5 w6:=by rw [hw6]; exact below1 w5 _
     have hBB6:=hBB.trans (hB6.mono hz5)
     have hRd6:=(unhide HRd2).keep hBB6 (by omega) (by omega) (by omega) (by omega)
     have hPp6:=hPp.of_block (hB6.block pb hpb5)
     have hcm:=cntM_is hPp
     have HCM:=hide hcm
     have HW6:=hide hw6
     have HP6:=hide hP6
     have HB6:=hide hBB6
     have HRd6:=hide hRd6
     have HPp:=hide hPp6
     have HBk:=hide hBk
     have HC:=hide hC
     clear hw6 hP6 hB6 hBB6 hRd6 hPp hPp6 hBk hC hFs hBB hcm
     go_wp2_with fail
     rw [← unhide HW6]
     clear HW6
     go_loopw [8,10] (fun cv qv wx => ∃ (q:Nat) (nv:Nat→Int) (ch:Bool),q≤n∧qv = .int .i64 (q:Nat)∧cv = .bool ch∧wx.rowIs w5.heap.size 3 n (fun j => .int .i64 (nv j))∧Obk w5.heap.size w6 wx∧(∀ j,j<q→BkV r (fun p => nv p=(p:Int)) (RdC A pv) j (nv j))∧(ch=true↔∃ j,j<q∧nv j ≠ pv j)) (fun _ qv _ => n - (intOf qv).toNat)
     case atStart => exact ⟨0,_,false,by omega,rfl,rfl,unhide HP6,Obk.refl _ _,fun j hj => by omega,⟨fun h => (by cases h),fun h => (by obtain ⟨j,hj,-⟩ := h; omega)⟩⟩
     case round =>
      clear HP6
      obtain ⟨q,nv,ch,hq,rfl,rfl,hP,hO,hV,hch⟩ := hrel
      obtain ⟨w7,rfl⟩ : ∃ w7,w7=wr:=⟨_,rfl⟩
      have hz7:=hO.size
      by_cases hlt:q<n
      ·have hlt':(q:Int)<(n:Int):=by omega
       have hRd:=(unhide HRd6).keep hO.blw (by omega) (by omega) (by omega) (by omega)
       have y0:=hRd.m.cell (i:=q) hlt
       have y1:=hP.cell (i:=q) hlt
       have y2:=hP.frozen q
       obtain ⟨rq,hrq⟩ : ∃ rq,rq=r q:=⟨_,rfl⟩
       rw [← hrq] at y0
       have hP5:=rowI_set hP q (-1)
       have hO5:=hO.trans (obk_put (w:=w7) (b:=w5.heap.size) q (.int .i64 (-1)))
       have y3:=hP5.cell (i:=q) hlt
       have y4:=hP5.frozen q
       have hb5:=(obk_put (w:=w7) (b:=w5.heap.size) q (.int .i64 (-1))).blw
       have y5:(w7.setCell ⟨w5.heap.size,q,none⟩ (.int .i64 (-1))).cell? ⟨mb,q,none⟩ = some (.bool rq):=by rw [hb5.cell (p:=⟨mb,q,none⟩) (by show mb<w5.heap.size; omega)]; exact y0
       have HP5:=hide hP5
       have HO5:=hide hO5
       have HV:=hide hV
       have HRQ:=hide hrq
       have HCH:=hide hch
       clear hP hO hV hrq hP5 hO5 hRd hb5 y0 hch
       cases rq
       ·go_wp2
        go_roundw
        case rel =>
         have hpq:pv q = -1:=by
          rcases unhide HBk q hlt with ⟨-,h⟩ | ⟨h,-⟩
          ·exact h
          ·rw [← unhide HRQ] at h; cases h
         refine ⟨q+1,_,ch,by omega,by go_num,rfl,unhide HP5,unhide HO5,fun j hj => ?_,?_⟩
         ·by_cases e:j=q
          ·subst e; rw [updI_at]; exact .inl ⟨(unhide HRQ).symm,rfl⟩
          ·rw [updI_ne _ _ e]; exact (unhide HV j (by omega)).congrL (fun p hp => by rw [updI_ne _ _ (by omega)])
         ·rw [unhide HCH]
          constructor
          ·rintro ⟨j,hj,hd⟩
           exact ⟨j,by omega,by rw [updI_ne _ _ (by omega)]; exact hd⟩
          ·rintro ⟨j,hj,hd⟩
           by_cases e:j=q
           ·subst e; rw [updI_at,hpq] at hd; exact absurd rfl hd
           ·rw [updI_ne _ _ e] at hd; exact ⟨j,by omega,hd⟩
        case measure => simp [intOf]; omega
       ·obtain ⟨w8,hw8⟩ : ∃ w8,w8=(w7.setCell ⟨w5.heap.size,q,none⟩ (.int .i64 (-1))).setCell ⟨w5.heap.size,q,none⟩ (.int .i64 (q:Nat)):=⟨_,rfl⟩
        have hP8:w8.rowIs w5.heap.size 3 n (fun j => .int .i64 (updI (updI nv q (-1)) q (q:Nat) j)):=by rw [hw8]; exact rowI_set (unhide HP5) q _
        have hO8:Obk w5.heap.size w6 w8:=by rw [hw8]; exact (unhide HO5).trans (obk_put _ _)
        have epv:updI (updI nv q (-1)) q (q:Nat)=updI nv q (q:Nat):=by funext j; by_cases e:j=q <;> simp [updI,e]
        rw [epv] at hP8
        have HP8:=hide hP8
        have HO8:=hide hO8
        have HW8:=hide hw8
        clear hP8 hO8 hw8 epv
        go_wp2_with fail
        rw [← unhide HW8]
        clear HW8 HP5 HO5 y1 y2 y3 y4 y5
        go_loopw [11] (fun iv wx => ∃ p:Nat,p≤q∧iv = .int .i64 (p:Nat)∧wx.rowIs w5.heap.size 3 n (fun j => .int .i64 (updI nv q (q:Nat) j))∧Obk w5.heap.size w6 wx∧∀ p',p'<p→r p'=true→nv p'=(p':Int)→¬ RdC A pv p' q) (fun iv _ => q - (intOf iv).toNat)
        case atStart => exact ⟨0,by omega,rfl,unhide HP8,unhide HO8,fun p' hp' => by omega⟩
        case round =>
         clear HP8 HO8
         obtain ⟨p,hp,rfl,hPx,hOx,hNx⟩ := hrel
         obtain ⟨w9,rfl⟩ : ∃ w9,w9=wr:=⟨_,rfl⟩
         have hz9:=hOx.size
         by_cases hpl:p<q
         ·have hpl':(p:Int)<(q:Int):=by omega
          have hpn':(p:Int)<(n:Int):=by omega
          have hRd:=(unhide HRd6).keep hOx.blw (by omega) (by omega) (by omega) (by omega)
          have hPpx:=(unhide HPp).of_block (hOx.block pb (by omega))
          have y0:=hRd.m.cell (i:=p) (by omega)
          have y1:=hPx.cell (i:=p) (by omega)
          rw [updI_ne nv _ (by omega)] at y1
          have y2:=hPpx.cell (i:=p) (by omega)
          have y3:=hPpx.cell (i:=q) hlt
          obtain ⟨rp,hrp⟩ : ∃ rp,rp=r p:=⟨_,rfl⟩
          obtain ⟨xn,hxn⟩ : ∃ xn,xn=nv p:=⟨_,rfl⟩
          obtain ⟨xp,hxp⟩ : ∃ xp,xp=pv p:=⟨_,rfl⟩
          obtain ⟨xq,hxq⟩ : ∃ xq,xq=pv q:=⟨_,rfl⟩
          rw [← hrp] at y0
          rw [← hxn] at y1
          rw [← hxp] at y2
          rw [← hxq] at y3
          have HPx:=hide hPx
          have HOx:=hide hOx
          have HNx:=hide hNx
          have HRP:=hide hrp
          have HXN:=hide hxn
          have HXP:=hide hxp
          have HXQ:=hide hxq
          clear hPx hOx hNx hrp hxn hxp hxq hRd hPpx
          cases rp
          ·go_wp2_with fail
           go_quiet (fail)
           go_wp2
           go_roundw
           case rel => exact ⟨p+1,by omega,by go_num,(unhide HPx).of_block rfl,(unhide HOx).drewN _,fun p' hp' hr' hl' => by
            by_cases e:p'=p
            ·subst e; rw [← unhide HRP] at hr'; cases hr'
            ·exact unhide HNx p' (by omega) hr' hl'⟩
           case measure => simp [intOf]; omega
          by_cases c1:xn=(p:Int)
          rotate_left
          ·go_wp2_with fail
           go_quiet (fail)
           go_wp2
           go_roundw
           case rel => exact ⟨p+1,by omega,by go_num,(unhide HPx).of_block rfl,(unhide HOx).drewN _,fun p' hp' hr' hl' => by
            by_cases e:p'=p
            ·subst e; exact absurd ((unhide HXN).trans hl') c1
            ·exact unhide HNx p' (by omega) hr' hl'⟩
           case measure => simp [intOf]; omega
          by_cases c2:xp=xq
          rotate_left
          ·go_wp2_with fail
           go_quiet (fail)
           go_wp2
           go_roundw
           case rel => exact ⟨p+1,by omega,by go_num,(unhide HPx).of_block rfl,(unhide HOx).drewN _,fun p' hp' hr' hl' => by
            by_cases e:p'=p
            ·subst e; exact fun hh => c2 ((unhide HXP).trans (hh.1.trans (unhide HXQ).symm))
            ·exact unhide HNx p' (by omega) hr' hl'⟩
           case measure => simp [intOf]; omega
          go_wp2_with fail
          go_quiet (fail)
          go_wp2_with fail
          clear y0 y1 y2 y3
          go_loopw [12,13] (fun sv cv wy => ∃ (c:Nat) (sm:Bool),c≤k∧cv = .int .i64 (c:Nat)∧sv = .bool sm∧wy.rowIs w5.heap.size 3 n (fun j => .int .i64 (updI nv q (q:Nat) j))∧Obk w5.heap.size w6 wy∧(sm=true→∀ c',c'<c→pv (A.nx p c')=pv (A.nx q c'))∧(sm=false→∃ c',c'<k∧pv (A.nx p c') ≠ pv (A.nx q c'))) (fun _ cv _ => k - (intOf cv).toNat)
          case atStart => exact ⟨0,true,by omega,rfl,rfl,(unhide HPx).of_block rfl,(unhide HOx).drewN _,fun _ c' hc' => by omega,fun h => by cases h⟩
          case round =>
           clear HPx HOx
           obtain ⟨c,sm,hc,rfl,rfl,hPy,hOy,hs1,hs2⟩ := hrel
           obtain ⟨w11,rfl⟩ : ∃ w11,w11=wr:=⟨_,rfl⟩
           have hz11:=hOy.size
           have hRd:=(unhide HRd6).keep hOy.blw (by omega) (by omega) (by omega) (by omega)
           obtain ⟨f0,f1,f2,f3,-⟩ := hRd.d.facts
           cases sm
           ·have HPx:=hide hPy
            have HOx:=hide hOy
            have HS2:=hide (hs2 rfl)
            clear hPy hOy hs1 hs2 hRd
            by_cases hcl:c<k
            ·have hcl':(c:Int)<(k:Int):=by omega
             go_wp2
             go_roundw
             case rel => exact ⟨p+1,by omega,by go_num,unhide HPx,unhide HOx,fun p' hp' hr' hl' => by
              by_cases e:p'=p
              ·subst e; exact fun hh => by obtain ⟨c',h1,h2⟩ := unhide HS2; exact h2 (hh.2 c' (by rw [unhide HAk]; exact h1))
              ·exact unhide HNx p' (by omega) hr' hl'⟩
             case measure => simp [intOf]; omega
            ·have hcl':¬ (c:Int)<(k:Int):=by omega
             go_wp2
             go_roundw
             case rel => exact ⟨p+1,by omega,by go_num,unhide HPx,unhide HOx,fun p' hp' hr' hl' => by
              by_cases e:p'=p
              ·subst e; exact fun hh => by obtain ⟨c',h1,h2⟩ := unhide HS2; exact h2 (hh.2 c' (by rw [unhide HAk]; exact h1))
              ·exact unhide HNx p' (by omega) hr' hl'⟩
             case measure => simp [intOf]; omega
           by_cases hcl:c<k
           ·have hcl':(c:Int)<(k:Int):=by omega
            obtain ⟨v1,v2⟩ := hRd.x p c (by omega) hcl
            obtain ⟨u1,u2⟩ := hRd.x q c hlt hcl
            have hat0:p * k+c<L:=by rw [unhide HL]; exact idx_lt (by omega) hcl
            have hau0:q * k+c<L:=by rw [unhide HL]; exact idx_lt hlt hcl
            obtain ⟨m,t,a1,ht,hat,a2,a3,a4⟩ := at_facts (by omega) hat0
            obtain ⟨m',t',b1,ht',hat',b2,b3,b4⟩ := at_facts (by omega) hau0
            obtain ⟨np,hnp⟩ : ∃ y,y=A.nx p c:=⟨_,rfl⟩
            obtain ⟨nq',hnq⟩ : ∃ y,y=A.nx q c:=⟨_,rfl⟩
            rw [← ht,← hnp] at v2
            rw [← ht',← hnq] at u2
            rw [← hnp] at v1
            rw [← hnq] at u1
            have hPpy:=(unhide HPp).of_block (hOy.block pb (by omega))
            have y2:=hPpy.cell (i:=np) v1
            have y3:=hPpy.cell (i:=nq') u1
            obtain ⟨xv,hxv⟩ : ∃ xv,xv=pv np:=⟨_,rfl⟩
            obtain ⟨yv,hyv⟩ : ∃ yv,yv=pv nq':=⟨_,rfl⟩
            rw [← hxv] at y2
            rw [← hyv] at y3
            have v1':(np:Int)<(n:Int):=by omega
            have u1':(nq':Int)<(n:Int):=by omega
            rw [hnp] at hxv
            rw [hnq] at hyv
            have HXV:=hide hxv
            have HYV:=hide hyv
            have HPy:=hide hPy
            have HOy:=hide hOy
            have HS1:=hide (hs1 rfl)
            clear hPy hOy hs1 hs2 hRd hxv hyv hnp hnq ht ht' hat0 hau0 hPpy
            by_cases he:xv=yv
            ·go_wp2_with fail
             go_roundw
             case rel => exact ⟨c+1,true,by omega,by go_num,rfl,unhide HPy,unhide HOy,fun _ c' hc' => by
              by_cases e:c'=c
              ·subst e; rw [← unhide HXV,← unhide HYV]; exact he
              ·exact unhide HS1 c' (by omega),fun h => by cases h⟩
             case measure => simp [intOf]; omega
            ·go_wp2_with fail
             go_roundw
             case rel => exact ⟨c+1,false,by omega,by go_num,by rw [beq_eq_false_iff_ne.mpr he],unhide HPy,unhide HOy,(fun h => by cases h),fun _ => ⟨c,hcl,by rw [← unhide HXV,← unhide HYV]; exact he⟩⟩
             case measure => simp [intOf]; omega
           ·have hcl':¬ (c:Int)<(k:Int):=by omega
            obtain rfl:c=k:=by omega
            have hrdc:RdC A pv p q:=⟨by rw [← unhide HXP,← unhide HXQ]; exact c2,by rw [unhide HAk]; exact hs1 rfl⟩
            have y3:=hPy.cell (i:=q) hlt
            have y4:=hPy.frozen q
            have hBV:BkV r (fun p => nv p=(p:Int)) (RdC A pv) q (p:Nat):=.inr ⟨(unhide HRQ).symm,p,rfl,.inl ⟨hpl,(unhide HRP).symm,by show nv p=_; rw [← unhide HXN]; exact c1,hrdc,fun p' hp' hr' hl' => unhide HNx p' hp' hr' hl'⟩⟩
            have HBV:=hide hBV
            obtain ⟨w12,hw12⟩ : ∃ w12,w12=w11.setCell ⟨w5.heap.size,q,none⟩ (.int .i64 (p:Nat)):=⟨_,rfl⟩
            have hPy2:w12.rowIs w5.heap.size 3 n (fun j => .int .i64 (updI (updI nv q (q:Nat)) q (p:Nat) j)):=by rw [hw12]; exact rowI_set hPy q (p:Nat)
            have hOy2:Obk w5.heap.size w6 w12:=by rw [hw12]; exact hOy.trans (obk_put (w:=w11) (b:=w5.heap.size) q (.int .i64 (p:Nat)))
            have HW12:=hide hw12
            have epv:updI (updI nv q (q:Nat)) q (p:Nat)=updI nv q (p:Nat):=by funext j; by_cases e:j=q <;> simp [updI,e]
            rw [epv] at hPy2
            have HPy:=hide hPy2
            have HOy:=hide hOy2
            clear hPy hOy hs1 hs2 hRd hrdc hBV hPy2 hOy2 epv hw12
            go_wp2_with fail
            rw [← unhide HW12]
            clear HW12
            have hOt:=unhide HOy
            have hzt:=hOt.size
            have hPt:=(unhide HPp).of_block (w':=w12) (hOt.block pb (by omega))
            have z0:=(unhide HPy).cell (i:=q) hlt
            rw [updI_at] at z0
            have z1:=hPt.cell (i:=q) hlt
            obtain ⟨xq,hxq⟩ : ∃ xq,xq=pv q:=⟨_,rfl⟩
            rw [← hxq] at z1
            obtain ⟨mv,hmv⟩ : ∃ mv:Int,mv=((p:Nat):Int):=⟨_,rfl⟩
            rw [← hmv] at z0
            have HXQ:=hide hxq
            have HMV:=hide hmv
            clear hOt hPt hxq hmv
            by_cases he:mv=xq
            ·go_wp2_with fail
             go_quiet (fail)
             go_wp2
             go_roundw
             case rel =>
              refine ⟨q+1,_,ch,by omega,by go_num,rfl,(unhide HPy).of_block rfl,(unhide HOy).drewN _,fun j hj => ?_,?_⟩
              ·by_cases e:j=q
               ·subst e
                rw [updI_at]
                exact (unhide HBV).congrL (fun p hp => by rw [updI_ne _ _ (by omega)])
               ·rw [updI_ne _ _ e]
                exact (unhide HV j (by omega)).congrL (fun p hp => by rw [updI_ne _ _ (by omega)])
              ·rw [unhide HCH]
               constructor
               ·rintro ⟨j,hj,hd⟩
                exact ⟨j,by omega,by rw [updI_ne _ _ (by omega)]; exact hd⟩
               ·rintro ⟨j,hj,hd⟩
                by_cases e:j=q
                ·subst e; rw [updI_at,← unhide HXQ,← unhide HMV] at hd; exact absurd he hd
                ·rw [updI_ne _ _ e] at hd; exact ⟨j,by omega,hd⟩
             case measure => simp [intOf]; omega
            ·go_wp2_with fail
             go_quiet (fail)
             go_wp2
             go_roundw
             case rel =>
              refine ⟨q+1,_,true,by omega,by go_num,rfl,(unhide HPy).of_block rfl,(unhide HOy).drewN _,fun j hj => ?_,?_⟩
              ·by_cases e:j=q
               ·subst e
                rw [updI_at]
                exact (unhide HBV).congrL (fun p hp => by rw [updI_ne _ _ (by omega)])
               ·rw [updI_ne _ _ e]
                exact (unhide HV j (by omega)).congrL (fun p hp => by rw [updI_ne _ _ (by omega)])
              ·exact ⟨fun _ => ⟨q,by omega,by rw [updI_at,← unhide HXQ,← unhide HMV]; exact he⟩,fun _ => rfl⟩
             case measure => simp [intOf]; omega
         ·have hpl':¬ (p:Int)<(q:Int):=by omega
          obtain rfl:p=q:=by omega
          obtain ⟨q,rfl⟩ : ∃ q,q=p:=⟨_,rfl⟩
          have hBV:BkV r (fun p => nv p=(p:Int)) (RdC A pv) q (q:Nat):=.inr ⟨(unhide HRQ).symm,q,rfl,.inr ⟨rfl,fun p' hp' hr' hl' => hNx p' hp' hr' hl'⟩⟩
          have HBV:=hide hBV
          have HPy:=hide hPx
          have HOy:=hide hOx
          clear hPx hOx hNx hBV
          go_wp2_with fail
          have hOt:=unhide HOy
          have hzt:=hOt.size
          have hPt:=(unhide HPp).of_block (w':=w9) (hOt.block pb (by omega))
          have z0:=(unhide HPy).cell (i:=q) hlt
          rw [updI_at] at z0
          have z1:=hPt.cell (i:=q) hlt
          obtain ⟨xq,hxq⟩ : ∃ xq,xq=pv q:=⟨_,rfl⟩
          rw [← hxq] at z1
          obtain ⟨mv,hmv⟩ : ∃ mv:Int,mv=((q:Nat):Int):=⟨_,rfl⟩
          rw [← hmv] at z0
          have HXQ:=hide hxq
          have HMV:=hide hmv
          clear hOt hPt hxq hmv
          by_cases he:mv=xq
          ·go_wp2_with fail
           go_quiet (fail)
           go_wp2
           go_roundw
           case rel =>
            refine ⟨q+1,_,ch,by omega,by go_num,rfl,(unhide HPy).of_block rfl,(unhide HOy).drewN _,fun j hj => ?_,?_⟩
            ·by_cases e:j=q
             ·subst e
              rw [updI_at]
              exact (unhide HBV).congrL (fun p hp => by rw [updI_ne _ _ (by omega)])
             ·rw [updI_ne _ _ e]
              exact (unhide HV j (by omega)).congrL (fun p hp => by rw [updI_ne _ _ (by omega)])
            ·rw [unhide HCH]
             constructor
             ·rintro ⟨j,hj,hd⟩
              exact ⟨j,by omega,by rw [updI_ne _ _ (by omega)]; exact hd⟩
             ·rintro ⟨j,hj,hd⟩
              by_cases e:j=q
              ·subst e; rw [updI_at,← unhide HXQ,← unhide HMV] at hd; exact absurd he hd
              ·rw [updI_ne _ _ e] at hd; exact ⟨j,by omega,hd⟩
           case measure => simp [intOf]; omega
          ·go_wp2_with fail
           go_quiet (fail)
           go_wp2
           go_roundw
           case rel =>
            refine ⟨q+1,_,true,by omega,by go_num,rfl,(unhide HPy).of_block rfl,(unhide HOy).drewN _,fun j hj => ?_,?_⟩
            ·by_cases e:j=q
             ·subst e
              rw [updI_at]
              exact (unhide HBV).congrL (fun p hp => by rw [updI_ne _ _ (by omega)])
             ·rw [updI_ne _ _ e]
              exact (unhide HV j (by omega)).congrL (fun p hp => by rw [updI_ne _ _ (by omega)])
            ·exact ⟨fun _ => ⟨q,by omega,by rw [updI_at,← unhide HXQ,← unhide HMV]; exact he⟩,fun _ => rfl⟩
           case measure => simp [intOf]; omega
      ·have hlt':¬ (q:Int)<(n:Int):=by omega
       obtain rfl:q=n:=by omega
       have hnr:BkR r q nv:=bkr_of (L:=fun _ p => nv p=(p:Int)) hV
       have hRn:=bk_next (unhide HC) (unhide HW) (unhide HF) (by rw [unhide HAn]; exact unhide HR) (by rw [unhide HAn]; exact unhide HBk) (by rw [unhide HAn]; exact hV)
       have hmu:=cntM_is hP
       have hB9:=(unhide HB6).trans (hO.blw.mono (by omega))
       have hgr:ch=true→cntP pv q<cntP nv q:=fun h => by
        have:=bk_grow (unhide HC) hRn (unhide HW) (by rw [unhide HAn]; exact unhide HR) (by rw [unhide HAn]; exact unhide HBk) (by rw [unhide HAn]; exact hnr) (by rw [unhide HAn]; exact hch.1 h)
        rw [unhide HAn] at this
        exact this
       have hsame:ch=false→∀ j,j<q→nv j=pv j:=fun h j hj => Classical.byContradiction fun hd => by
        have:=hch.2 ⟨j,hj,hd⟩
        rw [h] at this; cases this
       have hfin:ch=false→Fst A (fun j => (nv j).toNat):=fun h => bk_fin (unhide HC) hRn (unhide HW) (by rw [unhide HAn]; exact hsame h)
       have heq:ch=false→cntP nv q=cntP pv q:=fun h => cntN_congr q fun j hj => by rw [hsame h j hj]
       have hle1:=cntP_le nv q
       have hle2:=cntP_le pv q
       have HP:=hide hP
       have HNR:=hide hnr
       have HRN:=hide hRn
       have HMU:=hide hmu
       have HB9:=hide hB9
       have HGR:=hide hgr
       have HFIN:=hide hfin
       have HEQ:=hide heq
       have HLE1:=hide hle1
       have HLE2:=hide hle2
       clear hP hnr hRn hmu hB9 hgr hfin heq hsame hch hV hO hle1 hle2
       go_wp2
       go_roundw
       case rel => exact ⟨_,nv,ch,rfl,rfl,unhide HP,by omega,unhide HB9,unhide HNR,fun _ => ⟨_,unhide HRN⟩,unhide HFIN⟩
       case measure =>
        rw [unhide HMU,unhide HCM]
        have g1:=unhide HGR
        have g2:=unhide HEQ
        have g3:=unhide HLE1
        have g4:=unhide HLE2
        cases ch
        ·have:=g2 rfl
         simp only [okOf3]
         omega
        ·have:=g1 rfl
         simp only [okOf3]
         omega
end Go.Proofs.YtlidckepahpaeaaGreatDoor
