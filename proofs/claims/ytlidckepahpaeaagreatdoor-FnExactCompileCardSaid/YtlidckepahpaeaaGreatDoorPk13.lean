import Derived.Test.YtlidckepahpaeaaGreatDoorPa6
import Derived.Test.YtlidckepahpaeaaGreatDoorPa7
import Derived.Test.YtlidckepahpaeaaGreatDoorPk12
namespace Go.Proofs.YtlidckepahpaeaaGreatDoor
open Go.RowKit
theorem bits_app {f g:Nat→Nat} {xs ys:List Nat} (h:BitsOf f xs) (k:BitsOf g ys):BitsOf (orW f g) (xs ++ ys):=⟨fit_or h.1 k.1,fun b => by rw [bt_or,h.2,k.2]; simp⟩
theorem bits_swap {f:Nat→Nat} {xs ys:List Nat} (h:BitsOf f (xs ++ ys)):BitsOf f (ys ++ xs):=⟨h.1,fun b => by rw [h.2]; simp [Bool.or_comm]⟩
theorem bits_z:BitsOf z8 []:=⟨z8_fit,fun b => by simp [Bt,z8]⟩
def AddV (U:Value) (n:Nat) (a:It) (ln:List Lk) (ss:List (List Int)):Prop :=
 (∃ T x,U = .iface T x)∧∀ (O:Nat→Prop) (A:Nat) (w:World) (N:Nat) (S:List (List Int)) (K:List Lk),AuAt O A w N S K→(∀ k,w.heap.size≤k→O k)→TzO O w→N+n≤512 →
  Calls Tryz.prog 46 #[.pointer (some ⟨A,0,none⟩),U] w fun e w' => ∃ f l,e = .returned (endV a.nl f l)∧BitsOf f (a.sh N).fi∧BitsOf l (a.sh N).la∧AuAt O A w' (N+n) (S ++ ss) (K ++ shL N ln)∧FrO O w w'
set_option maxHeartbeats 4000000 in
set_option maxRecDepth 100000 in
theorem AddV.e:AddV eV 0 ⟨true,[],[]⟩ [] []:=by
 refine ⟨⟨_,_,rfl⟩,fun O A w N S K h hO htz hN => ?_⟩
 unfold eV
 have t1:=tp_es
 have t2:=tp_ec
 have t3:=tp_ea
 have t4:=tp_er
 have HE:=hide (end_new w true z8 z8)
 have HA:Hid (AuAt O A (w.alloc (oE true z8 z8)) (N+0) (S ++ []) (K ++ shL N [])):=by
  show AuAt _ _ _ _ _ _
  have:=h.keep (w':=w.alloc (oE true z8 z8)) (fun k _ hk => (below1 w _).block k hk)
  simpa [shL] using this
 have HF:=hide (fro_of (below1 w (oE true z8 z8)) hO)
 clear h hO htz
 go_enter Tryz.func46,Tryz.ntmps46
 go_wp2
 refine bodyPost_ret (end_ret (unhide HE) rfl _ rfl) rfl ?_
 exact ⟨_,_,rfl,bits_z,bits_z,unhide HA,unhide HF⟩
set_option maxHeartbeats 4000000 in
set_option maxRecDepth 100000 in
theorem AddV.s {g:Nat→Nat} {xs:List Int} (hw:WordsOf xs g) (hc:Canon xs):AddV (sV g) 1 ⟨false,[0],[0]⟩ [] [xs]:=by
 refine ⟨⟨_,_,rfl⟩,fun O A w N S K h hO htz hN => ?_⟩
 obtain ⟨W1,hW1⟩ : ∃ W1,W1=(w.alloc oE0).alloc (.cells #[.int .u64 (g 0:Nat),.int .u64 (g 1:Nat),.int .u64 (g 2:Nat),.int .u64 (g 3:Nat)] 88):=⟨_,rfl⟩
 have hz:W1.heap.size=w.heap.size+2:=by rw [hW1,sz_alloc,sz_alloc]
 have hb1:Below w.heap.size w W1:=by
  rw [hW1]
  exact below2 w _ _
 have e1:EndAt W1 w.heap.size false z8 z8:=by
  rw [hW1]
  exact World.rowIs.alloc (end_new0 w) _
 have hA:=addSet_any (Sk O w.heap.size W1.heap.size) A N S K g xs W1 (h.skip hb1) (fun k hk => ⟨hO k (by omega),Or.inr hk⟩) hw hc hN
 have HA:=hide hA
 have HE:=hide e1
 have HO:=hide hO
 have HB:=hide hb1
 have HZ:=hide hz
 have HW1:=hide hW1
 clear hA e1 hb1 hz hW1 h hO htz hw hc
 unfold sV ws4
 have t1:=tp_ss
 go_enter Tryz.func46,Tryz.ntmps46
 go_wp2_with fail
 rw [← unhide HW1]
 clear HW1
 refine (unhide HA).mono ?_
 rintro e w2 ⟨f,rfl,hf,ha,hfr⟩
 have HE2:=hide (EndAt.on (unhide HE) (hfr.block _ (fun q => by have:=unhide HZ; rcases q.2 with q | q <;> omega)))
 have HFi:=hide hf
 have HA2:=hide ha
 have HFr:=hide hfr
 clear hf ha hfr HA HE
 unfold endV
 go_wp2_with (refine wpList_store_row rfl 101 (.tmp 4) (.tmp 19) rfl (w.heap.size) #[.bool false,.int .u64 (f 0:Nat),.int .u64 (f 1:Nat),.int .u64 (f 2:Nat),.int .u64 (f 3:Nat),.int .u64 (f 4:Nat),.int .u64 (f 5:Nat),.int .u64 (f 6:Nat),.int .u64 (f 7:Nat),.int .u64 (f 0:Nat),.int .u64 (f 1:Nat),.int .u64 (f 2:Nat),.int .u64 (f 3:Nat),.int .u64 (f 4:Nat),.int .u64 (f 5:Nat),.int .u64 (f 6:Nat),.int .u64 (f 7:Nat)] (by simp [Act.eval]) (by simp [Act.eval]) 101 _ (EndAt.blk (unhide HE2)) (by kernel_rfl) rfl (all1 _ _ _) ?_)
 refine bodyPost_ret (end_ret (EndAt.row (unhide HE2) _ _ _) rfl _ rfl) rfl ?_
 have hno:∀ k,Sk O w.heap.size W1.heap.size k→k ≠ w.heap.size:=fun k q e => by have:=unhide HZ; rcases q.2 with q | q <;> omega
 refine ⟨f,f,rfl,unhide HFi,unhide HFi,?_,?_⟩
 ·have:=((unhide HA2).keep (w':=w2.setRow w.heap.size #[.bool false,.int .u64 (f 0:Nat),.int .u64 (f 1:Nat),.int .u64 (f 2:Nat),.int .u64 (f 3:Nat),.int .u64 (f 4:Nat),.int .u64 (f 5:Nat),.int .u64 (f 6:Nat),.int .u64 (f 7:Nat),.int .u64 (f 0:Nat),.int .u64 (f 1:Nat),.int .u64 (f 2:Nat),.int .u64 (f 3:Nat),.int .u64 (f 4:Nat),.int .u64 (f 5:Nat),.int .u64 (f 6:Nat),.int .u64 (f 7:Nat)]) (fun k hk _ => setRow_other _ _ _ _ (hno k hk))).mono Sk.sub
  simpa [shL] using this
 ·exact (fro_of (unhide HB) (unhide HO)).trans (((unhide HFr).mono Sk.sub).trans ((row_obk _ _ _).fro (unhide HO _ (Nat.le_refl _))))
theorem step_store_row {ops:Array Oper} {o:Oper} {a:Act} {w:World} {K:Act→World→Prop} {Q:Exit→Act→World→Prop} {E:Prop} (hgd:o.guard=none) (ty:TypeId) (x y:Operand) (ho:o.op = .store ty x y)
  (g:Nat) (cells:Array Value) (hx:a.eval x = .pointer (some ⟨g,0,none⟩)) (hy:a.eval y = .agg cells) (t:TypeId) (old:Array Value) (hg:w.heap[g]? = some (.cells old t (0,0))) (hi:(Tryz.prog.info? ty).map (·.size)=some cells.size)
  (hold:old.size=cells.size) (h1:cells.all (·.oneCell')=true) (h:K (a.put o.dst undef) (w.setRow g cells)):if Region.wanted o (yielded ops a.tmps)=true then Oper.wp Tryz.prog o a w K Q else E:=by
 have hw:Region.wanted o (yielded ops a.tmps)=true:=by simp [Region.wanted,hgd]
 rw [if_pos hw]
 exact wp_store_row ty x y ho g cells hx hy t old hg hi hold h1 h
theorem step_load_end {ops:Array Oper} {o:Oper} {a:Act} {w:World} {K:Act→World→Prop} {Q:Exit→Act→World→Prop} {E:Prop} {b:Bool} {f l:Nat→Nat} (hgd:o.guard=none) (x:Operand) (ho:o.op = .load 101 x)
  (g:Nat) (hx:a.eval x = .pointer (some ⟨g,0,none⟩)) (hg:w.heap[g]? = some (.cells #[.bool b,.int .u64 (f 0:Nat),.int .u64 (f 1:Nat),.int .u64 (f 2:Nat),.int .u64 (f 3:Nat),.int .u64 (f 4:Nat),.int .u64 (f 5:Nat),.int .u64 (f 6:Nat),.int .u64 (f 7:Nat),.int .u64 (l 0:Nat),.int .u64 (l 1:Nat),.int .u64 (l 2:Nat),.int .u64 (l 3:Nat),.int .u64 (l 4:Nat),.int .u64 (l 5:Nat),.int .u64 (l 6:Nat),.int .u64 (l 7:Nat)] 101)) (h:K (a.put o.dst (.agg #[.bool b,.int .u64 (f 0:Nat),.int .u64 (f 1:Nat),.int .u64 (f 2:Nat),.int .u64 (f 3:Nat),.int .u64 (f 4:Nat),.int .u64 (f 5:Nat),.int .u64 (f 6:Nat),.int .u64 (f 7:Nat),.int .u64 (l 0:Nat),.int .u64 (l 1:Nat),.int .u64 (l 2:Nat),.int .u64 (l 3:Nat),.int .u64 (l 4:Nat),.int .u64 (l 5:Nat),.int .u64 (l 6:Nat),.int .u64 (l 7:Nat)])) w):if Region.wanted o (yielded ops a.tmps)=true then Oper.wp Tryz.prog o a w K Q else E:=by
 have hw:Region.wanted o (yielded ops a.tmps)=true:=by simp [Region.wanted,hgd]
 rw [if_pos hw]
 exact wp_load_row 101 x ho g hx 101 _ _ _ hg Tryz.underlying101 rfl (by kernel_rfl) h
theorem cell_keep {w w':World} {B k:Nat} {v:Value} (h:w.cell? ⟨B,k,none⟩ = some v) (e:w'.heap[B]? = w.heap[B]?):w'.cell? ⟨B,k,none⟩ = some v:=by
 rw [World.cell?_of_block (w:=w) (a:=⟨B,k,none⟩) e]; exact h
set_option maxHeartbeats 8000000 in
set_option maxRecDepth 100000 in
theorem AddV.rep {u:Value} {n:Nat} {a:It} {ln:List Lk} {ss:List (List Int)} (hu:AddV u n a ln ss) (hbd:Bdd a n) (mn mx:Int):AddV (rV u mn mx) n (itRep a mn) (ln ++ [(a.la,a.fi)]) ss:=by
 obtain ⟨⟨T,x,rfl⟩,hu⟩ := hu
 refine ⟨⟨_,_,rfl⟩,fun O A w N S K h hO htz hN => ?_⟩
 obtain ⟨W1,hW1⟩ : ∃ W1,W1=(w.alloc oE0).alloc (.cells #[.iface T x,.int .i64 mn,.int .i64 mx] 90):=⟨_,rfl⟩
 have hz:W1.heap.size=w.heap.size+2:=by rw [hW1,sz_alloc,sz_alloc]
 have hb1:Below w.heap.size w W1:=by
  rw [hW1]
  exact below2 w _ _
 have e1:EndAt W1 w.heap.size false z8 z8:=by
  rw [hW1]
  exact World.rowIs.alloc (end_new0 w) _
 have k1:W1.cell? ⟨w.heap.size+1,1,none⟩ = some (.int .i64 mn):=by
  have:=(pushd_alloc (w.alloc oE0) (.cells #[.iface T x,.int .i64 mn,.int .i64 mx] 90)).news 1 _ rfl
  rw [sz_alloc] at this
  rw [hW1]
  exact this
 have hA:=hu (Sk O w.heap.size W1.heap.size) A W1 N S K (h.skip hb1) (fun k hk => ⟨hO k (by omega),Or.inr hk⟩) ((htz.below hb1).less Sk.sub) hN
 have HA:=hide hA
 have HE:=hide e1
 have HK:=hide k1
 have HO:=hide hO
 have HB:=hide hb1
 have HZ:=hide hz
 have HTZ:=hide ((htz.below hb1).less (O':=Sk O w.heap.size W1.heap.size) Sk.sub)
 have HBD:=hide hbd
 have HW1:=hide hW1
 clear hA e1 k1 hb1 hz hW1 h hO htz hu hbd
 unfold rV
 have t1:=tp_rs
 have t2:=tp_rc
 have t3:=tp_ra
 have t4:=tp_rr
 go_enter Tryz.func46,Tryz.ntmps46
 go_wp2_with fail
 rw [← unhide HW1]
 clear HW1
 refine (unhide HA).mono ?_
 rintro e w2 ⟨f,l,rfl,hf,hl,ha,hfr⟩
 obtain ⟨W3,hW3⟩ : ∃ W3,W3=w2.alloc (oE a.nl f l):=⟨_,rfl⟩
 have hz1:=unhide HZ
 have hz2:=hfr.size
 have hz3:W3.heap.size=w2.heap.size+1:=by rw [hW3,sz_alloc]
 have hb3:Below w2.heap.size w2 W3:=by rw [hW3]; exact below1 w2 _
 have hO2:∀ k,w2.heap.size≤k→Sk O w.heap.size W1.heap.size k:=fun k hk => ⟨unhide HO k (by omega),Or.inr (by omega)⟩
 have hL:=link_any (Sk (Sk O w.heap.size W1.heap.size) w2.heap.size W3.heap.size) A (N+n) (S ++ ss) (K ++ shL N ln) l f _ _ W3 (ha.skip hb3) (fun k hk => ⟨hO2 k (by omega),Or.inr hk⟩) ((((unhide HTZ).fr hfr).below hb3).less Sk.sub) hl hf (fun y hy => ((unhide HBD).sh N).2 y hy) hN
 have HNO:Hid (∀ (w4:World) (k:Nat),FrO (Sk (Sk O w.heap.size W1.heap.size) w2.heap.size W3.heap.size) W3 w4→w.heap.size≤k→k<w.heap.size+2→w4.heap[k]? = W1.heap[k]?):=fun w4 k h4 q1 q2 => by
  have n1:¬ Sk O w.heap.size W1.heap.size k:=fun q => by rcases q.2 with q | q <;> omega
  exact ((h4.block k (fun q => n1 q.1)).trans (hb3.block k (by omega))).trans (hfr.block k n1)
 have HNG:Hid (∀ (w4:World),FrO (Sk (Sk O w.heap.size W1.heap.size) w2.heap.size W3.heap.size) W3 w4→w4.heap[w2.heap.size]? = W3.heap[w2.heap.size]?):=fun w4 h4 => h4.block _ (fun q => by rcases q.2 with q | q <;> omega)
 have HFIN:Hid (∀ (w4 wf:World),AuAt (Sk (Sk O w.heap.size W1.heap.size) w2.heap.size W3.heap.size) A w4 (N+n) (S ++ ss) (K ++ shL N ln ++ [((a.sh N).la,(a.sh N).fi)])→FrO (Sk (Sk O w.heap.size W1.heap.size) w2.heap.size W3.heap.size) W3 w4→wf.os=w4.os→wf.tape=w4.tape→wf.output=w4.output→wf.heap.size=w4.heap.size→(∀ k,k ≠ w.heap.size→k ≠ w2.heap.size→wf.heap[k]? = w4.heap[k]?) →
   AuAt O A wf (N+n) (S ++ ss) (K ++ shL N (ln ++ [(a.la,a.fi)]))∧FrO O w wf):=fun w4 wf a4 f4 q1 q2 q3 q4 q5 => by
  refine ⟨?_,(fro_of (unhide HB) (unhide HO)).trans ((hfr.mono Sk.sub).trans ((fro_of hb3 (fun k hk => unhide HO k (by omega))).trans (((f4.mono Sk.sub).mono Sk.sub).trans ⟨q1,q2,q3,by omega,fun k hk => ?_⟩)))⟩
  ·have:=((a4.keep (w':=wf) (fun k hk _ => q5 k (fun e => by rcases hk.1.2 with q | q <;> omega) (fun e => by rcases hk.2 with q | q <;> omega))).mono Sk.sub).mono Sk.sub
   have e:K ++ shL N (ln ++ [(a.la,a.fi)])=K ++ shL N ln ++ [((a.sh N).la,(a.sh N).fi)]:=by rw [shL_app]; simp [shL,It.sh]
   rw [e]
   exact this
  ·have hk2:k<w.heap.size:=by apply Nat.lt_of_not_le; intro e; exact hk (unhide HO k e)
   exact q5 k (by omega) (by omega)
 have HEG:Hid (EndAt W3 w2.heap.size a.nl f l):=by rw [hW3]; exact end_new w2 _ _ _
 have HL:=hide hL
 have HFi:=hide hf
 have HLa:=hide hl
 have HW3:=hide hW3
 have hz22:w.heap.size+2≤w2.heap.size:=by omega
 clear hL hf hl ha hfr hW3 hb3 hO2 hz1 hz2 hz3 HA HB HTZ HBD HZ HO
 unfold endV
 go_wp2_with fail
 rw [← unhide HW3]
 clear HW3
 refine (unhide HL).mono ?_
 rintro e w4 ⟨rfl,ha,hfr⟩
 have HG4:=hide (EndAt.on (unhide HEG) (unhide HNG w4 hfr))
 have HE4:=hide (EndAt.on (unhide HE) (unhide HNO w4 _ hfr (by omega) (by omega)))
 have k4:=cell_keep (unhide HK) (unhide HNO w4 _ hfr (by omega) (by omega))
 have HAF:=hide (unhide HFIN w4 · ha hfr)
 clear ha hfr HL HNO HNG HFIN HEG HE HK
 obtain ⟨nl,fi,la⟩ := a
 simp only at HG4
 have g0:w4.cell? ⟨w2.heap.size,0,none⟩ = some (.bool nl):=EndAt.cell (unhide HG4) 0 (by omega)
 have z0:=World.rowIs.frozen (unhide HG4) 0
 cases nl
 ·have HG5:=hide ((unhide HG4).putB (mn == 0))
  have HE5:Hid (EndAt (w4.setCell ⟨w2.heap.size,0,none⟩ (.bool (mn == 0))) w.heap.size false z8 z8):=World.rowIs.setOther (unhide HE4) (by show w.heap.size ≠ w2.heap.size; omega) _
  go_wp2_with (first | (refine wpList_load_row rfl 101 (.tmp 11) rfl (w2.heap.size) (by first | (simp [Act.eval]; done) | (simp [Act.eval,Act.put]; done)) 101 _ _ _ (EndAt.blk (unhide HG5)) Tryz.underlying101 rfl (by kernel_rfl) ?_) | (refine wpList_store_row rfl 101 (.tmp 4) (.tmp 68) rfl (w.heap.size) #[.bool (mn == 0),.int .u64 (f 0:Nat),.int .u64 (f 1:Nat),.int .u64 (f 2:Nat),.int .u64 (f 3:Nat),.int .u64 (f 4:Nat),.int .u64 (f 5:Nat),.int .u64 (f 6:Nat),.int .u64 (f 7:Nat),.int .u64 (l 0:Nat),.int .u64 (l 1:Nat),.int .u64 (l 2:Nat),.int .u64 (l 3:Nat),.int .u64 (l 4:Nat),.int .u64 (l 5:Nat),.int .u64 (l 6:Nat),.int .u64 (l 7:Nat)] (by first | (simp [Act.eval]; done) | (simp [Act.eval,Act.put]; done)) (by first | (simp [Act.eval]; done) | (simp [Act.eval,Act.put]; done)) 101 _ (EndAt.blk (unhide HE5)) (by kernel_rfl) rfl (all1 _ _ _) ?_))
  refine bodyPost_ret (end_ret (EndAt.row (unhide HE5) _ _ _) rfl _ rfl) rfl ?_
  have hfin:=unhide HAF ((w4.setCell ⟨w2.heap.size,0,none⟩ (.bool (mn == 0))).setRow w.heap.size #[.bool (mn == 0),.int .u64 (f 0:Nat),.int .u64 (f 1:Nat),.int .u64 (f 2:Nat),.int .u64 (f 3:Nat),.int .u64 (f 4:Nat),.int .u64 (f 5:Nat),.int .u64 (f 6:Nat),.int .u64 (f 7:Nat),.int .u64 (l 0:Nat),.int .u64 (l 1:Nat),.int .u64 (l 2:Nat),.int .u64 (l 3:Nat),.int .u64 (l 4:Nat),.int .u64 (l 5:Nat),.int .u64 (l 6:Nat),.int .u64 (l 7:Nat)]) rfl rfl rfl (by rw [setRow_size,sz_put]) (fun k q1 q2 => by rw [setRow_other _ _ _ _ q1]; exact Below.heap_setCell _ _ _ _ q2)
  exact ⟨f,l,by rw [show (itRep ⟨false,fi,la⟩ mn).nl=(mn == 0) from by by_cases h:mn=0 <;> simp [itRep,h]],unhide HFi,unhide HLa,hfin.1,hfin.2⟩
 ·have HG5:=hide ((unhide HG4).putB true)
  have HE5:Hid (EndAt (w4.setCell ⟨w2.heap.size,0,none⟩ (.bool true)) w.heap.size false z8 z8):=World.rowIs.setOther (unhide HE4) (by show w.heap.size ≠ w2.heap.size; omega) _
  go_wp2_with (first | (refine wpList_load_row rfl 101 (.tmp 11) rfl (w2.heap.size) (by first | (simp [Act.eval]; done) | (simp [Act.eval,Act.put]; done)) 101 _ _ _ (EndAt.blk (unhide HG5)) Tryz.underlying101 rfl (by kernel_rfl) ?_) | (refine wpList_store_row rfl 101 (.tmp 4) (.tmp 68) rfl (w.heap.size) #[.bool true,.int .u64 (f 0:Nat),.int .u64 (f 1:Nat),.int .u64 (f 2:Nat),.int .u64 (f 3:Nat),.int .u64 (f 4:Nat),.int .u64 (f 5:Nat),.int .u64 (f 6:Nat),.int .u64 (f 7:Nat),.int .u64 (l 0:Nat),.int .u64 (l 1:Nat),.int .u64 (l 2:Nat),.int .u64 (l 3:Nat),.int .u64 (l 4:Nat),.int .u64 (l 5:Nat),.int .u64 (l 6:Nat),.int .u64 (l 7:Nat)] (by first | (simp [Act.eval]; done) | (simp [Act.eval,Act.put]; done)) (by first | (simp [Act.eval]; done) | (simp [Act.eval,Act.put]; done)) 101 _ (EndAt.blk (unhide HE5)) (by kernel_rfl) rfl (all1 _ _ _) ?_))
  refine bodyPost_ret (end_ret (EndAt.row (unhide HE5) _ _ _) rfl _ rfl) rfl ?_
  have hfin:=unhide HAF ((w4.setCell ⟨w2.heap.size,0,none⟩ (.bool true)).setRow w.heap.size #[.bool true,.int .u64 (f 0:Nat),.int .u64 (f 1:Nat),.int .u64 (f 2:Nat),.int .u64 (f 3:Nat),.int .u64 (f 4:Nat),.int .u64 (f 5:Nat),.int .u64 (f 6:Nat),.int .u64 (f 7:Nat),.int .u64 (l 0:Nat),.int .u64 (l 1:Nat),.int .u64 (l 2:Nat),.int .u64 (l 3:Nat),.int .u64 (l 4:Nat),.int .u64 (l 5:Nat),.int .u64 (l 6:Nat),.int .u64 (l 7:Nat)]) rfl rfl rfl (by rw [setRow_size,sz_put]) (fun k q1 q2 => by rw [setRow_other _ _ _ _ q1]; exact Below.heap_setCell _ _ _ _ q2)
  exact ⟨f,l,by simp [itRep],unhide HFi,unhide HLa,hfin.1,hfin.2⟩
end Go.Proofs.YtlidckepahpaeaaGreatDoor
