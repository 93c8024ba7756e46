import Derived.Test.YtlidckepahpaeaaGreatDoorPk13
import Derived.Test.YtlidckepahpaeaaGreatDoorPa8
namespace Go.Proofs.YtlidckepahpaeaaGreatDoor
open Go.RowKit
set_option maxHeartbeats 16000000 in
set_option maxRecDepth 100000 in
theorem AddV.cat {u v:Value} {n m:Nat} {a b:It} {la lb:List Lk} {sa sb:List (List Int)} (hu:AddV u n a la sa) (hv:AddV v m b lb sb) (hbd:Bdd a n):AddV (cV u v) (n+m) (itCat a (b.sh n)) (la ++ shL n lb ++ [(a.la,(b.sh n).fi)]) (sa ++ sb):=by
 obtain ⟨⟨T,x,rfl⟩,hu⟩ := hu
 obtain ⟨⟨T',x',rfl⟩,hv⟩ := hv
 refine ⟨⟨_,_,rfl⟩,fun O A w N S K h hO htz hN => ?_⟩
 obtain ⟨W1,hW1⟩ : ∃ W1,W1=(w.alloc oE0).alloc (.cells #[.iface T x,.iface T' x'] 92):=⟨_,rfl⟩
 have hz:W1.heap.size=w.heap.size+2:=by rw [hW1,sz_alloc,sz_alloc]
 have hb1:Below w.heap.size w W1:=by
  rw [hW1]
  exact below2 w _ _
 have e1:EndAt W1 w.heap.size false z8 z8:=by
  rw [hW1]
  exact World.rowIs.alloc (end_new0 w) _
 have k1:W1.cell? ⟨w.heap.size+1,1,none⟩ = some (.iface T' x'):=by
  have:=(pushd_alloc (w.alloc oE0) (.cells #[.iface T x,.iface T' x'] 92)).news 1 _ rfl
  rw [sz_alloc] at this
  rw [hW1]
  exact this
 have hA:=hu (Sk O w.heap.size W1.heap.size) A W1 N S K (h.skip hb1) (fun k hk => ⟨hO k (by omega),Or.inr hk⟩) ((htz.below hb1).less Sk.sub) (by omega)
 have HA:=hide hA
 have HV:=hide hv
 have HE:=hide e1
 have HK:=hide k1
 have HO:=hide hO
 have HB:=hide hb1
 have HZ:=hide hz
 have HTZ:=hide ((htz.below hb1).less (O':=(Sk O w.heap.size W1.heap.size)) Sk.sub)
 have HBD:=hide hbd
 have HW1:=hide hW1
 clear hA e1 k1 hb1 hz hW1 h hO htz hu hbd hv
 unfold cV
 have t1:=tp_cs
 have t2:=tp_cc
 go_enter Tryz.func46,Tryz.ntmps46
 go_wp2_with fail
 rw [← unhide HW1]
 clear HW1
 refine (unhide HA).mono ?_
 rintro e w2 ⟨f1,l1,rfl,hf1,hl1,ha,hfr⟩
 obtain ⟨W3,hW3⟩ : ∃ W3,W3=w2.alloc (oE a.nl f1 l1):=⟨_,rfl⟩
 have hz1:=unhide HZ
 have hz2:=hfr.size
 have hz3:W3.heap.size=w2.heap.size+1:=by rw [hW3,sz_alloc]
 have hb3:Below w2.heap.size w2 W3:=by rw [hW3]; exact below1 w2 _
 have hb3d:Below w2.heap.size w2 W3.drew:=hb3.drew
 have hO2:∀ k,w2.heap.size≤k→(Sk O w.heap.size W1.heap.size) k:=fun k hk => ⟨unhide HO k (by omega),Or.inr (by omega)⟩
 have ha3:=(ha.skip hb3).keep (w':=W3.drew) (fun k _ _ => rfl)
 have htz3:TzO (Sk (Sk O w.heap.size W1.heap.size) w2.heap.size W3.heap.size) W3.drew:=(((unhide HTZ).fr hfr).below hb3d).less Sk.sub
 have hV:=unhide HV (Sk (Sk O w.heap.size W1.heap.size) w2.heap.size W3.heap.size) A W3.drew (N+n) (S ++ sa) (K ++ shL N la) ha3 (fun k hk => ⟨hO2 k (by have:W3.heap.size≤k:=hk; omega),Or.inr hk⟩) htz3 (by omega)
 have HNO:Hid (∀ (w4:World) (k:Nat),FrO (Sk (Sk O w.heap.size W1.heap.size) w2.heap.size W3.heap.size) W3.drew w4→w.heap.size≤k→k<w.heap.size+2→w4.heap[k]? = W1.heap[k]?):=fun w4 k h4 q1 q2 => by
  have n1:¬ (Sk O w.heap.size W1.heap.size) k:=fun q => by rcases q.2 with q | q <;> omega
  exact ((h4.block k (fun q => n1 q.1)).trans (hb3.block k (by omega))).trans (hfr.block k n1)
 have HNG:Hid (∀ (w4:World),FrO (Sk (Sk O w.heap.size W1.heap.size) w2.heap.size W3.heap.size) W3.drew w4→w4.heap[w2.heap.size]? = W3.heap[w2.heap.size]?):=fun w4 h4 => h4.block _ (fun q => by rcases q.2 with q | q <;> omega)
 have HFIN:Hid (∀ (w4 wf:World),AuAt (Sk (Sk O w.heap.size W1.heap.size) w2.heap.size W3.heap.size) A w4 (N+n+m) (S ++ sa ++ sb) ((K ++ shL N la ++ shL (N+n) lb) ++ [((a.sh N).la,(b.sh (N+n)).fi)])→FrO (Sk (Sk O w.heap.size W1.heap.size) w2.heap.size W3.heap.size) W3.drew w4→Obk w.heap.size w4 wf →
   AuAt O A wf (N+(n+m)) (S ++ (sa ++ sb)) (K ++ shL N (la ++ shL n lb ++ [(a.la,(b.sh n).fi)]))∧FrO O w wf):=fun w4 wf a4 f4 hob => by
  refine ⟨?_,(fro_of (unhide HB) (unhide HO)).trans ((hfr.mono Sk.sub).trans ((fro_of hb3d (fun k hk => unhide HO k (by omega))).trans (((f4.mono Sk.sub).mono Sk.sub).trans (hob.fro (unhide HO _ (Nat.le_refl _))))))⟩
  have:=((a4.keep (w':=wf) (fun k hk _ => hob.block k (fun e => by rcases hk.1.2 with q | q <;> omega))).mono Sk.sub).mono Sk.sub
  have e:K ++ shL N (la ++ shL n lb ++ [(a.la,(b.sh n).fi)])=((K ++ shL N la ++ shL (N+n) lb) ++ [((a.sh N).la,(b.sh (N+n)).fi)]):=by simp only [shL_app,shL_sh,List.append_assoc]; simp [shL,It.sh,Nat.add_assoc]
  rw [e,← Nat.add_assoc,← List.append_assoc]
  exact this
 have HEG:Hid (EndAt W3 w2.heap.size a.nl f1 l1):=by rw [hW3]; exact end_new w2 _ _ _
 have k2:=cell_keep (unhide HK) (hfr.block _ (fun q => by rcases q.2 with q | q <;> omega))
 have k3:W3.cell? ⟨w.heap.size+1,1,none⟩ = some (.iface T' x'):=cell_keep k2 (hb3.block _ (by omega))
 have HVV:=hide hV
 have HF1:=hide hf1
 have HL1:=hide hl1
 have HTZ3:=hide htz3
 have HW3:=hide hW3
 have hz22:w.heap.size+2≤w2.heap.size:=by omega
 have HO3:Hid (∀ (w4:World),FrO (Sk (Sk O w.heap.size W1.heap.size) w2.heap.size W3.heap.size) W3.drew w4→∀ k,w4.heap.size≤k→(Sk (Sk O w.heap.size W1.heap.size) w2.heap.size W3.heap.size) k):=fun w4 h4 k hk => by
  have h5:W3.heap.size≤w4.heap.size:=h4.size
  exact ⟨hO2 k (by omega),Or.inr (by omega)⟩
 have HJJ:Hid (∀ (w4:World) (f2 l2:Nat→Nat),BitsOf f2 (b.sh (N+n)).fi→BitsOf l2 (b.sh (N+n)).la→AuAt (Sk (Sk O w.heap.size W1.heap.size) w2.heap.size W3.heap.size) A w4 (N+n+m) (S ++ sa ++ sb) (K ++ shL N la ++ shL (N+n) lb)→FrO (Sk (Sk O w.heap.size W1.heap.size) w2.heap.size W3.heap.size) W3.drew w4 →
   Calls Tryz.prog 80 #[.pointer (some ⟨A,0,none⟩),.agg #[.bool a.nl,.int .u64 (f1 0:Nat),.int .u64 (f1 1:Nat),.int .u64 (f1 2:Nat),.int .u64 (f1 3:Nat),.int .u64 (f1 4:Nat),.int .u64 (f1 5:Nat),.int .u64 (f1 6:Nat),.int .u64 (f1 7:Nat),.int .u64 (l1 0:Nat),.int .u64 (l1 1:Nat),.int .u64 (l1 2:Nat),.int .u64 (l1 3:Nat),.int .u64 (l1 4:Nat),.int .u64 (l1 5:Nat),.int .u64 (l1 6:Nat),.int .u64 (l1 7:Nat)],.agg #[.bool b.nl,.int .u64 (f2 0:Nat),.int .u64 (f2 1:Nat),.int .u64 (f2 2:Nat),.int .u64 (f2 3:Nat),.int .u64 (f2 4:Nat),.int .u64 (f2 5:Nat),.int .u64 (f2 6:Nat),.int .u64 (f2 7:Nat),.int .u64 (l2 0:Nat),.int .u64 (l2 1:Nat),.int .u64 (l2 2:Nat),.int .u64 (l2 3:Nat),.int .u64 (l2 4:Nat),.int .u64 (l2 5:Nat),.int .u64 (l2 6:Nat),.int .u64 (l2 7:Nat)]] w4 fun e w' => ∃ B F L,e = .returned (.agg #[.bool B,.int .u64 (F 0:Nat),.int .u64 (F 1:Nat),.int .u64 (F 2:Nat),.int .u64 (F 3:Nat),.int .u64 (F 4:Nat),.int .u64 (F 5:Nat),.int .u64 (F 6:Nat),.int .u64 (F 7:Nat),.int .u64 (L 0:Nat),.int .u64 (L 1:Nat),.int .u64 (L 2:Nat),.int .u64 (L 3:Nat),.int .u64 (L 4:Nat),.int .u64 (L 5:Nat),.int .u64 (L 6:Nat),.int .u64 (L 7:Nat)])∧B=(itCat a (b.sh n)).nl∧BitsOf F ((itCat a (b.sh n)).sh N).fi∧BitsOf L ((itCat a (b.sh n)).sh N).la∧AuAt (Sk (Sk O w.heap.size W1.heap.size) w2.heap.size W3.heap.size) A w' (N+n+m) (S ++ sa ++ sb) ((K ++ shL N la ++ shL (N+n) lb) ++ [((a.sh N).la,(b.sh (N+n)).fi)])∧FrO (Sk (Sk O w.heap.size W1.heap.size) w2.heap.size W3.heap.size) W3.drew w'):=fun w4 f2 l2 hf2 hl2 ha4 hfr4 => by
  refine (joinCat_any (Sk (Sk O w.heap.size W1.heap.size) w2.heap.size W3.heap.size) A (N+n+m) (S ++ sa ++ sb) (K ++ shL N la ++ shL (N+n) lb) a.nl b.nl f1 l1 f2 l2 _ _ w4 ha4 (unhide HO3 w4 hfr4) ((unhide HTZ3).fr hfr4) hf1.1 hl1 hf2 hl2.1 (fun y hy => Nat.lt_of_lt_of_le (((unhide HBD).sh N).2 y hy) (Nat.le_add_right _ _)) (by omega)).mono ?_
  rintro e w' ⟨rfl,ha5,hfr5⟩
  refine ⟨_,_,_,rfl,rfl,?_,?_,ha5,hfr4.trans hfr5⟩
  ·rw [cat_sh,It.sh_sh]
   show BitsOf _ ((a.sh N).fi ++ (if a.nl then (b.sh (N+n)).fi else []))
   cases a.nl
   ·rw [if_neg (by simp),if_neg (by simp),List.append_nil]; exact hf1
   ·rw [if_pos rfl,if_pos rfl]; exact bits_app hf1 hf2
  ·rw [cat_sh,It.sh_sh]
   show BitsOf _ ((if b.nl then (a.sh N).la else []) ++ (b.sh (N+n)).la)
   cases b.nl
   ·rw [if_neg (by simp),if_neg (by simp),List.nil_append]; exact hl2
   ·rw [if_pos rfl,if_pos rfl]; exact bits_swap (bits_app hl2 hl1)
 clear hV hf1 hl1 ha hfr hW3 hb3 hO2 hz1 hz2 hz3 hb3d ha3 htz3 HA HB HTZ HV HZ
 unfold endV
 go_wp2_with fail
 rw [← unhide HW3]
 clear HW3 k2
 refine wp_region_any (by kernel_rfl) ?_
 change wpAny _ _ _ _ _ _ _ (World.drew _)
 refine wpAny_take (i:=0) (v:=.pointer (some ⟨A,0,none⟩)) rfl (by kernel_rfl) (by kernel_rfl) (by kernel_rfl) (fun _ _ _ h => h) (Or.inl ⟨by rfl,by intro w; go_simp⟩) ?_
 refine wpAny_take (i:=2) (v:=.pointer (some ⟨A,0,none⟩)) rfl (by kernel_rfl) (by kernel_rfl) (by kernel_rfl) (fun _ _ _ h => h) (Or.inl ⟨by rfl,by intro w; go_simp⟩) ?_
 refine wpAny_take (i:=3) (v:=.pointer (some ⟨w.heap.size+1,1,none⟩)) rfl (by kernel_rfl) (by kernel_rfl) (by kernel_rfl) (fun _ _ _ h => h) (Or.inl ⟨by rfl,by intro w; go_simp⟩) ?_
 refine wpAny_ready (rs := [1,4]) (by kernel_rfl) (by simp) ?_
 refine AllReady.cons rfl (fun K hK => ?_) ?_
 ·
  refine step_load_end rfl (.tmp 7) rfl w2.heap.size (by first | (simp [Act.eval]; done) | (simp [Act.eval,Act.put]; done)) (EndAt.blk (unhide HEG)) ?_
  try go_simp
  refine hK _ _ ?_
  clear hK K
  refine wpAny_ready (rs := [4]) (by kernel_rfl) (by simp) ?_
  refine AllReady.cons rfl (fun K hK => ?_) AllReady.nil
  go_simp
  refine hK _ _ ?_
  clear hK K
  refine wpAny_ready (rs := [5]) (by kernel_rfl) (by simp) ?_
  refine AllReady.cons rfl (fun K hK => ?_) AllReady.nil
  go_simp
  refine (unhide HVV).mono ?_
  rintro e w4 ⟨f2,l2,rfl,hf2,hl2,ha4,hfr4⟩
  have HJ:=hide (unhide HJJ w4 f2 l2 hf2 hl2 ha4 hfr4)
  have HEG4:=hide (EndAt.on (unhide HEG) (unhide HNG w4 hfr4))
  clear hf2 hl2 ha4 hfr4
  unfold endV
  refine hK _ _ ?_
  clear hK K
  refine wpAny_ready (rs := [6]) (by kernel_rfl) (by simp) ?_
  refine AllReady.cons rfl (fun K hK => ?_) AllReady.nil
  go_simp
  refine (unhide HJ).mono ?_
  rintro e w5 ⟨B,F,L,rfl,hB,hF,hL,ha5,hfr5⟩
  have HE5:=hide (EndAt.on (unhide HE) (unhide HNO w5 _ hfr5 (by omega) (by omega)))
  have HR:=hide (And.intro hB (And.intro hF (And.intro hL (And.intro ha5 hfr5))))
  clear hB hF hL ha5 hfr5
  refine hK _ _ ?_
  clear hK K
  refine wpAny_ready (rs := [7]) (by kernel_rfl) (by simp) ?_
  refine AllReady.cons rfl (fun K hK => ?_) AllReady.nil
  refine step_store_row rfl 101 (.tmp 4) (.tmp 33) rfl w.heap.size #[.bool B,.int .u64 (F 0:Nat),.int .u64 (F 1:Nat),.int .u64 (F 2:Nat),.int .u64 (F 3:Nat),.int .u64 (F 4:Nat),.int .u64 (F 5:Nat),.int .u64 (F 6:Nat),.int .u64 (F 7:Nat),.int .u64 (L 0:Nat),.int .u64 (L 1:Nat),.int .u64 (L 2:Nat),.int .u64 (L 3:Nat),.int .u64 (L 4:Nat),.int .u64 (L 5:Nat),.int .u64 (L 6:Nat),.int .u64 (L 7:Nat)] (by first | (simp [Act.eval]; done) | (simp [Act.eval,Act.put]; done)) (by first | (simp [Act.eval]; done) | (simp [Act.eval,Act.put]; done)) 101 _ (EndAt.blk (unhide HE5)) (by kernel_rfl) rfl (all1 _ _ _) ?_
  refine hK _ _ ?_
  clear hK K
  refine wpAny_done (by kernel_rfl) ?_ _
  go_wp2
  refine bodyPost_ret (end_ret (EndAt.row (unhide HE5) B F L) rfl _ rfl) rfl ?_
  obtain ⟨hB,hF,hL,ha5,hfr5⟩ := unhide HR
  have hfin:=unhide HFIN w5 (w5.setRow w.heap.size #[.bool B,.int .u64 (F 0:Nat),.int .u64 (F 1:Nat),.int .u64 (F 2:Nat),.int .u64 (F 3:Nat),.int .u64 (F 4:Nat),.int .u64 (F 5:Nat),.int .u64 (F 6:Nat),.int .u64 (F 7:Nat),.int .u64 (L 0:Nat),.int .u64 (L 1:Nat),.int .u64 (L 2:Nat),.int .u64 (L 3:Nat),.int .u64 (L 4:Nat),.int .u64 (L 5:Nat),.int .u64 (L 6:Nat),.int .u64 (L 7:Nat)]) ha5 hfr5 (row_obk _ _ _)
  exact ⟨F,L,by rw [hB],hF,hL,hfin.1,hfin.2⟩
 refine AllReady.cons rfl (fun K hK => ?_) AllReady.nil
 go_simp
 refine hK _ _ ?_
 clear hK K
 refine wpAny_ready (rs := [1,5]) (by kernel_rfl) (by simp) ?_
 refine AllReady.cons rfl (fun K hK => ?_) ?_
 ·
  refine step_load_end rfl (.tmp 7) rfl w2.heap.size (by first | (simp [Act.eval]; done) | (simp [Act.eval,Act.put]; done)) (EndAt.blk (unhide HEG)) ?_
  try go_simp
  refine hK _ _ ?_
  clear hK K
  refine wpAny_ready (rs := [5]) (by kernel_rfl) (by simp) ?_
  refine AllReady.cons rfl (fun K hK => ?_) AllReady.nil
  go_simp
  refine (unhide HVV).mono ?_
  rintro e w4 ⟨f2,l2,rfl,hf2,hl2,ha4,hfr4⟩
  have HJ:=hide (unhide HJJ w4 f2 l2 hf2 hl2 ha4 hfr4)
  have HEG4:=hide (EndAt.on (unhide HEG) (unhide HNG w4 hfr4))
  clear hf2 hl2 ha4 hfr4
  unfold endV
  refine hK _ _ ?_
  clear hK K
  refine wpAny_ready (rs := [6]) (by kernel_rfl) (by simp) ?_
  refine AllReady.cons rfl (fun K hK => ?_) AllReady.nil
  go_simp
  refine (unhide HJ).mono ?_
  rintro e w5 ⟨B,F,L,rfl,hB,hF,hL,ha5,hfr5⟩
  have HE5:=hide (EndAt.on (unhide HE) (unhide HNO w5 _ hfr5 (by omega) (by omega)))
  have HR:=hide (And.intro hB (And.intro hF (And.intro hL (And.intro ha5 hfr5))))
  clear hB hF hL ha5 hfr5
  refine hK _ _ ?_
  clear hK K
  refine wpAny_ready (rs := [7]) (by kernel_rfl) (by simp) ?_
  refine AllReady.cons rfl (fun K hK => ?_) AllReady.nil
  refine step_store_row rfl 101 (.tmp 4) (.tmp 33) rfl w.heap.size #[.bool B,.int .u64 (F 0:Nat),.int .u64 (F 1:Nat),.int .u64 (F 2:Nat),.int .u64 (F 3:Nat),.int .u64 (F 4:Nat),.int .u64 (F 5:Nat),.int .u64 (F 6:Nat),.int .u64 (F 7:Nat),.int .u64 (L 0:Nat),.int .u64 (L 1:Nat),.int .u64 (L 2:Nat),.int .u64 (L 3:Nat),.int .u64 (L 4:Nat),.int .u64 (L 5:Nat),.int .u64 (L 6:Nat),.int .u64 (L 7:Nat)] (by first | (simp [Act.eval]; done) | (simp [Act.eval,Act.put]; done)) (by first | (simp [Act.eval]; done) | (simp [Act.eval,Act.put]; done)) 101 _ (EndAt.blk (unhide HE5)) (by kernel_rfl) rfl (all1 _ _ _) ?_
  refine hK _ _ ?_
  clear hK K
  refine wpAny_done (by kernel_rfl) ?_ _
  go_wp2
  refine bodyPost_ret (end_ret (EndAt.row (unhide HE5) B F L) rfl _ rfl) rfl ?_
  obtain ⟨hB,hF,hL,ha5,hfr5⟩ := unhide HR
  have hfin:=unhide HFIN w5 (w5.setRow w.heap.size #[.bool B,.int .u64 (F 0:Nat),.int .u64 (F 1:Nat),.int .u64 (F 2:Nat),.int .u64 (F 3:Nat),.int .u64 (F 4:Nat),.int .u64 (F 5:Nat),.int .u64 (F 6:Nat),.int .u64 (F 7:Nat),.int .u64 (L 0:Nat),.int .u64 (L 1:Nat),.int .u64 (L 2:Nat),.int .u64 (L 3:Nat),.int .u64 (L 4:Nat),.int .u64 (L 5:Nat),.int .u64 (L 6:Nat),.int .u64 (L 7:Nat)]) ha5 hfr5 (row_obk _ _ _)
  exact ⟨F,L,by rw [hB],hF,hL,hfin.1,hfin.2⟩
 refine AllReady.cons rfl (fun K hK => ?_) AllReady.nil
 go_simp
 refine (unhide HVV).mono ?_
 rintro e w4 ⟨f2,l2,rfl,hf2,hl2,ha4,hfr4⟩
 have HJ:=hide (unhide HJJ w4 f2 l2 hf2 hl2 ha4 hfr4)
 have HEG4:=hide (EndAt.on (unhide HEG) (unhide HNG w4 hfr4))
 clear hf2 hl2 ha4 hfr4
 unfold endV
 refine hK _ _ ?_
 clear hK K
 refine wpAny_ready (rs := [1]) (by kernel_rfl) (by simp) ?_
 refine AllReady.cons rfl (fun K hK => ?_) AllReady.nil
 refine step_load_end rfl (.tmp 7) rfl w2.heap.size (by first | (simp [Act.eval]; done) | (simp [Act.eval,Act.put]; done)) (EndAt.blk (unhide HEG4)) ?_
 try go_simp
 refine hK _ _ ?_
 clear hK K
 refine wpAny_ready (rs := [6]) (by kernel_rfl) (by simp) ?_
 refine AllReady.cons rfl (fun K hK => ?_) AllReady.nil
 go_simp
 refine (unhide HJ).mono ?_
 rintro e w5 ⟨B,F,L,rfl,hB,hF,hL,ha5,hfr5⟩
 have HE5:=hide (EndAt.on (unhide HE) (unhide HNO w5 _ hfr5 (by omega) (by omega)))
 have HR:=hide (And.intro hB (And.intro hF (And.intro hL (And.intro ha5 hfr5))))
 clear hB hF hL ha5 hfr5
 refine hK _ _ ?_
 clear hK K
 refine wpAny_ready (rs := [7]) (by kernel_rfl) (by simp) ?_
 refine AllReady.cons rfl (fun K hK => ?_) AllReady.nil
 refine step_store_row rfl 101 (.tmp 4) (.tmp 33) rfl w.heap.size #[.bool B,.int .u64 (F 0:Nat),.int .u64 (F 1:Nat),.int .u64 (F 2:Nat),.int .u64 (F 3:Nat),.int .u64 (F 4:Nat),.int .u64 (F 5:Nat),.int .u64 (F 6:Nat),.int .u64 (F 7:Nat),.int .u64 (L 0:Nat),.int .u64 (L 1:Nat),.int .u64 (L 2:Nat),.int .u64 (L 3:Nat),.int .u64 (L 4:Nat),.int .u64 (L 5:Nat),.int .u64 (L 6:Nat),.int .u64 (L 7:Nat)] (by first | (simp [Act.eval]; done) | (simp [Act.eval,Act.put]; done)) (by first | (simp [Act.eval]; done) | (simp [Act.eval,Act.put]; done)) 101 _ (EndAt.blk (unhide HE5)) (by kernel_rfl) rfl (all1 _ _ _) ?_
 refine hK _ _ ?_
 clear hK K
 refine wpAny_done (by kernel_rfl) ?_ _
 go_wp2
 refine bodyPost_ret (end_ret (EndAt.row (unhide HE5) B F L) rfl _ rfl) rfl ?_
 obtain ⟨hB,hF,hL,ha5,hfr5⟩ := unhide HR
 have hfin:=unhide HFIN w5 (w5.setRow w.heap.size #[.bool B,.int .u64 (F 0:Nat),.int .u64 (F 1:Nat),.int .u64 (F 2:Nat),.int .u64 (F 3:Nat),.int .u64 (F 4:Nat),.int .u64 (F 5:Nat),.int .u64 (F 6:Nat),.int .u64 (F 7:Nat),.int .u64 (L 0:Nat),.int .u64 (L 1:Nat),.int .u64 (L 2:Nat),.int .u64 (L 3:Nat),.int .u64 (L 4:Nat),.int .u64 (L 5:Nat),.int .u64 (L 6:Nat),.int .u64 (L 7:Nat)]) ha5 hfr5 (row_obk _ _ _)
 exact ⟨F,L,by rw [hB],hF,hL,hfin.1,hfin.2⟩
end Go.Proofs.YtlidckepahpaeaaGreatDoor
