import Derived.Test.YtlidckepahpaeaaGreatDoorPk11
import Derived.Laws.Tables
namespace Go.Proofs.YtlidckepahpaeaaGreatDoor
open Go.RowKit
theorem end_of_blk {w:World} {B:Nat} {b:Bool} {f l:Nat→Nat} (h:w.heap[B]? = some (.cells #[.bool b,.int .u64 (f 0:Nat),.int .u64 (f 1:Nat),.int .u64 (f 2:Nat),.int .u64 (f 3:Nat),.int .u64 (f 4:Nat),.int .u64 (f 5:Nat),.int .u64 (f 6:Nat),.int .u64 (f 7:Nat),.int .u64 (l 0:Nat),.int .u64 (l 1:Nat),.int .u64 (l 2:Nat),.int .u64 (l 3:Nat),.int .u64 (l 4:Nat),.int .u64 (l 5:Nat),.int .u64 (l 6:Nat),.int .u64 (l 7:Nat)] 101)):EndAt w B b f l:=by
 refine ⟨_,h,rfl,fun i hi => ?_⟩
 match i,hi with
 | 0,_ => rfl
 | 1,_ => rfl
 | 2,_ => rfl
 | 3,_ => rfl
 | 4,_ => rfl
 | 5,_ => rfl
 | 6,_ => rfl
 | 7,_ => rfl
 | 8,_ => rfl
 | 9,_ => rfl
 | 10,_ => rfl
 | 11,_ => rfl
 | 12,_ => rfl
 | 13,_ => rfl
 | 14,_ => rfl
 | 15,_ => rfl
 | 16,_ => rfl
 | n+17,h => exact absurd h (by omega)
theorem row_obk (w:World) (g:Nat) (cs:Array Value):Obk g w (w.setRow g cs):=⟨rfl,rfl,rfl,setRow_size w g cs,fun k hk => setRow_other w g k cs hk⟩
theorem EndAt.row {w:World} {B:Nat} {b0:Bool} {f0 l0:Nat→Nat} (h:EndAt w B b0 f0 l0) (b:Bool) (f l:Nat→Nat):EndAt (w.setRow B #[.bool b,.int .u64 (f 0:Nat),.int .u64 (f 1:Nat),.int .u64 (f 2:Nat),.int .u64 (f 3:Nat),.int .u64 (f 4:Nat),.int .u64 (f 5:Nat),.int .u64 (f 6:Nat),.int .u64 (f 7:Nat),.int .u64 (l 0:Nat),.int .u64 (l 1:Nat),.int .u64 (l 2:Nat),.int .u64 (l 3:Nat),.int .u64 (l 4:Nat),.int .u64 (l 5:Nat),.int .u64 (l 6:Nat),.int .u64 (l 7:Nat)]) B b f l:=end_of_blk (setRow_heap w B _ _ _ _ h.blk)
theorem all1 (b:Bool) (f l:Nat→Nat):(#[.bool b,.int .u64 (f 0:Nat),.int .u64 (f 1:Nat),.int .u64 (f 2:Nat),.int .u64 (f 3:Nat),.int .u64 (f 4:Nat),.int .u64 (f 5:Nat),.int .u64 (f 6:Nat),.int .u64 (f 7:Nat),.int .u64 (l 0:Nat),.int .u64 (l 1:Nat),.int .u64 (l 2:Nat),.int .u64 (l 3:Nat),.int .u64 (l 4:Nat),.int .u64 (l 5:Nat),.int .u64 (l 6:Nat),.int .u64 (l 7:Nat)]:Array Value).all (·.oneCell')=true:=by kernel_rfl
theorem EndAt.joinF {w:World} {B:Nat} {b:Bool} {f l f2:Nat→Nat} (h:w.rowIs B 101 17 (fun k => if 1≤k∧k<1+8 then wd (orW f f2) (k - 1) else endF b f l k)):EndAt w B b (orW f f2) l:=by
 refine World.rowIs.congr h (fun k hk => ?_)
 unfold endF
 by_cases h0:k=0
 ·subst h0; simp
 ·by_cases h9:k<9
  ·rw [if_pos (by omega),if_neg h0,if_pos h9]
  ·rw [if_neg (by omega),if_neg h0,if_neg h9,if_neg h0,if_neg h9]
theorem EndAt.joinL {w:World} {B:Nat} {b:Bool} {f l l2:Nat→Nat} (h:w.rowIs B 101 17 (fun k => if 9≤k∧k<9+8 then wd (orW l l2) (k - 9) else endF b f l k)):EndAt w B b f (orW l l2):=by
 refine World.rowIs.congr h (fun k hk => ?_)
 unfold endF
 by_cases h0:k=0
 ·subst h0; simp
 ·by_cases h9:k<9
  ·rw [if_neg (by omega),if_neg h0,if_pos h9,if_neg h0,if_pos h9]
  ·rw [if_pos (by omega),if_neg h0,if_neg h9]
theorem endF_f (b:Bool) (f l:Nat→Nat):∀ j,j<8→endF b f l (1+j)=wd f j:=fun j hj => by
 unfold endF
 rw [if_neg (by omega),if_pos (by omega),show 1+j - 1=j by omega]
theorem endF_l (b:Bool) (f l:Nat→Nat):∀ j,j<8→endF b f l (9+j)=wd l j:=fun j hj => by
 unfold endF
 rw [if_neg (by omega),if_neg (by omega),show 9+j - 9=j by omega]
theorem EndAt.putB {w:World} {B:Nat} {b:Bool} {f l:Nat→Nat} (h:EndAt w B b f l) (b':Bool):EndAt (w.setCell ⟨B,0,none⟩ (.bool b')) B b' f l:=by
 refine World.rowIs.congr (World.rowIs.set h 0 _) (fun k hk => ?_)
 unfold endF
 by_cases h0:k=0
 ·rw [if_pos h0,if_pos h0]
 ·rw [if_neg h0,if_neg h0,if_neg h0]
theorem join_ff {w:World} {B C:Nat} {b b2:Bool} {f l f2 l2:Nat→Nat} (h:EndAt w B b f l) (k:EndAt w C b2 f2 l2) (hne:B ≠ C) (hf:Fit f) (hf2:Fit f2) :
  Calls Tryz.prog 84 #[.pointer (some ⟨B,1,none⟩),.pointer (some ⟨C,1,none⟩)] w fun e w' => e = .returned (.tuple #[])∧EndAt w' B b (orW f f2) l∧Obk B w w':=by
 refine (join_any B 1 17 C 1 17 _ _ _ _ f f2 w hf hf2 hne h (endF_f _ _ _) (by omega) k (endF_f _ _ _) (by omega)).mono ?_
 rintro e w' ⟨h1,h2,h3⟩
 exact ⟨h1,EndAt.joinF h2,h3⟩
theorem join_ll {w:World} {B C:Nat} {b b2:Bool} {f l f2 l2:Nat→Nat} (h:EndAt w B b f l) (k:EndAt w C b2 f2 l2) (hne:B ≠ C) (hf:Fit l) (hf2:Fit l2) :
  Calls Tryz.prog 84 #[.pointer (some ⟨B,9,none⟩),.pointer (some ⟨C,9,none⟩)] w fun e w' => e = .returned (.tuple #[])∧EndAt w' B b f (orW l l2)∧Obk B w w':=by
 refine (join_any B 9 17 C 9 17 _ _ _ _ l l2 w hf hf2 hne h (endF_l _ _ _) (by omega) k (endF_l _ _ _) (by omega)).mono ?_
 rintro e w' ⟨h1,h2,h3⟩
 exact ⟨h1,EndAt.joinL h2,h3⟩
theorem Obk.below {g m:Nat} {a b:World} (h:Obk g a b) (hm:m≤g):Below m a b:=⟨h.os,h.tape,h.output,by rw [h.size]; exact Nat.le_refl _,fun k hk => h.block k (by omega)⟩
set_option maxHeartbeats 4000000 in
set_option maxRecDepth 100000 in
theorem joinAlt_any (b1 b2:Bool) (f1 l1 f2 l2:Nat→Nat) (w:World) (h1:Fit f1) (h2:Fit l1) (h3:Fit f2) (h4:Fit l2) :
  Calls Tryz.prog 81 #[endV b1 f1 l1,endV b2 f2 l2] w fun e w' => e = .returned (endV (b1 || b2) (orW f1 f2) (orW l1 l2))∧Below w.heap.size w w':=by
 obtain ⟨W1,hW1⟩ : ∃ W1,W1=((w.alloc (oE (b1 || b2) f1 l1)).alloc (oE b2 f2 l2)).alloc oE0:=⟨_,rfl⟩
 have hz:W1.heap.size=w.heap.size+3:=by rw [hW1,sz_alloc,sz_alloc,sz_alloc]
 have hb1:Below w.heap.size w W1:=by
  rw [hW1]
  exact (below2 w _ _).trans ((below1 _ _).mono (by rw [sz_alloc,sz_alloc]; omega))
 have e1:EndAt W1 w.heap.size (b1 || b2) f1 l1:=by
  rw [hW1]
  exact World.rowIs.alloc (World.rowIs.alloc (end_new w (b1 || b2) f1 l1) _) _
 have e2:EndAt W1 (w.heap.size+1) b2 f2 l2:=by
  have:=end_new (w.alloc (oE (b1 || b2) f1 l1)) b2 f2 l2
  rw [sz_alloc] at this
  rw [hW1]
  exact World.rowIs.alloc this _
 have e3:EndAt W1 (w.heap.size+2) false z8 z8:=by
  have:=end_new0 ((w.alloc (oE (b1 || b2) f1 l1)).alloc (oE b2 f2 l2))
  rw [sz_alloc,sz_alloc] at this
  rw [hW1]
  exact this
 have HE1:=hide e1
 have HE2:=hide e2
 have HE3:=hide e3
 have HB:=hide hb1
 have H1:=hide h1
 have H2:=hide h2
 have H3:=hide h3
 have H4:=hide h4
 have HW1:=hide hW1
 clear e1 e2 e3 hz hb1 hW1 h1 h2 h3 h4
 unfold endV
 cases b1
 ·
  go_enter Tryz.func81,Tryz.ntmps81
  go_wp2_with fail
  simp only [Bool.false_or] at HE1 HW1 ⊢
  rw [← unhide HW1]
  clear HW1
  refine (join_ff (unhide HE1) (unhide HE2) (by omega) (unhide H1) (unhide H3)).mono ?_
  rintro e w2 ⟨rfl,q1,q2⟩
  have HE21:=hide q1
  have HE22:=hide (EndAt.on (unhide HE2) (q2.block _ (by omega)))
  have HE23:=hide (EndAt.on (unhide HE3) (q2.block _ (by omega)))
  have HB2:=hide ((unhide HB).trans (q2.below (Nat.le_refl _)))
  clear q1 q2 HE1 HE2 HE3 HB
  go_wp2_with fail
  refine (join_ll (unhide HE21) (unhide HE22) (by omega) (unhide H2) (unhide H4)).mono ?_
  rintro e w3 ⟨rfl,q1,q2⟩
  have HE31:=hide (EndAt.blk q1)
  have HE33:=hide (EndAt.on (unhide HE23) (q2.block _ (by omega)))
  have HE34:=hide (EndAt.blk (unhide HE33))
  have HB3:=hide ((unhide HB2).trans (q2.below (Nat.le_refl _)))
  clear q1 q2 HE21 HE22 HE23 HB2
  go_wp2_with (first | (refine wpList_load_row rfl 101 (.tmp 2) rfl (w.heap.size) (by first | (simp [Act.eval]; done) | (simp [Act.eval,Act.put]; done)) 101 _ _ _ (unhide HE31) Tryz.underlying101 rfl (by kernel_rfl) ?_) | (refine wpList_store_row rfl 101 (.tmp 4) (.tmp 18) rfl (w.heap.size+1+1) #[.bool b2,.int .u64 ((orW f1 f2) 0:Nat),.int .u64 ((orW f1 f2) 1:Nat),.int .u64 ((orW f1 f2) 2:Nat),.int .u64 ((orW f1 f2) 3:Nat),.int .u64 ((orW f1 f2) 4:Nat),.int .u64 ((orW f1 f2) 5:Nat),.int .u64 ((orW f1 f2) 6:Nat),.int .u64 ((orW f1 f2) 7:Nat),.int .u64 ((orW l1 l2) 0:Nat),.int .u64 ((orW l1 l2) 1:Nat),.int .u64 ((orW l1 l2) 2:Nat),.int .u64 ((orW l1 l2) 3:Nat),.int .u64 ((orW l1 l2) 4:Nat),.int .u64 ((orW l1 l2) 5:Nat),.int .u64 ((orW l1 l2) 6:Nat),.int .u64 ((orW l1 l2) 7:Nat)] (by first | (simp [Act.eval]; done) | (simp [Act.eval,Act.put]; done)) (by first | (simp [Act.eval]; done) | (simp [Act.eval,Act.put]; done)) 101 _ (unhide HE34) (by kernel_rfl) rfl (all1 _ _ _) ?_))
  refine bodyPost_ret (end_ret (EndAt.row (unhide HE33) _ _ _) rfl _ rfl) rfl ?_
  exact ⟨rfl,(unhide HB3).trans ((row_obk _ _ _).below (by omega))⟩
 ·
  go_enter Tryz.func81,Tryz.ntmps81
  go_wp2_with fail
  simp only [Bool.true_or] at HE1 HW1 ⊢
  rw [← unhide HW1]
  clear HW1
  refine (join_ff (unhide HE1) (unhide HE2) (by omega) (unhide H1) (unhide H3)).mono ?_
  rintro e w2 ⟨rfl,q1,q2⟩
  have HE21:=hide q1
  have HE22:=hide (EndAt.on (unhide HE2) (q2.block _ (by omega)))
  have HE23:=hide (EndAt.on (unhide HE3) (q2.block _ (by omega)))
  have HB2:=hide ((unhide HB).trans (q2.below (Nat.le_refl _)))
  clear q1 q2 HE1 HE2 HE3 HB
  go_wp2_with fail
  refine (join_ll (unhide HE21) (unhide HE22) (by omega) (unhide H2) (unhide H4)).mono ?_
  rintro e w3 ⟨rfl,q1,q2⟩
  have HE31:=hide (EndAt.blk q1)
  have HE33:=hide (EndAt.on (unhide HE23) (q2.block _ (by omega)))
  have HE34:=hide (EndAt.blk (unhide HE33))
  have HB3:=hide ((unhide HB2).trans (q2.below (Nat.le_refl _)))
  clear q1 q2 HE21 HE22 HE23 HB2
  go_wp2_with (first | (refine wpList_load_row rfl 101 (.tmp 2) rfl (w.heap.size) (by first | (simp [Act.eval]; done) | (simp [Act.eval,Act.put]; done)) 101 _ _ _ (unhide HE31) Tryz.underlying101 rfl (by kernel_rfl) ?_) | (refine wpList_store_row rfl 101 (.tmp 4) (.tmp 18) rfl (w.heap.size+1+1) #[.bool true,.int .u64 ((orW f1 f2) 0:Nat),.int .u64 ((orW f1 f2) 1:Nat),.int .u64 ((orW f1 f2) 2:Nat),.int .u64 ((orW f1 f2) 3:Nat),.int .u64 ((orW f1 f2) 4:Nat),.int .u64 ((orW f1 f2) 5:Nat),.int .u64 ((orW f1 f2) 6:Nat),.int .u64 ((orW f1 f2) 7:Nat),.int .u64 ((orW l1 l2) 0:Nat),.int .u64 ((orW l1 l2) 1:Nat),.int .u64 ((orW l1 l2) 2:Nat),.int .u64 ((orW l1 l2) 3:Nat),.int .u64 ((orW l1 l2) 4:Nat),.int .u64 ((orW l1 l2) 5:Nat),.int .u64 ((orW l1 l2) 6:Nat),.int .u64 ((orW l1 l2) 7:Nat)] (by first | (simp [Act.eval]; done) | (simp [Act.eval,Act.put]; done)) (by first | (simp [Act.eval]; done) | (simp [Act.eval,Act.put]; done)) 101 _ (unhide HE34) (by kernel_rfl) rfl (all1 _ _ _) ?_))
  refine bodyPost_ret (end_ret (EndAt.row (unhide HE33) _ _ _) rfl _ rfl) rfl ?_
  exact ⟨rfl,(unhide HB3).trans ((row_obk _ _ _).below (by omega))⟩
end Go.Proofs.YtlidckepahpaeaaGreatDoor
