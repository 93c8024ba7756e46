import Derived.Test.YtfdkdjngeomcdaaDoorPa6
import Derived.Test.YtfdkdjngeomcdaaDoorPa7
import Derived.Test.YtfdkdjngeomcdaaDoorPk11
namespace Go.Proofs.YtfdkdjngeomcdaaDoor
open Go.RowKit

theorem bits_app {f g : Nat → Nat} {xs ys : List Nat} (h : BitsOf f xs) (k : BitsOf g ys) : BitsOf (orW f g) (xs ++ ys) := ⟨fit_or h.1 k.1, fun b => by rw [bt_or, h.2, k.2]; simp⟩
theorem bits_swap {f : Nat → Nat} {xs ys : List Nat} (h : BitsOf f (xs ++ ys)) : BitsOf f (ys ++ xs) := ⟨h.1, fun b => by rw [h.2]; simp [Bool.or_comm]⟩
theorem bits_z : BitsOf z8 [] := ⟨z8_fit, fun b => by simp [Bt, z8]⟩
/-- What add answers at a node: n positions, what it shows, its links, its sets. -/
def AddV (U : Value) (n : Nat) (a : It) (ln : List Lk) (ss : List (List Int)) : Prop :=
  (∃ T x, U = .iface T x) ∧ ∀ (O : Nat → Prop) (A : Nat) (w : World) (N : Nat) (S : List (List Int)) (K : List Lk), AuAt O A w N S K → (∀ k, w.heap.size ≤ k → O k) → TzO O w → N + n ≤ 512 →
    Calls Tryd.prog 31 #[.pointer (some ⟨A, 0, none⟩), U] w fun e w' => ∃ f l, e = .returned (endV a.nl f l) ∧ BitsOf f (a.sh N).fi ∧ BitsOf l (a.sh N).la ∧ AuAt O A w' (N + n) (S ++ ss) (K ++ shL N ln) ∧ FrO O w w'

set_option maxHeartbeats 4000000 in
set_option maxRecDepth 100000 in
theorem AddV.e : AddV eV 0 ⟨true, [], []⟩ [] [] := by
  refine ⟨⟨_, _, rfl⟩, fun O A w N S K h hO htz hN => ?_⟩
  unfold eV
  have t1 := tp_es
  have t2 := tp_ec
  have t3 := tp_ea
  have t4 := tp_er
  have HE := hide (end_new w true z8 z8)
  have HA : Hid (AuAt O A (w.alloc (oE true z8 z8)) (N + 0) (S ++ []) (K ++ shL N [])) := by
    show AuAt _ _ _ _ _ _
    have := h.keep (w' := w.alloc (oE true z8 z8)) (fun k _ hk => (below1 w _).block k hk)
    simpa [shL] using this
  have HF := hide (fro_of (below1 w (oE true z8 z8)) hO)
  clear h hO htz
  go_enter Tryd.func31, Tryd.ntmps31
  go_wp2
  refine bodyPost_ret (end_ret (unhide HE) rfl _ rfl) rfl ?_
  exact ⟨_, _, rfl, bits_z, bits_z, unhide HA, unhide HF⟩

set_option maxHeartbeats 4000000 in
set_option maxRecDepth 100000 in
theorem AddV.s {g : Nat → Nat} {xs : List Int} (hw : WordsOf xs g) (hc : Canon xs) : AddV (sV g) 1 ⟨false, [0], [0]⟩ [] [xs] := by
  refine ⟨⟨_, _, rfl⟩, fun O A w N S K h hO htz hN => ?_⟩
  obtain ⟨W1, hW1⟩ : ∃ W1, W1 = (w.alloc oE0).alloc (.cells #[.int .u64 (g 0 : Nat), .int .u64 (g 1 : Nat), .int .u64 (g 2 : Nat), .int .u64 (g 3 : Nat)] 67) := ⟨_, rfl⟩
  have hz : W1.heap.size = w.heap.size + 2 := by rw [hW1, sz_alloc, sz_alloc]
  have hb1 : Below w.heap.size w W1 := by
    rw [hW1]
    exact below2 w _ _
  have e1 : EndAt W1 w.heap.size false z8 z8 := by
    rw [hW1]
    exact World.rowIs.alloc (end_new0 w) _
  have hA := addSet_any (Sk O w.heap.size W1.heap.size) A N S K g xs W1 (h.skip hb1) (fun k hk => ⟨hO k (by omega), Or.inr hk⟩) hw hc hN
  have HA := hide hA
  have HE := hide e1
  have HO := hide hO
  have HB := hide hb1
  have HZ := hide hz
  have HW1 := hide hW1
  clear hA e1 hb1 hz hW1 h hO htz hw hc
  unfold sV ws4
  have t1 := tp_ss
  go_enter Tryd.func31, Tryd.ntmps31
  go_wp2_with fail
  rw [← unhide HW1]
  clear HW1
  refine (unhide HA).mono ?_
  rintro e w2 ⟨f, rfl, hf, ha, hfr⟩
  have HE2 := hide (EndAt.on (unhide HE) (hfr.block _ (fun q => by have := unhide HZ; rcases q.2 with q | q <;> omega)))
  have HFi := hide hf
  have HA2 := hide ha
  have HFr := hide hfr
  clear hf ha hfr HA HE
  unfold endV
  go_wp2_with (refine wpList_store_row rfl 80 (.tmp 4) (.tmp 19) rfl (w.heap.size) #[.bool false, .int .u64 (f 0 : Nat), .int .u64 (f 1 : Nat), .int .u64 (f 2 : Nat), .int .u64 (f 3 : Nat), .int .u64 (f 4 : Nat), .int .u64 (f 5 : Nat), .int .u64 (f 6 : Nat), .int .u64 (f 7 : Nat), .int .u64 (f 0 : Nat), .int .u64 (f 1 : Nat), .int .u64 (f 2 : Nat), .int .u64 (f 3 : Nat), .int .u64 (f 4 : Nat), .int .u64 (f 5 : Nat), .int .u64 (f 6 : Nat), .int .u64 (f 7 : Nat)] (by simp [Act.eval]) (by simp [Act.eval]) 80 _ (EndAt.blk (unhide HE2)) (by kernel_rfl) rfl (all1 _ _ _) ?_)
  refine bodyPost_ret (end_ret (EndAt.row (unhide HE2) _ _ _) rfl _ rfl) rfl ?_
  have hno : ∀ k, Sk O w.heap.size W1.heap.size k → k ≠ w.heap.size := fun k q e => by have := unhide HZ; rcases q.2 with q | q <;> omega
  refine ⟨f, f, rfl, unhide HFi, unhide HFi, ?_, ?_⟩
  · have := ((unhide HA2).keep (w' := w2.setRow w.heap.size #[.bool false, .int .u64 (f 0 : Nat), .int .u64 (f 1 : Nat), .int .u64 (f 2 : Nat), .int .u64 (f 3 : Nat), .int .u64 (f 4 : Nat), .int .u64 (f 5 : Nat), .int .u64 (f 6 : Nat), .int .u64 (f 7 : Nat), .int .u64 (f 0 : Nat), .int .u64 (f 1 : Nat), .int .u64 (f 2 : Nat), .int .u64 (f 3 : Nat), .int .u64 (f 4 : Nat), .int .u64 (f 5 : Nat), .int .u64 (f 6 : Nat), .int .u64 (f 7 : Nat)]) (fun k hk _ => setRow_other _ _ _ _ (hno k hk))).mono Sk.sub
    simpa [shL] using this
  · exact (fro_of (unhide HB) (unhide HO)).trans (((unhide HFr).mono Sk.sub).trans ((row_obk _ _ _).fro (unhide HO _ (Nat.le_refl _))))

end Go.Proofs.YtfdkdjngeomcdaaDoor
