import Derived.Test.YtjmajdfcfcgegaaMn10
import Derived.Test.YtjmajdfcfcgegaaPk3
import Derived.BigQuiet
import Derived.Test.YtjmajdfcfcgegaaMr2
namespace Go.Proofs.Ytjmajdfcfcgegaa
open Go.RowKit

/-- A row of a table is a stretch of its Next. -/
theorem row_any (cl ac : Value) (b off l c : Nat) (nc q : Nat) (w : World) (hq : (q + 1) * nc ≤ l) (hl : l ≤ 1000000) (hlc : l ≤ c) (hqn : q ≤ 1024) (hnc : 1 ≤ nc ∧ nc ≤ 256) :
    Calls Try.prog 32 #[.agg #[cl, .int .i64 nc, .slice (some ⟨b, off, none⟩) l c, ac], .int .i64 q] w fun e w' => e = .returned (.slice (some ⟨b, off + q * nc, none⟩) nc (c - q * nc)) ∧ Below w.heap.size w w' := by
  have h1 : q * nc + nc ≤ l := by rw [Nat.add_mul, Nat.one_mul] at hq; exact hq
  obtain ⟨m, hm⟩ : ∃ m, m = q * nc := ⟨_, rfl⟩
  have h2 : (q : Int) * (nc : Int) = (m : Int) := by rw [hm]; exact (Int.natCast_mul ..).symm
  have h3 : ((q : Int) + 1) * (nc : Int) = (m : Int) + nc := by rw [Int.add_mul, h2, Int.one_mul]
  rw [← hm] at h1 ⊢
  have h4 : wrap64 ((m : Int) + nc) = (m : Int) + nc := w64 (by omega) (by omega)
  have h5 : wrap64 (m : Int) = m := w64 (by omega) (by omega)
  have h6 : wrap64 ((q : Int) + 1) = (q : Int) + 1 := w64 (by omega) (by omega)
  have h7 : ¬ c = m := by omega
  clear hm hq
  go_enter Try.func32, Try.ntmps32
  go_wp2_with fail
  rw [show m + nc - m = nc by omega]
  go_ret
  exact ⟨rfl, below1 w _⟩

end Go.Proofs.Ytjmajdfcfcgegaa

namespace Go.Proofs.Ytjmajdfcfcgegaa
open Go.RowKit

/-- The states that one goes in from, below m. -/
def srcL (nx : Nat → Nat → Nat) (m s c : Nat) : List Nat := (List.range m).filter (fun p => nx p c = s)
theorem srcL_zero (nx : Nat → Nat → Nat) (s c : Nat) : srcL nx 0 s c = [] := rfl
theorem srcL_next (nx : Nat → Nat → Nat) (m s c : Nat) : srcL nx (m + 1) s c = if nx m c = s then srcL nx m s c ++ [m] else srcL nx m s c := by
  unfold srcL
  rw [List.range_succ, List.filter_append]
  by_cases h : nx m c = s <;> simp [h]
theorem srcL_mem {nx : Nat → Nat → Nat} {m s c p : Nat} : p ∈ srcL nx m s c ↔ p < m ∧ nx p c = s := by simp [srcL]
theorem srcL_nodup (nx : Nat → Nat → Nat) (m s c : Nat) : (srcL nx m s c).Nodup := List.nodup_range.filter _
theorem srcL_len (nx : Nat → Nat → Nat) (m s c : Nat) : (srcL nx m s c).length ≤ m := by
  have := List.length_filter_le (fun p => decide (nx p c = s)) (List.range m)
  rw [List.length_range] at this
  exact this
/-- Behind the states below q, and the classes below c of q. -/
def srcQ (nx : Nat → Nat → Nat) (k q c i : Nat) : List Nat := srcL nx (if i % k < c then q + 1 else q) (i / k) (i % k)
theorem srcQ_start (nx : Nat → Nat → Nat) (k q i : Nat) : srcQ nx k q 0 i = srcL nx q (i / k) (i % k) := by simp [srcQ]
theorem srcQ_end (nx : Nat → Nat → Nat) {k : Nat} (hk : 0 < k) (q i : Nat) : srcQ nx k q k i = srcQ nx k (q + 1) 0 i := by
  unfold srcQ
  rw [if_pos (Nat.mod_lt _ hk), if_neg (Nat.not_lt_zero _)]
theorem srcQ_next (nx : Nat → Nat → Nat) {k q c : Nat} (hc : c < k) (i : Nat) : srcQ nx k q (c + 1) i = if i = nx q c * k + c then srcQ nx k q c i ++ [q] else srcQ nx k q c i := by
  unfold srcQ
  by_cases h : i % k = c
  · rw [h, if_pos (Nat.lt_succ_self c), if_neg (Nat.lt_irrefl c), srcL_next]
    by_cases e : i = nx q c * k + c
    · have : i / k = nx q c := by rw [e, Nat.add_comm, Nat.add_mul_div_right _ _ (by omega), Nat.div_eq_of_lt hc, Nat.zero_add]
      rw [if_pos e, if_pos this.symm]
    · have : ¬ nx q c = i / k := fun e2 => e (by rw [e2, ← h, Nat.mul_comm]; exact (Nat.div_add_mod i k).symm)
      rw [if_neg e, if_neg this]
  · have e : ¬ i = nx q c * k + c := fun e => h (by rw [e, Nat.add_comm, Nat.add_mul_mod_self_right, Nat.mod_eq_of_lt hc])
    rw [if_neg e]
    by_cases h2 : i % k < c
    · rw [if_pos h2, if_pos (by omega)]
    · rw [if_neg h2, if_neg (by omega)]
theorem srcQ_len (nx : Nat → Nat → Nat) (k q c i : Nat) : (srcQ nx k q c i).length ≤ q + 1 := by
  unfold srcQ
  split
  · exact srcL_len _ _ _ _
  · exact Nat.le_succ_of_le (srcL_len _ _ _ _)

/-- Lists of numbers, each in a row of its own. -/
structure SrcAt (lo B L : Nat) (w : World) (vs : Nat → Value) (ls : Nat → List Nat) : Prop where
  row : w.rowIs B 22 L vs
  lt : B < lo
  own : ∀ i, i < L → w.ownsRow lo 3 1 (vs i) (ls i).length ((ls i).map (fun x : Nat => mI (x : Int)))
  ap : ∀ i j, i < L → j < L → i ≠ j → ∀ q, (vs i).ownBlock = some q → (vs j).ownBlock ≠ some q
theorem SrcAt.keep {lo B L : Nat} {w w' : World} {vs : Nat → Value} {ls : Nat → List Nat} (h : SrcAt lo B L w vs ls) (hk : ∀ k, k = B ∨ (lo ≤ k ∧ k < w.heap.size) → w'.heap[k]? = w.heap[k]?) : SrcAt lo B L w' vs ls :=
  ⟨h.row.of_block (hk B (.inl rfl)), h.lt, fun i hi => own_blk (h.own i hi) (fun q hq => hk q (.inr ((h.own i hi).lt q hq))), h.ap⟩
theorem SrcAt.congr {lo B L : Nat} {w : World} {vs : Nat → Value} {ls ls' : Nat → List Nat} (h : SrcAt lo B L w vs ls) (e : ∀ i, i < L → ls i = ls' i) : SrcAt lo B L w vs ls' :=
  ⟨h.row, h.lt, fun i hi => by rw [← e i hi]; exact h.own i hi, h.ap⟩
theorem SrcAt.push {lo B L : Nat} {w w2 : World} {vs : Nat → Value} {ls : Nat → List Nat} {i x : Nat} {v' : Value} {o : Obj} (h : SrcAt lo B L w vs ls) (hi : i < L)
    (r1 : w2.ownsRow lo 3 1 v' ((ls i).length + 1) ((ls i).map (fun x : Nat => mI (x : Int)) ++ [.int .i64 (x : Nat)])) (r2 : (w.alloc o).grownBy w2 (vs i).ownBlock) (r3 : v'.ownBlock = (vs i).ownBlock ∨ v'.ownBlock = some (w.heap.size + 1)) :
    w2.cell? ⟨B, i, none⟩ = some (vs i) ∧ w2.frozen? ⟨B, i, none⟩ = false ∧ SrcAt lo B L (w2.setCell ⟨B, i, none⟩ v') (fun j => if j = i then v' else vs j) (fun j => if j = i then ls j ++ [x] else ls j) ∧ Below B w (w2.setCell ⟨B, i, none⟩ v') := by
  have hB := h.row.lt
  have hl := h.lt
  have hz2 := r2.size
  rw [sz_alloc] at hz2
  have k2 : ∀ k, k < w.heap.size → (vs i).ownBlock ≠ some k → w2.heap[k]? = w.heap[k]? := fun k hk hne => (r2.block k (by rw [sz_alloc]; omega) (fun e => hne e.symm)).trans ((below1 w o).block k hk)
  have nB : (vs i).ownBlock ≠ some B := fun e => by have := ((h.own i hi).lt B e).1; omega
  have hF := h.row.of_block (k2 B hB nB)
  have ks : ∀ k, k ≠ B → (w2.setCell ⟨B, i, none⟩ v').heap[k]? = w2.heap[k]? := fun k hk => Below.heap_setCell _ _ _ _ (by show k ≠ B; exact hk)
  refine ⟨hF.cell hi, hF.frozen i, ⟨hF.set i v', hl, fun j hj => ?_, fun a b ha hb hab q hq hq2 => ?_⟩, ⟨r2.os, r2.tape, r2.output, by rw [sz_put]; omega, fun k hk => ?_⟩⟩
  · by_cases e : j = i
    · subst e
      simp only [if_true]
      rw [List.length_append, List.map_append]
      exact own_blk r1 (fun q hq => ks q (by have := (r1.lt q hq).1; omega))
    · simp only [e, if_false]
      refine own_blk (h.own j hj) (fun q hq => ?_)
      have := (h.own j hj).lt q hq
      rw [ks q (by omega)]
      exact k2 q this.2 (fun e2 => h.ap i j hi hj (fun e3 => e e3.symm) q e2 hq)
  · have old : ∀ j, j < L → ∀ q, (vs j).ownBlock = some q → q < w.heap.size := fun j hj q hq => ((h.own j hj).lt q hq).2
    by_cases e1 : a = i
    · subst e1
      have e2 : ¬ b = a := fun e => hab e.symm
      simp only [if_true, e2, if_false] at hq hq2
      rcases r3 with e | e
      · rw [e] at hq; exact h.ap a b ha hb hab q hq hq2
      · rw [e] at hq; cases hq; have := old b hb _ hq2; omega
    · simp only [e1, if_false] at hq
      by_cases e2 : b = i
      · subst e2
        simp only [if_true] at hq2
        rcases r3 with e | e
        · rw [e] at hq2; exact h.ap a b ha hb hab q hq hq2
        · rw [e] at hq2; cases hq2; have := old a ha _ hq; omega
      · simp only [e2, if_false] at hq2
        exact h.ap a b ha hb hab q hq hq2
  · rw [ks k (by omega)]
    exact k2 k (by omega) (fun e => by have := ((h.own i hi).lt k e).1; omega)

end Go.Proofs.Ytjmajdfcfcgegaa

namespace Go.Proofs.Ytjmajdfcfcgegaa
open Go.RowKit

theorem Try.zinISl : (Try.prog.info? 22).map (fun i => (i.zero, i.size, i.bytes)) = some (some (.slice none 0 0), 1, 24) := by kernel_rfl
/-- Numbers, as the machine holds them. -/
def mN (x : Nat) : Value := mI (x : Int)
/-- A table's ways, told by a function, in a row. -/
def NxAt (w : World) (b off n k : Nat) (nx : Nat → Nat → Nat) : Prop := ∀ q c, q < n → c < k → nx q c < n ∧ w.cell? ⟨b, off + (q * k + c), none⟩ = some (.int .i64 (nx q c : Nat))
theorem idx_lt {q c n k : Nat} (hq : q < n) (hc : c < k) : q * k + c < n * k := by
  have : (q + 1) * k ≤ n * k := Nat.mul_le_mul_right _ hq
  rw [Nat.add_mul, Nat.one_mul] at this
  omega

theorem at_facts {x k c L : Nat} (hL : L ≤ 262144) (hat : x * k + c < L) : ∃ m t : Nat, ((x : Nat) : Int) * (k : Int) = (m : Int) ∧ t = x * k + c ∧ t < L ∧ wrap64 (m : Int) = m ∧ wrap64 ((m : Int) + (c : Nat)) = (t : Int) ∧ (t : Int) < (L : Int) := by
  refine ⟨x * k, x * k + c, (Int.natCast_mul ..).symm, rfl, hat, ?_, ?_, ?_⟩
  · exact w64 (by omega) (by omega)
  · rw [w64 (by omega) (by omega)]; omega
  · omega

set_option maxHeartbeats 4000000 in
set_option maxRecDepth 100000 in
/-- For each state and class, the states that it is gone in from. -/
theorem sourcesOf_any (cl : Value) (aa : Option Addr) (b off cN ca n k : Nat) (nx : Nat → Nat → Nat) (w : World) (hn : 1 ≤ n ∧ n ≤ 1024) (hk : 1 ≤ k ∧ k ≤ 256) (hcN : n * k ≤ cN) (hb : b < w.heap.size) (hx : NxAt w b off n k nx) :
    Calls Try.prog 41 #[.agg #[cl, .int .i64 (k : Nat), .slice (some ⟨b, off, none⟩) (n * k) cN, .slice aa n ca]] w fun e w' => ∃ B, e = .returned (.slice (some ⟨B, 0, none⟩) (n * k) (n * k)) ∧ Below w.heap.size w w' ∧ w.heap.size ≤ B ∧
      ∃ lo vs, SrcAt lo B (n * k) w' vs (fun i => srcL nx n (i / k) (i % k)) := by
  obtain ⟨i0, hi0, hz0, hz1, hz2⟩ := info_parts Try.zinInt
  have hLn : n * k ≤ 1024 * 256 := Nat.mul_le_mul hn.2 hk.2
  obtain ⟨L, hL⟩ : ∃ L, L = n * k := ⟨_, rfl⟩
  have hmk := run_make_row' (P := Try.prog) 63 22 (.slice none 0 0) 24 Try.underlying63 Try.zinISl rfl .i64 .i64 L (by omega) (by omega)
  rw [← hL] at hcN hLn ⊢
  have HL := hide hL
  have HX := hide hx
  obtain ⟨W1, hW1⟩ : ∃ W1, W1 = w.alloc (.cells #[cl, .int .i64 (k : Nat), .slice (some ⟨b, off, none⟩) L cN, .slice aa n ca] 27) := ⟨_, rfl⟩
  have hR1 : Row4 W1 w.heap.size 27 cl (.int .i64 (k : Nat)) (.slice (some ⟨b, off, none⟩) L cN) (.slice aa n ca) := by rw [hW1]; exact Row4.new w _ _ _ _ _
  have hz1' : W1.heap.size = w.heap.size + 1 := by rw [hW1, sz_alloc]
  have hB1 : Below w.heap.size w W1 := by rw [hW1]; exact below1 w _
  obtain ⟨W2, hW2⟩ : ∃ W2, W2 = W1.alloc (.cells (madeCells #[.slice none 0 0] L) 22) := ⟨_, rfl⟩
  have hR2 : Row4 W2 w.heap.size 27 cl (.int .i64 (k : Nat)) (.slice (some ⟨b, off, none⟩) L cN) (.slice aa n ca) := by rw [hW2]; exact hR1.alloc _
  have hS2 : SrcAt (w.heap.size + 2) (w.heap.size + 1) L W2 (fun _ => .slice none 0 0) (fun i => srcQ nx k 0 0 i) := by
    refine ⟨?_, by omega, fun i hi => ?_, fun i j _ _ _ q hq => by cases hq⟩
    · rw [hW2, ← hz1']; exact World.rowIs_made W1 _ L _
    · rw [srcQ_start, srcL_zero]; exact World.ownsRow_nil _ _ _ _
  have hB2 : Below w.heap.size w W2 := by rw [hW2]; exact hB1.trans ((below1 W1 _).mono (by omega))
  have hz2' : W2.heap.size = w.heap.size + 2 := by rw [hW2, sz_alloc, hz1']
  obtain ⟨e0, e1, e2, e3, -⟩ := hR1.facts
  obtain ⟨f0, f1, f2, f3, -⟩ := hR2.facts
  have HW1 := hide hW1
  have HW2 := hide hW2
  have HR2 := hide hR2
  have HS2 := hide hS2
  have HB2 := hide hB2
  clear hL hx hW1 hW2 hR1 hR2 hS2 hB1 hB2
  go_enter Try.func41, Try.ntmps41
  go_wp2_with fail
  rw [← unhide HW1, ← unhide HW2]
  clear HW1 HW2 e0 e1 e2 e3 f0 f1 f2 f3 hmk
  go_loopw [15] (fun iv wr => ∃ (q : Nat) (vs : Nat → Value), q ≤ n ∧ iv = .int .i64 (q : Nat) ∧ SrcAt (w.heap.size + 2) (w.heap.size + 1) L wr vs (fun i => srcQ nx k q 0 i) ∧ Row4 wr w.heap.size 27 cl (.int .i64 (k : Nat)) (.slice (some ⟨b, off, none⟩) L cN) (.slice aa n ca) ∧ Below w.heap.size w wr) (fun iv _ => n - (intOf iv).toNat)
  case atStart => exact ⟨0, _, by omega, rfl, unhide HS2, unhide HR2, unhide HB2⟩
  case round =>
    obtain ⟨q, vs, hq, rfl, hS, hR, hB⟩ := hrel
    obtain ⟨w1, rfl⟩ : ∃ w1, w1 = wr := ⟨_, rfl⟩
    clear HS2 HR2 HB2
    by_cases hlt : q < n
    · have hlt' : (q : Int) < (n : Int) := by omega
      obtain ⟨f0, f1, f2, f3, -⟩ := hR.facts
      have hqL : (q + 1) * k ≤ L := by rw [unhide HL]; exact Nat.mul_le_mul_right _ hlt
      have hrw := row_any cl (.slice aa n ca) b off L cN k q w1 hqL (by omega) hcN (by omega) hk
      obtain ⟨rq, hrq⟩ : ∃ rq, rq = q * k := ⟨_, rfl⟩
      rw [← hrq] at hrw
      have HRW := hide hrw
      have HRQ := hide hrq
      clear hrw hrq
      have HS := hide hS
      have HR := hide hR
      have HB := hide hB
      have hzz := hS.row.lt
      clear hS hR hB
      clear hqL
      go_wp2_with fail
      refine (unhide HRW).mono ?_
      rintro e w2 ⟨rfl, hb2⟩
      have hS2 := (unhide HS).keep (w' := w2) (fun k hk => hb2.block k (by omega))
      have hR2 := (unhide HR).below hb2 (by omega)
      have hB2 : Below w.heap.size w w2 := (unhide HB).trans (hb2.mono (unhide HB).size)
      have HS2 := hide hS2
      have HR2 := hide hR2
      have HB2 := hide hB2
      clear HRW HS HR HB hb2 hS2 hR2 hB2 f0 f1 f2 f3
      go_wp2_with fail
      go_loopw [22] (fun iv wx => ∃ (c : Nat) (vs : Nat → Value), c ≤ k ∧ iv = .int .i64 (c : Nat) ∧ SrcAt (w.heap.size + 2) (w.heap.size + 1) L wx vs (fun i => srcQ nx k q c i) ∧ Row4 wx w.heap.size 27 cl (.int .i64 (k : Nat)) (.slice (some ⟨b, off, none⟩) L cN) (.slice aa n ca) ∧ Below w.heap.size w wx) (fun iv _ => k - (intOf iv).toNat)
      case atStart => exact ⟨0, _, by omega, rfl, unhide HS2, unhide HR2, unhide HB2⟩
      case round =>
        obtain ⟨c, vs, hc, rfl, hS, hR, hB⟩ := hrel
        clear HS2 HR2 HB2
        by_cases hcl : c < k
        · have hcl' : (c : Int) < (k : Int) := by omega
          obtain ⟨x1, x2⟩ := unhide HX q c hlt hcl
          have x3 : wr.cell? ⟨b, off + rq + c, none⟩ = some (.int .i64 (nx q c : Nat)) := by rw [unhide HRQ, Nat.add_assoc, hB.cell (p := ⟨b, off + (q * k + c), none⟩) hb]; exact x2
          obtain ⟨f0, f1, f2, f3, -⟩ := hR.facts
          have hat : nx q c * k + c < L := by rw [unhide HL]; exact idx_lt x1 hcl
          obtain ⟨m, t, m1, ht, hat, m2, m3, m4⟩ := at_facts (by omega) hat
          have HT := hide ht
          obtain ⟨y, hy⟩ : ∃ y, y = nx q c := ⟨_, rfl⟩
          rw [← hy] at m1 x1 x3
          have m1' := m1
          rw [Int.mul_comm] at m1'
          have HY := hide hy
          clear ht hy
          have y0 := hS.row.cell (i := t) hat
          have hown := hS.own t hat
          have HS := hide hS
          have HR := hide hR
          have HB := hide hB
          have hlen := srcQ_len nx k q c t
          have hzz := hS.row.lt
          obtain ⟨oa, oc, e9⟩ := own_is (hS.own t hat)
          rw [e9] at y0 hown
          have HE9 := hide e9
          obtain ⟨sl, hsl⟩ : ∃ sl, sl = srcQ nx k q c t := ⟨_, rfl⟩
          rw [← hsl] at y0 hown hlen
          have HSL := hide hsl
          have HOW := hide hown
          clear hS hR hB x2 f0 f2 f3 e9 hown hsl
          go_wp2_with (at_builtin; refine wpList_append_own_at _ rfl _ _ 22 rfl (w.heap.size + 2) 3 i0 (.int .i64 0) 1 8 Try.underlying22 hi0 hz0 hz1 hz2 rfl (by decide) _ _ _ rfl ((unhide HOW).alloc _) ⟨wr.heap.size, 0, none⟩ 1 1 [.int .i64 (q : Nat)] rfl rfl ?_ ?_ ?_ ?_ ?_ ?_)
          · exact cell_1 (cell_new _ _ _)
          · intro u hu; simp at hu; subst hu; rfl
          · unfold maxLen; omega
          · omega
          · rw [sz_alloc]; omega
          intro v' w3 r1 r2 _ r3
          have h3 := (unhide HS).push (i := t) (x := q) hat (by rw [← unhide HSL]; exact r1) (by rw [unhide HE9, ← unhide HSL]; exact r2) (by rw [unhide HE9, ← unhide HSL]; exact r3)
          obtain ⟨z1, z2, z3, z4⟩ := h3
          obtain ⟨va, vc, rfl⟩ := own_is r1
          have HS3 := hide z3
          have HB3 := hide z4
          rw [unhide HE9, ← unhide HSL] at z1
          clear r1 r2 r3 z3 z4 HOW y0 x3
          go_wp2
          go_roundw
          case rel =>
            refine ⟨c + 1, _, by omega, by go_num, (unhide HS3).congr (fun i hi => ?_), (unhide HR).below (unhide HB3) (by omega), (unhide HB).trans ((unhide HB3).mono (by omega))⟩
            rw [srcQ_next nx hcl i, ← unhide HT]
          case measure => simp [intOf]; omega
        · have hcl' : ¬ (c : Int) < (k : Int) := by omega
          obtain rfl : c = k := by omega
          have HS := hide hS
          have HR := hide hR
          have HB := hide hB
          clear hS hR hB
          go_wp2
          go_roundw
          case rel => exact ⟨q + 1, _, by omega, by go_num, (unhide HS).congr (fun i _ => srcQ_end nx (by omega) q i), unhide HR, unhide HB⟩
          case measure => simp [intOf]; omega
    · have hlt' : ¬ (q : Int) < (n : Int) := by omega
      obtain rfl : q = n := by omega
      have HS := hide hS
      have HB := hide hB
      clear hS hB
      go_wp2
      go_ret
      exact ⟨_, rfl, unhide HB, by omega, _, _, (unhide HS).congr (fun i _ => srcQ_start nx k q i)⟩

end Go.Proofs.Ytjmajdfcfcgegaa

namespace Go.Proofs.Ytjmajdfcfcgegaa

/-- A list without doubles whose members lie below n has at most n members. -/
theorem nodup_le : ∀ (n : Nat) (l : List Nat), l.Nodup → (∀ x ∈ l, x < n) → l.length ≤ n
  | 0, [], _, _ => Nat.le_refl _
  | 0, x :: l, _, h => absurd (h x (.head _)) (by omega)
  | n + 1, l, hn, h => by
    have h1 := nodup_le n (l.filter (· ≠ n)) (hn.filter _) (fun x hx => by
      rw [List.mem_filter] at hx
      have := h x hx.1
      have := of_decide_eq_true hx.2
      omega)
    have h2 : l.length ≤ (l.filter (· ≠ n)).length + 1 := by
      clear h1 h
      induction l with
      | nil => simp
      | cons x l ih =>
        rw [List.nodup_cons] at hn
        by_cases e : x = n
        · subst e
          have : l.filter (· ≠ x) = l := List.filter_eq_self.mpr (fun y hy => by
            have : y ≠ x := fun e => hn.1 (e ▸ hy)
            simpa using this)
          rw [List.filter_cons_of_neg (by simp), this, List.length_cons]
          exact Nat.le_refl _
        · have := ih hn.2
          rw [List.filter_cons_of_pos (by simpa using e), List.length_cons, List.length_cons]
          omega
    omega
theorem PInv.few {n N : Nat} {ms ps bs fr mk tt : Nat → Nat} (h : PInv n N ms ps bs fr mk tt) : N ≤ n := by
  have h1 : ((List.range N).map fr).Nodup := by
    rw [List.nodup_iff_pairwise_ne, List.pairwise_map]
    refine (List.nodup_range (n := N)).imp_of_mem (fun {a b} ha hb hne he => hne ?_)
    have ha := List.mem_range.1 ha
    have hb := List.mem_range.1 hb
    have b1 := h.b1 a ha
    have b2 := h.b1 b hb
    obtain ⟨q1, q2⟩ := h.m1 (fr a) (by omega)
    rw [← h.s2 (ms (fr a)) a q1 ha (by omega) (by omega), ← h.s2 (ms (fr a)) b q1 hb (by omega) (by omega)]
  have := nodup_le n _ h1 (fun x hx => by
    obtain ⟨a, ha, rfl⟩ := List.mem_map.1 hx
    have := h.b1 a (List.mem_range.1 ha)
    omega)
  simpa using this

/-- Blocks that are being cut: U those that are not yet looked at. -/
structure SpI (n N : Nat) (S : Nat → Prop) (bs fr mk tt : Nat → Nat) (U : Nat → Prop) (N' : Nat) (bs' fr' mk' tt' : Nat → Nat) : Prop where
  le : N ≤ N'
  un : ∀ b, U b → b < N ∧ fr' b = fr b ∧ mk' b = mk b ∧ tt' b = tt b
  ub : ∀ t, t < n → (U (bs t) ∨ U (bs' t)) → bs' t = bs t
  or : ∀ t, t < n → bs' t = bs t ∨ N ≤ bs' t
  same : ∀ p q, p < n → q < n → (bs' p = bs' q ↔ bs p = bs q ∧ (¬ U (bs p) → (S p ↔ S q)))
  um : ∀ b, b < N' → ¬ U b → mk' b = fr' b
section
variable {n N : Nat} {S U : Nat → Prop} {ms ps bs fr mk tt : Nat → Nat} {N' : Nat} {bs' fr' mk' tt' : Nat → Nat}
theorem SpI.start (h : PInv n N ms ps bs fr mk tt) (hS : ∀ t, t < n → (ps t < mk (bs t) ↔ S t)) : SpI n N S bs fr mk tt (fun b => b < N ∧ mk b ≠ fr b) N bs fr mk tt where
  le := Nat.le_refl _
  un := fun b hb => ⟨hb.1, rfl, rfl, rfl⟩
  ub := fun _ _ _ => rfl
  or := fun _ _ => .inl rfl
  same := fun p q hp hq => ⟨fun e => ⟨e, fun hu => by
    have b1 := h.s1 p hp
    have b2 := h.s1 q hq
    have : mk (bs p) = fr (bs p) := Classical.byContradiction fun hne => hu ⟨b1.1, hne⟩
    rw [← hS p hp, ← hS q hq, ← e, this]
    rw [← e] at b2
    omega⟩, fun e => e.1⟩
  um := fun b hb hu => Classical.byContradiction fun hne => hu ⟨hb, hne⟩
/-- A block that is whole in S, or not at all. -/
theorem SpI.unmark (h : SpI n N S bs fr mk tt U N' bs' fr' mk' tt') (hP : PInv n N' ms ps bs' fr' mk' tt') (hS : ∀ t, t < n → (ps t < mk (bs t) ↔ S t)) {b : Nat} (hb : U b) (hw : mk' b = fr' b ∨ mk' b = tt' b) :
    SpI n N S bs fr mk tt (fun x => U x ∧ x ≠ b) N' bs' fr' (upd mk' b (fr' b)) tt' where
  le := h.le
  un := fun x hx => by rw [upd_ne _ hx.2]; exact h.un x hx.1
  ub := fun t ht hu => h.ub t ht (hu.imp And.left And.left)
  or := h.or
  same := fun p q hp hq => by
    rw [h.same p q hp hq]
    refine ⟨fun ⟨e, hs⟩ => ⟨e, fun hu => ?_⟩, fun ⟨e, hs⟩ => ⟨e, fun hu => hs (fun k => hu k.1)⟩⟩
    by_cases hub : U (bs p)
    · have e1 : bs p = b := Classical.byContradiction fun hne => hu ⟨hub, hne⟩
      have p1 := h.ub p hp (.inl hub)
      have q1 := h.ub q hq (.inl (e ▸ hub))
      have b1 := hP.s1 p hp
      have b2 := hP.s1 q hq
      have u1 := h.un b hb
      rw [← hS p hp, ← hS q hq, ← e, e1]
      rw [p1, e1] at b1
      rw [q1, ← e, e1] at b2
      omega
    · exact hs hub
  um := fun x hx hu => by
    by_cases e : x = b
    · subst e; rw [upd_at]
    · rw [upd_ne _ e]; exact h.um x hx (fun k => hu ⟨k, e⟩)
/-- A block that is cut. -/
theorem SpI.cut (h : SpI n N S bs fr mk tt U N' bs' fr' mk' tt') (hP : PInv n N' ms ps bs' fr' mk' tt') (hS : ∀ t, t < n → (ps t < mk (bs t) ↔ S t)) {b r1 r2 o1 o2 : Nat} {bs2 : Nat → Nat} (hb : U b)
    (hs2 : ∀ p q, p < n → q < n → (bs2 p = bs2 q ↔ bs' p = bs' q ∧ (bs' p = b → (ps p < mk' b ↔ ps q < mk' b)))) (hk : ∀ p, p < n → bs' p ≠ b → bs2 p = bs' p) (hn : ∀ p, p < n → bs' p = b → bs2 p = b ∨ bs2 p = N') :
    SpI n N S bs fr mk tt (fun x => U x ∧ x ≠ b) (N' + 1) bs2 (upd (upd fr' b r1) N' o1) (upd (upd mk' b r1) N' o1) (upd (upd tt' b r2) N' o2) := by
  have hle := h.le
  have ub := h.un b hb
  have no : ∀ t, t < n → bs' t = b → bs t = b := fun t ht e => by rw [← h.ub t ht (.inr (e ▸ hb)), e]
  have on : ∀ t, t < n → bs t = b → bs' t = b := fun t ht e => by rw [h.ub t ht (.inl (e ▸ hb)), e]
  refine ⟨by omega, fun x hx => ?_, fun t ht hu => ?_, fun t ht => ?_, fun p q hp hq => ?_, fun x hx hu => ?_⟩
  · have h1 := h.un x hx.1
    have hxN : x ≠ N' := by omega
    rw [upd_ne _ hxN, upd_ne _ hxN, upd_ne _ hxN, upd_ne _ hx.2, upd_ne _ hx.2, upd_ne _ hx.2]
    exact h1
  · by_cases e : bs' t = b
    · rcases hu with hu | hu
      · exact absurd (no t ht e) hu.2
      · rcases hn t ht e with e2 | e2
        · exact absurd e2 hu.2
        · have := (h.un _ hu.1).1; omega
    · rw [hk t ht e] at hu ⊢
      exact h.ub t ht (hu.imp And.left And.left)
  · by_cases e : bs' t = b
    · rcases hn t ht e with e2 | e2
      · exact .inl (by rw [e2, no t ht e])
      · exact .inr (by omega)
    · rw [hk t ht e]; exact h.or t ht
  · rw [hs2 p q hp hq, h.same p q hp hq]
    refine ⟨fun ⟨⟨e, hs⟩, hc⟩ => ⟨e, fun hu => ?_⟩, fun ⟨e, hs⟩ => ⟨⟨e, fun hu => hs (fun k => hu k.1)⟩, fun hc => ?_⟩⟩
    · by_cases hub : U (bs p)
      · have e1 : bs p = b := Classical.byContradiction fun hne => hu ⟨hub, hne⟩
        have := hc (on p hp e1)
        rw [← hS p hp, ← hS q hq, ← e, e1, ← ub.2.2.1]
        exact this
      · exact hs hub
    · have e1 := no p hp hc
      have := hs (fun k => k.2 e1)
      rw [← hS p hp, ← hS q hq, ← e, e1, ← ub.2.2.1] at this
      exact this
  · by_cases e : x = N'
    · subst e; rw [upd_at, upd_at]
    · rw [upd_ne _ e, upd_ne _ e]
      by_cases e2 : x = b
      · subst e2; rw [upd_at, upd_at]
      · rw [upd_ne _ e2, upd_ne _ e2]
        exact h.um x (by omega) (fun k => hu ⟨k, e2⟩)
/-- All blocks were looked at. -/
theorem SpI.fin (h : SpI n N S bs fr mk tt U N' bs' fr' mk' tt') (hU : ∀ b, ¬ U b) {W W' : Nat → Prop} (hW : ∀ x, W x → W' x) (hN : ∀ x, N ≤ x → x < N' → W' x) (hlt : ∀ p, p < n → bs' p < N') : Cut n S bs bs' W W' where
  same := fun p q hp hq => by
    rw [h.same p q hp hq]
    exact ⟨fun k => ⟨k.1, k.2 (hU _)⟩, fun k => ⟨k.1, fun _ => k.2⟩⟩
  keep := fun p hp hw => by
    rcases h.or p hp with e | e
    · rw [e]; exact hW _ hw
    · exact hN _ e (hlt p hp)
  new := fun p q hp hq e hne => by
    rcases h.or p hp with e1 | e1
    · rcases h.or q hq with e2 | e2
      · exact absurd (by rw [e1, e2, e]) hne
      · exact .inr (hN _ e2 (hlt q hq))
    · exact .inl (hN _ e1 (hlt p hp))
end

end Go.Proofs.Ytjmajdfcfcgegaa

namespace Go.Proofs.Ytjmajdfcfcgegaa

/-- How many of the first n pass. -/
def cntN (f : Nat → Bool) : Nat → Nat
  | 0 => 0
  | n + 1 => cntN f n + (if f n then 1 else 0)
theorem cntN_le (f : Nat → Bool) : ∀ n, cntN f n ≤ n
  | 0 => Nat.le_refl _
  | n + 1 => by have := cntN_le f n; simp only [cntN]; split <;> omega
theorem cntN_mono {f g : Nat → Bool} : ∀ n, (∀ q, q < n → f q = true → g q = true) → cntN f n ≤ cntN g n
  | 0, _ => Nat.le_refl _
  | n + 1, h => by
    have h1 := cntN_mono n fun q hq => h q (by omega)
    have h2 := h n (by omega)
    simp only [cntN]
    by_cases hf : f n = true
    · rw [if_pos hf, if_pos (h2 hf)]; omega
    · rw [if_neg hf]; omega
theorem cntN_lt {f g : Nat → Bool} : ∀ n, (∀ q, q < n → f q = true → g q = true) → (∃ q, q < n ∧ g q = true ∧ f q = false) → cntN f n < cntN g n
  | 0, _, ⟨q, hq, _⟩ => by omega
  | n + 1, h, ⟨q, hq, hg, hf⟩ => by
    simp only [cntN]
    by_cases he : q = n
    · subst he
      have h1 := cntN_mono (f := f) (g := g) q fun p hp => h p (by omega)
      rw [hf, hg]
      simp
      omega
    · have h1 := cntN_lt n (fun p hp => h p (by omega)) ⟨q, by omega, hg, hf⟩
      have h2 := h n (by omega)
      by_cases hfn : f n = true
      · rw [if_pos hfn, if_pos (h2 hfn)]; omega
      · rw [if_neg hfn]; omega

/-- A round that changes something makes one more block at least. -/
theorem Rds.grow {A : Tb} {C : Nat → Nat → Prop} {P N : Nat → Nat} (h : Rds A C P) (g : Rds A (rnd A C) N) (hw : A.Wf) {r : Nat → Bool} (hr : ∀ q, q < A.n → (r q = true ↔ A.Rch q)) (hne : ∃ q, A.Rch q ∧ N q ≠ P q) :
    cntN (fun q => r q && P q == q) A.n < cntN (fun q => r q && N q == q) A.n := by
  refine cntN_lt _ (fun q hq hf => ?_) ?_
  · simp only [Bool.and_eq_true, beq_iff_eq] at hf ⊢
    have rq := (hr q hq).mp hf.1
    refine ⟨hf.1, ?_⟩
    have h1 := g.lst q rq
    have h2 := (h.lst q rq).2.2 _ h1.1 h1.2.1.1
    have h3 := g.lst.le g.equ rq
    omega
  · obtain ⟨q, rq, hd⟩ := hne
    have h1 := g.lst q rq
    have hl := h1.1.lt hw
    refine ⟨N q, hl, ?_, ?_⟩
    · simp only [Bool.and_eq_true, beq_iff_eq]
      exact ⟨(hr _ hl).mpr h1.1, g.lst.idem g.equ rq⟩
    · have h2 := (h.lst.eq_iff h.equ h1.1 rq).mpr h1.2.1.1
      have : ¬ P (N q) = N q := fun he => hd (by rw [← h2, he])
      simp [this]

end Go.Proofs.Ytjmajdfcfcgegaa

namespace Go.Proofs.Ytjmajdfcfcgegaa
open Go.RowKit

/-- The model's search: l what was met, all ways of the first i of it are gone, and of the next those below c. -/
structure RcL (A : Tb) (l : List Nat) (i c : Nat) : Prop where
  nd : l.Nodup
  lt : ∀ x ∈ l, x < A.n
  z : 0 ∈ l
  rc : ∀ x ∈ l, A.Rch x
  cl : ∀ j x, j < i → l[j]? = some x → ∀ c', c' < A.k → A.nx x c' ∈ l
  cc : ∀ x, l[i]? = some x → ∀ c', c' < c → A.nx x c' ∈ l
theorem RcL.start {A : Tb} (hw : A.Wf) : RcL A [0] 0 0 := ⟨by simp, (fun x hx => by rw [List.mem_singleton] at hx; rw [hx]; exact hw.pos), .head _, (fun x hx => by rw [List.mem_singleton] at hx; rw [hx]; exact Tb.Rch.zero A), fun j x hj => by omega, fun x _ c' hc => by omega⟩
theorem RcL.old {A : Tb} {l : List Nat} {i c x : Nat} (h : RcL A l i c) (hx : l[i]? = some x) (hm : A.nx x c ∈ l) : RcL A l i (c + 1) := ⟨h.nd, h.lt, h.z, h.rc, h.cl, fun y hy c' hc => by
  rw [hx] at hy
  cases hy
  by_cases e : c' = c
  · rw [e]; exact hm
  · exact h.cc x hx c' (by omega)⟩
theorem RcL.new {A : Tb} {l : List Nat} {i c x : Nat} (h : RcL A l i c) (hw : A.Wf) (hf : A.Full) (hc : c < A.k) (hx : l[i]? = some x) (hm : A.nx x c ∉ l) : RcL A (l ++ [A.nx x c]) i (c + 1) := by
  have hil := (List.getElem?_eq_some_iff.1 hx).1
  have hxl := List.mem_of_getElem? hx
  refine ⟨?_, fun y hy => ?_, List.mem_append_left _ h.z, fun y hy => ?_, fun j y hj hy c' hc' => ?_, fun y hy c' hc' => ?_⟩
  · rw [List.nodup_append]
    exact ⟨h.nd, by simp, fun a ha b hb e => by rw [List.mem_singleton] at hb; rw [← hb, ← e] at hm; exact hm ha⟩
  · rcases List.mem_append.1 hy with k | k
    · exact h.lt y k
    · rw [List.mem_singleton] at k; rw [k]; exact hw.nxt x c (h.lt x hxl) hc
  · rcases List.mem_append.1 hy with k | k
    · exact h.rc y k
    · rw [List.mem_singleton] at k; rw [k]; exact (h.rc x hxl).nx hf hc
  · rw [List.getElem?_append_left (by omega)] at hy
    exact List.mem_append_left _ (h.cl j y hj hy c' hc')
  · rw [List.getElem?_append_left hil, hx] at hy
    cases hy
    by_cases e : c' = c
    · rw [e]; exact List.mem_append_right _ (.head _)
    · exact List.mem_append_left _ (h.cc x hx c' (by omega))
theorem RcL.next {A : Tb} {l : List Nat} {i : Nat} (h : RcL A l i A.k) : RcL A l (i + 1) 0 := ⟨h.nd, h.lt, h.z, h.rc, fun j x hj hx c' hc => by
  by_cases e : j = i
  · subst e; exact h.cc x hx c' hc
  · exact h.cl j x (by omega) hx c' hc, fun x _ c' hc => by omega⟩
theorem RcL.fin {A : Tb} {l : List Nat} (h : RcL A l l.length 0) (hw : A.Wf) (q : Nat) : q ∈ l ↔ A.Rch q := by
  refine ⟨h.rc q, ?_⟩
  rintro ⟨w, hwd, rfl⟩
  have key : ∀ (w : List Nat) (p : Nat), p ∈ l → Wd w → A.run p w ∈ l := by
    intro w
    induction w with
    | nil => intro p hp _; exact hp
    | cons b w ih =>
      intro p hp hwd
      obtain ⟨j, hj⟩ := List.getElem?_of_mem hp
      exact ih _ (h.cl j p (List.getElem?_eq_some_iff.1 hj).1 hj _ (hw.cls b (hwd b (.head _)))) fun x hx => hwd x (.tail _ hx)
  exact key w 0 h.z hwd

end Go.Proofs.Ytjmajdfcfcgegaa

namespace Go.Proofs.Ytjmajdfcfcgegaa

theorem FstIn.congr {R R' L L' : Nat → Prop} {C C' : Nat → Nat → Prop} {q v : Nat} (h : FstIn R L C q v) (hR : ∀ p, p < q → (R p ↔ R' p)) (hL : ∀ p, p < q → (R p → (L p ↔ L' p))) (hC : ∀ p, p < q → R p → (C p q ↔ C' p q)) : FstIn R' L' C' q v := by
  rcases h with ⟨k1, k2, k3, k4, k5⟩ | ⟨k1, k2⟩
  · exact .inl ⟨k1, (hR v k1).1 k2, (hL v k1 k2).1 k3, (hC v k1 k2).1 k4, fun p hp r l c => by
      have r' := (hR p (by omega)).2 r
      exact k5 p hp r' ((hL p (by omega) r').2 l) ((hC p (by omega) r').2 c)⟩
  · exact .inr ⟨k1, fun p hp r l c => by
      have r' := (hR p hp).2 r
      exact k2 p hp r' ((hL p hp r').2 l) ((hC p hp r').2 c)⟩
/-- What the model writes at j: -1 where the state is not reached, else the first that is alike. -/
def BkV (r : Nat → Bool) (L : Nat → Prop) (C : Nat → Nat → Prop) (j : Nat) (v : Int) : Prop :=
  (r j = false ∧ v = -1) ∨ (r j = true ∧ ∃ m : Nat, v = m ∧ FstIn (fun p => r p = true) L C j m)
theorem BkV.congrL {r : Nat → Bool} {L L' : Nat → Prop} {C : Nat → Nat → Prop} {j : Nat} {v : Int} (h : BkV r L C j v) (hL : ∀ p, p < j → (L p ↔ L' p)) : BkV r L' C j v := by
  rcases h with h | ⟨h1, m, h2, h3⟩
  · exact .inl h
  · exact .inr ⟨h1, m, h2, h3.congr (fun _ _ => Iff.rfl) (fun p hp _ => hL p hp) (fun _ _ _ => Iff.rfl)⟩
/-- A row of blocks: in range. -/
def BkR (r : Nat → Bool) (n : Nat) (pv : Nat → Int) : Prop := ∀ j, j < n → (r j = false ∧ pv j = -1) ∨ (r j = true ∧ ∃ m : Nat, pv j = m ∧ m ≤ j)
theorem FstIn.le {R L : Nat → Prop} {C : Nat → Nat → Prop} {q v : Nat} (h : FstIn R L C q v) : v ≤ q := by
  rcases h with h | h
  · omega
  · omega
theorem bkr_of {r : Nat → Bool} {L : Nat → Nat → Prop} {C : Nat → Nat → Prop} {n : Nat} {pv : Nat → Int} (h : ∀ j, j < n → BkV r (L j) C j (pv j)) : BkR r n pv := fun j hj => by
  rcases h j hj with h | ⟨h1, m, h2, h3⟩
  · exact .inl h
  · exact .inr ⟨h1, m, h2, h3.le⟩
theorem BkR.nat {r : Nat → Bool} {n : Nat} {pv : Nat → Int} (h : BkR r n pv) {j : Nat} (hj : j < n) (hr : r j = true) : pv j = ((pv j).toNat : Int) := by
  rcases h j hj with ⟨h1, -⟩ | ⟨-, m, h2, -⟩
  · rw [hr] at h1; cases h1
  · omega
theorem BkR.small {r : Nat → Bool} {n : Nat} {pv : Nat → Int} (h : BkR r n pv) {j : Nat} (hj : j < n) : -1 ≤ pv j ∧ pv j < n := by
  rcases h j hj with ⟨h1, h2⟩ | ⟨-, m, h2, h3⟩ <;> omega
theorem BkR.eq {r : Nat → Bool} {n : Nat} {pv : Nat → Int} (h : BkR r n pv) {i j : Nat} (hi : i < n) (hri : r i = true) (hj : j < n) (hrj : r j = true) : pv i = pv j ↔ (pv i).toNat = (pv j).toNat := by
  have h1 := h.nat hi hri
  have h2 := h.nat hj hrj
  omega
theorem BkR.self {r : Nat → Bool} {n : Nat} {pv : Nat → Int} (h : BkR r n pv) {j : Nat} (hj : j < n) : pv j = (j : Int) ↔ r j = true ∧ (pv j).toNat = j := by
  rcases h j hj with ⟨h1, h2⟩ | ⟨h1, m, h2, -⟩
  · rw [h1]; simp; omega
  · rw [h1]; simp; omega

theorem bk_start {A : Tb} {r : Nat → Bool} {pv : Nat → Int} (hw : A.Wf) (hr : ∀ q, q < A.n → (r q = true ↔ A.Rch q)) (h : ∀ j, j < A.n → BkV r (fun _ => True) (fun a b => A.ac a = A.ac b) j (pv j)) : Rds A (fun p q => A.ac p = A.ac q) (fun j => (pv j).toNat) :=
  Rds.start fun q hq => by
    have hql := hq.lt hw
    rcases h q hql with ⟨h1, -⟩ | ⟨-, m, h2, h3⟩
    · rw [(hr q hql).2 hq] at h1; cases h1
    · rw [h2]
      exact h3.congr (fun p hp => hr p (by omega)) (fun _ _ _ => Iff.rfl) (fun _ _ _ => Iff.rfl)
/-- What a round looks at. -/
def RdC (A : Tb) (pv : Nat → Int) (a b : Nat) : Prop := pv a = pv b ∧ ∀ c, c < A.k → pv (A.nx a c) = pv (A.nx b c)
theorem bk_next {A : Tb} {C : Nat → Nat → Prop} {r : Nat → Bool} {pv nv : Nat → Int} (h : Rds A C (fun j => (pv j).toNat)) (hw : A.Wf) (hf : A.Full) (hr : ∀ q, q < A.n → (r q = true ↔ A.Rch q)) (hp : BkR r A.n pv)
    (hN : ∀ j, j < A.n → BkV r (fun p => nv p = (p : Int)) (RdC A pv) j (nv j)) : Rds A (rnd A C) (fun j => (nv j).toNat) :=
  h.next hf fun q hq => by
    have hql := hq.lt hw
    have hq' := (hr q hql).2 hq
    have hnr : BkR r A.n nv := bkr_of (L := fun _ p => nv p = (p : Int)) hN
    rcases hN q hql with ⟨h1, -⟩ | ⟨-, m, h2, h3⟩
    · rw [hq'] at h1; cases h1
    · show FstIn _ _ _ _ (nv q).toNat
      rw [h2]
      refine h3.congr (fun p hp => hr p (by omega)) (fun p hp hrp => ?_) (fun p hp' hrp => ?_)
      · rw [hnr.self (by omega)]
        exact ⟨fun k => k.2, fun k => ⟨hrp, k⟩⟩
      · have hrc := (hr p (by omega)).1 hrp
        have e : ∀ c, c < A.k → (pv (A.nx p c) = pv (A.nx q c) ↔ (pv (A.nx p c)).toNat = (pv (A.nx q c)).toNat) := fun c hc => by
          have a1 := hw.nxt p c (by omega) hc
          have a2 := hw.nxt q c hql hc
          exact hp.eq a1 ((hr _ a1).2 (hrc.nx hf hc)) a2 ((hr _ a2).2 (hq.nx hf hc))
        unfold RdC
        rw [hp.eq (by omega) hrp hql hq']
        exact ⟨fun k => ⟨k.1, fun c hc => (e c hc).1 (k.2 c hc)⟩, fun k => ⟨k.1, fun c hc => (e c hc).2 (k.2 c hc)⟩⟩
/-- How many are the first of their kind. -/
def cntP (pv : Nat → Int) (n : Nat) : Nat := cntN (fun q => decide (pv q = (q : Int))) n
theorem cntN_congr {f g : Nat → Bool} : ∀ n, (∀ q, q < n → f q = g q) → cntN f n = cntN g n
  | 0, _ => rfl
  | n + 1, h => by simp only [cntN]; rw [cntN_congr n fun q hq => h q (by omega), h n (by omega)]
theorem cntP_eq {r : Nat → Bool} {n : Nat} {pv : Nat → Int} (h : BkR r n pv) : cntP pv n = cntN (fun q => r q && (pv q).toNat == q) n :=
  cntN_congr n fun q hq => by
    rw [Bool.eq_iff_iff]
    simp only [decide_eq_true_eq, Bool.and_eq_true, beq_iff_eq]
    exact h.self hq
theorem cntP_le (pv : Nat → Int) (n : Nat) : cntP pv n ≤ n := cntN_le _ n
theorem bk_grow {A : Tb} {C : Nat → Nat → Prop} {r : Nat → Bool} {pv nv : Nat → Int} (h : Rds A C (fun j => (pv j).toNat)) (g : Rds A (rnd A C) (fun j => (nv j).toNat)) (hw : A.Wf) (hr : ∀ q, q < A.n → (r q = true ↔ A.Rch q)) (hp : BkR r A.n pv) (hn : BkR r A.n nv) (hne : ∃ q, q < A.n ∧ nv q ≠ pv q) : cntP pv A.n < cntP nv A.n := by
  rw [cntP_eq hp, cntP_eq hn]
  refine h.grow g hw hr ?_
  obtain ⟨q, hq, hd⟩ := hne
  have hrq : r q = true := by
    rcases hp q hq with ⟨h1, h2⟩ | ⟨h1, -⟩
    · rcases hn q hq with ⟨h3, h4⟩ | ⟨h3, -⟩
      · rw [h2, h4] at hd; exact absurd rfl hd
      · exact h3
    · exact h1
  refine ⟨q, (hr q hq).1 hrq, fun e => hd ?_⟩
  rw [hn.nat hq hrq, hp.nat hq hrq, e]
theorem bk_fin {A : Tb} {C : Nat → Nat → Prop} {pv nv : Nat → Int} (h : Rds A C (fun j => (pv j).toNat)) (g : Rds A (rnd A C) (fun j => (nv j).toNat)) (hw : A.Wf) (he : ∀ q, q < A.n → nv q = pv q) : Fst A (fun j => (nv j).toNat) := by
  have hf := h.fin g hw fun q hq => by rw [he q (hq.lt hw)]
  have e : ∀ q, A.Rch q → (nv q).toNat = (pv q).toNat := fun q hq => by rw [he q (hq.lt hw)]
  exact ⟨fun q hq => by rw [e q hq]; exact hf.rch q hq, fun q hq => by rw [e q hq]; exact hf.tel q hq, fun p q hp hq ht => by rw [e p hp, e q hq]; exact hf.one p q hp hq ht⟩

/-- What a byte does to the first of each kind. -/
def bkK (A : Tb) (pv : Nat → Int) (b : Nat) : Nat → Int := fun q => if q < A.n ∧ pv q = (q : Int) then pv (A.stp q b) else 0
theorem bkK_sm {A : Tb} {r : Nat → Bool} {pv : Nat → Int} (hw : A.Wf) (hr : ∀ q, q < A.n → (r q = true ↔ A.Rch q)) (hp : BkR r A.n pv) (hF : Fst A (fun j => (pv j).toNat)) {b b' : Nat} (hb : b < 256) (hb' : b' < 256) : bkK A pv b = bkK A pv b' ↔ SmB A b b' := by
  have eqv : ∀ {x y : Nat}, A.Rch x → A.Rch y → (pv x = pv y ↔ (pv x).toNat = (pv y).toNat) := fun {x y} hx hy => hp.eq (hx.lt hw) ((hr _ (hx.lt hw)).2 hx) (hy.lt hw) ((hr _ (hy.lt hw)).2 hy)
  constructor
  · intro he q hq
    have hP : A.Rch (pv q).toNat := hF.rch q hq
    have hPl := hP.lt hw
    have ht : Tel A A (pv q).toNat q := hF.tel q hq
    have hid : (pv (pv q).toNat).toNat = (pv q).toNat := hF.idem hq
    obtain ⟨p, hpp⟩ : ∃ p, p = (pv q).toNat := ⟨_, rfl⟩
    rw [← hpp] at hP hPl ht hid
    have hself : pv p = (p : Int) := (hp.self hPl).2 ⟨(hr p hPl).2 hP, hid⟩
    have h1 := congrFun he p
    simp only [bkK, hPl, hself, and_self, if_true] at h1
    have hx := hP.stp hb
    have hy := hP.stp hb'
    have t1 : Tel A A (pv (A.stp p b)).toNat (A.stp p b) := hF.tel _ hx
    have t2 : Tel A A (pv (A.stp p b')).toNat (A.stp p b') := hF.tel _ hy
    rw [(eqv hx hy).1 h1] at t1
    exact (ht.stp hb).symm.trans (t1.symm.trans (t2.trans (ht.stp hb')))
  · intro hs
    funext q
    simp only [bkK]
    split
    · rename_i h
      have hq : A.Rch q := (hr q h.1).1 ((hp.self h.1).1 h.2).1
      exact (eqv (hq.stp hb) (hq.stp hb')).2 (hF.one _ _ (hq.stp hb) (hq.stp hb') (hs q hq))
    · rfl

/-- The model's table, put together. -/
theorem specT_of {A : Tb} {r : Nat → Bool} {pv : Nat → Int} {ns fs o ys : List Nat} (hw : A.Wf) (hr : ∀ q, q < A.n → (r q = true ↔ A.Rch q)) (hp : BkR r A.n pv) (hF : Fst A (fun j => (pv j).toNat)) (hN : NumL (bkK A pv) (fs.map (bkK A pv)) ns fs) (hl : ns.length = 256)
    (hB : Bfs fs.length (fun q e => (pv (A.stp q (fs[e]?.getD 0))).toNat) (pv 0).toNat o ys) (hy : ys.length = o.length * fs.length) : SpecT A (fun j => (pv j).toNat) fs.length (fun b => ns[b]?.getD 0) (fun e => fs[e]?.getD 0) o ys where
  wf := hw
  fst := hF
  num := by
    have := hN.num1
    rw [hl, List.length_map] at this
    exact this
  sm := fun b b' hb hb' => by
    have := hN.eq_iff (p := b) (q := b') (by omega) (by omega)
    rw [this]
    exact bkK_sm hw hr hp hF hb hb'
  bfs := hB
  len := hy
theorem clL_of {k : Nat} {ns o ys : List Nat} {ac : Nat → Bool} (hl : ns.length = 256) : clL (bfsT k (fun b => ns[b]?.getD 0) ac o ys) = ns.map fun (x : Nat) => (x : Int) := by
  apply List.ext_getElem?
  intro i
  simp only [clL, bfsT, List.getElem?_map]
  by_cases hi : i < 256
  · rw [List.getElem?_range hi, List.getElem?_eq_getElem (l := ns) (i := i) (by omega)]
    simp only [Option.map_some, List.getElem?_eq_getElem (l := ns) (i := i) (by omega), Option.getD_some]
  · rw [List.getElem?_eq_none (by simp; omega), List.getElem?_eq_none (by omega)]; rfl
theorem nxL_of {k : Nat} {cl : Nat → Nat} {o ys : List Nat} {ac : Nat → Bool} (hy : ys.length = o.length * k) : nxL (bfsT k cl ac o ys) = ys.map fun (x : Nat) => (x : Int) := by
  apply List.ext_getElem?
  intro i
  simp only [nxL, bfsT, List.getElem?_map]
  by_cases hi : i < ys.length
  · rw [List.getElem?_range (by omega), List.getElem?_eq_getElem (l := ys) hi]
    simp only [Option.map_some, Nat.div_add_mod', List.getElem?_eq_getElem (l := ys) hi, Option.getD_some]
  · rw [List.getElem?_eq_none (by simp; omega), List.getElem?_eq_none (by omega)]; rfl
theorem acL_of {k : Nat} {cl : Nat → Nat} {o ys : List Nat} {ac : Nat → Bool} : acL (bfsT k cl ac o ys) = o.map ac := by
  apply List.ext_getElem?
  intro i
  simp only [acL, bfsT, List.getElem?_map]
  by_cases hi : i < o.length
  · rw [List.getElem?_range hi, List.getElem?_eq_getElem (l := o) hi]
    simp [hi]
  · rw [List.getElem?_eq_none (by simp; omega), List.getElem?_eq_none (by omega)]; rfl

end Go.Proofs.Ytjmajdfcfcgegaa

namespace Go.Proofs.Ytjmajdfcfcgegaa
open Go.RowKit

/-- A queue that is read up: pop answers none. -/
theorem pop_none (g o : Nat) (a : Option Addr) (l c : Nat) (w : World) (h0 : w.cell? ⟨g, o, none⟩ = some (.slice a l c)) (h1 : w.cell? ⟨g, o + 1, none⟩ = some (.int .i64 l)) :
    Calls Try.prog 39 #[.pointer (some ⟨g, o, none⟩)] w fun e w' => e = .returned (.tuple #[.int .i64 0, .bool false]) ∧ ∃ q, w' = w.drewN q := by
  go_enter Try.func39, Try.ntmps39
  go_wp2_with fail
  go_quiet (fail)
  go_wp2
  go_ret2
  exact ⟨rfl, _, rfl⟩

/-- The next of a queue. -/
theorem pop_some (g o b off : Nat) (t : Nat) (x : Int) (l c : Nat) (w : World) (hl : l ≤ 1000000) (ht : t < l) (h0 : w.cell? ⟨g, o, none⟩ = some (.slice (some ⟨b, off, none⟩) l c)) (h1 : w.cell? ⟨g, o + 1, none⟩ = some (.int .i64 t)) (h2 : w.cell? ⟨b, off + t, none⟩ = some (.int .i64 x)) (hz : w.frozen? ⟨g, o + 1, none⟩ = false) :
    Calls Try.prog 39 #[.pointer (some ⟨g, o, none⟩)] w fun e w' => e = .returned (.tuple #[.int .i64 x, .bool true]) ∧ ∃ q, w' = (w.drewN q).setCell ⟨g, o + 1, none⟩ (.int .i64 ((t : Int) + 1)) := by
  have ht1 : (t : Int) ≠ (l : Int) := by omega
  have ht2 : (t : Int) < (l : Int) := by omega
  have hw : wrap64 ((t : Int) + 1) = (t : Int) + 1 := w64 (by omega) (by omega)
  go_enter Try.func39, Try.ntmps39
  go_wp2_with fail
  go_quiet (fail)
  go_wp2_with fail
  go_quiet (fail)
  go_wp2
  go_ret2
  exact ⟨rfl, _, rfl⟩

end Go.Proofs.Ytjmajdfcfcgegaa
