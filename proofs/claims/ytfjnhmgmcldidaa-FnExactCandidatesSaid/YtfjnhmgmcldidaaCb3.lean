import Derived.Test.YtfjnhmgmcldidaaCb2
namespace Go.Proofs.Ytfjnhmgmcldidaa
open Go.RowKit

/-- The words that hold a line, ascending. -/
def blkOf (g : Nat → Nat) (m : Nat) : List (Nat × Nat) := ((List.range m).filter (fun j => !(g j == 0))).map (fun j => (j, g j))
def flB (bs : List (Nat × Nat)) : List Value := bs.flatMap fun p => [.int .i64 (p.1 : Nat), .int .u64 (p.2 : Nat)]
theorem blkOf_yes {g : Nat → Nat} {m : Nat} (h : g m ≠ 0) : blkOf g (m + 1) = blkOf g m ++ [(m, g m)] := by
  unfold blkOf
  rw [List.range_succ, List.filter_append, List.map_append]
  congr 1
  rw [List.filter_cons_of_pos (by simpa using h)]
  rfl
theorem blkOf_no {g : Nat → Nat} {m : Nat} (h : g m = 0) : blkOf g (m + 1) = blkOf g m := by
  unfold blkOf
  rw [List.range_succ, List.filter_append, List.map_append]
  rw [List.filter_cons_of_neg (by simp [h])]
  simp
theorem blkOf_len (g : Nat → Nat) (m : Nat) : (blkOf g m).length ≤ m := by
  unfold blkOf
  rw [List.length_map]
  exact Nat.le_trans (List.length_filter_le _ _) (by simp)
theorem blkOf_mem {g : Nat → Nat} {m : Nat} {p : Nat × Nat} : p ∈ blkOf g m ↔ p.1 < m ∧ g p.1 ≠ 0 ∧ p.2 = g p.1 := by
  unfold blkOf
  rw [List.mem_map]
  constructor
  · rintro ⟨j, hj, rfl⟩
    rw [List.mem_filter, List.mem_range] at hj
    exact ⟨hj.1, by simpa using hj.2, rfl⟩
  · rintro ⟨h1, h2, h3⟩
    refine ⟨p.1, List.mem_filter.2 ⟨List.mem_range.2 h1, by simpa using h2⟩, ?_⟩
    rw [← h3]
theorem blkOf_asc (g : Nat → Nat) (m : Nat) : (blkOf g m).Pairwise (fun p q => p.1 < q.1) := by
  unfold blkOf
  rw [List.pairwise_map]
  exact List.Pairwise.filter _ List.pairwise_lt_range
theorem flB_len (bs : List (Nat × Nat)) : (flB bs).length = bs.length * 2 := by
  induction bs with
  | nil => rfl
  | cons p bs ih => simp only [flB, List.flatMap_cons, List.length_append, List.length_cons] at ih ⊢; rw [ih]; simp; omega
theorem flB_at (bs : List (Nat × Nat)) {i : Nat} {p : Nat × Nat} (h : bs[i]? = some p) : (flB bs)[i * 2]? = some (.int .i64 (p.1 : Nat)) ∧ (flB bs)[i * 2 + 1]? = some (.int .u64 (p.2 : Nat)) := by
  induction bs generalizing i with
  | nil => simp at h
  | cons a bs ih =>
    cases i with
    | zero => simp at h; subst h; simp [flB]
    | succ i =>
      simp only [List.getElem?_cons_succ] at h
      obtain ⟨h1, h2⟩ := ih h
      have e1 : (i + 1) * 2 = i * 2 + 1 + 1 := by omega
      rw [e1]
      exact ⟨by simpa [flB] using h1, by simpa [flB] using h2⟩
theorem flB_snoc (bs : List (Nat × Nat)) (p : Nat × Nat) : flB (bs ++ [p]) = flB bs ++ [.int .i64 (p.1 : Nat), .int .u64 (p.2 : Nat)] := by simp [flB]
theorem Try.zinLb : (Try.prog.info? 61).map (fun i => (i.zero, i.size, i.bytes)) = some (some (.agg #[.int .i64 0, .int .u64 0]), 2, 16) := by kernel_rfl
/-- A block more in a row that is owned. -/
theorem app_bl {w : World} {ops : Array Oper} {rest : List Oper} {o : Oper} {a : Act} {Q : Exit → Act → World → Prop} (hgd : o.guard = none) (s x : Operand)
    (ho : o.op = .call { callee := .builtin .append, args := #[s, x], argTypes := #[57, 57] }) (base : Nat) (v : Value) (hs : a.eval s = v) (n b : Nat) (hx : a.eval x = .slice (some ⟨w.heap.size, 0, none⟩) 1 1) (bs : List (Nat × Nat))
    (h1 : w.ownsRow base 61 2 v bs.length (flB bs)) (hb : base ≤ w.heap.size) (hl : bs.length ≤ 1000000)
    (h : ∀ v' w', w'.ownsRow base 61 2 v' (bs ++ [(n, b)]).length (flB (bs ++ [(n, b)])) → Below base w w' → wpList Try.prog ops Q rest (a.put o.dst v') w') : wpList Try.prog ops Q (o :: rest) a (w.alloc (.cells #[.int .i64 (n : Nat), .int .u64 (b : Nat)] 61)) := by
  obtain ⟨i0, hi, hz0, hz1, hz2⟩ := info_parts Try.zinLb
  refine wpList_append_own_at _ hgd s x 57 ho base 61 i0 (.agg #[.int .i64 0, .int .u64 0]) 2 16 Try.underlying57 hi hz0 hz1 hz2 rfl (by decide) v bs.length (flB bs) hs (h1.alloc _) ⟨w.heap.size, 0, none⟩ 1 1 [.int .i64 (n : Nat), .int .u64 (b : Nat)] hx rfl (fun j u hu => ?_) (fun u hu => ?_) (by unfold maxLen; omega) (by omega) (by rw [sz_alloc]; omega) ?_
  · exact (pushd_al w _).news j u hu
  · simp only [List.mem_cons, List.not_mem_nil, or_false] at hu
    rcases hu with rfl | rfl <;> rfl
  intro v' w' r1 r2 _ _
  refine h v' w' ?_ (((below1 w _).mono hb).trans (grown_bel (h1.alloc _) (by rw [sz_alloc]; omega) r2))
  rw [flB_snoc, List.length_append]
  exact r1

set_option maxHeartbeats 4000000 in
set_option maxRecDepth 100000 in
theorem blocks_any (b : Nat) (g : Nat → Nat) (w : World) (hrow : w.rowIs b 55 16 (lnW g)) :
    Calls Try.prog 29 #[.pointer (some ⟨b, 0, none⟩)] w fun e w' => ∃ v, e = .returned v ∧ w'.ownsRow w.heap.size 61 2 v (blkOf g 16).length (flB (blkOf g 16)) ∧ Below w.heap.size w w' := by
  obtain ⟨R, hR⟩ : ∃ R, R = blkOf g 16 := ⟨_, rfl⟩
  rw [← hR]
  have HR := hide hR
  have HROW := hide hrow
  have hbl := hrow.lt
  clear hrow hR
  go_enter Try.func29, Try.ntmps29
  go_wp2_with fail
  go_loopw [3, 7] (fun ov iv wr => ∃ (i : Nat) (bs : List (Nat × Nat)), i ≤ 16 ∧ iv = .int .i64 (i : Nat) ∧ bs = blkOf g i ∧ wr.ownsRow w.heap.size 61 2 ov bs.length (flB bs) ∧ Below w.heap.size w wr) (fun _ iv _ => 16 - (intOf iv).toNat)
  case atStart => exact ⟨0, [], by omega, rfl, rfl, World.ownsRow_nil _ _ _ _, Below.refl _ _⟩
  case round =>
    obtain ⟨i, bs, hi, rfl, hbs, hown, hb⟩ := hrel
    obtain ⟨w1, rfl⟩ : ∃ w1, w1 = wr := ⟨_, rfl⟩
    have hz := hb.size
    obtain ⟨oa, oc, e1⟩ := own_is hown
    subst e1
    have hbl2 : bs.length ≤ 16 := by rw [hbs]; exact Nat.le_trans (blkOf_len _ _) (by omega)
    by_cases hil : i < 16
    · have hil' : (i : Int) < 16 := by omega
      have c0 := ((unhide HROW).of_block (hb.block b hbl)).cell hil
      unfold lnW at c0
      obtain ⟨gi, hgi⟩ : ∃ gi, gi = g i := ⟨_, rfl⟩
      rw [← hgi] at c0
      have HOWN := hide hown
      have HB := hide hb
      by_cases hz0 : gi = 0
      · have HBS : Hid (bs = blkOf g (i + 1)) := by show bs = _; rw [blkOf_no (by rw [← hgi]; exact hz0)]; exact hbs
        have c1 : w1.cell? ⟨b, i, none⟩ = some (.int .u64 0) := by rw [c0, hz0]; rfl
        clear hown hb hbs hgi hz0 c0
        go_wp2_with fail
        go_quiet (fail)
        go_wp2
        go_roundw
        case rel => exact ⟨i + 1, bs, by omega, by go_num, unhide HBS, unhide HOWN, below_drewN (unhide HB) _⟩
        case measure => simp [intOf]; omega
      · have hz0' : ¬ (gi : Int) = 0 := by omega
        have HBS : Hid (bs ++ [(i, gi)] = blkOf g (i + 1)) := by show bs ++ _ = _; rw [blkOf_yes (by rw [← hgi]; exact hz0), ← hbs, hgi]
        clear hown hb hbs hgi
        go_wp2_with fail
        go_quiet (fail)
        obtain ⟨V, hV⟩ : ∃ V, V = w1.drewN nq := ⟨_, rfl⟩
        rw [← hV]
        have HO2 : Hid (V.ownsRow w.heap.size 61 2 (.slice oa bs.length oc) bs.length (flB bs)) := by rw [hV]; exact unhide HOWN
        have HB2 : Hid (Below w.heap.size w V) := by rw [hV]; exact below_drewN (unhide HB) _
        have hzV := (unhide HB2).size
        clear hV HOWN HB c0
        go_wp2_with (at_builtin; refine app_bl rfl _ _ rfl w.heap.size (.slice oa bs.length oc) rfl i gi rfl bs (unhide HO2) ?_ ?_ ?_)
        · omega
        · omega
        intro v2 w2 r1 r2
        obtain ⟨bs2, hbs2⟩ : ∃ bs2, bs2 = bs ++ [(i, gi)] := ⟨_, rfl⟩
        have r1 : w2.ownsRow w.heap.size 61 2 v2 bs2.length (flB bs2) := by rw [hbs2, List.length_append]; exact r1
        rw [← hbs2] at HBS
        obtain ⟨a2, c2, e2⟩ := own_is r1
        subst e2
        have HO3 := hide r1
        have HB3 := hide ((unhide HB2).trans r2)
        clear r1 r2 hbs2 HO2 HB2
        go_wp2
        go_roundw
        case rel => exact ⟨i + 1, bs2, by omega, by go_num, unhide HBS, unhide HO3, unhide HB3⟩
        case measure => simp [intOf]; omega
    · have hil' : ¬ (i : Int) < 16 := by omega
      have hbR : bs = R := by rw [hbs, unhide HR, show i = 16 by omega]
      have HBR := hide hbR
      have HOWN := hide hown
      have HB := hide hb
      clear hown hb hbs hbR
      go_wp2
      go_ret
      rw [← unhide HBR]
      exact ⟨_, rfl, unhide HOWN, unhide HB⟩

end Go.Proofs.Ytfjnhmgmcldidaa
