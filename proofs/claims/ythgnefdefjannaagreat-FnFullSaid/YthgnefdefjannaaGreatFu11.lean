import Derived.Test.YthgnefdefjannaaGreatFu10
namespace Go.Proofs.YthgnefdefjannaaGreat
open Go.RowKit

theorem xor4_byte (t : Int) : 0 ≤ bits .xor .u8 t 4 ∧ bits .xor .u8 t 4 ≤ 255 := by
  unfold bits
  generalize ((match BinOp.xor with
    | .and => BitVec.ofInt IntKind.u8.bits t &&& BitVec.ofInt IntKind.u8.bits 4
    | .or => BitVec.ofInt IntKind.u8.bits t ||| BitVec.ofInt IntKind.u8.bits 4
    | .xor => BitVec.ofInt IntKind.u8.bits t ^^^ BitVec.ofInt IntKind.u8.bits 4
    | _ => BitVec.ofInt IntKind.u8.bits t &&& ~~~(BitVec.ofInt IntKind.u8.bits 4)).toNat : Int) = z
  simp only [IntKind.wrap, IntKind.bits, IntKind.signed]
  simp
  omega
theorem flipB_ok (v : Nat) {x : List Int} (h : Bytes x) : Bytes (flipB v x) ∧ (flipB v x).length = x.length := by
  unfold flipB
  refine ⟨bytes_of_mem (fun y hy => ?_), List.length_set⟩
  rcases List.mem_or_eq_of_mem_set hy with q | q
  · exact bytes_mem h y q
  · rw [q]
    exact xor4_byte _
theorem bytes_nil : Bytes ([] : List Int) := bytes_of_mem (fun _ hx => absurd hx List.not_mem_nil)
theorem get_ok {bss : List (List Int)} {m : Nat} (h : ∀ x ∈ bss, Bytes x ∧ x.length ≤ m) (i : Nat) : Bytes (bss[i]?.getD []) ∧ (bss[i]?.getD []).length ≤ m := by
  by_cases hi : i < bss.length
  · rw [List.getElem?_eq_getElem hi]
    exact h _ (List.getElem_mem hi)
  · rw [List.getElem?_eq_none (by omega)]
    exact ⟨bytes_nil, Nat.zero_le _⟩
theorem spB_ok (k v : Nat) {bss : List (List Int)} (h : ∀ x ∈ bss, Bytes x ∧ x.length ≤ 10004) (hl : bss.length ≤ 5) : (∀ x ∈ spB k v bss, Bytes x ∧ x.length ≤ 10004) ∧ (spB k v bss).length ≤ 6 := by
  unfold spB
  repeat' split
  · refine ⟨fun x hx => ?_, by simp; omega⟩
    rcases List.mem_append.1 hx with hx | hx
    · exact h x hx
    · rw [List.mem_singleton] at hx
      subst hx
      exact ⟨bytes_nil, Nat.zero_le _⟩
  · exact ⟨fun x hx => absurd hx List.not_mem_nil, Nat.zero_le _⟩
  · refine ⟨fun x hx => ?_, by rw [List.length_set]; omega⟩
    rcases List.mem_or_eq_of_mem_set hx with hx | hx
    · exact h x hx
    · rw [hx]
      have h1 := get_ok h (v % bss.length)
      have h2 := flipB_ok v h1.1
      exact ⟨h2.1, by rw [h2.2]; exact h1.2⟩
  · exact ⟨fun x hx => h x (List.mem_of_mem_tail hx), by rw [List.length_tail]; omega⟩
  · refine ⟨fun x hx => ?_, by simp; omega⟩
    rcases List.mem_append.1 hx with hx | hx
    · exact h x hx
    · rw [List.mem_singleton] at hx
      rw [hx]
      exact get_ok h _
  · exact ⟨h, by omega⟩
theorem mny_bytes (n t : Nat) : ∀ x ∈ mny n t, Bytes x := fun x hx => bytes_of_mem (mny_byte n t x hx)
theorem spO_ok (k v : Nat) (bss : List (List Int)) {oss : List (List Int)} (h : ∀ x ∈ oss, Bytes x) (ht : tot oss ≤ 100) (hl : oss.length ≤ 5) : (∀ x ∈ spO k v bss oss, Bytes x) ∧ tot (spO k v bss oss) ≤ 20100 ∧ (spO k v bss oss).length ≤ 1005 := by
  unfold spO
  repeat' split
  · refine ⟨fun x hx => ?_, by rw [tot_app]; have : tot [([97, 10, 98] : List Int)] = 3 := rfl; omega, by simp; omega⟩
    rcases List.mem_append.1 hx with hx | hx
    · exact h x hx
    · rw [List.mem_singleton] at hx
      subst hx
      exact bytes_of_mem (by decide)
  · refine ⟨fun x hx => ?_, by rw [tot_app, mny_tot _ _ (by omega)]; omega, by rw [List.length_append, mny_len]; omega⟩
    rcases List.mem_append.1 hx with hx | hx
    · exact h x hx
    · exact mny_bytes _ _ x hx
  · refine ⟨fun x hx => ?_, by rw [tot_app, mny_tot _ _ (by omega)]; omega, by rw [List.length_append, mny_len]; omega⟩
    rcases List.mem_append.1 hx with hx | hx
    · exact h x hx
    · exact mny_bytes _ _ x hx
  · exact ⟨h, by omega, by omega⟩
/-- The bounds of what is drawn. -/
structure InOk (B O : List (List Int)) : Prop where
  b : ∀ x ∈ B, Bytes x
  o : ∀ x ∈ O, Bytes x
  t1 : tot B ≤ 1048576
  l1 : B.length ≤ 1048576
  t2 : tot O ≤ 1048576
  l2 : O.length ≤ 1048576
theorem dA_ok {E : Nat → List (List Int) → List Int} (hE : EncE E) (xs : List Int) (h : Cod xs) : InOk (dA E xs).1 (dA E xs).2.1 ∧ Cod (dA E xs).2.2 := by
  obtain ⟨h1, h2, ⟨h3, h4, h5⟩, h6⟩ := dS_ok hE xs.tail h.tail
  have hb : ∀ x ∈ dSegs E (dS xs.tail).1, Bytes x ∧ x.length ≤ 10004 := fun x hx => ⟨(h2 x hx).1, (h2 x hx).2.2⟩
  have hl : (dSegs E (dS xs.tail).1).length ≤ 5 := by rw [show (dSegs E (dS xs.tail).1).length = (dS xs.tail).1.length from List.length_map _]; exact h1
  have ho : ∀ x ∈ (dS xs.tail).2.1, Bytes x := fun x hx => bytes_of_mem (h5 x hx)
  unfold dA
  split
  · exact ⟨⟨fun x hx => absurd hx List.not_mem_nil, fun x hx => absurd hx List.not_mem_nil, Nat.zero_le _, Nat.zero_le _, Nat.zero_le _, Nat.zero_le _⟩, h.tail⟩
  · split
    · obtain ⟨q1, q2⟩ := spB_ok ((dS xs.tail).2.2.headD 0 % 7).toNat ((dS xs.tail).2.2.tail.headD 0).toNat hb hl
      obtain ⟨q3, q4, q5⟩ := spO_ok ((dS xs.tail).2.2.headD 0 % 7).toNat ((dS xs.tail).2.2.tail.headD 0).toNat (dSegs E (dS xs.tail).1) ho h4 h3
      have q6 := tot_le (fun x hx => (q1 x hx).2)
      exact ⟨⟨fun x hx => (q1 x hx).1, q3, by dsimp only at q6 ⊢; omega, by dsimp only; omega, by dsimp only; omega, by dsimp only; omega⟩, h6.tail.tail⟩
    · have q6 := tot_le (fun x hx => (hb x hx).2)
      exact ⟨⟨fun x hx => (hb x hx).1, ho, by dsimp only at q6 ⊢; omega, by dsimp only; omega, by dsimp only; omega, by dsimp only; omega⟩, h6⟩
theorem near_ok {E : Nat → List (List Int) → List Int} (hE : EncE E) (n t c : Nat) (hn : 1 ≤ n) (hn2 : n ≤ 1000) (ht : t ≤ 20000) (hc : 1 ≤ c) (hc2 : c ≤ n) : InOk [E 0 ((mny n t).take c)] ((mny n t).drop c) := by
  have hf := mny_fits n t c hn hn2 ht hc hc2
  obtain ⟨q1, q2, q3, q4⟩ := hE.ok hf (fun x hx => mny_bytes n t x (List.mem_of_mem_take hx))
  have h1 := mny_tot n t hn
  have h2 := tot_drop (mny n t) c
  have h3 := mny_len n t
  refine ⟨fun x hx => ?_, fun x hx => mny_bytes n t x (List.mem_of_mem_drop hx), ?_, by simp, by omega, by rw [List.length_drop]; omega⟩
  · rw [List.mem_singleton] at hx
    rw [hx]
    exact q1
  · have e : tot [E 0 ((mny n t).take c)] = (E 0 ((mny n t).take c)).length := by simp [Go.Proofs.YthgnefdefjannaaGreat.tot]
    omega
theorem near_ok0 (n t : Nat) (hn : 1 ≤ n) (hn2 : n ≤ 1000) (ht : t ≤ 20000) : InOk [] (mny n t) := by
  have h1 := mny_tot n t hn
  have h3 := mny_len n t
  exact ⟨fun x hx => absurd hx List.not_mem_nil, mny_bytes n t, Nat.zero_le _, Nat.zero_le _, by omega, by omega⟩
/-- l5near, whatever is drawn. -/
theorem l5near_ex (E : Nat → List (List Int) → List Int) (hE : EncE E) (xs : List Int) (hx : Cod xs) : ∃ (B O : List (List Int)) (n t : Nat), ((n = 996 ∧ t = 700) ∨ (n = 30 ∧ t = 19960)) ∧ InOk B O ∧ ∀ (N D : Nat) (w : World), CdAt N D w xs → D < w.heap.size → Calls Tryz.prog 11 #[.pointer (some ⟨D, 0, none⟩)] w (NrOut w.heap.size N D w xs.tail.tail B O n t) := by
  have hh := hx.head
  have hh2 := hx.tail.head
  obtain ⟨c, hc⟩ : ∃ c : Nat, xs.tail.headD 0 * 3 = (c : Int) := ⟨(xs.tail.headD 0 * 3).toNat, by omega⟩
  rcases (show xs.headD 0 % 2 = 0 ∨ xs.headD 0 % 2 = 1 by omega) with hk | hk
  · by_cases h1 : 0 < c ∧ c < 996
    · exact ⟨_, _, 996, 700, Or.inl ⟨rfl, rfl⟩, near_ok hE 996 700 c (by omega) (by omega) (by omega) (by omega) (by omega), fun N D w h hD => l5near_0c E hE N D c xs w h hx hD hk hc h1.1 h1.2⟩
    · exact ⟨_, _, 996, 700, Or.inl ⟨rfl, rfl⟩, near_ok0 996 700 (by omega) (by omega) (by omega), fun N D w h hD => l5near_0n E hE N D c xs w h hx hD hk hc h1⟩
  · by_cases h1 : 0 < c ∧ c < 30
    · exact ⟨_, _, 30, 19960, Or.inr ⟨rfl, rfl⟩, near_ok hE 30 19960 c (by omega) (by omega) (by omega) (by omega) (by omega), fun N D w h hD => l5near_1c E hE N D c xs w h hx hD hk hc h1.1 h1.2⟩
    · exact ⟨_, _, 30, 19960, Or.inr ⟨rfl, rfl⟩, near_ok0 30 19960 (by omega) (by omega) (by omega), fun N D w h hD => l5near_1n E hE N D c xs w h hx hD hk hc h1⟩

end Go.Proofs.YthgnefdefjannaaGreat
