import Derived.Test.YtkajdhliejjohaaFc2
import Derived.Test.YtkajdhliejjohaaP3
namespace Go.Proofs.Ytkajdhliejjohaa
open Go.RowKit

/-- The bytes of a string behind a row of one's own. -/
theorem app_strB {w : World} {ops : Array Oper} {rest : List Oper} {o : Oper} {a : Act} {Q : Exit → Act → World → Prop} (hgd : o.guard = none) (s x : Operand)
    (ho : o.op = .call { callee := .builtin .append, args := #[s, x], argTypes := #[22, 9] }) (base : Nat) (ov : Value) (hs : a.eval s = ov) (os : List Int) (hown : w.ownsRow base 5 1 ov os.length (os.map mB)) (hbase : base ≤ w.heap.size)
    (sv : ByteArray) (hx : a.eval x = .string sv) (xs : List Int) (hv : StrOf sv xs) (hlen : os.length + xs.length ≤ 1073741824)
    (h : ∀ v' w', Below base w w' → w'.ownsRow base 5 1 v' (os ++ xs).length ((os ++ xs).map mB) → v'.oneCell' = true → wpList Try.prog ops Q rest (a.put o.dst v') w') : wpList Try.prog ops Q (o :: rest) a w := by
  obtain ⟨i0, hi, hz0, hz1, hz2⟩ := info_parts Try.zinByte
  have hl : sv.size = xs.length := by
    have := congrArg List.length hv
    rw [Go.Lib.strCells_length, List.length_map] at this
    exact this
  refine Go.Lib.wpList_append_own_string w hgd s x 22 9 ho base 5 i0 Try.underlying22 Try.underlying9 hi hz0 hz1 hz2 _ os.length (os.map mB) hs hown sv hx (by rw [hl]; unfold maxLen; omega) (by omega) hbase ?_
  intro v' w' h1 hg _
  have h2 : w'.ownsRow base 5 1 v' (os ++ xs).length ((os ++ xs).map mB) := by rw [List.length_append, List.map_append, ← hl, ← hv]; exact h1
  obtain ⟨oa, oc, rfl⟩ := own_is h2
  exact h _ w' ((Below.refl _ _).grown hg hbase (fun k hk => (hown.lt k hk).1)) h2 rfl

theorem lit_one {w : World} {x : Int} : SlAt mB 0 0 (w.alloc (.cells #[.int .u8 x] 5)).heap.size (w.alloc (.cells #[.int .u8 x] 5)) (.slice (some ⟨w.heap.size, 0, none⟩) 1 1) [x] :=
  own_rdB (base := w.heap.size) (n := 1) (World.ownsRow_lit w #[.int .u8 x] 1 (Nat.le_refl _) (by unfold maxLen; omega) rfl) (by unfold maxLen; omega)

/-- Letters of a code: three to a byte. -/
def lnA : Nat → Nat → Int → List Int → List Int × List Int
  | 0, _, _, xs => ([], xs)
  | m + 1, i, c, xs => if i % 3 = 0 then ((97 + xs.headD 0 % 3) :: (lnA m (i + 1) (xs.headD 0 / 3) xs.tail).1, (lnA m (i + 1) (xs.headD 0 / 3) xs.tail).2) else ((97 + c % 3) :: (lnA m (i + 1) (c / 3) xs).1, (lnA m (i + 1) (c / 3) xs).2)
theorem lnA_ok : ∀ (m i : Nat) (c : Int) (xs : List Int), Cod xs → (lnA m i c xs).1.length = m ∧ Cod (lnA m i c xs).1 ∧ Cod (lnA m i c xs).2
  | 0, _, _, xs, h => ⟨rfl, (fun x hx => absurd hx (List.not_mem_nil)), h⟩
  | m + 1, i, c, xs, h => by
    unfold lnA
    split
    · have := lnA_ok m (i + 1) (xs.headD 0 / 3) xs.tail h.tail
      refine ⟨by simp only [List.length_cons]; omega, fun x hx => ?_, this.2.2⟩
      rcases List.mem_cons.1 hx with rfl | hx
      · omega
      · exact this.2.1 x hx
    · have := lnA_ok m (i + 1) (c / 3) xs h
      refine ⟨by simp only [List.length_cons]; omega, fun x hx => ?_, this.2.2⟩
      rcases List.mem_cons.1 hx with rfl | hx
      · omega
      · exact this.2.1 x hx
def fxB (b : Int) : Int := if b = 10 ∨ b = 126 then 97 else b
/-- Bytes of any kind. -/
def lnB : Nat → List Int → List Int × List Int
  | 0, xs => ([], xs)
  | m + 1, xs => (fxB (dB (xs.headD 0)) :: (lnB m xs.tail).1, (lnB m xs.tail).2)
theorem lnB_ok : ∀ (m : Nat) (xs : List Int), Cod xs → (lnB m xs).1.length = m ∧ Cod (lnB m xs).1 ∧ Cod (lnB m xs).2
  | 0, xs, h => ⟨rfl, (fun x hx => absurd hx (List.not_mem_nil)), h⟩
  | m + 1, xs, h => by
    unfold lnB
    have := lnB_ok m xs.tail h.tail
    refine ⟨by simp only [List.length_cons]; omega, fun x hx => ?_, this.2.2⟩
    rcases List.mem_cons.1 hx with rfl | hx
    · have := dB_byte (y := xs.headD 0)
      unfold fxB
      split <;> omega
    · exact this.2.1 x hx
/-- A line of a code. -/
def dLn (xs : List Int) : List Int × List Int :=
  if xs.headD 0 % 8 < 3 then lnA (xs.tail.headD 0 % 9).toNat 0 0 xs.tail.tail
  else if xs.headD 0 % 8 = 3 then lnB (xs.tail.headD 0 % 5).toNat xs.tail.tail
  else if xs.headD 0 % 8 < 6 then (wdL (xs.tail.headD 0) ++ (if xs.tail.headD 0 / 10 % 2 = 1 then [32] else []) ++ wdL (xs.tail.tail.headD 0), xs.tail.tail.tail)
  else if xs.headD 0 % 8 = 7 then (wdL (xs.tail.headD 0) ++ [48 + xs.tail.headD 0 % 10], xs.tail.tail)
  else (wdL (xs.tail.headD 0), xs.tail.tail)
theorem Cod.app {xs ys : List Int} (h : Cod xs) (k : Cod ys) : Cod (xs ++ ys) := fun x hx => by
  rcases List.mem_append.1 hx with q | q
  · exact h x q
  · exact k x q
theorem dLn_ok (xs : List Int) (h : Cod xs) : (dLn xs).1.length ≤ 20 ∧ Cod (dLn xs).1 ∧ Cod (dLn xs).2 := by
  unfold dLn
  split
  · have := lnA_ok (xs.tail.headD 0 % 9).toNat 0 0 xs.tail.tail h.tail.tail
    exact ⟨by omega, this.2⟩
  · split
    · have := lnB_ok (xs.tail.headD 0 % 5).toNat xs.tail.tail h.tail.tail
      exact ⟨by omega, this.2⟩
    · have h1 := wdL_len (xs.tail.headD 0)
      have h2 := wdL_len (xs.tail.tail.headD 0)
      split
      · refine ⟨?_, ((wdL_byte _).app ?_).app (wdL_byte _), h.tail.tail.tail⟩
        · simp only [List.length_append]
          split <;> simp only [List.length_cons, List.length_nil] <;> omega
        · split
          · intro x hx; simp at hx; omega
          · intro x hx; cases hx
      · split
        · refine ⟨by simp only [List.length_append, List.length_cons, List.length_nil]; omega, (wdL_byte _).app ?_, h.tail.tail⟩
          intro x hx; simp at hx; omega
        · exact ⟨by show (wdL (xs.tail.headD 0)).length ≤ 20; omega, wdL_byte _, h.tail.tail⟩

/-- What a drawing of bytes leaves: the bytes in a row of its own, the rest of the code. -/
def Drawn (N D lo : Nat) (w : World) (r : List Int × List Int) (e : Ending) (w' : World) : Prop := (∃ v, e = .returned v ∧ w'.ownsRow lo 5 1 v r.1.length (r.1.map mB)) ∧ CdAt N D w' r.2 ∧ Mv lo D w w'

end Go.Proofs.Ytkajdhliejjohaa
