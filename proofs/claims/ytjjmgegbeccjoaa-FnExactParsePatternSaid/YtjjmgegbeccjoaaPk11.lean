import Derived.Test.YtjjmgegbeccjoaaPk4
import Derived.Test.YtjjmgegbeccjoaaPk9
namespace Go.Proofs.Ytjjmgegbeccjoaa
open Go.RowKit

/-- The greatest class of the first b bytes, -1 if there is none. -/
def top (xs : List Int) : Nat → Int
  | 0 => -1
  | b + 1 => if top xs b < xs[b]?.getD 0 then xs[b]?.getD 0 else top xs b

structure TabOk (xs ys : List Int) (zs : List Bool) (nc : Int) : Prop where
  st : 1 ≤ zs.length ∧ zs.length ≤ 1024
  hn : 1 ≤ nc ∧ nc ≤ 256
  cl : xs.length = 256
  up : ∀ b : Nat, b < 256 → 0 ≤ xs[b]?.getD 0 ∧ xs[b]?.getD 0 ≤ top xs b + 1
  tp : top xs 256 = nc - 1
  nx : (ys.length : Int) = zs.length * nc
  to : ∀ i : Nat, i < ys.length → 0 ≤ ys[i]?.getD 0 ∧ ys[i]?.getD 0 < zs.length

theorem top_bd (xs : List Int) : ∀ b : Nat, (∀ j : Nat, j < b → 0 ≤ xs[j]?.getD 0 ∧ xs[j]?.getD 0 ≤ top xs j + 1) → -1 ≤ top xs b ∧ top xs b < b := by
  intro b
  induction b with
  | zero => intro _; simp [top]
  | succ b ih =>
    intro h
    have h1 := ih (fun j hj => h j (by omega))
    have h2 := h b (by omega)
    simp only [top]
    split <;> omega

theorem top_mono (xs : List Int) (a : Nat) : ∀ b : Nat, a ≤ b → top xs a ≤ top xs b := by
  intro b
  induction b with
  | zero => intro h; obtain rfl : a = 0 := by omega
            exact Int.le_refl _
  | succ b ih =>
    intro h
    by_cases e : a = b + 1
    · subst e; exact Int.le_refl _
    · have h1 := ih (by omega)
      simp only [top]
      split <;> omega

theorem top_ge (xs : List Int) (b : Nat) : xs[b]?.getD 0 ≤ top xs (b + 1) := by simp only [top]; split <;> omega

theorem TabOk.cls {xs ys : List Int} {zs : List Bool} {nc : Int} (h : TabOk xs ys zs nc) {b : Nat} (hb : b < 256) : 0 ≤ xs[b]?.getD 0 ∧ xs[b]?.getD 0 < nc := by
  have h1 := top_ge xs b
  have h2 := top_mono xs (b + 1) 256 (by omega)
  have h3 := h.tp
  have h4 := h.up b hb
  omega

theorem w64 {n : Int} (h0 : 0 ≤ n) (h1 : n ≤ 1000000) : wrap64 n = n := by unfold wrap64; omega


/-- The state behind n bytes. -/
def stt (xs ys bs : List Int) (nc : Int) : Nat → Int
  | 0 => 0
  | n + 1 => ys[(stt xs ys bs nc n * nc + xs[(bs[n]?.getD 0).toNat]?.getD 0).toNat]?.getD 0
def trace (xs ys bs : List Int) (nc : Int) (n : Nat) : List Int := (List.range n).map (stt xs ys bs nc)
theorem trace_len (xs ys bs : List Int) (nc : Int) (n : Nat) : (trace xs ys bs nc n).length = n := by simp [trace]
theorem trace_get (xs ys bs : List Int) (nc : Int) (n i : Nat) (h : i < n) : (trace xs ys bs nc n)[i]?.getD 0 = stt xs ys bs nc i := by simp [trace, h]
theorem trace_succ (xs ys bs : List Int) (nc : Int) (n : Nat) : trace xs ys bs nc (n + 1) = trace xs ys bs nc n ++ [stt xs ys bs nc n] := by simp [trace, List.range_succ]

theorem idx_bd {s c nc S : Int} (s0 : 0 ≤ s) (s1 : s < S) (c0 : 0 ≤ c) (c1 : c < nc) (hn : nc ≤ 256) (hS : S ≤ 1024) : 0 ≤ s * nc ∧ s * nc ≤ 262144 ∧ s * nc + c < S * nc := by
  have h1 : 0 ≤ s * nc := Int.mul_nonneg s0 (by omega)
  have h2 : s * nc + nc ≤ S * nc := by
    have : (s + 1) * nc ≤ S * nc := Int.mul_le_mul_of_nonneg_right (by omega) (by omega)
    rw [Int.add_mul, Int.one_mul] at this
    exact this
  have h3 : s * nc ≤ 1024 * 256 := Int.mul_le_mul (by omega) (by omega) (by omega) (by omega)
  omega

theorem stt_bd {xs ys bs : List Int} {zs : List Bool} {nc : Int} (h : TabOk xs ys zs nc) (hb : ∀ i : Nat, 0 ≤ bs[i]?.getD 0 ∧ bs[i]?.getD 0 ≤ 255) : ∀ n : Nat, 0 ≤ stt xs ys bs nc n ∧ stt xs ys bs nc n < zs.length := by
  intro n
  induction n with
  | zero => have := h.st; simp [stt]; omega
  | succ n ih =>
    have hc := h.cls (b := (bs[n]?.getD 0).toNat) (by have := hb n; omega)
    have hi := idx_bd ih.1 ih.2 hc.1 hc.2 h.hn.2 (by have := h.st; omega)
    have hx := h.nx
    simp only [stt]
    exact h.to _ (by omega)

/-- What the run of a table answers. -/
def RunRet (e : Ending) (w w' : World) (xs ys bs : List Int) (zs : List Bool) (nc : Int) : Prop :=
  (¬ TabOk xs ys zs nc ∧ e = .returned (.tuple #[.bool false, .slice none 0 0])) ∨
  (TabOk xs ys zs nc ∧ ∃ v, e = .returned (.tuple #[.bool (zs[(stt xs ys bs nc bs.length).toNat]?.getD false), v]) ∧ SlW mI 0 w.heap.size w'.heap.size w' v (trace xs ys bs nc (bs.length + 1)))

/-- One state more. -/
theorem run_step {xs ys bs : List Int} {nc : Int} {n : Nat} {w1 wr w2 : World} {tv v' : Value} {o : Obj} {q : Nat} (hown : wr.ownsRow w1.heap.size 3 1 tv n ((trace xs ys bs nc n).map mI)) (hb : Below w1.heap.size w1 wr)
    (h1 : w2.ownsRow w1.heap.size 3 1 v' (n + 1) ((trace xs ys bs nc n).map mI ++ [.int .i64 (stt xs ys bs nc n)])) (hg : ((wr.drewN q).alloc o).grownBy w2 tv.ownBlock) :
    w2.ownsRow w1.heap.size 3 1 v' (n + 1) ((trace xs ys bs nc (n + 1)).map mI) ∧ Below w1.heap.size w1 w2 := by
  refine ⟨by rw [trace_succ, List.map_append]; exact h1, ((below_drewN hb q).alloc hb.size o).grown hg (by rw [sz_alloc]; exact Nat.le_succ_of_le hb.size) (fun k hk => (hown.lt k hk).1)⟩

end Go.Proofs.Ytjjmgegbeccjoaa
