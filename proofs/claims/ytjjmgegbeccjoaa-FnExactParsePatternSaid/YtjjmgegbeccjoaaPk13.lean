import Derived.Test.YtjjmgegbeccjoaaPk12
import Derived.Test.YtjjmgegbeccjoaaW4
import Derived.Lib.AppendStr
namespace Go.Proofs.Ytjjmgegbeccjoaa
open Go.RowKit

/-- Lists of elements whose numbers lie within 64 bits, with sets of a bounded length. -/
structure Nice (xs : List El) : Prop where
  num : Num xs
  len : ∀ i : Nat, (xs[i]?.getD dE).set.length ≤ 1048576
theorem Nice.nil : Nice [] := ⟨fun i => by simp [dE, In64], fun i => by simp [dE]⟩
theorem Nice.app {a b : List El} (ha : Nice a) (hb : Nice b) : Nice (a ++ b) := by
  refine ⟨fun i => ?_, fun i => ?_⟩
  · by_cases h : i < a.length
    · rw [List.getElem?_append_left h]; exact ha.num i
    · rw [List.getElem?_append_right (by omega)]; exact hb.num _
  · by_cases h : i < a.length
    · rw [List.getElem?_append_left h]; exact ha.len i
    · rw [List.getElem?_append_right (by omega)]; exact hb.len _
theorem Nice.op (k mn mx : Int) (h1 : In64 k) (h2 : In64 mn) (h3 : In64 mx) : Nice [⟨k, [], mn, mx⟩] := by
  refine ⟨fun i => ?_, fun i => ?_⟩
  · cases i with
    | zero => exact ⟨h1, h2, h3, fun j => by simp [In64]⟩
    | succ i => simp [dE, In64]
  · cases i with
    | zero => simp
    | succ i => simp [dE]
theorem GrowE.els {base : Nat} {w : World} {v : Value} {xs : List El} (h : GrowE base w v xs) (hn : Nice xs) : ElsAt 0 w.heap.size w v xs := h.foot.at (fun _ hk => hk.2) hn.num


/-- A string, as the list of its bytes. -/
def StrB (s : ByteArray) (xs : List Int) : Prop := Go.Lib.strCells s = xs.map mB
/-- A digit of sixteen. -/
def hexd (d : Int) : Int := if d < 10 then 48 + d else 87 + d
def spcL : List Int := [92, 46, 91, 93, 40, 41, 124, 42, 43, 63, 123, 125, 94, 36]
/-- The text of a byte. -/
def byT (b : Int) : List Int :=
  if b = 10 then [92, 110] else if b = 9 then [92, 116] else if b = 13 then [92, 114]
  else if b ∈ spcL ∨ b = 45 then [92, b] else if 32 ≤ b ∧ b ≤ 126 then [b] else [92, 120, hexd (b / 16), hexd (b % 16)]
theorem byT_len (b : Int) : (byT b).length ≤ 4 := by
  unfold byT
  repeat' split
  all_goals simp
def rngT (lo hi : Int) : List Int := byT lo ++ (if lo + 1 < hi then [45] else []) ++ (if lo < hi then byT hi else [])
theorem rngT_len (lo hi : Int) : (rngT lo hi).length ≤ 9 := by
  unfold rngT
  have h1 := byT_len lo
  have h2 := byT_len hi
  simp only [List.length_append]
  split <;> split <;> simp <;> omega
def rngsT (xs : List Int) : Nat → List Int
  | 0 => []
  | n + 1 => rngsT xs n ++ rngT (xs[2 * n]?.getD 0) (xs[2 * n + 1]?.getD 0)
theorem rngsT_len (xs : List Int) : ∀ n : Nat, (rngsT xs n).length ≤ 9 * n
  | 0 => by simp [rngsT]
  | n + 1 => by
    have h1 := rngsT_len xs n
    have h2 := rngT_len (xs[2 * n]?.getD 0) (xs[2 * n + 1]?.getD 0)
    simp only [rngsT, List.length_append]
    omega
/-- The text of a set. -/
def setT (xs : List Int) : List Int :=
  if xs = [0, 255] then [91, 94, 93] else if xs = [0, 9, 11, 255] then [46]
  else if xs.length = 2 ∧ xs[0]?.getD 0 = xs[1]?.getD 0 then byT (xs[0]?.getD 0) else 91 :: rngsT xs (xs.length / 2) ++ [93]
theorem setT_len {xs : List Int} (h : xs.length ≤ 300) : (setT xs).length ≤ 1500 := by
  unfold setT
  have h1 := byT_len (xs[0]?.getD 0)
  have h2 := rngsT_len xs (xs.length / 2)
  split
  · simp
  · split
    · simp
    · split
      · omega
      · simp only [List.length_append, List.length_cons, List.length_nil]; omega
def decT (v : Int) : List Int := if v < 10 then [48 + v] else if v < 100 then [48 + v / 10, 48 + v % 10] else [48 + v / 100, 48 + v / 10 % 10, 48 + v % 10]
theorem decT_len (v : Int) : (decT v).length ≤ 3 := by
  unfold decT
  repeat' split
  all_goals simp
/-- The text of a repetition's bounds. -/
def repT (lo hi : Int) : List Int :=
  if lo = 0 ∧ hi = -1 then [42] else if lo = 1 ∧ hi = -1 then [43] else if lo = 0 ∧ hi = 1 then [63]
  else if hi = -1 then 123 :: decT lo ++ [44, 125] else if lo = hi then 123 :: decT lo ++ [125] else 123 :: decT lo ++ 44 :: decT hi ++ [125]
theorem repT_len (lo hi : Int) : (repT lo hi).length ≤ 9 := by
  unfold repT
  have h1 := decT_len lo
  have h2 := decT_len hi
  repeat' split
  all_goals simp only [List.length_append, List.length_cons, List.length_nil, List.cons_append]
  all_goals omega
/-- In parentheses, where it must. -/
def grp (p : Prop) [Decidable p] (t : List Int) : List Int := if p then 40 :: t ++ [41] else t
theorem grp_len (p : Prop) [Decidable p] (t : List Int) : (grp p t).length ≤ t.length + 2 := by
  unfold grp
  split
  · simp
  · omega
abbrev Tx := Int × List Int
def repX2 (o : Tx) (mn mx : Int) : Tx := (4, grp (2 ≤ o.1) o.2 ++ repT mn mx)
def catX2 (l r : Tx) : Tx := (2, grp (l.1 = 3) l.2 ++ grp (r.1 = 3 ∨ r.1 = 2) r.2)
def altX2 (l r : Tx) : Tx := (3, l.2 ++ 124 :: grp (r.1 = 3) r.2)
/-- The texts on the stack, top first, behind one element more. -/
def tPush (st : List Tx) (x : El) : List Tx :=
  if x.kind = 0 then (0, [40, 41]) :: st else if x.kind = 1 then (1, setT x.set) :: st else
  match st with
  | [] => []
  | [o] => if x.kind = 4 then [repX2 o x.mn x.mx] else [o]
  | r :: l :: b => if x.kind = 4 then repX2 r x.mn x.mx :: l :: b else if x.kind = 2 then catX2 l r :: b else altX2 l r :: b
def tRun (st : List Tx) : List El → List Tx
  | [] => st
  | x :: r => tRun (tPush st x) r
theorem tRun_append (st : List Tx) (a b : List El) : tRun st (a ++ b) = tRun (tRun st a) b := by
  induction a generalizing st with
  | nil => rfl
  | cons x r ih => simp [tRun, ih]
def SegT (seg : List El) (t : Tx) : Prop := ∀ st, tRun st seg = t :: st
theorem SegT.one {a : List El} {s t : Tx} (h : SegT a s) (k : SegT a t) : s = t := by
  have := (h []).symm.trans (k [])
  simpa using this
theorem SegT.e : SegT [⟨0, [], 0, 0⟩] (0, [40, 41]) := fun st => by simp [tRun, tPush]
theorem SegT.s (xs : List Int) : SegT [⟨1, xs, 0, 0⟩] (1, setT xs) := fun st => by simp [tRun, tPush]
theorem SegT.cat {a b : List El} {s t : Tx} (ha : SegT a s) (hb : SegT b t) : SegT (a ++ b ++ [⟨2, [], 0, 0⟩]) (catX2 s t) := fun st => by
  rw [tRun_append, tRun_append, ha, hb]
  simp [tRun, tPush]
theorem SegT.alt {a b : List El} {s t : Tx} (ha : SegT a s) (hb : SegT b t) : SegT (a ++ b ++ [⟨3, [], 0, 0⟩]) (altX2 s t) := fun st => by
  rw [tRun_append, tRun_append, ha, hb]
  simp [tRun, tPush]
theorem SegT.rep {a : List El} {s : Tx} (ha : SegT a s) (mn mx : Int) : SegT (a ++ [⟨4, [], mn, mx⟩]) (repX2 s mn mx) := fun st => by
  rw [tRun_append, ha]
  cases st with
  | nil => simp [tRun, tPush]
  | cons q st => simp [tRun, tPush]

end Go.Proofs.Ytjjmgegbeccjoaa
