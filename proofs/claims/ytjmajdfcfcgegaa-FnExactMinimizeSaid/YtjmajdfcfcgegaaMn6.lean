import Derived.Test.YtjmajdfcfcgegaaMn5
namespace Go.Proofs.Ytjmajdfcfcgegaa

/-- The table that the lists of a DFA are. -/
def tb (xs ys : List Int) (zs : List Bool) (nc : Int) : Tb := ⟨zs.length, nc.toNat, fun b => (xs[b]?.getD 0).toNat, fun q c => (ys[q * nc.toNat + c]?.getD 0).toNat, fun q => zs[q]?.getD false⟩

theorem top_met {xs : List Int} : ∀ b : Nat, (∀ j : Nat, j < b → 0 ≤ xs[j]?.getD 0 ∧ xs[j]?.getD 0 ≤ top xs j + 1) → ∀ c : Int, 0 ≤ c → c ≤ top xs b → ∃ b', b' < b ∧ xs[b']?.getD 0 = c := by
  intro b
  induction b with
  | zero => intro _ c h0 h1; simp only [top] at h1; omega
  | succ b ih =>
    intro h c h0 h1
    have h2 := h b (by omega)
    by_cases he : xs[b]?.getD 0 = c
    · exact ⟨b, by omega, he⟩
    · have hc : c ≤ top xs b := by
        simp only [top] at h1
        split at h1 <;> omega
      obtain ⟨b', k1, k2⟩ := ih (fun j hj => h j (by omega)) c h0 hc
      exact ⟨b', by omega, k2⟩

theorem TabOk.wf {xs ys : List Int} {zs : List Bool} {nc : Int} (h : TabOk xs ys zs nc) : (tb xs ys zs nc).Wf where
  pos := by have := h.st.1; simp only [tb]; omega
  cls := fun b hb => by have := h.cls hb; have := h.hn; simp only [tb]; omega
  nxt := fun q c hq hc => by
    simp only [tb] at hq hc ⊢
    have hl : ys.length = zs.length * nc.toNat := by
      have h1 := h.nx
      have h2 : nc = (nc.toNat : Int) := by have := h.hn; omega
      rw [h2] at h1
      exact_mod_cast h1
    have := h.to (q * nc.toNat + c) (by rw [hl]; exact row_in hq hc)
    omega
theorem TabOk.len {xs ys : List Int} {zs : List Bool} {nc : Int} (h : TabOk xs ys zs nc) : ys.length = zs.length * nc.toNat := by
  have h1 := h.nx
  have h2 : nc = (nc.toNat : Int) := by have := h.hn; omega
  rw [h2] at h1
  exact_mod_cast h1
theorem TabOk.clUp {xs ys : List Int} {zs : List Bool} {nc : Int} (h : TabOk xs ys zs nc) : ∀ b, b < 256 → ∀ c, c < (tb xs ys zs nc).cl b → ∃ b', b' < b ∧ (tb xs ys zs nc).cl b' = c := by
  intro b hb c hc
  simp only [tb] at hc ⊢
  have h1 := h.up b hb
  obtain ⟨b', k1, k2⟩ := top_met b (fun j hj => h.up j (by omega)) c (by omega) (by omega)
  exact ⟨b', k1, by rw [k2]; omega⟩
theorem TabOk.full {xs ys : List Int} {zs : List Bool} {nc : Int} (h : TabOk xs ys zs nc) : (tb xs ys zs nc).Full := by
  intro c hc
  simp only [tb] at hc ⊢
  have h1 := h.tp
  obtain ⟨b', k1, k2⟩ := top_met 256 h.up c (by omega) (by omega)
  exact ⟨b', k1, by rw [k2]; omega⟩

/-- The program's way: what is reached, one state for all that are alike, one class for all that are alike. -/
structure ProgT (A : Tb) (o ys : List Nat) (m : Nat) (num F : Nat → Nat) (k : Nat) (mg G : Nat → Nat) : Prop where
  wf : A.Wf
  up : ∀ b, b < 256 → ∀ c, c < A.cl b → ∃ b', b' < b ∧ A.cl b' = c
  full : A.Full
  bfs : Bfs A.k A.nx 0 o ys
  len : ys.length = o.length * A.k
  num1 : Num1 o.length m num F
  tel : ∀ p q, p < o.length → q < o.length → (num p = num q ↔ Tel (bfsT A.k A.cl A.ac o ys) (bfsT A.k A.cl A.ac o ys) p q)
  num2 : Num1 A.k k mg G
  sm : ∀ c c', c < A.k → c' < A.k → (mg c = mg c' ↔ ∀ q, q < m → (mrgS (bfsT A.k A.cl A.ac o ys) m num F).nx q c = (mrgS (bfsT A.k A.cl A.ac o ys) m num F).nx q c')

theorem bfs_tel {A : Tb} {o ys : List Nat} (hw : A.Wf) (h : Bfs A.k A.nx 0 o ys) (hl : ys.length = o.length * A.k) : Tel (bfsT A.k A.cl A.ac o ys) A 0 0 := fun w hwd => by
  have := bfs_run h hl (cl := A.cl) (ac := A.ac) hw.cls w 0 0 h.z hwd
  show (o[_]?.map A.ac).getD false = _
  rw [this]; rfl

def ProgT.out (A : Tb) (o ys : List Nat) (m : Nat) (num F : Nat → Nat) (k : Nat) (mg G : Nat → Nat) : Tb := mrgC (mrgS (bfsT A.k A.cl A.ac o ys) m num F) k mg G
theorem ProgT.canon {A : Tb} {o ys : List Nat} {m : Nat} {num F : Nat → Nat} {k : Nat} {mg G : Nat → Nat} (h : ProgT A o ys m num F k mg G) : Canon2 (ProgT.out A o ys m num F k mg G) :=
  mrgC_canon (mrgS_pre (bfs_pre h.bfs h.len h.wf.cls h.up h.full) h.num1 h.tel) (mrgS_min (bfs_pre h.bfs h.len h.wf.cls h.up h.full) h.num1 h.tel) h.num2 h.sm
theorem ProgT.start {A : Tb} {o ys : List Nat} {m : Nat} {num F : Nat → Nat} {k : Nat} {mg G : Nat → Nat} (h : ProgT A o ys m num F k mg G) : Tel (ProgT.out A o ys m num F k mg G) A 0 0 := by
  have hp := bfs_pre (ac := A.ac) h.bfs h.len h.wf.cls h.up h.full
  have hz := (h.num1.zero h.bfs.pos)
  have t1 := mrgC_tel (mrgS_pre hp h.num1 h.tel) h.num2 h.sm (s := 0) hz.2.2
  have t2 := mrgS_tel hp h.num1 h.tel (s := 0) h.bfs.pos
  rw [hz.1] at t2
  exact t1.trans (t2.trans (bfs_tel h.wf h.bfs h.len))

/-- The lists of a table. -/
def clL (A : Tb) : List Int := (List.range 256).map fun b => (A.cl b : Int)
def nxL (A : Tb) : List Int := (List.range (A.n * A.k)).map fun t => (A.nx (t / A.k) (t % A.k) : Int)
def acL (A : Tb) : List Bool := (List.range A.n).map A.ac
theorem canon_lists {A B : Tb} (hA : Canon2 A) (hB : Canon2 B) (h0 : Tel A B 0 0) : clL A = clL B ∧ A.k = B.k ∧ nxL A = nxL B ∧ acL A = acL B := by
  obtain ⟨h1, h2, h3, h4, h5⟩ := canon_one hA hB h0
  refine ⟨?_, h2, ?_, ?_⟩
  · refine List.map_congr_left fun b hb => ?_
    rw [h3 b (List.mem_range.mp hb)]
  · simp only [nxL, ← h1, ← h2]
    refine List.map_congr_left fun t ht => ?_
    have ht := List.mem_range.mp ht
    have hk : 0 < A.k := by
      apply Nat.pos_of_ne_zero
      intro he
      rw [he] at ht
      simp at ht
    rw [h4 (t / A.k) (t % A.k) ((Nat.div_lt_iff_lt_mul hk).mpr ht) (Nat.mod_lt _ hk)]
  · simp only [acL, ← h1]
    exact List.map_congr_left fun q hq => h5 q (List.mem_range.mp hq)

/-- Both sides' tables are one. -/
theorem same_lists {A : Tb} {o ys : List Nat} {m : Nat} {num F : Nat → Nat} {k : Nat} {mg G : Nat → Nat} {P : Nat → Nat} {k' : Nat} {cls rep : Nat → Nat} {o' ys' : List Nat} (h : ProgT A o ys m num F k mg G) (g : SpecT A P k' cls rep o' ys') :
    clL (ProgT.out A o ys m num F k mg G) = clL (bfsT k' cls A.ac o' ys') ∧ k = k' ∧ nxL (ProgT.out A o ys m num F k mg G) = nxL (bfsT k' cls A.ac o' ys') ∧ acL (ProgT.out A o ys m num F k mg G) = acL (bfsT k' cls A.ac o' ys') :=
  canon_lists h.canon g.canon (h.start.trans g.start.symm)

end Go.Proofs.Ytjmajdfcfcgegaa
