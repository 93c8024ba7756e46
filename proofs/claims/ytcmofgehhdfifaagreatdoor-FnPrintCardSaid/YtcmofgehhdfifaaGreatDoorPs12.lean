import Derived.Test.YtcmofgehhdfifaaGreatDoorPk18
import Derived.Test.YtcmofgehhdfifaaGreatDoorPs11f
import Derived.Test.YtcmofgehhdfifaaGreatDoorPs11g
namespace Go.Proofs.YtcmofgehhdfifaaGreatDoor
open Go.RowKit
theorem bdS_all : ∀ (n : Nat) (ts : List Tk), ts.length ≤ n → ts.length ≤ 100000 → wl 0 ts = some 0 → (∀ t ∈ ts, TokN t) → BdS ts
  | 0, ts, hn, hl, hw, _ => by
    have h0 : ts = [] := List.eq_nil_of_length_eq_zero (by omega)
    have hnb : NoBar ts := by rw [h0]; exact noBar_nil
    exact bd_empty ts hl hw h0 hnb (by rw [h0]; exact Gr.nil)
  | n + 1, ts, hn, hl, hw, hN => by
    have rec1 : ∀ us : List Tk, us.length < ts.length → wl 0 us = some 0 → (∀ t ∈ us, TokN t) → BdS us := fun us h1 h2 h3 => bdS_all n us (by omega) (by omega) h2 h3
    obtain ⟨B, k, hBI⟩ := barI_ex hw ts.length (Nat.le_refl _)
    rcases bar_or hBI with hnb | ⟨us, vs, e, hu, hv⟩
    · rcases List.eq_nil_or_concat ts with h0 | ⟨body, u, e⟩
      · exact bd_empty ts hl hw h0 hnb (by rw [h0]; exact Gr.nil)
      · rw [List.concat_eq_append] at e
        have hlb : ts.length = body.length + 1 := by rw [e]; simp
        have hwt : wl 0 (body ++ [u]) = some 0 := by rw [← e]; exact hw
        have hNb : ∀ t ∈ body, TokN t := fun t ht => hN t (by rw [e]; simp [ht])
        rcases end_sh hw e hnb with ⟨cs, rfl⟩ | ⟨lo, hi, rfl⟩ | rfl
        · exact bd_set ts hl hw body cs e hnb (rec1 body (by omega) (wl_last hwt (fun _ => rfl)) hNb) hN
        · have hwb : wl 0 body = some 0 := wl_last hwt (fun _ => rfl)
          have hnbb : NoBar body := by rw [e] at hnb; exact hnb.pre
          rcases List.eq_nil_or_concat body with h0 | ⟨pre, u, e2⟩
          · exact bd_bad ts hl hw body lo hi e hnb (.inl h0)
          · rw [List.concat_eq_append] at e2
            have hlp : body.length = pre.length + 1 := by rw [e2]; simp
            have hNp : ∀ t ∈ pre, TokN t := fun t ht => hNb t (by rw [e2]; simp [ht])
            have hwp : wl 0 (pre ++ [u]) = some 0 := by rw [← e2]; exact hwb
            rcases end_sh hwb e2 hnbb with ⟨cs, rfl⟩ | ⟨l, h, rfl⟩ | rfl
            · exact bd_set_rep ts hl hw pre cs lo hi (by rw [e, e2]) hnb (rec1 pre (by omega) (wl_last hwp (fun _ => rfl)) hNp) hN
            · exact bd_bad ts hl hw body lo hi e hnb (.inr ⟨pre, l, h, e2⟩)
            · obtain ⟨p, mid, rfl, h1, h2⟩ := cl_open hwp
              rw [List.length_append, List.length_cons] at hlp
              exact bd_grp_rep ts hl hw p mid lo hi (by rw [e, e2]; simp) hnb (rec1 p (by omega) h1 (fun t ht => hNp t (by simp [ht]))) h2 (rec1 mid (by omega) h2 (fun t ht => hNp t (by simp [ht]))) hN
        · obtain ⟨p, mid, rfl, h1, h2⟩ := cl_open hwt
          rw [List.length_append, List.length_cons] at hlb
          exact bd_grp ts hl hw p mid (by rw [e]; simp) hnb (rec1 p (by omega) h1 (fun t ht => hNb t (by simp [ht]))) h2 (rec1 mid (by omega) h2 (fun t ht => hNb t (by simp [ht]))) hN
    · have hlu : ts.length = us.length + 1 + vs.length := by rw [e]; simp; omega
      have hwv : wl 0 vs = some 0 := by
        have h9 := hw
        rw [e, wl_app, hu, Option.bind_some] at h9
        exact h9
      have hNu : ∀ t ∈ us, TokN t := fun t ht => hN t (by rw [e]; simp [ht])
      have hNv : ∀ t ∈ vs, TokN t := fun t ht => hN t (by rw [e]; simp [ht])
      exact bd_bar ts hl hw us vs e hu hv (rec1 us (by omega) hu hNu) (rec1 vs (by omega) hwv hNv) hNu hNv
theorem l1build_any (v : Value) (ts : List Tk) (w : World) (hv : ElsAt 0 w.heap.size w v (ts.map tkE)) (hl : ts.length ≤ 100000) (hw : wl 0 ts = some 0) (hN : ∀ t ∈ ts, TokN t) :
    Calls Tryz.prog 22 #[v] w fun e w' => BdR e w w' ts :=
  bdS_all _ ts (Nat.le_refl _) hl hw hN v w hv
end Go.Proofs.YtcmofgehhdfifaaGreatDoor
