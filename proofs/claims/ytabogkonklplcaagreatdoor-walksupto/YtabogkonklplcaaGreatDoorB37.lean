import Derived.Test.YtabogkonklplcaaGreatDoorB29

/- Plain mathematics: a node is within another one just where it is among all that one has. -/
namespace Go.Proofs.YtabogkonklplcaaGreatDoor
open Go.RowKit
set_option linter.unusedSimpArgs false
set_option linter.unusedVariables false

theorem all_kid {s : List Nd} (wf : WF s) {h : Nat → Nat} {B : Nat} (u : Up s h B) : ∀ (k e p d : Nat), h e < k → p ∈ allF s k e → d ∈ kidsOf s p → d ∈ allF s k e := by
  intro k
  induction k with
  | zero => intro e p d he; omega
  | succ k ih =>
    intro e p d he hp hd
    simp only [allF, List.mem_cons, List.mem_flatMap] at hp ⊢
    rcases hp with rfl | ⟨c, hc, hp⟩
    · obtain ⟨x, hx, hdx⟩ := kidsOf_mem hd
      have hh := (wf.kid_lt u hx hdx).2
      refine .inr ⟨d, hd, ?_⟩
      obtain ⟨k', rfl⟩ : ∃ k', k = k' + 1 := ⟨k - 1, by omega⟩
      simp [allF]
    · obtain ⟨x, hx, hcx⟩ := kidsOf_mem hc
      have hh := (wf.kid_lt u hx hcx).2
      exact .inr ⟨c, hc, ih c p d (by omega) hp hd⟩

theorem all_of_climb {s : List Nd} (wf : WF s) {h : Nat → Nat} {B : Nat} (u : Up s h B) (k e : Nat) (he : h e < k) : ∀ (m d : Nat), d < s.length → climb s m d = (e : Int) → d ∈ allF s k e := by
  intro m
  induction m with
  | zero =>
    intro d hd hc
    have : d = e := by simp [climb] at hc; omega
    subst this
    obtain ⟨k', rfl⟩ : ∃ k', k = k' + 1 := ⟨k - 1, by omega⟩
    simp [allF]
  | succ m ih =>
    intro d hd hc
    have hx : s[d]? = some s[d] := List.getElem?_eq_getElem hd
    generalize s[d] = x at hx
    have e1 : climb s 1 d = x.p := by rw [climb_step (j := 0) (e := d) rfl]; simp [parOf, hx]
    rcases wf.par d x hx with hp | ⟨i, y, hp, hy, hdy⟩
    · exfalso
      have hneg : ∀ k, climb s (k + 1) d < 0 := by
        intro k
        induction k with
        | zero => rw [show (0 + 1) = 1 from rfl, e1]; omega
        | succ k ih2 => simp [climb] at ih2 ⊢; omega
      have := hneg m
      omega
    · rw [hp] at e1
      have e2 := climb_add e1 m
      rw [Nat.add_comm 1 m, hc] at e2
      exact all_kid wf u k e i d he (ih i (List.getElem?_eq_some_iff.1 hy).1 e2.symm) (by rw [kidsOf_eq hy]; exact hdy)

theorem within_cases {s : List Nd} (wf : WF s) {h : Nat → Nat} {B : Nat} (u : Up s h B) (o : Nat) : ∀ (N i : Nat), B + 1 - h i ≤ N → i < s.length → (∃ m, climb s m i = (o : Int)) ∨ Lim (fun c => withinF s c (i : Int) (o : Int)) false := by
  intro N
  induction N with
  | zero => intro i hi; have := u.le i; omega
  | succ N ih =>
    intro i hi hl
    by_cases hio : i = o
    · exact .inl ⟨0, by simp [climb, hio]⟩
    · have hx : s[i]? = some s[i] := List.getElem?_eq_getElem hl
      generalize s[i] = x at hx
      have e1 : climb s 1 i = x.p := by rw [climb_step (j := 0) (e := i) rfl]; simp [parOf, hx]
      rcases wf.par i x hx with hp | ⟨q, y, hp, hy, hdy⟩
      · exact .inr (within_up s i x o hx (by omega) (by rw [hp]; exact within_end s _ _ (by omega)))
      · have hh := (u.par i x hx (by omega)).2
        rw [hp] at hh e1
        simp at hh
        have hb := u.le q
        have hc := u.le i
        rcases ih q (by omega) (List.getElem?_eq_some_iff.1 hy).1 with ⟨m, hm⟩ | hf
        · exact .inl ⟨1 + m, by rw [climb_add e1 m]; exact hm⟩
        · exact .inr (within_up s i x o hx (by omega) (by rw [hp]; exact hf))

theorem holds_yes {s : List Nd} (wf : WF s) {k n d : Nat} (hd : d < s.length) (hm : d ∈ allF s k n) : Lim (fun c => withinF s c (d : Int) (n : Int)) true := by
  obtain ⟨h, B, u⟩ := wf.up
  obtain ⟨j, hj⟩ := all_climb wf k n d hm
  exact within_true_of_climb u j d n hd hj

theorem holds_no {s : List Nd} (wf : WF s) {h : Nat → Nat} {B : Nat} (u : Up s h B) {k n d : Nat} (hd : d < s.length) (hk : h n < k) (hm : d ∉ allF s k n) : Lim (fun c => withinF s c (d : Int) (n : Int)) false := by
  rcases within_cases wf u n _ d (Nat.le_refl _) hd with ⟨m, hc⟩ | hf
  · exact absurd (all_of_climb wf u k n hk m d hd hc) hm
  · exact hf

end Go.Proofs.YtabogkonklplcaaGreatDoor
