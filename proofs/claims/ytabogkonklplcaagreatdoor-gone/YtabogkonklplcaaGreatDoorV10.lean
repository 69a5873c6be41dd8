import Derived.Test.YtabogkonklplcaaGreatDoorV05

namespace Go.Proofs.YtabogkonklplcaaGreatDoor
open Go.RowKit
set_option linter.unusedSimpArgs false
set_option linter.unusedVariables false
theorem wf_push {s : List Nd} (wf : WF s) (h40 : s.length < 40) (x : Nd) (hp : x.p = -1) (hk : x.ks = []) (he : x.t = false → x.cs = []) (hc : x.cs.length ≤ 30 ∧ ∀ c ∈ x.cs, IsCh c) : WF (s ++ [x]) := by
  have old : ∀ {i : Nat} {y : Nd}, (s ++ [x])[i]? = some y → s[i]? = some y ∨ (i = s.length ∧ y = x) := by
    intro i y h
    by_cases hi : i < s.length
    · rw [List.getElem?_append_left hi] at h; exact .inl h
    · rw [List.getElem?_append_right (by omega)] at h
      have h1 := (List.getElem?_eq_some_iff.1 h).1
      simp at h1
      have e : i = s.length := by omega
      subst e
      simp at h
      exact .inr ⟨rfl, h.symm⟩
  have new : ∀ {i : Nat} {y : Nd}, s[i]? = some y → (s ++ [x])[i]? = some y := by
    intro i y h
    rw [List.getElem?_append_left (List.getElem?_eq_some_iff.1 h).1]; exact h
  refine ⟨by simp, by simp; omega, ?_, ?_, ?_, ?_, ?_, ?_, ?_⟩
  · obtain ⟨h, B, u⟩ := wf.up
    refine ⟨h, B, u.le, fun i y hy hyp => ?_⟩
    rcases old hy with hy | ⟨rfl, rfl⟩
    · have := u.par i y hy hyp
      exact ⟨by simp; omega, this.2⟩
    · rw [hp] at hyp; omega
  · intro i y hy c hc2
    rcases old hy with hy | ⟨rfl, rfl⟩
    · obtain ⟨z, hz, hzp⟩ := wf.kid i y hy c hc2
      exact ⟨z, new hz, hzp⟩
    · rw [hk] at hc2; simp at hc2
  · intro c y hy
    rcases old hy with hy | ⟨rfl, rfl⟩
    · rcases wf.par c y hy with h | ⟨i, z, h1, h2, h3⟩
      · exact .inl h
      · exact .inr ⟨i, z, h1, new h2, h3⟩
    · exact .inl hp
  · intro i y hy
    rcases old hy with hy | ⟨rfl, rfl⟩
    · exact wf.nodup i y hy
    · rw [hk]; simp
  · intro y hy
    rcases old hy with hy | ⟨h, rfl⟩
    · exact wf.root y hy
    · exact hp
  · intro i y hy
    rcases old hy with hy | ⟨rfl, rfl⟩
    · exact wf.elem i y hy
    · exact ⟨fun _ => hk, he⟩
  · intro i y hy
    rcases old hy with hy | ⟨rfl, rfl⟩
    · exact wf.chars i y hy
    · exact hc
theorem set2_get {s : List Nd} {i j : Nat} {x y : Nd} (hx : s[i]? = some x) (hy : s[j]? = some y) (hij : i ≠ j) (ks : List Nat) (p : Int) (c : Nat) :
    ((s.set i { x with ks := ks }).set j { y with p := p })[c]? = (s[c]?).map (fun z => if c = j then { z with p := p } else if c = i then { z with ks := ks } else z) := by
  have hi := (List.getElem?_eq_some_iff.1 hx).1
  have hj := (List.getElem?_eq_some_iff.1 hy).1
  rw [List.getElem?_set, List.getElem?_set]
  by_cases h1 : j = c
  · subst h1
    rw [if_pos rfl, if_pos (by simpa using hj), hy]
    simp
  · rw [if_neg h1]
    by_cases h2 : i = c
    · subst h2
      rw [if_pos rfl, if_pos hi, hx]
      have e1 : ¬ i = j := hij
      simp [e1]
    · rw [if_neg h2]
      have e1 : ¬ c = j := fun e => h1 e.symm
      have e2 : ¬ c = i := fun e => h2 e.symm
      simp [e1, e2]
theorem within_true_of_climb {s : List Nd} {h : Nat → Nat} {B : Nat} (u : Up s h B) : ∀ (m d e : Nat), d < s.length → climb s m d = (e : Int) → Lim (fun c => withinF s c (d : Int) (e : Int)) true := by
  intro m
  induction m with
  | zero =>
    intro d e hd he
    have : d = e := by simp [climb] at he; omega
    subst this
    exact within_hit s _ (by omega)
  | succ m ih =>
    intro d e hd he
    by_cases hde : (d : Int) = (e : Int)
    · have : d = e := by omega
      subst this
      exact within_hit s _ (by omega)
    · have hx : s[d]? = some s[d] := List.getElem?_eq_getElem hd
      generalize s[d] = x at hx
      refine within_up s d x e hx hde ?_
      have e1 : climb s 1 d = x.p := by rw [climb_step (j := 0) (e := d) rfl]; simp [parOf, hx]
      by_cases hp : 0 ≤ x.p
      · obtain ⟨q, hq⟩ := Int.eq_ofNat_of_zero_le hp
        rw [hq] at e1 ⊢
        have e2 := climb_add e1 m
        rw [Nat.add_comm 1 m, he] at e2
        have := (u.par d x hx hp).1
        exact ih q e (by omega) e2.symm
      · exfalso
        have hneg : ∀ k, climb s (k + 1) d < 0 := by
          intro k
          induction k with
          | zero => rw [show (0 + 1) = 1 from rfl, e1]; omega
          | succ k ih2 => simp [climb] at ih2 ⊢; omega
        have := hneg m
        omega
theorem wf_insert {s : List Nd} (wf : WF s) {i j k : Nat} {x y : Nd} (h : InsOk s i j x y) (hw : Lim (fun c => withinF s c (i : Int) (j : Int)) false) (hk : k ≤ x.ks.length) :
    i ≠ j ∧ WF ((s.set i { x with ks := x.ks.take k ++ j :: x.ks.drop k }).set j { y with p := i }) := by
  obtain ⟨hx, hy, ht, hj, hyp⟩ := h
  have hil := (List.getElem?_eq_some_iff.1 hx).1
  have hjl := (List.getElem?_eq_some_iff.1 hy).1
  have hij : i ≠ j := by
    intro e
    subst e
    have := (within_hit s (i : Int) (by omega)).unique hw
    cases this
  obtain ⟨ht0, B, u⟩ := wf.up
  have noanc : ∀ m, climb s m i ≠ (j : Int) := by
    intro m e
    have := (within_true_of_climb u m i j hil e).unique hw
    cases this
  have jnot : j ∉ x.ks := by
    intro e
    obtain ⟨z, hz, hzp⟩ := wf.kid i x hx j e
    rw [hy] at hz
    cases hz
    omega
  have get := set2_get hx hy hij (x.ks.take k ++ j :: x.ks.drop k) (i : Int)
  have mem : ∀ c, c ∈ x.ks.take k ++ j :: x.ks.drop k ↔ c = j ∨ c ∈ x.ks := by
    intro c
    conv => rhs; rw [← List.take_append_drop k x.ks]
    simp only [List.mem_append, List.mem_cons]
    constructor
    · rintro (h | h | h) <;> simp [h]
    · rintro (h | h | h) <;> simp [h]
  -- what a node of the new state was
  have was : ∀ {c : Nat} {z' : Nd}, ((s.set i { x with ks := x.ks.take k ++ j :: x.ks.drop k }).set j { y with p := i })[c]? = some z' → ∃ z, s[c]? = some z ∧ z'.t = z.t ∧ z'.cs = z.cs ∧ z'.p = (if c = j then (i : Int) else z.p) ∧ z'.ks = (if c = i then x.ks.take k ++ j :: x.ks.drop k else z.ks) := by
    intro c z' hz'
    rw [get c] at hz'
    obtain ⟨z, hz, rfl⟩ := Option.map_eq_some_iff.1 hz'
    refine ⟨z, hz, ?_⟩
    by_cases e1 : c = j
    · subst e1
      have e2 : ¬ c = i := fun e => hij e.symm
      simp [e2]
    · by_cases e2 : c = i
      · subst e2; simp [e1]
      · simp [e1, e2]
  have now : ∀ {c : Nat} {z : Nd}, s[c]? = some z → ∃ z', ((s.set i { x with ks := x.ks.take k ++ j :: x.ks.drop k }).set j { y with p := i })[c]? = some z' ∧ z'.p = (if c = j then (i : Int) else z.p) ∧ z'.ks = (if c = i then x.ks.take k ++ j :: x.ks.drop k else z.ks) := by
    intro c z hz
    refine ⟨_, by rw [get c, hz]; rfl, ?_⟩
    by_cases e1 : c = j
    · subst e1
      have e2 : ¬ c = i := fun e => hij e.symm
      simp [e2]
    · by_cases e2 : c = i
      · subst e2; simp [e1]
      · simp [e1, e2]
  refine ⟨hij, by simpa using wf.pos, by simpa using wf.cap, ?_, ?_, ?_, ?_, ?_, ?_, ?_⟩
  · classical
    refine ⟨fun d => if ∃ m, climb s m i = (d : Int) then ht0 d + ht0 j + 1 else ht0 d, B + B + 1, fun d => ?_, fun d z' hz' hp' => ?_⟩
    · have h1 := u.le d
      have h2 := u.le j
      split <;> omega
    · obtain ⟨z, hz, _, _, hzp, _⟩ := was hz'
      have hdl := (List.getElem?_eq_some_iff.1 hz).1
      by_cases e1 : d = j
      · subst e1
        rw [if_pos rfl] at hzp
        rw [hzp]
        refine ⟨by simp; omega, ?_⟩
        simp only [Int.toNat_natCast]
        rw [if_neg (by rintro ⟨m, hm⟩; exact noanc m hm), if_pos ⟨0, rfl⟩]
        omega
      · rw [if_neg e1] at hzp
        rw [hzp] at hp' ⊢
        have hu := u.par d z hz hp'
        refine ⟨by simp; omega, ?_⟩
        obtain ⟨q, hq⟩ := Int.eq_ofNat_of_zero_le hp'
        rw [hq] at hu ⊢
        simp only [Int.toNat_natCast] at hu ⊢
        by_cases ha : ∃ m, climb s m i = (d : Int)
        · obtain ⟨m, hm⟩ := ha
          have e2 : climb s (m + 1) i = (q : Int) := by rw [climb_step hm]; simp [parOf, hz, hq]
          rw [if_pos ⟨m, hm⟩, if_pos ⟨m + 1, e2⟩]
          omega
        · rw [if_neg ha]
          split <;> omega
  · intro a z' hz' c hc
    obtain ⟨z, hz, _, _, _, hzk⟩ := was hz'
    rw [hzk] at hc
    by_cases e : a = i
    · subst e
      rw [if_pos rfl, mem] at hc
      rcases hc with rfl | hc
      · obtain ⟨z2, h2, hp2, _⟩ := now hy
        exact ⟨z2, h2, by rw [hp2, if_pos rfl]⟩
      · obtain ⟨z2, h2, hp2⟩ := wf.kid a x hx c hc
        obtain ⟨z3, h3, hp3, _⟩ := now h2
        refine ⟨z3, h3, ?_⟩
        rw [hp3]
        by_cases ec : c = j
        · subst ec; exact absurd hc jnot
        · rw [if_neg ec]; exact hp2
    · rw [if_neg e] at hc
      obtain ⟨z2, h2, hp2⟩ := wf.kid a z hz c hc
      obtain ⟨z3, h3, hp3, _⟩ := now h2
      refine ⟨z3, h3, ?_⟩
      rw [hp3]
      by_cases ec : c = j
      · subst ec
        rw [hy] at h2
        cases h2
        omega
      · rw [if_neg ec]; exact hp2
  · intro c z' hz'
    obtain ⟨z, hz, _, _, hzp, _⟩ := was hz'
    by_cases e1 : c = j
    · subst e1
      rw [if_pos rfl] at hzp
      obtain ⟨z2, h2, _, hk2⟩ := now hx
      rw [if_pos rfl] at hk2
      exact .inr ⟨i, z2, hzp, h2, by rw [hk2, mem]; exact .inl rfl⟩
    · rw [if_neg e1] at hzp
      rcases wf.par c z hz with hm | ⟨a, z2, h1, h2, h3⟩
      · exact .inl (by rw [hzp]; exact hm)
      · obtain ⟨z3, h4, _, hk3⟩ := now h2
        refine .inr ⟨a, z3, by rw [hzp]; exact h1, h4, ?_⟩
        rw [hk3]
        by_cases ea : a = i
        · subst ea
          rw [if_pos rfl, mem]
          rw [hx] at h2
          cases h2
          exact .inr h3
        · rw [if_neg ea]; exact h3
  · intro a z' hz'
    obtain ⟨z, hz, _, _, _, hzk⟩ := was hz'
    rw [hzk]
    by_cases e : a = i
    · rw [if_pos e]
      have hn := wf.nodup i x hx
      have e2 : x.ks = x.ks.take k ++ x.ks.drop k := (List.take_append_drop k x.ks).symm
      rw [e2, List.nodup_append] at hn
      have j1 : j ∉ x.ks.take k := fun h => jnot (List.mem_of_mem_take h)
      have j2 : j ∉ x.ks.drop k := fun h => jnot (List.mem_of_mem_drop h)
      rw [List.nodup_append, List.nodup_cons]
      refine ⟨hn.1, ⟨j2, hn.2.1⟩, fun p hp q hq => ?_⟩
      rcases List.mem_cons.1 hq with rfl | hq
      · exact fun e => j1 (e ▸ hp)
      · exact hn.2.2 p hp q hq
    · rw [if_neg e]; exact wf.nodup a z hz
  · intro z' hz'
    obtain ⟨z, hz, _, _, hzp, _⟩ := was hz'
    rw [hzp, if_neg (by omega)]
    exact wf.root z hz
  · intro a z' hz'
    obtain ⟨z, hz, hzt, hzc, _, hzk⟩ := was hz'
    rw [hzt, hzc, hzk]
    have he := wf.elem a z hz
    refine ⟨fun h => ?_, he.2⟩
    by_cases e : a = i
    · subst e
      rw [hx] at hz
      cases hz
      rw [ht] at h
      cases h
    · rw [if_neg e]; exact he.1 h
  · intro a z' hz'
    obtain ⟨z, hz, _, hzc, _, _⟩ := was hz'
    rw [hzc]
    exact wf.chars a z hz
theorem wf_remove {s : List Nd} (wf : WF s) {i j m : Nat} {x y : Nd} (hx : s[i]? = some x) (hxp : x.p = (j : Int)) (hy : s[j]? = some y) (hm : y.ks[m]? = some i) :
    i ≠ j ∧ WF ((s.set j { y with ks := y.ks.take m ++ y.ks.drop (m + 1) }).set i { x with p := -1 }) := by
  have hil := (List.getElem?_eq_some_iff.1 hx).1
  have hjl := (List.getElem?_eq_some_iff.1 hy).1
  have hml := (List.getElem?_eq_some_iff.1 hm).1
  obtain ⟨ht0, B, u⟩ := wf.up
  have hij : j ≠ i := by
    intro e
    subst e
    have := (u.par j x hx (by omega)).2
    rw [hxp] at this
    simp at this
  have hn := wf.nodup j y hy
  have split : y.ks = y.ks.take m ++ i :: y.ks.drop (m + 1) := by
    conv => lhs; rw [← List.take_append_drop m y.ks]
    rw [List.drop_eq_getElem_cons hml]
    have : y.ks[m] = i := by rw [List.getElem?_eq_getElem hml] at hm; exact Option.some.inj hm
    rw [this]
  have hn2 := hn
  rw [split, List.nodup_append, List.nodup_cons] at hn2
  have i1 : i ∉ y.ks.take m := fun h => hn2.2.2 i h i (by simp) rfl
  have mem : ∀ c, c ∈ y.ks.take m ++ y.ks.drop (m + 1) ↔ c ≠ i ∧ c ∈ y.ks := by
    intro c
    constructor
    · intro h
      rw [List.mem_append] at h
      refine ⟨?_, ?_⟩
      · rintro rfl
        rcases h with h | h
        · exact i1 h
        · exact hn2.2.1.1 h
      · rcases h with h | h
        · exact List.mem_of_mem_take h
        · exact List.mem_of_mem_drop h
    · rintro ⟨h1, h2⟩
      rw [split] at h2
      simp only [List.mem_append, List.mem_cons] at h2 ⊢
      rcases h2 with h | h | h
      · exact .inl h
      · exact absurd h h1
      · exact .inr h
  have get := set2_get hy hx hij (y.ks.take m ++ y.ks.drop (m + 1)) (-1 : Int)
  have was : ∀ {c : Nat} {z' : Nd}, ((s.set j { y with ks := y.ks.take m ++ y.ks.drop (m + 1) }).set i { x with p := -1 })[c]? = some z' → ∃ z, s[c]? = some z ∧ z'.t = z.t ∧ z'.cs = z.cs ∧ z'.p = (if c = i then (-1 : Int) else z.p) ∧ z'.ks = (if c = j then y.ks.take m ++ y.ks.drop (m + 1) else z.ks) := by
    intro c z' hz'
    rw [get c] at hz'
    obtain ⟨z, hz, rfl⟩ := Option.map_eq_some_iff.1 hz'
    refine ⟨z, hz, ?_⟩
    by_cases e1 : c = i
    · subst e1
      have e2 : ¬ c = j := fun e => hij e.symm
      simp [e2]
    · by_cases e2 : c = j
      · subst e2; simp [e1]
      · simp [e1, e2]
  have now : ∀ {c : Nat} {z : Nd}, s[c]? = some z → ∃ z', ((s.set j { y with ks := y.ks.take m ++ y.ks.drop (m + 1) }).set i { x with p := -1 })[c]? = some z' ∧ z'.p = (if c = i then (-1 : Int) else z.p) ∧ z'.ks = (if c = j then y.ks.take m ++ y.ks.drop (m + 1) else z.ks) := by
    intro c z hz
    refine ⟨_, by rw [get c, hz]; rfl, ?_⟩
    by_cases e1 : c = i
    · subst e1
      have e2 : ¬ c = j := fun e => hij e.symm
      simp [e2]
    · by_cases e2 : c = j
      · subst e2; simp [e1]
      · simp [e1, e2]
  refine ⟨fun e => hij e.symm, by simpa using wf.pos, by simpa using wf.cap, ?_, ?_, ?_, ?_, ?_, ?_, ?_⟩
  · refine ⟨ht0, B, u.le, fun d z' hz' hp' => ?_⟩
    obtain ⟨z, hz, _, _, hzp, _⟩ := was hz'
    by_cases e1 : d = i
    · rw [if_pos e1] at hzp; omega
    · rw [if_neg e1] at hzp
      rw [hzp] at hp' ⊢
      have := u.par d z hz hp'
      exact ⟨by simpa using this.1, this.2⟩
  · intro a z' hz' c hc
    obtain ⟨z, hz, _, _, _, hzk⟩ := was hz'
    rw [hzk] at hc
    have hc2 : c ∈ z.ks ∧ c ≠ i := by
      by_cases e : a = j
      · subst e
        rw [if_pos rfl, mem] at hc
        rw [hy] at hz
        cases hz
        exact ⟨hc.2, hc.1⟩
      · rw [if_neg e] at hc
        refine ⟨hc, ?_⟩
        rintro rfl
        obtain ⟨z2, h2, hp2⟩ := wf.kid a z hz c hc
        rw [hx] at h2
        cases h2
        rw [hxp] at hp2
        exact e (by omega)
    obtain ⟨z2, h2, hp2⟩ := wf.kid a z hz c hc2.1
    obtain ⟨z3, h3, hp3, _⟩ := now h2
    exact ⟨z3, h3, by rw [hp3, if_neg hc2.2]; exact hp2⟩
  · intro c z' hz'
    obtain ⟨z, hz, _, _, hzp, _⟩ := was hz'
    by_cases e1 : c = i
    · rw [if_pos e1] at hzp; exact .inl hzp
    · rw [if_neg e1] at hzp
      rcases wf.par c z hz with hmm | ⟨a, z2, h1, h2, h3⟩
      · exact .inl (by rw [hzp]; exact hmm)
      · obtain ⟨z3, h4, _, hk3⟩ := now h2
        refine .inr ⟨a, z3, by rw [hzp]; exact h1, h4, ?_⟩
        rw [hk3]
        by_cases ea : a = j
        · subst ea
          rw [if_pos rfl, mem]
          rw [hy] at h2
          cases h2
          exact ⟨e1, h3⟩
        · rw [if_neg ea]; exact h3
  · intro a z' hz'
    obtain ⟨z, hz, _, _, _, hzk⟩ := was hz'
    rw [hzk]
    by_cases e : a = j
    · rw [if_pos e, List.nodup_append]
      exact ⟨hn2.1, hn2.2.1.2, fun p hp q hq => hn2.2.2 p hp q (by simp [hq])⟩
    · rw [if_neg e]; exact wf.nodup a z hz
  · intro z' hz'
    obtain ⟨z, hz, _, _, hzp, _⟩ := was hz'
    rw [hzp]
    split
    · rfl
    · exact wf.root z hz
  · intro a z' hz'
    obtain ⟨z, hz, hzt, hzc, _, hzk⟩ := was hz'
    rw [hzt, hzc, hzk]
    have he := wf.elem a z hz
    refine ⟨fun h => ?_, he.2⟩
    have h1 := he.1 h
    by_cases e : a = j
    · subst e
      rw [hy] at hz
      cases hz
      rw [if_pos rfl, h1]; simp
    · rw [if_neg e]; exact h1
  · intro a z' hz'
    obtain ⟨z, hz, _, hzc, _, _⟩ := was hz'
    rw [hzc]
    exact wf.chars a z hz
theorem WF.place {s : List Nd} (wf : WF s) {i : Nat} {x : Nd} (hx : s[i]? = some x) (hp : 0 ≤ x.p) : ∃ (j m : Nat) (y : Nd), x.p = (j : Int) ∧ s[j]? = some y ∧ y.ks[m]? = some i ∧ i ∉ y.ks.take m ∧ y.ks.length ≤ 40 := by
  rcases wf.par i x hx with h | ⟨j, y, h1, h2, h3⟩
  · omega
  · obtain ⟨m, hm, he⟩ := List.getElem_of_mem h3
    have hm' : y.ks[m]? = some i := by rw [List.getElem?_eq_getElem hm, he]
    obtain ⟨ht, B, u⟩ := wf.up
    refine ⟨j, m, y, h1, h2, hm', ?_, nodup_length 40 _ (wf.nodup j y h2) (fun c hc => by have := (wf.kid_lt u h2 hc).1; have := wf.cap; omega)⟩
    intro hi
    obtain ⟨q, hq, hqe⟩ := List.getElem_of_mem hi
    rw [List.getElem_take] at hqe
    have hq' : q < m := by simp at hq; omega
    have := (List.nodup_iff_pairwise_ne.1 (wf.nodup j y h2))
    exact absurd (hqe.trans he.symm) (List.pairwise_iff_getElem.1 this q m (by omega) hm hq')
end Go.Proofs.YtabogkonklplcaaGreatDoor

namespace Go.Proofs.YtabogkonklplcaaGreatDoor
open Go.RowKit
set_option linter.unusedSimpArgs false
set_option linter.unusedVariables false
theorem all_kid {s : List Nd} (wf : WF s) {h : Nat → Nat} {B : Nat} (u : Up s h B) : ∀ (k e p d : Nat), h e < k → p ∈ allF s k e → d ∈ kidsOf s p → d ∈ allF s k e := by
  intro k
  induction k with
  | zero => intro e p d he; omega
  | succ k ih =>
    intro e p d he hp hd
    simp only [allF, List.mem_cons, List.mem_flatMap] at hp ⊢
    rcases hp with rfl | ⟨c, hc, hp⟩
    · obtain ⟨x, hx, hdx⟩ := kidsOf_mem hd
      have hh := (wf.kid_lt u hx hdx).2
      refine .inr ⟨d, hd, ?_⟩
      obtain ⟨k', rfl⟩ : ∃ k', k = k' + 1 := ⟨k - 1, by omega⟩
      simp [allF]
    · obtain ⟨x, hx, hcx⟩ := kidsOf_mem hc
      have hh := (wf.kid_lt u hx hcx).2
      exact .inr ⟨c, hc, ih c p d (by omega) hp hd⟩
theorem all_of_climb {s : List Nd} (wf : WF s) {h : Nat → Nat} {B : Nat} (u : Up s h B) (k e : Nat) (he : h e < k) : ∀ (m d : Nat), d < s.length → climb s m d = (e : Int) → d ∈ allF s k e := by
  intro m
  induction m with
  | zero =>
    intro d hd hc
    have : d = e := by simp [climb] at hc; omega
    subst this
    obtain ⟨k', rfl⟩ : ∃ k', k = k' + 1 := ⟨k - 1, by omega⟩
    simp [allF]
  | succ m ih =>
    intro d hd hc
    have hx : s[d]? = some s[d] := List.getElem?_eq_getElem hd
    generalize s[d] = x at hx
    have e1 : climb s 1 d = x.p := by rw [climb_step (j := 0) (e := d) rfl]; simp [parOf, hx]
    rcases wf.par d x hx with hp | ⟨i, y, hp, hy, hdy⟩
    · exfalso
      have hneg : ∀ k, climb s (k + 1) d < 0 := by
        intro k
        induction k with
        | zero => rw [show (0 + 1) = 1 from rfl, e1]; omega
        | succ k ih2 => simp [climb] at ih2 ⊢; omega
      have := hneg m
      omega
    · rw [hp] at e1
      have e2 := climb_add e1 m
      rw [Nat.add_comm 1 m, hc] at e2
      exact all_kid wf u k e i d he (ih i (List.getElem?_eq_some_iff.1 hy).1 e2.symm) (by rw [kidsOf_eq hy]; exact hdy)
theorem within_cases {s : List Nd} (wf : WF s) {h : Nat → Nat} {B : Nat} (u : Up s h B) (o : Nat) : ∀ (N i : Nat), B + 1 - h i ≤ N → i < s.length → (∃ m, climb s m i = (o : Int)) ∨ Lim (fun c => withinF s c (i : Int) (o : Int)) false := by
  intro N
  induction N with
  | zero => intro i hi; have := u.le i; omega
  | succ N ih =>
    intro i hi hl
    by_cases hio : i = o
    · exact .inl ⟨0, by simp [climb, hio]⟩
    · have hx : s[i]? = some s[i] := List.getElem?_eq_getElem hl
      generalize s[i] = x at hx
      have e1 : climb s 1 i = x.p := by rw [climb_step (j := 0) (e := i) rfl]; simp [parOf, hx]
      rcases wf.par i x hx with hp | ⟨q, y, hp, hy, hdy⟩
      · exact .inr (within_up s i x o hx (by omega) (by rw [hp]; exact within_end s _ _ (by omega)))
      · have hh := (u.par i x hx (by omega)).2
        rw [hp] at hh e1
        simp at hh
        have hb := u.le q
        have hc := u.le i
        rcases ih q (by omega) (List.getElem?_eq_some_iff.1 hy).1 with ⟨m, hm⟩ | hf
        · exact .inl ⟨1 + m, by rw [climb_add e1 m]; exact hm⟩
        · exact .inr (within_up s i x o hx (by omega) (by rw [hp]; exact hf))
theorem holds_no {s : List Nd} (wf : WF s) {h : Nat → Nat} {B : Nat} (u : Up s h B) {k n d : Nat} (hd : d < s.length) (hk : h n < k) (hm : d ∉ allF s k n) : Lim (fun c => withinF s c (d : Int) (n : Int)) false := by
  rcases within_cases wf u n _ d (Nat.le_refl _) hd with ⟨m, hc⟩ | hf
  · exact absurd (all_of_climb wf u k n hk m d hd hc) hm
  · exact hf
end Go.Proofs.YtabogkonklplcaaGreatDoor
