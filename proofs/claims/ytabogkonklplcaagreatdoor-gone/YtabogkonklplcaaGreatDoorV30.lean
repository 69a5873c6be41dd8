import Derived.Test.YtabogkonklplcaaGreatDoorV27
import Derived.Test.YtabogkonklplcaaGreatDoorV11
import Derived.Test.YtabogkonklplcaaGreatDoorV28

namespace Go.Proofs.YtabogkonklplcaaGreatDoor
set_option linter.unusedSimpArgs false
set_option linter.unusedVariables false
abbrev enc (l : List Nat) : List Nat := l.map (fun i => 2 * i + 1)
theorem pw_eq (l : List Nat) (k : Nat) : pw l k = enc l ++ [2 * k] := rfl
def leP (P Q : List Nat) : Prop := P = Q ∨ lexN P Q
def under : List Nat → (List Nat → List Nat) → List Nat → List Nat
  | [], g, P => g P
  | _ :: _, _, [] => []
  | p :: P1, g, q :: P => if q = p then q :: under P1 g P else q :: P
theorem under_at (P1 : List Nat) (g : List Nat → List Nat) (P : List Nat) : under P1 g (P1 ++ P) = P1 ++ g P := by
  induction P1 with
  | nil => rfl
  | cons p P1 ih => simp [under, ih]
theorem leP_cons {a : Nat} {P Q : List Nat} (h : leP P Q) : leP (a :: P) (a :: Q) := by
  rcases h with rfl | h
  · exact .inl rfl
  · exact .inr (.cons h)
def IsPw (P : List Nat) : Prop := ∃ l k, P = pw l k
theorem IsPw.tail {a : Nat} {P : List Nat} (h : IsPw (a :: P)) (ha : a % 2 = 1) : IsPw P := by
  obtain ⟨l, k, h⟩ := h
  cases l with
  | nil => simp [pw] at h; omega
  | cons b l =>
    rw [pw_cons] at h
    injection h with h1 h2
    exact ⟨l, k, h2⟩
theorem IsPw.ne {P : List Nat} (h : IsPw P) : P ≠ [] := by
  obtain ⟨l, k, rfl⟩ := h
  simp [pw]
theorem under_snoc {g : List Nat → List Nat} (hg : ∀ a r e, g (a :: r ++ [e]) = g (a :: r) ++ [e]) : ∀ (P1 X : List Nat) (e : Nat), X ≠ P1 → under P1 g (X ++ [e]) = under P1 g X ++ [e] ∨ (∃ Y, P1 = X ++ e :: Y) := by
  intro P1
  induction P1 with
  | nil =>
    intro X e hX
    cases X with
    | nil => exact absurd rfl hX
    | cons a X => exact .inl (hg a X e)
  | cons p P1 ih =>
    intro X e hX
    cases X with
    | nil =>
      by_cases h : e = p
      · subst h; exact .inr ⟨P1, rfl⟩
      · left; simp [under, h]
    | cons a X =>
      by_cases h : a = p
      · subst h
        rcases ih X e (fun e => hX (by rw [e])) with h1 | ⟨Y, h1⟩
        · left; simp [under, h1]
        · right; exact ⟨Y, by rw [h1]; rfl⟩
      · left; simp [under, h]
theorem under_short {g : List Nat → List Nat} (h0 : g [] = []) : ∀ (P1 X Y : List Nat), P1 = X ++ Y → under P1 g X = X := by
  intro P1
  induction P1 with
  | nil => intro X Y h; simp at h; rw [h.1]; exact h0
  | cons p P1 ih =>
    intro X Y h
    cases X with
    | nil => rfl
    | cons a X =>
      simp at h
      obtain ⟨rfl, h⟩ := h
      simp [under, ih X Y h]
theorem under_snoc0 {g : List Nat → List Nat} (hg : ∀ a r e, g (a :: r ++ [e]) = g (a :: r) ++ [e]) (h0 : g [] = []) (P1 X : List Nat) (e : Nat) (hX : X ≠ P1) : under P1 g (X ++ [e]) = under P1 g X ++ [e] := by
  rcases under_snoc hg P1 X e hX with h | ⟨Y, h⟩
  · exact h
  · rw [under_short h0 P1 (X ++ [e]) Y (by rw [h]; simp), under_short h0 P1 X (e :: Y) h]
theorem enc_inj {l m : List Nat} (h : enc l = enc m) : l = m := (List.map_inj_right (fun a b e => by omega)).1 h
theorem snoc_cases {α : Type} (l : List α) : l = [] ∨ ∃ m a, l = m ++ [a] := by
  rcases List.eq_nil_or_concat l with h | ⟨m, a, h⟩
  · exact .inl h
  · exact .inr ⟨m, a, by rw [h, List.concat_eq_append]⟩
theorem Way.node {s : List Nd} {t n : Nat} {l : List Nat} (w : Way s t n l) : ∀ {m : Nat}, Way s t m l → n = m := by
  induction w with
  | top =>
    intro m w
    generalize hl : ([] : List Nat) = l at w
    cases w with
    | top => rfl
    | down _ _ _ => simp at hl
  | @down q c i l y w hq hi ih =>
    intro m w2
    generalize hl : l ++ [i] = l2 at w2
    cases w2 with
    | top => simp at hl
    | @down q2 _ i2 l2 y2 w3 hq2 hi2 =>
      have h1 := List.append_inj_left' hl rfl
      have h2 := List.append_inj_right' hl rfl
      subst h1
      simp at h2
      subst h2
      obtain rfl := ih w3
      rw [hq] at hq2
      cases hq2
      rw [hi] at hi2
      exact Option.some.inj hi2
theorem Way.only {s : List Nd} (wf : WF s) {t n : Nat} {l : List Nat} (w : Way s t n l) (ht : ∃ x, s[t]? = some x ∧ x.p = -1) : ∀ {l2 : List Nat}, Way s t n l2 → l = l2 := by
  induction w with
  | top =>
    intro l2 w2
    cases w2 with
    | top => rfl
    | @down q _ i l y w3 hq hi =>
      exfalso
      obtain ⟨x, hx, hp⟩ := ht
      obtain ⟨z, hz, hzp⟩ := wf.kid q y hq t (List.mem_of_getElem? hi)
      rw [hx] at hz
      cases hz
      omega
  | @down q c i l y w hq hi ih =>
    intro l2 w2
    obtain ⟨z, hz, hzp⟩ := wf.kid q y hq c (List.mem_of_getElem? hi)
    cases w2 with
    | top =>
      exfalso
      obtain ⟨x, hx, hp⟩ := ht
      rw [hx] at hz
      cases hz
      omega
    | @down q2 _ i2 l2 y2 w3 hq2 hi2 =>
      obtain ⟨z2, hz2, hzp2⟩ := wf.kid q2 y2 hq2 c (List.mem_of_getElem? hi2)
      rw [hz] at hz2
      cases hz2
      obtain rfl : q = q2 := by omega
      rw [hq] at hq2
      cases hq2
      obtain rfl := ih w3
      have hnd := wf.nodup q y hq
      have : i = i2 := by
        have h1 := (List.getElem?_eq_some_iff.1 hi)
        have h2 := (List.getElem?_eq_some_iff.1 hi2)
        exact (List.getElem_inj hnd).1 (h1.2.trans h2.2.symm)
      rw [this]
theorem Way.moved {s s' : List Nd} (wf : WF s) {t p : Nat} {lp : List Nat} (ht : ∃ x, s[t]? = some x ∧ x.p = -1) (wp : Way s t p lp) (out : Nat → Prop) (φ : Nat → Nat) {g : List Nat → List Nat} (g0 : g [] = []) (gs : ∀ a r e, g (a :: r ++ [e]) = g (a :: r) ++ [e])
    (g1 : ∀ (i c : Nat) (y : Nd), s[p]? = some y → y.ks[i]? = some c → ¬ out c → g [2 * i + 1] = [2 * φ i + 1])
    (h1 : ∀ (i c : Nat) (y : Nd), s[p]? = some y → y.ks[i]? = some c → ¬ out c → ∃ y', s'[p]? = some y' ∧ y'.ks[φ i]? = some c)
    (h2 : ∀ (q i c : Nat) (y : Nd), q ≠ p → s[q]? = some y → y.ks[i]? = some c → ¬ out c → ∃ y', s'[q]? = some y' ∧ y'.ks[i]? = some c)
    (ho : ∀ (q i c : Nat) (y : Nd), s[q]? = some y → y.ks[i]? = some c → ¬ out c → ¬ out q) {n : Nat} {l : List Nat} (w : Way s t n l) : ¬ out n → ∃ l', Way s' t n l' ∧ enc l' = under (enc lp) g (enc l) := by
  induction w with
  | top =>
    intro _
    refine ⟨[], .top, ?_⟩
    cases hlp : enc lp with
    | nil => simp [under, g0]
    | cons a r => simp [under]
  | @down q c i l y w hq hi ih =>
    intro hc
    obtain ⟨l', w', e'⟩ := ih (ho q i c y hq hi hc)
    have e1 : enc (l ++ [i]) = enc l ++ [2 * i + 1] := by simp [enc]
    by_cases hqp : q = p
    · subst hqp
      obtain rfl := wp.only wf ht w
      obtain ⟨y', hy', hi'⟩ := h1 i c y hq hi hc
      have e2 : l' = lp := by
        have h3 := under_at (enc lp) g []
        rw [List.append_nil, g0, List.append_nil] at h3
        rw [h3] at e'
        exact enc_inj e'
      subst e2
      refine ⟨l' ++ [φ i], .down w' hy' hi', ?_⟩
      rw [e1, under_at, g1 i c y hq hi hc]
      simp [enc]
    · obtain ⟨y', hy', hi'⟩ := h2 q i c y hqp hq hi hc
      refine ⟨l' ++ [i], .down w' hy' hi', ?_⟩
      have hne : enc l ≠ enc lp := fun e => hqp (w.node (by rw [enc_inj e]; exact wp))
      rw [e1, under_snoc0 gs g0 _ _ _ hne, ← e']
      simp [enc]
theorem lex_three : ∀ (P Q : List Nat), lexN P Q ∨ P = Q ∨ lexN Q P := by
  intro P
  induction P with
  | nil =>
    intro Q
    cases Q with
    | nil => exact .inr (.inl rfl)
    | cons b Q => exact .inl .nil
  | cons a P ih =>
    intro Q
    cases Q with
    | nil => exact .inr (.inr .nil)
    | cons b Q =>
      rcases Nat.lt_trichotomy a b with h | h | h
      · exact .inl (.rel h)
      · subst h
        rcases ih Q with h | h | h
        · exact .inl (.cons h)
        · exact .inr (.inl (by rw [h]))
        · exact .inr (.inr (.cons h))
      · exact .inr (.inr (.rel h))
theorem leP_of_lexC {l l2 : List Nat} {k k2 : Nat} (h : lexC (l ++ [k]) (l2 ++ [k2]) ≤ 0) : leP (pw l k) (pw l2 k2) := by
  rcases lex_three (pw l k) (pw l2 k2) with h1 | h1 | h1
  · exact .inr h1
  · exact .inl h1
  · have := lexC_lt _ _ _ _ h1
    rw [lexC_neg, this] at h
    simp at h
theorem way_to {s : List Nd} (wf : WF s) {n t : Nat} (ht : IsTop s n t) (hn : n < s.length) : ∃ l, Way s t n l := by
  obtain ⟨⟨m, hm⟩, x, hx, hp⟩ := ht
  have key : ∀ (m n : Nat), n < s.length → climb s m n = (t : Int) → ∃ l, Way s t n l := by
    intro m
    induction m with
    | zero =>
      intro n hn h
      have : n = t := by simp [climb] at h; omega
      subst this
      exact ⟨[], .top⟩
    | succ m ih =>
      intro n hn h
      have hx := List.getElem?_eq_getElem hn
      rcases wf.par n _ hx with hp | ⟨i, y, hp, hy, hc⟩
      · exfalso
        have h1 : climb s 1 n = -1 := by simp [climb, parOf, hx, hp]
        have h2 := climb_neg (s := s) (j := 1) (n := n) (by rw [h1]; decide) m
        rw [Nat.add_comm] at h2
        omega
      · have h1 : climb s 1 n = (i : Int) := by simp [climb, parOf, hx, hp]
        have h2 := climb_add h1 m
        rw [Nat.add_comm] at h2
        rw [h2] at h
        obtain ⟨l, wl⟩ := ih i (List.getElem?_eq_some_iff.1 hy).1 h
        obtain ⟨k, hk, e⟩ := List.mem_iff_getElem.1 hc
        exact ⟨l ++ [k], .down wl hy (by rw [List.getElem?_eq_getElem hk, e])⟩
  exact key m n hn hm
def SpIs (s : List Nd) (z : Sp) : Prop := ∃ (n k n2 k2 t : Nat) (l l2 : List Nat), z = ⟨n, k, n2, k2⟩ ∧ PlOk s n k ∧ PlOk s n2 k2 ∧ IsTop s n t ∧ Way s t n l ∧ Way s t n2 l2 ∧ leP (pw l k) (pw l2 k2)
theorem SpIs.ok {s : List Nd} {z : Sp} (h : SpIs s z) : SpOk s z := by
  obtain ⟨n, k, n2, k2, t, l, l2, rfl, h1, h2, _⟩ := h
  exact ⟨h1, h2⟩
def Good (s : List Nd) (t : Nat) (P : List Nat) : Prop := ∃ (n k : Nat) (l : List Nat), PlOk s n k ∧ Way s t n l ∧ P = pw l k
structure Moves (s s' : List Nd) (t t' : Nat) (f : Mvf) (E : List Nat → List Nat) : Prop where
  mono : ∀ P Q, Good s t P → Good s t Q → lexN P Q → leP (E P) (E Q)
  top : ∃ x, s'[t']? = some x ∧ x.p = -1
  one : ∀ (n k : Nat) (l : List Nat), PlOk s n k → Way s t n l → ∃ (n' k' : Nat) (l' : List Nat), f n k = ((n' : Int), (k' : Int)) ∧ PlOk s' n' k' ∧ Way s' t' n' l' ∧ pw l' k' = E (pw l k)
theorem SpIs.mv {s s' : List Nd} (wf' : WF s') {f : Mvf} (h : ∀ t, (∃ x, s[t]? = some x ∧ x.p = -1) → ∃ t' E, Moves s s' t t' f E) {z : Sp} (hz : SpIs s z) : SpIs s' (mvSp f z) := by
  obtain ⟨n, k, n2, k2, t, l, l2, rfl, h1, h2, ht, w1, w2, hle⟩ := hz
  obtain ⟨t', E, M⟩ := h t ht.2
  obtain ⟨n', k', l', e1, p1, w1', q1⟩ := M.one n k l h1 w1
  obtain ⟨n2', k2', l2', e2, p2, w2', q2⟩ := M.one n2 k2 l2 h2 w2
  obtain ⟨x, hx, hp⟩ := M.top
  refine ⟨n', k', n2', k2', t', l', l2', ?_, p1, p2, way_top wf' w1' hx hp, w1', w2', ?_⟩
  · simp only [mvSp, e1, e2]
  · rw [q1, q2]
    rcases hle with h | h
    · exact .inl (by rw [h])
    · exact M.mono _ _ ⟨_, _, _, h1, w1, rfl⟩ ⟨_, _, _, h2, w2, rfl⟩ h
theorem under_le2 {g : List Nat → List Nat} {ok : List Nat → Prop} (hg : ∀ R R', ok R → ok R' → lexN R R' → leP (g R) (g R')) :
    ∀ (P1 P Q : List Nat), (∀ R, P = P1 ++ R → ok R) → (∀ R, Q = P1 ++ R → ok R) → lexN P Q → leP (under P1 g P) (under P1 g Q) := by
  intro P1
  induction P1 with
  | nil => intro P Q hP hQ h; exact hg P Q (hP P rfl) (hQ Q rfl) h
  | cons p P1 ih =>
    intro P Q hP hQ h
    cases Q with
    | nil => exact absurd h (fun h => lexN_nil h)
    | cons b Q =>
      cases P with
      | nil =>
        have : ∃ Y, under (p :: P1) g (b :: Q) = b :: Y := by
          simp only [under]
          by_cases h2 : b = p <;> simp [h2]
        obtain ⟨Y, e⟩ := this
        rw [e]
        exact .inr .nil
      | cons a P =>
        rcases lexN_cons h with hab | ⟨rfl, hPQ⟩
        · have : ∃ X Y, under (p :: P1) g (a :: P) = a :: X ∧ under (p :: P1) g (b :: Q) = b :: Y := by
            simp only [under]
            by_cases h1 : a = p <;> by_cases h2 : b = p <;> simp [h1, h2]
          obtain ⟨X, Y, e1, e2⟩ := this
          rw [e1, e2]
          exact .inr (.rel hab)
        · simp only [under]
          by_cases h1 : a = p
          · subst h1
            simp only [if_true]
            exact leP_cons (ih P Q (fun R e => hP R (by rw [e]; rfl)) (fun R e => hQ R (by rw [e]; rfl)) hPQ)
          · simp only [h1, if_false]
            exact .inr (.cons hPQ)
theorem Way.cut {s : List Nd} {t n : Nat} {l : List Nat} (w : Way s t n l) : ∀ (l1 : List Nat) (c : Nat) (l2 : List Nat), l = l1 ++ c :: l2 → ∃ (p q : Nat) (y : Nd), Way s t p l1 ∧ s[p]? = some y ∧ y.ks[c]? = some q ∧ Way s q n l2 := by
  induction w with
  | top => intro l1 c l2 h; simp at h
  | @down q c i l y w hq hi ih =>
    intro l1 d l2 h
    rcases snoc_cases l2 with rfl | ⟨l3, a, rfl⟩
    · have h1 := List.append_inj_left' h rfl
      have h2 := List.append_inj_right' h rfl
      simp at h2
      subst h1
      subst h2
      exact ⟨q, c, y, w, hq, hi, .top⟩
    · have e : l1 ++ d :: (l3 ++ [a]) = (l1 ++ d :: l3) ++ [a] := by simp
      rw [e] at h
      have h1 := List.append_inj_left' h rfl
      have h2 := List.append_inj_right' h rfl
      simp at h2
      subst h2
      obtain ⟨p, q2, y2, w1, hy2, hq2, w2⟩ := ih l1 d l3 h1
      exact ⟨p, q2, y2, w1, hy2, hq2, .down w2 hq hi⟩
theorem Way.append {s : List Nd} {t q n : Nat} {l1 l2 : List Nat} (w1 : Way s t q l1) (w2 : Way s q n l2) : Way s t n (l1 ++ l2) := by
  induction w2 with
  | top => simpa using w1
  | @down p c i l y w hp hi ih => rw [← List.append_assoc]; exact .down ih hp hi
theorem Way.same {s s' : List Nd} {t n : Nat} {l : List Nat} (w : Way s t n l) (h : ∀ (q : Nat) (l : List Nat) (y : Nd), Way s t q l → s[q]? = some y → ∃ y', s'[q]? = some y' ∧ y'.ks = y.ks) : Way s' t n l := by
  induction w with
  | top => exact .top
  | @down q c i l y w hq hi ih =>
    obtain ⟨y', hy', e⟩ := h q l y w hq
    exact .down ih hy' (by rw [e]; exact hi)
theorem pw_below {lp l : List Nat} {k : Nat} {R : List Nat} (h : pw l k = enc lp ++ R) : ∃ l2, l = lp ++ l2 ∧ R = pw l2 k := by
  induction lp generalizing l with
  | nil => exact ⟨l, rfl, by simpa using h.symm⟩
  | cons a lp ih =>
    cases l with
    | nil => simp [pw] at h; omega
    | cons b l =>
      rw [pw_cons] at h
      simp only [enc, List.map_cons, List.cons_append] at h
      injection h with h1 h2
      obtain ⟨l2, e1, e2⟩ := ih h2
      exact ⟨l2, by rw [e1]; simp; omega, e2⟩
end Go.Proofs.YtabogkonklplcaaGreatDoor
