import Derived.Test.YtabogkonklplcaaGreatDoorQ16
import Derived.Test.YtabogkonklplcaaGreatDoorQ13
import Derived.Test.YtabogkonklplcaaGreatDoorQ10
import Derived.Test.YtabogkonklplcaaGreatDoorQ24
import Derived.Test.YtabogkonklplcaaGreatDoorQ17

namespace Go.Proofs.YtabogkonklplcaaGreatDoor
open Go.RowKit
set_option linter.unusedSimpArgs false
set_option linter.unusedVariables false
end Go.Proofs.YtabogkonklplcaaGreatDoor

namespace Go.Proofs.YtabogkonklplcaaGreatDoor
set_option linter.unusedSimpArgs false
set_option linter.unusedVariables false
abbrev enc (l : List Nat) : List Nat := l.map (fun i => 2 * i + 1)
theorem pw_eq (l : List Nat) (k : Nat) : pw l k = enc l ++ [2 * k] := rfl
def leP (P Q : List Nat) : Prop := P = Q ∨ lexN P Q
def under : List Nat → (List Nat → List Nat) → List Nat → List Nat
  | [], g, P => g P
  | _ :: _, _, [] => []
  | p :: P1, g, q :: P => if q = p then q :: under P1 g P else q :: P
theorem under_at (P1 : List Nat) (g : List Nat → List Nat) (P : List Nat) : under P1 g (P1 ++ P) = P1 ++ g P := by
  induction P1 with
  | nil => rfl
  | cons p P1 ih => simp [under, ih]
theorem leP_cons {a : Nat} {P Q : List Nat} (h : leP P Q) : leP (a :: P) (a :: Q) := by
  rcases h with rfl | h
  · exact .inl rfl
  · exact .inr (.cons h)
def IsPw (P : List Nat) : Prop := ∃ l k, P = pw l k
theorem IsPw.tail {a : Nat} {P : List Nat} (h : IsPw (a :: P)) (ha : a % 2 = 1) : IsPw P := by
  obtain ⟨l, k, h⟩ := h
  cases l with
  | nil => simp [pw] at h; omega
  | cons b l =>
    rw [pw_cons] at h
    injection h with h1 h2
    exact ⟨l, k, h2⟩
theorem IsPw.ne {P : List Nat} (h : IsPw P) : P ≠ [] := by
  obtain ⟨l, k, rfl⟩ := h
  simp [pw]
theorem under_snoc {g : List Nat → List Nat} (hg : ∀ a r e, g (a :: r ++ [e]) = g (a :: r) ++ [e]) : ∀ (P1 X : List Nat) (e : Nat), X ≠ P1 → under P1 g (X ++ [e]) = under P1 g X ++ [e] ∨ (∃ Y, P1 = X ++ e :: Y) := by
  intro P1
  induction P1 with
  | nil =>
    intro X e hX
    cases X with
    | nil => exact absurd rfl hX
    | cons a X => exact .inl (hg a X e)
  | cons p P1 ih =>
    intro X e hX
    cases X with
    | nil =>
      by_cases h : e = p
      · subst h; exact .inr ⟨P1, rfl⟩
      · left; simp [under, h]
    | cons a X =>
      by_cases h : a = p
      · subst h
        rcases ih X e (fun e => hX (by rw [e])) with h1 | ⟨Y, h1⟩
        · left; simp [under, h1]
        · right; exact ⟨Y, by rw [h1]; rfl⟩
      · left; simp [under, h]
theorem under_short {g : List Nat → List Nat} (h0 : g [] = []) : ∀ (P1 X Y : List Nat), P1 = X ++ Y → under P1 g X = X := by
  intro P1
  induction P1 with
  | nil => intro X Y h; simp at h; rw [h.1]; exact h0
  | cons p P1 ih =>
    intro X Y h
    cases X with
    | nil => rfl
    | cons a X =>
      simp at h
      obtain ⟨rfl, h⟩ := h
      simp [under, ih X Y h]
theorem under_snoc0 {g : List Nat → List Nat} (hg : ∀ a r e, g (a :: r ++ [e]) = g (a :: r) ++ [e]) (h0 : g [] = []) (P1 X : List Nat) (e : Nat) (hX : X ≠ P1) : under P1 g (X ++ [e]) = under P1 g X ++ [e] := by
  rcases under_snoc hg P1 X e hX with h | ⟨Y, h⟩
  · exact h
  · rw [under_short h0 P1 (X ++ [e]) Y (by rw [h]; simp), under_short h0 P1 X (e :: Y) h]
theorem enc_inj {l m : List Nat} (h : enc l = enc m) : l = m := (List.map_inj_right (fun a b e => by omega)).1 h
theorem snoc_cases {α : Type} (l : List α) : l = [] ∨ ∃ m a, l = m ++ [a] := by
  rcases List.eq_nil_or_concat l with h | ⟨m, a, h⟩
  · exact .inl h
  · exact .inr ⟨m, a, by rw [h, List.concat_eq_append]⟩
theorem Way.node {s : List Nd} {t n : Nat} {l : List Nat} (w : Way s t n l) : ∀ {m : Nat}, Way s t m l → n = m := by
  induction w with
  | top =>
    intro m w
    generalize hl : ([] : List Nat) = l at w
    cases w with
    | top => rfl
    | down _ _ _ => simp at hl
  | @down q c i l y w hq hi ih =>
    intro m w2
    generalize hl : l ++ [i] = l2 at w2
    cases w2 with
    | top => simp at hl
    | @down q2 _ i2 l2 y2 w3 hq2 hi2 =>
      have h1 := List.append_inj_left' hl rfl
      have h2 := List.append_inj_right' hl rfl
      subst h1
      simp at h2
      subst h2
      obtain rfl := ih w3
      rw [hq] at hq2
      cases hq2
      rw [hi] at hi2
      exact Option.some.inj hi2
theorem Way.only {s : List Nd} (wf : WF s) {t n : Nat} {l : List Nat} (w : Way s t n l) (ht : ∃ x, s[t]? = some x ∧ x.p = -1) : ∀ {l2 : List Nat}, Way s t n l2 → l = l2 := by
  induction w with
  | top =>
    intro l2 w2
    cases w2 with
    | top => rfl
    | @down q _ i l y w3 hq hi =>
      exfalso
      obtain ⟨x, hx, hp⟩ := ht
      obtain ⟨z, hz, hzp⟩ := wf.kid q y hq t (List.mem_of_getElem? hi)
      rw [hx] at hz
      cases hz
      omega
  | @down q c i l y w hq hi ih =>
    intro l2 w2
    obtain ⟨z, hz, hzp⟩ := wf.kid q y hq c (List.mem_of_getElem? hi)
    cases w2 with
    | top =>
      exfalso
      obtain ⟨x, hx, hp⟩ := ht
      rw [hx] at hz
      cases hz
      omega
    | @down q2 _ i2 l2 y2 w3 hq2 hi2 =>
      obtain ⟨z2, hz2, hzp2⟩ := wf.kid q2 y2 hq2 c (List.mem_of_getElem? hi2)
      rw [hz] at hz2
      cases hz2
      obtain rfl : q = q2 := by omega
      rw [hq] at hq2
      cases hq2
      obtain rfl := ih w3
      have hnd := wf.nodup q y hq
      have : i = i2 := by
        have h1 := (List.getElem?_eq_some_iff.1 hi)
        have h2 := (List.getElem?_eq_some_iff.1 hi2)
        exact (List.getElem_inj hnd).1 (h1.2.trans h2.2.symm)
      rw [this]
theorem Way.moved {s s' : List Nd} (wf : WF s) {t p : Nat} {lp : List Nat} (ht : ∃ x, s[t]? = some x ∧ x.p = -1) (wp : Way s t p lp) (out : Nat → Prop) (φ : Nat → Nat) {g : List Nat → List Nat} (g0 : g [] = []) (gs : ∀ a r e, g (a :: r ++ [e]) = g (a :: r) ++ [e])
    (g1 : ∀ (i c : Nat) (y : Nd), s[p]? = some y → y.ks[i]? = some c → ¬ out c → g [2 * i + 1] = [2 * φ i + 1])
    (h1 : ∀ (i c : Nat) (y : Nd), s[p]? = some y → y.ks[i]? = some c → ¬ out c → ∃ y', s'[p]? = some y' ∧ y'.ks[φ i]? = some c)
    (h2 : ∀ (q i c : Nat) (y : Nd), q ≠ p → s[q]? = some y → y.ks[i]? = some c → ¬ out c → ∃ y', s'[q]? = some y' ∧ y'.ks[i]? = some c)
    (ho : ∀ (q i c : Nat) (y : Nd), s[q]? = some y → y.ks[i]? = some c → ¬ out c → ¬ out q) {n : Nat} {l : List Nat} (w : Way s t n l) : ¬ out n → ∃ l', Way s' t n l' ∧ enc l' = under (enc lp) g (enc l) := by
  induction w with
  | top =>
    intro _
    refine ⟨[], .top, ?_⟩
    cases hlp : enc lp with
    | nil => simp [under, g0]
    | cons a r => simp [under]
  | @down q c i l y w hq hi ih =>
    intro hc
    obtain ⟨l', w', e'⟩ := ih (ho q i c y hq hi hc)
    have e1 : enc (l ++ [i]) = enc l ++ [2 * i + 1] := by simp [enc]
    by_cases hqp : q = p
    · subst hqp
      obtain rfl := wp.only wf ht w
      obtain ⟨y', hy', hi'⟩ := h1 i c y hq hi hc
      have e2 : l' = lp := by
        have h3 := under_at (enc lp) g []
        rw [List.append_nil, g0, List.append_nil] at h3
        rw [h3] at e'
        exact enc_inj e'
      subst e2
      refine ⟨l' ++ [φ i], .down w' hy' hi', ?_⟩
      rw [e1, under_at, g1 i c y hq hi hc]
      simp [enc]
    · obtain ⟨y', hy', hi'⟩ := h2 q i c y hqp hq hi hc
      refine ⟨l' ++ [i], .down w' hy' hi', ?_⟩
      have hne : enc l ≠ enc lp := fun e => hqp (w.node (by rw [enc_inj e]; exact wp))
      rw [e1, under_snoc0 gs g0 _ _ _ hne, ← e']
      simp [enc]
theorem lex_three : ∀ (P Q : List Nat), lexN P Q ∨ P = Q ∨ lexN Q P := by
  intro P
  induction P with
  | nil =>
    intro Q
    cases Q with
    | nil => exact .inr (.inl rfl)
    | cons b Q => exact .inl .nil
  | cons a P ih =>
    intro Q
    cases Q with
    | nil => exact .inr (.inr .nil)
    | cons b Q =>
      rcases Nat.lt_trichotomy a b with h | h | h
      · exact .inl (.rel h)
      · subst h
        rcases ih Q with h | h | h
        · exact .inl (.cons h)
        · exact .inr (.inl (by rw [h]))
        · exact .inr (.inr (.cons h))
      · exact .inr (.inr (.rel h))
theorem leP_of_lexC {l l2 : List Nat} {k k2 : Nat} (h : lexC (l ++ [k]) (l2 ++ [k2]) ≤ 0) : leP (pw l k) (pw l2 k2) := by
  rcases lex_three (pw l k) (pw l2 k2) with h1 | h1 | h1
  · exact .inr h1
  · exact .inl h1
  · have := lexC_lt _ _ _ _ h1
    rw [lexC_neg, this] at h
    simp at h
theorem way_to {s : List Nd} (wf : WF s) {n t : Nat} (ht : IsTop s n t) (hn : n < s.length) : ∃ l, Way s t n l := by
  obtain ⟨⟨m, hm⟩, x, hx, hp⟩ := ht
  have key : ∀ (m n : Nat), n < s.length → climb s m n = (t : Int) → ∃ l, Way s t n l := by
    intro m
    induction m with
    | zero =>
      intro n hn h
      have : n = t := by simp [climb] at h; omega
      subst this
      exact ⟨[], .top⟩
    | succ m ih =>
      intro n hn h
      have hx := List.getElem?_eq_getElem hn
      rcases wf.par n _ hx with hp | ⟨i, y, hp, hy, hc⟩
      · exfalso
        have h1 : climb s 1 n = -1 := by simp [climb, parOf, hx, hp]
        have h2 := climb_neg (s := s) (j := 1) (n := n) (by rw [h1]; decide) m
        rw [Nat.add_comm] at h2
        omega
      · have h1 : climb s 1 n = (i : Int) := by simp [climb, parOf, hx, hp]
        have h2 := climb_add h1 m
        rw [Nat.add_comm] at h2
        rw [h2] at h
        obtain ⟨l, wl⟩ := ih i (List.getElem?_eq_some_iff.1 hy).1 h
        obtain ⟨k, hk, e⟩ := List.mem_iff_getElem.1 hc
        exact ⟨l ++ [k], .down wl hy (by rw [List.getElem?_eq_getElem hk, e])⟩
  exact key m n hn hm
def SpIs (s : List Nd) (z : Sp) : Prop := ∃ (n k n2 k2 t : Nat) (l l2 : List Nat), z = ⟨n, k, n2, k2⟩ ∧ PlOk s n k ∧ PlOk s n2 k2 ∧ IsTop s n t ∧ Way s t n l ∧ Way s t n2 l2 ∧ leP (pw l k) (pw l2 k2)
theorem SpIs.ok {s : List Nd} {z : Sp} (h : SpIs s z) : SpOk s z := by
  obtain ⟨n, k, n2, k2, t, l, l2, rfl, h1, h2, _⟩ := h
  exact ⟨h1, h2⟩
def Good (s : List Nd) (t : Nat) (P : List Nat) : Prop := ∃ (n k : Nat) (l : List Nat), PlOk s n k ∧ Way s t n l ∧ P = pw l k
structure Moves (s s' : List Nd) (t t' : Nat) (f : Mvf) (E : List Nat → List Nat) : Prop where
  mono : ∀ P Q, Good s t P → Good s t Q → lexN P Q → leP (E P) (E Q)
  top : ∃ x, s'[t']? = some x ∧ x.p = -1
  one : ∀ (n k : Nat) (l : List Nat), PlOk s n k → Way s t n l → ∃ (n' k' : Nat) (l' : List Nat), f n k = ((n' : Int), (k' : Int)) ∧ PlOk s' n' k' ∧ Way s' t' n' l' ∧ pw l' k' = E (pw l k)
theorem SpIs.mv {s s' : List Nd} (wf' : WF s') {f : Mvf} (h : ∀ t, (∃ x, s[t]? = some x ∧ x.p = -1) → ∃ t' E, Moves s s' t t' f E) {z : Sp} (hz : SpIs s z) : SpIs s' (mvSp f z) := by
  obtain ⟨n, k, n2, k2, t, l, l2, rfl, h1, h2, ht, w1, w2, hle⟩ := hz
  obtain ⟨t', E, M⟩ := h t ht.2
  obtain ⟨n', k', l', e1, p1, w1', q1⟩ := M.one n k l h1 w1
  obtain ⟨n2', k2', l2', e2, p2, w2', q2⟩ := M.one n2 k2 l2 h2 w2
  obtain ⟨x, hx, hp⟩ := M.top
  refine ⟨n', k', n2', k2', t', l', l2', ?_, p1, p2, way_top wf' w1' hx hp, w1', w2', ?_⟩
  · simp only [mvSp, e1, e2]
  · rw [q1, q2]
    rcases hle with h | h
    · exact .inl (by rw [h])
    · exact M.mono _ _ ⟨_, _, _, h1, w1, rfl⟩ ⟨_, _, _, h2, w2, rfl⟩ h
theorem under_le2 {g : List Nat → List Nat} {ok : List Nat → Prop} (hg : ∀ R R', ok R → ok R' → lexN R R' → leP (g R) (g R')) :
    ∀ (P1 P Q : List Nat), (∀ R, P = P1 ++ R → ok R) → (∀ R, Q = P1 ++ R → ok R) → lexN P Q → leP (under P1 g P) (under P1 g Q) := by
  intro P1
  induction P1 with
  | nil => intro P Q hP hQ h; exact hg P Q (hP P rfl) (hQ Q rfl) h
  | cons p P1 ih =>
    intro P Q hP hQ h
    cases Q with
    | nil => exact absurd h (fun h => lexN_nil h)
    | cons b Q =>
      cases P with
      | nil =>
        have : ∃ Y, under (p :: P1) g (b :: Q) = b :: Y := by
          simp only [under]
          by_cases h2 : b = p <;> simp [h2]
        obtain ⟨Y, e⟩ := this
        rw [e]
        exact .inr .nil
      | cons a P =>
        rcases lexN_cons h with hab | ⟨rfl, hPQ⟩
        · have : ∃ X Y, under (p :: P1) g (a :: P) = a :: X ∧ under (p :: P1) g (b :: Q) = b :: Y := by
            simp only [under]
            by_cases h1 : a = p <;> by_cases h2 : b = p <;> simp [h1, h2]
          obtain ⟨X, Y, e1, e2⟩ := this
          rw [e1, e2]
          exact .inr (.rel hab)
        · simp only [under]
          by_cases h1 : a = p
          · subst h1
            simp only [if_true]
            exact leP_cons (ih P Q (fun R e => hP R (by rw [e]; rfl)) (fun R e => hQ R (by rw [e]; rfl)) hPQ)
          · simp only [h1, if_false]
            exact .inr (.cons hPQ)
theorem Way.cut {s : List Nd} {t n : Nat} {l : List Nat} (w : Way s t n l) : ∀ (l1 : List Nat) (c : Nat) (l2 : List Nat), l = l1 ++ c :: l2 → ∃ (p q : Nat) (y : Nd), Way s t p l1 ∧ s[p]? = some y ∧ y.ks[c]? = some q ∧ Way s q n l2 := by
  induction w with
  | top => intro l1 c l2 h; simp at h
  | @down q c i l y w hq hi ih =>
    intro l1 d l2 h
    rcases snoc_cases l2 with rfl | ⟨l3, a, rfl⟩
    · have h1 := List.append_inj_left' h rfl
      have h2 := List.append_inj_right' h rfl
      simp at h2
      subst h1
      subst h2
      exact ⟨q, c, y, w, hq, hi, .top⟩
    · have e : l1 ++ d :: (l3 ++ [a]) = (l1 ++ d :: l3) ++ [a] := by simp
      rw [e] at h
      have h1 := List.append_inj_left' h rfl
      have h2 := List.append_inj_right' h rfl
      simp at h2
      subst h2
      obtain ⟨p, q2, y2, w1, hy2, hq2, w2⟩ := ih l1 d l3 h1
      exact ⟨p, q2, y2, w1, hy2, hq2, .down w2 hq hi⟩
theorem Way.append {s : List Nd} {t q n : Nat} {l1 l2 : List Nat} (w1 : Way s t q l1) (w2 : Way s q n l2) : Way s t n (l1 ++ l2) := by
  induction w2 with
  | top => simpa using w1
  | @down p c i l y w hp hi ih => rw [← List.append_assoc]; exact .down ih hp hi
theorem Way.same {s s' : List Nd} {t n : Nat} {l : List Nat} (w : Way s t n l) (h : ∀ (q : Nat) (l : List Nat) (y : Nd), Way s t q l → s[q]? = some y → ∃ y', s'[q]? = some y' ∧ y'.ks = y.ks) : Way s' t n l := by
  induction w with
  | top => exact .top
  | @down q c i l y w hq hi ih =>
    obtain ⟨y', hy', e⟩ := h q l y w hq
    exact .down ih hy' (by rw [e]; exact hi)
theorem pw_below {lp l : List Nat} {k : Nat} {R : List Nat} (h : pw l k = enc lp ++ R) : ∃ l2, l = lp ++ l2 ∧ R = pw l2 k := by
  induction lp generalizing l with
  | nil => exact ⟨l, rfl, by simpa using h.symm⟩
  | cons a lp ih =>
    cases l with
    | nil => simp [pw] at h; omega
    | cons b l =>
      rw [pw_cons] at h
      simp only [enc, List.map_cons, List.cons_append] at h
      injection h with h1 h2
      obtain ⟨l2, e1, e2⟩ := ih h2
      exact ⟨l2, by rw [e1]; simp; omega, e2⟩
end Go.Proofs.YtabogkonklplcaaGreatDoor

namespace Go.Proofs.YtabogkonklplcaaGreatDoor
set_option linter.unusedSimpArgs false
set_option linter.unusedVariables false
theorem IsTop.climb {s : List Nd} {a p q t : Nat} (ta : IsTop s a t) (hq : climb s q a = (p : Int)) : IsTop s p t := by
  obtain ⟨M, hM⟩ := ta.1
  refine ⟨?_, ta.2⟩
  rcases Nat.lt_or_ge M q with hlt | hge
  · exfalso
    obtain ⟨x0, hx0, hp0⟩ := ta.2
    have h1 : Go.Proofs.YtabogkonklplcaaGreatDoor.climb s (M + 1) a < 0 := by rw [climb_step hM]; simp [parOf, hx0, hp0]
    have h2 := climb_neg h1 (q - (M + 1))
    rw [show M + 1 + (q - (M + 1)) = q by omega, hq] at h2
    omega
  · have := climb_add hq (M - q)
    rw [show q + (M - q) = M by omega, hM] at this
    exact ⟨_, this.symm⟩
theorem IsTop.par {s : List Nd} {n j t : Nat} {x : Nd} (h : IsTop s n t) (hx : s[n]? = some x) (hj : x.p = (j : Int)) : IsTop s j t :=
  h.climb (q := 1) (by rw [climb_step (j := 0) (e := n) rfl]; simp [parOf, hx, hj])
section
variable {s : List Nd} {h : Nat → Nat} {B a b c d t : Nat}
end
end Go.Proofs.YtabogkonklplcaaGreatDoor

namespace Go.Proofs.YtabogkonklplcaaGreatDoor
open Go.RowKit
set_option linter.unusedSimpArgs false
set_option linter.unusedVariables false
theorem dig_all : ∀ n : Fin 40, (digB n.val).data.toList = Lib.decDigits n.val := by decide +kernel
theorem dig_eq (n : Nat) (h : n < 40) : (⟨(Lib.decDigits n).toArray⟩ : ByteArray) = digB n := by
  rw [← dig_all ⟨n, h⟩]
theorem text_pre (a : ByteArray) (l : List ByteArray) : ∀ b : ByteArray, l.foldl textStep (a ++ b) = a ++ l.foldl textStep b := by
  induction l with
  | nil => intro b; rfl
  | cons c l ih =>
    intro b
    rw [List.foldl_cons, List.foldl_cons, ← ih]
    congr 1
    unfold textStep
    split <;> simp only [ByteArray.append_assoc]
section
variable {w : World} {F : Nat → Prop} {bf bn cap : Nat} {pn : List PN} {s : List Nd}
theorem PForAt.under {B : Nat} {w' : World} (h : PForAt w F bf bn cap pn s) (hF : ∀ b, F b → b < B) (hb : Below B w w') : PForAt w' F bf bn cap pn s :=
  h.keeps (G := fun b => B ≤ b) ⟨hb.os, hb.tape, hb.output, hb.size, fun k hk hn => hb.block k (by omega)⟩ (fun b h1 h2 => by have := hF b h1; omega)
def Wrote (B b : Nat) (t : ByteArray) (w : World) (e : Ending) (w' : World) : Prop := e = .returned (.tuple #[]) ∧ BldU B b (Lib.strCells t) w' ∧ Below B w w'
set_option maxRecDepth 20000 in
set_option maxHeartbeats 1000000 in
theorem write_text {B b : Nat} (hD : PForAt w F bf bn cap pn s) (hF : ∀ b, F b → b < B) (n : Nat) (x : Nd) (hx : s[n]? = some x) (ht : x.t = true) (hn : n < 40) (acc : ByteArray) (h : Bld B b (Lib.strCells acc) w) (hBw : B ≤ w.heap.size) (hc : ∀ c ∈ x.cs, IsCh c)
    (hlen : acc.size + (x.cs.foldl textStep (digB n ++ ⟨#[39]⟩)).size + 20 < lots) :
    Calls Tryz.prog 147 #[ptr bf, ptr b, .int .i64 n] w (Wrote B b (acc ++ (x.cs.foldl textStep (digB n ++ ⟨#[39]⟩) ++ ⟨#[39]⟩)) w) := by
  have hi : n < s.length := (List.getElem?_eq_some_iff.1 hx).1
  have h0 := hD.nodesCell
  obtain ⟨r, hr, ho, c0, c1, c2, c3⟩ := hD.look hx
  rw [ht] at c1
  have hds := digB_size n
  have C1 := hid (Tryz.strconv_Itoa_small n (by omega))
  rw [dig_eq n hn] at C1
  have C2 := hid (bwrite_string (digB n) h (by rw [Lib.strCells_length]; omega) hBw)
  rw [← strCells_append] at C2
  have e1 : x.cs.foldl textStep (acc ++ digB n ++ ⟨#[39]⟩) = acc ++ x.cs.foldl textStep (digB n ++ ⟨#[39]⟩) := by rw [ByteArray.append_assoc]; exact text_pre _ _ _
  have C3 := hid (fun (w1 : World) (h1 : BldU B b (Lib.strCells (acc ++ digB n)) w1) (hB1 : B ≤ w1.heap.size) => quoted_any x.cs (acc ++ digB n) (bld_of h1) hB1 hc (by rw [e1, ByteArray.size_append]; omega)
    (fun l r hlr => by rw [hlr, List.foldl_append]; exact text_mono r _))
  rw [e1, ByteArray.append_assoc] at C3
  have HD := hid (fun w1 (hb : Below B w w1) => (hD.under hF hb).look hx)
  have HN := hid (fun w1 (hb : Below B w w1) => (hD.under hF hb).nodesCell)
  clear hD hr ho hx c0 c2 c3 e1 h hlen hc hF
  go_enter Tryz.func147, Tryz.ntmps147
  go_wp2_with first
    | (go_at_call 175; refine (C1.out _).mono ?_; rintro e w1 ⟨rfl, rfl⟩)
    | (go_at_call 174; refine C2.out.mono ?_; rintro e w2 ⟨rfl, hu2, hb2, _⟩
       have hs2 := hb2.size
       have d0 := HN.out w2 hb2
       obtain ⟨r2, _, _, _, _, _, d3⟩ := HD.out w2 hb2
       have C4 := hid (C3.out w2 hu2 (by omega)))
    | (go_at_call 176; refine C4.out.mono ?_; rintro e w3 ⟨rfl, hu3, hb3⟩)
  go_end0
  exact ⟨rfl, hu3, hb2.trans hb3⟩
end
end Go.Proofs.YtabogkonklplcaaGreatDoor

namespace Go.Proofs.YtabogkonklplcaaGreatDoor
set_option linter.unusedSimpArgs false
set_option linter.unusedVariables false
theorem leP_append (C : List Nat) {P Q : List Nat} (h : leP P Q) : leP (C ++ P) (C ++ Q) := by
  induction C with
  | nil => exact h
  | cons a C ih => exact leP_cons ih
theorem way_climb {s : List Nd} (wf : WF s) {t n : Nat} {l : List Nat} (w : Way s t n l) : ∃ q, climb s q n = (t : Int) := by
  induction w with
  | top => exact ⟨0, rfl⟩
  | @down q c i l y w hq hi ih =>
    obtain ⟨m, hm⟩ := ih
    obtain ⟨z, hz, hzp⟩ := wf.kid q y hq c (List.mem_of_getElem? hi)
    have h1 : climb s 1 c = (q : Int) := by simp [climb, parOf, hz, hzp]
    exact ⟨1 + m, by rw [climb_add h1 m]; exact hm⟩
theorem way_lt {s : List Nd} (wf : WF s) {t n : Nat} {l : List Nat} (w : Way s t n l) (ht : t < s.length) : n < s.length := by
  cases w with
  | top => exact ht
  | @down q c i l y w hq hi =>
    obtain ⟨z, hz, _⟩ := wf.kid q y hq n (List.mem_of_getElem? hi)
    exact (List.getElem?_eq_some_iff.1 hz).1
theorem Moves.still {s s' : List Nd} {t : Nat} {f : Mvf} (hp : ∀ (n k : Nat) (l : List Nat), PlOk s n k → Way s t n l → f n k = ((n : Int), (k : Int)) ∧ PlOk s' n k) (top : ∃ x, s'[t]? = some x ∧ x.p = -1)
    (h : ∀ (q : Nat) (l : List Nat) (y : Nd), Way s t q l → s[q]? = some y → ∃ y', s'[q]? = some y' ∧ y'.ks = y.ks) : Moves s s' t t f (fun P => P) where
  mono := fun P Q _ _ h => .inr h
  top := top
  one := fun n k l hk w => ⟨n, k, l, (hp n k l hk w).1, (hp n k l hk w).2, w.same h, rfl⟩
theorem spIs_push {s : List Nd} {z : Sp} (nd : Nd) (wf : WF s) (h : SpIs s z) : SpIs (s ++ [nd]) z := by
  obtain ⟨n, k, n2, k2, t, l, l2, rfl, h1, h2, ht, w1, w2, hle⟩ := h
  have same : ∀ (q : Nat) (y : Nd), s[q]? = some y → (s ++ [nd])[q]? = some y := fun q y hq => by
    rw [List.getElem?_append_left (List.getElem?_eq_some_iff.1 hq).1]; exact hq
  have hw : ∀ {n l}, Way s t n l → Way (s ++ [nd]) t n l := fun w => w.same (fun q l y _ hq => ⟨y, same q y hq, rfl⟩)
  refine ⟨n, k, n2, k2, t, l, l2, rfl, h1.push nd, h2.push nd, ?_, hw w1, hw w2, hle⟩
  obtain ⟨⟨m, hm⟩, x, hx, hp⟩ := ht
  refine ⟨?_, x, same t x hx, hp⟩
  have key : ∀ (m n : Nat), n < s.length → climb s m n = (t : Int) → ∃ m', climb (s ++ [nd]) m' n = (t : Int) := by
    intro m
    induction m with
    | zero => intro n _ h; exact ⟨0, by simpa [climb] using h⟩
    | succ m ih =>
      intro n hn h
      have hx := List.getElem?_eq_getElem hn
      rcases wf.par n _ hx with hp | ⟨i, y, hp, hy, hc⟩
      · exfalso
        have h1 : climb s 1 n = -1 := by simp [climb, parOf, hx, hp]
        have h2 := climb_neg (s := s) (j := 1) (n := n) (by rw [h1]; decide) m
        rw [Nat.add_comm] at h2
        omega
      · have h1 : climb s 1 n = (i : Int) := by simp [climb, parOf, hx, hp]
        have h2 := climb_add h1 m
        rw [Nat.add_comm] at h2
        rw [h2] at h
        obtain ⟨m', hm'⟩ := ih i (List.getElem?_eq_some_iff.1 hy).1 h
        have h3 : climb (s ++ [nd]) 1 n = (i : Int) := by simp [climb, parOf, same n _ hx, hp]
        exact ⟨1 + m', by rw [climb_add h3 m']; exact hm'⟩
  obtain ⟨n0, k0, e1, e2, hn, _⟩ := h1
  exact key m n (by omega) hm
section
variable {s : List Nd} {i j k : Nat} {x y : Nd}
def gIns (k : Nat) : List Nat → List Nat
  | [] => []
  | a :: r => (if 2 * k < a then a + 2 else a) :: r
theorem gIns_mono (k : Nat) (R R' : List Nat) (h : lexN R R') : leP (gIns k R) (gIns k R') := by
  cases R' with
  | nil => exact absurd h (fun h => lexN_nil h)
  | cons b R' =>
    cases R with
    | nil => exact .inr .nil
    | cons a R =>
      rcases lexN_cons h with hab | ⟨rfl, h'⟩
      · refine .inr (.rel ?_)
        show (if 2 * k < a then a + 2 else a) < (if 2 * k < b then b + 2 else b)
        split <;> split <;> omega
      · exact .inr (.cons h')
theorem ins_get (ks : List Nat) (k c d j : Nat) (h : ks[c]? = some d) : (ks.take k ++ j :: ks.drop k)[if k ≤ c then c + 1 else c]? = some d := by
  have hc := (List.getElem?_eq_some_iff.1 h).1
  by_cases hk : k ≤ c
  · rw [if_pos hk, List.getElem?_append_right (by simp; omega)]
    have e : c + 1 - (ks.take k).length = (c - k) + 1 := by simp; omega
    rw [e, List.getElem?_cons_succ, List.getElem?_drop]
    rw [show k + (c - k) = c by omega]
    exact h
  · rw [if_neg hk, List.getElem?_append_left (by simp; omega), List.getElem?_take, if_pos (by omega)]
    exact h
theorem moves_insert (wf : WF s) (hI : InsOk s i j x y) (hw : Lim (fun c => withinF s c (i : Int) (j : Int)) false) (hk : k ≤ x.ks.length) (hij : i ≠ j) (t : Nat) (ht : ∃ z, s[t]? = some z ∧ z.p = -1) :
    ∃ t' E, Moves s ((s.set i { x with ks := x.ks.take k ++ j :: x.ks.drop k }).set j { y with p := i }) t t' (shiftF i k 1) E := by
  obtain ⟨hx, hy, hxt, hj0, hyp⟩ := hI
  have hil := (List.getElem?_eq_some_iff.1 hx).1
  have hjl := (List.getElem?_eq_some_iff.1 hy).1
  obtain ⟨h, B, u⟩ := wf.up
  obtain ⟨ti, hti⟩ := top_there wf i hil
  obtain ⟨li, wi⟩ := way_to wf hti hil
  obtain ⟨xt, hxt', hpt⟩ := hti.2
  have hpl : ∀ (a b : Int), PlOk s a b → PlOk ((s.set i { x with ks := x.ks.take k ++ j :: x.ks.drop k }).set j { y with p := i }) (shiftF i k 1 a b).1 (shiftF i k 1 a b).2 := fun a b hp => hp.insert hx hy hij hxt hk
  have gi : ((s.set i { x with ks := x.ks.take k ++ j :: x.ks.drop k }).set j { y with p := i })[i]? = some { x with ks := x.ks.take k ++ j :: x.ks.drop k } := by
    rw [List.getElem?_set_ne (fun e => hij e.symm), List.getElem?_set_self hil]
  have gj : ((s.set i { x with ks := x.ks.take k ++ j :: x.ks.drop k }).set j { y with p := i })[j]? = some { y with p := i } := by
    rw [List.getElem?_set_self (by simpa using hjl)]
  have go : ∀ q, q ≠ i → q ≠ j → ((s.set i { x with ks := x.ks.take k ++ j :: x.ks.drop k }).set j { y with p := i })[q]? = s[q]? := fun q h1 h2 => by
    rw [List.getElem?_set_ne (fun e => h2 e.symm), List.getElem?_set_ne (fun e => h1 e.symm)]
  have same : ∀ (q : Nat) (z : Nd), q ≠ i → s[q]? = some z → ∃ z', ((s.set i { x with ks := x.ks.take k ++ j :: x.ks.drop k }).set j { y with p := i })[q]? = some z' ∧ z'.ks = z.ks := fun q z hq hz => by
    by_cases hqj : q = j
    · subst hqj
      rw [hy] at hz
      cases hz
      exact ⟨_, gj, rfl⟩
    · exact ⟨z, by rw [go q hq hqj]; exact hz, rfl⟩
  have notin : ∀ l, ¬ Way s j i l := fun l w => by
    obtain ⟨q, hq⟩ := way_climb wf w
    have := (within_true_of_climb u q i j hil hq).unique hw
    cases this
  have htij : ti ≠ j := fun e => by subst e; exact notin li wi
  have topi : ∃ z, ((s.set i { x with ks := x.ks.take k ++ j :: x.ks.drop k }).set j { y with p := i })[ti]? = some z ∧ z.p = -1 := by
    by_cases e : ti = i
    · subst e
      rw [hx] at hxt'
      cases hxt'
      exact ⟨_, gi, hpt⟩
    · exact ⟨xt, by rw [go ti e htij]; exact hxt', hpt⟩
  have hway : ∀ {n l}, Way s ti n l → ∃ l', Way ((s.set i { x with ks := x.ks.take k ++ j :: x.ks.drop k }).set j { y with p := i }) ti n l' ∧ enc l' = under (enc li) (gIns k) (enc l) := fun w =>
    Way.moved wf ⟨xt, hxt', hpt⟩ wi (fun _ => False) (fun c => if k ≤ c then c + 1 else c) rfl (fun a r e => rfl)
      (fun c d z _ _ _ => by
        show [if 2 * k < 2 * c + 1 then 2 * c + 1 + 2 else 2 * c + 1] = [2 * (if k ≤ c then c + 1 else c) + 1]
        by_cases hc : k ≤ c
        · rw [if_pos (by omega), if_pos hc]
          exact congrArg (fun a => [a]) (by omega)
        · rw [if_neg (by omega), if_neg hc])
      (fun c d z hz hd _ => by
        rw [hx] at hz
        cases hz
        exact ⟨_, gi, ins_get x.ks k c d j hd⟩)
      (fun q c d z hq hz hd _ => by
        obtain ⟨z', h1, h2⟩ := same q z hq hz
        exact ⟨z', h1, by rw [h2]; exact hd⟩)
      (fun _ _ _ _ _ _ h => h) w (fun h => h)
  have hli : ∀ {l'}, Way ((s.set i { x with ks := x.ks.take k ++ j :: x.ks.drop k }).set j { y with p := i }) ti i l' → enc l' = under (enc li) (gIns k) (enc li) → l' = li := fun w e => by
    have h3 := under_at (enc li) (gIns k) []
    rw [List.append_nil] at h3
    rw [h3] at e
    exact enc_inj (by simpa [gIns] using e)
  by_cases h1 : t = ti
  · subst h1
    refine ⟨t, under (enc li) (gIns k), ⟨fun P Q hP hQ h => under_le2 (ok := fun _ => True) (fun R R' _ _ h => gIns_mono k R R' h) _ P Q (fun _ _ => trivial) (fun _ _ => trivial) h, topi, fun n m l hm w => ?_⟩⟩
    obtain ⟨l', w', e'⟩ := hway w
    have hp := hpl n m hm
    by_cases hn : n = i
    · subst hn
      obtain rfl := wi.only wf ⟨xt, hxt', hpt⟩ w
      obtain rfl := hli w' e'
      by_cases hkm : (k : Int) < (m : Int)
      · have e1 : shiftF n k 1 n m = ((n : Int), ((m + 1 : Nat) : Int)) := by simp [shiftF, hkm]
        rw [e1] at hp
        refine ⟨n, m + 1, l', e1, hp, w', ?_⟩
        rw [pw_eq, pw_eq, under_at]
        show enc l' ++ [2 * (m + 1)] = enc l' ++ [if 2 * k < 2 * m then 2 * m + 2 else 2 * m]
        rw [if_pos (by omega)]
        exact congrArg (fun a => enc l' ++ [a]) (by omega)
      · have e1 : shiftF n k 1 n m = ((n : Int), (m : Int)) := by simp [shiftF, hkm]
        rw [e1] at hp
        refine ⟨n, m, l', e1, hp, w', ?_⟩
        rw [pw_eq, under_at]
        show enc l' ++ [2 * m] = enc l' ++ [if 2 * k < 2 * m then 2 * m + 2 else 2 * m]
        rw [if_neg (by omega)]
    · have e1 : shiftF i k 1 n m = ((n : Int), (m : Int)) := by
        have : ¬ (n : Int) = (i : Int) := by omega
        simp [shiftF, this]
      rw [e1] at hp
      refine ⟨n, m, l', e1, hp, w', ?_⟩
      have hne : enc l ≠ enc li := fun e => hn (w.node (by rw [enc_inj e]; exact wi))
      rw [pw_eq, pw_eq, under_snoc0 (fun a r e => rfl) rfl _ _ _ hne, e']
  · have hni : ∀ (q : Nat) (l : List Nat), Way s t q l → q ≠ i := fun q l w e => by
      subst e
      obtain ⟨z, hz, hp⟩ := ht
      exact h1 ((way_top wf w hz hp).one hti)
    have hsh : ∀ (n m : Nat) (l : List Nat), Way s t n l → shiftF i k 1 n m = ((n : Int), (m : Int)) := fun n m l w => by
      have : ¬ (n : Int) = (i : Int) := by have := hni n l w; omega
      simp [shiftF, this]
    by_cases h2 : t = j
    · subst h2
      refine ⟨ti, fun P => enc li ++ (2 * k + 1) :: P, ⟨fun P Q _ _ h => leP_append _ (leP_cons (.inr h)), topi, fun n m l hm w => ?_⟩⟩
      have hp := hpl n m hm
      rw [hsh n m l w] at hp
      obtain ⟨l', w', e'⟩ := hway wi
      obtain rfl := hli w' e'
      have wj : Way ((s.set i { x with ks := x.ks.take k ++ t :: x.ks.drop k }).set t { y with p := i }) ti t (l' ++ [k]) := .down w' gi (by
        show (x.ks.take k ++ t :: x.ks.drop k)[k]? = some t
        rw [List.getElem?_append_right (by simp; omega)]
        have : k - (x.ks.take k).length = 0 := by simp; omega
        rw [this]; rfl)
      have wn := w.same (s' := (s.set i { x with ks := x.ks.take k ++ t :: x.ks.drop k }).set t { y with p := i }) (fun q l2 z wq hz => same q z (hni q l2 wq) hz)
      refine ⟨n, m, (l' ++ [k]) ++ l, hsh n m l w, hp, wj.append wn, ?_⟩
      simp [pw_eq, enc]
    · obtain ⟨z, hz, hzp⟩ := ht
      have hti' : t ≠ i := hni t [] .top
      exact ⟨t, _, Moves.still (fun n m l hm w => ⟨hsh n m l w, by have := hpl n m hm; rw [hsh n m l w] at this; exact this⟩) ⟨z, by rw [go t hti' h2]; exact hz, hzp⟩ (fun q l y w hq => same q y (hni q l w) hq)⟩
end
end Go.Proofs.YtabogkonklplcaaGreatDoor
