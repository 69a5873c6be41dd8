import Derived.Test.YtabogkonklplcaaGreatDoorL18
import Derived.Test.YtabogkonklplcaaGreatDoorL16
import Derived.Test.YtabogkonklplcaaGreatDoorL13
import Derived.Test.YtabogkonklplcaaGreatDoorL24

namespace Go.Proofs.YtabogkonklplcaaGreatDoor
open Go.RowKit
set_option linter.unusedSimpArgs false
set_option linter.unusedVariables false
end Go.Proofs.YtabogkonklplcaaGreatDoor

namespace Go.Proofs.YtabogkonklplcaaGreatDoor
set_option linter.unusedSimpArgs false
set_option linter.unusedVariables false
theorem IsTop.climb {s : List Nd} {a p q t : Nat} (ta : IsTop s a t) (hq : climb s q a = (p : Int)) : IsTop s p t := by
  obtain ⟨M, hM⟩ := ta.1
  refine ⟨?_, ta.2⟩
  rcases Nat.lt_or_ge M q with hlt | hge
  · exfalso
    obtain ⟨x0, hx0, hp0⟩ := ta.2
    have h1 : Go.Proofs.YtabogkonklplcaaGreatDoor.climb s (M + 1) a < 0 := by rw [climb_step hM]; simp [parOf, hx0, hp0]
    have h2 := climb_neg h1 (q - (M + 1))
    rw [show M + 1 + (q - (M + 1)) = q by omega, hq] at h2
    omega
  · have := climb_add hq (M - q)
    rw [show q + (M - q) = M by omega, hM] at this
    exact ⟨_, this.symm⟩
theorem IsTop.par {s : List Nd} {n j t : Nat} {x : Nd} (h : IsTop s n t) (hx : s[n]? = some x) (hj : x.p = (j : Int)) : IsTop s j t :=
  h.climb (q := 1) (by rw [climb_step (j := 0) (e := n) rfl]; simp [parOf, hx, hj])
section
variable {s : List Nd} {h : Nat → Nat} {B a b c d t : Nat}
end
end Go.Proofs.YtabogkonklplcaaGreatDoor

namespace Go.Proofs.YtabogkonklplcaaGreatDoor
set_option linter.unusedSimpArgs false
set_option linter.unusedVariables false
theorem leP_append (C : List Nat) {P Q : List Nat} (h : leP P Q) : leP (C ++ P) (C ++ Q) := by
  induction C with
  | nil => exact h
  | cons a C ih => exact leP_cons ih
theorem way_climb {s : List Nd} (wf : WF s) {t n : Nat} {l : List Nat} (w : Way s t n l) : ∃ q, climb s q n = (t : Int) := by
  induction w with
  | top => exact ⟨0, rfl⟩
  | @down q c i l y w hq hi ih =>
    obtain ⟨m, hm⟩ := ih
    obtain ⟨z, hz, hzp⟩ := wf.kid q y hq c (List.mem_of_getElem? hi)
    have h1 : climb s 1 c = (q : Int) := by simp [climb, parOf, hz, hzp]
    exact ⟨1 + m, by rw [climb_add h1 m]; exact hm⟩
theorem way_lt {s : List Nd} (wf : WF s) {t n : Nat} {l : List Nat} (w : Way s t n l) (ht : t < s.length) : n < s.length := by
  cases w with
  | top => exact ht
  | @down q c i l y w hq hi =>
    obtain ⟨z, hz, _⟩ := wf.kid q y hq n (List.mem_of_getElem? hi)
    exact (List.getElem?_eq_some_iff.1 hz).1
theorem Moves.still {s s' : List Nd} {t : Nat} {f : Mvf} (hp : ∀ (n k : Nat) (l : List Nat), PlOk s n k → Way s t n l → f n k = ((n : Int), (k : Int)) ∧ PlOk s' n k) (top : ∃ x, s'[t]? = some x ∧ x.p = -1)
    (h : ∀ (q : Nat) (l : List Nat) (y : Nd), Way s t q l → s[q]? = some y → ∃ y', s'[q]? = some y' ∧ y'.ks = y.ks) : Moves s s' t t f (fun P => P) where
  mono := fun P Q _ _ h => .inr h
  top := top
  one := fun n k l hk w => ⟨n, k, l, (hp n k l hk w).1, (hp n k l hk w).2, w.same h, rfl⟩
theorem spIs_push {s : List Nd} {z : Sp} (nd : Nd) (wf : WF s) (h : SpIs s z) : SpIs (s ++ [nd]) z := by
  obtain ⟨n, k, n2, k2, t, l, l2, rfl, h1, h2, ht, w1, w2, hle⟩ := h
  have same : ∀ (q : Nat) (y : Nd), s[q]? = some y → (s ++ [nd])[q]? = some y := fun q y hq => by
    rw [List.getElem?_append_left (List.getElem?_eq_some_iff.1 hq).1]; exact hq
  have hw : ∀ {n l}, Way s t n l → Way (s ++ [nd]) t n l := fun w => w.same (fun q l y _ hq => ⟨y, same q y hq, rfl⟩)
  refine ⟨n, k, n2, k2, t, l, l2, rfl, h1.push nd, h2.push nd, ?_, hw w1, hw w2, hle⟩
  obtain ⟨⟨m, hm⟩, x, hx, hp⟩ := ht
  refine ⟨?_, x, same t x hx, hp⟩
  have key : ∀ (m n : Nat), n < s.length → climb s m n = (t : Int) → ∃ m', climb (s ++ [nd]) m' n = (t : Int) := by
    intro m
    induction m with
    | zero => intro n _ h; exact ⟨0, by simpa [climb] using h⟩
    | succ m ih =>
      intro n hn h
      have hx := List.getElem?_eq_getElem hn
      rcases wf.par n _ hx with hp | ⟨i, y, hp, hy, hc⟩
      · exfalso
        have h1 : climb s 1 n = -1 := by simp [climb, parOf, hx, hp]
        have h2 := climb_neg (s := s) (j := 1) (n := n) (by rw [h1]; decide) m
        rw [Nat.add_comm] at h2
        omega
      · have h1 : climb s 1 n = (i : Int) := by simp [climb, parOf, hx, hp]
        have h2 := climb_add h1 m
        rw [Nat.add_comm] at h2
        rw [h2] at h
        obtain ⟨m', hm'⟩ := ih i (List.getElem?_eq_some_iff.1 hy).1 h
        have h3 : climb (s ++ [nd]) 1 n = (i : Int) := by simp [climb, parOf, same n _ hx, hp]
        exact ⟨1 + m', by rw [climb_add h3 m']; exact hm'⟩
  obtain ⟨n0, k0, e1, e2, hn, _⟩ := h1
  exact key m n (by omega) hm
section
variable {s : List Nd} {i j k : Nat} {x y : Nd}
def gIns (k : Nat) : List Nat → List Nat
  | [] => []
  | a :: r => (if 2 * k < a then a + 2 else a) :: r
theorem gIns_mono (k : Nat) (R R' : List Nat) (h : lexN R R') : leP (gIns k R) (gIns k R') := by
  cases R' with
  | nil => exact absurd h (fun h => lexN_nil h)
  | cons b R' =>
    cases R with
    | nil => exact .inr .nil
    | cons a R =>
      rcases lexN_cons h with hab | ⟨rfl, h'⟩
      · refine .inr (.rel ?_)
        show (if 2 * k < a then a + 2 else a) < (if 2 * k < b then b + 2 else b)
        split <;> split <;> omega
      · exact .inr (.cons h')
theorem ins_get (ks : List Nat) (k c d j : Nat) (h : ks[c]? = some d) : (ks.take k ++ j :: ks.drop k)[if k ≤ c then c + 1 else c]? = some d := by
  have hc := (List.getElem?_eq_some_iff.1 h).1
  by_cases hk : k ≤ c
  · rw [if_pos hk, List.getElem?_append_right (by simp; omega)]
    have e : c + 1 - (ks.take k).length = (c - k) + 1 := by simp; omega
    rw [e, List.getElem?_cons_succ, List.getElem?_drop]
    rw [show k + (c - k) = c by omega]
    exact h
  · rw [if_neg hk, List.getElem?_append_left (by simp; omega), List.getElem?_take, if_pos (by omega)]
    exact h
theorem moves_insert (wf : WF s) (hI : InsOk s i j x y) (hw : Lim (fun c => withinF s c (i : Int) (j : Int)) false) (hk : k ≤ x.ks.length) (hij : i ≠ j) (t : Nat) (ht : ∃ z, s[t]? = some z ∧ z.p = -1) :
    ∃ t' E, Moves s ((s.set i { x with ks := x.ks.take k ++ j :: x.ks.drop k }).set j { y with p := i }) t t' (shiftF i k 1) E := by
  obtain ⟨hx, hy, hxt, hj0, hyp⟩ := hI
  have hil := (List.getElem?_eq_some_iff.1 hx).1
  have hjl := (List.getElem?_eq_some_iff.1 hy).1
  obtain ⟨h, B, u⟩ := wf.up
  obtain ⟨ti, hti⟩ := top_there wf i hil
  obtain ⟨li, wi⟩ := way_to wf hti hil
  obtain ⟨xt, hxt', hpt⟩ := hti.2
  have hpl : ∀ (a b : Int), PlOk s a b → PlOk ((s.set i { x with ks := x.ks.take k ++ j :: x.ks.drop k }).set j { y with p := i }) (shiftF i k 1 a b).1 (shiftF i k 1 a b).2 := fun a b hp => hp.insert hx hy hij hxt hk
  have gi : ((s.set i { x with ks := x.ks.take k ++ j :: x.ks.drop k }).set j { y with p := i })[i]? = some { x with ks := x.ks.take k ++ j :: x.ks.drop k } := by
    rw [List.getElem?_set_ne (fun e => hij e.symm), List.getElem?_set_self hil]
  have gj : ((s.set i { x with ks := x.ks.take k ++ j :: x.ks.drop k }).set j { y with p := i })[j]? = some { y with p := i } := by
    rw [List.getElem?_set_self (by simpa using hjl)]
  have go : ∀ q, q ≠ i → q ≠ j → ((s.set i { x with ks := x.ks.take k ++ j :: x.ks.drop k }).set j { y with p := i })[q]? = s[q]? := fun q h1 h2 => by
    rw [List.getElem?_set_ne (fun e => h2 e.symm), List.getElem?_set_ne (fun e => h1 e.symm)]
  have same : ∀ (q : Nat) (z : Nd), q ≠ i → s[q]? = some z → ∃ z', ((s.set i { x with ks := x.ks.take k ++ j :: x.ks.drop k }).set j { y with p := i })[q]? = some z' ∧ z'.ks = z.ks := fun q z hq hz => by
    by_cases hqj : q = j
    · subst hqj
      rw [hy] at hz
      cases hz
      exact ⟨_, gj, rfl⟩
    · exact ⟨z, by rw [go q hq hqj]; exact hz, rfl⟩
  have notin : ∀ l, ¬ Way s j i l := fun l w => by
    obtain ⟨q, hq⟩ := way_climb wf w
    have := (within_true_of_climb u q i j hil hq).unique hw
    cases this
  have htij : ti ≠ j := fun e => by subst e; exact notin li wi
  have topi : ∃ z, ((s.set i { x with ks := x.ks.take k ++ j :: x.ks.drop k }).set j { y with p := i })[ti]? = some z ∧ z.p = -1 := by
    by_cases e : ti = i
    · subst e
      rw [hx] at hxt'
      cases hxt'
      exact ⟨_, gi, hpt⟩
    · exact ⟨xt, by rw [go ti e htij]; exact hxt', hpt⟩
  have hway : ∀ {n l}, Way s ti n l → ∃ l', Way ((s.set i { x with ks := x.ks.take k ++ j :: x.ks.drop k }).set j { y with p := i }) ti n l' ∧ enc l' = under (enc li) (gIns k) (enc l) := fun w =>
    Way.moved wf ⟨xt, hxt', hpt⟩ wi (fun _ => False) (fun c => if k ≤ c then c + 1 else c) rfl (fun a r e => rfl)
      (fun c d z _ _ _ => by
        show [if 2 * k < 2 * c + 1 then 2 * c + 1 + 2 else 2 * c + 1] = [2 * (if k ≤ c then c + 1 else c) + 1]
        by_cases hc : k ≤ c
        · rw [if_pos (by omega), if_pos hc]
          exact congrArg (fun a => [a]) (by omega)
        · rw [if_neg (by omega), if_neg hc])
      (fun c d z hz hd _ => by
        rw [hx] at hz
        cases hz
        exact ⟨_, gi, ins_get x.ks k c d j hd⟩)
      (fun q c d z hq hz hd _ => by
        obtain ⟨z', h1, h2⟩ := same q z hq hz
        exact ⟨z', h1, by rw [h2]; exact hd⟩)
      (fun _ _ _ _ _ _ h => h) w (fun h => h)
  have hli : ∀ {l'}, Way ((s.set i { x with ks := x.ks.take k ++ j :: x.ks.drop k }).set j { y with p := i }) ti i l' → enc l' = under (enc li) (gIns k) (enc li) → l' = li := fun w e => by
    have h3 := under_at (enc li) (gIns k) []
    rw [List.append_nil] at h3
    rw [h3] at e
    exact enc_inj (by simpa [gIns] using e)
  by_cases h1 : t = ti
  · subst h1
    refine ⟨t, under (enc li) (gIns k), ⟨fun P Q hP hQ h => under_le2 (ok := fun _ => True) (fun R R' _ _ h => gIns_mono k R R' h) _ P Q (fun _ _ => trivial) (fun _ _ => trivial) h, topi, fun n m l hm w => ?_⟩⟩
    obtain ⟨l', w', e'⟩ := hway w
    have hp := hpl n m hm
    by_cases hn : n = i
    · subst hn
      obtain rfl := wi.only wf ⟨xt, hxt', hpt⟩ w
      obtain rfl := hli w' e'
      by_cases hkm : (k : Int) < (m : Int)
      · have e1 : shiftF n k 1 n m = ((n : Int), ((m + 1 : Nat) : Int)) := by simp [shiftF, hkm]
        rw [e1] at hp
        refine ⟨n, m + 1, l', e1, hp, w', ?_⟩
        rw [pw_eq, pw_eq, under_at]
        show enc l' ++ [2 * (m + 1)] = enc l' ++ [if 2 * k < 2 * m then 2 * m + 2 else 2 * m]
        rw [if_pos (by omega)]
        exact congrArg (fun a => enc l' ++ [a]) (by omega)
      · have e1 : shiftF n k 1 n m = ((n : Int), (m : Int)) := by simp [shiftF, hkm]
        rw [e1] at hp
        refine ⟨n, m, l', e1, hp, w', ?_⟩
        rw [pw_eq, under_at]
        show enc l' ++ [2 * m] = enc l' ++ [if 2 * k < 2 * m then 2 * m + 2 else 2 * m]
        rw [if_neg (by omega)]
    · have e1 : shiftF i k 1 n m = ((n : Int), (m : Int)) := by
        have : ¬ (n : Int) = (i : Int) := by omega
        simp [shiftF, this]
      rw [e1] at hp
      refine ⟨n, m, l', e1, hp, w', ?_⟩
      have hne : enc l ≠ enc li := fun e => hn (w.node (by rw [enc_inj e]; exact wi))
      rw [pw_eq, pw_eq, under_snoc0 (fun a r e => rfl) rfl _ _ _ hne, e']
  · have hni : ∀ (q : Nat) (l : List Nat), Way s t q l → q ≠ i := fun q l w e => by
      subst e
      obtain ⟨z, hz, hp⟩ := ht
      exact h1 ((way_top wf w hz hp).one hti)
    have hsh : ∀ (n m : Nat) (l : List Nat), Way s t n l → shiftF i k 1 n m = ((n : Int), (m : Int)) := fun n m l w => by
      have : ¬ (n : Int) = (i : Int) := by have := hni n l w; omega
      simp [shiftF, this]
    by_cases h2 : t = j
    · subst h2
      refine ⟨ti, fun P => enc li ++ (2 * k + 1) :: P, ⟨fun P Q _ _ h => leP_append _ (leP_cons (.inr h)), topi, fun n m l hm w => ?_⟩⟩
      have hp := hpl n m hm
      rw [hsh n m l w] at hp
      obtain ⟨l', w', e'⟩ := hway wi
      obtain rfl := hli w' e'
      have wj : Way ((s.set i { x with ks := x.ks.take k ++ t :: x.ks.drop k }).set t { y with p := i }) ti t (l' ++ [k]) := .down w' gi (by
        show (x.ks.take k ++ t :: x.ks.drop k)[k]? = some t
        rw [List.getElem?_append_right (by simp; omega)]
        have : k - (x.ks.take k).length = 0 := by simp; omega
        rw [this]; rfl)
      have wn := w.same (s' := (s.set i { x with ks := x.ks.take k ++ t :: x.ks.drop k }).set t { y with p := i }) (fun q l2 z wq hz => same q z (hni q l2 wq) hz)
      refine ⟨n, m, (l' ++ [k]) ++ l, hsh n m l w, hp, wj.append wn, ?_⟩
      simp [pw_eq, enc]
    · obtain ⟨z, hz, hzp⟩ := ht
      have hti' : t ≠ i := hni t [] .top
      exact ⟨t, _, Moves.still (fun n m l hm w => ⟨hsh n m l w, by have := hpl n m hm; rw [hsh n m l w] at this; exact this⟩) ⟨z, by rw [go t hti' h2]; exact hz, hzp⟩ (fun q l y w hq => same q y (hni q l w) hq)⟩
end
end Go.Proofs.YtabogkonklplcaaGreatDoor
