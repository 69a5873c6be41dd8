import Derived.Test.YtabogkonklplcaaGreatDoorV21
import Derived.Test.YtabogkonklplcaaGreatDoorV10
import Derived.Test.YtabogkonklplcaaGreatDoorV27
import Derived.Test.YtabogkonklplcaaGreatDoorV30
import Derived.Test.YtabogkonklplcaaGreatDoorV29
import Derived.Test.YtabogkonklplcaaGreatDoorV19

namespace Go.Proofs.YtabogkonklplcaaGreatDoor
set_option linter.unusedSimpArgs false
set_option linter.unusedVariables false
theorem idxOf_nat (l : List Nat) (m n : Nat) (h : l[m]? = some n) (hno : n ∉ l.take m) : l.idxOf n = m := by
  induction l generalizing m with
  | nil => simp at h
  | cons a l ih =>
    cases m with
    | zero =>
      simp at h
      subst h
      simp
    | succ m =>
      simp only [List.take_succ_cons, List.mem_cons, not_or] at hno
      simp only [List.getElem?_cons_succ] at h
      rw [List.idxOf_cons, ih m h hno.2]
      have : (a == n) = false := by simpa using fun e => hno.1 e.symm
      simp [this]
def insB (s : List Nd) (L : List (Nat × Nat)) (a b c d n : Nat) : Bool :=
  match s[n]? with
  | none => false
  | some x => if x.p < 0 then false else
    match s[x.p.toNat]? with
    | none => false
    | some y => cov L a b c d x.p.toNat (y.ks.idxOf n)
theorem insB_at {s : List Nd} {L : List (Nat × Nat)} {a b c d n j m : Nat} {x y : Nd} (hx : s[n]? = some x) (hj : x.p = (j : Int)) (hy : s[j]? = some y) (hm : y.ks[m]? = some n) (hno : n ∉ y.ks.take m) : insB s L a b c d n = cov L a b c d j m := by
  have e : x.p.toNat = j := by rw [hj]; rfl
  unfold insB
  rw [hx]
  simp only
  rw [if_neg (by rw [hj]; omega), e, hy]
  simp only
  rw [idxOf_nat _ _ _ hm hno]
theorem insB_top {s : List Nd} {L : List (Nat × Nat)} {a b c d n : Nat} {x : Nd} (hx : s[n]? = some x) (hp : x.p < 0) : insB s L a b c d n = false := by
  unfold insB
  rw [hx]
  simp only
  rw [if_pos hp]
theorem insB_par {s : List Nd} {L : List (Nat × Nat)} {a b c d n : Nat} (h : insB s L a b c d n = true) : ∃ x, s[n]? = some x ∧ 0 ≤ x.p := by
  unfold insB at h
  split at h
  · cases h
  · rename_i x hx
    split at h
    · cases h
    · exact ⟨x, hx, by omega⟩
def goesB (s : List Nd) (L : List (Nat × Nat)) (a b c d n : Nat) : Bool := insB s L a b c d n && !insB s L a b c d (parOf s n).toNat
def leaveF (s : List Nd) (L : List (Nat × Nat)) (a b c d : Nat) (ns : List Nat) : List Nat := ns.filter (goesB s L a b c d)
theorem leaveF_snoc (s : List Nd) (L : List (Nat × Nat)) (a b c d : Nat) (ns : List Nat) (n : Nat) : leaveF s L a b c d (ns ++ [n]) = leaveF s L a b c d ns ++ (if goesB s L a b c d n then [n] else []) := by
  simp [leaveF, List.filter_append, List.filter_cons]
theorem leave_len (s : List Nd) (L : List (Nat × Nat)) (a b c d : Nat) (ns : List Nat) : (leaveF s L a b c d ns).length ≤ ns.length := List.length_filter_le _ _
theorem leave_mem {s : List Nd} (wf : WF s) {L : List (Nat × Nat)} {a b c d n : Nat} {ns : List Nat} (h : n ∈ leaveF s L a b c d ns) : ∃ (x y : Nd) (j m : Nat), s[n]? = some x ∧ x.p = (j : Int) ∧ s[j]? = some y ∧ y.ks[m]? = some n ∧ n ∉ y.ks.take m ∧ cov L a b c d j m = true := by
  have h1 := (List.mem_filter.1 h).2
  unfold goesB at h1
  rw [Bool.and_eq_true] at h1
  obtain ⟨x, hx, hp⟩ := insB_par h1.1
  obtain ⟨j, m, y, hj, hy, hm, hno, _⟩ := wf.place hx hp
  exact ⟨x, y, j, m, hx, hj, hy, hm, hno, by rw [← insB_at hx hj hy hm hno]; exact h1.1⟩
theorem climb_lt {s : List Nd} (wf : WF s) {a : Nat} (ha : a < s.length) : ∀ (q n : Nat), climb s q a = (n : Int) → n < s.length := by
  intro q
  cases q with
  | zero => intro n h; simp [climb] at h; omega
  | succ q =>
    intro n h
    by_cases hneg : climb s q a < 0
    · simp [climb, hneg] at h
    · obtain ⟨m, hm⟩ := Int.eq_ofNat_of_zero_le (show 0 ≤ climb s q a by omega)
      rw [climb_step hm] at h
      unfold parOf at h
      split at h
      · rename_i x hx
        rcases wf.par m x hx with h1 | ⟨i, y, h1, h2, _⟩
        · omega
        · have := (List.getElem?_eq_some_iff.1 h2).1
          omega
      · omega
theorem climb_way {s : List Nd} (wf : WF s) {a : Nat} : ∀ (q n : Nat), climb s q a = (n : Int) → ∃ l, Way s n a l := by
  intro q
  induction q with
  | zero =>
    intro n h
    have : a = n := by simp [climb] at h; omega
    subst this
    exact ⟨[], .top⟩
  | succ q ih =>
    intro n h
    by_cases hneg : climb s q a < 0
    · simp [climb, hneg] at h
    · obtain ⟨m, hm⟩ := Int.eq_ofNat_of_zero_le (show 0 ≤ climb s q a by omega)
      obtain ⟨l, hl⟩ := ih m hm
      rw [climb_step hm] at h
      unfold parOf at h
      split at h
      · rename_i x hx
        obtain ⟨j, k, y, hj, hy, hk, _, _⟩ := wf.place hx (by omega)
        obtain rfl : j = n := by omega
        exact ⟨[] ++ [k] ++ l, (Way.down .top hy hk).append hl⟩
      · omega
theorem IsTop.climb {s : List Nd} {a p q t : Nat} (ta : IsTop s a t) (hq : climb s q a = (p : Int)) : IsTop s p t := by
  obtain ⟨M, hM⟩ := ta.1
  refine ⟨?_, ta.2⟩
  rcases Nat.lt_or_ge M q with hlt | hge
  · exfalso
    obtain ⟨x0, hx0, hp0⟩ := ta.2
    have h1 : Go.Proofs.YtabogkonklplcaaGreatDoor.climb s (M + 1) a < 0 := by rw [climb_step hM]; simp [parOf, hx0, hp0]
    have h2 := climb_neg h1 (q - (M + 1))
    rw [show M + 1 + (q - (M + 1)) = q by omega, hq] at h2
    omega
  · have := climb_add hq (M - q)
    rw [show q + (M - q) = M by omega, hM] at this
    exact ⟨_, this.symm⟩
theorem IsTop.par {s : List Nd} {n j t : Nat} {x : Nd} (h : IsTop s n t) (hx : s[n]? = some x) (hj : x.p = (j : Int)) : IsTop s j t :=
  h.climb (q := 1) (by rw [climb_step (j := 0) (e := n) rfl]; simp [parOf, hx, hj])
theorem lexC_prefix (l x y : List Nat) : lexC (l ++ x) (l ++ y) = lexC x y := by
  induction l with
  | nil => rfl
  | cons a l ih => simp [lexC, ih]
structure JointAt (s : List Nd) (K a c q n p m : Nat) (x y : Nd) : Prop where
  up : ∀ r, r ≤ q → ∃ n' : Nat, climb s r a = (n' : Int) ∧ n' < s.length ∧ c ∉ allF s K n'
  last : climb s q a = (n : Int)
  hx : s[n]? = some x
  hp : x.p = (p : Int)
  hy : s[p]? = some y
  hm : y.ks[m]? = some n
  hno : n ∉ y.ks.take m
  hold : c ∈ allF s K p
theorem joint_there {s : List Nd} (wf : WF s) {K a c : Nat} (ha : a < s.length) (hca : c ∉ allF s K a) : ∀ (N M : Nat), M ≤ N → ∀ t : Nat, climb s M a = (t : Int) → c ∈ allF s K t → ∃ q n p m x y, JointAt s K a c q n p m x y := by
  intro N
  induction N with
  | zero =>
    intro M hM t ht hc
    obtain rfl : M = 0 := by omega
    have : a = t := by simp [climb] at ht; omega
    subst this
    exact absurd hc hca
  | succ N ih =>
    intro M hM t ht hc
    by_cases he : ∃ r, r < M ∧ ∃ n' : Nat, climb s r a = (n' : Int) ∧ c ∈ allF s K n'
    · obtain ⟨r, hr, n', h1, h2⟩ := he
      exact ih r (by omega) n' h1 h2
    · cases M with
      | zero =>
        have : a = t := by simp [climb] at ht; omega
        subst this
        exact absurd hc hca
      | succ q =>
        have hup : ∀ r, r ≤ q → ∃ n' : Nat, climb s r a = (n' : Int) ∧ n' < s.length ∧ c ∉ allF s K n' := by
          intro r hr
          by_cases hneg : climb s r a < 0
          · have := climb_neg hneg (q + 1 - r)
            rw [show r + (q + 1 - r) = q + 1 by omega, ht] at this
            omega
          · obtain ⟨m, hm⟩ := Int.eq_ofNat_of_zero_le (show 0 ≤ climb s r a by omega)
            exact ⟨m, hm, climb_lt wf ha r m hm, fun hc' => he ⟨r, by omega, m, hm, hc'⟩⟩
        obtain ⟨n, hn, hnl, _⟩ := hup q (Nat.le_refl _)
        have hx : s[n]? = some s[n] := List.getElem?_eq_getElem hnl
        have hpar := climb_step hn
        rw [ht] at hpar
        simp only [parOf, hx] at hpar
        obtain ⟨j, m, y, hj, hy, hm, hno, _⟩ := wf.place hx (by omega)
        obtain rfl : j = t := by omega
        exact ⟨q, n, j, m, _, y, hup, hn, hx, hj, hy, hm, hno, hc⟩
section
variable {s : List Nd} {h : Nat → Nat} {B a b c d t : Nat}
theorem kid_size (wf : WF s) {j m n : Nat} {y : Nd} (hy : s[j]? = some y) (hm : y.ks[m]? = some n) : y.t = false ∧ m + 1 ≤ sizeAt s j := by
  have hl := (List.getElem?_eq_some_iff.1 hm).1
  have ht : y.t = false := by
    cases e : y.t with
    | false => rfl
    | true => rw [(wf.elem j y hy).1 e] at hl; simp at hl
  exact ⟨ht, by rw [sizeAt_eq hy, sizeN_elem ht]; omega⟩
theorem start_after (wf : WF s) (u : Up s h B) (ha : a < s.length) (ta : IsTop s a t) (hb : b ≤ sizeAt s a) {m n : Nat} {y : Nd} (hy : s[a]? = some y) (hm : y.ks[m]? = some n) (hc : cov (plF s (B + 1) t) a b c d a m = true) : b ≤ m := by
  obtain ⟨l, wa⟩ := way_to wf ta ha
  have hk := (kid_size wf hy hm).2
  have h1 := cmp_ways wf u wa wa hb (show m ≤ sizeAt s a by omega) (wh_is _ _) (wh_is _ _)
  unfold cov at hc
  rw [Bool.and_eq_true, decide_eq_true_eq] at hc
  rw [lexC_prefix] at h1
  rcases Nat.lt_or_ge m b with hlt | hge
  · have e : lexC [b] [m] = 1 := by simp only [lexC]; rw [if_neg (by omega), if_pos (by omega)]
    rw [e] at h1
    split at h1
    · cases h1
    · split at h1
      · rename_i h2 h3; have := hc.1; omega
      · cases h1
  · exact hge
theorem joint_after (wf : WF s) (u : Up s h B) (ha : a < s.length) (ta : IsTop s a t) (hb : b ≤ sizeAt s a) {q n p m m' n' : Nat} {x y : Nd} (hJ : JointAt s (B + 1) a c q n p m x y) (hm : y.ks[m']? = some n') (hc : cov (plF s (B + 1) t) a b c d p m' = true) : m + 1 ≤ m' := by
  have hpl : p < s.length := (List.getElem?_eq_some_iff.1 hJ.hy).1
  obtain ⟨l2, w2⟩ := climb_way wf q n hJ.last
  have tp : IsTop s p t := ta.climb (q := q + 1) (by rw [climb_step hJ.last]; simp [parOf, hJ.hx, hJ.hp])
  obtain ⟨lp, wp⟩ := way_to wf tp hpl
  have wa : Way s t a ((lp ++ [m]) ++ l2) := (Way.down wp hJ.hy hJ.hm).append w2
  have hk := (kid_size wf hJ.hy hm).2
  have h1 := cmp_ways wf u wa wp hb (show m' ≤ sizeAt s p by omega) (wh_is _ _) (wh_is _ _)
  unfold cov at hc
  rw [Bool.and_eq_true, decide_eq_true_eq] at hc
  have e0 : lp ++ [m] ++ l2 ++ [b] = lp ++ (m :: (l2 ++ [b])) := by simp
  rw [e0, lexC_prefix] at h1
  rcases Nat.lt_or_ge m m' with hlt | hge
  · exact hlt
  · have e : lexC (m :: (l2 ++ [b])) [m'] = 1 := by
      simp only [lexC]
      rw [if_neg (by omega)]
      split
      · rfl
      · cases hl : l2 ++ [b] with
        | nil => simp at hl
        | cons a l => rfl
    rw [e] at h1
    split at h1
    · cases h1
    · split at h1
      · have := hc.1; omega
      · cases h1
end
end Go.Proofs.YtabogkonklplcaaGreatDoor

namespace Go.Proofs.YtabogkonklplcaaGreatDoor
set_option linter.unusedSimpArgs false
set_option linter.unusedVariables false
abbrev Dact : Type := Nat × Option (Nat × Nat)
inductive Chg : List Nd → Dact → List Nd → Mvf → Prop
  | cut {s : List Nd} {n o e : Nat} {x : Nd} : s[n]? = some x → x.t = true → o ≤ e → e ≤ x.cs.length →
      Chg s (n, some (o, e)) (s.set n { x with cs := x.cs.take o ++ [] ++ x.cs.drop (o + (e - o)) }) (resizeF n o ((e - o : Nat) : Int) (([] : List ByteArray).length : Int))
  | rem {s : List Nd} {i j m : Nat} {x y : Nd} {h2 : Nat → Nat} {H2 : Nat} : s[i]? = some x → x.p = (j : Int) → s[j]? = some y → y.ks[m]? = some i → i ∉ y.ks.take m → i ≠ j →
      WF ((s.set j { y with ks := y.ks.take m ++ y.ks.drop (m + 1) }).set i { x with p := -1 }) → Up ((s.set j { y with ks := y.ks.take m ++ y.ks.drop (m + 1) }).set i { x with p := -1 }) h2 H2 →
      Chg s (i, none) ((s.set j { y with ks := y.ks.take m ++ y.ks.drop (m + 1) }).set i { x with p := -1 }) (gatherF (allF ((s.set j { y with ks := y.ks.take m ++ y.ks.drop (m + 1) }).set i { x with p := -1 }) (h2 i + 1) i) j m (shiftF j m (-1)))
inductive Chgs : List Nd → List Dact → List Nd → List Mvf → Prop
  | nil {s : List Nd} : Chgs s [] s []
  | cons {s s1 s' : List Nd} {a : Dact} {ac : List Dact} {f : Mvf} {fs : List Mvf} : Chg s a s1 f → Chgs s1 ac s' fs → Chgs s (a :: ac) s' (f :: fs)
theorem Chgs.append {s s1 s' : List Nd} {ac bs : List Dact} {fs gs : List Mvf} (h : Chgs s ac s1 fs) (h2 : Chgs s1 bs s' gs) : Chgs s (ac ++ bs) s' (fs ++ gs) := by
  induction h with
  | nil => exact h2
  | cons c _ ih => exact .cons c (ih h2)
theorem Chgs.len {s s' : List Nd} {ac : List Dact} {fs : List Mvf} (h : Chgs s ac s' fs) : fs.length = ac.length := by
  induction h with
  | nil => rfl
  | cons _ _ ih => simp [ih]
def compF (fs : List Mvf) : Mvf := fun a b => fs.foldl (fun p f => f p.1 p.2) (a, b)
theorem compF_nil : mvSp (compF []) = id := by funext z; rfl
theorem compF_cons (f : Mvf) (fs : List Mvf) (z : Sp) : mvSp (compF (f :: fs)) z = mvSp (compF fs) (mvSp f z) := rfl
theorem map_nil' (rs : List Sp) : rs.map (mvSp (compF [])) = rs := by rw [compF_nil]; simp
theorem map_cons' (f : Mvf) (fs : List Mvf) (rs : List Sp) : rs.map (mvSp (compF (f :: fs))) = (rs.map (mvSp f)).map (mvSp (compF fs)) := by
  rw [List.map_map]; rfl
theorem cut_chars {s : List Nd} (wf : WF s) {n o e : Nat} {x : Nd} (hx : s[n]? = some x) (ht : x.t = true) : WF (s.set n { x with cs := x.cs.take o ++ [] ++ x.cs.drop (o + (e - o)) }) := by
  have hch := wf.chars n x hx
  refine wf_chars wf hx ht ⟨by simp; omega, fun c hc => ?_⟩
  rw [List.append_nil] at hc
  rcases List.mem_append.1 hc with hc | hc
  · exact hch.2 c (List.mem_of_mem_take hc)
  · exact hch.2 c (List.mem_of_mem_drop hc)
theorem Chg.wf {s s' : List Nd} {a : Dact} {f : Mvf} (h : Chg s a s' f) (wf : WF s) : WF s' := by
  cases h with
  | cut hx ht _ _ => exact cut_chars wf hx ht
  | rem _ _ _ _ _ _ h _ => exact h
theorem Chgs.wf {s s' : List Nd} {ac : List Dact} {fs : List Mvf} (h : Chgs s ac s' fs) (wf : WF s) : WF s' := by
  induction h with
  | nil => exact wf
  | cons c _ ih => exact ih (c.wf wf)
theorem Chg.lives {V : List Nd → Sp → Prop} (hV : Lives V) {s s' : List Nd} {a : Dact} {f : Mvf} (h : Chg s a s' f) (wf : WF s) {z : Sp} (hz : V s z) : V s' (mvSp f z) := by
  cases h with
  | cut hx ht h1 h2 => exact hV.replace wf hx ht (by omega) (cut_chars wf hx ht) hz
  | rem hx hj hy hm hno hij wf2 u2 =>
    obtain ⟨hh, HH, u⟩ := wf.up
    exact hV.remove _ wf hx hj hy hm hno hij (gone_iff wf u hx hj hy hm hij wf2 u2) hz
theorem Chgs.lives {V : List Nd → Sp → Prop} (hV : Lives V) {s s' : List Nd} {ac : List Dact} {fs : List Mvf} (h : Chgs s ac s' fs) (wf : WF s) : ∀ {z : Sp}, V s z → V s' (mvSp (compF fs) z) := by
  induction h with
  | nil => intro z hz; exact hz
  | cons c _ ih => intro z hz; exact ih (c.wf wf) (c.lives hV wf hz)
def Near (f : Mvf) : Prop := ∀ a b : Int, 0 ≤ b → b ≤ 100 → 0 ≤ (f a b).2 ∧ (f a b).2 ≤ 100
theorem Chg.near {s s' : List Nd} {a : Dact} {f : Mvf} (h : Chg s a s' f) (wf : WF s) : Near f := by
  intro p q h0 h1
  cases h with
  | @cut n o e x hx ht h2 h3 =>
    have := (wf.chars _ _ hx).1
    unfold resizeF shiftF
    split
    · simp only; omega
    · split
      · simp only [List.length_nil]; omega
      · exact ⟨h0, h1⟩
  | @rem i j m x y _ _ hx hj hy hm hno hij wf2 u2 =>
    have := (List.getElem?_eq_some_iff.1 hm).1
    have := kids_le wf hy
    unfold gatherF shiftF
    split
    · simp only; omega
    · split
      · simp only; omega
      · exact ⟨h0, h1⟩
theorem Chgs.near {s s' : List Nd} {ac : List Dact} {fs : List Mvf} (h : Chgs s ac s' fs) (wf : WF s) : ∀ f ∈ fs, Near f := by
  induction h with
  | nil => intro f hf; cases hf
  | cons c _ ih =>
    intro f hf
    rcases List.mem_cons.1 hf with rfl | hf
    · exact c.near wf
    · exact ih (c.wf wf) f hf
def Firsts (s : List Nd) (a b : Nat) (ks : List Nat) : Prop := ∃ y, s[a]? = some y ∧ y.t = false ∧ b ≤ y.ks.length ∧ y.ks.take b = ks
theorem Firsts.ok {s : List Nd} {a b : Nat} {ks : List Nat} (h : Firsts s a b ks) : PlOk s a b := by
  obtain ⟨y, hy, ht, hb, _⟩ := h
  exact ⟨a, b, rfl, rfl, (List.getElem?_eq_some_iff.1 hy).1, by rw [sizeAt_eq hy, sizeN_elem ht]; exact hb⟩
def SameText (s s' : List Nd) (n : Nat) : Prop := ∀ x, s[n]? = some x → ∃ x', s'[n]? = some x' ∧ x'.t = x.t ∧ x'.cs = x.cs
theorem rem_look {s : List Nd} {i j : Nat} {x y : Nd} (hx : s[i]? = some x) (hy : s[j]? = some y) (hij : i ≠ j) (ks : List Nat) (c : Nat) :
    ((s.set j { y with ks := ks }).set i { x with p := -1 })[c]? = (s[c]?).map (fun z => if c = i then { z with p := -1 } else if c = j then { z with ks := ks } else z) :=
  set2_get hy hx (fun e => hij e.symm) ks (-1) c
theorem rem_step {s : List Nd} (wf : WF s) {i : Nat} {x : Nd} (hx : s[i]? = some x) (hp : 0 ≤ x.p) : ∃ s' f, Chg s (i, none) s' f ∧ (∀ n, SameText s s' n) ∧ (∀ n z, n ≠ i → s[n]? = some z → ∃ z', s'[n]? = some z' ∧ z'.p = z.p) ∧
    (∀ a b ks, Firsts s a b ks → i ∉ ks → Firsts s' a b ks) := by
  obtain ⟨j, m, y, hj, hy, hm, hno, _⟩ := wf.place hx hp
  obtain ⟨hij, hwf⟩ := wf_remove wf hx hj hy hm
  obtain ⟨hh2, HH2, u2⟩ := hwf.up
  have hml := (List.getElem?_eq_some_iff.1 hm).1
  refine ⟨_, _, Chg.rem hx hj hy hm hno hij hwf u2, ?_, ?_, ?_⟩
  · intro n z hz
    rw [rem_look hx hy hij, hz]
    refine ⟨_, rfl, ?_, ?_⟩
    · split
      · rfl
      · split <;> rfl
    · split
      · rfl
      · split <;> rfl
  · intro n z hn hz
    rw [rem_look hx hy hij, hz]
    refine ⟨_, rfl, ?_⟩
    simp only [if_neg hn]
    split <;> rfl
  · rintro a b ks ⟨z, hz, ht, hb, hk⟩ hi
    refine ⟨_, by rw [rem_look hx hy hij, hz]; rfl, ?_⟩
    by_cases hai : a = i
    · simp only [if_pos hai]
      exact ⟨ht, hb, hk⟩
    · simp only [if_neg hai]
      by_cases haj : a = j
      · subst haj
        rw [hy] at hz
        cases hz
        simp only [if_true]
        have hbm : b ≤ m := by
          rcases Nat.lt_or_ge m b with hlt | hge
          · exact absurd (hk ▸ mem_take_of hm hlt) hi
          · exact hge
        refine ⟨ht, by simp; omega, ?_⟩
        rw [List.take_append_of_le_length (by simp; omega), List.take_take, Nat.min_eq_left hbm]
        exact hk
      · simp only [if_neg haj]
        exact ⟨ht, hb, hk⟩
theorem rems_there : ∀ (l : List Nat) (s : List Nd), WF s → l.Nodup → (∀ i ∈ l, ∃ x, s[i]? = some x ∧ 0 ≤ x.p) → ∃ s' fs, Chgs s (l.map (fun i => ((i, none) : Dact))) s' fs ∧ (∀ n, SameText s s' n) ∧ (∀ a b ks, Firsts s a b ks → (∀ i ∈ l, i ∉ ks) → Firsts s' a b ks) := by
  intro l
  induction l with
  | nil => intro s wf _ _; exact ⟨s, [], .nil, fun n x hx => ⟨x, hx, rfl, rfl⟩, fun a b ks h _ => h⟩
  | cons i l ih =>
    intro s wf hnd hpar
    obtain ⟨x, hx, hp⟩ := hpar i (by simp)
    obtain ⟨s1, f, hc, ht, hq, hf⟩ := rem_step wf hx hp
    have hnd' := List.nodup_cons.1 hnd
    obtain ⟨s', fs, hcs, ht2, hf2⟩ := ih s1 (hc.wf wf) hnd'.2 (fun k hk => by
      obtain ⟨z, hz, hzp⟩ := hpar k (by simp [hk])
      obtain ⟨z', hz', e⟩ := hq k z (fun e => hnd'.1 (e ▸ hk)) hz
      exact ⟨z', hz', by omega⟩)
    refine ⟨s', f :: fs, .cons hc hcs, fun n z hz => ?_, fun a b ks h hk => ?_⟩
    · obtain ⟨z1, hz1, e1, e2⟩ := ht n z hz
      obtain ⟨z2, hz2, e3, e4⟩ := ht2 n z1 hz1
      exact ⟨z2, hz2, e3.trans e1, e4.trans e2⟩
    · exact hf2 a b ks (hf a b ks h (hk i (by simp))) (fun k hk' => hk k (by simp [hk']))
theorem cut_step {s : List Nd} {n o e : Nat} {x : Nd} (hx : s[n]? = some x) (ht : x.t = true) (h1 : o ≤ e) (h2 : e ≤ x.cs.length) : ∃ s' f, Chg s (n, some (o, e)) s' f ∧ (∀ k : Nat, k ≠ n → SameText s s' k) ∧ (∀ (k : Nat) (z : Nd), s[k]? = some z → ∃ z' : Nd, s'[k]? = some z' ∧ z'.t = z.t ∧ z'.p = z.p ∧ z'.ks = z.ks) := by
  have hn := (List.getElem?_eq_some_iff.1 hx).1
  refine ⟨_, _, .cut hx ht h1 h2, fun k hk z hz => ⟨z, by rw [List.getElem?_set_ne (fun e => hk e.symm)]; exact hz, rfl, rfl⟩, fun k z hz => ?_⟩
  by_cases hk : k = n
  · subst hk
    rw [hx] at hz
    cases hz
    exact ⟨_, List.getElem?_set_self hn, rfl, rfl, rfl⟩
  · exact ⟨z, by rw [List.getElem?_set_ne (fun e => hk e.symm)]; exact hz, rfl, rfl, rfl⟩
theorem Firsts.same {s s' : List Nd} {a b : Nat} {ks : List Nat} (h : Firsts s a b ks) (hs : ∀ (k : Nat) (z : Nd), s[k]? = some z → ∃ z' : Nd, s'[k]? = some z' ∧ z'.t = z.t ∧ z'.p = z.p ∧ z'.ks = z.ks) : Firsts s' a b ks := by
  obtain ⟨y, hy, ht, hb, hk⟩ := h
  obtain ⟨y', hy', e1, _, e3⟩ := hs a y hy
  exact ⟨y', hy', e1.trans ht, by rw [e3]; exact hb, by rw [e3]; exact hk⟩
def endAct (s : List Nd) (n o e : Nat) : List Dact := if (s[n]?.map (·.t)) = some true then [(n, some (o, e))] else []
def delActs (s : List Nd) (B a b c d t : Nat) : List Dact :=
  endAct s a b (csOf s a).length ++ (leaveF s (plF s (B + 1) t) a b c d (allF s (B + 1) t)).map (fun i => ((i, none) : Dact)) ++ endAct s c 0 d
theorem del_there {s : List Nd} (wf : WF s) {B a b c d t : Nat} (hac : a ≠ c ∨ (s[a]?.map (·.t)) = some false) (hc : c < s.length) (ha : a < s.length) (hb : b ≤ sizeAt s a) (hd : d ≤ sizeAt s c) :
    ∃ s' fs, Chgs s (delActs s B a b c d t) s' fs ∧ (∀ a' b' ks, Firsts s a' b' ks → (∀ i ∈ leaveF s (plF s (B + 1) t) a b c d (allF s (B + 1) t), i ∉ ks) → Firsts s' a' b' ks) := by
  obtain ⟨x, hx⟩ : ∃ x, s[a]? = some x := ⟨_, List.getElem?_eq_getElem ha⟩
  obtain ⟨y, hy⟩ : ∃ y, s[c]? = some y := ⟨_, List.getElem?_eq_getElem hc⟩
  obtain ⟨l, hl⟩ : ∃ l, leaveF s (plF s (B + 1) t) a b c d (allF s (B + 1) t) = l := ⟨_, rfl⟩
  have hnd : l.Nodup := by rw [← hl]; exact (all_nodup wf (B + 1) t).sublist List.filter_sublist
  have hpar : ∀ i ∈ l, ∃ z, s[i]? = some z ∧ 0 ≤ z.p := by
    intro i hi
    rw [← hl] at hi
    obtain ⟨z, _, j, _, hz, hj, _⟩ := leave_mem wf hi
    exact ⟨z, hz, by omega⟩
  unfold delActs
  rw [hl]
  -- the cut at the start
  obtain ⟨s1, f1, hc1, wf1, hT1, hK1⟩ : ∃ s1 f1, Chgs s (endAct s a b (csOf s a).length) s1 f1 ∧ WF s1 ∧ (c ≠ a ∨ x.t = false → SameText s s1 c) ∧ (∀ (k : Nat) (z : Nd), s[k]? = some z → ∃ z' : Nd, s1[k]? = some z' ∧ z'.t = z.t ∧ z'.p = z.p ∧ z'.ks = z.ks) := by
    unfold endAct
    by_cases hT : (s[a]?.map (·.t)) = some true
    · have ht : x.t = true := by rw [hx] at hT; simpa using hT
      rw [if_pos hT, csOf_eq hx]
      obtain ⟨s1, f, h1, h2, h3⟩ := cut_step (o := b) (e := x.cs.length) hx ht (by rw [sizeAt_eq hx, sizeN_text ht] at hb; exact hb) (Nat.le_refl _)
      exact ⟨s1, [f], .cons h1 .nil, h1.wf wf, fun h => h.elim (fun h => h2 c h) (fun h => by rw [ht] at h; cases h), h3⟩
    · rw [if_neg hT]
      exact ⟨s, [], .nil, wf, fun _ z hz => ⟨z, hz, rfl, rfl⟩, fun k z hz => ⟨z, hz, rfl, rfl, rfl⟩⟩
  obtain ⟨s2, f2, hc2, hT2, hF2⟩ := rems_there l s1 wf1 hnd (fun i hi => by
    obtain ⟨z, hz, hp⟩ := hpar i hi
    obtain ⟨z', hz', _, e, _⟩ := hK1 i z hz
    exact ⟨z', hz', by omega⟩)
  have hSc : SameText s s2 c := by
    intro z hz
    have h1 := hT1 (by
      rcases hac with h | h
      · exact .inl (fun e => h e.symm)
      · right; rw [hx] at h; simpa using h)
    obtain ⟨z1, hz1, e1, e2⟩ := h1 z hz
    obtain ⟨z2, hz2, e3, e4⟩ := hT2 c z1 hz1
    exact ⟨z2, hz2, e3.trans e1, e4.trans e2⟩
  obtain ⟨s3, f3, hc3, hK3⟩ : ∃ s3 f3, Chgs s2 (endAct s c 0 d) s3 f3 ∧ (∀ (k : Nat) (z : Nd), s2[k]? = some z → ∃ z' : Nd, s3[k]? = some z' ∧ z'.t = z.t ∧ z'.p = z.p ∧ z'.ks = z.ks) := by
    unfold endAct
    by_cases hT : (s[c]?.map (·.t)) = some true
    · have ht : y.t = true := by rw [hy] at hT; simpa using hT
      rw [if_pos hT]
      obtain ⟨y2, hy2, e1, e2⟩ := hSc y hy
      obtain ⟨s3, f, h1, h2, h3⟩ := cut_step (o := 0) (e := d) hy2 (e1.trans ht) (Nat.zero_le _) (by rw [e2]; rw [sizeAt_eq hy, sizeN_text ht] at hd; exact hd)
      exact ⟨s3, [f], .cons h1 .nil, h3⟩
    · rw [if_neg hT]
      exact ⟨s2, [], .nil, fun k z hz => ⟨z, hz, rfl, rfl, rfl⟩⟩
  exact ⟨s3, _, (hc1.append hc2).append hc3, fun a' b' ks h hk => (hF2 a' b' ks (h.same hK1) hk).same hK3⟩
end Go.Proofs.YtabogkonklplcaaGreatDoor
