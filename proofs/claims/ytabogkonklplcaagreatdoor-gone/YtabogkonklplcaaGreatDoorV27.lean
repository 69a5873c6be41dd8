import Derived.Test.YtabogkonklplcaaGreatDoorV11

namespace Go.Proofs.YtabogkonklplcaaGreatDoor
set_option linter.unusedSimpArgs false
set_option linter.unusedVariables false
abbrev PP : Type := (Nat × Nat) × List Nat
def ppB (n : Nat) (ks : List Nat) (f : Nat → List PP) (i : Nat) : List PP :=
  ((n, i), [2 * i]) :: (match ks[i]? with | some c => (f c).map (fun e => (e.1, (2 * i + 1) :: e.2)) | none => [])
def ppF (s : List Nd) : Nat → Nat → List PP
  | 0, _ => []
  | k + 1, n => (List.range (sizeAt s n + 1)).flatMap (ppB n (kidsOf s n) (ppF s k))
theorem pp_fst (s : List Nd) : ∀ (k n : Nat), (ppF s k n).map Prod.fst = plF s k n := by
  intro k
  induction k with
  | zero => intro n; rfl
  | succ k ih =>
    intro n
    simp only [ppF, plF, upTo, List.map_flatMap]
    congr 1
    funext i
    unfold ppB
    cases (kidsOf s n)[i]? with
    | none => rfl
    | some c =>
      simp only [List.map_cons, List.map_map]
      rw [← ih c]
      rfl
theorem ppB_head {n i : Nat} {ks : List Nat} {f : Nat → List PP} {e : PP} (h : e ∈ ppB n ks f i) : ∃ a l, e.2 = a :: l ∧ (a = 2 * i ∨ a = 2 * i + 1) := by
  unfold ppB at h
  rcases List.mem_cons.1 h with rfl | h
  · exact ⟨_, _, rfl, .inl rfl⟩
  · split at h
    · obtain ⟨e', _, rfl⟩ := List.mem_map.1 h
      exact ⟨_, _, rfl, .inr rfl⟩
    · simp at h
abbrev lexN : List Nat → List Nat → Prop := List.Lex (· < ·)
theorem pp_sorted (s : List Nd) : ∀ (k n : Nat), (ppF s k n).Pairwise (fun a b => lexN a.2 b.2) := by
  intro k
  induction k with
  | zero => intro n; simp [ppF]
  | succ k ih =>
    intro n
    rw [ppF, List.pairwise_flatMap]
    refine ⟨fun i _ => ?_, ?_⟩
    · unfold ppB
      rw [List.pairwise_cons]
      constructor
      · intro e he
        split at he
        · obtain ⟨e', _, rfl⟩ := List.mem_map.1 he
          exact .rel (by omega)
        · simp at he
      · split
        · rw [List.pairwise_map]
          exact (ih _).imp (fun h => .cons h)
        · exact List.Pairwise.nil
    · refine List.pairwise_lt_range.imp ?_
      intro i j hij x hx y hy
      obtain ⟨a, l, ea, ha⟩ := ppB_head hx
      obtain ⟨b, m, eb, hb⟩ := ppB_head hy
      rw [ea, eb]
      exact .rel (by omega)
theorem pp_here {s : List Nd} {k n i : Nat} (h : i ≤ sizeAt s n) : ((n, i), [2 * i]) ∈ ppF s (k + 1) n := by
  rw [ppF, List.mem_flatMap]
  exact ⟨i, List.mem_range.2 (by omega), by unfold ppB; exact List.mem_cons_self⟩
theorem pp_down {s : List Nd} {k n j c : Nat} {e : PP} (hj : (kidsOf s n)[j]? = some c) (hl : j ≤ sizeAt s n) (h : e ∈ ppF s k c) : (e.1, (2 * j + 1) :: e.2) ∈ ppF s (k + 1) n := by
  rw [ppF, List.mem_flatMap]
  refine ⟨j, List.mem_range.2 (by omega), ?_⟩
  unfold ppB
  rw [hj]
  exact List.mem_cons_of_mem _ (List.mem_map.2 ⟨e, h, rfl⟩)
theorem pl_node {s : List Nd} : ∀ (k n : Nat) (p : Nat × Nat), p ∈ plF s k n → p.1 ∈ allF s k n := by
  intro k
  induction k with
  | zero => intro n p h; simp [plF] at h
  | succ k ih =>
    intro n p h
    simp only [plF, upTo, List.mem_flatMap] at h
    obtain ⟨i, _, h⟩ := h
    rw [allF, List.mem_cons]
    rcases List.mem_cons.1 h with rfl | h
    · exact .inl rfl
    · split at h
      · rename_i c hc
        exact .inr (List.mem_flatMap.2 ⟨c, List.mem_of_getElem? hc, ih c p h⟩)
      · simp at h
theorem pl_nodup {s : List Nd} (wf : WF s) : ∀ (k n : Nat), (plF s k n).Nodup := by
  obtain ⟨h, B, u⟩ := wf.up
  intro k
  induction k with
  | zero => intro n; simp [plF]
  | succ k ih =>
    intro n
    have hks : (kidsOf s n).Nodup := by
      unfold kidsOf
      split
      · exact wf.nodup n _ ‹_›
      · exact List.nodup_nil
    unfold List.Nodup
    rw [plF, upTo, List.pairwise_flatMap]
    refine ⟨fun i _ => ?_, ?_⟩
    · rw [List.pairwise_cons]
      constructor
      · intro p hp e
        subst e
        split at hp
        · rename_i c hc
          exact all_head_not wf u (List.mem_of_getElem? hc) (pl_node k c _ hp)
        · simp at hp
      · split
        · exact ih _
        · exact List.Pairwise.nil
    · refine List.pairwise_lt_range.imp ?_
      intro i j hij x hx y hy e
      subst e
      rcases List.mem_cons.1 hx with rfl | hx <;> rcases List.mem_cons.1 hy with hy | hy
      · simp at hy; omega
      · split at hy
        · rename_i c hc
          exact all_head_not wf u (List.mem_of_getElem? hc) (pl_node k c _ hy)
        · simp at hy
      · subst hy
        split at hx
        · rename_i c hc
          exact all_head_not wf u (List.mem_of_getElem? hc) (pl_node k c _ hx)
        · simp at hx
      · split at hx
        · rename_i c hc
          split at hy
          · rename_i d hd
            have e := all_apart wf u (List.mem_of_getElem? hc) (List.mem_of_getElem? hd) (pl_node k c _ hx) (pl_node k d _ hy)
            subst e
            obtain ⟨h1, h2⟩ := List.getElem?_eq_some_iff.1 hc
            obtain ⟨h3, h4⟩ := List.getElem?_eq_some_iff.1 hd
            exact List.pairwise_iff_getElem.1 hks i j h1 h3 hij (h2.trans h4.symm)
          · simp at hy
        · simp at hx
theorem pp_index {s : List Nd} (wf : WF s) {k t : Nat} {a : Nat × Nat} {l : List Nat} {q : Int} (h : (a, l) ∈ ppF s k t) (hw : IsWhere (plF s k t) a q) : ∃ i : Nat, q = i ∧ (ppF s k t)[i]? = some (a, l) := by
  obtain ⟨i, hi⟩ := List.mem_iff_getElem?.1 h
  have hp : (plF s k t)[i]? = some a := by rw [← pp_fst, List.getElem?_map, hi]; rfl
  rcases hw with ⟨m, rfl, hm, _⟩ | ⟨_, hn⟩
  · refine ⟨i, ?_, hi⟩
    obtain ⟨h1, h2⟩ := List.getElem?_eq_some_iff.1 hp
    obtain ⟨h3, h4⟩ := List.getElem?_eq_some_iff.1 hm
    have hnd := List.pairwise_iff_getElem.1 (pl_nodup wf k t)
    rcases Nat.lt_trichotomy i m with e | e | e
    · exact absurd (h2.trans h4.symm) (hnd i m h1 h3 e)
    · rw [e]
    · exact absurd (h4.trans h2.symm) (hnd m i h3 h1 e)
  · exact absurd (List.mem_of_getElem? hp) hn
theorem pp_order {s : List Nd} (wf : WF s) {k t : Nat} {a b : Nat × Nat} {l m : List Nat} {qa qb : Int} (ha : (a, l) ∈ ppF s k t) (hb : (b, m) ∈ ppF s k t) (wa : IsWhere (plF s k t) a qa) (wb : IsWhere (plF s k t) b qb) :
    (qa < qb → lexN l m) ∧ (qb < qa → lexN m l) ∧ (qa = qb → l = m ∧ a = b) := by
  obtain ⟨i, rfl, hi⟩ := pp_index wf ha wa
  obtain ⟨j, rfl, hj⟩ := pp_index wf hb wb
  obtain ⟨h1, h2⟩ := List.getElem?_eq_some_iff.1 hi
  obtain ⟨h3, h4⟩ := List.getElem?_eq_some_iff.1 hj
  have hs := List.pairwise_iff_getElem.1 (pp_sorted s k t)
  refine ⟨fun e => ?_, fun e => ?_, fun e => ?_⟩
  · have := hs i j h1 h3 (by omega)
    rw [h2, h4] at this
    exact this
  · have := hs j i h3 h1 (by omega)
    rw [h2, h4] at this
    exact this
  · obtain rfl : i = j := by omega
    rw [hi] at hj
    cases hj
    exact ⟨rfl, rfl⟩
end Go.Proofs.YtabogkonklplcaaGreatDoor

namespace Go.Proofs.YtabogkonklplcaaGreatDoor
set_option linter.unusedSimpArgs false
set_option linter.unusedVariables false
def lexC : List Nat → List Nat → Int
  | [], [] => 0
  | [], _ :: _ => -1
  | _ :: _, [] => 1
  | a :: l, b :: m => if a < b then -1 else if b < a then 1 else lexC l m
inductive Way (s : List Nd) (t : Nat) : Nat → List Nat → Prop
  | top : Way s t t []
  | down {q c i : Nat} {l : List Nat} {y : Nd} : Way s t q l → s[q]? = some y → y.ks[i]? = some c → Way s t c (l ++ [i])
def pw (l : List Nat) (k : Nat) : List Nat := l.map (fun i => 2 * i + 1) ++ [2 * k]
theorem lexN_nil {l : List Nat} (h : lexN l []) : False := by cases h
theorem lexN_cons {a b : Nat} {l m : List Nat} (h : lexN (a :: l) (b :: m)) : a < b ∨ a = b ∧ lexN l m := by
  cases h with
  | rel h => exact .inl h
  | cons h => exact .inr ⟨rfl, h⟩
theorem pw_nil (k : Nat) : pw [] k = [2 * k] := rfl
theorem pw_cons (a : Nat) (l : List Nat) (k : Nat) : pw (a :: l) k = (2 * a + 1) :: pw l k := rfl
theorem lexC_lt : ∀ (l1 l2 : List Nat) (k1 k2 : Nat), lexN (pw l1 k1) (pw l2 k2) → lexC (l1 ++ [k1]) (l2 ++ [k2]) = -1 := by
  intro l1
  induction l1 with
  | nil =>
    intro l2 k1 k2 h
    cases l2 with
    | nil =>
      simp only [pw_nil, pw_cons] at h
      rcases lexN_cons h with h | ⟨_, h⟩
      · simp only [List.nil_append, lexC]; rw [if_pos (by omega)]
      · exact absurd h (fun h => lexN_nil h)
    | cons b m =>
      simp only [pw_nil, pw_cons] at h
      rcases lexN_cons h with h | ⟨h, _⟩
      · simp only [List.nil_append, List.cons_append, lexC]
        by_cases hb : k1 < b
        · rw [if_pos hb]
        · rw [if_neg hb, if_neg (by omega)]
          cases m <;> rfl
      · omega
  | cons a l ih =>
    intro l2 k1 k2 h
    cases l2 with
    | nil =>
      simp only [pw_nil, pw_cons] at h
      rcases lexN_cons h with h | ⟨h, _⟩
      · simp only [List.nil_append, List.cons_append, lexC]; rw [if_pos (by omega)]
      · omega
    | cons b m =>
      simp only [pw_nil, pw_cons] at h
      rcases lexN_cons h with h | ⟨h, h'⟩
      · simp only [List.cons_append, lexC]; rw [if_pos (by omega)]
      · simp only [List.cons_append, lexC]; rw [if_neg (by omega), if_neg (by omega)]; exact ih m k1 k2 h'
theorem lexC_neg : ∀ (l m : List Nat), lexC l m = - lexC m l := by
  intro l
  induction l with
  | nil => intro m; cases m <;> rfl
  | cons a l ih =>
    intro m
    cases m with
    | nil => rfl
    | cons b m =>
      simp only [lexC]
      by_cases h1 : a < b
      · rw [if_pos h1, if_neg (by omega), if_pos h1]
      · by_cases h2 : b < a
        · rw [if_neg h1, if_pos h2, if_pos h2]; rfl
        · rw [if_neg h1, if_neg h2, if_neg h2, if_neg h1]; exact ih m
theorem lexC_self (l : List Nat) : lexC l l = 0 := by
  induction l with
  | nil => rfl
  | cons a l ih => simp [lexC, ih]
theorem pw_inj {l1 l2 : List Nat} {k1 k2 : Nat} (h : pw l1 k1 = pw l2 k2) : l1 ++ [k1] = l2 ++ [k2] := by
  unfold pw at h
  have h1 := List.append_inj_left' h rfl
  have h2 := List.append_inj_right' h rfl
  have h3 : l1 = l2 := by
    refine (List.map_inj_right ?_).1 h1
    intro a b e
    omega
  have h4 : k1 = k2 := by simp at h2; omega
  rw [h3, h4]
theorem way_len {s : List Nd} {h : Nat → Nat} {B : Nat} (wf : WF s) (u : Up s h B) {t n : Nat} {l : List Nat} (w : Way s t n l) : h n + l.length ≤ h t := by
  induction w with
  | top => simp
  | down w hq hi ih =>
    have := (wf.kid_lt u hq (List.mem_of_getElem? hi)).2
    rw [List.length_append]
    simp
    omega
theorem way_pp {s : List Nd} (wf : WF s) {t n : Nat} {l : List Nat} (w : Way s t n l) : ∀ (K : Nat) (e : PP), e ∈ ppF s K n → (e.1, l.map (fun i => 2 * i + 1) ++ e.2) ∈ ppF s (K + l.length) t := by
  induction w with
  | top => intro K e h; simpa using h
  | @down q c i l y w hq hi ih =>
    intro K e h
    have hk : kidsOf s q = y.ks := kidsOf_eq hq
    have hl : i < y.ks.length := (List.getElem?_eq_some_iff.1 hi).1
    have hsz : i ≤ sizeAt s q := by
      rw [sizeAt_eq hq]
      cases ht : y.t with
      | true => have := (wf.elem q y hq).1 ht; rw [this] at hl; simp at hl
      | false => rw [sizeN_elem ht]; omega
    have h1 := ih (K + 1) _ (pp_down (k := K) (n := q) (j := i) (c := c) (by rw [hk]; exact hi) hsz h)
    have e1 : K + 1 + l.length = K + (l ++ [i]).length := by simp; omega
    rw [e1] at h1
    simpa using h1
theorem cmp_ways {s : List Nd} (wf : WF s) {h : Nat → Nat} {B : Nat} (u : Up s h B) {t n k n2 k2 : Nat} {l l2 : List Nat} (wa : Way s t n l) (wb : Way s t n2 l2) (hk : k ≤ sizeAt s n) (hk2 : k2 ≤ sizeAt s n2) {qa qb : Int} (ha : IsWhere (plF s (B + 1) t) (n, k) qa) (hb : IsWhere (plF s (B + 1) t) (n2, k2) qb) :
    lexC (l ++ [k]) (l2 ++ [k2]) = if qa < qb then -1 else if qb < qa then 1 else 0 := by
  have key : ∀ {n k : Nat} {l : List Nat}, Way s t n l → k ≤ sizeAt s n → ((n, k), pw l k) ∈ ppF s (B + 1) t := by
    intro n k l wy hk
    have h1 := way_len wf u wy
    have h2 := u.le t
    have h3 := way_pp wf wy (B - l.length + 1) _ (pp_here (k := B - l.length) hk)
    have e : B - l.length + 1 + l.length = B + 1 := by omega
    rw [e] at h3
    exact h3
  obtain ⟨o1, o2, o3⟩ := pp_order wf (key wa hk) (key wb hk2) ha hb
  by_cases h1 : qa < qb
  · rw [if_pos h1]; exact lexC_lt _ _ _ _ (o1 h1)
  · by_cases h2 : qb < qa
    · rw [if_neg h1, if_pos h2, lexC_neg, lexC_lt _ _ _ _ (o2 h2)]; rfl
    · rw [if_neg h1, if_neg h2, pw_inj (o3 (by omega)).1, lexC_self]
end Go.Proofs.YtabogkonklplcaaGreatDoor

namespace Go.Proofs.YtabogkonklplcaaGreatDoor
set_option linter.unusedSimpArgs false
set_option linter.unusedVariables false
def wh : List (Nat × Nat) → Nat × Nat → Int
  | [], _ => -1
  | a :: l, p => if p = a then 0 else if wh l p < 0 then -1 else wh l p + 1
theorem wh_is (l : List (Nat × Nat)) (p : Nat × Nat) : IsWhere l p (wh l p) := by
  induction l with
  | nil => exact .inr ⟨rfl, by simp⟩
  | cons a l ih =>
    unfold wh
    by_cases h : p = a
    · rw [if_pos h]
      exact .inl ⟨0, rfl, by simp [h], by simp⟩
    · rw [if_neg h]
      rcases ih with ⟨m, e, h1, h2⟩ | ⟨e, h1⟩
      · rw [e, if_neg (by omega)]
        exact .inl ⟨m + 1, by omega, by simpa using h1, by simp [h2, h]⟩
      · rw [e, if_pos (by omega)]
        exact .inr ⟨rfl, by simp [h, h1]⟩
theorem mem_take_of {α : Type} {l : List α} {m k : Nat} {p : α} (h : l[m]? = some p) (hk : m < k) : p ∈ l.take k :=
  List.mem_of_getElem? (i := m) (by rw [List.getElem?_take, if_pos hk]; exact h)
theorem IsWhere.alone {l : List (Nat × Nat)} {p : Nat × Nat} {q q' : Int} (h : IsWhere l p q) (h' : IsWhere l p q') : q = q' := by
  rcases h with ⟨m, rfl, h1, h2⟩ | ⟨rfl, h1⟩ <;> rcases h' with ⟨m', rfl, h3, h4⟩ | ⟨rfl, h3⟩
  · rcases Nat.lt_trichotomy m m' with e | e | e
    · exact absurd (mem_take_of h1 e) h4
    · rw [e]
    · exact absurd (mem_take_of h3 e) h2
  · exact absurd (List.mem_of_getElem? h1) h3
  · exact absurd (List.mem_of_getElem? h3) h1
  · rfl
theorem IsWhere.wh {l : List (Nat × Nat)} {p : Nat × Nat} {q : Int} (h : IsWhere l p q) : q = wh l p := h.alone (wh_is l p)
theorem wh_at {l : List (Nat × Nat)} (hn : l.Nodup) {i : Nat} {p : Nat × Nat} (h : l[i]? = some p) : wh l p = i := by
  refine (IsWhere.alone (.inl ⟨i, rfl, h, fun hm => ?_⟩) (wh_is l p)).symm
  obtain ⟨j, hj⟩ := List.mem_iff_getElem?.1 hm
  rw [List.getElem?_take] at hj
  split at hj
  · rename_i hlt
    obtain ⟨h1, h2⟩ := List.getElem?_eq_some_iff.1 h
    obtain ⟨h3, h4⟩ := List.getElem?_eq_some_iff.1 hj
    exact List.pairwise_iff_getElem.1 hn j i h3 h1 hlt (h4.trans h2.symm)
  · cases hj
theorem wh_mem {l : List (Nat × Nat)} {p : Nat × Nat} (h : p ∈ l) : ∃ i : Nat, wh l p = i ∧ l[i]? = some p := by
  rcases wh_is l p with ⟨m, e, h1, _⟩ | ⟨_, h1⟩
  · exact ⟨m, e, h1⟩
  · exact absurd h h1
def cov (L : List (Nat × Nat)) (a b c d n k : Nat) : Bool := decide (wh L (a, b) ≤ wh L (n, k)) && decide (wh L (n, k + 1) ≤ wh L (c, d))
def csOf (s : List Nd) (n : Nat) : List ByteArray := match s[n]? with | some x => x.cs | none => []
theorem csOf_eq {s : List Nd} {n : Nat} {x : Nd} (h : s[n]? = some x) : csOf s n = x.cs := by simp [csOf, h]
def pk (cs : List ByteArray) (c : Nat → Bool) (k : Nat) : List ByteArray := (List.range k).flatMap fun b => if c b then cs[b]?.toList else []
theorem pk_zero (cs : List ByteArray) (c : Nat → Bool) : pk cs c 0 = [] := rfl
theorem pk_succ (cs : List ByteArray) (c : Nat → Bool) (k : Nat) : pk cs c (k + 1) = pk cs c k ++ (if c k then cs[k]?.toList else []) := by simp [pk, List.range_succ]
def readP (s : List Nd) (L : List (Nat × Nat)) (a b c d : Nat) (ns : List Nat) : List ByteArray := ns.flatMap fun n => pk (csOf s n) (cov L a b c d n) (csOf s n).length
def chB (s : List Nd) (L : List (Nat × Nat)) (i : Nat) : List ByteArray :=
  match L[i]?, L[i + 1]? with
  | some p, some q => if p.1 = q.1 ∧ (s[p.1]?.map (·.t)) = some true then (csOf s p.1)[p.2]?.toList else []
  | _, _ => []
def readR (s : List Nd) (L : List (Nat × Nat)) (i : Nat) (m : Nat) : List ByteArray := (List.range m).flatMap fun j => chB s L (i + j)
theorem infix_flatMap {α β : Type} {l : List α} {f : α → List β} {a : α} {z : List β} (ha : a ∈ l) (h : z <:+: f a) : z <:+: l.flatMap f := by
  obtain ⟨x, y, rfl⟩ := List.append_of_mem ha
  rw [List.flatMap_append, List.flatMap_cons]
  exact h.trans ⟨x.flatMap f, y.flatMap f, by simp⟩
theorem text_next {s : List Nd} (wf : WF s) {n b : Nat} {x : Nd} (hx : s[n]? = some x) (ht : x.t = true) (hb : b < x.cs.length) : ∀ (k m : Nat), (n, b) ∈ plF s k m → [(n, b), (n, b + 1)] <:+: plF s k m := by
  intro k
  induction k with
  | zero => intro m h; simp [plF] at h
  | succ k ih =>
    intro m h
    by_cases hm : m = n
    · subst hm
      have hk : kidsOf s m = [] := by rw [kidsOf_eq hx]; exact (wf.elem m x hx).1 ht
      have e : x.cs.length + 1 = b + (2 + (x.cs.length - b - 1)) := by omega
      rw [plF, hk, sizeAt_eq hx, sizeN_text ht, upTo, e, List.range_add, List.flatMap_append, List.range_add]
      refine List.IsInfix.trans ?_ (List.suffix_append _ _).isInfix
      rw [List.map_append, List.flatMap_append]
      refine List.IsInfix.trans ?_ (List.prefix_append _ _).isInfix
      have : (List.range 2).map (fun i => b + i) = [b, b + 1] := by simp [List.range_succ]
      rw [this]
      simp
    · rw [plF, upTo] at h ⊢
      obtain ⟨i, hi, h⟩ := List.mem_flatMap.1 h
      refine infix_flatMap hi ?_
      rcases List.mem_cons.1 h with h | h
      · simp at h; exact absurd h.1.symm hm
      · refine List.IsInfix.trans ?_ (List.suffix_cons _ _).isInfix
        split at h
        · rename_i c hc
          exact ih c h
        · simp at h
theorem pl_of_all {s : List Nd} (wf : WF s) : ∀ (k t n q : Nat), n ∈ allF s k t → q ≤ sizeAt s n → (n, q) ∈ plF s k t := by
  intro k
  induction k with
  | zero => intro t n q h; simp [allF] at h
  | succ k ih =>
    intro t n q h hq
    rw [plF, upTo, List.mem_flatMap]
    rw [allF, List.mem_cons, List.mem_flatMap] at h
    rcases h with rfl | ⟨c, hc, h⟩
    · exact ⟨q, List.mem_range.2 (by omega), List.mem_cons_self⟩
    · obtain ⟨x, hx, hcx⟩ := kidsOf_mem hc
      obtain ⟨i, hi⟩ := List.mem_iff_getElem?.1 hcx
      have hil : i < x.ks.length := (List.getElem?_eq_some_iff.1 hi).1
      have ht : x.t = false := by
        cases e : x.t with
        | false => rfl
        | true => rw [(wf.elem t x hx).1 e] at hil; simp at hil
      refine ⟨i, List.mem_range.2 (by rw [sizeAt_eq hx, sizeN_elem ht]; omega), List.mem_cons_of_mem _ ?_⟩
      rw [kidsOf_eq hx, hi]
      exact ih c n q h hq
theorem infix_at {α : Type} {l : List α} (hn : l.Nodup) {i : Nat} {p q : α} (h : [p, q] <:+: l) (hi : l[i]? = some p) : l[i + 1]? = some q := by
  obtain ⟨a, b, e⟩ := h
  have h1 : l[a.length]? = some p := by rw [← e]; simp
  have h2 : l[a.length + 1]? = some q := by rw [← e]; simp
  obtain ⟨h3, h4⟩ := List.getElem?_eq_some_iff.1 h1
  obtain ⟨h5, h6⟩ := List.getElem?_eq_some_iff.1 hi
  rcases Nat.lt_trichotomy i a.length with e | e | e
  · exact absurd (h6.trans h4.symm) (List.pairwise_iff_getElem.1 hn i a.length h5 h3 e)
  · rw [e]; exact h2
  · exact absurd (h4.trans h6.symm) (List.pairwise_iff_getElem.1 hn a.length i h3 h5 e)
theorem wh_next {s : List Nd} (wf : WF s) {k t n b : Nat} {x : Nd} (hx : s[n]? = some x) (ht : x.t = true) (hb : b < x.cs.length) (hm : (n, b) ∈ plF s k t) : wh (plF s k t) (n, b + 1) = wh (plF s k t) (n, b) + 1 := by
  obtain ⟨i, e, hi⟩ := wh_mem hm
  rw [e, wh_at (pl_nodup wf k t) (infix_at (pl_nodup wf k t) (text_next wf hx ht hb k t hm) hi)]
  rfl
theorem chB_at {s : List Nd} (wf : WF s) {k t i : Nat} {p : Nat × Nat} (hp : (plF s k t)[i]? = some p) (hi : i + 1 < (plF s k t).length) : chB s (plF s k t) i = (csOf s p.1)[p.2]?.toList := by
  obtain ⟨q, hq⟩ : ∃ q, (plF s k t)[i + 1]? = some q := ⟨_, List.getElem?_eq_getElem hi⟩
  unfold chB
  rw [hp, hq]
  simp only
  cases hx : s[p.1]? with
  | none => simp [csOf, hx]
  | some x =>
    cases ht : x.t with
    | false => simp [csOf, hx, (wf.elem p.1 x hx).2 ht]
    | true =>
      by_cases he : p.1 = q.1
      · simp [he, ht]
      · simp only [he, false_and, if_false]
        rw [csOf_eq hx]
        by_cases hb : p.2 < x.cs.length
        · have := infix_at (pl_nodup wf k t) (text_next wf hx ht hb k t (List.mem_of_getElem? hp)) hp
          rw [hq] at this
          cases this
          exact absurd rfl he
        · rw [List.getElem?_eq_none (by omega)]; rfl
theorem text_run {s : List Nd} (wf : WF s) {k t n : Nat} {x : Nd} (hx : s[n]? = some x) (ht : x.t = true) {i b : Nat} (hi : (plF s k t)[i]? = some (n, b)) : ∀ e, b + e ≤ x.cs.length → (plF s k t)[i + e]? = some (n, b + e) := by
  intro e
  induction e with
  | zero => intro _; exact hi
  | succ e ih =>
    intro he
    have h1 := ih (by omega)
    exact infix_at (pl_nodup wf k t) (text_next (b := b + e) wf hx ht (by omega) k t (List.mem_of_getElem? h1)) h1
theorem range_mid {α : Type} (N lo hi : Nat) (h1 : lo ≤ hi) (h2 : hi ≤ N) (G : Nat → List α) : (List.range N).flatMap (fun i => if lo ≤ i ∧ i < hi then G i else []) = (List.range (hi - lo)).flatMap (fun j => G (lo + j)) := by
  have e : N = lo + ((hi - lo) + (N - hi)) := by omega
  rw [e, List.range_add, List.flatMap_append, List.range_add, List.map_append, List.flatMap_append]
  have a : (List.range lo).flatMap (fun i => if lo ≤ i ∧ i < hi then G i else []) = [] := by
    rw [List.flatMap_eq_nil_iff]
    intro i hi
    rw [if_neg (by have := List.mem_range.1 hi; omega)]
  have c : (((List.range (N - hi)).map (fun x => hi - lo + x)).map (fun x => lo + x)).flatMap (fun i => if lo ≤ i ∧ i < hi then G i else []) = [] := by
    rw [List.flatMap_eq_nil_iff]
    intro i hi
    simp only [List.map_map, List.mem_map] at hi
    obtain ⟨j, _, rfl⟩ := hi
    rw [if_neg (by simp only [Function.comp]; omega)]
  rw [a, c, List.nil_append, List.append_nil, List.flatMap_map]
  rw [List.flatMap_def, List.flatMap_def]
  congr 1
  refine List.map_congr_left (fun j hj => ?_)
  rw [if_pos (by have := List.mem_range.1 hj; omega)]
theorem flatMap_index {α β : Type} (l : List α) (F : α → List β) : l.flatMap F = (List.range l.length).flatMap (fun i => match l[i]? with | some p => F p | none => []) := by
  induction l with
  | nil => rfl
  | cons a l ih =>
    rw [List.length_cons, List.range_succ_eq_map, List.flatMap_cons, List.flatMap_cons, List.flatMap_map, ih]
    rfl
theorem pl_texts {s : List Nd} (wf : WF s) (H : Nat × Nat → List ByteArray) (hH : ∀ p, (csOf s p.1).length ≤ p.2 → H p = []) : ∀ (k n : Nat), n < s.length → (plF s k n).flatMap H = (allF s k n).flatMap (fun m => (List.range (csOf s m).length).flatMap (fun b => H (m, b))) := by
  intro k
  induction k with
  | zero => intro n _; rfl
  | succ k ih =>
    intro n hn
    have hx : s[n]? = some s[n] := List.getElem?_eq_getElem hn
    generalize s[n] = x at hx
    rw [plF, upTo, allF, List.flatMap_cons, kidsOf_eq hx, sizeAt_eq hx, csOf_eq hx, List.flatMap_assoc]
    cases ht : x.t with
    | true =>
      rw [(wf.elem n x hx).1 ht, sizeN_text ht, List.range_succ, List.flatMap_append]
      simp only [List.getElem?_nil, List.flatMap_cons, List.flatMap_nil, List.append_nil]
      rw [hH (n, x.cs.length) (by rw [csOf_eq hx]; exact Nat.le_refl _), List.append_nil]
    | false =>
      have hcs : x.cs = [] := (wf.elem n x hx).2 ht
      have h0 : ∀ i, H (n, i) = [] := fun i => hH (n, i) (by rw [csOf_eq hx, hcs]; simp)
      rw [hcs, sizeN_elem ht, List.range_succ, List.flatMap_append]
      simp only [List.flatMap_cons, h0, List.nil_append, List.length_nil, List.range_zero, List.flatMap_nil, List.append_nil]
      rw [List.getElem?_eq_none (Nat.le_refl _)]
      simp only [List.flatMap_nil, List.append_nil]
      have key : ∀ l : List Nat, (∀ c ∈ l, c ∈ x.ks) → (l.flatMap (allF s k)).flatMap (fun m => (List.range (csOf s m).length).flatMap (fun b => H (m, b))) = (List.range l.length).flatMap (fun i => (match l[i]? with | some c => plF s k c | none => []).flatMap H) := by
        intro l hl
        rw [List.flatMap_assoc, flatMap_index l]
        rw [List.flatMap_def, List.flatMap_def]
        congr 1
        refine List.map_congr_left (fun i hi => ?_)
        cases hc : l[i]? with
        | none => rfl
        | some c =>
          simp only
          obtain ⟨y, hy, _⟩ := wf.kid n x hx c (hl c (List.mem_of_getElem? hc))
          rw [ih c (List.getElem?_eq_some_iff.1 hy).1]
      exact (key x.ks (fun c h => h)).symm
theorem read_same {s : List Nd} (wf : WF s) {k t a b c d i j : Nat} (ht : t < s.length) (hi : (plF s k t)[i]? = some (a, b)) (hj : (plF s k t)[j]? = some (c, d)) (hij : i ≤ j) :
    readR s (plF s k t) i (j - i) = readP s (plF s k t) a b c d (allF s k t) := by
  have hnd := pl_nodup wf k t
  have hjl : j < (plF s k t).length := (List.getElem?_eq_some_iff.1 hj).1
  have e1 : readR s (plF s k t) i (j - i) = (plF s k t).flatMap (fun p => if (i : Int) ≤ wh (plF s k t) p ∧ wh (plF s k t) p < j then (csOf s p.1)[p.2]?.toList else []) := by
    rw [flatMap_index]
    have := range_mid (plF s k t).length i j hij (Nat.le_of_lt hjl) (fun m => chB s (plF s k t) m)
    rw [readR, ← this, List.flatMap_def, List.flatMap_def]
    congr 1
    refine List.map_congr_left (fun m hm => ?_)
    have hml := List.mem_range.1 hm
    have hp : (plF s k t)[m]? = some (plF s k t)[m] := List.getElem?_eq_getElem hml
    rw [hp]
    simp only
    rw [wh_at hnd hp]
    by_cases hc : i ≤ m ∧ m < j
    · rw [if_pos hc, if_pos ⟨by omega, by omega⟩]
      exact chB_at wf hp (by omega)
    · rw [if_neg hc, if_neg (by omega)]
  rw [e1, pl_texts wf _ (fun p hp => by rw [List.getElem?_eq_none hp]; simp) k t ht]
  unfold readP
  rw [List.flatMap_def, List.flatMap_def]
  congr 1
  refine List.map_congr_left (fun n hn => ?_)
  unfold pk
  rw [List.flatMap_def, List.flatMap_def]
  congr 1
  refine List.map_congr_left (fun q hq => ?_)
  have hql := List.mem_range.1 hq
  have hnl := all_lt wf k t ht n hn
  have hx : s[n]? = some s[n] := List.getElem?_eq_getElem hnl
  generalize s[n] = x at hx
  rw [csOf_eq hx] at hql
  have htx : x.t = true := by
    cases e : x.t with
    | true => rfl
    | false => rw [(wf.elem n x hx).2 e] at hql; simp at hql
  have hmem : (n, q) ∈ plF s k t := by
    refine pl_of_all wf k t n q hn ?_
    rw [sizeAt_eq hx, sizeN_text htx]
    omega
  unfold cov
  rw [wh_at hnd hi, wh_at hnd hj, wh_next wf hx htx hql hmem]
  simp only [Bool.and_eq_true, decide_eq_true_eq]
  by_cases hc : (i : Int) ≤ wh (plF s k t) (n, q) ∧ wh (plF s k t) (n, q) < j
  · rw [if_pos hc, if_pos ⟨hc.1, by omega⟩]
  · rw [if_neg hc, if_neg (by omega)]
end Go.Proofs.YtabogkonklplcaaGreatDoor
