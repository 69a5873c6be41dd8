import Derived.Test.YtabogkonklplcaaGreatDoorQ13
import Derived.Test.YtabogkonklplcaaGreatDoorQ18
import Derived.Test.YtabogkonklplcaaGreatDoorQ17
import Derived.Test.YtabogkonklplcaaGreatDoorQ10

namespace Go.Proofs.YtabogkonklplcaaGreatDoor
set_option linter.unusedSimpArgs false
set_option linter.unusedVariables false
def wh : List (Nat × Nat) → Nat × Nat → Int
  | [], _ => -1
  | a :: l, p => if p = a then 0 else if wh l p < 0 then -1 else wh l p + 1
theorem wh_is (l : List (Nat × Nat)) (p : Nat × Nat) : IsWhere l p (wh l p) := by
  induction l with
  | nil => exact .inr ⟨rfl, by simp⟩
  | cons a l ih =>
    unfold wh
    by_cases h : p = a
    · rw [if_pos h]
      exact .inl ⟨0, rfl, by simp [h], by simp⟩
    · rw [if_neg h]
      rcases ih with ⟨m, e, h1, h2⟩ | ⟨e, h1⟩
      · rw [e, if_neg (by omega)]
        exact .inl ⟨m + 1, by omega, by simpa using h1, by simp [h2, h]⟩
      · rw [e, if_pos (by omega)]
        exact .inr ⟨rfl, by simp [h, h1]⟩
theorem mem_take_of {α : Type} {l : List α} {m k : Nat} {p : α} (h : l[m]? = some p) (hk : m < k) : p ∈ l.take k :=
  List.mem_of_getElem? (i := m) (by rw [List.getElem?_take, if_pos hk]; exact h)
theorem IsWhere.alone {l : List (Nat × Nat)} {p : Nat × Nat} {q q' : Int} (h : IsWhere l p q) (h' : IsWhere l p q') : q = q' := by
  rcases h with ⟨m, rfl, h1, h2⟩ | ⟨rfl, h1⟩ <;> rcases h' with ⟨m', rfl, h3, h4⟩ | ⟨rfl, h3⟩
  · rcases Nat.lt_trichotomy m m' with e | e | e
    · exact absurd (mem_take_of h1 e) h4
    · rw [e]
    · exact absurd (mem_take_of h3 e) h2
  · exact absurd (List.mem_of_getElem? h1) h3
  · exact absurd (List.mem_of_getElem? h3) h1
  · rfl
theorem IsWhere.wh {l : List (Nat × Nat)} {p : Nat × Nat} {q : Int} (h : IsWhere l p q) : q = wh l p := h.alone (wh_is l p)
theorem wh_at {l : List (Nat × Nat)} (hn : l.Nodup) {i : Nat} {p : Nat × Nat} (h : l[i]? = some p) : wh l p = i := by
  refine (IsWhere.alone (.inl ⟨i, rfl, h, fun hm => ?_⟩) (wh_is l p)).symm
  obtain ⟨j, hj⟩ := List.mem_iff_getElem?.1 hm
  rw [List.getElem?_take] at hj
  split at hj
  · rename_i hlt
    obtain ⟨h1, h2⟩ := List.getElem?_eq_some_iff.1 h
    obtain ⟨h3, h4⟩ := List.getElem?_eq_some_iff.1 hj
    exact List.pairwise_iff_getElem.1 hn j i h3 h1 hlt (h4.trans h2.symm)
  · cases hj
theorem wh_mem {l : List (Nat × Nat)} {p : Nat × Nat} (h : p ∈ l) : ∃ i : Nat, wh l p = i ∧ l[i]? = some p := by
  rcases wh_is l p with ⟨m, e, h1, _⟩ | ⟨_, h1⟩
  · exact ⟨m, e, h1⟩
  · exact absurd h h1
def cov (L : List (Nat × Nat)) (a b c d n k : Nat) : Bool := decide (wh L (a, b) ≤ wh L (n, k)) && decide (wh L (n, k + 1) ≤ wh L (c, d))
def csOf (s : List Nd) (n : Nat) : List ByteArray := match s[n]? with | some x => x.cs | none => []
theorem csOf_eq {s : List Nd} {n : Nat} {x : Nd} (h : s[n]? = some x) : csOf s n = x.cs := by simp [csOf, h]
def pk (cs : List ByteArray) (c : Nat → Bool) (k : Nat) : List ByteArray := (List.range k).flatMap fun b => if c b then cs[b]?.toList else []
theorem pk_zero (cs : List ByteArray) (c : Nat → Bool) : pk cs c 0 = [] := rfl
theorem pk_succ (cs : List ByteArray) (c : Nat → Bool) (k : Nat) : pk cs c (k + 1) = pk cs c k ++ (if c k then cs[k]?.toList else []) := by simp [pk, List.range_succ]
def readP (s : List Nd) (L : List (Nat × Nat)) (a b c d : Nat) (ns : List Nat) : List ByteArray := ns.flatMap fun n => pk (csOf s n) (cov L a b c d n) (csOf s n).length
def chB (s : List Nd) (L : List (Nat × Nat)) (i : Nat) : List ByteArray :=
  match L[i]?, L[i + 1]? with
  | some p, some q => if p.1 = q.1 ∧ (s[p.1]?.map (·.t)) = some true then (csOf s p.1)[p.2]?.toList else []
  | _, _ => []
def readR (s : List Nd) (L : List (Nat × Nat)) (i : Nat) (m : Nat) : List ByteArray := (List.range m).flatMap fun j => chB s L (i + j)
theorem readR_zero (s : List Nd) (L : List (Nat × Nat)) (i : Nat) : readR s L i 0 = [] := rfl
theorem readR_succ (s : List Nd) (L : List (Nat × Nat)) (i m : Nat) : readR s L i (m + 1) = readR s L i m ++ chB s L (i + m) := by simp [readR, List.range_succ]
theorem infix_flatMap {α β : Type} {l : List α} {f : α → List β} {a : α} {z : List β} (ha : a ∈ l) (h : z <:+: f a) : z <:+: l.flatMap f := by
  obtain ⟨x, y, rfl⟩ := List.append_of_mem ha
  rw [List.flatMap_append, List.flatMap_cons]
  exact h.trans ⟨x.flatMap f, y.flatMap f, by simp⟩
theorem text_next {s : List Nd} (wf : WF s) {n b : Nat} {x : Nd} (hx : s[n]? = some x) (ht : x.t = true) (hb : b < x.cs.length) : ∀ (k m : Nat), (n, b) ∈ plF s k m → [(n, b), (n, b + 1)] <:+: plF s k m := by
  intro k
  induction k with
  | zero => intro m h; simp [plF] at h
  | succ k ih =>
    intro m h
    by_cases hm : m = n
    · subst hm
      have hk : kidsOf s m = [] := by rw [kidsOf_eq hx]; exact (wf.elem m x hx).1 ht
      have e : x.cs.length + 1 = b + (2 + (x.cs.length - b - 1)) := by omega
      rw [plF, hk, sizeAt_eq hx, sizeN_text ht, upTo, e, List.range_add, List.flatMap_append, List.range_add]
      refine List.IsInfix.trans ?_ (List.suffix_append _ _).isInfix
      rw [List.map_append, List.flatMap_append]
      refine List.IsInfix.trans ?_ (List.prefix_append _ _).isInfix
      have : (List.range 2).map (fun i => b + i) = [b, b + 1] := by simp [List.range_succ]
      rw [this]
      simp
    · rw [plF, upTo] at h ⊢
      obtain ⟨i, hi, h⟩ := List.mem_flatMap.1 h
      refine infix_flatMap hi ?_
      rcases List.mem_cons.1 h with h | h
      · simp at h; exact absurd h.1.symm hm
      · refine List.IsInfix.trans ?_ (List.suffix_cons _ _).isInfix
        split at h
        · rename_i c hc
          exact ih c h
        · simp at h
theorem pl_of_all {s : List Nd} (wf : WF s) : ∀ (k t n q : Nat), n ∈ allF s k t → q ≤ sizeAt s n → (n, q) ∈ plF s k t := by
  intro k
  induction k with
  | zero => intro t n q h; simp [allF] at h
  | succ k ih =>
    intro t n q h hq
    rw [plF, upTo, List.mem_flatMap]
    rw [allF, List.mem_cons, List.mem_flatMap] at h
    rcases h with rfl | ⟨c, hc, h⟩
    · exact ⟨q, List.mem_range.2 (by omega), List.mem_cons_self⟩
    · obtain ⟨x, hx, hcx⟩ := kidsOf_mem hc
      obtain ⟨i, hi⟩ := List.mem_iff_getElem?.1 hcx
      have hil : i < x.ks.length := (List.getElem?_eq_some_iff.1 hi).1
      have ht : x.t = false := by
        cases e : x.t with
        | false => rfl
        | true => rw [(wf.elem t x hx).1 e] at hil; simp at hil
      refine ⟨i, List.mem_range.2 (by rw [sizeAt_eq hx, sizeN_elem ht]; omega), List.mem_cons_of_mem _ ?_⟩
      rw [kidsOf_eq hx, hi]
      exact ih c n q h hq
theorem infix_at {α : Type} {l : List α} (hn : l.Nodup) {i : Nat} {p q : α} (h : [p, q] <:+: l) (hi : l[i]? = some p) : l[i + 1]? = some q := by
  obtain ⟨a, b, e⟩ := h
  have h1 : l[a.length]? = some p := by rw [← e]; simp
  have h2 : l[a.length + 1]? = some q := by rw [← e]; simp
  obtain ⟨h3, h4⟩ := List.getElem?_eq_some_iff.1 h1
  obtain ⟨h5, h6⟩ := List.getElem?_eq_some_iff.1 hi
  rcases Nat.lt_trichotomy i a.length with e | e | e
  · exact absurd (h6.trans h4.symm) (List.pairwise_iff_getElem.1 hn i a.length h5 h3 e)
  · rw [e]; exact h2
  · exact absurd (h4.trans h6.symm) (List.pairwise_iff_getElem.1 hn a.length i h3 h5 e)
theorem wh_next {s : List Nd} (wf : WF s) {k t n b : Nat} {x : Nd} (hx : s[n]? = some x) (ht : x.t = true) (hb : b < x.cs.length) (hm : (n, b) ∈ plF s k t) : wh (plF s k t) (n, b + 1) = wh (plF s k t) (n, b) + 1 := by
  obtain ⟨i, e, hi⟩ := wh_mem hm
  rw [e, wh_at (pl_nodup wf k t) (infix_at (pl_nodup wf k t) (text_next wf hx ht hb k t hm) hi)]
  rfl
theorem chB_at {s : List Nd} (wf : WF s) {k t i : Nat} {p : Nat × Nat} (hp : (plF s k t)[i]? = some p) (hi : i + 1 < (plF s k t).length) : chB s (plF s k t) i = (csOf s p.1)[p.2]?.toList := by
  obtain ⟨q, hq⟩ : ∃ q, (plF s k t)[i + 1]? = some q := ⟨_, List.getElem?_eq_getElem hi⟩
  unfold chB
  rw [hp, hq]
  simp only
  cases hx : s[p.1]? with
  | none => simp [csOf, hx]
  | some x =>
    cases ht : x.t with
    | false => simp [csOf, hx, (wf.elem p.1 x hx).2 ht]
    | true =>
      by_cases he : p.1 = q.1
      · simp [he, ht]
      · simp only [he, false_and, if_false]
        rw [csOf_eq hx]
        by_cases hb : p.2 < x.cs.length
        · have := infix_at (pl_nodup wf k t) (text_next wf hx ht hb k t (List.mem_of_getElem? hp)) hp
          rw [hq] at this
          cases this
          exact absurd rfl he
        · rw [List.getElem?_eq_none (by omega)]; rfl
theorem range_mid {α : Type} (N lo hi : Nat) (h1 : lo ≤ hi) (h2 : hi ≤ N) (G : Nat → List α) : (List.range N).flatMap (fun i => if lo ≤ i ∧ i < hi then G i else []) = (List.range (hi - lo)).flatMap (fun j => G (lo + j)) := by
  have e : N = lo + ((hi - lo) + (N - hi)) := by omega
  rw [e, List.range_add, List.flatMap_append, List.range_add, List.map_append, List.flatMap_append]
  have a : (List.range lo).flatMap (fun i => if lo ≤ i ∧ i < hi then G i else []) = [] := by
    rw [List.flatMap_eq_nil_iff]
    intro i hi
    rw [if_neg (by have := List.mem_range.1 hi; omega)]
  have c : (((List.range (N - hi)).map (fun x => hi - lo + x)).map (fun x => lo + x)).flatMap (fun i => if lo ≤ i ∧ i < hi then G i else []) = [] := by
    rw [List.flatMap_eq_nil_iff]
    intro i hi
    simp only [List.map_map, List.mem_map] at hi
    obtain ⟨j, _, rfl⟩ := hi
    rw [if_neg (by simp only [Function.comp]; omega)]
  rw [a, c, List.nil_append, List.append_nil, List.flatMap_map]
  rw [List.flatMap_def, List.flatMap_def]
  congr 1
  refine List.map_congr_left (fun j hj => ?_)
  rw [if_pos (by have := List.mem_range.1 hj; omega)]
theorem flatMap_index {α β : Type} (l : List α) (F : α → List β) : l.flatMap F = (List.range l.length).flatMap (fun i => match l[i]? with | some p => F p | none => []) := by
  induction l with
  | nil => rfl
  | cons a l ih =>
    rw [List.length_cons, List.range_succ_eq_map, List.flatMap_cons, List.flatMap_cons, List.flatMap_map, ih]
    rfl
theorem pl_texts {s : List Nd} (wf : WF s) (H : Nat × Nat → List ByteArray) (hH : ∀ p, (csOf s p.1).length ≤ p.2 → H p = []) : ∀ (k n : Nat), n < s.length → (plF s k n).flatMap H = (allF s k n).flatMap (fun m => (List.range (csOf s m).length).flatMap (fun b => H (m, b))) := by
  intro k
  induction k with
  | zero => intro n _; rfl
  | succ k ih =>
    intro n hn
    have hx : s[n]? = some s[n] := List.getElem?_eq_getElem hn
    generalize s[n] = x at hx
    rw [plF, upTo, allF, List.flatMap_cons, kidsOf_eq hx, sizeAt_eq hx, csOf_eq hx, List.flatMap_assoc]
    cases ht : x.t with
    | true =>
      rw [(wf.elem n x hx).1 ht, sizeN_text ht, List.range_succ, List.flatMap_append]
      simp only [List.getElem?_nil, List.flatMap_cons, List.flatMap_nil, List.append_nil]
      rw [hH (n, x.cs.length) (by rw [csOf_eq hx]; exact Nat.le_refl _), List.append_nil]
    | false =>
      have hcs : x.cs = [] := (wf.elem n x hx).2 ht
      have h0 : ∀ i, H (n, i) = [] := fun i => hH (n, i) (by rw [csOf_eq hx, hcs]; simp)
      rw [hcs, sizeN_elem ht, List.range_succ, List.flatMap_append]
      simp only [List.flatMap_cons, h0, List.nil_append, List.length_nil, List.range_zero, List.flatMap_nil, List.append_nil]
      rw [List.getElem?_eq_none (Nat.le_refl _)]
      simp only [List.flatMap_nil, List.append_nil]
      have key : ∀ l : List Nat, (∀ c ∈ l, c ∈ x.ks) → (l.flatMap (allF s k)).flatMap (fun m => (List.range (csOf s m).length).flatMap (fun b => H (m, b))) = (List.range l.length).flatMap (fun i => (match l[i]? with | some c => plF s k c | none => []).flatMap H) := by
        intro l hl
        rw [List.flatMap_assoc, flatMap_index l]
        rw [List.flatMap_def, List.flatMap_def]
        congr 1
        refine List.map_congr_left (fun i hi => ?_)
        cases hc : l[i]? with
        | none => rfl
        | some c =>
          simp only
          obtain ⟨y, hy, _⟩ := wf.kid n x hx c (hl c (List.mem_of_getElem? hc))
          rw [ih c (List.getElem?_eq_some_iff.1 hy).1]
      exact (key x.ks (fun c h => h)).symm
theorem read_same {s : List Nd} (wf : WF s) {k t a b c d i j : Nat} (ht : t < s.length) (hi : (plF s k t)[i]? = some (a, b)) (hj : (plF s k t)[j]? = some (c, d)) (hij : i ≤ j) :
    readR s (plF s k t) i (j - i) = readP s (plF s k t) a b c d (allF s k t) := by
  have hnd := pl_nodup wf k t
  have hjl : j < (plF s k t).length := (List.getElem?_eq_some_iff.1 hj).1
  have e1 : readR s (plF s k t) i (j - i) = (plF s k t).flatMap (fun p => if (i : Int) ≤ wh (plF s k t) p ∧ wh (plF s k t) p < j then (csOf s p.1)[p.2]?.toList else []) := by
    rw [flatMap_index]
    have := range_mid (plF s k t).length i j hij (Nat.le_of_lt hjl) (fun m => chB s (plF s k t) m)
    rw [readR, ← this, List.flatMap_def, List.flatMap_def]
    congr 1
    refine List.map_congr_left (fun m hm => ?_)
    have hml := List.mem_range.1 hm
    have hp : (plF s k t)[m]? = some (plF s k t)[m] := List.getElem?_eq_getElem hml
    rw [hp]
    simp only
    rw [wh_at hnd hp]
    by_cases hc : i ≤ m ∧ m < j
    · rw [if_pos hc, if_pos ⟨by omega, by omega⟩]
      exact chB_at wf hp (by omega)
    · rw [if_neg hc, if_neg (by omega)]
  rw [e1, pl_texts wf _ (fun p hp => by rw [List.getElem?_eq_none hp]; simp) k t ht]
  unfold readP
  rw [List.flatMap_def, List.flatMap_def]
  congr 1
  refine List.map_congr_left (fun n hn => ?_)
  unfold pk
  rw [List.flatMap_def, List.flatMap_def]
  congr 1
  refine List.map_congr_left (fun q hq => ?_)
  have hql := List.mem_range.1 hq
  have hnl := all_lt wf k t ht n hn
  have hx : s[n]? = some s[n] := List.getElem?_eq_getElem hnl
  generalize s[n] = x at hx
  rw [csOf_eq hx] at hql
  have htx : x.t = true := by
    cases e : x.t with
    | true => rfl
    | false => rw [(wf.elem n x hx).2 e] at hql; simp at hql
  have hmem : (n, q) ∈ plF s k t := by
    refine pl_of_all wf k t n q hn ?_
    rw [sizeAt_eq hx, sizeN_text htx]
    omega
  unfold cov
  rw [wh_at hnd hi, wh_at hnd hj, wh_next wf hx htx hql hmem]
  simp only [Bool.and_eq_true, decide_eq_true_eq]
  by_cases hc : (i : Int) ≤ wh (plF s k t) (n, q) ∧ wh (plF s k t) (n, q) < j
  · rw [if_pos hc, if_pos ⟨hc.1, by omega⟩]
  · rw [if_neg hc, if_neg (by omega)]
end Go.Proofs.YtabogkonklplcaaGreatDoor

namespace Go.Proofs.YtabogkonklplcaaGreatDoor
open Go.RowKit Go.Lib
set_option linter.unusedSimpArgs false
set_option linter.unusedVariables false
section
variable {w : World} {F : Nat → Prop} {bf bn cap : Nat} {pn : List PN} {s : List Nd}
set_option maxHeartbeats 400000 in
theorem place_no (hD : PForAt w F bf bn cap pn s) (n k : Int) (h : isB s n = false) : Calls Tryz.prog 98 #[ptr bf, .agg #[.int .i64 n, .int .i64 k]] w fun e w' => e = .returned (refusalV n 1) ∧ Below w.heap.size w w' := by
  have C := hid (fun w1 (hb : Below w.heap.size w w1) => find_no (hD.below hb) n h)
  clear hD h
  go_enter Tryz.func98, Tryz.ntmps98
  go_wp2_with (go_at_call 87; refine (C.out _ (by first | exact Below.refl _ _ | go_grown)).mono ?_; rintro e w1 ⟨rfl, rfl⟩)
  go_ret
  exact ⟨rfl, by go_grown⟩
set_option maxHeartbeats 1000000 in
theorem place_text (hD : PForAt w F bf bn cap pn s) (n : Nat) (k : Int) (x : Nd) (hx : s[n]? = some x) (ht : x.t = true) (hch : ∀ d ∈ x.cs, IsCh d) (hl : x.cs.length < lots) (ho : k < 0 ∨ (x.cs.length : Int) < k) :
    Calls Tryz.prog 98 #[ptr bf, .agg #[.int .i64 n, .int .i64 k]] w fun e w' => e = .returned (.iface 145 (.agg #[.int .i64 n, outV k])) ∧ Below w.heap.size w w' := by
  have hi : n < s.length := (List.getElem?_eq_some_iff.1 hx).1
  have hP : Below w.heap.size w (w.alloc (.cells #[.int .i64 n, .int .i64 k] 37)) := (Below.refl _ w).alloc (Nat.le_refl _) _
  have C := hid (find_yes (hD.below hP) n (isB_of (by omega)))
  have C2 := hid (fun w1 => find_out x.cs hch hl k ho w1)
  have h0 := hD.nodesCell
  have hlt := hD.lt
  obtain ⟨r, hr, ho', c0, c1, c2, c3⟩ := hD.look hx
  rw [ht] at c1
  clear hD c0 c2 hr ho' hx hch
  go_enter Tryz.func98, Tryz.ntmps98
  go_wp2_with (go_at_call 87; refine C.out.mono ?_; rintro e w1 ⟨rfl, hw1⟩; replace hw1 := hw1.symm; subst hw1)
  go_region
  go_wp2
  go_region_held3 (fun w' => w'.cell? ⟨bf, 0, none⟩ = some (.slice (some ⟨bn, 0, none⟩) s.length cap) ∧ w'.cell? ⟨w.heap.size, 0, none⟩ = some (.int .i64 n) ∧ w'.cell? ⟨w.heap.size, 1, none⟩ = some (.int .i64 k) ∧ w'.cell? ⟨bn, n * 4 + 3, none⟩ = some (.string (catB x.cs))) (first | exact KEEP.out | go_keep) ((
     go_at_call 102; refine (C2.out _).mono ?_; rintro e w2 ⟨rfl, hb2⟩
     have hq := (hb2.block w.heap.size (by simp)).trans (heap_alloc_new w (.cells #[.int .i64 n, .int .i64 k] 37))
     have q0 : w2.cell? ⟨w.heap.size, 0, none⟩ = some (.int .i64 n) := cell_of_heap hq 0
     have q1 : w2.cell? ⟨w.heap.size, 1, none⟩ = some (.int .i64 k) := cell_of_heap hq 1
     have hB2 : Below w.heap.size w w2 := hP.trans ⟨hb2.os, hb2.tape, hb2.output, Nat.le_trans (by simp) hb2.size, fun k hk => hb2.block k (by simp at hk ⊢; omega)⟩
     have KEEP := hid (And.intro ((hB2.cell (p := ⟨bf, 0, none⟩) hlt.1).trans h0) (And.intro q0 (And.intro q1 ((hB2.cell (p := ⟨bn, n * 4 + 3, none⟩) hlt.2).trans c3))))
     clear hq hb2))
  go_wp2
  go_ret
  exact ⟨rfl, hB2⟩
set_option maxHeartbeats 1000000 in
theorem place_elem (hD : PForAt w F bf bn cap pn s) (n : Nat) (k : Int) (x : Nd) (hx : s[n]? = some x) (ht : x.t = false) (ho : k < 0 ∨ (x.ks.length : Int) < k) :
    Calls Tryz.prog 98 #[ptr bf, .agg #[.int .i64 n, .int .i64 k]] w fun e w' => e = .returned (refusalV n 3) ∧ Below w.heap.size w w' := by
  have hi : n < s.length := (List.getElem?_eq_some_iff.1 hx).1
  have hP : Below w.heap.size w (w.alloc (.cells #[.int .i64 n, .int .i64 k] 37)) := (Below.refl _ w).alloc (Nat.le_refl _) _
  have C := hid (find_yes (hD.below hP) n (isB_of (by omega)))
  have h0 := hD.nodesCell
  have hlt := hD.lt
  obtain ⟨r, hr, ho', c0, c1, c2, c3⟩ := hD.look hx
  rw [ht] at c1
  obtain ⟨ka, kc, hkv⟩ := slice_shape ho'.kids
  rw [hkv] at c2
  clear hD c0 c3 hr ho' hx hkv
  by_cases hneg : k < 0
  · have hd : decide (k < 0) = true := decide_eq_true hneg
    go_enter Tryz.func98, Tryz.ntmps98
    go_wp2_with (go_at_call 87; refine C.out.mono ?_; rintro e w1 ⟨rfl, hw1⟩; replace hw1 := hw1.symm; subst hw1)
    go_region
    go_wp2
    go_region
    go_wp2
    go_ret
    exact ⟨rfl, by go_grown⟩
  · have hd : decide (k < 0) = false := decide_eq_false hneg
    have hd2 : decide ((x.ks.length : Int) < k) = true := decide_eq_true (by omega)
    go_enter Tryz.func98, Tryz.ntmps98
    go_wp2_with (go_at_call 87; refine C.out.mono ?_; rintro e w1 ⟨rfl, hw1⟩; replace hw1 := hw1.symm; subst hw1)
    go_region
    go_wp2
    go_region
    go_wp2
    go_ret
    exact ⟨rfl, by go_grown⟩
set_option maxHeartbeats 1000000 in
theorem place_ok (hD : PForAt w F bf bn cap pn s) (n k : Nat) (x : Nd) (hx : s[n]? = some x) (hch : ∀ d ∈ x.cs, IsCh d) (hl : x.cs.length < lots) (ho : k ≤ sizeN x) :
    Calls Tryz.prog 98 #[ptr bf, .agg #[.int .i64 n, .int .i64 (k : Int)]] w fun e w' => e = .returned .nilIface ∧ Below w.heap.size w w' := by
  have hi : n < s.length := (List.getElem?_eq_some_iff.1 hx).1
  have hP : Below w.heap.size w (w.alloc (.cells #[.int .i64 n, .int .i64 (k : Int)] 37)) := (Below.refl _ w).alloc (Nat.le_refl _) _
  have C := hid (find_yes (hD.below hP) n (isB_of (by omega)))
  have h0 := hD.nodesCell
  have hlt := hD.lt
  obtain ⟨r, hr, ho', c0, c1, c2, c3⟩ := hD.look hx
  obtain ⟨ka, kc, hkv⟩ := slice_shape ho'.kids
  rw [hkv] at c2
  cases ht : x.t with
  | true =>
    rw [ht] at c1
    rw [sizeN_text ht] at ho
    have C2 := hid (fun w1 => find_at x.cs hch hl k ho w1)
    clear hD c0 c2 hr ho' hx hch hkv
    go_enter Tryz.func98, Tryz.ntmps98
    go_wp2_with (go_at_call 87; refine C.out.mono ?_; rintro e w1 ⟨rfl, hw1⟩; replace hw1 := hw1.symm; subst hw1)
    go_region
    go_wp2
    go_region_held3 (fun w' => w'.cell? ⟨bf, 0, none⟩ = some (.slice (some ⟨bn, 0, none⟩) s.length cap) ∧ w'.cell? ⟨w.heap.size, 0, none⟩ = some (.int .i64 n) ∧ w'.cell? ⟨w.heap.size, 1, none⟩ = some (.int .i64 k) ∧ w'.cell? ⟨bn, n * 4 + 3, none⟩ = some (.string (catB x.cs))) (first | exact KEEP.out | go_keep) ((
       go_at_call 102; refine (C2.out _).mono ?_; rintro e w2 ⟨rfl, hb2⟩
       have hq := (hb2.block w.heap.size (by simp)).trans (heap_alloc_new w (.cells #[.int .i64 n, .int .i64 k] 37))
       have q0 : w2.cell? ⟨w.heap.size, 0, none⟩ = some (.int .i64 n) := cell_of_heap hq 0
       have q1 : w2.cell? ⟨w.heap.size, 1, none⟩ = some (.int .i64 k) := cell_of_heap hq 1
       have hB2 : Below w.heap.size w w2 := hP.trans ⟨hb2.os, hb2.tape, hb2.output, Nat.le_trans (by simp) hb2.size, fun k hk => hb2.block k (by simp at hk ⊢; omega)⟩
       have KEEP := hid (And.intro ((hB2.cell (p := ⟨bf, 0, none⟩) hlt.1).trans h0) (And.intro q0 (And.intro q1 ((hB2.cell (p := ⟨bn, n * 4 + 3, none⟩) hlt.2).trans c3))))
       clear hq hb2))
    go_wp2
    go_ret
    exact ⟨rfl, hB2⟩
  | false =>
    rw [ht] at c1
    rw [sizeN_elem ht] at ho
    have hd : decide ((k : Int) < 0) = false := decide_eq_false (by omega)
    have hd2 : decide ((x.ks.length : Int) < (k : Int)) = false := decide_eq_false (by omega)
    clear hD c0 c3 hr ho' hx hch hkv
    go_enter Tryz.func98, Tryz.ntmps98
    go_wp2_with (go_at_call 87; refine C.out.mono ?_; rintro e w1 ⟨rfl, hw1⟩; replace hw1 := hw1.symm; subst hw1)
    go_region
    go_wp2
    go_region
    go_wp2
    go_ret
    exact ⟨rfl, by go_grown⟩
set_option maxRecDepth 20000 in
set_option maxHeartbeats 1000000 in
theorem ttop_any (wf : WF s) (hD : PForAt w F bf bn cap pn s) (n : Nat) (hn : n < s.length) :
    Calls Tryz.prog 99 #[ptr bf, .int .i64 n] w (TopPost s n w) := by
  obtain ⟨h, B, u⟩ := wf.up
  have h0 := hD.nodesCell
  have HD := hid hD
  have HW := hid wf
  have HU := hid u
  clear hD wf u
  go_enter Tryz.func99, Tryz.ntmps99
  go_wp2
  go_loopw [1] (fun a wr => TopInv s n w a wr) (fun a _ => upMeas h B (intOf a))
  case atStart => exact ⟨rfl, n, 0, rfl, hn, rfl⟩
  case round =>
    obtain ⟨rfl, c, m, rfl, hc, hm⟩ := hrel
    obtain ⟨x, hx⟩ : ∃ x, s[c]? = some x := ⟨_, List.getElem?_eq_getElem hc⟩
    obtain ⟨r, hr, ho, c0, c1, c2, c3⟩ := HD.out.look hx
    have HM := hid hm
    have HX := hid hx
    clear c1 c2 c3 hr ho hm hx
    by_cases hp : 0 ≤ x.p
    · have hup := upMeas_lt HU.out HX.out
      have hpar := (HU.out.par c x HX.out hp).1
      have HUP := hid hup
      have hp1 : (x.p == -1) = false := by simp; omega
      clear hup
      go_wp2
      go_roundw
      case rel =>
        obtain ⟨q, hq⟩ := Int.eq_ofNat_of_zero_le hp
        refine ⟨rfl, q, m + 1, by rw [hq], by omega, ?_⟩
        rw [climb_step HM.out]
        simp [parOf, HX.out, hq]
      case measure => exact HUP.out
    · have hp1 : x.p = -1 := by
        rcases HW.out.par c x HX.out with e | ⟨q, y, e, _⟩
        · exact e
        · omega
      rw [hp1] at c0
      go_wp2
      go_ret
      exact ⟨⟨c, rfl, ⟨m, HM.out⟩, x, HX.out, hp1⟩, rfl⟩
end
end Go.Proofs.YtabogkonklplcaaGreatDoor

namespace Go.Proofs.YtabogkonklplcaaGreatDoor
open Go.RowKit Go.Lib
set_option linter.unusedSimpArgs false
set_option linter.unusedVariables false
def CmpInv (l m : List Nat) (w : World) (a : Value) (wr : World) : Prop := wr = w ∧ ∃ i : Nat, a = .int .i64 (i : Int) ∧ i ≤ l.length ∧ i ≤ m.length ∧ lexC l m = lexC (l.drop i) (m.drop i)
theorem lex_over {l : List Nat} {i : Nat} (h : i < l.length) : lexC (l.drop i) [] = 1 := by
  rw [List.drop_eq_getElem_cons h]; rfl
theorem lex_at {l m : List Nat} {i : Nat} (h : i < l.length) (h' : i < m.length) : lexC (l.drop i) (m.drop i) = if Lib.compareInt (l[i] : Int) (m[i] : Int) = 0 then lexC (l.drop (i + 1)) (m.drop (i + 1)) else Lib.compareInt (l[i] : Int) (m[i] : Int) := by
  rw [List.drop_eq_getElem_cons h, List.drop_eq_getElem_cons h']
  generalize l.drop (i + 1) = A
  generalize m.drop (i + 1) = B
  generalize l[i] = a
  generalize m[i] = b
  have e : lexC (a :: A) (b :: B) = if a < b then -1 else if b < a then 1 else lexC A B := rfl
  rw [e]
  by_cases h1 : a < b
  · have hc : Lib.compareInt (a : Int) (b : Int) = -1 := by unfold Lib.compareInt; rw [if_pos (by omega)]
    rw [hc, if_pos h1, if_neg (by decide)]
  · by_cases h2 : b < a
    · have hc : Lib.compareInt (a : Int) (b : Int) = 1 := by unfold Lib.compareInt; rw [if_neg (by omega), if_pos (by omega)]
      rw [hc, if_neg h1, if_pos h2, if_neg (by decide)]
    · have hc : Lib.compareInt (a : Int) (b : Int) = 0 := by unfold Lib.compareInt; rw [if_neg (by omega), if_neg (by omega)]
      rw [hc, if_neg h1, if_neg h2, if_pos rfl]
theorem lex_done {l m : List Nat} (h : l.length ≤ m.length) : lexC (l.drop l.length) (m.drop l.length) = if l.length < m.length then -1 else 0 := by
  rw [List.drop_length]
  by_cases hl : l.length < m.length
  · rw [if_pos hl, List.drop_eq_getElem_cons hl]; rfl
  · rw [if_neg hl, List.drop_of_length_le (by omega)]; rfl
set_option maxRecDepth 20000 in
set_option maxHeartbeats 1000000 in
theorem scmp_any (l m : List Nat) (g1 c1 g2 c2 : Nat) (w : World) (h1 : ∀ (j x : Nat), l[j]? = some x → w.cell? ⟨g1, j, none⟩ = some (.int .i64 x)) (h2 : ∀ (j x : Nat), m[j]? = some x → w.cell? ⟨g2, j, none⟩ = some (.int .i64 x)) (hl : l.length < lots) (hm : m.length < lots) :
    Calls Tryz.prog 152 #[.slice (some ⟨g1, 0, none⟩) l.length c1, .slice (some ⟨g2, 0, none⟩) m.length c2] w fun e w' => e = .returned (.int .i64 (lexC l m)) ∧ w' = w := by
  have H1 := hid h1
  have H2 := hid h2
  unfold lots at hl hm
  clear h1 h2
  go_enter Tryz.func152, Tryz.ntmps152
  go_wp2
  go_loopw [11] (fun a wr => CmpInv l m w a wr) (fun a _ => l.length - (intOf a).toNat)
  case atStart => exact ⟨rfl, 0, rfl, Nat.zero_le _, Nat.zero_le _, rfl⟩
  case round =>
    obtain ⟨rfl, i, rfl, hi, hi2, he⟩ := hrel
    have HE := hid he
    clear he
    by_cases hlt : i < l.length
    · have a1 := H1.out i l[i] (List.getElem?_eq_getElem hlt)
      have d1 : decide ((i : Int) < (l.length : Int)) = true := decide_eq_true (by omega)
      by_cases hm2 : i < m.length
      · have a2 := H2.out i m[i] (List.getElem?_eq_getElem hm2)
        have d2 : decide ((m.length : Int) ≤ (i : Int)) = false := decide_eq_false (by omega)
        have LA := hid (lex_at hlt hm2)
        have C := hid (Tryz.cmp_Compare_int (l[i] : Int) (m[i] : Int) wr)
        obtain ⟨c, hc⟩ : ∃ c, Lib.compareInt (l[i] : Int) (m[i] : Int) = c := ⟨_, rfl⟩
        rw [hc] at C LA
        clear hc
        generalize l[i] = lv at *
        generalize m[i] = mv at *
        by_cases h0 : c = 0
        · subst h0
          go_wp2_with (go_at_call 180; refine C.out.mono ?_; rintro e w1 ⟨rfl, hw1⟩; replace hw1 := hw1.symm; subst hw1)
          go_roundw
          case rel =>
            refine ⟨rfl, i + 1, by go_num, hlt, hm2, ?_⟩
            rw [HE.out, LA.out]; simp
          case measure =>
            show l.length - ((i : Int) + 1).toNat < l.length - ((i : Int)).toNat
            omega
        · have h0' : (c == 0) = false := by simpa using h0
          go_wp2_with (go_at_call 180; refine C.out.mono ?_; rintro e w1 ⟨rfl, hw1⟩; replace hw1 := hw1.symm; subst hw1)
          go_ret
          refine ⟨?_, rfl⟩
          rw [HE.out, LA.out, if_neg h0]; rfl
      · have d2 : decide ((m.length : Int) ≤ (i : Int)) = true := decide_eq_true (by omega)
        go_wp2
        go_ret
        refine ⟨?_, rfl⟩
        have hd : m.drop i = [] := List.drop_of_length_le (by omega)
        rw [HE.out, hd, lex_over hlt]; rfl
    · obtain rfl : i = l.length := by omega
      have LD := hid (lex_done hi2)
      by_cases hlm : l.length < m.length
      · have d3 : decide ((l.length : Int) < (m.length : Int)) = true := decide_eq_true (by omega)
        go_wp2
        go_ret
        refine ⟨?_, rfl⟩
        rw [HE.out, LD.out, if_pos hlm]; rfl
      · have d3 : decide ((l.length : Int) < (m.length : Int)) = false := decide_eq_false (by omega)
        go_wp2
        go_ret
        refine ⟨?_, rfl⟩
        rw [HE.out, LD.out, if_neg hlm]; rfl
end Go.Proofs.YtabogkonklplcaaGreatDoor

namespace Go.Proofs.YtabogkonklplcaaGreatDoor
open Go.RowKit Go.Lib
set_option linter.unusedSimpArgs false
set_option linter.unusedVariables false
theorem below_draw (w : World) (q : Nat) : Below w.heap.size w (w.drewN q) := ⟨rfl, rfl, rfl, Nat.le_refl _, fun _ _ => rfl⟩
theorem flat_len {f : Nat → List Nat} {ks : List Nat} {c : Nat} (h : c ∈ ks) : (f c).length ≤ (ks.flatMap f).length := by
  induction ks with
  | nil => cases h
  | cons a l ih =>
    rw [List.flatMap_cons, List.length_append]
    rcases List.mem_cons.1 h with rfl | h
    · omega
    · have := ih h; omega
theorem up40 {s : List Nd} (wf : WF s) : ∃ h, Up s h 40 := by
  obtain ⟨h, B, u⟩ := wf.up
  refine ⟨fun n => if n < s.length then (allF s (h n + 1) n).length else 0, fun i => ?_, fun i x hx hp => ?_⟩
  · show (if i < s.length then (allF s (h i + 1) i).length else 0) ≤ 40
    split
    · exact all_length wf _ _ ‹_›
    · omega
  · have hi := (List.getElem?_eq_some_iff.1 hx).1
    obtain ⟨h1, h2⟩ := u.par i x hx hp
    refine ⟨h1, ?_⟩
    rcases wf.par i x hx with e | ⟨q, y, e, hy, hm⟩
    · omega
    · have hq := (List.getElem?_eq_some_iff.1 hy).1
      rw [e] at h2 ⊢
      simp only [Int.toNat_natCast] at h2 ⊢
      rw [if_pos hi, if_pos hq]
      have e2 : allF s (h q + 1) q = q :: (kidsOf s q).flatMap (allF s (h q)) := rfl
      have e3 : allF s (h i + 1) i = allF s (h q) i := all_stable wf u _ _ _ (by omega) h2
      rw [e2, e3, List.length_cons]
      have := flat_len (f := allF s (h q)) (show i ∈ kidsOf s q by rw [kidsOf_eq hy]; exact hm)
      omega
theorem way_top {s : List Nd} {t n : Nat} {l : List Nat} (wf : WF s) (w : Way s t n l) {x : Nd} (hx : s[t]? = some x) (hp : x.p = -1) : IsTop s n t := by
  induction w with
  | top => exact ⟨⟨0, rfl⟩, x, hx, hp⟩
  | @down q c i l y w hq hi ih =>
    obtain ⟨z, hz, hzp⟩ := wf.kid q y hq c (List.mem_of_getElem? hi)
    exact IsTop.up hz hzp ih
def PathInv (s : List Nd) (h : Nat → Nat) (n k : Nat) (w : World) (pv nv : Value) (wr : World) : Prop :=
  ∃ (c : Nat) (l : List Nat), nv = .int .i64 (c : Int) ∧ wr.ownsRow (w.heap.size + 1) 3 1 pv (l.length + 1) (intsV (k :: l.reverse)) ∧ Below w.heap.size w wr ∧ w.heap.size + 1 ≤ wr.heap.size ∧ c < s.length ∧ h n + l.length ≤ h c ∧ (∀ t L, Way s t c L → Way s t n (L ++ l))
def PathPost (s : List Nd) (n k : Nat) (w : World) (e : Ending) (w' : World) : Prop :=
  ∃ (t : Nat) (l : List Nat) (g c : Nat), e = .returned (.slice (some ⟨g, 0, none⟩) (l ++ [k]).length c) ∧ Way s t n l ∧ IsTop s n t ∧ l.length ≤ 40 ∧ w.heap.size ≤ g ∧ g < w'.heap.size ∧ (∀ (j x : Nat), (l ++ [k])[j]? = some x → w'.cell? ⟨g, j, none⟩ = some (.int .i64 (x : Int))) ∧ Below w.heap.size w w'
section
variable {w : World} {F : Nat → Prop} {bf bn cap : Nat} {pn : List PN} {s : List Nd}
set_option maxRecDepth 20000 in
set_option maxHeartbeats 1000000 in
theorem tpath_any (wf : WF s) (hD : PForAt w F bf bn cap pn s) (n k : Nat) (hn : n < s.length) :
    Calls Tryz.prog 153 #[ptr bf, .agg #[.int .i64 (n : Int), .int .i64 (k : Int)]] w (PathPost s n k w) := by
  obtain ⟨h, u⟩ := up40 wf
  obtain ⟨i0, hi, hz0, hz1, hz2⟩ := info_parts Tryz.infoInt
  have hcap := wf.cap
  have h0 := hD.nodesCell
  have hlt := hD.lt
  have HD := hid hD
  have HW := hid wf
  have HU := hid u
  clear hD wf u
  go_enter Tryz.func153, Tryz.ntmps153
  go_wp2
  go_loopw [5, 6] (fun pv nv wr => PathInv s h n k w pv nv wr) (fun _ nv _ => upMeas h 40 (intOf nv))
  case atStart =>
    refine ⟨n, [], rfl, ?_, ?_, ?_, hn, by simp, fun t L hw => by simpa using hw⟩
    · have := World.ownsRow_lit (base := w.heap.size + 1) (e := 3) (size := 1) (w.alloc (.cells #[.int .i64 (n : Int), .int .i64 (k : Int)] 37)) #[.int .i64 (k : Int)] 1 (by simp) (by decide) rfl
      simpa [intsV] using this
    · exact ((Below.refl _ w).alloc (Nat.le_refl _) _).alloc (by simp) _
    · simp
  case round =>
    obtain ⟨c, l, rfl, hrow, hb, hsz, hc, hlen, hway⟩ := hrel
    obtain ⟨x, hx⟩ : ∃ x, s[c]? = some x := ⟨_, List.getElem?_eq_getElem hc⟩
    have hD1 := HD.out.below hb
    have g0 := hD1.nodesCell
    obtain ⟨r, hr, ho, c0, c1, c2, c3⟩ := hD1.look hx
    have hl1 := hD1.lt
    have hh40 := HU.out.le c
    clear c1 c2 c3 hr ho
    by_cases hp : 0 ≤ x.p
    · obtain ⟨j, m, y, hj, hy, hm, hno, hyl⟩ := HW.out.place hx hp
      have CI := hid (tindex_at hD1 c j m x y hx hj hy hm hno (by unfold lots; omega) (by unfold lots; omega))
      have hup := (HU.out.par c x hx hp).2
      have hjl := (List.getElem?_eq_some_iff.1 hy).1
      have hum := upMeas_lt HU.out hx
      rw [hj] at c0 hup hum
      have HROW := hid hrow
      have HB := hid hb
      have HD1 := hid hD1
      have HWAY := hid (And.intro hway (And.intro hy hm))
      have HUM := hid hum
      have HXX := hid hx
      have HJ := hid hj
      clear hrow hb hD1 hway hx hy hm hno hum
      go_wp2_with (first
        | (go_at_call 106; refine CI.out.mono ?_; rintro e w1 ⟨rfl, q, rfl⟩
           have e0 := (cell_drewN _ q _).trans g0
           have e1 := (cell_drewN _ q _).trans c0)
        | (at_builtin
           go_must (have HS : Hid (SrcOk ((wr.drewN q).alloc (.cells #[.int .i64 (m : Int)] 3)) 1 (.slice (some ⟨wr.heap.size, 0, none⟩) 1 1) 1 [.int .i64 (m : Int)]) := .inr ⟨_, _, rfl, rfl, cell_one_new (wr.drewN q) _ _, by simp [Value.oneCell']⟩)
           have hr1 : (wr.drewN q).ownsRow (w.heap.size + 1) 3 1 u5 (l.length + 1) (intsV (k :: l.reverse)) := HROW.out
           refine wpList_append_any _ rfl (.tmp 29) (.tmp 33) 24 rfl (w.heap.size + 1) 3 i0 (.int .i64 0) 1 8 Tryz.underlying24 hi hz0 hz1 hz2 rfl (by decide) _ (l.length + 1) _ rfl (hr1.alloc _) _ 1 _ rfl HS.out (by unfold maxLen; omega) (by omega) (by simp; omega) ?_
           intro v2 w2 ho2 hb2
           have hB2 : Below w.heap.size w w2 := HB.out.trans (((below_draw wr q).alloc (Nat.le_refl _) _ |>.mono HB.out.size).trans (hb2.mono (by omega)))
           have f0 := (hB2.cell (p := ⟨bf, 0, none⟩) hlt.1).trans h0
           have f1 := hb2.cell (p := ⟨bn, c * 4, none⟩)
           have HO2 := hid ho2
           have HB2 := hid (And.intro hB2 hb2.size)
           have hD2 := HD.out.below hB2
           obtain ⟨r2, hr2, ho3, k0, -, -, -⟩ := hD2.look HXX.out
           rw [HJ.out] at k0
           clear ho2 hb2 hB2 f1 hr2 ho3 hD2 hr1))
      go_roundw
      case rel =>
        refine ⟨j, m :: l, rfl, ?_, HB2.out.1, ?_, hjl, ?_, fun t L hw => ?_⟩
        · have := HO2.out
          simpa [intsV] using this
        · have := HB2.out.2; simp at this; omega
        · simp at hup ⊢; omega
        · have := HWAY.out.1 t (L ++ [m]) (Way.down hw HWAY.out.2.1 HWAY.out.2.2)
          simpa using this
      case measure => exact HUM.out
    · have hp1 : x.p = -1 := by
        rcases HW.out.par c x hx with e | ⟨q, y, e, _⟩
        · exact e
        · omega
      rw [hp1] at c0
      obtain ⟨g, cp, cur, hv, hh, hn2, hcm, hcs, ht, hcell, hfr⟩ := row_ints (ks := k :: l.reverse) (by simpa using ownsRow_zero hrow) (by simp)
      have hg : w.heap.size + 1 ≤ g := by rw [hv] at hrow; exact (hrow.lt g rfl).1
      have CR := hid (Tryz.slices_Reverse_int_cells g 0 (l.length + 1) cp ((k :: l.reverse).map Int.ofNat) wr (by simp) (by omega) hcell (fun j hj => hfr j (by simpa using hj)))
      have hv' : u5 = .slice (some ⟨g, 0, none⟩) (l.length + 1) cp := by simpa using hv
      have HF := hid (And.intro hcell hfr)
      have hn3 : l.length + 1 ≤ cur.size := by rw [hcs]; simpa using hn2
      have HB := hid hb
      have HH := hid hh
      have HWAY := hid (hway c [] Way.top)
      have HX := hid hx
      subst hv'
      clear hrow hb hcell hfr hh ht hway hx hv
      have hvals : (((k :: l.reverse).map Int.ofNat).take (l.length + 1)).reverse.map (Value.int .i64) = intsV (l ++ [k]) := by
        rw [List.take_of_length_le (by simp)]; simp [intsV]
      rw [hvals] at CR
      clear hvals
      go_wp2_with (go_at_call 181; refine CR.out.mono ?_; rintro e w3 ⟨rfl, q, hw3⟩
                   have hk0 : Keeps (fun b => b = g) wr (wr.drewN q) := ⟨rfl, rfl, rfl, Nat.le_refl _, fun _ _ _ => rfl⟩
                   have hK : Keeps (fun b => b = g) wr w3 := by rw [hw3]; exact keeps_setCells g _ 0 _ hk0 rfl
                   obtain ⟨cur', k1, k2, k3⟩ := heap_setCells g 3 (intsV (l ++ [k])) 0 (wr.drewN q) cur HH.out (by rw [intsV_length]; simp; omega)
                   rw [← hw3] at k1
                   have HK := hid (And.intro hK (And.intro k1 k3))
                   clear hw3 hK k1 k3 k2 hk0)
      go_ret
      obtain ⟨hK, k1, k3⟩ := HK.out
      have hz := HB.out.size
      have hz2 := hK.size
      refine ⟨c, l, g, cp, by simp, by simpa using HWAY.out, way_top HW.out (by simpa using HWAY.out) HX.out hp1, by omega, by omega, heap_lt k1, fun j x hx => ?_, ?_⟩
      · rw [cell_of_heap k1 j, ← Array.getElem?_toList, k3]
        simp only [List.take_zero, List.nil_append]
        have hj : j < (intsV (l ++ [k])).length := by rw [intsV_length]; exact (List.getElem?_eq_some_iff.1 hx).1
        rw [List.getElem?_append_left hj]
        simp only [intsV, List.getElem?_map, hx]
        rfl
      · exact HB.out.trans ⟨hK.os, hK.tape, hK.output, hK.size, fun b hb => hK.block b (by omega) (by omega)⟩
end
end Go.Proofs.YtabogkonklplcaaGreatDoor
