import Derived.Test.YtabogkonklplcaaGreatDoorK21
import Derived.Test.YtabogkonklplcaaGreatDoorK14
import Derived.Test.YtabogkonklplcaaGreatDoorK16
import Derived.Test.YtabogkonklplcaaGreatDoorK11
import Derived.Test.YtabogkonklplcaaGreatDoorK22

namespace Go.Proofs.YtabogkonklplcaaGreatDoor
open Go.RowKit Go.Lib
set_option linter.unusedSimpArgs false
set_option linter.unusedVariables false
set_option maxHeartbeats 400000 in
theorem msplit_no {w : World} {F : Nat → Prop} {bx : Nat} {s s' : List Nd} {rs : List Sp} (hg : GG w) (hP : PLies w F bx ⟨s, rs⟩) {t : TypeId} {u : Value} {a y : Int} (A B : Int) (hE : ErrOf (.iface t u) a y)
    (hT : ∀ (F' : Nat → Prop) (bf : Nat), PFor w F' bf s → Calls Tryz.prog 63 #[ptr bf, .int .i64 A, .int .i64 B] w (TPost F' w bf s' (.tuple #[.int .i64 0, .nilFunc, .iface t u]))) :
    Calls Tryz.prog 30 #[ptr bx, .int .i64 A, .int .i64 B] w (PLPost F w bx ⟨s', rs⟩ (.tuple #[.int .i64 0, errV a y])) := by
  obtain ⟨bf, bl, sv, hD⟩ := hP
  have C := hid (hT _ _ hD.nodes)
  have c0 : w.cell? ⟨bx, 0, none⟩ = some (ptr bf) := cell_of_heap hD.doc 0
  have AF := hid (fun w1 w2 => pdoc_after (w1 := w1) (w2 := w2) (s' := s') hg hD)
  have AG := hid (fun w1 => gg_after (w1 := w1) (F := F) (bx := bx) (bl := bl) (sv := sv) hg)
  have E := hid (fun w1 (h1 : Glob w1) => mfollow_no h1 bx .nilFunc hE)
  clear hD hT hg hE
  go_enter Tryz.func30, Tryz.ntmps30
  go_wp2_with first
    | (go_at_call 63; refine C.out.mono ?_; rintro e w1 ⟨rfl, hk, hf⟩; have E1 := hid (E.out w1 (AG.out w1 hk)); have A1 := hid (fun w2 => AF.out w1 w2 hk hf); clear hk hf)
    | (go_at_call 64; refine E1.out.mono ?_; rintro e w2 ⟨rfl, hb⟩)
  go_ret2
  exact ⟨rfl, (A1.out _ hb).1, _, _, _, (A1.out _ hb).2⟩
theorem wf_half {s : List Nd} (wf : WF s) (h40 : s.length < 40) {n k : Nat} {x : Nd} (hx : s[n]? = some x) (ht : x.t = true) : WF ((s ++ [(⟨true, x.cs.drop k, [], -1⟩ : Nd)]).set n { x with cs := x.cs.take k }) := by
  have hch := wf.chars n x hx
  have hn := (List.getElem?_eq_some_iff.1 hx).1
  have w1 := wf_push wf h40 ⟨true, x.cs.drop k, [], -1⟩ rfl rfl (fun h => by cases h) ⟨by simp; omega, fun c hc => hch.2 c (List.mem_of_mem_drop hc)⟩
  exact wf_chars w1 (by rw [List.getElem?_append_left hn]; exact hx) ht ⟨by simp; omega, fun c hc => hch.2 c (List.mem_of_mem_take hc)⟩
end Go.Proofs.YtabogkonklplcaaGreatDoor

namespace Go.Proofs.YtabogkonklplcaaGreatDoor
set_option linter.unusedSimpArgs false
set_option linter.unusedVariables false
def wh : List (Nat × Nat) → Nat × Nat → Int
  | [], _ => -1
  | a :: l, p => if p = a then 0 else if wh l p < 0 then -1 else wh l p + 1
theorem wh_is (l : List (Nat × Nat)) (p : Nat × Nat) : IsWhere l p (wh l p) := by
  induction l with
  | nil => exact .inr ⟨rfl, by simp⟩
  | cons a l ih =>
    unfold wh
    by_cases h : p = a
    · rw [if_pos h]
      exact .inl ⟨0, rfl, by simp [h], by simp⟩
    · rw [if_neg h]
      rcases ih with ⟨m, e, h1, h2⟩ | ⟨e, h1⟩
      · rw [e, if_neg (by omega)]
        exact .inl ⟨m + 1, by omega, by simpa using h1, by simp [h2, h]⟩
      · rw [e, if_pos (by omega)]
        exact .inr ⟨rfl, by simp [h, h1]⟩
theorem mem_take_of {α : Type} {l : List α} {m k : Nat} {p : α} (h : l[m]? = some p) (hk : m < k) : p ∈ l.take k :=
  List.mem_of_getElem? (i := m) (by rw [List.getElem?_take, if_pos hk]; exact h)
theorem IsWhere.alone {l : List (Nat × Nat)} {p : Nat × Nat} {q q' : Int} (h : IsWhere l p q) (h' : IsWhere l p q') : q = q' := by
  rcases h with ⟨m, rfl, h1, h2⟩ | ⟨rfl, h1⟩ <;> rcases h' with ⟨m', rfl, h3, h4⟩ | ⟨rfl, h3⟩
  · rcases Nat.lt_trichotomy m m' with e | e | e
    · exact absurd (mem_take_of h1 e) h4
    · rw [e]
    · exact absurd (mem_take_of h3 e) h2
  · exact absurd (List.mem_of_getElem? h1) h3
  · exact absurd (List.mem_of_getElem? h3) h1
  · rfl
theorem IsWhere.wh {l : List (Nat × Nat)} {p : Nat × Nat} {q : Int} (h : IsWhere l p q) : q = wh l p := h.alone (wh_is l p)
theorem wh_at {l : List (Nat × Nat)} (hn : l.Nodup) {i : Nat} {p : Nat × Nat} (h : l[i]? = some p) : wh l p = i := by
  refine (IsWhere.alone (.inl ⟨i, rfl, h, fun hm => ?_⟩) (wh_is l p)).symm
  obtain ⟨j, hj⟩ := List.mem_iff_getElem?.1 hm
  rw [List.getElem?_take] at hj
  split at hj
  · rename_i hlt
    obtain ⟨h1, h2⟩ := List.getElem?_eq_some_iff.1 h
    obtain ⟨h3, h4⟩ := List.getElem?_eq_some_iff.1 hj
    exact List.pairwise_iff_getElem.1 hn j i h3 h1 hlt (h4.trans h2.symm)
  · cases hj
theorem wh_mem {l : List (Nat × Nat)} {p : Nat × Nat} (h : p ∈ l) : ∃ i : Nat, wh l p = i ∧ l[i]? = some p := by
  rcases wh_is l p with ⟨m, e, h1, _⟩ | ⟨_, h1⟩
  · exact ⟨m, e, h1⟩
  · exact absurd h h1
def cov (L : List (Nat × Nat)) (a b c d n k : Nat) : Bool := decide (wh L (a, b) ≤ wh L (n, k)) && decide (wh L (n, k + 1) ≤ wh L (c, d))
def csOf (s : List Nd) (n : Nat) : List ByteArray := match s[n]? with | some x => x.cs | none => []
theorem csOf_eq {s : List Nd} {n : Nat} {x : Nd} (h : s[n]? = some x) : csOf s n = x.cs := by simp [csOf, h]
def pk (cs : List ByteArray) (c : Nat → Bool) (k : Nat) : List ByteArray := (List.range k).flatMap fun b => if c b then cs[b]?.toList else []
theorem pk_zero (cs : List ByteArray) (c : Nat → Bool) : pk cs c 0 = [] := rfl
theorem pk_succ (cs : List ByteArray) (c : Nat → Bool) (k : Nat) : pk cs c (k + 1) = pk cs c k ++ (if c k then cs[k]?.toList else []) := by simp [pk, List.range_succ]
def readP (s : List Nd) (L : List (Nat × Nat)) (a b c d : Nat) (ns : List Nat) : List ByteArray := ns.flatMap fun n => pk (csOf s n) (cov L a b c d n) (csOf s n).length
def chB (s : List Nd) (L : List (Nat × Nat)) (i : Nat) : List ByteArray :=
  match L[i]?, L[i + 1]? with
  | some p, some q => if p.1 = q.1 ∧ (s[p.1]?.map (·.t)) = some true then (csOf s p.1)[p.2]?.toList else []
  | _, _ => []
def readR (s : List Nd) (L : List (Nat × Nat)) (i : Nat) (m : Nat) : List ByteArray := (List.range m).flatMap fun j => chB s L (i + j)
theorem infix_flatMap {α β : Type} {l : List α} {f : α → List β} {a : α} {z : List β} (ha : a ∈ l) (h : z <:+: f a) : z <:+: l.flatMap f := by
  obtain ⟨x, y, rfl⟩ := List.append_of_mem ha
  rw [List.flatMap_append, List.flatMap_cons]
  exact h.trans ⟨x.flatMap f, y.flatMap f, by simp⟩
theorem text_next {s : List Nd} (wf : WF s) {n b : Nat} {x : Nd} (hx : s[n]? = some x) (ht : x.t = true) (hb : b < x.cs.length) : ∀ (k m : Nat), (n, b) ∈ plF s k m → [(n, b), (n, b + 1)] <:+: plF s k m := by
  intro k
  induction k with
  | zero => intro m h; simp [plF] at h
  | succ k ih =>
    intro m h
    by_cases hm : m = n
    · subst hm
      have hk : kidsOf s m = [] := by rw [kidsOf_eq hx]; exact (wf.elem m x hx).1 ht
      have e : x.cs.length + 1 = b + (2 + (x.cs.length - b - 1)) := by omega
      rw [plF, hk, sizeAt_eq hx, sizeN_text ht, upTo, e, List.range_add, List.flatMap_append, List.range_add]
      refine List.IsInfix.trans ?_ (List.suffix_append _ _).isInfix
      rw [List.map_append, List.flatMap_append]
      refine List.IsInfix.trans ?_ (List.prefix_append _ _).isInfix
      have : (List.range 2).map (fun i => b + i) = [b, b + 1] := by simp [List.range_succ]
      rw [this]
      simp
    · rw [plF, upTo] at h ⊢
      obtain ⟨i, hi, h⟩ := List.mem_flatMap.1 h
      refine infix_flatMap hi ?_
      rcases List.mem_cons.1 h with h | h
      · simp at h; exact absurd h.1.symm hm
      · refine List.IsInfix.trans ?_ (List.suffix_cons _ _).isInfix
        split at h
        · rename_i c hc
          exact ih c h
        · simp at h
theorem pl_of_all {s : List Nd} (wf : WF s) : ∀ (k t n q : Nat), n ∈ allF s k t → q ≤ sizeAt s n → (n, q) ∈ plF s k t := by
  intro k
  induction k with
  | zero => intro t n q h; simp [allF] at h
  | succ k ih =>
    intro t n q h hq
    rw [plF, upTo, List.mem_flatMap]
    rw [allF, List.mem_cons, List.mem_flatMap] at h
    rcases h with rfl | ⟨c, hc, h⟩
    · exact ⟨q, List.mem_range.2 (by omega), List.mem_cons_self⟩
    · obtain ⟨x, hx, hcx⟩ := kidsOf_mem hc
      obtain ⟨i, hi⟩ := List.mem_iff_getElem?.1 hcx
      have hil : i < x.ks.length := (List.getElem?_eq_some_iff.1 hi).1
      have ht : x.t = false := by
        cases e : x.t with
        | false => rfl
        | true => rw [(wf.elem t x hx).1 e] at hil; simp at hil
      refine ⟨i, List.mem_range.2 (by rw [sizeAt_eq hx, sizeN_elem ht]; omega), List.mem_cons_of_mem _ ?_⟩
      rw [kidsOf_eq hx, hi]
      exact ih c n q h hq
theorem infix_at {α : Type} {l : List α} (hn : l.Nodup) {i : Nat} {p q : α} (h : [p, q] <:+: l) (hi : l[i]? = some p) : l[i + 1]? = some q := by
  obtain ⟨a, b, e⟩ := h
  have h1 : l[a.length]? = some p := by rw [← e]; simp
  have h2 : l[a.length + 1]? = some q := by rw [← e]; simp
  obtain ⟨h3, h4⟩ := List.getElem?_eq_some_iff.1 h1
  obtain ⟨h5, h6⟩ := List.getElem?_eq_some_iff.1 hi
  rcases Nat.lt_trichotomy i a.length with e | e | e
  · exact absurd (h6.trans h4.symm) (List.pairwise_iff_getElem.1 hn i a.length h5 h3 e)
  · rw [e]; exact h2
  · exact absurd (h4.trans h6.symm) (List.pairwise_iff_getElem.1 hn a.length i h3 h5 e)
theorem wh_next {s : List Nd} (wf : WF s) {k t n b : Nat} {x : Nd} (hx : s[n]? = some x) (ht : x.t = true) (hb : b < x.cs.length) (hm : (n, b) ∈ plF s k t) : wh (plF s k t) (n, b + 1) = wh (plF s k t) (n, b) + 1 := by
  obtain ⟨i, e, hi⟩ := wh_mem hm
  rw [e, wh_at (pl_nodup wf k t) (infix_at (pl_nodup wf k t) (text_next wf hx ht hb k t hm) hi)]
  rfl
theorem chB_at {s : List Nd} (wf : WF s) {k t i : Nat} {p : Nat × Nat} (hp : (plF s k t)[i]? = some p) (hi : i + 1 < (plF s k t).length) : chB s (plF s k t) i = (csOf s p.1)[p.2]?.toList := by
  obtain ⟨q, hq⟩ : ∃ q, (plF s k t)[i + 1]? = some q := ⟨_, List.getElem?_eq_getElem hi⟩
  unfold chB
  rw [hp, hq]
  simp only
  cases hx : s[p.1]? with
  | none => simp [csOf, hx]
  | some x =>
    cases ht : x.t with
    | false => simp [csOf, hx, (wf.elem p.1 x hx).2 ht]
    | true =>
      by_cases he : p.1 = q.1
      · simp [he, ht]
      · simp only [he, false_and, if_false]
        rw [csOf_eq hx]
        by_cases hb : p.2 < x.cs.length
        · have := infix_at (pl_nodup wf k t) (text_next wf hx ht hb k t (List.mem_of_getElem? hp)) hp
          rw [hq] at this
          cases this
          exact absurd rfl he
        · rw [List.getElem?_eq_none (by omega)]; rfl
theorem range_mid {α : Type} (N lo hi : Nat) (h1 : lo ≤ hi) (h2 : hi ≤ N) (G : Nat → List α) : (List.range N).flatMap (fun i => if lo ≤ i ∧ i < hi then G i else []) = (List.range (hi - lo)).flatMap (fun j => G (lo + j)) := by
  have e : N = lo + ((hi - lo) + (N - hi)) := by omega
  rw [e, List.range_add, List.flatMap_append, List.range_add, List.map_append, List.flatMap_append]
  have a : (List.range lo).flatMap (fun i => if lo ≤ i ∧ i < hi then G i else []) = [] := by
    rw [List.flatMap_eq_nil_iff]
    intro i hi
    rw [if_neg (by have := List.mem_range.1 hi; omega)]
  have c : (((List.range (N - hi)).map (fun x => hi - lo + x)).map (fun x => lo + x)).flatMap (fun i => if lo ≤ i ∧ i < hi then G i else []) = [] := by
    rw [List.flatMap_eq_nil_iff]
    intro i hi
    simp only [List.map_map, List.mem_map] at hi
    obtain ⟨j, _, rfl⟩ := hi
    rw [if_neg (by simp only [Function.comp]; omega)]
  rw [a, c, List.nil_append, List.append_nil, List.flatMap_map]
  rw [List.flatMap_def, List.flatMap_def]
  congr 1
  refine List.map_congr_left (fun j hj => ?_)
  rw [if_pos (by have := List.mem_range.1 hj; omega)]
theorem flatMap_index {α β : Type} (l : List α) (F : α → List β) : l.flatMap F = (List.range l.length).flatMap (fun i => match l[i]? with | some p => F p | none => []) := by
  induction l with
  | nil => rfl
  | cons a l ih =>
    rw [List.length_cons, List.range_succ_eq_map, List.flatMap_cons, List.flatMap_cons, List.flatMap_map, ih]
    rfl
theorem pl_texts {s : List Nd} (wf : WF s) (H : Nat × Nat → List ByteArray) (hH : ∀ p, (csOf s p.1).length ≤ p.2 → H p = []) : ∀ (k n : Nat), n < s.length → (plF s k n).flatMap H = (allF s k n).flatMap (fun m => (List.range (csOf s m).length).flatMap (fun b => H (m, b))) := by
  intro k
  induction k with
  | zero => intro n _; rfl
  | succ k ih =>
    intro n hn
    have hx : s[n]? = some s[n] := List.getElem?_eq_getElem hn
    generalize s[n] = x at hx
    rw [plF, upTo, allF, List.flatMap_cons, kidsOf_eq hx, sizeAt_eq hx, csOf_eq hx, List.flatMap_assoc]
    cases ht : x.t with
    | true =>
      rw [(wf.elem n x hx).1 ht, sizeN_text ht, List.range_succ, List.flatMap_append]
      simp only [List.getElem?_nil, List.flatMap_cons, List.flatMap_nil, List.append_nil]
      rw [hH (n, x.cs.length) (by rw [csOf_eq hx]; exact Nat.le_refl _), List.append_nil]
    | false =>
      have hcs : x.cs = [] := (wf.elem n x hx).2 ht
      have h0 : ∀ i, H (n, i) = [] := fun i => hH (n, i) (by rw [csOf_eq hx, hcs]; simp)
      rw [hcs, sizeN_elem ht, List.range_succ, List.flatMap_append]
      simp only [List.flatMap_cons, h0, List.nil_append, List.length_nil, List.range_zero, List.flatMap_nil, List.append_nil]
      rw [List.getElem?_eq_none (Nat.le_refl _)]
      simp only [List.flatMap_nil, List.append_nil]
      have key : ∀ l : List Nat, (∀ c ∈ l, c ∈ x.ks) → (l.flatMap (allF s k)).flatMap (fun m => (List.range (csOf s m).length).flatMap (fun b => H (m, b))) = (List.range l.length).flatMap (fun i => (match l[i]? with | some c => plF s k c | none => []).flatMap H) := by
        intro l hl
        rw [List.flatMap_assoc, flatMap_index l]
        rw [List.flatMap_def, List.flatMap_def]
        congr 1
        refine List.map_congr_left (fun i hi => ?_)
        cases hc : l[i]? with
        | none => rfl
        | some c =>
          simp only
          obtain ⟨y, hy, _⟩ := wf.kid n x hx c (hl c (List.mem_of_getElem? hc))
          rw [ih c (List.getElem?_eq_some_iff.1 hy).1]
      exact (key x.ks (fun c h => h)).symm
theorem read_same {s : List Nd} (wf : WF s) {k t a b c d i j : Nat} (ht : t < s.length) (hi : (plF s k t)[i]? = some (a, b)) (hj : (plF s k t)[j]? = some (c, d)) (hij : i ≤ j) :
    readR s (plF s k t) i (j - i) = readP s (plF s k t) a b c d (allF s k t) := by
  have hnd := pl_nodup wf k t
  have hjl : j < (plF s k t).length := (List.getElem?_eq_some_iff.1 hj).1
  have e1 : readR s (plF s k t) i (j - i) = (plF s k t).flatMap (fun p => if (i : Int) ≤ wh (plF s k t) p ∧ wh (plF s k t) p < j then (csOf s p.1)[p.2]?.toList else []) := by
    rw [flatMap_index]
    have := range_mid (plF s k t).length i j hij (Nat.le_of_lt hjl) (fun m => chB s (plF s k t) m)
    rw [readR, ← this, List.flatMap_def, List.flatMap_def]
    congr 1
    refine List.map_congr_left (fun m hm => ?_)
    have hml := List.mem_range.1 hm
    have hp : (plF s k t)[m]? = some (plF s k t)[m] := List.getElem?_eq_getElem hml
    rw [hp]
    simp only
    rw [wh_at hnd hp]
    by_cases hc : i ≤ m ∧ m < j
    · rw [if_pos hc, if_pos ⟨by omega, by omega⟩]
      exact chB_at wf hp (by omega)
    · rw [if_neg hc, if_neg (by omega)]
  rw [e1, pl_texts wf _ (fun p hp => by rw [List.getElem?_eq_none hp]; simp) k t ht]
  unfold readP
  rw [List.flatMap_def, List.flatMap_def]
  congr 1
  refine List.map_congr_left (fun n hn => ?_)
  unfold pk
  rw [List.flatMap_def, List.flatMap_def]
  congr 1
  refine List.map_congr_left (fun q hq => ?_)
  have hql := List.mem_range.1 hq
  have hnl := all_lt wf k t ht n hn
  have hx : s[n]? = some s[n] := List.getElem?_eq_getElem hnl
  generalize s[n] = x at hx
  rw [csOf_eq hx] at hql
  have htx : x.t = true := by
    cases e : x.t with
    | true => rfl
    | false => rw [(wf.elem n x hx).2 e] at hql; simp at hql
  have hmem : (n, q) ∈ plF s k t := by
    refine pl_of_all wf k t n q hn ?_
    rw [sizeAt_eq hx, sizeN_text htx]
    omega
  unfold cov
  rw [wh_at hnd hi, wh_at hnd hj, wh_next wf hx htx hql hmem]
  simp only [Bool.and_eq_true, decide_eq_true_eq]
  by_cases hc : (i : Int) ≤ wh (plF s k t) (n, q) ∧ wh (plF s k t) (n, q) < j
  · rw [if_pos hc, if_pos ⟨hc.1, by omega⟩]
  · rw [if_neg hc, if_neg (by omega)]
end Go.Proofs.YtabogkonklplcaaGreatDoor

namespace Go.Proofs.YtabogkonklplcaaGreatDoor
open Go.RowKit
set_option linter.unusedSimpArgs false
set_option linter.unusedVariables false
section
variable {F : Nat → Prop} {bf bn cap : Nat} {pn : List PN} {s : List Nd}
theorem write_any {B b : Nat} (wf : WF s) {h : Nat → Nat} {H : Nat} (u : Up s h H) (hF : ∀ b, F b → b < B) : ∀ (k n : Nat), n < s.length → h n < k → ∀ (w : World) (acc : ByteArray), PForAt w F bf bn cap pn s → Bld B b (Lib.strCells acc) w → B ≤ w.heap.size → acc.size + (shownF s k n).size + 20 < lots →
    Calls Tryz.prog 147 #[ptr bf, ptr b, .int .i64 n] w (Wrote B b (acc ++ shownF s k n) w) := by
  intro k
  induction k with
  | zero => intro n _ hk; omega
  | succ k ih =>
    intro n hn hk w acc hD hb hBw hlen
    have hx : s[n]? = some s[n] := List.getElem?_eq_getElem hn
    generalize s[n] = x at hx
    have h40 := wf.cap
    have hch := wf.chars n x hx
    have hkl : x.ks.length ≤ 40 := nodup_length 40 _ (wf.nodup n x hx) (fun c hc => by have := (wf.kid_lt u hx hc).1; omega)
    simp only [shownF, hx] at hlen ⊢
    cases ht : x.t with
    | true =>
      rw [ht, if_pos rfl, ByteArray.size_append] at hlen
      rw [if_pos rfl]
      exact write_text hD hF n x hx ht (by omega) acc hb hBw hch.2 (by omega)
    | false =>
      rw [ht, if_neg (by decide), ByteArray.size_append] at hlen
      rw [if_neg (by decide)]
      refine write_elem hD hF n x (shownF s k) hx ht (by omega) (by unfold lots; omega) acc hb hBw (by omega) (fun c hc w1 a1 h1 h2 h3 h4 => ?_)
      have := wf.kid_lt u hx hc
      exact ih c this.1 (by omega) w1 a1 h1 h2 h3 h4
variable {w : World}
set_option maxHeartbeats 1000000 in
theorem tshow_yes (wf : WF s) (hD : PFor w F bf s) (n : Nat) (hn : n < s.length) (t : ByteArray) (ht : Lim (fun k => shownF s k n) t) : Calls Tryz.prog 95 #[ptr bf, .int .i64 n] w (TPost F w bf s (.tuple #[.string t, .nilIface])) := by
  have HD := hid hD
  obtain ⟨h, H, u⟩ := wf.up
  obtain ⟨bn, cap, pn, hD⟩ := hD.narrow
  have C := hid (find_yes hD n (isB_of (by omega)))
  have hal := all_length wf (h n + 1) n hn
  have hsz := shown_size wf u (h n + 1) n hn (by omega)
  have e := (shown_lim wf u (k := h n + 1) (n := n) (by omega)).unique ht
  have hb0 : Bld w.heap.size w.heap.size (Lib.strCells ⟨#[]⟩) (w.alloc (.cells #[.pointer none, .slice none 0 0] 219)) :=
    .inl ⟨Nat.le_refl _, .slice none 0 0, heap_alloc_new w _, World.ownsRow_nil _ _ _ _, fun e => by cases e⟩
  have hbl : Below w.heap.size w (w.alloc (.cells #[.pointer none, .slice none 0 0] 219)) := (Below.refl _ w).alloc (Nat.le_refl _) _
  have CW := hid (write_any (B := w.heap.size) wf u (fun b hb => hb.2) (h n + 1) n hn (by omega) _ ⟨#[]⟩ (hD.under (fun b hb => hb.2) hbl) hb0 (by simp) (by unfold lots; have : (⟨#[]⟩ : ByteArray).size = 0 := rfl; omega))
  rw [e, show (⟨#[]⟩ : ByteArray) ++ t = t from by show ByteArray.empty ++ t = t; simp] at CW
  have HB := hid hbl
  clear hD hal hsz e hb0 hbl ht
  go_enter Tryz.func95, Tryz.ntmps95
  go_wp2_with first
    | (go_at_call 87; refine C.out.mono ?_; rintro e w1 ⟨rfl, rfl⟩)
    | (go_at_call 147; refine CW.out.mono ?_; rintro e w2 ⟨rfl, hu2, hb2⟩
       have hs2 := hb2.size
       have CS := hid (Tryz.Builder_String_any _ _ t.data.toList w2 (bld_of hu2) (by have := HB.out.size; omega)))
    | (go_at_call 148; refine CS.out.mono ?_; rintro e w3 ⟨rfl, hb3⟩)
  go_ret2
  have hb4 := HB.out.trans (hb2.trans hb3)
  exact ⟨rfl, Keeps.of_below hb4, (HD.out.below hb4).wider (fun b h => .inl h)⟩
end
end Go.Proofs.YtabogkonklplcaaGreatDoor
