import Derived.Test.YtabogkonklplcaaGreatDoorQ37
import Derived.Test.YtabogkonklplcaaGreatDoorQ31
import Derived.Test.YtabogkonklplcaaGreatDoorQ08
import Derived.Test.YtabogkonklplcaaGreatDoorQ14
import Derived.Test.YtabogkonklplcaaGreatDoorQ13
import Derived.Deep.DeepFit

namespace Go.Proofs.YtabogkonklplcaaGreatDoor
open Go.RowKit
set_option linter.unusedSimpArgs false
set_option linter.unusedVariables false
structure DeskO (w0 : World) (F : Nat → Prop) (w : World) (bw bx : Nat) (n mine : Int) (st : St) (l : List (Nat × Obj)) : Prop where
  desk : Desk w0 F w bw bx n mine st
  own : ∀ p ∈ l, w.heap[p.1]? = some p.2 ∧ ¬ F p.1
section
variable {w0 w w' : World} {F : Nat → Prop} {bw bx : Nat} {n n' mine : Int} {st st' : St} {l : List (Nat × Obj)}
theorem Desk.o (h : Desk w0 F w bw bx n mine st) : DeskO w0 F w bw bx n mine st [] := ⟨h, fun p hp => by cases hp⟩
theorem DeskO.below (h : DeskO w0 F w bw bx n mine st l) (hb : Below w.heap.size w w') : DeskO w0 F w' bw bx n mine st l :=
  ⟨h.desk.below hb, fun p hp => ⟨(hb.block _ (heap_lt (h.own p hp).1)).trans (h.own p hp).1, (h.own p hp).2⟩⟩
theorem DeskO.drew (h : DeskO w0 F w bw bx n mine st l) : DeskO w0 F w.drew bw bx n mine st l := h.below (Below.refl _ _).drew
theorem DeskO.with (h : DeskO w0 F w bw bx n mine st l) (hk : Keeps F w w') (hd : Desk w0 (grow F w) w' bw bx n' mine st') : DeskO w0 (grow F w) w' bw bx n' mine st' l :=
  ⟨hd, fun p hp => ⟨(hk.block _ (heap_lt (h.own p hp).1) (h.own p hp).2).trans (h.own p hp).1, fun e => e.elim (h.own p hp).2 (fun e => Nat.not_le_of_lt (heap_lt (h.own p hp).1) e)⟩⟩
theorem DeskO.next (h : DeskO w0 F w bw bx n mine st l) (hk : Keeps F w w') (hl : PLies w' (grow F w) bx st') : DeskO w0 (grow F w) w' bw bx n mine st' l :=
  h.with hk (h.desk.next hk hl)
theorem DeskO.narrow (h : DeskO w0 F w bw bx n mine st l) : DeskO w0 (fun b => F b ∧ b < w.heap.size) w bw bx n mine st l :=
  ⟨h.desk.narrow, fun p hp => ⟨(h.own p hp).1, fun e => (h.own p hp).2 e.1⟩⟩
theorem DeskO.alloc (h : DeskO w0 F w bw bx n mine st l) (c : Array Value) (t : TypeId) : DeskO w0 (fun b => F b ∧ b < w.heap.size) (w.alloc (.cells c t)) bw bx n mine st ((w.heap.size, .cells c t (0, 0)) :: l) := by
  have hB : Below w.heap.size w (w.alloc (.cells c t)) := (Below.refl _ w).alloc (Nat.le_refl _) _
  have h2 := h.narrow.below hB
  refine ⟨h2.desk, fun p hp => ?_⟩
  rcases List.mem_cons.1 hp with rfl | hp
  · exact ⟨heap_alloc_new w _, fun e => Nat.lt_irrefl _ e.2⟩
  · exact h2.own p hp
end
def CmpIs (s : List Nd) (B : Nat) (n k n2 k2 : Nat) (v : Int) (ev : Value) : Prop :=
  (∃ t, IsTop s n t ∧ IsTop s n2 t ∧ ev = .nilIface ∧ v = cmpB (decide (wh (plF s (B + 1) t) (n, k) < wh (plF s (B + 1) t) (n2, k2))) (decide (wh (plF s (B + 1) t) (n2, k2) < wh (plF s (B + 1) t) (n, k)))) ∨
  ((∃ t t2, IsTop s n t ∧ IsTop s n2 t2 ∧ t ≠ t2) ∧ v = 0 ∧ ∃ a y : Int, ev = .iface 32 (.agg #[.int .i64 a, .int .i64 y]))
theorem pcompare_any {s : List Nd} {rs : List Sp} (wf : WF s) {h : Nat → Nat} {B : Nat} (u : Up s h B) (n k n2 k2 : Nat) (hn : n < s.length) (hk : k ≤ sizeAt s n) (hn2 : n2 < s.length) (hk2 : k2 ≤ sizeAt s n2) :
    ∃ (v : Int) (ev : Value), CmpIs s B n k n2 k2 v ev ∧ ∀ (w : World) (F : Nat → Prop) (bx : Nat), GG w → PLies w F bx ⟨s, rs⟩ →
      Calls Tryz.prog 26 #[ptr bx, .agg #[.int .i64 (n : Int), .int .i64 (k : Int)], .agg #[.int .i64 (n2 : Int), .int .i64 (k2 : Int)]] w (PLPost F w bx ⟨s, rs⟩ (.tuple #[.int .i64 v, ev])) := by
  obtain ⟨t, ta⟩ := top_there wf n hn
  obtain ⟨t2, tb⟩ := top_there wf n2 hn2
  by_cases he : t = t2
  · subst he
    refine ⟨_, .nilIface, .inl ⟨t, ta, tb, rfl, rfl⟩, fun w F bx hg hP => ?_⟩
    have := pcompare_one (rs := rs) wf u n k n2 k2 t hn hk hn2 hk2 ta tb w F bx hg hP
    rw [show errV 0 0 = .nilIface from by simp [errV]] at this
    exact this
  · refine ⟨0, .iface 32 (.agg #[.int .i64 (n2 : Int), .int .i64 9]), .inr ⟨⟨t, t2, ta, tb, he⟩, rfl, _, _, rfl⟩, fun w F bx hg hP => ?_⟩
    have := pcompare_roots (rs := rs) wf n k n2 k2 t t2 hn hk hn2 hk2 ta tb he w F bx hg hP
    rw [show errV (n2 : Int) 9 = .iface 32 (.agg #[.int .i64 (n2 : Int), .int .i64 9]) from by simp [errV]] at this
    exact this
def Flt (ev : Value) : Prop := ∃ a y : Int, ev = .iface 32 (.agg #[.int .i64 a, .int .i64 y])
theorem cmpB_is (a b : Int) : cmpB (decide (a < b)) (decide (b < a)) = if a < b then -1 else if b < a then 1 else 0 := by
  by_cases h1 : a < b
  · rw [decide_eq_true h1, if_pos h1]; rfl
  · by_cases h2 : b < a
    · rw [decide_eq_false h1, decide_eq_true h2, if_neg h1, if_pos h2]; rfl
    · rw [decide_eq_false h1, decide_eq_false h2, if_neg h1, if_neg h2]; rfl
theorem CmpIs.same {s : List Nd} {B n k n2 k2 t : Nat} {v : Int} {ev : Value} (c : CmpIs s B n k n2 k2 v ev) (ha : IsTop s n t) (hb : IsTop s n2 t) :
    ev = .nilIface ∧ v = if wh (plF s (B + 1) t) (n, k) < wh (plF s (B + 1) t) (n2, k2) then -1 else if wh (plF s (B + 1) t) (n2, k2) < wh (plF s (B + 1) t) (n, k) then 1 else 0 := by
  rcases c with ⟨t', a, b, h1, h2⟩ | ⟨⟨t', t2, a, b, ne⟩, _⟩
  · obtain rfl := a.one ha
    exact ⟨h1, by rw [h2, cmpB_is]⟩
  · exact absurd ((a.one ha).trans (b.one hb).symm) ne
theorem CmpIs.other {s : List Nd} {B n k n2 k2 t t2 : Nat} {v : Int} {ev : Value} (c : CmpIs s B n k n2 k2 v ev) (ha : IsTop s n t) (hb : IsTop s n2 t2) (hne : t ≠ t2) : v = 0 ∧ Flt ev := by
  rcases c with ⟨t', a, b, h1, h2⟩ | ⟨_, h1, h2⟩
  · exact absurd ((ha.one a).trans (b.one hb)) hne
  · exact ⟨h1, h2⟩
theorem wh_inj {s : List Nd} (wf : WF s) {h : Nat → Nat} {B : Nat} (u : Up s h B) {n k n2 k2 t : Nat} (hn : n < s.length) (hk : k ≤ sizeAt s n) (hn2 : n2 < s.length) (hk2 : k2 ≤ sizeAt s n2) (ha : IsTop s n t) (hb : IsTop s n2 t)
    (he : wh (plF s (B + 1) t) (n, k) = wh (plF s (B + 1) t) (n2, k2)) : n = n2 ∧ k = k2 := by
  obtain ⟨l, wl⟩ := way_there wf ha hn
  obtain ⟨l2, wl2⟩ := way_there wf hb hn2
  obtain ⟨i, ei, hi⟩ := wh_mem (way_pl wf u wl hk)
  obtain ⟨j, ej, hj⟩ := wh_mem (way_pl wf u wl2 hk2)
  have : i = j := by omega
  subst this
  rw [hi] at hj
  simpa using hj
end Go.Proofs.YtabogkonklplcaaGreatDoor

namespace Go.Proofs.YtabogkonklplcaaGreatDoor
open Go.RowKit Go.Lib
set_option linter.unusedSimpArgs false
set_option linter.unusedVariables false
def bl (b : ByteArray) : List UInt8 := b.data.toList
def isS (c : ByteArray) : Bool := bl c == [194, 167]
end Go.Proofs.YtabogkonklplcaaGreatDoor

namespace Go.Proofs.YtabogkonklplcaaGreatDoor
open Go.RowKit Go.Lib
set_option linter.unusedSimpArgs false
set_option linter.unusedVariables false
end Go.Proofs.YtabogkonklplcaaGreatDoor

namespace Go.Proofs.YtabogkonklplcaaGreatDoor
open Go.RowKit Go.Lib
set_option linter.unusedSimpArgs false
set_option linter.unusedVariables false
structure SecAt (s : List Nd) (n k : Nat) : Prop where
  ex : ∃ (x : Nd) (c : ByteArray), s[n]? = some x ∧ x.t = true ∧ 0 ≤ x.p ∧ x.cs[k]? = some c ∧ isS c = true
  one : ∀ (m j : Nat) (x : Nd) (c : ByteArray), s[m]? = some x → x.cs[j]? = some c → isS c = true → m = n ∧ j = k
section
variable {s : List Nd}
theorem SpIs.where_ (wf : WF s) {h : Nat → Nat} {B : Nat} (u : Up s h B) {z : Sp} (hz : SpIs s z) : ∃ a b c d t : Nat, z = ⟨a, b, c, d⟩ ∧ a < s.length ∧ c < s.length ∧ b ≤ sizeAt s a ∧ d ≤ sizeAt s c ∧ IsTop s a t ∧ IsTop s c t ∧ wh (plF s (B + 1) t) (a, b) ≤ wh (plF s (B + 1) t) (c, d) := by
  obtain ⟨a, b, c, d, t, i, j, S⟩ := spIs_at wf u hz
  obtain ⟨rfl, ha, hc, ta, tc, hb, hd, hi, hj, hij⟩ := S
  refine ⟨a, b, c, d, t, rfl, ha, hc, hb, hd, ta, tc, ?_⟩
  rw [wh_at (pl_nodup wf (B + 1) t) hi, wh_at (pl_nodup wf (B + 1) t) hj]
  omega
theorem spIs_of_wh (wf : WF s) {h : Nat → Nat} {B : Nat} (u : Up s h B) {a b c d t : Nat} (ha : a < s.length) (hc : c < s.length) (hb : b ≤ sizeAt s a) (hd : d ≤ sizeAt s c) (ta : IsTop s a t) (tc : IsTop s c t)
    (hw : wh (plF s (B + 1) t) (a, b) ≤ wh (plF s (B + 1) t) (c, d)) : SpIs s ⟨a, b, c, d⟩ := by
  obtain ⟨l, wl⟩ := way_there wf ta ha
  obtain ⟨l2, wl2⟩ := way_there wf tc hc
  refine spIs_lives.two wf ⟨a, b, rfl, rfl, ha, hb⟩ ⟨c, d, rfl, rfl, hc, hd⟩ ta wl wl2 ?_
  rw [cmp_ways wf u wl wl2 hb hd (wh_is _ _) (wh_is _ _)]
  split
  · decide
  · rw [if_neg (by omega)]; decide
theorem spIs_in (wf : WF s) {n k k2 : Nat} (hn : n < s.length) (h : k ≤ k2) (hk : k2 ≤ sizeAt s n) : SpIs s ⟨n, k, n, k2⟩ := by
  obtain ⟨t, ta⟩ := top_there wf n hn
  obtain ⟨l, wl⟩ := way_there wf ta hn
  refine spIs_lives.two wf ⟨n, k, rfl, rfl, hn, by omega⟩ ⟨n, k2, rfl, rfl, hn, hk⟩ ta wl wl ?_
  have key : ∀ l : List Nat, lexC (l ++ [k]) (l ++ [k2]) ≤ 0 := by
    intro l
    induction l with
    | nil =>
      show (if k < k2 then -1 else if k2 < k then 1 else lexC [] []) ≤ 0
      split
      · decide
      · rw [if_neg (by omega)]; decide
    | cons a l ih =>
      show (if a < a then -1 else if a < a then 1 else lexC (l ++ [k]) (l ++ [k2])) ≤ 0
      rw [if_neg (Nat.lt_irrefl _), if_neg (Nat.lt_irrefl _)]
      exact ih
  exact key l
end
theorem SecAt.same {s s' : List Nd} {n k : Nat} (h : SecAt s n k) (hn : ∀ x, s[n]? = some x → ∃ y, s'[n]? = some y ∧ y.t = x.t ∧ y.cs = x.cs ∧ y.p = x.p)
    (hm : ∀ (m j : Nat) (y : Nd) (c : ByteArray), s'[m]? = some y → y.cs[j]? = some c → isS c = true → ∃ (j2 : Nat) (m2 : Nat) (x : Nd), s[m2]? = some x ∧ x.cs[j2]? = some c ∧ (m2 = n → j2 = k → m = n ∧ j = k)) : SecAt s' n k := by
  obtain ⟨x, c, hx, ht, hp, hc, hs⟩ := h.ex
  obtain ⟨y, hy, e1, e2, e3⟩ := hn x hx
  refine ⟨⟨y, c, hy, by rw [e1]; exact ht, by rw [e3]; exact hp, by rw [e2]; exact hc, hs⟩, ?_⟩
  intro m j y2 c2 hy2 hc2 hs2
  obtain ⟨j2, m2, x2, hx2, hcx, hh⟩ := hm m j y2 c2 hy2 hc2 hs2
  obtain ⟨q1, q2⟩ := h.one m2 j2 x2 c2 hx2 hcx hs2
  exact hh q1 q2
section
variable {s s' : List Nd} {f : Mvf} {n k : Nat} {z : Sp}
end
end Go.Proofs.YtabogkonklplcaaGreatDoor

namespace Go.Proofs.YtabogkonklplcaaGreatDoor
open Go.RowKit
set_option linter.unusedSimpArgs false
set_option linter.unusedVariables false
structure DeskK (w0 : World) (F : Nat → Prop) (w : World) (Fr : Nat → Prop) (wr : World) (bw bx : Nat) (n mine : Int) (st : St) (l : List (Nat × Obj)) : Prop where
  o : DeskO w0 Fr wr bw bx n mine st l
  keeps : Keeps F w wr
  sub : ∀ b, Fr b → grow F w b
section
variable {w0 w wr w' : World} {F Fr : Nat → Prop} {bw bx : Nat} {n n' mine : Int} {st st' : St} {l : List (Nat × Obj)}
theorem Desk.k (h : Desk w0 F w bw bx n mine st) : DeskK w0 F w F w bw bx n mine st [] := ⟨h.o, Keeps.refl _ _, fun b e => .inl e⟩
theorem DeskK.with (h : DeskK w0 F w Fr wr bw bx n mine st l) (hk : Keeps Fr wr w') (hd : Desk w0 (grow Fr wr) w' bw bx n' mine st') : DeskK w0 F w (grow Fr wr) w' bw bx n' mine st' l :=
  ⟨h.o.with hk hd, h.keeps.trans (hk.mono (fun b _ e => h.sub b e)), fun b e => e.elim (h.sub b) (fun e => .inr (Nat.le_trans h.keeps.size e))⟩
theorem DeskK.next (h : DeskK w0 F w Fr wr bw bx n mine st l) (hk : Keeps Fr wr w') (hl : PLies w' (grow Fr wr) bx st') : DeskK w0 F w (grow Fr wr) w' bw bx n mine st' l := h.with hk (h.o.desk.next hk hl)
theorem DeskK.drew (h : DeskK w0 F w Fr wr bw bx n mine st l) : DeskK w0 F w Fr wr.drew bw bx n mine st l :=
  ⟨h.o.drew, h.keeps.trans (Keeps.of_below (Below.refl _ _).drew), h.sub⟩
theorem DeskK.alloc (h : DeskK w0 F w Fr wr bw bx n mine st l) (c : Array Value) (t : TypeId) : DeskK w0 F w (fun b => Fr b ∧ b < wr.heap.size) (wr.alloc (.cells c t)) bw bx n mine st ((wr.heap.size, .cells c t (0, 0)) :: l) :=
  ⟨h.o.alloc c t, h.keeps.trans (Keeps.of_below ((Below.refl _ wr).alloc (Nat.le_refl _) _)), fun b e => h.sub b e.1⟩
theorem DeskK.less {x : Nat × Obj} (h : DeskK w0 F w Fr wr bw bx n mine st (x :: l)) : DeskK w0 F w Fr wr bw bx n mine st l :=
  ⟨⟨h.o.desk, fun p hp => h.o.own p (.tail _ hp)⟩, h.keeps, h.sub⟩
theorem DeskK.done (h : DeskK w0 F w Fr wr bw bx n' mine st' l) (h0 : Desk w0 F w bw bx n mine st) : Keeps F w wr ∧ Desk w0 (grow F w) wr bw bx n' mine st' := by
  have hlt := heap_lt h0.at_
  have hz := h0.low.size
  exact ⟨h.keeps, h.o.desk.wider h.sub (fun e => e.elim h0.out (fun e => by omega)) (fun b e => e.elim (h0.ge b) (fun e => by omega))⟩
end
section
variable {s : List Nd}
theorem pl_first {k t : Nat} : ∃ r, plF s (k + 1) t = (t, 0) :: r := by
  show ∃ r, upTo t (kidsOf s t) (plF s k) (sizeAt s t + 1) = (t, 0) :: r
  unfold upTo
  rw [List.range_succ_eq_map, List.flatMap_cons]
  exact ⟨_, rfl⟩
theorem wh_first {k t : Nat} : wh (plF s (k + 1) t) (t, 0) = 0 := by
  obtain ⟨r, e⟩ := pl_first (s := s) (k := k) (t := t)
  rw [e, wh, if_pos rfl]
theorem pl_last (wf : WF s) {k t : Nat} (ht : t < s.length) : ∃ l, plF s (k + 1) t = l ++ [(t, sizeAt s t)] := by
  show ∃ l, upTo t (kidsOf s t) (plF s k) (sizeAt s t + 1) = l ++ [(t, sizeAt s t)]
  obtain ⟨x, hx⟩ : ∃ x, s[t]? = some x := ⟨_, List.getElem?_eq_getElem ht⟩
  have hn : (kidsOf s t)[sizeAt s t]? = none := by
    rw [kidsOf_eq hx, sizeAt_eq hx]
    cases h : x.t with
    | true => rw [(wf.elem t x hx).1 h]; rfl
    | false => rw [sizeN_elem h]; exact List.getElem?_eq_none (Nat.le_refl _)
  rw [upTo_succ_none hn]
  exact ⟨_, rfl⟩
theorem wh_nonneg (wf : WF s) {h : Nat → Nat} {B : Nat} (u : Up s h B) {n k t : Nat} (hn : n < s.length) (hk : k ≤ sizeAt s n) (ta : IsTop s n t) : 0 ≤ wh (plF s (B + 1) t) (n, k) := by
  obtain ⟨l, wl⟩ := way_there wf ta hn
  obtain ⟨i, ei, hi⟩ := wh_mem (way_pl wf u wl hk)
  omega
theorem top_self {n t : Nat} (ta : IsTop s n t) : IsTop s t t := ⟨⟨0, rfl⟩, ta.2⟩
theorem cmp_root (wf : WF s) {h : Nat → Nat} {B : Nat} (u : Up s h B) {n k t : Nat} {v : Int} {ev : Value} (hn : n < s.length) (hk : k ≤ sizeAt s n) (ta : IsTop s n t) (c : CmpIs s B t 0 n k v ev) : ev = .nilIface ∧ v ≤ 0 ∧ (¬ (n = t ∧ k = 0) → v = -1) := by
  obtain ⟨h1, h2⟩ := c.same (top_self ta) ta
  have h3 := wh_nonneg wf u hn hk ta
  rw [wh_first] at h2
  refine ⟨h1, ?_, fun hne => ?_⟩
  · rw [h2]
    split
    · decide
    · rw [if_neg (by omega)]; decide
  · have h4 : wh (plF s (B + 1) t) (n, k) ≠ 0 := fun e => by
      have tl : t < s.length := ta.lt
      exact hne (wh_inj wf u hn hk tl (Nat.zero_le _) ta (top_self ta) (by rw [e, wh_first]))
    rw [h2, if_pos (by omega)]
theorem cmp_root2 (wf : WF s) {h : Nat → Nat} {B : Nat} (u : Up s h B) {m t : Nat} {v : Int} {ev : Value} (hm : m < s.length) (tt : IsTop s t t) (c : CmpIs s B m 0 t 0 v ev) : Flt ev ∨ (ev = .nilIface ∧ 0 ≤ v) := by
  obtain ⟨t2, ta⟩ := top_there wf m hm
  by_cases e : t2 = t
  · subst e
    obtain ⟨h1, h2⟩ := c.same ta tt
    have h3 := wh_nonneg wf u hm (Nat.zero_le _) ta
    rw [wh_first] at h2
    right
    refine ⟨h1, ?_⟩
    rw [h2, if_neg (by omega)]
    split <;> decide
  · exact .inl (c.other ta tt e).2
end
end Go.Proofs.YtabogkonklplcaaGreatDoor

namespace Go.Proofs.YtabogkonklplcaaGreatDoor
open Go.RowKit
set_option linter.unusedSimpArgs false
set_option linter.unusedVariables false
def allC (s : List Nd) (B t : Nat) : List ByteArray := readR s (plF s (B + 1) t) 0 ((plF s (B + 1) t).length - 1)
section
variable {s : List Nd} {rs : List Sp}
set_option maxRecDepth 20000 in
set_option maxHeartbeats 8000000 in
theorem whole_at {w0 w : World} {F : Nat → Prop} {bw bx : Nat} {M : Int} (hg : GG w0) (wf : WF s) {hh : Nat → Nat} {B : Nat} (u : Up s hh B) (h6 : rs.length ≤ 6) (hrs : ∀ z ∈ rs, SpIs s z) (N : Nat) (hN : N ≤ s.length) (hD : Desk w0 F w bw bx (N : Int) M ⟨s, rs⟩)
    (r : Nat) (x : Sp) (hx : rs[r]? = some x) (pn pk t : Nat) (hpn : pn < s.length) (hpk : pk ≤ sizeAt s pn) (tp : IsTop s pn t) (htN : t < N) :
    Calls Tryz.prog 29 #[ptr bw, .int .i64 (r : Int), .agg #[.int .i64 (pn : Int), .int .i64 (pk : Int)]] w fun e w' =>
      e = .returned (.tuple #[.string (catB (allC s B t)), .bool true]) ∧ Keeps F w w' ∧ Desk w0 (grow F w) w' bw bx (N : Int) M ⟨s, rs.set r ⟨t, 0, t, (sizeAt s t : Int)⟩⟩ := by
  have hcap := wf.cap
  have htl : t < s.length := by omega
  have tt := top_self tp
  have CMP := hid (fun (n k n2 k2 : Nat) (hn : n < s.length) (hk : k ≤ sizeAt s n) (hn2 : n2 < s.length) (hk2 : k2 ≤ sizeAt s n2) => pcompare_any (rs := rs) wf u n k n2 k2 hn hk hn2 hk2)
  have HK0 := hid (hD.k.alloc #[.int .i64 (pn : Int), .int .i64 (pk : Int)] 37)
  have HX := hid (And.intro hg (And.intro wf (And.intro u (And.intro hrs (And.intro hD (And.intro hx (And.intro hpn (And.intro hpk (And.intro tp tt)))))))))
  have hNs : ((N : Nat) : Int) ≤ 40 := by omega
  clear hg wf u hrs hD hx hpn hpk tp tt
  go_enter Tryz.func29, Tryz.ntmps29
  go_wp2
  go_loopw [8, 9] (fun t8 t9 wr => ∃ (n : Nat) (tv : Int) (Fr : Nat → Prop), t9 = .int .i64 (n : Int) ∧ t8 = .int .i64 tv ∧ Hid (tv = if t < n then (t : Int) else -1) ∧ n ≤ N ∧ DeskK w0 F w Fr wr bw bx (N : Int) M ⟨s, rs⟩ [(w.heap.size, .cells #[.int .i64 (pn : Int), .int .i64 (pk : Int)] 37 (0, 0))]) (fun _ t9 _ => N - (intOf t9).toNat)
  case atStart => exact ⟨0, -1, _, rfl, rfl, hid (by simp), Nat.zero_le _, HK0.out⟩
  case round =>
    clear HK0
    obtain ⟨n, tv, Fr, rfl, rfl, htv, hnN, hK⟩ := hrel
    obtain ⟨d0, d1, d2⟩ := hK.o.desk.cells
    by_cases hlt : n < N
    · have hlt' : (n : Int) < (N : Int) := by omega
      have HK := hid (hK.alloc #[.int .i64 (n : Int), .int .i64 0] 37)
      obtain ⟨v, ev, cv, GV⟩ := CMP.out n 0 pn pk (by omega) (Nat.zero_le _) HX.out.2.2.2.2.2.2.1 HX.out.2.2.2.2.2.2.2.1
      have CV := hid (fun (F' : Nat → Prop) (W : World) (h : Desk w0 F' W bw bx (N : Int) M ⟨s, rs⟩) => GV W F' bx (h.gg HX.out.1) h.doc)
      have HC := hid cv
      have HKN := hid hK
      clear hK cv GV
      have hcase : (Flt ev ∧ n ≠ t) ∨ (ev = .nilIface ∧ 0 < v ∧ n ≠ t) ∨ (ev = .nilIface ∧ ¬ 0 < v ∧ IsTop s n t) := by
        obtain ⟨_, wf, u, _, _, _, hpn, hpk, tp, tt⟩ := HX.out
        obtain ⟨t2, tn⟩ := top_there wf n (by omega)
        by_cases e : t2 = t
        · subst e
          obtain ⟨h1, h2⟩ := HC.out.same tn tp
          by_cases hv : 0 < v
          · refine .inr (.inl ⟨h1, hv, fun e => ?_⟩)
            subst e
            have := (cmp_root wf u hpn hpk tp HC.out).2.1
            omega
          · exact .inr (.inr ⟨h1, hv, tn⟩)
        · refine .inl ⟨(HC.out.other tn tp e).2, fun e2 => ?_⟩
          subst e2
          exact e (tn.one tt)
      go_wp2
      obtain ⟨W1, hW1⟩ : ∃ W, wr.alloc (.cells #[.int .i64 (n : Int), .int .i64 0] 37) = W := ⟨_, rfl⟩
      rw [hW1] at HK ⊢
      obtain ⟨ab, hab⟩ : ∃ k, wr.heap.size = k := ⟨_, rfl⟩
      rw [hab] at HK ⊢
      clear hW1 d0 d1 d2 hab
      have KP0 := hid (And.intro HK.out.o.desk.cells.1 (And.intro (cell_of_heap (HK.out.o.own _ (.head _)).1 0) (And.intro (cell_of_heap (HK.out.o.own _ (.head _)).1 1) (And.intro (cell_of_heap (HK.out.o.own _ (.tail _ (.head _))).1 0) (cell_of_heap (HK.out.o.own _ (.tail _ (.head _))).1 1)))))
      go_region_held3 (fun w' => w'.cell? ⟨bw, 0, none⟩ = some (ptr bx) ∧ w'.cell? ⟨ab, 0, none⟩ = some (.int .i64 (n : Int)) ∧ w'.cell? ⟨ab, 1, none⟩ = some (.int .i64 0) ∧ w'.cell? ⟨w.heap.size, 0, none⟩ = some (.int .i64 (pn : Int)) ∧ w'.cell? ⟨w.heap.size, 1, none⟩ = some (.int .i64 (pk : Int))) (first | exact KP1.out | exact KP0.out | go_keep) ((
        go_at_call 26
        refine (CV.out _ _ HK.out.drew.o.desk).mono ?_
        rintro e w2 ⟨rfl, hk, hl⟩
        have HK1 := hid (HK.out.drew.next hk hl)
        have KP1 := hid (And.intro HK1.out.o.desk.cells.1 (And.intro (cell_of_heap (HK1.out.o.own _ (.head _)).1 0) (And.intro (cell_of_heap (HK1.out.o.own _ (.head _)).1 1) (And.intro (cell_of_heap (HK1.out.o.own _ (.tail _ (.head _))).1 0) (cell_of_heap (HK1.out.o.own _ (.tail _ (.head _))).1 1)))))
        clear hk hl))
      clear HK KP0 KP1 HC CV
      rcases hcase with ⟨⟨a1, b1, rfl⟩, hnt⟩ | ⟨rfl, hv, hnt⟩ | ⟨rfl, hv, tn⟩
      · go_wp2
        go_roundw
        case rel => exact ⟨n + 1, tv, _, by simp, rfl, hid (by rw [htv.out]; split <;> split <;> omega), by omega, HK1.out.less⟩
        case measure => simp [intOf]; omega
      · go_wp2
        go_roundw
        case rel => exact ⟨n + 1, tv, _, by simp, rfl, hid (by rw [htv.out]; split <;> split <;> omega), by omega, HK1.out.less⟩
        case measure => simp [intOf]; omega
      · have hv' : ¬ (0 : Int) < v := by omega
        have TN := hid tn
        clear tn
        go_wp2
        go_loopw [13, 14] (fun t13 t14 wq => ∃ (m : Nat) (b : Bool) (Fq : Nat → Prop), t14 = .int .i64 (m : Int) ∧ t13 = .bool b ∧ Hid (n = t → b = true) ∧ Hid (n ≠ t → t < m → b = false) ∧ m ≤ N ∧ DeskK w0 F w Fq wq bw bx (N : Int) M ⟨s, rs⟩ [(ab, .cells #[.int .i64 (n : Int), .int .i64 0] 37 (0, 0)), (w.heap.size, .cells #[.int .i64 (pn : Int), .int .i64 (pk : Int)] 37 (0, 0))]) (fun _ t14 _ => N - (intOf t14).toNat)
        case atStart => exact ⟨0, true, _, rfl, rfl, hid (fun _ => rfl), hid (fun _ h => absurd h (Nat.not_lt_zero _)), Nat.zero_le _, HK1.out⟩
        case round =>
          clear HK1
          obtain ⟨m, b, Fq, rfl, rfl, hb1, hb2, hmN, hQ⟩ := hrel
          obtain ⟨d0, d1, d2⟩ := hQ.o.desk.cells
          by_cases hml : m < N
          · have hml' : (m : Int) < (N : Int) := by omega
            have HQ := hid hQ
            obtain ⟨v2, ev2, c2, G2⟩ := CMP.out m 0 n 0 (by omega) (Nat.zero_le _) (by omega) (Nat.zero_le _)
            have C2 := hid (fun (F' : Nat → Prop) (W : World) (h : Desk w0 F' W bw bx (N : Int) M ⟨s, rs⟩) => G2 W F' bx (h.gg HX.out.1) h.doc)
            have hin : (Flt ev2 ∧ m ≠ t) ∨ (ev2 = .nilIface ∧ 0 ≤ v2 ∧ (m = t → n = t)) ∨ (ev2 = .nilIface ∧ ¬ 0 ≤ v2 ∧ n ≠ t) := by
              obtain ⟨_, wf, u, _, _, _, hpn, hpk, tp, tt⟩ := HX.out
              by_cases hnt : n = t
              · subst hnt
                rcases cmp_root2 wf u (by omega) tt c2 with h | ⟨h, h2⟩
                · refine .inl ⟨h, fun e => ?_⟩
                  subst e
                  obtain ⟨h1, _⟩ := c2.same tt tt
                  obtain ⟨a, y, h⟩ := h
                  rw [h1] at h
                  cases h
                · exact .inr (.inl ⟨h, h2, fun _ => rfl⟩)
              · by_cases hmt : m = t
                · subst hmt
                  obtain ⟨h1, h2, h3⟩ := cmp_root wf u (by omega) (Nat.zero_le _) TN.out c2
                  have := h3 (fun e => hnt e.1)
                  exact .inr (.inr ⟨h1, by omega, hnt⟩)
                · obtain ⟨t2, tm⟩ := top_there wf m (by omega)
                  by_cases e : t2 = t
                  · subst e
                    obtain ⟨h1, _⟩ := c2.same tm TN.out
                    by_cases h0 : 0 ≤ v2
                    · exact .inr (.inl ⟨h1, h0, fun e => absurd e hmt⟩)
                    · exact .inr (.inr ⟨h1, h0, hnt⟩)
                  · exact .inl ⟨(c2.other tm TN.out e).2, hmt⟩
            clear hQ c2 G2
            have KQ0 := hid (And.intro HQ.out.o.desk.cells.1 (And.intro (cell_of_heap (HQ.out.o.own _ (.head _)).1 0) (cell_of_heap (HQ.out.o.own _ (.head _)).1 1)))
            go_wp2
            go_region_held3 (fun w' => w'.cell? ⟨bw, 0, none⟩ = some (ptr bx) ∧ w'.cell? ⟨ab, 0, none⟩ = some (.int .i64 (n : Int)) ∧ w'.cell? ⟨ab, 1, none⟩ = some (.int .i64 0)) (first | exact KQ1.out | exact KQ0.out | go_keep) ((
              go_at_call 26
              refine (C2.out _ _ HQ.out.drew.o.desk).mono ?_
              rintro e w3 ⟨rfl, hk, hl⟩
              have HQ1 := hid (HQ.out.drew.next hk hl)
              have KQ1 := hid (And.intro HQ1.out.o.desk.cells.1 (And.intro (cell_of_heap (HQ1.out.o.own _ (.head _)).1 0) (cell_of_heap (HQ1.out.o.own _ (.head _)).1 1)))
              clear hk hl))
            clear HQ KQ0 KQ1 C2
            have HB := hid (And.intro hb1.out hb2.out)
            clear hb1 hb2
            rcases hin with ⟨⟨a1, b1, rfl⟩, hmt⟩ | ⟨rfl, h0, hmt⟩ | ⟨rfl, h0, hnt⟩
            · cases b
              all_goals
                go_wp2
                go_roundw
                case rel => exact ⟨m + 1, _, _, by simp, rfl, hid HB.out.1, hid (fun h1 h2 => HB.out.2 h1 (by omega)), by omega, HQ1.out⟩
                case measure => simp [intOf]; omega
            · have HMT := hid hmt
              clear hmt
              cases b
              all_goals
                go_wp2
                go_roundw
                case rel => exact ⟨m + 1, _, _, by simp, by first | rfl | simp [h0], hid HB.out.1, hid (fun h1 h2 => HB.out.2 h1 (by
                  have h3 : m ≠ t := fun e => h1 (HMT.out e)
                  omega)), by omega, HQ1.out⟩
                case measure => simp [intOf]; omega
            · cases b
              all_goals
                go_wp2
                go_roundw
                case rel => exact ⟨m + 1, false, _, by simp, by first | rfl | simp [h0], hid (fun e => absurd e hnt), hid (fun _ _ => rfl), by omega, HQ1.out⟩
                case measure => simp [intOf]; omega
          · have hml' : ¬ (m : Int) < (N : Int) := by omega
            have HQ := hid hQ
            clear hQ
            by_cases hnt : n = t
            · obtain rfl : b = true := hb1.out hnt
              have HNT := hid hnt
              clear hnt
              go_wp2
              go_roundw
              case rel => exact ⟨n + 1, (n : Int), _, by simp, rfl, hid (by have h1 := HNT.out; rw [if_pos (by omega), h1]), by omega, HQ.out.less⟩
              case measure => simp [intOf]; omega
            · obtain rfl : b = false := hb2.out hnt (by omega)
              go_wp2
              go_roundw
              case rel => exact ⟨n + 1, tv, _, by simp, rfl, hid (by rw [htv.out]; split <;> split <;> omega), by omega, HQ.out.less⟩
              case measure => simp [intOf]; omega
    · have hlt' : ¬ (n : Int) < (N : Int) := by omega
      have htv2 : tv = (t : Int) := by rw [htv.out, if_pos (by omega)]
      subst htv2
      have hneg : ¬ (t : Int) < 0 := by omega
      obtain ⟨hg, wf, u, hrs, hD, hx, hpn, hpk, tp, tt⟩ := HX.out
      obtain ⟨⟨za, zb, zc, zd⟩, hz1, hz2, hzs, _, CST⟩ := pstart_ok spIs_lives wf u h6 hrs r t 0 x hx htl (Nat.zero_le _)
      obtain rfl : za = (t : Int) := hz1
      obtain rfl : zb = ((0 : Nat) : Int) := hz2
      have hrl := (List.getElem?_eq_some_iff.1 hx).1
      have hx1 : (rs.set r ⟨t, ((0 : Nat) : Int), zc, zd⟩)[r]? = some ⟨t, ((0 : Nat) : Int), zc, zd⟩ := List.getElem?_set_self hrl
      have hrs1 : ∀ z ∈ rs.set r ⟨t, ((0 : Nat) : Int), zc, zd⟩, SpIs s z := by
        intro y hy
        rcases List.mem_or_eq_of_mem_set hy with hy | rfl
        · exact hrs y hy
        · exact hzs
      obtain ⟨z2, _, _, hzs2, hdet, CEN⟩ := pend_ok spIs_lives wf u (by rw [List.length_set]; exact h6) hrs1 r t (sizeAt s t) _ hx1 htl (Nat.le_refl _)
      have hz : z2 = ⟨t, 0, t, (sizeAt s t : Int)⟩ := hdet t 0 t rfl rfl tt tt (by
        rw [wh_first]
        exact wh_nonneg wf u htl (Nat.le_refl _) tt)
      subst hz
      rw [List.set_set] at CEN
      have hx2 : (rs.set r ⟨t, 0, t, (sizeAt s t : Int)⟩)[r]? = some ⟨t, 0, t, (sizeAt s t : Int)⟩ := List.getElem?_set_self hrl
      have S : SpAt s B ⟨t, 0, t, (sizeAt s t : Int)⟩ t 0 t (sizeAt s t) t 0 ((plF s (B + 1) t).length - 1) := by
        refine ⟨rfl, htl, htl, tt, tt, Nat.zero_le _, Nat.le_refl _, ?_, ?_, Nat.zero_le _⟩
        · obtain ⟨q, e⟩ := pl_first (s := s) (k := B) (t := t)
          rw [e]; rfl
        · obtain ⟨q, e⟩ := pl_last wf (k := B) htl
          rw [e]; simp
      have C1 : Hid (∀ (F' : Nat → Prop) (W : World), Desk w0 F' W bw bx (N : Int) M ⟨s, rs⟩ → Calls Tryz.prog 31 #[ptr bx, .int .i64 (r : Int), .agg #[.int .i64 (t : Int), .int .i64 0]] W (PLPost F' W bx ⟨s, rs.set r ⟨t, ((0 : Nat) : Int), zc, zd⟩⟩ .nilIface)) := fun F' W h => by
        have := CST W F' bx (h.gg hg) h.doc
        rw [show errV 0 0 = .nilIface from by simp [errV]] at this
        exact this
      have C2 : Hid (∀ (F' : Nat → Prop) (W : World), Desk w0 F' W bw bx (N : Int) M ⟨s, rs.set r ⟨t, ((0 : Nat) : Int), zc, zd⟩⟩ → Calls Tryz.prog 32 #[ptr bx, .int .i64 (r : Int), .agg #[.int .i64 (t : Int), .int .i64 (sizeAt s t : Int)]] W (PLPost F' W bx ⟨s, rs.set r ⟨t, 0, t, (sizeAt s t : Int)⟩⟩ .nilIface)) := fun F' W h => by
        have := CEN W F' bx (h.gg hg) h.doc
        rw [show errV 0 0 = .nilIface from by simp [errV]] at this
        exact this
      have C3 : Hid (∀ (F' : Nat → Prop) (W : World), Desk w0 F' W bw bx (N : Int) M ⟨s, rs.set r ⟨t, 0, t, (sizeAt s t : Int)⟩⟩ → Calls Tryz.prog 33 #[ptr bx, .int .i64 (r : Int)] W (PLPost F' W bx ⟨s, rs.set r ⟨t, 0, t, (sizeAt s t : Int)⟩⟩ (.tuple #[.string (catB (allC s B t)), .nilIface]))) := fun F' W h => by
        have := pread_yes (rs := rs.set r ⟨t, 0, t, (sizeAt s t : Int)⟩) wf u r t 0 t (sizeAt s t) t 0 ((plF s (B + 1) t).length - 1) _ hx2 S W F' bx (h.gg hg) h.doc
        rw [show errV 0 0 = .nilIface from by simp [errV]] at this
        exact this
      have CS := hid (fun (F' : Nat → Prop) (W : World) (h : Desk w0 F' W bw bx (N : Int) M ⟨s, rs.set r ⟨t, ((0 : Nat) : Int), zc, zd⟩⟩) => size_at hg wf h t htl)
      have HK := hid hK
      have HD0 := hid hD
      clear hK hg wf u hrs hD hx hpn hpk tp tt CST CEN hdet hzs hzs2 hx1 hx2 hrs1 S CMP
      go_wp2_with (
        go_at_call 31
        refine (C1.out _ _ HK.out.o.desk).mono ?_
        rintro e w2 ⟨rfl, hk, hl⟩
        have HK1 := hid (HK.out.next hk hl)
        have f0 := HK1.out.o.desk.cells.1
        clear hk hl)
      go_region_held3 (fun w' => w'.cell? ⟨bw, 0, none⟩ = some (ptr bx)) (first | exact KS2.out | exact KS1.out | go_keep) (first
        | (go_at_call 28
           refine (CS.out _ _ HK1.out.drew.o.desk).mono ?_
           rintro e w3 ⟨rfl, hk, hd⟩
           have HK2 := hid (HK1.out.drew.with hk hd)
           have KS1 := hid HK2.out.o.desk.cells.1
           clear hk hd)
        | (go_at_call 32
           refine (C2.out _ _ HK2.out.o.desk).mono ?_
           rintro e w4 ⟨rfl, hk, hl⟩
           have HK3 := hid (HK2.out.next hk hl)
           have KS2 := hid HK3.out.o.desk.cells.1
           clear hk hl))
      all_goals
        have g0 := HK3.out.o.desk.cells.1
        go_wp2_with (
          go_at_call 33
          refine (C3.out _ _ HK3.out.o.desk).mono ?_
          rintro e w5 ⟨rfl, hk, hl⟩
          have HK4 := hid (HK3.out.next hk hl)
          clear hk hl)
        go_quiet (fail)
        go_wp2
        go_ret2
        have hfin := HK4.out.done HD0.out
        first
          | exact ⟨rfl, hfin.1, hfin.2⟩
          | (refine ⟨rfl, hfin.1.trans (Keeps.of_below (below_draw _ _)), hfin.2.below (below_draw _ _)⟩)
end
end Go.Proofs.YtabogkonklplcaaGreatDoor

namespace Go.Proofs.YtabogkonklplcaaGreatDoor
open Go.RowKit Go.Lib
set_option linter.unusedSimpArgs false
set_option linter.unusedVariables false
section
variable {s s' : List Nd} {f : Mvf} {n k : Nat} {z : Sp}
theorem spIs_next (wf : WF s) {j m a b ka : Nat} {y : Nd} (hy : s[j]? = some y) (ha : y.ks[m]? = some a) (hb : y.ks[m + 1]? = some b) (hka : ka ≤ sizeAt s a) : SpIs s ⟨a, ka, b, ((0 : Nat) : Int)⟩ := by
  have hj := (List.getElem?_eq_some_iff.1 hy).1
  obtain ⟨hh, B, u⟩ := wf.up
  have hal := (wf.kid_lt u hy (List.mem_of_getElem? ha)).1
  have hbl := (wf.kid_lt u hy (List.mem_of_getElem? hb)).1
  obtain ⟨t, tj⟩ := top_there wf j hj
  obtain ⟨l, wl⟩ := way_there wf tj hj
  have wa := Way.down wl hy ha
  have wb := Way.down wl hy hb
  obtain ⟨x, hx, hp⟩ := tj.2
  refine spIs_lives.two wf ⟨a, ka, rfl, rfl, hal, hka⟩ ⟨b, 0, rfl, rfl, hbl, Nat.zero_le _⟩ (way_top wf wa hx hp) wa wb ?_
  have key : ∀ l : List Nat, lexC (l ++ [m] ++ [ka]) (l ++ [m + 1] ++ [0]) ≤ 0 := by
    intro l
    induction l with
    | nil =>
      show (if m < m + 1 then -1 else if m + 1 < m then 1 else lexC [ka] [0]) ≤ 0
      rw [if_pos (by omega)]
      decide
    | cons q l ih =>
      show (if q < q then -1 else if q < q then 1 else lexC (l ++ [m] ++ [ka]) (l ++ [m + 1] ++ [0])) ≤ 0
      rw [if_neg (Nat.lt_irrefl _), if_neg (Nat.lt_irrefl _)]
      exact ih
  exact key l
end
end Go.Proofs.YtabogkonklplcaaGreatDoor

namespace Go.Proofs.YtabogkonklplcaaGreatDoor
open Go.RowKit Go.Lib
set_option linter.unusedSimpArgs false
set_option linter.unusedVariables false
section
variable {s s' : List Nd}
def txtF (s : List Nd) (k n : Nat) : List ByteArray := (allF s k n).flatMap (csOf s)
theorem txtF_succ (s : List Nd) (k n : Nat) : txtF s (k + 1) n = csOf s n ++ (kidsOf s n).flatMap (txtF s k) := by
  unfold txtF
  rw [allF, List.flatMap_cons, List.flatMap_assoc]
theorem pk_full (cs : List ByteArray) (c : Nat → Bool) : ∀ k, k ≤ cs.length → (∀ b, b < k → c b = true) → pk cs c k = cs.take k
  | 0, _, _ => by simp [pk_zero]
  | k + 1, h, hc => by
    rw [pk_succ, pk_full cs c k (by omega) (fun b hb => hc b (by omega)), hc k (by omega), if_pos rfl, List.take_add_one]
theorem cov_all (wf : WF s) {h : Nat → Nat} {B : Nat} (u : Up s h B) {t n b : Nat} (ht : t < s.length) (tt : IsTop s t t) (hn : n ∈ allF s (B + 1) t) (hb : b < (csOf s n).length) : cov (plF s (B + 1) t) t 0 t (sizeAt s t) n b = true := by
  obtain ⟨j, hj⟩ := all_climb wf (B + 1) t n hn
  have tn : IsTop s n t := ⟨⟨j, hj⟩, tt.2⟩
  cases hx : s[n]? with
  | none => simp [csOf, hx] at hb
  | some x =>
    have hnl := (List.getElem?_eq_some_iff.1 hx).1
    rw [csOf_eq hx] at hb
    have hxt : x.t = true := by
      cases e : x.t with
      | true => rfl
      | false => rw [(wf.elem n x hx).2 e] at hb; simp at hb
    have hsz : sizeAt s n = x.cs.length := (sizeAt_eq hx).trans (sizeN_text hxt)
    obtain ⟨l, wl⟩ := way_there wf tn hnl
    obtain ⟨i1, e1, h1⟩ := wh_mem (way_pl wf u wl (k := b) (by omega))
    obtain ⟨i2, e2, h2⟩ := wh_mem (way_pl wf u wl (k := b + 1) (by omega))
    have hl : (plF s (B + 1) t)[(plF s (B + 1) t).length - 1]? = some (t, sizeAt s t) := by
      obtain ⟨q, e⟩ := pl_last wf (k := B) ht
      rw [e]; simp
    have e3 := wh_at (pl_nodup wf (B + 1) t) hl
    have hi2 := (List.getElem?_eq_some_iff.1 h2).1
    unfold cov
    rw [wh_first, e1, e2, e3, decide_eq_true (by omega), decide_eq_true (by omega)]
    rfl
theorem flatMap_same {α β : Type} {l : List α} {f g : α → List β} (h : ∀ a ∈ l, f a = g a) : l.flatMap f = l.flatMap g := by
  induction l with
  | nil => rfl
  | cons a l ih => rw [List.flatMap_cons, List.flatMap_cons, h a (.head _), ih (fun b hb => h b (.tail _ hb))]
theorem allC_txt (wf : WF s) {h : Nat → Nat} {B : Nat} (u : Up s h B) {t : Nat} (ht : t < s.length) (tt : IsTop s t t) : allC s B t = txtF s (B + 1) t := by
  unfold allC
  have hi : (plF s (B + 1) t)[0]? = some (t, 0) := by
    obtain ⟨q, e⟩ := pl_first (s := s) (k := B) (t := t)
    rw [e]; rfl
  have hj : (plF s (B + 1) t)[(plF s (B + 1) t).length - 1]? = some (t, sizeAt s t) := by
    obtain ⟨q, e⟩ := pl_last wf (k := B) ht
    rw [e]; simp
  have h1 := read_same wf ht hi hj (Nat.zero_le _)
  rw [Nat.sub_zero] at h1
  rw [h1]
  unfold readP txtF
  refine flatMap_same (fun n hn => ?_)
  rw [pk_full _ _ _ (Nat.le_refl _) (fun b hb => cov_all wf u ht tt hn hb), List.take_length]
theorem txt_stable (wf : WF s) {h : Nat → Nat} {B : Nat} (u : Up s h B) {k k' n : Nat} (h1 : h n < k) (h2 : h n < k') : txtF s k n = txtF s k' n := by
  unfold txtF
  rw [all_stable wf u k k' n h1 h2]
theorem txt_split (wf : WF s) {nn kk j m : Nat} {x y : Nd} (hx : s[nn]? = some x) (ht : x.t = true) (hp : x.p = (j : Int)) (hy : s[j]? = some y) (hm : y.ks[m]? = some nn)
    (hx5 : s'[nn]? = some { x with cs := x.cs.take kk }) (hz5 : s'[s.length]? = some (⟨true, x.cs.drop kk, [], (j : Int)⟩ : Nd)) (hy5 : s'[j]? = some { y with ks := y.ks.take (m + 1) ++ s.length :: y.ks.drop (m + 1) })
    (hoth : ∀ a, a ≠ nn → a ≠ s.length → a ≠ j → s'[a]? = s[a]?) : ∀ (K a : Nat), a ≠ nn → a < s.length → txtF s' K a = txtF s K a
  | 0, a, _, _ => rfl
  | K + 1, a, h1, h2 => by
    obtain ⟨hh, B, u⟩ := wf.up
    have ih := txt_split wf hx ht hp hy hm hx5 hz5 hy5 hoth K
    have hkx : x.ks = [] := (wf.elem nn x hx).1 ht
    have hml : m < y.ks.length := (List.getElem?_eq_some_iff.1 hm).1
    have hnj : nn ≠ j := fun e => by
      subst e
      rw [hx] at hy
      cases hy
      rw [hkx] at hm
      simp at hm
    have hjl := (List.getElem?_eq_some_iff.1 hy).1
    rw [txtF_succ, txtF_succ]
    by_cases haj : a = j
    · subst haj
      have hcs : csOf s' a = csOf s a := by rw [csOf_eq hy5, csOf_eq hy]
      rw [hcs, kidsOf_eq hy5, kidsOf_eq hy]
      congr 1
      have hnd := wf.nodup a y hy
      have hsp : y.ks = y.ks.take m ++ nn :: y.ks.drop (m + 1) := by
        have e := List.getElem?_eq_some_iff.1 hm
        rw [← e.2, ← List.drop_eq_getElem_cons e.1, List.take_append_drop]
      have htk : y.ks.take (m + 1) = y.ks.take m ++ [nn] := by
        have e := List.getElem?_eq_some_iff.1 hm
        rw [List.take_add_one, hm]
        rfl
      rw [hsp] at hnd
      have hn1 : nn ∉ y.ks.take m ∧ nn ∉ y.ks.drop (m + 1) := by
        rw [List.nodup_append] at hnd
        obtain ⟨_, h4, h5⟩ := hnd
        exact ⟨fun e => h5 nn e nn (.head _) rfl, (List.nodup_cons.1 h4).1⟩
      have hsame : ∀ (l : List Nat), (∀ c ∈ l, c ∈ y.ks ∧ c ≠ nn) → l.flatMap (txtF s' K) = l.flatMap (txtF s K) := fun l hl => flatMap_same (fun c hc => ih c (hl c hc).2 (wf.kid_lt u hy (hl c hc).1).1)
      have e1 := hsame (y.ks.take m) (fun c hc => ⟨List.mem_of_mem_take hc, fun e => hn1.1 (e ▸ hc)⟩)
      have e2 := hsame (y.ks.drop (m + 1)) (fun c hc => ⟨List.mem_of_mem_drop hc, fun e => hn1.2 (e ▸ hc)⟩)
      have e3 : txtF s' K nn ++ txtF s' K s.length = txtF s K nn := by
        cases K with
        | zero => rfl
        | succ K =>
          rw [txtF_succ, txtF_succ, txtF_succ, csOf_eq hx5, csOf_eq hz5, csOf_eq hx, kidsOf_eq hx5, kidsOf_eq hz5, kidsOf_eq hx, hkx]
          simp
      rw [htk, List.flatMap_append, List.flatMap_append, List.flatMap_cons, List.flatMap_cons, List.flatMap_nil, e1, e2]
      conv => rhs; rw [hsp, List.flatMap_append, List.flatMap_cons, ← e3]
      simp [List.append_assoc]
    · have hs := hoth a h1 (by omega) haj
      have hcs : csOf s' a = csOf s a := by unfold csOf; rw [hs]
      have hks : kidsOf s' a = kidsOf s a := by unfold kidsOf; rw [hs]
      rw [hcs, hks]
      congr 1
      obtain ⟨z, hz⟩ : ∃ z, s[a]? = some z := ⟨_, List.getElem?_eq_getElem h2⟩
      rw [kidsOf_eq hz]
      refine flatMap_same (fun c hc => ih c (fun e => ?_) (wf.kid_lt u hz hc).1)
      subst e
      obtain ⟨x2, hx2, hp2⟩ := wf.kid a z hz c hc
      rw [hx] at hx2
      cases hx2
      exact haj (by omega)
theorem read_text (wf : WF s) {h : Nat → Nat} {B : Nat} (u : Up s h B) {n : Nat} {x : Nd} (hx : s[n]? = some x) (ht : x.t = true) : ∃ t i, SpAt s B ⟨n, 0, n, (x.cs.length : Int)⟩ n 0 n x.cs.length t i (i + x.cs.length) ∧ readR s (plF s (B + 1) t) i (i + x.cs.length - i) = x.cs := by
  have hnl := (List.getElem?_eq_some_iff.1 hx).1
  have hsz : sizeAt s n = x.cs.length := (sizeAt_eq hx).trans (sizeN_text ht)
  obtain ⟨t, tn⟩ := top_there wf n hnl
  obtain ⟨l, wl⟩ := way_there wf tn hnl
  obtain ⟨i, ei, hi⟩ := wh_mem (way_pl wf u wl (k := 0) (Nat.zero_le _))
  have hat : ∀ b, b ≤ x.cs.length → (plF s (B + 1) t)[i + b]? = some (n, b) := by
    intro b
    induction b with
    | zero => intro _; exact hi
    | succ b ih =>
      intro hb
      obtain ⟨j, ej, hj⟩ := wh_mem (way_pl wf u wl (k := b + 1) (by omega))
      have h1 := wh_next wf hx ht (b := b) (by omega) (way_pl wf u wl (k := b) (by omega))
      have h2 := wh_at (pl_nodup wf (B + 1) t) (ih (by omega))
      have h3 : j = i + (b + 1) := by omega
      rw [← h3]
      exact hj
  refine ⟨t, i, ⟨rfl, hnl, hnl, tn, tn, Nat.zero_le _, by omega, hi, hat _ (Nat.le_refl _), by omega⟩, ?_⟩
  rw [show i + x.cs.length - i = x.cs.length by omega]
  have hlast := (List.getElem?_eq_some_iff.1 (hat x.cs.length (Nat.le_refl _))).1
  have key : ∀ k, k ≤ x.cs.length → readR s (plF s (B + 1) t) i k = x.cs.take k := by
    intro k
    induction k with
    | zero => intro _; simp [readR_zero]
    | succ k ih =>
      intro hk
      rw [readR_succ, ih (by omega), chB_at wf (hat k (by omega)) (by omega), csOf_eq hx, List.take_add_one]
  rw [key _ (Nat.le_refl _), List.take_length]
end
end Go.Proofs.YtabogkonklplcaaGreatDoor

namespace Go.Proofs.YtabogkonklplcaaGreatDoor
open Go.RowKit Go.Lib
set_option linter.unusedSimpArgs false
set_option linter.unusedVariables false
set_option maxRecDepth 20000 in
set_option maxHeartbeats 2000000 in
theorem check_big (m : Nat) (hm : m ≤ 30) (s : ByteArray) (w : World) (hT : Tabs w) :
    Calls Tryz.prog 144 #[.string s, .int .i64 m] w (CheckPost m s w) := by
  have HT := hid hT
  clear hT
  go_enter Tryz.func144, Tryz.ntmps144
  go_wp2
  go_loopw [5] (fun c wr => CheckInv m s w c wr) (fun _ wr => s.size - wr.iterPos w.heap.size)
  case atStart =>
    exact ⟨0, [], rfl, heap_alloc_new w _, (Below.refl _ w).alloc (Nat.le_refl _) _, Nat.zero_le _, Nat.zero_le _, by simp⟩
  case round =>
    obtain ⟨p, l, rfl, hi, hb, hp, hl, hc⟩ := hrel
    have HC := hid hc
    clear hc
    by_cases hlt : p < s.size
    · have hnx := fun ty => Lib.run_next_any_at (P := Tryz.prog) _ w.heap.size s p ty hi hlt
      have B := hid (brk_eq s p hlt)
      have W := hid (width_le s p hlt)
      have F := hid (takes_full (m := m) HC.out hlt)
      have D := hid (takes_bad (m := m) HC.out hlt)
      have N := hid (takes_next HC.out hlt)
      obtain ⟨R, K, hRK⟩ : ∃ R K, Utf8.decode s p = (R, K) := ⟨_, _, rfl⟩
      rw [hRK] at hnx B W D N
      simp only at hnx B W
      clear hRK HC
      have hi2 := iterAt_heap _ _ s p (p + K) hi
      have hb2 := below_iterAt hb (Nat.le_refl _) s (p + K)
      have hpI : (p : Int) ≤ s.size := by omega
      by_cases h30 : l.length = m
      · have h30I : (m : Int) ≤ l.length := by omega
        have h30N : m ≤ l.length := by omega
        go_wp2
        go_ret
        exact ⟨hb2, .inr ⟨F.out h30, _, rfl⟩⟩
      · have h30I : ¬ (m : Int) ≤ l.length := by omega
        have h30N : ¬ m ≤ l.length := by omega
        have hT2 := HT.out.below hb2
        have C := hid (broken_any (R : Int) (s.extract p s.size) _ hT2)
        rw [B.out] at C
        clear hT2 B F
        by_cases hd : (R, K) = (65533, 1)
        · rw [decide_eq_true hd] at C
          have D2 := hid (D.out hd)
          clear N W D hd
          go_wp2_with (go_at_call 171; refine C.out.mono ?_; rintro e w3 ⟨rfl, hb3⟩)
          go_ret
          exact ⟨hb2.trans (hb3.mono hb2.size), .inr ⟨D2.out, _, rfl⟩⟩
        · rw [decide_eq_false hd] at C
          have N2 := hid (N.out hd)
          have W2 := hid (W.out hd)
          clear N W D hd
          go_wp2_with (go_at_call 171; refine C.out.mono ?_; rintro e w3 ⟨rfl, hb3⟩)
          have hw := W2.out
          have hi3 := (hb3.block w.heap.size (heap_lt hi2)).trans hi2
          go_roundw
          case rel =>
            refine ⟨p + K, l ++ [s.extract p (p + K)], ?_, hi3, hb2.trans (hb3.mono hb2.size), hw.2, by simp; omega, N2.out⟩
            first | simp | go_num
          case measure =>
            rw [iterPos_of hi3, iterPos_of hi]
            omega
    · have hnx := fun ty => Lib.run_next_end_at (P := Tryz.prog) _ w.heap.size s p ty hi hlt
      go_wp2
      go_ret
      exact ⟨hb, .inl ⟨l, takes_end HC.out hlt hl, rfl⟩⟩
set_option maxRecDepth 20000 in
set_option maxHeartbeats 2000000 in
theorem splice_no_small_b (l : List ByteArray) (hl : ∀ c ∈ l, IsCh c) (hn : l.length ≤ 30) (o c : Nat) (cnt : Int) (ho : o ≤ l.length) (hc0 : 0 ≤ cnt) (hcc : (c : Int) = cnt) (hcl : o + c ≤ l.length) (t : ByteArray) (hno : ∀ l', ¬ TakesM (30 - o - (l.length - (o + c))) t l') (w : World) (hT : Tabs w) :
    Calls Tryz.prog 113 #[.string (catB l), .int .i64 (o : Int), .int .i64 cnt, .string t, .int .i64 30] w fun e w' => ∃ k : Int, e = .returned (.tuple #[.string ⟨#[]⟩, flawV k]) ∧ Below w.heap.size w w' := by
  have hoc : o + c ≤ l.length := by omega
  have hn' : l.length < lots := by unfold lots; omega
  have hnd : (l.drop o).length < lots := by simp; omega
  have hld : ∀ c ∈ l.drop o, IsCh c := fun c hc => hl c (List.mem_of_mem_drop hc)
  have hldd : ∀ d ∈ l.drop (o + c), IsCh d := fun d hd => hl d (List.mem_of_mem_drop hd)
  have C1 := hid (fun w1 => find_at l hl hn' o ho w1)
  have C2 := hid (fun w1 => find_at (l.drop o) hld hnd c (by simp; omega) w1)
  have C3 := hid (fun w1 => count_any (l.drop (o + c)) hldd (by simp; omega) w1)
  have CK := hid (fun w1 (hb : Below w.heap.size w w1) => check_big (30 - o - (l.length - (o + c))) (by omega) t w1 (hT.below hb))
  have hcd : decide (cnt < 0) = false := decide_eq_false (by omega)
  have s1 := cat_split l o
  have s2 := cat_split (l.drop o) c
  rw [List.drop_drop] at s2
  have z1 := cat_le l o
  have z2 := cat_le (l.drop o) c
  have z3 := cat_size l hl
  have z4 := cat_size (l.drop o) hld
  have z5 := cat_size (l.drop (o + c)) hldd
  have z6 : (catB (l.take o)).size ≤ 4 * 30 := by have := cat_size (l.take o) (fun c hc => hl c (List.mem_of_mem_take hc)); simp at this; omega
  have hdl : (l.drop (o + c)).length = l.length - (o + c) := by simp
  obtain ⟨p, hp⟩ : ∃ p, (catB (l.take o)).size = p := ⟨_, rfl⟩
  obtain ⟨q, hq⟩ : ∃ q, (catB ((l.drop o).take c)).size = q := ⟨_, rfl⟩
  rw [hp] at C1 s1 z1 z6
  rw [hq] at s2 z2
  rw [hq, hcc] at C2
  obtain ⟨A, hA⟩ : ∃ A, catB (l.take o) = A := ⟨_, rfl⟩
  obtain ⟨B, hB⟩ : ∃ B, catB (l.drop o) = B := ⟨_, rfl⟩
  obtain ⟨D, hD⟩ : ∃ D, catB (l.drop (o + c)) = D := ⟨_, rfl⟩
  obtain ⟨S, hS⟩ : ∃ S, catB l = S := ⟨_, rfl⟩
  have CAT : Hid (∀ lf, catB lf = t → A ++ t ++ D = catB (l.take o ++ lf ++ l.drop (o + c))) := fun lf hf => by rw [catB_append, catB_append, hf, hA, hD]
  rw [hA, hS] at s1
  rw [hB] at s1
  rw [hB, hD] at s2
  rw [hS] at C1 z1 z3 ⊢
  rw [hB] at C2 z2 z4
  rw [hD] at C3 z5
  have hA2 : A.size = p := by rw [← hA]; exact hp
  have s11 := s1.1
  have s12 := s1.2
  have s22 := s2.2
  have pI : (p : Int) ≤ S.size := by omega
  have qI : (q : Int) ≤ B.size := by omega
  have oI : (o : Int) ≤ 30 := by omega
  have dI : ((l.length - (o + c) : Nat) : Int) ≤ 30 := by omega
  have hm : (30 : Int) - (o : Int) - ((l.length - (o + c) : Nat) : Int) = ((30 - o - (l.length - (o + c)) : Nat) : Int) := by omega
  clear hl hld hldd hT hp hq hA hB hD hS s1 s2 hn' hnd
  go_enter Tryz.func113, Tryz.ntmps113
  go_wp2_with (go_at_call 102; refine (C1.out _).mono ?_; clear C1; rintro e w1 ⟨rfl, hb0⟩)
  go_region
  have hb1 := hb0.drew
  clear hb0
  go_wp2_with (first
    | (go_at_call 102; refine (C2.out _).mono ?_; clear C2; rintro e w2 ⟨rfl, hb2⟩
       have HB2 := hid (hb1.trans (hb2.mono hb1.size)))
    | (go_at_call 22; refine (is_nil _ _).mono ?_; rintro e w3 ⟨rfl, hw3⟩
       replace hw3 := hw3.symm
       subst hw3
       have HB3 := hid HB2.out)
    | (go_at_call 105; refine (C3.out _).mono ?_; rintro e w4 ⟨rfl, hb4⟩
       have HB4 := hid (HB3.out.trans (hb4.mono HB3.out.size)))
    | (go_at_call 144
       refine (CK.out _ HB4.out).mono ?_
       rintro e w5 ⟨hb5, ⟨l', hl', _⟩ | ⟨_, kk, rfl⟩⟩; (first | exact absurd hl' (hno l') | skip)
       have HB5 := hid (HB4.out.trans (hb5.mono HB4.out.size))))
  go_ret2
  exact ⟨kk, rfl, HB5.out⟩
set_option maxRecDepth 20000 in
set_option maxHeartbeats 2000000 in
theorem splice_no_big_b (l : List ByteArray) (hl : ∀ c ∈ l, IsCh c) (hn : l.length ≤ 30) (o c : Nat) (cnt : Int) (ho : o ≤ l.length) (hc0 : 0 ≤ cnt) (hcc : (c : Int) = (l.length : Int) - o) (hcl : (l.length : Int) - o < cnt) (t : ByteArray) (hno : ∀ l', ¬ TakesM (30 - o - (l.length - (o + c))) t l') (w : World) (hT : Tabs w) :
    Calls Tryz.prog 113 #[.string (catB l), .int .i64 (o : Int), .int .i64 cnt, .string t, .int .i64 30] w fun e w' => ∃ k : Int, e = .returned (.tuple #[.string ⟨#[]⟩, flawV k]) ∧ Below w.heap.size w w' := by
  have hoc : o + c ≤ l.length := by omega
  have hn' : l.length < lots := by unfold lots; omega
  have hnd : (l.drop o).length < lots := by simp; omega
  have hld : ∀ c ∈ l.drop o, IsCh c := fun c hc => hl c (List.mem_of_mem_drop hc)
  have hldd : ∀ d ∈ l.drop (o + c), IsCh d := fun d hd => hl d (List.mem_of_mem_drop hd)
  have C1 := hid (fun w1 => find_at l hl hn' o ho w1)
  have C2 := hid (fun w1 => find_out (l.drop o) hld hnd cnt (.inr (by simp; omega)) w1)
  have C3 := hid (fun w1 => count_any (l.drop (o + c)) hldd (by simp; omega) w1)
  have CK := hid (fun w1 (hb : Below w.heap.size w w1) => check_big (30 - o - (l.length - (o + c))) (by omega) t w1 (hT.below hb))
  have hcd : decide (cnt < 0) = false := decide_eq_false (by omega)
  have s1 := cat_split l o
  have s2 := cat_split (l.drop o) c
  rw [List.drop_drop] at s2
  have z1 := cat_le l o
  have z2 := cat_le (l.drop o) c
  have z3 := cat_size l hl
  have z4 := cat_size (l.drop o) hld
  have z5 := cat_size (l.drop (o + c)) hldd
  have z6 : (catB (l.take o)).size ≤ 4 * 30 := by have := cat_size (l.take o) (fun c hc => hl c (List.mem_of_mem_take hc)); simp at this; omega
  have hdl : (l.drop (o + c)).length = l.length - (o + c) := by simp
  obtain ⟨p, hp⟩ : ∃ p, (catB (l.take o)).size = p := ⟨_, rfl⟩
  obtain ⟨q, hq⟩ : ∃ q, (catB ((l.drop o).take c)).size = q := ⟨_, rfl⟩
  rw [hp] at C1 s1 z1 z6
  rw [hq] at s2 z2
  have hqB : q = (catB (l.drop o)).size := by rw [← hq, List.take_of_length_le (by simp; omega)]
  obtain ⟨A, hA⟩ : ∃ A, catB (l.take o) = A := ⟨_, rfl⟩
  obtain ⟨B, hB⟩ : ∃ B, catB (l.drop o) = B := ⟨_, rfl⟩
  obtain ⟨D, hD⟩ : ∃ D, catB (l.drop (o + c)) = D := ⟨_, rfl⟩
  obtain ⟨S, hS⟩ : ∃ S, catB l = S := ⟨_, rfl⟩
  have CAT : Hid (∀ lf, catB lf = t → A ++ t ++ D = catB (l.take o ++ lf ++ l.drop (o + c))) := fun lf hf => by rw [catB_append, catB_append, hf, hA, hD]
  rw [hA, hS] at s1
  rw [hB] at s1
  rw [hB, hD] at s2
  rw [hS] at C1 z1 z3 ⊢
  rw [hB] at C2 z2 z4
  rw [hD] at C3 z5
  have hA2 : A.size = p := by rw [← hA]; exact hp
  have s11 := s1.1
  have s12 := s1.2
  have s22 := s2.2
  rw [hB] at hqB
  rw [hqB] at s22
  have hDe : ByteArray.empty = D := by rw [← s22]; simp
  subst hDe
  have pI : (p : Int) ≤ S.size := by omega
  have qI : (q : Int) ≤ B.size := by omega
  have oI : (o : Int) ≤ 30 := by omega
  have dI : ((l.length - (o + c) : Nat) : Int) ≤ 30 := by omega
  have hm : (30 : Int) - (o : Int) - ((l.length - (o + c) : Nat) : Int) = ((30 - o - (l.length - (o + c)) : Nat) : Int) := by omega
  clear hl hld hldd hT hp hq hA hB hD hS s1 s2 hn' hnd s22
  go_enter Tryz.func113, Tryz.ntmps113
  go_wp2_with (go_at_call 102; refine (C1.out _).mono ?_; clear C1; rintro e w1 ⟨rfl, hb0⟩)
  go_region
  have hb1 := hb0.drew
  clear hb0
  go_wp2_with (first
    | (go_at_call 102; refine (C2.out _).mono ?_; clear C2; rintro e w2 ⟨rfl, hb2⟩
       have HB2 := hid (hb1.trans (hb2.mono hb1.size)))
    | (go_at_call 22; refine (is_out _ 0 _).mono ?_; rintro e w3 ⟨rfl, hb3⟩
       have HB3 := hid (HB2.out.trans (hb3.mono HB2.out.size)))
    | (go_at_call 105; refine (C3.out _).mono ?_; rintro e w4 ⟨rfl, hb4⟩
       have HB4 := hid (HB3.out.trans (hb4.mono HB3.out.size)))
    | (go_at_call 144
       refine (CK.out _ HB4.out).mono ?_
       rintro e w5 ⟨hb5, ⟨l', hl', _⟩ | ⟨_, kk, rfl⟩⟩; (first | exact absurd hl' (hno l') | skip)
       have HB5 := hid (HB4.out.trans (hb5.mono HB4.out.size))))
  go_ret2
  exact ⟨kk, rfl, HB5.out⟩
theorem pans_replace_big (s : List Nd) (wf : WF s) (rs : List Sp) (h6 : rs.length ≤ 6) (hrs : ∀ z ∈ rs, SpOk s z) (A B C : Int) (t : ByteArray) : AnsP s rs 34 [.int .i64 A, .int .i64 B, .int .i64 C, .string t] (fun v => v) (RepR s A B C t) := by
  have hcap := wf.cap
  cases hA : isB s A with
  | false =>
    refine AnsP.no wf A 1 (.inl ⟨by decide, rfl, rfl⟩) ?_
    intro w F bx hg hP
    refine mreplace_no hg hP A B C t (fun F' bf h => ?_)
    have h' := h
    obtain ⟨bn, cap, pn, h⟩ := h
    exact (treplace_unfit h' A B C t _ (findText_no h A hA)).mono fun e w' hh => ⟨_, _, errOf_P A 1 (by decide), hh⟩
  | true =>
    obtain ⟨h1, h2⟩ := isB_true hA
    obtain ⟨n, rfl⟩ : ∃ n : Nat, A = (n : Int) := ⟨A.toNat, by omega⟩
    have hn : n < s.length := by omega
    obtain ⟨x, hx⟩ : ∃ x, s[n]? = some x := ⟨_, List.getElem?_eq_getElem hn⟩
    have hch := wf.chars n x hx
    have hl' : x.cs.length < lots := by unfold lots; omega
    cases ht : x.t with
    | false =>
      refine AnsP.no wf n 2 (.inl ⟨by decide, rfl, rfl⟩) ?_
      intro w F bx hg hP
      refine mreplace_no hg hP n B C t (fun F' bf h => ?_)
      have h' := h
      obtain ⟨bn, cap, pn, h⟩ := h
      exact (treplace_unfit h' n B C t _ (findText_kind h n x hx ht)).mono fun e w' hh => ⟨_, _, errOf_P n 2 (by decide), hh⟩
    | true =>
      by_cases hB : B < 0 ∨ (x.cs.length : Int) < B
      · refine AnsP.no wf n 3 (.inl ⟨by decide, rfl, rfl⟩) ?_
        intro w F bx hg hP
        refine mreplace_no hg hP n B C t (fun F' bf h => ?_)
        refine (treplace_bad h n B C t x hx ht (Q := fun u => u = outV B) (fun w1 _ => (splice_off x.cs hch.2 hl' B C hB t w1).mono fun e w' hh => ⟨⟨_, _, rfl, hh.1⟩, hh.2⟩)).mono ?_
        rintro e w' ⟨u, rfl, hh⟩
        exact ⟨_, _, errOf_O n B, hh⟩
      · obtain ⟨o, rfl⟩ : ∃ o : Nat, B = (o : Int) := ⟨B.toNat, by omega⟩
        have ho : o ≤ x.cs.length := by omega
        by_cases hC : C < 0
        · refine AnsP.no wf n 3 (.inl ⟨by decide, rfl, rfl⟩) ?_
          intro w F bx hg hP
          refine mreplace_no hg hP n o C t (fun F' bf h => ?_)
          refine (treplace_bad h n o C t x hx ht (Q := fun u => u = outV C) (fun w1 _ => (splice_cnt x.cs hch.2 hl' o ho C hC t w1).mono fun e w' hh => ⟨⟨_, _, rfl, hh.1⟩, hh.2⟩)).mono ?_
          rintro e w' ⟨u, rfl, hh⟩
          exact ⟨_, _, errOf_O n C, hh⟩
        · obtain ⟨cm, hcm⟩ : ∃ cm : Nat, cm = (min C ((x.cs.length : Int) - o)).toNat := ⟨_, rfl⟩
          have hcl : o + cm ≤ x.cs.length := by omega
          have em : 30 - o - (x.cs.length - (o + cm)) = 30 - (x.cs.length - cm) := by omega
          by_cases hY : ∃ lf, TakesM (30 - o - (x.cs.length - (o + cm))) t lf
          · obtain ⟨lf, hlf⟩ := hY
            have hts : t.size < lots := by
              have q1 := charsOf_cat _ t lf (Nat.le_refl _) hlf.1
              have q2 := cat_size lf (charsOf_isCh t.size t lf (Nat.le_refl _) hlf.1)
              have q3 := hlf.2
              rw [q1] at q2
              unfold lots
              omega
            have hlf30 : lf.length ≤ 30 := by have := hlf.2; omega
            have hsum : x.cs.length - cm + lf.length ≤ 30 := by have := hlf.2; omega
            have hcs : (x.cs.take o ++ lf ++ x.cs.drop (o + cm)).length ≤ 30 ∧ ∀ c ∈ x.cs.take o ++ lf ++ x.cs.drop (o + cm), IsCh c := by
              refine ⟨by simp; omega, fun c hc => ?_⟩
              rcases List.mem_append.1 hc with hc | hc
              · rcases List.mem_append.1 hc with hc | hc
                · exact hch.2 c (List.mem_of_mem_take hc)
                · exact charsOf_isCh t.size t lf (Nat.le_refl _) hlf.1 c hc
              · exact hch.2 c (List.mem_of_mem_drop hc)
            refine ⟨0, 0, _, resizeF n o cm lf.length, wf_chars wf hx ht hcs, .inr ⟨rfl, n, o, cm, x, lf, rfl, rfl, hcm, hx, ht, by omega, hcl, hlf.1, rfl, rfl⟩, fun V hV z hz => hV.replace wf hx ht hcl (wf_chars wf hx ht hcs) hz, ?_⟩
            intro w F bx hg hP
            refine mreplace_go hg hP (Small.of wf hrs) h6 n o C t (fun F' bf h => ?_)
            have hmin : min C ((x.cs.length : Int) - o) = (cm : Int) := by omega
            have hT := treplace_done h n o C t x hx ht hch.1 hch.2 ho lf (x.cs.take o ++ lf ++ x.cs.drop (o + cm)) hlf.1 hlf30 (by omega) (fun w1 hb => ?_)
            · rw [hmin] at hT
              exact hT
            have hT := hg.2.below hb
            by_cases hbig : (x.cs.length : Int) - o < C
            · exact splice_yes_big x.cs hch.2 hch.1 o cm C ho (by omega) (by omega) hbig t hts lf hlf w1 hT
            · exact splice_yes_small x.cs hch.2 hch.1 o cm C ho (by omega) (by omega) hcl t hts lf hlf w1 hT
          · have hN : ∀ l', ¬ TakesM (30 - o - (x.cs.length - (o + cm))) t l' := fun l' h => hY ⟨l', h⟩
            refine AnsP.no wf n 6 (.inl ⟨by decide, rfl, rfl⟩) ?_
            intro w F bx hg hP
            refine mreplace_no hg hP n o C t (fun F' bf h => ?_)
            refine (treplace_bad h n o C t x hx ht (Q := fun u => ∃ k, u = flawV k) (fun w1 hb => ?_)).mono ?_
            · have hT := hg.2.below hb
              by_cases hbig : (x.cs.length : Int) - o < C
              · exact (splice_no_big_b x.cs hch.2 hch.1 o cm C ho (by omega) (by omega) hbig t hN w1 hT).mono fun e w' ⟨k, h1, h2⟩ => ⟨⟨_, _, ⟨k, rfl⟩, h1⟩, h2⟩
              · exact (splice_no_small_b x.cs hch.2 hch.1 o cm C ho (by omega) (by omega) hcl t hN w1 hT).mono fun e w' ⟨k, h1, h2⟩ => ⟨⟨_, _, ⟨k, rfl⟩, h1⟩, h2⟩
            · rintro e w' ⟨u, ⟨k, rfl⟩, hh⟩
              exact ⟨_, _, errOf_F n k, hh⟩
end Go.Proofs.YtabogkonklplcaaGreatDoor
