import Derived.Test.YtabogkonklplcaaGreatDoorK32
import Derived.Laws.StructEq
import Derived.Test.YtabogkonklplcaaGreatDoorK43
import Derived.Test.YtabogkonklplcaaGreatDoorK10
import Derived.Test.YtabogkonklplcaaGreatDoorK13
import Derived.Test.YtabogkonklplcaaGreatDoorK30
import Derived.Test.YtabogkonklplcaaGreatDoorK42

namespace Go.Proofs.YtabogkonklplcaaGreatDoor
open Go.RowKit
set_option linter.unusedSimpArgs false
set_option linter.unusedVariables false
theorem below_qd {n : Nat} {w v : World} (h : Below n w v) (q : Nat) : Below n w (v.drewN q) := ⟨h.os, h.tape, h.output, h.size, h.block⟩
structure DeskO (w0 : World) (F : Nat → Prop) (w : World) (bw bx : Nat) (n mine : Int) (st : St) (l : List (Nat × Obj)) : Prop where
  desk : Desk w0 F w bw bx n mine st
  own : ∀ p ∈ l, w.heap[p.1]? = some p.2 ∧ ¬ F p.1
section
variable {w0 w w' : World} {F : Nat → Prop} {bw bx : Nat} {n n' mine : Int} {st st' : St} {l : List (Nat × Obj)}
theorem Desk.o (h : Desk w0 F w bw bx n mine st) : DeskO w0 F w bw bx n mine st [] := ⟨h, fun p hp => by cases hp⟩
theorem DeskO.below (h : DeskO w0 F w bw bx n mine st l) (hb : Below w.heap.size w w') : DeskO w0 F w' bw bx n mine st l :=
  ⟨h.desk.below hb, fun p hp => ⟨(hb.block _ (heap_lt (h.own p hp).1)).trans (h.own p hp).1, (h.own p hp).2⟩⟩
theorem DeskO.drew (h : DeskO w0 F w bw bx n mine st l) : DeskO w0 F w.drew bw bx n mine st l := h.below (Below.refl _ _).drew
theorem DeskO.with (h : DeskO w0 F w bw bx n mine st l) (hk : Keeps F w w') (hd : Desk w0 (grow F w) w' bw bx n' mine st') : DeskO w0 (grow F w) w' bw bx n' mine st' l :=
  ⟨hd, fun p hp => ⟨(hk.block _ (heap_lt (h.own p hp).1) (h.own p hp).2).trans (h.own p hp).1, fun e => e.elim (h.own p hp).2 (fun e => Nat.not_le_of_lt (heap_lt (h.own p hp).1) e)⟩⟩
theorem DeskO.next (h : DeskO w0 F w bw bx n mine st l) (hk : Keeps F w w') (hl : PLies w' (grow F w) bx st') : DeskO w0 (grow F w) w' bw bx n mine st' l :=
  h.with hk (h.desk.next hk hl)
theorem DeskO.narrow (h : DeskO w0 F w bw bx n mine st l) : DeskO w0 (fun b => F b ∧ b < w.heap.size) w bw bx n mine st l :=
  ⟨h.desk.narrow, fun p hp => ⟨(h.own p hp).1, fun e => (h.own p hp).2 e.1⟩⟩
theorem DeskO.alloc (h : DeskO w0 F w bw bx n mine st l) (c : Array Value) (t : TypeId) : DeskO w0 (fun b => F b ∧ b < w.heap.size) (w.alloc (.cells c t)) bw bx n mine st ((w.heap.size, .cells c t (0, 0)) :: l) := by
  have hB : Below w.heap.size w (w.alloc (.cells c t)) := (Below.refl _ w).alloc (Nat.le_refl _) _
  have h2 := h.narrow.below hB
  refine ⟨h2.desk, fun p hp => ?_⟩
  rcases List.mem_cons.1 hp with rfl | hp
  · exact ⟨heap_alloc_new w _, fun e => Nat.lt_irrefl _ e.2⟩
  · exact h2.own p hp
end
def CmpIs (s : List Nd) (B : Nat) (n k n2 k2 : Nat) (v : Int) (ev : Value) : Prop :=
  (∃ t, IsTop s n t ∧ IsTop s n2 t ∧ ev = .nilIface ∧ v = cmpB (decide (wh (plF s (B + 1) t) (n, k) < wh (plF s (B + 1) t) (n2, k2))) (decide (wh (plF s (B + 1) t) (n2, k2) < wh (plF s (B + 1) t) (n, k)))) ∨
  ((∃ t t2, IsTop s n t ∧ IsTop s n2 t2 ∧ t ≠ t2) ∧ v = 0 ∧ ∃ a y : Int, ev = .iface 32 (.agg #[.int .i64 a, .int .i64 y]))
theorem pcompare_any {s : List Nd} {rs : List Sp} (wf : WF s) {h : Nat → Nat} {B : Nat} (u : Up s h B) (n k n2 k2 : Nat) (hn : n < s.length) (hk : k ≤ sizeAt s n) (hn2 : n2 < s.length) (hk2 : k2 ≤ sizeAt s n2) :
    ∃ (v : Int) (ev : Value), CmpIs s B n k n2 k2 v ev ∧ ∀ (w : World) (F : Nat → Prop) (bx : Nat), GG w → PLies w F bx ⟨s, rs⟩ →
      Calls Tryz.prog 26 #[ptr bx, .agg #[.int .i64 (n : Int), .int .i64 (k : Int)], .agg #[.int .i64 (n2 : Int), .int .i64 (k2 : Int)]] w (PLPost F w bx ⟨s, rs⟩ (.tuple #[.int .i64 v, ev])) := by
  obtain ⟨t, ta⟩ := top_there wf n hn
  obtain ⟨t2, tb⟩ := top_there wf n2 hn2
  by_cases he : t = t2
  · subst he
    refine ⟨_, .nilIface, .inl ⟨t, ta, tb, rfl, rfl⟩, fun w F bx hg hP => ?_⟩
    have := pcompare_one (rs := rs) wf u n k n2 k2 t hn hk hn2 hk2 ta tb w F bx hg hP
    rw [show errV 0 0 = .nilIface from by simp [errV]] at this
    exact this
  · refine ⟨0, .iface 32 (.agg #[.int .i64 (n2 : Int), .int .i64 9]), .inr ⟨⟨t, t2, ta, tb, he⟩, rfl, _, _, rfl⟩, fun w F bx hg hP => ?_⟩
    have := pcompare_roots (rs := rs) wf n k n2 k2 t t2 hn hk hn2 hk2 ta tb he w F bx hg hP
    rw [show errV (n2 : Int) 9 = .iface 32 (.agg #[.int .i64 (n2 : Int), .int .i64 9]) from by simp [errV]] at this
    exact this
def Flt (ev : Value) : Prop := ∃ a y : Int, ev = .iface 32 (.agg #[.int .i64 a, .int .i64 y])
inductive Tri (P : Prop) : Int → Value → Int → Value → Int → Value → Int → Value → Int → Value → Prop
  | one {x z u : Int} : (x = 0 ↔ P) → ((x = -1 ∨ x = 0 ∨ x = 1) ∧ (z = -1 ∨ z = 0 ∨ z = 1) ∧ (u = -1 ∨ u = 0 ∨ u = 1) ∧ (0 < x ∨ 0 < z ∨ u ≤ 0) ∧ (x < 0 ∨ z < 0 ∨ 0 ≤ u)) → Tri P x .nilIface (-x) .nilIface z .nilIface u .nilIface 0 .nilIface
  | left {x : Int} {g h : Value} : (x = 0 ↔ P) → (x = -1 ∨ x = 0 ∨ x = 1) → Flt g → Flt h → Tri P x .nilIface (-x) .nilIface 0 g 0 h 0 .nilIface
  | right {z : Int} {e f h : Value} : ¬ P → Flt e → Flt f → Flt h → Tri P 0 e 0 f z .nilIface 0 h 0 .nilIface
  | none {u : Int} {e f g h : Value} : ¬ P → Flt e → Flt f → Flt g → (Flt h ∨ h = .nilIface) → Tri P 0 e 0 f 0 g u h 0 .nilIface
theorem cmpB_is (a b : Int) : cmpB (decide (a < b)) (decide (b < a)) = if a < b then -1 else if b < a then 1 else 0 := by
  by_cases h1 : a < b
  · rw [decide_eq_true h1, if_pos h1]; rfl
  · by_cases h2 : b < a
    · rw [decide_eq_false h1, decide_eq_true h2, if_neg h1, if_pos h2]; rfl
    · rw [decide_eq_false h1, decide_eq_false h2, if_neg h1, if_neg h2]; rfl
theorem CmpIs.same {s : List Nd} {B n k n2 k2 t : Nat} {v : Int} {ev : Value} (c : CmpIs s B n k n2 k2 v ev) (ha : IsTop s n t) (hb : IsTop s n2 t) :
    ev = .nilIface ∧ v = if wh (plF s (B + 1) t) (n, k) < wh (plF s (B + 1) t) (n2, k2) then -1 else if wh (plF s (B + 1) t) (n2, k2) < wh (plF s (B + 1) t) (n, k) then 1 else 0 := by
  rcases c with ⟨t', a, b, h1, h2⟩ | ⟨⟨t', t2, a, b, ne⟩, _⟩
  · obtain rfl := a.one ha
    exact ⟨h1, by rw [h2, cmpB_is]⟩
  · exact absurd ((a.one ha).trans (b.one hb).symm) ne
theorem CmpIs.other {s : List Nd} {B n k n2 k2 t t2 : Nat} {v : Int} {ev : Value} (c : CmpIs s B n k n2 k2 v ev) (ha : IsTop s n t) (hb : IsTop s n2 t2) (hne : t ≠ t2) : v = 0 ∧ Flt ev := by
  rcases c with ⟨t', a, b, h1, h2⟩ | ⟨_, h1, h2⟩
  · exact absurd ((ha.one a).trans (b.one hb)) hne
  · exact ⟨h1, h2⟩
theorem wh_inj {s : List Nd} (wf : WF s) {h : Nat → Nat} {B : Nat} (u : Up s h B) {n k n2 k2 t : Nat} (hn : n < s.length) (hk : k ≤ sizeAt s n) (hn2 : n2 < s.length) (hk2 : k2 ≤ sizeAt s n2) (ha : IsTop s n t) (hb : IsTop s n2 t)
    (he : wh (plF s (B + 1) t) (n, k) = wh (plF s (B + 1) t) (n2, k2)) : n = n2 ∧ k = k2 := by
  obtain ⟨l, wl⟩ := way_there wf ha hn
  obtain ⟨l2, wl2⟩ := way_there wf hb hn2
  obtain ⟨i, ei, hi⟩ := wh_mem (way_pl wf u wl hk)
  obtain ⟨j, ej, hj⟩ := wh_mem (way_pl wf u wl2 hk2)
  have : i = j := by omega
  subst this
  rw [hi] at hj
  simpa using hj
theorem tri_of {s : List Nd} (wf : WF s) {h0 : Nat → Nat} {B : Nat} (u0 : Up s h0 B) {n k n2 k2 n3 k3 : Nat} (hn : n < s.length) (hk : k ≤ sizeAt s n) (hn2 : n2 < s.length) (hk2 : k2 ≤ sizeAt s n2) (hn3 : n3 < s.length) (hk3 : k3 ≤ sizeAt s n3)
    {x y z u v : Int} {e f g h i : Value} (c1 : CmpIs s B n k n2 k2 x e) (c2 : CmpIs s B n2 k2 n k y f) (c3 : CmpIs s B n2 k2 n3 k3 z g) (c4 : CmpIs s B n k n3 k3 u h) (c5 : CmpIs s B n k n k v i) : Tri (n = n2 ∧ k = k2) x e y f z g u h v i := by
  obtain ⟨t1, T1⟩ := top_there wf n hn
  obtain ⟨t2, T2⟩ := top_there wf n2 hn2
  obtain ⟨t3, T3⟩ := top_there wf n3 hn3
  obtain ⟨rfl, hv⟩ := c5.same T1 T1
  have hv0 : v = 0 := by rw [hv, if_neg (by omega), if_neg (by omega)]
  subst hv0
  by_cases h1 : t1 = t2
  · subst h1
    obtain ⟨rfl, hx⟩ := c1.same T1 T2
    obtain ⟨rfl, hy⟩ := c2.same T2 T1
    have inj := wh_inj wf u0 hn hk hn2 hk2 T1 T2
    have inj2 : (n = n2 ∧ k = k2) → wh (plF s (B + 1) t1) (n, k) = wh (plF s (B + 1) t1) (n2, k2) := fun ⟨a, b⟩ => by rw [a, b]
    obtain ⟨a, ea⟩ : ∃ a, wh (plF s (B + 1) t1) (n, k) = a := ⟨_, rfl⟩
    obtain ⟨b, eb⟩ : ∃ a, wh (plF s (B + 1) t1) (n2, k2) = a := ⟨_, rfl⟩
    have hyx : y = -x := by
      rw [hx, hy, ea, eb]
      repeat' split
      all_goals omega
    have hx3 : x = -1 ∨ x = 0 ∨ x = 1 := by
      rw [hx]
      repeat' split
      all_goals simp
    have hx0 : x = 0 ↔ (n = n2 ∧ k = k2) := by
      rw [ea, eb] at inj inj2
      constructor
      · intro h
        refine inj ?_
        rw [hx, ea, eb] at h
        revert h
        repeat' split
        all_goals (intro h; omega)
      · intro h
        have := inj2 h
        rw [hx, ea, eb, if_neg (by omega), if_neg (by omega)]
    subst hyx
    by_cases h2 : t1 = t3
    · subst h2
      obtain ⟨rfl, hz⟩ := c3.same T2 T3
      obtain ⟨rfl, hu⟩ := c4.same T1 T3
      obtain ⟨c, ec⟩ : ∃ a, wh (plF s (B + 1) t1) (n3, k3) = a := ⟨_, rfl⟩
      refine .one hx0 ⟨hx3, ?_, ?_, ?_, ?_⟩
      · rw [hz]; repeat' split
        all_goals simp
      · rw [hu]; repeat' split
        all_goals simp
      · rw [hx, hz, hu, ea, eb, ec]
        repeat' split
        all_goals omega
      · rw [hx, hz, hu, ea, eb, ec]
        repeat' split
        all_goals omega
    · obtain ⟨rfl, hg⟩ := c3.other T2 T3 h2
      obtain ⟨rfl, hh⟩ := c4.other T1 T3 h2
      exact .left hx0 hx3 hg hh
  · obtain ⟨rfl, he⟩ := c1.other T1 T2 h1
    obtain ⟨rfl, hf⟩ := c2.other T2 T1 (fun e => h1 e.symm)
    have hP : ¬ (n = n2 ∧ k = k2) := fun ⟨a, _⟩ => by
      subst a
      exact h1 (T1.one T2)
    by_cases h2 : t2 = t3
    · subst h2
      obtain ⟨rfl, hz⟩ := c3.same T2 T3
      obtain ⟨rfl, hh⟩ := c4.other T1 T3 h1
      exact .right hP he hf hh
    · obtain ⟨rfl, hg⟩ := c3.other T2 T3 h2
      refine .none hP he hf hg ?_
      by_cases h3 : t1 = t3
      · subst h3
        exact .inr (c4.same T1 T3).1
      · exact .inl (c4.other T1 T3 h3).2
end Go.Proofs.YtabogkonklplcaaGreatDoor

namespace Go.Proofs.YtabogkonklplcaaGreatDoor
open Go.RowKit
set_option linter.unusedSimpArgs false
theorem place_fields : Tryz.prog.underlying 37 = some (.struct (Tryz.prog.fieldsOf 37)) := by kernel_rfl
theorem place_held : Tryz.prog.stoodInHeld 37 = false := by kernel_rfl
theorem int_under : Tryz.prog.underlying 3 = some (.int .i64) := by kernel_rfl
theorem place_two : (Tryz.prog.fieldsOf 37).toList.map (fun f => (f.name, f.type, f.offset)) = [("Node", 3, 0), ("Offset", 3, 1)] := by kernel_rfl
theorem fields_two {fs : List Field} {a b : String} {t u : TypeId} {o r : Nat} (h : fs.map (fun f => (f.name, f.type, f.offset)) = [(a, t, o), (b, u, r)]) : ∃ f g : Field, fs = [f, g] ∧ f.name = a ∧ f.type = t ∧ f.offset = o ∧ g.name = b ∧ g.type = u ∧ g.offset = r := by
  match fs, h with
  | [f, g], h =>
    simp at h
    exact ⟨f, g, rfl, h.1.1, h.1.2.1, h.1.2.2, h.2.1, h.2.2.1, h.2.2.2⟩
theorem eq_place (a b c d : Int) (w : World) : (binOp .eql 37 (.agg #[.int .i64 a, .int .i64 b]) (.agg #[.int .i64 c, .int .i64 d])).run Tryz.prog w = .ok (.bool (a == c && b == d)) w := by
  have h0 : (Op.equalIn (9999 + 1) 37 (.agg #[.int .i64 a, .int .i64 b]) (.agg #[.int .i64 c, .int .i64 d])).run Tryz.prog w = .ok (a == c && b == d) w := by
    rw [run_equalIn_struct w 9999 _ _ _ place_fields place_held]
    have e1 : (part 3 #[.int .i64 a, .int .i64 b] 0).run Tryz.prog w = .ok (.int .i64 a) w := by kernel_rfl
    have e2 : (part 3 #[.int .i64 a, .int .i64 b] 1).run Tryz.prog w = .ok (.int .i64 b) w := by kernel_rfl
    have e3 : (part 3 #[.int .i64 c, .int .i64 d] 0).run Tryz.prog w = .ok (.int .i64 c) w := by kernel_rfl
    have e4 : (part 3 #[.int .i64 c, .int .i64 d] 1).run Tryz.prog w = .ok (.int .i64 d) w := by kernel_rfl
    obtain ⟨f, g, hfg, n1, t1, o1, n2, t2, o2⟩ := fields_two place_two
    rw [hfg]
    have q1 := run_equalIn_int (P := Tryz.prog) w 9998 3 .i64 .i64 a c int_under
    have q2 := run_equalIn_int (P := Tryz.prog) w 9998 3 .i64 .i64 b d int_under
    simp only [Op.eqFields, n1, n2, t1, t2, o1, o2, Sem.run_bind, e1, e2, e3, e4, Result.andThen_ok, Sem.run_ite]
    rw [if_pos (by decide)]
    rw [show (9999 : Nat) = 9998 + 1 from rfl, q1]
    simp only [Result.andThen_ok]
    cases hac : (a == c)
    · simp
    · simp only [Bool.not_true, Bool.false_eq_true, if_false]
      rw [if_pos (by decide), e2]
      simp only [Result.andThen_ok, e4, q2]
      cases hbd : (b == d) <;> simp
  rw [run_eql_struct, show (10000 : Nat) = 9999 + 1 from rfl, h0]
  rfl
theorem eqg_place (x y : Operand) (a b c d : Int) (w : World) : (eqGuard .eql 37 x y (.agg #[.int .i64 a, .int .i64 b]) (.agg #[.int .i64 c, .int .i64 d])).run Tryz.prog w = .ok () w := run_eqGuard_agg w _ _ _ _ _ _ (by kernel_rfl)
theorem eq_place_yes (a b : Int) (w : World) : (binOp .eql 37 (.agg #[.int .i64 a, .int .i64 b]) (.agg #[.int .i64 a, .int .i64 b])).run Tryz.prog w = .ok (.bool true) w := by
  rw [eq_place]
  simp
theorem eq_place_no {a b c d : Int} (h : ¬ (a = c ∧ b = d)) (w : World) : (binOp .eql 37 (.agg #[.int .i64 a, .int .i64 b]) (.agg #[.int .i64 c, .int .i64 d])).run Tryz.prog w = .ok (.bool false) w := by
  rw [eq_place]
  by_cases h1 : a = c
  · have h2 : ¬ b = d := fun e => h ⟨h1, e⟩
    simp [h2]
  · simp [h1]
end Go.Proofs.YtabogkonklplcaaGreatDoor

namespace Go.Proofs.YtabogkonklplcaaGreatDoor
open Go.RowKit
set_option linter.unusedSimpArgs false
set_option linter.unusedVariables false
theorem SoFar.push {w wr w2 w1 : World} {bf : Nat} {acts : List Dact} {v v' : Value} {a : Dact} {cv : Value} {C C' : Nat → Prop} {cvs : List Value} (h2 : FnsAt wr C bf acts cvs) (h3 : ∀ b, C b → w.heap.size ≤ b ∧ b < wr.heap.size ∧ v.ownBlock ≠ some b) (h4 : ∀ b, v.ownBlock = some b → w.heap.size ≤ b) (hb : Below wr.heap.size wr w2) (hf : FnAt w2 C' bf a cv) (hC' : ∀ b, C' b → w.heap.size ≤ b ∧ b < w2.heap.size ∧ v.ownBlock ≠ some b)
    (hg : w2.grownBy w1 v.ownBlock) (ho : w1.ownsRow 0 237 1 v' (acts.length + 1) (cvs ++ [cv])) (hob : v'.ownBlock = v.ownBlock ∨ ∃ k, v'.ownBlock = some k ∧ w2.heap.size ≤ k) : SoFar w bf (acts ++ [a]) v' w1 := by
  have hk : Keeps (fun b => v.ownBlock = some b) w2 w1 := Keeps.grown hg (fun k e => .inl e)
  have hk0 := Keeps.of_below (F := fun _ => False) hb
  have hz := hk.size
  have hzb := hb.size
  have hex : ∃ b, C' b := by
    obtain ⟨n, oe⟩ := a
    cases oe with
    | none => obtain ⟨x0, _, _, _, _, l0, _⟩ := hf; exact ⟨_, l0⟩
    | some oe => obtain ⟨o, e'⟩ := oe; obtain ⟨x0, _, _, _, _, _, _, _, _, l0, _⟩ := hf; exact ⟨_, l0⟩
  refine ⟨fun b => C b ∨ C' b, cvs ++ [cv], by rw [List.length_append]; exact ho, ?_, ?_, ?_⟩
  · exact FnsAt.snoc (((h2.keeps hk0 (fun _ _ e => e)).keeps hk (fun b e => (h3 b e).2.2)).wider (fun b e => .inl e)) ((hf.keeps hk (fun b e => (hC' b e).2.2)).wider (fun b e => .inr e))
  · rintro b (e | e)
    · have h5 := h3 b e
      refine ⟨h5.1, by omega, fun e1 => ?_⟩
      rcases hob with e2 | ⟨k, e2, e3⟩
      · exact h5.2.2 (e2 ▸ e1)
      · rw [e2] at e1
        cases e1
        omega
    · have h5 := hC' b e
      refine ⟨h5.1, by omega, fun e1 => ?_⟩
      rcases hob with e2 | ⟨k, e2, e3⟩
      · exact h5.2.2 (e2 ▸ e1)
      · rw [e2] at e1
        cases e1
        omega
  · intro b e1
    rcases hob with e2 | ⟨k, e2, e3⟩
    · exact h4 b (e2 ▸ e1)
    · rw [e2] at e1
      cases e1
      obtain ⟨b', hb'⟩ := hex
      have := hC' b' hb'
      omega
section
variable {s : List Nd} {h : Nat → Nat} {B : Nat} {F : Nat → Prop} {bf bn cap : Nat} {pn : List PN} {w : World}
set_option maxRecDepth 20000 in
set_option maxHeartbeats 4000000 in
theorem tdeletion_many (wf : WF s) (u : Up s h B) (hD : PForAt w F bf bn cap pn s) (a b c d t : Nat) (x y : Nd) (hx : s[a]? = some x) (hy : s[c]? = some y) (ta : IsTop s a t) (tc : IsTop s c t) (hb : b ≤ sizeAt s a) (hd : d ≤ sizeAt s c) (hac : a ≠ c ∨ x.t = false) :
    Calls Tryz.prog 163 #[ptr bf, spV ⟨a, b, c, d⟩] w (DelPost w bf (delActs s B a b c d t)) := by
  obtain ⟨i0, hi, hz0, hz1, hz2⟩ := info_parts Tryz.info237
  have ha : a < s.length := (List.getElem?_eq_some_iff.1 hx).1
  have hc : c < s.length := (List.getElem?_eq_some_iff.1 hy).1
  have n0 := hD.nodesCell
  have hlt := hD.lt
  obtain ⟨r, hr, ho, c0, c1, c2, c3⟩ := hD.look hx
  obtain ⟨r2, hr2, ho2, d0, d1, d2, d3⟩ := hD.look hy
  have haI : (a : Int) < (s.length : Int) := by omega
  have hcI : (c : Int) < (s.length : Int) := by omega
  have CI := hid (fun W (hB : Below w.heap.size w W) => tinside_any wf u (hD.below hB) a b c d t ha hc ta tc hb hd)
  have hch := wf.chars a x hx
  have CC := hid (fun W => count_any x.cs hch.2 (by unfold lots; omega) W)
  have hes : endAct s a b (csOf s a).length = if x.t = true then [(a, some (b, x.cs.length))] else [] := by
    unfold endAct; rw [hx, csOf_eq hx]; simp
  have hee : endAct s c 0 d = if y.t = true then [(c, some (0, d))] else [] := by
    unfold endAct; rw [hy]; simp
  unfold delActs
  rw [hes, hee]
  have hll : (leaveF s (plF s (B + 1) t) a b c d (allF s (B + 1) t)).length ≤ 40 := Nat.le_trans (leave_len _ _ _ _ _ _ _) (all_length wf (B + 1) t ta.lt)
  generalize hL : leaveF s (plF s (B + 1) t) a b c d (allF s (B + 1) t) = L at *
  obtain ⟨AC, hAC⟩ : ∃ AC, (if x.t = true then [(a, some (b, x.cs.length))] else []) ++ L.map (fun i => ((i, none) : Dact)) ++ (if y.t = true then [(c, some (0, d))] else []) = AC := ⟨_, rfl⟩
  rw [hAC]
  have HAC := hid hAC
  clear hD hr ho c0 c2 hr2 ho2 d0 d2 d3 wf u hx hy ta tc hes hee hL hch hAC
  go_enter Tryz.func163, Tryz.ntmps163
  go_wp2
  obtain ⟨W0, hW0⟩ : ∃ W0, (w.alloc (.cells #[ptr bf] 91)).alloc (.cells #[.int .i64 (a : Int), .int .i64 (b : Int), .int .i64 (c : Int), .int .i64 (d : Int)] 79) = W0 := ⟨_, rfl⟩
  have hsz0 : W0.heap.size = w.heap.size + 2 := by rw [← hW0]; simp
  have hb0 : Below w.heap.size w W0 := by rw [← hW0]; exact ((Below.refl _ w).alloc (Nat.le_refl _) _).alloc (by simp) _
  have y0 : W0.heap[w.heap.size]? = some (.cells #[ptr bf] 91 (0, 0)) := by
    rw [← hW0, Below.heap_alloc _ _ _ (by simp), heap_alloc_new]
  have y1 : W0.heap[w.heap.size + 1]? = some (.cells #[.int .i64 (a : Int), .int .i64 (b : Int), .int .i64 (c : Int), .int .i64 (d : Int)] 79 (0, 0)) := by
    have := heap_alloc_new (w.alloc (.cells #[ptr bf] 91)) (.cells #[.int .i64 (a : Int), .int .i64 (b : Int), .int .i64 (c : Int), .int .i64 (d : Int)] 79)
    rw [World.size_alloc] at this
    rw [← hW0]; exact this
  rw [hW0]
  have s0 := cell_of_heap y1 0
  have s1 := cell_of_heap y1 1
  have s2 := cell_of_heap y1 2
  have s3 := cell_of_heap y1 3
  have hl1 := heap_lt y1
  have HY := hid (And.intro y0 (And.intro y1 hb0))
  clear y0 y1 hb0 hW0
  go_cut [5, 6] from 12 to 15 (fun s5 s6 wc => TwoPl W0 a b c d s5 s6 wc)
  case first =>
    go_region
    all_goals
      go_wp2_with fail
      go_meet
      case rel => first | exact twoPl_one W0 _ _ _ _ hsz0 | exact twoPl_two W0 _ _ _ _ hsz0
  case rest =>
    obtain ⟨p, q, rfl, rfl, hp, hq, hbc⟩ := hcut
    obtain ⟨y0, y1, hb0⟩ := HY.out
    have hbw : Below w.heap.size w wc := hb0.trans (hbc.mono hb0.size)
    have e0 := (hbw.cell (p := ⟨bf, 0, none⟩) hlt.1).trans n0
    have e1 := (hbw.cell (p := ⟨bn, a * 4 + 1, none⟩) hlt.2).trans c1
    have e2 := (hbw.cell (p := ⟨bn, c * 4 + 1, none⟩) hlt.2).trans d1
    have e3 := (hbw.cell (p := ⟨bn, a * 4 + 3, none⟩) hlt.2).trans c3
    have z0 := (hbc.block _ (heap_lt y0)).trans y0
    have z1 := (hbc.block _ (heap_lt y1)).trans y1
    have g0 := cell_of_heap z0 0
    have p0 := cell_of_heap hp 0
    have p1 := cell_of_heap hp 1
    have q0 := cell_of_heap hq 0
    have q1 := cell_of_heap hq 1
    have t0 := cell_of_heap z1 0
    have t1 := cell_of_heap z1 1
    have t2 := cell_of_heap z1 2
    have t3 := cell_of_heap z1 3
    have HBW := hid hbw
    have HK := hid (And.intro hp (And.intro hq (And.intro z0 z1)))
    have hpl := heap_lt hp
    have hql := heap_lt hq
    clear hp hq z0 z1 hbc hbw y0 y1 hb0 HY s0 s1 s2 s3 n0 c1 c3 d1
    have hgd : (x.t && ((a : Int) == (c : Int))) = false := by
      rcases hac with h | h
      · have : ((a : Int) == (c : Int)) = false := by simp; omega
        rw [this, Bool.and_false]
      · rw [h, Bool.false_and]
    cases hxt : x.t with
    | false =>
      rw [hxt] at e1
      clear hgd hac CC
      go_wp2
      go_quiet (fail)
      go_wp2_with (
        go_at_call 188
        refine (CI.out _ (below_drewN HBW.out _)).mono ?_
        rintro e w3 ⟨sa, sc, rfl, hr3, hb3, hg3⟩
        have HR3 := hid (And.intro hr3 hg3)
        have hb3' : Below wc.heap.size wc w3 := ⟨hb3.os, hb3.tape, hb3.output, hb3.size, hb3.block⟩
        have HB3 := hid hb3'
        have hz3 := hb3'.size
        clear hr3 hb3 hg3 hb3')
      have SF := hid (SoFar.nil w w3 bf)
      have NV : Hid ((Value.slice none 0 0).ownBlock ≠ some w.heap.size ∧ (Value.slice none 0 0).ownBlock ≠ some q ∧ (∀ gL, sa = some ⟨gL, 0, none⟩ → (Value.slice none 0 0).ownBlock ≠ some gL)) := ⟨fun e => (by cases e), fun e => (by cases e), fun _ _ e => (by cases e)⟩
      have VGE : Hid (∀ b, (Value.slice none 0 0).ownBlock = some b → w.heap.size ≤ b) := fun b e => (by cases e)
      go_loopw [9, 75] (fun t9 s75 wr => ∃ (k : Nat) (s9 : Value), k ≤ L.length ∧ t9 = s9 ∧ s75 = .int .i64 (k : Int) ∧ SoFar w bf (([] : List Dact) ++ (L.take k).map (fun i => ((i, none) : Dact))) s9 wr ∧ Keeps (fun b => (Value.slice none 0 0).ownBlock = some b) w3 wr ∧ ((∀ b, s9.ownBlock = some b → (Value.slice none 0 0).ownBlock = some b) ∨ ∀ b, s9.ownBlock = some b → w3.heap.size ≤ b)) (fun _ t _ => leftN L.length t)
      case atStart => exact ⟨0, _, Nat.zero_le _, rfl, rfl, by simpa using SF.out, Keeps.refl _ _, .inl (fun b e => e)⟩
      case round =>
        obtain ⟨k, s9, hk, h9, rfl, hSF, hK, hob0⟩ := hrel
        replace h9 := h9.symm
        subst h9
        have hKf : wr.heap[w.heap.size]? = some (.cells #[ptr bf] 91 (0, 0)) := (hK.block _ (Nat.lt_of_lt_of_le (heap_lt HK.out.2.2.1) hz3) NV.out.1).trans ((HB3.out.block _ (heap_lt HK.out.2.2.1)).trans HK.out.2.2.1)
        have hKq : wr.heap[q]? = some (.cells #[.int .i64 (c : Int), .int .i64 (d : Int)] 37 (0, 0)) := (hK.block _ (Nat.lt_of_lt_of_le hql hz3) NV.out.2.1).trans ((HB3.out.block _ hql).trans HK.out.2.1)
        obtain ⟨C, cvs, hrow, hfns, hC, hgw⟩ := hSF
        obtain ⟨ga, cc, hv⟩ := slice_form hrow
        have hSF : SoFar w bf (([] : List Dact) ++ (L.take k).map (fun i => ((i, none) : Dact))) s9 wr := ⟨C, cvs, hrow, hfns, hC, hgw⟩
        have hnf : s9.ownBlock ≠ some w.heap.size := fun e => by
          rcases hob0 with h | h
          · exact NV.out.1 (h _ e)
          · have := h _ e
            have := heap_lt HK.out.2.2.1
            omega
        have hlen : (([] : List Dact) ++ (L.take k).map (fun i => ((i, none) : Dact))).length = ([] : List Dact).length + k := by simp; omega
        obtain ⟨n0, hn0⟩ : ∃ n0, (([] : List Dact) ++ (L.take k).map (fun i => ((i, none) : Dact))).length = n0 := ⟨_, rfl⟩
        rw [hn0] at hrow hv hlen
        have hA0 : ([] : List Dact).length ≤ 1 := by simp
        have hn100 : n0 < 100 := by omega
        have HLEN := hid hlen
        clear hlen
        have hzK := hK.size
        subst hv
        by_cases hlt : k < L.length
        · have hlI : (k : Int) < (L.length : Int) := by omega
          obtain ⟨hr3, hg3⟩ := HR3.out
          obtain ⟨z, hz⟩ : ∃ z, L[k]? = some z := ⟨_, List.getElem?_eq_getElem hlt⟩
          obtain ⟨gL, hgL⟩ : ∃ gL, sa = some ⟨gL, 0, none⟩ := by
            rcases row_cases hr3 with ⟨_, hl0⟩ | ⟨g, c2, hgv⟩
            · omega
            · cases hgv; exact ⟨_, rfl⟩
          subst hgL
          have cz : wr.cell? ⟨gL, k, none⟩ = some (.int .i64 (z : Int)) := by
            refine hK.cell ?_ (fun e => NV.out.2.2 gL rfl e)
            rw [hr3.cellAt k (by simp [intsV]; omega)]
            simp [intsV, hz]
          have hgl : gL < wr.heap.size := World.block_lt_of_cell? wr _ cz
          have hgne : ¬ gL = wr.heap.size := by omega
          have HF := hid hKf
          have HSF := hid (And.intro (And.intro hfns (And.intro hC hgw)) (And.intro hnf (And.intro hob0 (And.intro hK hn0))))
          have HZ := hid hz
          have hfl := heap_lt hKf
          have HROW := hid hrow
          clear hKf hKq hSF hnf hob0 hK hrow hfns hC hgw hr3 hg3 hz hn0
          go_wp2_with (at_builtin
                       refine wpList_append_own_at _ rfl _ _ 233 rfl 0 237 i0 .nilFunc 1 8 Tryz.underlying233 hi hz0 hz1 hz2 rfl (by decide) (.slice ga n0 cc) _ _ rfl ((HROW.out.alloc _).alloc _) ⟨wr.heap.size + 1, 0, none⟩ 1 1 [.func (.func 189) #[] #[ptr w.heap.size, ptr wr.heap.size]] rfl rfl (by have := cell_one_new (wr.alloc (.cells #[.int .i64 (z : Int)] 3)) (.func (.func 189) #[] #[ptr w.heap.size, ptr wr.heap.size]) 237; simpa using this) (by simp [Value.oneCell']) (by unfold maxLen; omega) (by omega) (Nat.zero_le _) ?_
                       intro v' w1 hown' hgrow _ hob
                       obtain ⟨g', cap', rfl⟩ := ownsRow_succ hown'
                       have HW := hid hown'
                       have HG := hid hgrow
                       have HOB := hid hob
                       clear hown' hgrow hob)
          obtain ⟨⟨hfns, hC, hgw⟩, hnf, hob0, hK, hn0⟩ := HSF.out
          obtain ⟨W2, hW2⟩ : ∃ W2, (wr.alloc (.cells #[.int .i64 (z : Int)] 3)).alloc (.cells #[.func (.func 189) #[] #[ptr w.heap.size, ptr wr.heap.size]] 237) = W2 := ⟨_, rfl⟩
          have hW := HW.out
          have hG := HG.out
          have hOB := HOB.out
          have hb2 : Below wr.heap.size wr W2 := by rw [← hW2]; exact ((Below.refl _ wr).alloc (Nat.le_refl _) _).alloc (by simp) _
          have hz2' : W2.heap.size = wr.heap.size + 2 := by rw [← hW2]; simp
          have xz : W2.heap[wr.heap.size]? = some (.cells #[.int .i64 (z : Int)] 3 (0, 0)) := by
            rw [← hW2, Below.heap_alloc _ _ _ (by simp)]; exact heap_alloc_new wr _
          have xf := (hb2.block _ hfl).trans HF.out
          have hvl : ∀ b, (Value.slice ga n0 cc).ownBlock = some b → b < wr.heap.size := fun b e => (HROW.out.lt b e).2
          have hob2 : (Value.slice (some ⟨g', 0, none⟩) (n0 + 1) cap').ownBlock = (Value.slice ga n0 cc).ownBlock ∨ ∃ k, (Value.slice (some ⟨g', 0, none⟩) (n0 + 1) cap').ownBlock = some k ∧ W2.heap.size ≤ k := by
            rcases hOB with e | e
            · exact .inl e
            · exact .inr ⟨_, e, by rw [← hW2]; exact Nat.le_refl _⟩
          rw [show (wr.alloc (.cells #[.int .i64 (z : Int)] 3)).alloc (.cells #[.func (.func 189) #[] #[.pointer (some ⟨w.heap.size, 0, none⟩), .pointer (some ⟨wr.heap.size, 0, none⟩)]] 237) = W2 from hW2] at hG
          have hfn : FnAt W2 (fun b => b = w.heap.size ∨ b = wr.heap.size) bf (z, none) (.func (.func 189) #[] #[ptr w.heap.size, ptr wr.heap.size]) := ⟨_, _, rfl, cell_of_heap xf 0, cell_of_heap xz 0, .inl rfl, .inr rfl⟩
          have hkG : Keeps (fun b => (Value.slice ga n0 cc).ownBlock = some b) W2 w1 := Keeps.grown hG (fun k e => .inl e)
          have htk : (([] : List Dact) ++ (L.take (k + 1)).map (fun i => ((i, none) : Dact))) = (([] : List Dact) ++ (L.take k).map (fun i => ((i, none) : Dact))) ++ [(z, none)] := by
            rw [List.take_add_one, HZ.out]
            simp
          have hpush : SoFar w bf ((([] : List Dact) ++ (L.take k).map (fun i => ((i, none) : Dact))) ++ [(z, none)]) (.slice (some ⟨g', 0, none⟩) (n0 + 1) cap') w1 := by
            refine SoFar.push hfns hC hgw hb2 hfn (fun b e => ?_) hG (by rw [hn0]; exact hW) hob2
            · rcases e with e | e
              · subst e
                exact ⟨Nat.le_refl _, by omega, hnf⟩
              · subst e
                exact ⟨by omega, by omega, fun e1 => by have := hvl _ e1; omega⟩
          have hn0k : n0 = ([] : List Dact).length + k := HLEN.out
          refine ⟨⟨k + 1, _, by omega, rfl, by go_num, ?_, ?_, ?_⟩, ?_⟩
          · rw [htk]; first | exact hpush | (rw [hn0k] at hpush; simpa using hpush)
          · refine (hK.trans (Keeps.of_below hb2)).trans (hkG.mono (fun b _ e => ?_))
            rcases hob0 with h | h
            · exact .inl (h b e)
            · exact .inr (h b e)
          · rcases hob2 with e | ⟨k', e, e2⟩
            · rcases hob0 with h | h
              · exact .inl (fun b e1 => h b (e ▸ e1))
              · exact .inr (fun b e1 => h b (e ▸ e1))
            · exact .inr (fun b e1 => by
                have e3 : g' = b := by simpa [Value.ownBlock] using e1
                have e4 : g' = k' := by simpa [Value.ownBlock] using e
                omega)
          · show L.length - ((k : Int) + 1).toNat < L.length - ((k : Int)).toNat
            omega
        · obtain rfl : k = L.length := by omega
          have hlI : ¬ (L.length : Int) < (L.length : Int) := by omega
          have hBwr : Below w.heap.size w wr := ((Keeps.of_below (F := fun _ => False) (HBW.out.trans (HB3.out.mono HBW.out.size))).trans (hK.mono (fun b _ e => .inr (VGE.out b e)))).below
          rw [List.take_length] at hn0 hSF hfns
          have HBR := hid hBwr
          have HF := hid hKf
          have HSF := hid (And.intro hSF (And.intro (And.intro hfns (And.intro hC hgw)) (And.intro hnf hn0)))
          have hfl := heap_lt hKf
          have HROW := hid hrow
          have f0 := cell_of_heap hKf 0
          have w0' := cell_of_heap hKq 0
          have w1' := cell_of_heap hKq 1
          have hqr := heap_lt hKq
          clear hKf hKq hSF hnf hob0 hK hrow hfns hC hgw hn0 hBwr
          cases hyt : y.t with
          | false =>
            have hT : AC = ([] : List Dact) ++ L.map (fun i => ((i, none) : Dact)) := by rw [← HAC.out, hxt, hyt]; simp
            have HT := hid hT
            clear hT
            go_wp2
            go_ret
            obtain ⟨hSF, _, _, hn0⟩ := HSF.out
            rw [HT.out]
            refine ⟨ga, cc, ?_, ?_, HBR.out⟩
            · first | (rw [hn0]; done) | (rw [hn0]; rfl)
            · rw [hn0]; exact hSF
          | true =>
            have hT : AC = (([] : List Dact) ++ L.map (fun i => ((i, none) : Dact))) ++ [(c, some (0, d))] := by rw [← HAC.out, hxt, hyt]; simp
            have HT := hid hT
            clear hT
            go_wp2_with first
              | (go_at_call 187
                 refine (cut_any bf (c : Int) 0 (d : Int) _).mono ?_
                 rintro e w5 ⟨rfl, hw5⟩
                 have hb5 : Below wr.heap.size wr w5 := by
                   rw [hw5]
                   exact ((((Below.refl _ _).alloc (Nat.le_refl _) _).alloc (by simp) _).alloc (by simp; omega) _).alloc (by simp; omega) _
                 have HZ5 : Hid (w5.heap.size = wr.heap.size + 4) := by show _ = _; rw [hw5]; simp
                 have hfn := cut_fn wr bf c 0 d
                 rw [show (((wr.alloc (.cells #[ptr bf] 91)).alloc (.cells #[.int .i64 (c : Int)] 3)).alloc (.cells #[.int .i64 ((0 : Nat) : Int)] 3)).alloc (.cells #[.int .i64 (d : Int)] 3) = w5 from hw5.symm] at hfn
                 have HFN := hid hfn
                 have HB5 := hid hb5
                 have HROW5 := hid ((Keeps.of_below (F := fun _ => False) hb5).row HROW.out (fun _ _ e => e))
                 clear hw5 hfn hb5)
              | (at_builtin
                 go_loud (refine wpList_append_own_at _ rfl _ _ 233 rfl 0 237 i0 .nilFunc 1 8 Tryz.underlying233 hi hz0 hz1 hz2 rfl (by decide) (.slice ga n0 cc) _ _ rfl (HROW5.out.alloc _) ⟨w5.heap.size, 0, none⟩ 1 1 [.func (.func 198) #[] #[ptr wr.heap.size, ptr (wr.heap.size + 1), ptr (wr.heap.size + 2), ptr (wr.heap.size + 3)]] rfl rfl (cell_one_new _ _ _) (by simp [Value.oneCell']) (by unfold maxLen; omega) (by omega) (Nat.zero_le _) ?_)
                 intro v' w1 hown' hgrow _ hob
                 obtain ⟨g', cap', rfl⟩ := ownsRow_succ hown'
                 have HW := hid hown'
                 have HG := hid hgrow
                 have HOB := hid hob
                 clear hown' hgrow hob)
            go_ret
            obtain ⟨_, ⟨hfns, hC, hgw⟩, hnf, hn0⟩ := HSF.out
            rw [HT.out]
            have hW := HW.out
            have hG := HG.out
            have hOB := HOB.out
            have hz5 := HZ5.out
            have hvl : ∀ b, (Value.slice ga n0 cc).ownBlock = some b → b < wr.heap.size := fun b e => (HROW.out.lt b e).2
            have hob2 : (Value.slice (some ⟨g', 0, none⟩) (n0 + 1) cap').ownBlock = (Value.slice ga n0 cc).ownBlock ∨ ∃ k, (Value.slice (some ⟨g', 0, none⟩) (n0 + 1) cap').ownBlock = some k ∧ (w5.alloc (.cells #[.func (.func 198) #[] #[ptr wr.heap.size, ptr (wr.heap.size + 1), ptr (wr.heap.size + 2), ptr (wr.heap.size + 3)]] 237)).heap.size ≤ k := by
              rcases hOB with e | e
              · exact .inl e
              · exact .inr ⟨_, e, Nat.le_refl _⟩
            have hb6 : Below wr.heap.size wr (w5.alloc (.cells #[.func (.func 198) #[] #[ptr wr.heap.size, ptr (wr.heap.size + 1), ptr (wr.heap.size + 2), ptr (wr.heap.size + 3)]] 237)) := HB5.out.alloc HB5.out.size _
            have hpush : SoFar w bf ((([] : List Dact) ++ L.map (fun i => ((i, none) : Dact))) ++ [(c, some (0, d))]) (.slice (some ⟨g', 0, none⟩) (n0 + 1) cap') w1 := by
              refine SoFar.push hfns hC hgw hb6 (HFN.out.keeps (G := fun _ => False) ((Keeps.refl _ w5).alloc _) (fun _ _ e => e)) (fun b e => ?_) hG (by rw [hn0]; exact hW) hob2
              have hzr := HBR.out.size
              exact ⟨by omega, by simp; omega, fun e1 => by have := hvl _ e1; omega⟩
            refine ⟨some ⟨g', 0, none⟩, cap', ?_, ?_, ?_⟩
            · rw [List.length_append, hn0]; rfl
            · rw [List.length_append, hn0]; exact hpush
            · exact (((Keeps.of_below (F := fun _ => False) HBR.out).trans (Keeps.of_below hb6)).trans (Keeps.grown hG (fun k e => .inl (.inr (hgw k e))))).below
    | true =>
      rw [hxt] at e1
      have hne : ¬ a = c := by
        rcases hac with h | h
        · exact h
        · rw [hxt] at h; cases h
      have hnI : ((a : Int) == (c : Int)) = false := by simp; omega
      have hnJ : ¬ (a : Int) = (c : Int) := by omega
      clear hgd hac
      have KEEP := hid (fun W (hB : Below wc.heap.size wc W) => And.intro ((hB.cell (p := ⟨w.heap.size, 0, none⟩) (heap_lt HK.out.2.2.1)).trans g0) (And.intro ((hB.cell (p := ⟨p, 0, none⟩) hpl).trans p0) (And.intro ((hB.cell (p := ⟨p, 1, none⟩) hpl).trans p1) (And.intro ((hB.cell (p := ⟨bf, 0, none⟩) (by have := HBW.out.size; simp only; omega)).trans e0) ((hB.cell (p := ⟨bn, a * 4 + 3, none⟩) (by have := HBW.out.size; simp only; omega)).trans e3)))))
      go_wp2
      go_quiet (fail)
      go_wp2_with fail
      go_region_held3 (fun w' => w'.cell? ⟨w.heap.size, 0, none⟩ = some (ptr bf) ∧ w'.cell? ⟨p, 0, none⟩ = some (.int .i64 (a : Int)) ∧ w'.cell? ⟨p, 1, none⟩ = some (.int .i64 (b : Int)) ∧ w'.cell? ⟨bf, 0, none⟩ = some (.slice (some ⟨bn, 0, none⟩) s.length cap) ∧ w'.cell? ⟨bn, a * 4 + 3, none⟩ = some (.string (catB x.cs))) (first | exact KP7.out | exact KP5.out | exact KP6.out | exact KP4.out | exact KEEP.out _ (below_draw _ _) | exact KEEP.out _ (below_drewN (below_draw _ _) _) | go_keep) (first
        | (refine step_append_lies _ rfl (.tmp 52) (.tmp 69) 233 rfl 0 237 i0 _ 1 8 Tryz.underlying233 hi hz0 hz1 hz2 rfl (by decide) (.slice none 0 0) 0 [] (by simp [Act.eval, Act.put]) (World.ownsRow_nil _ _ _ _) ⟨w5.heap.size, 0, none⟩ 1 1 [.func (.func 198) #[] #[ptr w4.heap.size, ptr (w4.heap.size + 1), ptr (w4.heap.size + 2), ptr (w4.heap.size + 3)]] (by simp [Act.eval, Act.put]) rfl (cell_one_new _ _ _) (by simp [Value.oneCell']) (by decide) (by unfold maxLen; omega) (by omega) (Nat.zero_le _) (w5.heap.size + 1) (by simp) ?_
           intro g' cap' w7 ho7 hg7 hgn7 _
           have hb7 : Below w5.heap.size w5 w7 := ((Keeps.refl (fun _ => False) w5).alloc _ |>.trans (Keeps.grown hg7 (fun k e => by cases e))).below
           have hb7c : Below wc.heap.size wc w7 := HB5.out.trans (hb7.mono HB5.out.size)
           have KP7 := hid (KEEP.out w7 hb7c)
           have HB7 := hid hb7c
           have HW7 := hid (And.intro ho7 (And.intro hgn7 hb7))
           clear ho7 hg7 hgn7 hb7 hb7c)
        | (go_at_call 187
           refine (cut_any bf (a : Int) (b : Int) (x.cs.length : Int) _).mono ?_
           rintro e w5 ⟨rfl, hw5⟩
           have hb5 : Below w4.heap.size w4 w5 := by
             rw [hw5]
             exact ((((Below.refl _ _).alloc (Nat.le_refl _) _).alloc (by simp) _).alloc (by simp; omega) _).alloc (by simp; omega) _
           have HZ5 : Hid (w5.heap.size = w4.heap.size + 4) := by show _ = _; rw [hw5]; simp
           have hfn := cut_fn w4 bf a b x.cs.length
           rw [show (((w4.alloc (.cells #[ptr bf] 91)).alloc (.cells #[.int .i64 (a : Int)] 3)).alloc (.cells #[.int .i64 (b : Int)] 3)).alloc (.cells #[.int .i64 (x.cs.length : Int)] 3) = w5 from hw5.symm] at hfn
           have HFN := hid hfn
           have hb5c : Below wc.heap.size wc w5 := HB4.out.trans (hb5.mono HB4.out.size)
           have KP5 := hid (KEEP.out w5 hb5c)
           have KP6 := hid (KEEP.out _ (hb5c.alloc hb5c.size (.cells #[.func (.func 198) #[] #[ptr w4.heap.size, ptr (w4.heap.size + 1), ptr (w4.heap.size + 2), ptr (w4.heap.size + 3)]] 237)))
           have HB5 := hid hb5c
           clear hw5 hfn hb5 hb5c)
        | (go_at_call 105
           refine (CC.out _).mono ?_
           rintro e w4 ⟨rfl, hb4⟩
           have hb4c : Below wc.heap.size wc w4 := ⟨hb4.os, hb4.tape, hb4.output, hb4.size, hb4.block⟩
           have KP4 := hid (KEEP.out w4 hb4c)
           have HB4 := hid hb4c
           clear hb4 hb4c))
      all_goals
        obtain ⟨ho7, hgn7, hb7⟩ := HW7.out
        have hg5 : g' = w5.heap.size + 1 := by
          rcases hgn7 with e | e
          · cases e
          · exact e
        have hz5 := HZ5.out
        have hzc4 := HB4.out.size
        have hz1w := HBW.out.size
        have hz7 : w5.heap.size ≤ w7.heap.size := hb7.size
        have hg7l : g' < w7.heap.size := (ho7.lt g' rfl).2
        have hbw7 : Below w.heap.size w w7 := HBW.out.trans (HB7.out.mono HBW.out.size)
        have SF7 : Hid (SoFar w bf [(a, some (b, x.cs.length))] (.slice (some ⟨g', 0, none⟩) 1 cap') w7) := by
          refine ⟨fun k => w4.heap.size ≤ k ∧ k < w4.heap.size + 4, [.func (.func 198) #[] #[ptr w4.heap.size, ptr (w4.heap.size + 1), ptr (w4.heap.size + 2), ptr (w4.heap.size + 3)]], by simpa using ho7, ?_, fun k e => ⟨by omega, by omega, ?_⟩, fun k e => ?_⟩
          · exact ((FnsAt.nil w5 _ bf).snoc HFN.out).keeps (G := fun _ => False) (Keeps.of_below hb7) (fun _ _ e => e)
          · intro e1
            have e' : g' = k := by simpa [Value.ownBlock] using e1
            omega
          · have e' : g' = k := by simpa [Value.ownBlock] using e
            omega
        have HBW7 := hid hbw7
        have HG7 : Hid (wc.heap.size ≤ g' ∧ g' < w7.heap.size) := ⟨by omega, hg7l⟩
        have KP := KEEP.out w7 HB7.out
        obtain ⟨k0, k1, k2, k3, k4⟩ := KP
        have hspan := (HB7.out.block _ (heap_lt HK.out.2.2.2)).trans HK.out.2.2.2
        have sp0 := cell_of_heap hspan 0
        have sp1 := cell_of_heap hspan 1
        have sp2 := cell_of_heap hspan 2
        have sp3 := cell_of_heap hspan 3
        clear ho7 hgn7 hb7 hg5 hz5 hzc4 hz1w hz7 hg7l hbw7 hspan
        go_wp2_with (
          go_at_call 188
          refine (CI.out _ HBW7.out).mono ?_
          rintro e w3 ⟨sa, sc, rfl, hr3, hb3, hg3⟩
          have HR3 := hid (And.intro hr3 hg3)
          have SF := hid (SF7.out.below hb3)
          have hb3' : Below wc.heap.size wc w3 := HB7.out.trans (hb3.mono HB7.out.size)
          have HB3 := hid hb3'
          have hz3 := hb3'.size
          clear hr3 hb3 hg3 hb3')
        have NV : Hid ((Value.slice (some ⟨g', 0, none⟩) 1 cap').ownBlock ≠ some w.heap.size ∧ (Value.slice (some ⟨g', 0, none⟩) 1 cap').ownBlock ≠ some q ∧ (∀ gL, sa = some ⟨gL, 0, none⟩ → (Value.slice (some ⟨g', 0, none⟩) 1 cap').ownBlock ≠ some gL)) := by
          have h1 := HG7.out
          have h2 := heap_lt HK.out.2.2.1
          refine ⟨fun e => ?_, fun e => ?_, fun gL hgL e => ?_⟩
          · have e' : g' = w.heap.size := by simpa [Value.ownBlock] using e
            omega
          · have e' : g' = q := by simpa [Value.ownBlock] using e
            omega
          · have e' : g' = gL := by simpa [Value.ownBlock] using e
            have h3 := HR3.out.2 gL (by rw [hgL]; rfl)
            omega
        have VGE : Hid (∀ b, (Value.slice (some ⟨g', 0, none⟩) 1 cap').ownBlock = some b → w.heap.size ≤ b) := by
          intro k e
          have h1 := HG7.out
          have h2 := HBW.out.size
          have e' : g' = k := by simpa [Value.ownBlock] using e
          omega
        go_loopw [9, 75] (fun t9 s75 wr => ∃ (k : Nat) (s9 : Value), k ≤ L.length ∧ t9 = s9 ∧ s75 = .int .i64 (k : Int) ∧ SoFar w bf (([(a, some (b, x.cs.length))] : List Dact) ++ (L.take k).map (fun i => ((i, none) : Dact))) s9 wr ∧ Keeps (fun b => (Value.slice (some ⟨g', 0, none⟩) 1 cap').ownBlock = some b) w3 wr ∧ ((∀ b, s9.ownBlock = some b → (Value.slice (some ⟨g', 0, none⟩) 1 cap').ownBlock = some b) ∨ ∀ b, s9.ownBlock = some b → w3.heap.size ≤ b)) (fun _ t _ => leftN L.length t)
        case atStart => exact ⟨0, _, Nat.zero_le _, rfl, rfl, by simpa using SF.out, Keeps.refl _ _, .inl (fun b e => e)⟩
        case round =>
          obtain ⟨k, s9, hk, h9, rfl, hSF, hK, hob0⟩ := hrel
          replace h9 := h9.symm
          subst h9
          have hKf : wr.heap[w.heap.size]? = some (.cells #[ptr bf] 91 (0, 0)) := (hK.block _ (Nat.lt_of_lt_of_le (heap_lt HK.out.2.2.1) hz3) NV.out.1).trans ((HB3.out.block _ (heap_lt HK.out.2.2.1)).trans HK.out.2.2.1)
          have hKq : wr.heap[q]? = some (.cells #[.int .i64 (c : Int), .int .i64 (d : Int)] 37 (0, 0)) := (hK.block _ (Nat.lt_of_lt_of_le hql hz3) NV.out.2.1).trans ((HB3.out.block _ hql).trans HK.out.2.1)
          obtain ⟨C, cvs, hrow, hfns, hC, hgw⟩ := hSF
          obtain ⟨ga, cc, hv⟩ := slice_form hrow
          have hSF : SoFar w bf (([(a, some (b, x.cs.length))] : List Dact) ++ (L.take k).map (fun i => ((i, none) : Dact))) s9 wr := ⟨C, cvs, hrow, hfns, hC, hgw⟩
          have hnf : s9.ownBlock ≠ some w.heap.size := fun e => by
            rcases hob0 with h | h
            · exact NV.out.1 (h _ e)
            · have := h _ e
              have := heap_lt HK.out.2.2.1
              omega
          have hlen : (([(a, some (b, x.cs.length))] : List Dact) ++ (L.take k).map (fun i => ((i, none) : Dact))).length = ([(a, some (b, x.cs.length))] : List Dact).length + k := by simp; omega
          obtain ⟨n0, hn0⟩ : ∃ n0, (([(a, some (b, x.cs.length))] : List Dact) ++ (L.take k).map (fun i => ((i, none) : Dact))).length = n0 := ⟨_, rfl⟩
          rw [hn0] at hrow hv hlen
          have hA0 : ([(a, some (b, x.cs.length))] : List Dact).length ≤ 1 := by simp
          have hn100 : n0 < 100 := by omega
          have HLEN := hid hlen
          clear hlen
          have hzK := hK.size
          subst hv
          by_cases hlt : k < L.length
          · have hlI : (k : Int) < (L.length : Int) := by omega
            obtain ⟨hr3, hg3⟩ := HR3.out
            obtain ⟨z, hz⟩ : ∃ z, L[k]? = some z := ⟨_, List.getElem?_eq_getElem hlt⟩
            obtain ⟨gL, hgL⟩ : ∃ gL, sa = some ⟨gL, 0, none⟩ := by
              rcases row_cases hr3 with ⟨_, hl0⟩ | ⟨g, c2, hgv⟩
              · omega
              · cases hgv; exact ⟨_, rfl⟩
            subst hgL
            have cz : wr.cell? ⟨gL, k, none⟩ = some (.int .i64 (z : Int)) := by
              refine hK.cell ?_ (fun e => NV.out.2.2 gL rfl e)
              rw [hr3.cellAt k (by simp [intsV]; omega)]
              simp [intsV, hz]
            have hgl : gL < wr.heap.size := World.block_lt_of_cell? wr _ cz
            have hgne : ¬ gL = wr.heap.size := by omega
            have HF := hid hKf
            have HSF := hid (And.intro (And.intro hfns (And.intro hC hgw)) (And.intro hnf (And.intro hob0 (And.intro hK hn0))))
            have HZ := hid hz
            have hfl := heap_lt hKf
            have HROW := hid hrow
            clear hKf hKq hSF hnf hob0 hK hrow hfns hC hgw hr3 hg3 hz hn0
            go_wp2_with (at_builtin
                         refine wpList_append_own_at _ rfl _ _ 233 rfl 0 237 i0 .nilFunc 1 8 Tryz.underlying233 hi hz0 hz1 hz2 rfl (by decide) (.slice ga n0 cc) _ _ rfl ((HROW.out.alloc _).alloc _) ⟨wr.heap.size + 1, 0, none⟩ 1 1 [.func (.func 189) #[] #[ptr w.heap.size, ptr wr.heap.size]] rfl rfl (by have := cell_one_new (wr.alloc (.cells #[.int .i64 (z : Int)] 3)) (.func (.func 189) #[] #[ptr w.heap.size, ptr wr.heap.size]) 237; simpa using this) (by simp [Value.oneCell']) (by unfold maxLen; omega) (by omega) (Nat.zero_le _) ?_
                         intro v' w1 hown' hgrow _ hob
                         obtain ⟨g', cap', rfl⟩ := ownsRow_succ hown'
                         have HW := hid hown'
                         have HG := hid hgrow
                         have HOB := hid hob
                         clear hown' hgrow hob)
            obtain ⟨⟨hfns, hC, hgw⟩, hnf, hob0, hK, hn0⟩ := HSF.out
            obtain ⟨W2, hW2⟩ : ∃ W2, (wr.alloc (.cells #[.int .i64 (z : Int)] 3)).alloc (.cells #[.func (.func 189) #[] #[ptr w.heap.size, ptr wr.heap.size]] 237) = W2 := ⟨_, rfl⟩
            have hW := HW.out
            have hG := HG.out
            have hOB := HOB.out
            have hb2 : Below wr.heap.size wr W2 := by rw [← hW2]; exact ((Below.refl _ wr).alloc (Nat.le_refl _) _).alloc (by simp) _
            have hz2' : W2.heap.size = wr.heap.size + 2 := by rw [← hW2]; simp
            have xz : W2.heap[wr.heap.size]? = some (.cells #[.int .i64 (z : Int)] 3 (0, 0)) := by
              rw [← hW2, Below.heap_alloc _ _ _ (by simp)]; exact heap_alloc_new wr _
            have xf := (hb2.block _ hfl).trans HF.out
            have hvl : ∀ b, (Value.slice ga n0 cc).ownBlock = some b → b < wr.heap.size := fun b e => (HROW.out.lt b e).2
            have hob2 : (Value.slice (some ⟨g', 0, none⟩) (n0 + 1) cap').ownBlock = (Value.slice ga n0 cc).ownBlock ∨ ∃ k, (Value.slice (some ⟨g', 0, none⟩) (n0 + 1) cap').ownBlock = some k ∧ W2.heap.size ≤ k := by
              rcases hOB with e | e
              · exact .inl e
              · exact .inr ⟨_, e, by rw [← hW2]; exact Nat.le_refl _⟩
            rw [show (wr.alloc (.cells #[.int .i64 (z : Int)] 3)).alloc (.cells #[.func (.func 189) #[] #[.pointer (some ⟨w.heap.size, 0, none⟩), .pointer (some ⟨wr.heap.size, 0, none⟩)]] 237) = W2 from hW2] at hG
            have hfn : FnAt W2 (fun b => b = w.heap.size ∨ b = wr.heap.size) bf (z, none) (.func (.func 189) #[] #[ptr w.heap.size, ptr wr.heap.size]) := ⟨_, _, rfl, cell_of_heap xf 0, cell_of_heap xz 0, .inl rfl, .inr rfl⟩
            have hkG : Keeps (fun b => (Value.slice ga n0 cc).ownBlock = some b) W2 w1 := Keeps.grown hG (fun k e => .inl e)
            have htk : (([(a, some (b, x.cs.length))] : List Dact) ++ (L.take (k + 1)).map (fun i => ((i, none) : Dact))) = (([(a, some (b, x.cs.length))] : List Dact) ++ (L.take k).map (fun i => ((i, none) : Dact))) ++ [(z, none)] := by
              rw [List.take_add_one, HZ.out]
              simp
            have hpush : SoFar w bf ((([(a, some (b, x.cs.length))] : List Dact) ++ (L.take k).map (fun i => ((i, none) : Dact))) ++ [(z, none)]) (.slice (some ⟨g', 0, none⟩) (n0 + 1) cap') w1 := by
              refine SoFar.push hfns hC hgw hb2 hfn (fun b e => ?_) hG (by rw [hn0]; exact hW) hob2
              · rcases e with e | e
                · subst e
                  exact ⟨Nat.le_refl _, by omega, hnf⟩
                · subst e
                  exact ⟨by omega, by omega, fun e1 => by have := hvl _ e1; omega⟩
            have hn0k : n0 = ([(a, some (b, x.cs.length))] : List Dact).length + k := HLEN.out
            refine ⟨⟨k + 1, _, by omega, rfl, by go_num, ?_, ?_, ?_⟩, ?_⟩
            · rw [htk]; first | exact hpush | (rw [hn0k] at hpush; simpa using hpush)
            · refine (hK.trans (Keeps.of_below hb2)).trans (hkG.mono (fun b _ e => ?_))
              rcases hob0 with h | h
              · exact .inl (h b e)
              · exact .inr (h b e)
            · rcases hob2 with e | ⟨k', e, e2⟩
              · rcases hob0 with h | h
                · exact .inl (fun b e1 => h b (e ▸ e1))
                · exact .inr (fun b e1 => h b (e ▸ e1))
              · exact .inr (fun b e1 => by
                  have e3 : g' = b := by simpa [Value.ownBlock] using e1
                  have e4 : g' = k' := by simpa [Value.ownBlock] using e
                  omega)
            · show L.length - ((k : Int) + 1).toNat < L.length - ((k : Int)).toNat
              omega
          · obtain rfl : k = L.length := by omega
            have hlI : ¬ (L.length : Int) < (L.length : Int) := by omega
            have hBwr : Below w.heap.size w wr := ((Keeps.of_below (F := fun _ => False) (HBW.out.trans (HB3.out.mono HBW.out.size))).trans (hK.mono (fun b _ e => .inr (VGE.out b e)))).below
            rw [List.take_length] at hn0 hSF hfns
            have HBR := hid hBwr
            have HF := hid hKf
            have HSF := hid (And.intro hSF (And.intro (And.intro hfns (And.intro hC hgw)) (And.intro hnf hn0)))
            have hfl := heap_lt hKf
            have HROW := hid hrow
            have f0 := cell_of_heap hKf 0
            have w0' := cell_of_heap hKq 0
            have w1' := cell_of_heap hKq 1
            have hqr := heap_lt hKq
            clear hKf hKq hSF hnf hob0 hK hrow hfns hC hgw hn0 hBwr
            cases hyt : y.t with
            | false =>
              have hT : AC = ([(a, some (b, x.cs.length))] : List Dact) ++ L.map (fun i => ((i, none) : Dact)) := by rw [← HAC.out, hxt, hyt]; simp
              have HT := hid hT
              clear hT
              go_wp2
              go_ret
              obtain ⟨hSF, _, _, hn0⟩ := HSF.out
              rw [HT.out]
              refine ⟨ga, cc, ?_, ?_, HBR.out⟩
              · first | (rw [hn0]; done) | (rw [hn0]; rfl)
              · rw [hn0]; exact hSF
            | true =>
              have hT : AC = (([(a, some (b, x.cs.length))] : List Dact) ++ L.map (fun i => ((i, none) : Dact))) ++ [(c, some (0, d))] := by rw [← HAC.out, hxt, hyt]; simp
              have HT := hid hT
              clear hT
              go_wp2_with first
                | (go_at_call 187
                   refine (cut_any bf (c : Int) 0 (d : Int) _).mono ?_
                   rintro e w5 ⟨rfl, hw5⟩
                   have hb5 : Below wr.heap.size wr w5 := by
                     rw [hw5]
                     exact ((((Below.refl _ _).alloc (Nat.le_refl _) _).alloc (by simp) _).alloc (by simp; omega) _).alloc (by simp; omega) _
                   have HZ5 : Hid (w5.heap.size = wr.heap.size + 4) := by show _ = _; rw [hw5]; simp
                   have hfn := cut_fn wr bf c 0 d
                   rw [show (((wr.alloc (.cells #[ptr bf] 91)).alloc (.cells #[.int .i64 (c : Int)] 3)).alloc (.cells #[.int .i64 ((0 : Nat) : Int)] 3)).alloc (.cells #[.int .i64 (d : Int)] 3) = w5 from hw5.symm] at hfn
                   have HFN := hid hfn
                   have HB5 := hid hb5
                   have HROW5 := hid ((Keeps.of_below (F := fun _ => False) hb5).row HROW.out (fun _ _ e => e))
                   clear hw5 hfn hb5)
                | (at_builtin
                   go_loud (refine wpList_append_own_at _ rfl _ _ 233 rfl 0 237 i0 .nilFunc 1 8 Tryz.underlying233 hi hz0 hz1 hz2 rfl (by decide) (.slice ga n0 cc) _ _ rfl (HROW5.out.alloc _) ⟨w5.heap.size, 0, none⟩ 1 1 [.func (.func 198) #[] #[ptr wr.heap.size, ptr (wr.heap.size + 1), ptr (wr.heap.size + 2), ptr (wr.heap.size + 3)]] rfl rfl (cell_one_new _ _ _) (by simp [Value.oneCell']) (by unfold maxLen; omega) (by omega) (Nat.zero_le _) ?_)
                   intro v' w1 hown' hgrow _ hob
                   obtain ⟨g', cap', rfl⟩ := ownsRow_succ hown'
                   have HW := hid hown'
                   have HG := hid hgrow
                   have HOB := hid hob
                   clear hown' hgrow hob)
              go_ret
              obtain ⟨_, ⟨hfns, hC, hgw⟩, hnf, hn0⟩ := HSF.out
              rw [HT.out]
              have hW := HW.out
              have hG := HG.out
              have hOB := HOB.out
              have hz5 := HZ5.out
              have hvl : ∀ b, (Value.slice ga n0 cc).ownBlock = some b → b < wr.heap.size := fun b e => (HROW.out.lt b e).2
              have hob2 : (Value.slice (some ⟨g', 0, none⟩) (n0 + 1) cap').ownBlock = (Value.slice ga n0 cc).ownBlock ∨ ∃ k, (Value.slice (some ⟨g', 0, none⟩) (n0 + 1) cap').ownBlock = some k ∧ (w5.alloc (.cells #[.func (.func 198) #[] #[ptr wr.heap.size, ptr (wr.heap.size + 1), ptr (wr.heap.size + 2), ptr (wr.heap.size + 3)]] 237)).heap.size ≤ k := by
                rcases hOB with e | e
                · exact .inl e
                · exact .inr ⟨_, e, Nat.le_refl _⟩
              have hb6 : Below wr.heap.size wr (w5.alloc (.cells #[.func (.func 198) #[] #[ptr wr.heap.size, ptr (wr.heap.size + 1), ptr (wr.heap.size + 2), ptr (wr.heap.size + 3)]] 237)) := HB5.out.alloc HB5.out.size _
              have hpush : SoFar w bf ((([(a, some (b, x.cs.length))] : List Dact) ++ L.map (fun i => ((i, none) : Dact))) ++ [(c, some (0, d))]) (.slice (some ⟨g', 0, none⟩) (n0 + 1) cap') w1 := by
                refine SoFar.push hfns hC hgw hb6 (HFN.out.keeps (G := fun _ => False) ((Keeps.refl _ w5).alloc _) (fun _ _ e => e)) (fun b e => ?_) hG (by rw [hn0]; exact hW) hob2
                have hzr := HBR.out.size
                exact ⟨by omega, by simp; omega, fun e1 => by have := hvl _ e1; omega⟩
              refine ⟨some ⟨g', 0, none⟩, cap', ?_, ?_, ?_⟩
              · rw [List.length_append, hn0]; rfl
              · rw [List.length_append, hn0]; exact hpush
              · exact (((Keeps.of_below (F := fun _ => False) HBR.out).trans (Keeps.of_below hb6)).trans (Keeps.grown hG (fun k e => .inl (.inr (hgw k e))))).below
end
end Go.Proofs.YtabogkonklplcaaGreatDoor

namespace Go.Proofs.YtabogkonklplcaaGreatDoor
open Go.RowKit
set_option linter.unusedSimpArgs false
set_option linter.unusedVariables false
def MvLater (M : Nat) (G : Nat → Prop) (wr : World) (v : Value) (f : Mvf) : Prop := ∃ m W, MoveOk m W v f ∧ M ≤ m ∧ Keeps (fun b => b < m) W wr ∧ (∀ b, G b → b < m ∨ W.heap.size ≤ b)
theorem MvLater.now {M : Nat} {G : Nat → Prop} {wr : World} {v : Value} {f : Mvf} (h : MvLater M G wr v f) : MoveOk M wr v f := by
  obtain ⟨m, W, h1, h2, h3, _⟩ := h
  exact (h1.keeps h3 (fun b hb e => by omega)).down h2
theorem MvLater.step {M : Nat} {G G' : Nat → Prop} {wr w' : World} {v : Value} {f : Mvf} (h : MvLater M G wr v f) (hk : Keeps G wr w') (hG : ∀ b, G' b → G b ∨ wr.heap.size ≤ b) : MvLater M G' w' v f := by
  obtain ⟨m, W, h1, h2, h3, h4⟩ := h
  have hz := h3.size
  refine ⟨m, W, h1, h2, h3.trans (hk.mono (fun b _ e => h4 b e)), fun b e => ?_⟩
  rcases hG b e with e | e
  · exact h4 b e
  · exact .inr (by omega)
structure Moved (M : Nat) (F : Nat → Prop) (w1 : World) (bf : Nat) (acts : List Dact) (s' : List Nd) (fs : List Mvf) (k : Nat) (mval : Value) (wr : World) (sk : List Nd) (fs1 fs2 : List Mvf) (vs : List Value) (Fk : Nat → Prop) : Prop where
  row : wr.ownsRow 0 110 1 mval k vs
  lv : vs.length = k
  lf : fs1.length = k
  mv : ∀ (i : Nat) (v : Value) (f : Mvf), vs[i]? = some v → fs1[i]? = some f → MvLater M (fun b => Fk b ∨ mval.ownBlock = some b) wr v f
  chs : Chgs sk (acts.drop k) s' fs2
  eq : fs = fs1 ++ fs2
  wf : WF sk
  pf : PFor wr Fk bf sk
  sub : ∀ b, Fk b → F b ∨ M ≤ b
  lt : ∀ b, Fk b → b < wr.heap.size
  ge : ∀ b, mval.ownBlock = some b → M ≤ b
  ap : ∀ b, mval.ownBlock = some b → ¬ Fk b
  keeps : Keeps F w1 wr
theorem Moved.next {M : Nat} {F : Nat → Prop} {w1 wr w2 w3 : World} {bf : Nat} {acts : List Dact} {s' s2 : List Nd} {fs : List Mvf} {k : Nat} {mval mval' mv : Value} {sk : List Nd} {fs1 fs2 : List Mvf} {vs : List Value} {Fk : Nat → Prop} {f : Mvf} {m : Nat}
    (h : Moved M F w1 bf acts s' fs k mval wr sk fs1 (f :: fs2) vs Fk) (hM : w1.heap.size = M) (hc : Chgs s2 (acts.drop (k + 1)) s' fs2) (wf2 : WF s2)
    (hk : Keeps Fk wr w2) (h1 : wr.heap.size ≤ m) (h2 : m ≤ w2.heap.size) (hf : PFor w2 (fun b => Fk b ∨ (wr.heap.size ≤ b ∧ b < m)) bf s2) (hm : MoveOk m w2 mv f)
    (hg : (w2.alloc (.cells #[mv] 110)).grownBy w3 mval.ownBlock) (ho : w3.ownsRow 0 110 1 mval' (k + 1) (vs ++ [mv])) (hob : mval'.ownBlock = mval.ownBlock ∨ ∃ j, mval'.ownBlock = some j ∧ w2.heap.size < j) :
    Moved M F w1 bf acts s' fs (k + 1) mval' w3 s2 (fs1 ++ [f]) fs2 (vs ++ [mv]) (fun b => Fk b ∨ (wr.heap.size ≤ b ∧ b < m)) := by
  have hkz := h.keeps.size
  have hz2 := hk.size
  have hkA : Keeps (fun b => mval.ownBlock = some b) w2 w3 := ((Keeps.refl _ w2).alloc _).trans (Keeps.grown hg (fun j e => .inl (.inl e)))
  have hz3 := hkA.size
  have hmb : ∀ b, mval.ownBlock = some b → b < wr.heap.size := fun b e => (h.row.lt b e).2
  refine ⟨ho, by simp [h.lv], by simp [h.lf], ?_, hc, by rw [h.eq]; simp, wf2, ?_, ?_, ?_, ?_, ?_, ?_⟩
  · have old : ∀ v g, MvLater M (fun b => Fk b ∨ mval.ownBlock = some b) wr v g → MvLater M (fun b => (Fk b ∨ (wr.heap.size ≤ b ∧ b < m)) ∨ mval'.ownBlock = some b) w3 v g := by
      intro v g hv
      have e1 := hv.step (G' := fun b => Fk b ∨ mval.ownBlock = some b ∨ wr.heap.size ≤ b) (hk.mono (fun b _ e => .inl e)) (fun b e => by
        rcases e with e | e | e
        · exact .inl (.inl e)
        · exact .inl (.inr e)
        · exact .inr e)
      refine e1.step (hkA.mono (fun b _ e => .inr (.inl e))) (fun b e => ?_)
      rcases e with (e | e) | e
      · exact .inl (.inl e)
      · exact .inl (.inr (.inr e.1))
      · rcases hob with e2 | ⟨j, e2, e3⟩
        · exact .inl (.inr (.inl (e2 ▸ e)))
        · rw [e2] at e
          cases e
          exact .inr (by omega)
    have new : MvLater M (fun b => (Fk b ∨ (wr.heap.size ≤ b ∧ b < m)) ∨ mval'.ownBlock = some b) w3 mv f := by
      refine ⟨m, w2, hm, by omega, hkA.mono (fun b _ e => by have := hmb b e; omega), fun b e => ?_⟩
      rcases e with (e | e) | e
      · have := h.lt b e; exact .inl (by omega)
      · exact .inl e.2
      · rcases hob with e2 | ⟨j, e2, e3⟩
        · have := hmb b (e2 ▸ e); exact .inl (by omega)
        · rw [e2] at e
          cases e
          exact .inr (by omega)
    intro i v g hi hgi
    by_cases hlt : i < vs.length
    · rw [List.getElem?_append_left hlt] at hi
      rw [List.getElem?_append_left (by rw [h.lf, ← h.lv]; exact hlt)] at hgi
      exact old v g (h.mv i v g hi hgi)
    · rw [List.getElem?_append_right (by omega)] at hi
      rw [List.getElem?_append_right (by rw [h.lf, ← h.lv]; omega), h.lf, ← h.lv] at hgi
      obtain ⟨j, hj⟩ : ∃ j, j = i - vs.length := ⟨_, rfl⟩
      rw [← hj] at hi hgi
      cases j with
      | zero => simp at hi hgi; subst hi; subst hgi; exact new
      | succ j => simp at hi
  · exact hf.keeps hkA (fun b e e2 => by
      rcases e with e | e
      · exact h.ap b e2 e
      · have := hmb b e2; omega)
  · rintro b (e | e)
    · exact h.sub b e
    · exact .inr (by omega)
  · rintro b (e | e)
    · have := h.lt b e; omega
    · omega
  · intro b e
    rcases hob with e2 | ⟨j, e2, e3⟩
    · exact h.ge b (e2 ▸ e)
    · rw [e2] at e
      cases e
      omega
  · intro b e
    rcases hob with e2 | ⟨j, e2, e3⟩
    · rintro (e4 | e4)
      · exact h.ap b (e2 ▸ e) e4
      · have := hmb b (e2 ▸ e); omega
    · rw [e2] at e
      cases e
      rintro (e4 | e4)
      · have := h.lt _ e4; omega
      · omega
  · refine (h.keeps.trans (hk.mono (fun b _ e => ?_))).trans (hkA.mono (fun b _ e => ?_))
    · rcases h.sub b e with e | e
      · exact .inl e
      · exact .inr (by omega)
    · exact .inr (by have := h.ge b e; omega)
theorem SoFar.from {w w0 wr : World} {bf : Nat} {acts : List Dact} {v : Value} (h : SoFar w0 bf acts v wr) (hw : w.heap.size ≤ w0.heap.size) : SoFar w bf acts v wr := by
  obtain ⟨C, cvs, h1, h2, h3, h4⟩ := h
  exact ⟨C, cvs, h1, h2, fun b e => ⟨Nat.le_trans hw (h3 b e).1, (h3 b e).2⟩, fun b e => Nat.le_trans hw (h4 b e)⟩
theorem SoFar.store {w wr : World} {bf p : Nat} {acts : List Dact} {v : Value} {w0 : World} (h : SoFar w0 bf acts v wr) (hp : p < w0.heap.size ∨ wr.heap.size ≤ p) (u : Value) (k : Nat) : SoFar w0 bf acts v (wr.setCell ⟨p, k, none⟩ u) := by
  obtain ⟨C, cvs, h1, h2, h3, h4⟩ := h
  have hk : Keeps (fun b => b = p) wr (wr.setCell ⟨p, k, none⟩ u) := (Keeps.refl (fun b => b = p) wr).setCell (p := ⟨p, k, none⟩) (.inl rfl) u
  refine ⟨C, cvs, hk.row h1 (fun b e e2 => ?_), h2.keeps hk (fun b e e2 => ?_), fun b e => ⟨(h3 b e).1, by simpa using (h3 b e).2.1, (h3 b e).2.2⟩, h4⟩
  · subst e2
    have := h4 _ e
    have := (h1.lt _ e).2
    omega
  · subst e2
    have := h3 _ e
    omega
def JointDel (w : World) (bf : Nat) (acts : List Dact) (jp jq : Int) (s7 s8 : Value) (wc : World) : Prop :=
  ∃ (p : Nat) (ga : Option Addr) (c : Nat), s7 = .pointer (some ⟨p, 0, none⟩) ∧ s8 = .slice ga acts.length c ∧ wc.heap[p]? = some (.cells #[.int .i64 jp, .int .i64 jq] 37 (0, 0)) ∧ SoFar w bf acts (.slice ga acts.length c) wc ∧ Below w.heap.size w wc ∧ wc.heap[w.heap.size + 1]? = some (.cells #[.int .i64 0, .int .i64 0] 37 (0, 0)) ∧ w.heap.size + 2 ≤ p
theorem jd_set {w X w2 W0 : World} {bf p c : Nat} {ga : Option Addr} {acts : List Dact} (jp jq : Int) (hsf : SoFar X bf acts (.slice ga acts.length c) w2) (hp : w2.heap[p]? = some (.cells #[.int .i64 0, .int .i64 0] 37 (0, 0))) (hpX : p < X.heap.size) (hwX : w.heap.size ≤ X.heap.size) (hB : Below W0.heap.size W0 w2) (hb0 : Below w.heap.size w W0) (y1 : W0.heap[w.heap.size + 1]? = some (.cells #[.int .i64 0, .int .i64 0] 37 (0, 0))) (hpw : w.heap.size + 2 ≤ p) :
    JointDel w bf acts jp jq (.pointer (some ⟨p, 0, none⟩)) (.slice ga acts.length c) ((w2.setCell ⟨p, 0, none⟩ (.int .i64 jp)).setCell ⟨p, 1, none⟩ (.int .i64 jq)) := by
  have a1 := heap_setCell_same w2 _ 0 _ _ (.int .i64 jp) hp
  have a2 := heap_setCell_same _ _ 1 _ _ (.int .i64 jq) a1
  have hbw := hb0.trans (hB.mono hb0.size)
  refine ⟨p, ga, c, rfl, rfl, by rw [a2]; rfl, ((hsf.store (w := w) (.inl hpX) _ 0).store (w := w) (.inl hpX) _ 1).from hwX, ?_, ?_, hpw⟩
  · exact (((Keeps.of_below (F := fun _ => False) hbw).setCell (p := ⟨p, 0, none⟩) (.inr (by simp only; omega)) _).setCell (p := ⟨p, 1, none⟩) (.inr (by simp only; omega)) _).below
  · rw [Below.heap_setCell _ _ _ _ (by simp only; omega), Below.heap_setCell _ _ _ _ (by simp only; omega)]
    exact (hB.block _ (heap_lt y1)).trans y1
theorem jd_new {w X w2 W0 : World} {bf c : Nat} {ga : Option Addr} {acts : List Dact} (jp jq : Int) (hsf : SoFar X bf acts (.slice ga acts.length c) w2) (hwX : w.heap.size ≤ X.heap.size) (hB : Below W0.heap.size W0 w2) (hb0 : Below w.heap.size w W0) (y1 : W0.heap[w.heap.size + 1]? = some (.cells #[.int .i64 0, .int .i64 0] 37 (0, 0))) :
    JointDel w bf acts jp jq (.pointer (some ⟨w2.heap.size, 0, none⟩)) (.slice ga acts.length c) (w2.alloc (.cells #[.int .i64 jp, .int .i64 jq] 37)) := by
  have hbw := hb0.trans (hB.mono hb0.size)
  have hl := heap_lt y1
  have hz := hB.size
  have hbA : Below w2.heap.size w2 (w2.alloc (.cells #[.int .i64 jp, .int .i64 jq] 37)) := (Below.refl _ w2).alloc (Nat.le_refl _) _
  refine ⟨w2.heap.size, ga, c, rfl, rfl, heap_alloc_new w2 _, (hsf.below hbA).from hwX, hbw.alloc hbw.size _, ?_, by omega⟩
  rw [Below.heap_alloc _ _ _ (by omega)]
  exact (hB.block _ hl).trans y1
section
variable {s s' : List Nd} {F : Nat → Prop} {bf : Nat} {w : World}
set_option maxRecDepth 20000 in
set_option maxHeartbeats 4000000 in
theorem tdelete_go (hTb : ∀ W, Keeps F w W → Tabs W) (hD : PFor w F bf s) (wf : WF s) (z : Sp) (jp jq : Int) (acts : List Dact) (fs : List Mvf) (hc : Chgs s acts s' fs) (hl : acts.length ≤ 50)
    (hJ : ∀ W, Below w.heap.size w W → Calls Tryz.prog 162 #[ptr bf, spV z] W fun e w' => e = .returned (.agg #[.int .i64 jp, .int .i64 jq]) ∧ Below W.heap.size W w')
    (hA : ∀ W, Below w.heap.size w W → Calls Tryz.prog 163 #[ptr bf, spV z] W (DelPost W bf acts)) :
    Calls Tryz.prog 114 #[ptr bf, spV z] w fun e w' => ∃ mv, e = .returned (.tuple #[.agg #[.int .i64 jp, .int .i64 jq], mv, .nilIface]) ∧ Keeps F w w' ∧ PFor w' (grow F w) bf s' ∧ MoveOk w.heap.size w' mv (compF fs) := by
  obtain ⟨i0, hi, hz0, hz1, hz2⟩ := info_parts Tryz.info110
  have CJ := hid hJ
  have CA := hid hA
  have HD := hid (And.intro hD.narrow (And.intro wf (And.intro hc hTb)))
  clear hJ hA hD wf hc hTb
  go_enter Tryz.func114, Tryz.ntmps114
  go_wp2
  obtain ⟨W0, hW0⟩ : ∃ W0, (w.alloc (.cells #[.int .i64 z.a, .int .i64 z.b, .int .i64 z.c, .int .i64 z.d] 79)).alloc (.cells #[.int .i64 0, .int .i64 0] 37) = W0 := ⟨_, rfl⟩
  have hsz0 : W0.heap.size = w.heap.size + 2 := by rw [← hW0]; simp
  have hb0 : Below w.heap.size w W0 := by rw [← hW0]; exact ((Below.refl _ w).alloc (Nat.le_refl _) _).alloc (by simp) _
  have y0 : W0.heap[w.heap.size]? = some (.cells #[.int .i64 z.a, .int .i64 z.b, .int .i64 z.c, .int .i64 z.d] 79 (0, 0)) := by
    rw [← hW0, Below.heap_alloc _ _ _ (by simp), heap_alloc_new]
  have y1 : W0.heap[w.heap.size + 1]? = some (.cells #[.int .i64 0, .int .i64 0] 37 (0, 0)) := by
    have := heap_alloc_new (w.alloc (.cells #[.int .i64 z.a, .int .i64 z.b, .int .i64 z.c, .int .i64 z.d] 79)) (.cells #[.int .i64 0, .int .i64 0] 37)
    rw [World.size_alloc] at this
    rw [← hW0]; exact this
  rw [hW0]
  have s0 : W0.cell? ⟨w.heap.size, 0, none⟩ = some (.int .i64 z.a) := cell_of_heap y0 0
  have s1 : W0.cell? ⟨w.heap.size, 1, none⟩ = some (.int .i64 z.b) := cell_of_heap y0 1
  have s2 : W0.cell? ⟨w.heap.size, 2, none⟩ = some (.int .i64 z.c) := cell_of_heap y0 2
  have s3 : W0.cell? ⟨w.heap.size, 3, none⟩ = some (.int .i64 z.d) := cell_of_heap y0 3
  have hl0 := heap_lt y0
  have KEEP := hid (fun W (hB : Below W0.heap.size W0 W) => And.intro ((hB.cell (p := ⟨w.heap.size, 0, none⟩) hl0).trans s0) (And.intro ((hB.cell (p := ⟨w.heap.size, 1, none⟩) hl0).trans s1) (And.intro ((hB.cell (p := ⟨w.heap.size, 2, none⟩) hl0).trans s2) ((hB.cell (p := ⟨w.heap.size, 3, none⟩) hl0).trans s3))))
  have HY := hid (And.intro y0 (And.intro y1 (And.intro hb0 hsz0)))
  have HBA := hid ((Below.refl W0.heap.size W0).drew.alloc (Nat.le_refl _) (.cells #[.int .i64 0, .int .i64 0] 37))
  have hne0 : ¬ w.heap.size = W0.heap.size := by omega
  clear y0 y1 hb0 hW0 hsz0
  go_cut [7, 8] from 14 to 19 (fun s7 s8 wc => JointDel w bf acts jp jq s7 s8 wc)
  case first =>
    go_region_held3 (fun w' => w'.cell? ⟨w.heap.size, 0, none⟩ = some (.int .i64 z.a) ∧ w'.cell? ⟨w.heap.size, 1, none⟩ = some (.int .i64 z.b) ∧ w'.cell? ⟨w.heap.size, 2, none⟩ = some (.int .i64 z.c) ∧ w'.cell? ⟨w.heap.size, 3, none⟩ = some (.int .i64 z.d)) (first | exact KP2.out | exact KP1.out | exact KEEP.out _ (Below.refl _ W0).drew | exact KEEP.out _ HBA.out | exact KP1B.out | exact KP2B.out | exact KP2C.out | exact KPS.out _ hne1 | exact KPS.out _ hne0 | go_keep) (first
      | (go_at_call 163
         refine (CA.out _ ?_).mono ?_
         · first | exact HBW1.out | exact HBW1.out.alloc HBW1.out.size _
         rintro e w2 ⟨ga, cc, rfl, hsf, hb2⟩
         have hb2c : Below W0.heap.size W0 w2 := by
           first | exact HB1.out.trans (hb2.mono HB1.out.size) | exact (HB1.out.alloc HB1.out.size _).trans (hb2.mono (Nat.le_trans HB1.out.size (by simp)))
         have KP2 := hid (KEEP.out w2 hb2c)
         have KP2B := hid (KEEP.out _ (hb2c.alloc hb2c.size (.cells #[.int .i64 0, .int .i64 0] 37)))
         have KP2C := hid (KEEP.out _ (hb2c.alloc hb2c.size (.cells #[.int .i64 jp, .int .i64 jq] 37)))
         have KPS := hid (fun (p : Nat) (hp : ¬ w.heap.size = p) => 
           have hkS : Keeps (fun b => b = p) w2 ((w2.setCell ⟨p, 0, none⟩ (.int .i64 jp)).setCell ⟨p, 1, none⟩ (.int .i64 jq)) := ((Keeps.refl (fun b => b = p) w2).setCell (p := ⟨p, 0, none⟩) (.inl rfl) _).setCell (p := ⟨p, 1, none⟩) (.inl rfl) _
           And.intro (hkS.cell KP2.out.1 hp) (And.intro (hkS.cell KP2.out.2.1 hp) (And.intro (hkS.cell KP2.out.2.2.1 hp) (hkS.cell KP2.out.2.2.2 hp))))
         have hne2 : ¬ w.heap.size = w2.heap.size := by have := hb2c.size; omega
         have HB2 := hid hb2c
         have HSF := hid hsf
         first
           | (have hpb := (hb2.block _ (heap_lt HPA.out)).trans HPA.out
              have pb0 := cell_of_heap hpb 0
              have pb1 := cell_of_heap hpb 1
              have pf0 := frozen_of_heap hpb 0
              have pf1 := frozen_of_heap hpb 1
              have HPB := hid hpb
              clear hpb)
           | (have hpb := (hb2.block w1.heap.size (by simp)).trans (heap_alloc_new w1 (.cells #[.int .i64 0, .int .i64 0] 37))
              have pb0 := cell_of_heap hpb 0
              have pb1 := cell_of_heap hpb 1
              have pf0 := frozen_of_heap hpb 0
              have pf1 := frozen_of_heap hpb 1
              have HPB := hid hpb
              clear hpb)
           | skip
         clear hsf hb2 hb2c)
      | (go_at_call 162
         refine (CJ.out _ ?_).mono ?_
         · first | exact HY.out.2.2.1.drew | exact (HY.out.2.2.1.drew).alloc (HY.out.2.2.1.size) _ 
         rintro e w1 ⟨rfl, hb1⟩
         have hb1c : Below W0.heap.size W0 w1 := by
           first | exact ⟨hb1.os, hb1.tape, hb1.output, hb1.size, hb1.block⟩ | exact HBA.out.trans (hb1.mono HBA.out.size)
         have KP1 := hid (KEEP.out w1 hb1c)
         have KP1B := hid (KEEP.out _ (hb1c.alloc hb1c.size (.cells #[.int .i64 0, .int .i64 0] 37)))
         have hne1 : ¬ w.heap.size = w1.heap.size := by have := hb1c.size; omega
         have HB1 := hid hb1c
         have HBW1 := hid (HY.out.2.2.1.trans (hb1c.mono HY.out.2.2.1.size))
         first
           | (have hpa := (hb1.block W0.heap.size (by simp)).trans (heap_alloc_new W0.drew (.cells #[.int .i64 0, .int .i64 0] 37))
              have HPA := hid hpa
              clear hpa)
           | skip
         clear hb1 hb1c))
    all_goals
      go_wp2_with fail
      go_meet
      case rel =>
        obtain ⟨_, y1, hb0, hsz0⟩ := HY.out
        have h1 := HB1.out.size
        first
          | exact jd_new jp jq HSF.out (by first | omega | (simp; omega)) HB2.out hb0 y1
          | exact jd_set jp jq HSF.out HPB.out (by first | (simp; done) | (have := heap_lt HPA.out; omega)) (by first | omega | (simp; omega)) HB2.out hb0 y1 (by omega)
  case rest =>
    obtain ⟨p, ga, cc, rfl, rfl, hp, hsf, hbc, hr, hpw⟩ := hcut
    have r0 := cell_of_heap hr 0
    have r1 := cell_of_heap hr 1
    have rf0 := frozen_of_heap hr 0
    have rf1 := frozen_of_heap hr 1
    have p0 := cell_of_heap hp 0
    have p1 := cell_of_heap hp 1
    obtain ⟨hpf, wf, hcs, hTb⟩ := HD.out
    obtain ⟨F0, hF0⟩ : ∃ F0 : Nat → Prop, F0 = fun b => F b ∧ b < w.heap.size := ⟨_, rfl⟩
    rw [← hF0] at hpf
    have hF0l : ∀ b, F0 b → b < w.heap.size := fun b e => by rw [hF0] at e; exact e.2
    have hF0F : ∀ b, F0 b → F b := fun b e => by rw [hF0] at e; exact e.1
    have hzc := hbc.size
    have M0 : Hid (Moved wc.heap.size F0 wc bf acts s' fs 0 (.slice none 0 0) wc s [] fs [] F0) := ⟨World.ownsRow_nil _ _ _ _, rfl, rfl, fun i v f h => by simp at h, hcs, rfl, wf, hpf.below hbc, fun b e => .inl e, fun b e => by have := hF0l b e; omega, fun b e => (by cases e), fun b e => (by cases e), Keeps.refl _ _⟩
    obtain ⟨C, cvs, hrow, hfns, hC, hgw⟩ := hsf
    have HSF := hid (And.intro hrow (And.intro hfns (And.intro hC hgw)))
    have HF := hid (And.intro hF0l (And.intro hF0F hTb))
    have HBC := hid hbc
    have HPR := hid (And.intro hp hr)
    have hpl := heap_lt hp
    have hrl := heap_lt hr
    clear hpf wf hcs hTb hF0 hF0l hF0F hrow hfns hC hgw hbc hp hr HD
    go_wp2
    go_loopw [9, 22] (fun t9 t22 wr => ∃ (k : Nat) (mval : Value) (sk : List Nd) (fs1 fs2 : List Mvf) (vs : List Value) (Fk : Nat → Prop), k ≤ acts.length ∧ t9 = mval ∧ t22 = .int .i64 (k : Int) ∧ Moved wc.heap.size F0 wc bf acts s' fs k mval wr sk fs1 fs2 vs Fk) (fun _ t _ => leftN acts.length t)
    case atStart => exact ⟨0, _, _, _, _, _, _, Nat.zero_le _, rfl, rfl, M0.out⟩
    case round =>
      obtain ⟨k, mval, sk, fs1, fs2, vs, Fk, hk, h9, rfl, hMv⟩ := hrel
      replace h9 := h9.symm
      subst h9
      obtain ⟨hF0l, hF0F, hTb⟩ := HF.out
      obtain ⟨hrow, hfns, hC, hgw⟩ := HSF.out
      obtain ⟨ga2, c2, hv⟩ := slice_form hMv.row
      subst hv
      have hzw := hMv.keeps.size
      have hkw : Keeps F w wr := (Keeps.of_below HBC.out).trans (hMv.keeps.mono (fun b _ e => .inl (hF0F b e)))
      by_cases hlt : k < acts.length
      · have hlI : (k : Int) < (acts.length : Int) := by omega
        obtain ⟨act, hact⟩ : ∃ act, acts[k]? = some act := ⟨_, List.getElem?_eq_getElem hlt⟩
        obtain ⟨cv, hcv⟩ : ∃ cv, cvs[k]? = some cv := ⟨_, List.getElem?_eq_getElem (by rw [hfns.1]; exact hlt)⟩
        have hfn := (hfns.2 k act cv hact hcv).keeps hMv.keeps (fun b e e2 => by have := hF0l b e2; have := (hC b e).1; omega)
        have hdr : acts.drop k = act :: acts.drop (k + 1) := by
          obtain ⟨h1, rfl⟩ := List.getElem?_eq_some_iff.1 hact
          exact List.drop_eq_getElem_cons h1
        have hch := hMv.chs
        rw [hdr] at hch
        obtain ⟨s1, f, fs3, rfl, hc1, hc2⟩ : ∃ s1 f fs3, fs2 = f :: fs3 ∧ Chg sk act s1 f ∧ Chgs s1 (acts.drop (k + 1)) s' fs3 := by
          cases hch with
          | cons h1 h2 => exact ⟨_, _, _, rfl, h1, h2⟩
        obtain ⟨gf, lb, rfl, hent, hrun⟩ := fn_run hfn hMv.pf hc1 hMv.wf (hTb wr hkw)
        obtain ⟨gR, hgR⟩ : ∃ gR, ga = some ⟨gR, 0, none⟩ := by
          rcases row_cases hrow with ⟨_, hl0⟩ | ⟨g, c3, hgv⟩
          · omega
          · cases hgv; exact ⟨_, rfl⟩
        subst hgR
        have cz : wr.cell? ⟨gR, k, none⟩ = some (.func (.func gf) #[] lb) := by
          refine hMv.keeps.cell ?_ (fun e => by have h1 := hF0l gR e; have h2 := hgw gR rfl; omega)
          rw [hrow.cellAt k (by omega)]
          exact hcv
        have CM := hid hrun
        have HMV := hid hMv
        have HC2 := hid (And.intro hc2 (hc1.wf hMv.wf))
        clear hrun hMv hc1 hc2 hch hdr hfn hrow hfns hC hgw hF0l hF0F hTb hkw hact hcv
        go_wp2_with first
          | (go_at_fn gf
             refine CM.out.mono ?_
             clear CM
             rintro e w2 ⟨mv, m, rfl, hk2, h1, h2, hf2, hm⟩
             have hm' := hm
             obtain ⟨gm, lm, rfl, _, _⟩ := hm'.runs
             have hrow2 := hk2.row HMV.out.row (fun b e => HMV.out.ap b e)
             have HROW2 := hid hrow2
             have HT := hid (And.intro hk2 (And.intro h1 (And.intro h2 (And.intro hf2 hm))))
             clear hk2 h1 h2 hf2 hm hm' hrow2)
          | (at_builtin
             refine wpList_append_own_at _ rfl _ _ 235 rfl 0 110 i0 .nilFunc 1 8 Tryz.underlying235 hi hz0 hz1 hz2 rfl (by decide) (.slice ga2 k c2) _ _ rfl (HROW2.out.alloc _) ⟨w2.heap.size, 0, none⟩ 1 1 [.func (.func gm) #[] lm] rfl rfl (cell_one_new _ _ _) (by simp [Value.oneCell']) (by unfold maxLen; omega) (by omega) (Nat.zero_le _) ?_
             intro v' w3 hown' hgrow _ hob
             obtain ⟨g', cap', rfl⟩ := ownsRow_succ hown'
             have HW := hid hown'
             have HG := hid hgrow
             have HOB := hid hob
             clear hown' hgrow hob)
        obtain ⟨hk2, h1, h2, hf2, hm⟩ := HT.out
        have hob' : (Value.slice (some ⟨g', 0, none⟩) (k + 1) cap').ownBlock = (Value.slice ga2 k c2).ownBlock ∨ ∃ j, (Value.slice (some ⟨g', 0, none⟩) (k + 1) cap').ownBlock = some j ∧ w2.heap.size < j := by
          rcases HOB.out with e | e
          · exact .inl e
          · exact .inr ⟨_, e, by simp⟩
        have hN := Moved.next HMV.out rfl HC2.out.1 HC2.out.2 hk2 h1 h2 hf2 hm HG.out HW.out hob'
        refine ⟨⟨k + 1, _, _, _, _, _, _, by omega, rfl, by simp, hN⟩, ?_⟩
        show acts.length - ((k : Int) + 1).toNat < acts.length - ((k : Int)).toNat
        omega
      · have hkl : k = acts.length := by omega
        have hch := hMv.chs
        rw [hkl, List.drop_length] at hch
        obtain ⟨rfl, rfl⟩ : sk = s' ∧ fs2 = [] := by
          cases hch with
          | nil => exact ⟨rfl, rfl⟩
        have hfe : fs = fs1 := by rw [hMv.eq]; simp
        subst hfe
        have hlI : ¬ (k : Int) < (acts.length : Int) := by omega
        have hfl : fs.length = acts.length := by rw [hMv.lf, hkl]
        have CT := hid (fun W (hB : Below wr.heap.size wr W) => by
          have hkB := Keeps.of_below (F := fun _ => False) hB
          have hr2 := hkB.row hMv.row (fun _ _ e => e)
          have hz2 := hB.size
          have := inTurn_at (w := W) (m := w.heap.size + 2) (fs := fs) (vs := vs) (ga := ga2) (c := c2) (by rw [hMv.lf]; exact hr2) (fun b e => by have := hMv.ge b (by rw [hMv.lf] at e; exact e); omega) ⟨by rw [hMv.lv, hMv.lf], fun i v f h1 h2 => (((hMv.mv i v f h1 h2).now.keeps hkB (fun _ _ e => e)).down (by omega))⟩ (M0.out.chs.near M0.out.wf) (by omega) (by omega)
          rw [hfl] at this
          exact this)
        have q0 := hMv.keeps.cell p0 (fun e => by have h1 := hF0l p e; omega)
        have q1 := hMv.keeps.cell p1 (fun e => by have h1 := hF0l p e; omega)
        have hr4 := (hMv.keeps.block (w.heap.size + 1) hrl (fun e => by have h1 := hF0l _ e; omega)).trans HPR.out.2
        have HR4 := hid hr4
        have rg0 := cell_of_heap hr4 0
        have rg1 := cell_of_heap hr4 1
        have rh0 := frozen_of_heap hr4 0
        have rh1 := frozen_of_heap hr4 1
        have HMV := hid (And.intro hMv (And.intro hF0l (And.intro hF0F hkw)))
        have hne : ¬ p = w.heap.size + 1 := by omega
        clear hMv hch hrow hfns hC hgw hF0l hF0F hTb hr4 hkw M0 CJ CA HSF HY HBA KEEP
        clear hlt hfl
        go_wp2
        go_region_held3 (fun w' => w'.cell? ⟨p, 0, none⟩ = some (.int .i64 jp) ∧ w'.cell? ⟨p, 1, none⟩ = some (.int .i64 jq)) (first | exact KP2.out | exact KP2S.out | go_keep) ((
          go_at_call 164
          refine (CT.out _ ?_).mono ?_
          · first | exact (Below.refl _ wr).drew | exact (Below.refl _ wr)
          rintro e w2 ⟨bs, rfl, hb2, hm2⟩
          have hb2c : Below wr.heap.size wr w2 := ⟨hb2.os, hb2.tape, hb2.output, hb2.size, hb2.block⟩
          have KP2 := hid (And.intro ((hb2c.cell (p := ⟨p, 0, none⟩) (by simp only; omega)).trans q0) ((hb2c.cell (p := ⟨p, 1, none⟩) (by simp only; omega)).trans q1))
          have KP2S : Hid (((w2.setCell ⟨w.heap.size + 1, 0, none⟩ (.int .i64 jp)).setCell ⟨w.heap.size + 1, 1, none⟩ (.int .i64 jq)).cell? ⟨p, 0, none⟩ = some (.int .i64 jp) ∧ ((w2.setCell ⟨w.heap.size + 1, 0, none⟩ (.int .i64 jp)).setCell ⟨w.heap.size + 1, 1, none⟩ (.int .i64 jq)).cell? ⟨p, 1, none⟩ = some (.int .i64 jq)) := by
            have hkS : Keeps (fun b => b = w.heap.size + 1) w2 ((w2.setCell ⟨w.heap.size + 1, 0, none⟩ (.int .i64 jp)).setCell ⟨w.heap.size + 1, 1, none⟩ (.int .i64 jq)) := ((Keeps.refl (fun b => b = w.heap.size + 1) w2).setCell (p := ⟨w.heap.size + 1, 0, none⟩) (.inl rfl) _).setCell (p := ⟨w.heap.size + 1, 1, none⟩) (.inl rfl) _
            exact ⟨hkS.cell KP2.out.1 hne, hkS.cell KP2.out.2 hne⟩
          have hr5 := (hb2c.block _ (by omega)).trans HR4.out
          have rx0 := cell_of_heap hr5 0
          have rx1 := cell_of_heap hr5 1
          have ry0 := frozen_of_heap hr5 0
          have ry1 := frozen_of_heap hr5 1
          have HM2 := hid (And.intro hb2c (And.intro hm2 hr5))
          clear hb2 hm2 hb2c hr5))
        all_goals
          go_wp2
          obtain ⟨hMv, hF0l, hF0F, hkw⟩ := HMV.out
          obtain ⟨hb2, hm2, hr5⟩ := HM2.out
          have a1 := heap_setCell_same w2 _ 0 _ _ (.int .i64 jp) hr5
          have a2 := heap_setCell_same _ _ 1 _ _ (.int .i64 jq) a1
          have b0 : ((w2.setCell ⟨w.heap.size + 1, 0, none⟩ (.int .i64 jp)).setCell ⟨w.heap.size + 1, 1, none⟩ (.int .i64 jq)).cell? ⟨w.heap.size + 1, 0, none⟩ = some (.int .i64 jp) := cell_of_heap a2 0
          have b1 : ((w2.setCell ⟨w.heap.size + 1, 0, none⟩ (.int .i64 jp)).setCell ⟨w.heap.size + 1, 1, none⟩ (.int .i64 jq)).cell? ⟨w.heap.size + 1, 1, none⟩ = some (.int .i64 jq) := cell_of_heap a2 1
          try simp only [Exit.inBlock, Exit.then]
          refine bodyPost_ret (v := .tuple #[.agg #[.int .i64 jp, .int .i64 jq], .func (.func 190) #[] bs, .nilIface]) (by simp [results, Tryz.results114, go_sem, b0, b1]) rfl ?_
          have hz2 := hb2.size
          have hkS : Keeps (fun b => b = w.heap.size + 1) w2 ((w2.setCell ⟨w.heap.size + 1, 0, none⟩ (.int .i64 jp)).setCell ⟨w.heap.size + 1, 1, none⟩ (.int .i64 jq)) := ((Keeps.refl (fun b => b = w.heap.size + 1) w2).setCell (p := ⟨w.heap.size + 1, 0, none⟩) (.inl rfl) _).setCell (p := ⟨w.heap.size + 1, 1, none⟩) (.inl rfl) _
          refine ⟨_, rfl, ?_, ?_, ?_⟩
          · exact (hkw.trans (Keeps.of_below hb2)).trans (hkS.mono (fun b _ e => .inr (by omega)))
          · exact ((hMv.pf.below hb2).keeps hkS (fun b e e2 => by
              subst e2
              rcases hMv.sub _ e with e | e
              · have := hF0l _ e; omega
              · omega)).wider (fun b e => by
              rcases hMv.sub b e with e | e
              · exact .inl (hF0F b e)
              · exact .inr (by omega))
          · exact (hm2.keeps hkS (fun b h1 e => by omega)).down (by omega)
end
end Go.Proofs.YtabogkonklplcaaGreatDoor

namespace Go.Proofs.YtabogkonklplcaaGreatDoor
open Go.RowKit
set_option linter.unusedSimpArgs false
set_option linter.unusedVariables false
section
variable {w : World} {F : Nat → Prop} {bx bf bl : Nat} {sv : Value} {s s' : List Nd} {rs : List Sp}
def TDel (jp jq : Int) (f : Mvf) (F : Nat → Prop) (w : World) (bf : Nat) (s' : List Nd) (e : Ending) (w' : World) : Prop := ∃ mv, e = .returned (.tuple #[.agg #[.int .i64 jp, .int .i64 jq], mv, .nilIface]) ∧ Keeps F w w' ∧ PFor w' (grow F w) bf s' ∧ MoveOk w.heap.size w' mv f
theorem ld_before {W w2 : World} {mv : Value} {f : Mvf} (hg : GG w) (hD : PDocAt w F bx bf bl sv ⟨s, rs⟩) (hB : Below w.heap.size w W) (hk : Keeps (fun b => inner F bx bl sv b ∧ b < w.heap.size) W w2) (hf : PFor w2 (grow (fun b => inner F bx bl sv b ∧ b < w.heap.size) W) bf s') : Keeps F w w2 ∧ PDocAt w2 (grow F w) bx bf bl sv ⟨s', rs⟩ := by
  have hz := hB.size
  have h := (before_go (hg.below hB) (hD.below hB) (hk.mono (fun b _ e => e.1)) hk.size (m := w2.heap.size) (hf.narrow.wider (fun b e => by
    rcases e with ⟨e | e, e2⟩
    · exact .inl e.1
    · exact .inr ⟨e, e2⟩))).1
  refine ⟨(Keeps.of_below hB).trans (h.1.mono (fun b _ e => .inl e)), h.2.widen (fun b e => ?_)⟩
  rcases e with e | e
  · exact .inl e
  · exact .inr (by omega)
def LDel (w : World) (F : Nat → Prop) (bx bf bl : Nat) (sv : Value) (s' : List Nd) (rs : List Sp) (f : Mvf) (jp jq : Int) (s7 s8 : Value) (wc : World) : Prop :=
  ∃ (p : Nat) (mv : Value) (m : Nat), s7 = .pointer (some ⟨p, 0, none⟩) ∧ s8 = mv ∧ wc.heap[p]? = some (.cells #[.int .i64 jp, .int .i64 jq] 37 (0, 0)) ∧ Keeps F w wc ∧ PDocAt wc (grow F w) bx bf bl sv ⟨s', rs⟩ ∧ MoveOk m wc mv f ∧ w.heap.size ≤ m ∧ w.heap.size ≤ p
theorem ld_new {W w2 : World} {mv : Value} {f : Mvf} {jp jq : Int} (hg : GG w) (hD : PDocAt w F bx bf bl sv ⟨s, rs⟩) (hB : Below w.heap.size w W) (hk : Keeps (fun b => inner F bx bl sv b ∧ b < w.heap.size) W w2) (hf : PFor w2 (grow (fun b => inner F bx bl sv b ∧ b < w.heap.size) W) bf s') (hm : MoveOk W.heap.size w2 mv f) :
    LDel w F bx bf bl sv s' rs f jp jq (.pointer (some ⟨w2.heap.size, 0, none⟩)) mv (w2.alloc (.cells #[.int .i64 jp, .int .i64 jq] 37)) := by
  have hz := hB.size
  have hz2 := hk.size
  have hbA : Below w2.heap.size w2 (w2.alloc (.cells #[.int .i64 jp, .int .i64 jq] 37)) := (Below.refl _ w2).alloc (Nat.le_refl _) _
  obtain ⟨h1, h2⟩ := ld_before (mv := mv) (f := f) hg hD hB hk hf
  exact ⟨_, mv, W.heap.size, rfl, rfl, heap_alloc_new w2 _, h1.trans (Keeps.of_below hbA), h2.below hbA, hm.keeps (G := fun _ => False) (Keeps.of_below hbA) (fun _ _ e => e), hz, by omega⟩
theorem ld_set {W0 w2 : World} {mv : Value} {f : Mvf} {jp jq : Int} (hg : GG w) (hD : PDocAt w F bx bf bl sv ⟨s, rs⟩) (hB0 : Below w.heap.size w W0) (hk : Keeps (fun b => inner F bx bl sv b ∧ b < w.heap.size) (W0.alloc (.cells #[.int .i64 0, .int .i64 0] 37)) w2) (hf : PFor w2 (grow (fun b => inner F bx bl sv b ∧ b < w.heap.size) (W0.alloc (.cells #[.int .i64 0, .int .i64 0] 37))) bf s') (hm : MoveOk (W0.alloc (.cells #[.int .i64 0, .int .i64 0] 37)).heap.size w2 mv f) :
    LDel w F bx bf bl sv s' rs f jp jq (.pointer (some ⟨W0.heap.size, 0, none⟩)) mv ((w2.setCell ⟨W0.heap.size, 0, none⟩ (.int .i64 jp)).setCell ⟨W0.heap.size, 1, none⟩ (.int .i64 jq)) := by
  have hz := hB0.size
  have hz2 := hk.size
  have hzA : (W0.alloc (.cells #[.int .i64 0, .int .i64 0] 37)).heap.size = W0.heap.size + 1 := by simp
  have hp := (hk.block W0.heap.size (by simp) (fun e => by omega)).trans (heap_alloc_new W0 _)
  have a1 := heap_setCell_same w2 _ 0 _ _ (.int .i64 jp) hp
  have a2 := heap_setCell_same _ _ 1 _ _ (.int .i64 jq) a1
  have hkS : Keeps (fun b => b = W0.heap.size) w2 ((w2.setCell ⟨W0.heap.size, 0, none⟩ (.int .i64 jp)).setCell ⟨W0.heap.size, 1, none⟩ (.int .i64 jq)) := ((Keeps.refl (fun b => b = W0.heap.size) w2).setCell (p := ⟨W0.heap.size, 0, none⟩) (.inl rfl) _).setCell (p := ⟨W0.heap.size, 1, none⟩) (.inl rfl) _
  have hk3 : Keeps (fun b => inner F bx bl sv b ∧ b < w.heap.size) W0 ((w2.setCell ⟨W0.heap.size, 0, none⟩ (.int .i64 jp)).setCell ⟨W0.heap.size, 1, none⟩ (.int .i64 jq)) := (((Keeps.refl _ W0).alloc _).trans (hk.mono (fun b _ e => .inl e))).trans (hkS.mono (fun b _ e => .inr (by omega)))
  have hf3 := hf.keeps hkS (fun b e e2 => by
    rcases e with e | e <;> omega)
  obtain ⟨h1, h2⟩ := ld_before (mv := mv) (f := f) hg hD hB0 hk3 (hf3.wider (fun b e => by
    rcases e with e | e
    · exact .inl e
    · exact .inr (by omega)))
  refine ⟨_, mv, _, rfl, rfl, by rw [a2]; rfl, h1, h2, hm.keeps hkS (fun b h1 e => by omega), by omega, hz⟩
set_option maxRecDepth 20000 in
set_option maxHeartbeats 2000000 in
theorem ldelete_ok (hg : GG w) (hD : PDocAt w F bx bf bl sv ⟨s, rs⟩) (hsm : Small rs) (h6 : rs.length ≤ 6) (r : Nat) (x : Sp) (hx : rs[r]? = some x) (jp jq : Int) (f : Mvf)
    (hT : ∀ W F', Below w.heap.size w W → PFor W F' bf s → (∀ b, F' b → ¬ Hold b) → Calls Tryz.prog 114 #[ptr bf, spV x] W (TDel jp jq f F' W bf s')) :
    Calls Tryz.prog 70 #[ptr bl, .int .i64 (r : Int)] w fun e w' => e = .returned .nilIface ∧ Keeps F w w' ∧ PLies w' (grow F w) bx ⟨s', (rs.map (mvSp f)).set r ⟨jp, jq, jp, jq⟩⟩ := by
  have C := hid (lspan_ok hD r x hx)
  have c0 : w.cell? ⟨bl, 0, none⟩ = some (ptr bf) := cell_of_heap hD.list 0
  have hll := heap_lt hD.list
  have hr : r < rs.length := (List.getElem?_eq_some_iff.1 hx).1
  obtain ⟨gS, cS, hsv, hgl, -⟩ := hD.spanCells hx
  have HSV := hid hsv
  have CT := hid (fun W (hB : Below w.heap.size w W) => hT W (fun b => inner F bx bl sv b ∧ b < w.heap.size) hB (hD.nodes.narrow.below hB) (fun b e => e.1.2.2.2.2))
  have HT := hid (And.intro hg (And.intro hD (And.intro hsm hx)))
  clear hD hx hT hg hsm hsv
  go_enter Tryz.func70, Tryz.ntmps70
  go_wp2_with (
       go_at_call 69
       refine C.out.mono ?_
       rintro e w1 ⟨rfl, hb1⟩
       clear C
       obtain ⟨W0, hW0⟩ : ∃ W0, w1.alloc (.cells #[.int .i64 x.a, .int .i64 x.b, .int .i64 x.c, .int .i64 x.d] 79) = W0 := ⟨_, rfl⟩
       have HW0 := hid hW0
       have hb0 : Below w.heap.size w W0 := by rw [← hW0]; exact hb1.alloc hb1.size _
       have hs0 : W0.heap[w1.heap.size]? = some (.cells #[.int .i64 x.a, .int .i64 x.b, .int .i64 x.c, .int .i64 x.d] 79 (0, 0)) := by rw [← hW0]; exact heap_alloc_new w1 _
       have hz1 := hb1.size
       have HB0 := hid hb0
       have HS0 := hid hs0
       clear hb1 hW0 hb0 hs0)
  rw [HW0.out]
  clear HW0
  have d0 := (HB0.out.cell (p := ⟨bl, 0, none⟩) hll).trans c0
  have s0 := cell_of_heap HS0.out 0
  have s1 := cell_of_heap HS0.out 1
  have s2 := cell_of_heap HS0.out 2
  have s3 := cell_of_heap HS0.out 3
  have hl0 := heap_lt HS0.out
  have hz0 := HB0.out.size
  have hne : ¬ bl = W0.heap.size := by omega
  have hne1 : ¬ w1.heap.size = W0.heap.size := by omega
  have KEEP := hid (fun (W : World) (hK : Keeps (fun b => inner F bx bl sv b ∧ b < w.heap.size) W0 W) => And.intro (hK.cell d0 (fun e => e.1.2.2.1 rfl)) (And.intro (hK.cell s0 (fun e => Nat.not_lt.2 hz1 e.2)) (And.intro (hK.cell s1 (fun e => Nat.not_lt.2 hz1 e.2)) (And.intro (hK.cell s2 (fun e => Nat.not_lt.2 hz1 e.2)) (hK.cell s3 (fun e => Nat.not_lt.2 hz1 e.2))))))
  go_cut [6, 7, 8] from 18 to 27 (fun s6 s7 s8 wc => s6 = .nilIface ∧ LDel w F bx bf bl sv s' rs f jp jq s7 s8 wc)
  case first =>
    go_region_held3 (fun w' => w'.cell? ⟨bl, 0, none⟩ = some (ptr bf) ∧ w'.cell? ⟨w1.heap.size, 0, none⟩ = some (.int .i64 x.a) ∧ w'.cell? ⟨w1.heap.size, 1, none⟩ = some (.int .i64 x.b) ∧ w'.cell? ⟨w1.heap.size, 2, none⟩ = some (.int .i64 x.c) ∧ w'.cell? ⟨w1.heap.size, 3, none⟩ = some (.int .i64 x.d)) (first | exact KEEP.out _ HK2.out | exact KEEP.out _ (HK2.out.alloc _) | exact KEEP.out _ ((Keeps.refl _ W0).alloc _) | exact KEEP.out _ ((HK2.out.setCell (p := ⟨W0.heap.size, 0, none⟩) (.inr (Nat.le_refl _)) _).setCell (p := ⟨W0.heap.size, 1, none⟩) (.inr (Nat.le_refl _)) _) | go_keep) ((
         go_at_call 114
         refine (CT.out _ ?_).mono ?_
         · first | exact HB0.out.drew | exact HB0.out.drew.alloc HB0.out.size _
         rintro e w2 ⟨mv, rfl, hk2, hf2, hm2⟩
         obtain ⟨gm, lm, rfl, _, _⟩ := hm2.runs
         first
           | (have HK2 := hid (show Keeps (fun b => inner F bx bl sv b ∧ b < w.heap.size) W0 w2 from ⟨hk2.os, hk2.tape, hk2.output, hk2.size, hk2.block⟩))
           | (have HK2 := hid (show Keeps (fun b => inner F bx bl sv b ∧ b < w.heap.size) W0 w2 from (((Keeps.refl _ W0).alloc (.cells #[.int .i64 0, .int .i64 0] 37)).trans ((⟨hk2.os, hk2.tape, hk2.output, hk2.size, hk2.block⟩ : Keeps (fun b => inner F bx bl sv b ∧ b < w.heap.size) (W0.alloc (.cells #[.int .i64 0, .int .i64 0] 37)) w2).mono (fun b _ e => .inl e)))))
         first
           | (have hpb := (hk2.block W0.heap.size (by simp) (fun e => Nat.not_lt.2 hz0 e.2)).trans (heap_alloc_new W0.drew (.cells #[.int .i64 0, .int .i64 0] 37))
              have pb0 := cell_of_heap hpb 0
              have pb1 := cell_of_heap hpb 1
              have pf0 := frozen_of_heap hpb 0
              have pf1 := frozen_of_heap hpb 1
              clear hpb)
           | skip
         have HT2 := hid (And.intro hk2 (And.intro hf2 hm2))
         clear hk2 hf2 hm2))
    all_goals
      go_wp2_with fail
      go_meet
      case rel =>
        obtain ⟨hg, hD, _⟩ := HT.out
        obtain ⟨hk2, hf2, hm2⟩ := HT2.out
        first
          | exact ⟨rfl, ld_new (W := W0.drew) hg hD HB0.out.drew hk2 hf2 hm2⟩
          | exact ⟨rfl, ld_set (W0 := W0.drew) hg hD HB0.out.drew hk2 hf2 hm2⟩
  case rest =>
    obtain ⟨rfl, p, mv, m, rfl, h8, hp, hkc, hdc, hmc, hwm, hwp⟩ := hcut
    replace h8 := h8.symm
    subst h8
    obtain ⟨gm, lm, rfl, _, _⟩ := hmc.runs
    have hsv := HSV.out
    subst hsv
    obtain ⟨hg, hD, hsm, hx⟩ := HT.out
    have CF := hid (lfollow_go hdc (fun b e => by have := (hD.spans.lt b e).2; omega) hmc hsm h6)
    have hpl := heap_lt hp
    have hpg : ¬ p = gS := by omega
    have l1 := cell_of_heap hdc.list 0
    have l2 := cell_of_heap hdc.list 1
    have HP := hid (And.intro hp (And.intro hkc hdc))
    clear hp hkc hdc hmc hg hD hsm hx
    go_wp2_with (
      go_at_call 110
      refine CF.out.mono ?_
      rintro e w3 ⟨rfl, hk3, hd3⟩
      clear CF
      have hx' : (rs.map (mvSp f))[r]? = some (mvSp f x) := by rw [List.getElem?_map, HT.out.2.2.2]; rfl
      have hp3 := (hk3.block p hpl (fun e => hpg (Option.some.inj (show some gS = some p from e)).symm)).trans HP.out.1
      have p0 := cell_of_heap hp3 0
      have p1 := cell_of_heap hp3 1
      have k0 := cell_of_heap hd3.list 0
      have k1 := cell_of_heap hd3.list 1
      obtain ⟨q0, q1, q2, q3, qf⟩ := hd3.spanAt hx' rfl
      have qf0 := qf (r * 4)
      have qf1 := qf (r * 4 + 1)
      have qf2 := qf (r * 4 + 2)
      have qf3 := qf (r * 4 + 3)
      have H3 := hid (And.intro hk3 (And.intro hd3 hx'))
      clear hk3 hd3 hx' hp3 qf)
    go_region
    go_wp2
    go_ret
    obtain ⟨hp, hkc, hdc⟩ := HP.out
    obtain ⟨hk3, hd3, hx'⟩ := H3.out
    have hFg : F gS := (HT.out.2.1.apart gS rfl).1
    have hk : Keeps F w w3 := hkc.trans (hk3.mono (fun b _ e => .inl (HT.out.2.1.apart b e).1))
    have hd := (hd3.setAll (g := gS) (c := cS) (by simp) hx' jp jq jp jq).below (below_drewN (Below.refl _ _) 1)
    exact ⟨rfl, (((((hk.setCell (p := ⟨gS, r * 4, none⟩) (.inl hFg) _).setCell (p := ⟨gS, r * 4 + 1, none⟩) (.inl hFg) _).setCell (p := ⟨gS, r * 4 + 2, none⟩) (.inl hFg) _).setCell (p := ⟨gS, r * 4 + 3, none⟩) (.inl hFg) _).drew), _, _, _, hd⟩
end
set_option maxRecDepth 20000 in
set_option maxHeartbeats 1000000 in
theorem mdelete_ok {w : World} {F : Nat → Prop} {bx : Nat} {s s' : List Nd} {rs : List Sp} (hg : GG w) (hP : PLies w F bx ⟨s, rs⟩) (hsm : Small rs) (h6 : rs.length ≤ 6) (r : Nat) (x : Sp) (hx : rs[r]? = some x) (jp jq : Int) (f : Mvf)
    (hT : ∀ W F' bf, Below w.heap.size w W → PFor W F' bf s → (∀ W', Keeps F' W W' → Tabs W') → Calls Tryz.prog 114 #[ptr bf, spV x] W (TDel jp jq f F' W bf s')) :
    Calls Tryz.prog 37 #[ptr bx, .int .i64 (r : Int)] w (PLPost F w bx ⟨s', (rs.map (mvSp f)).set r ⟨jp, jq, jp, jq⟩⟩ (errV 0 0)) := by
  have HG := hid hg
  obtain ⟨bf, bl, sv, hD⟩ := hP
  have C := hid (ldelete_ok hg hD hsm h6 r x hx jp jq f (fun W F' hB hP hh => hT W F' bf hB hP (fun W' hk => ((hg.below hB).keeps hk (fun b h1 h2 => hh b h2 h1)).2)))
  have c1 : w.cell? ⟨bx, 1, none⟩ = some (ptr bl) := cell_of_heap hD.doc 1
  clear hD hg hx hsm hT
  go_enter Tryz.func37, Tryz.ntmps37
  go_wp2_with (first
      | (go_at_call 70; refine C.out.mono ?_; rintro e w1 ⟨rfl, hk1, hp1⟩
         have H1 := hid (And.intro hk1 hp1)
         clear hk1 hp1)
      | (go_at_call 46; refine (fault_nil _).mono ?_; rintro e w2 ⟨rfl, hb2⟩
         have H2 := hid (And.intro (H1.out.1.trans (Keeps.of_below hb2)) (H1.out.2.keeps (G := fun _ => False) (Keeps.of_below hb2) (fun _ _ e => e)))
         clear hb2))
  go_ret
  exact ⟨by simp [errV], H2.out.1, H2.out.2⟩
end Go.Proofs.YtabogkonklplcaaGreatDoor

namespace Go.Proofs.YtabogkonklplcaaGreatDoor
open Go.RowKit
set_option linter.unusedSimpArgs false
set_option linter.unusedVariables false
section
variable {s : List Nd} {rs : List Sp}
theorem pspan_ok {w : World} {F : Nat → Prop} {bx : Nat} (hg : GG w) (hP : PLies w F bx ⟨s, rs⟩) (r : Nat) (x : Sp) (hx : rs[r]? = some x) :
    Calls Tryz.prog 36 #[ptr bx, .int .i64 (r : Int)] w (PLPost F w bx ⟨s, rs⟩ (.tuple #[spV x, .nilIface])) := by
  have := mspan_of hg hP r x _ (.inl rfl) (errOf_nil 0) (fun W bf bl sv h => lspan_ok h r x hx)
  rw [show errV 0 0 = .nilIface from by simp [errV]] at this
  exact this
theorem plive_ok (wf : WF s) (x : Sp) (hs : SpIs s x) :
    ∃ v : Int, v ≤ 0 ∧ ∀ (w : World) (F : Nat → Prop) (bx : Nat), GG w → PLies w F bx ⟨s, rs⟩ → Calls Tryz.prog 26 #[ptr bx, .agg #[.int .i64 x.a, .int .i64 x.b], .agg #[.int .i64 x.c, .int .i64 x.d]] w (PLPost F w bx ⟨s, rs⟩ (.tuple #[.int .i64 v, .nilIface])) := by
  obtain ⟨h, B, u⟩ := wf.up
  obtain ⟨a, b, c, d, t, i, j, S⟩ := spIs_at wf u hs
  obtain ⟨rfl, ha, hc, ta, tc, hb, hd, hi, hj, hij⟩ := S
  refine ⟨_, ?_, fun w F bx hg hP => by
    have C := pcompare_one (rs := rs) wf u a b c d t ha hb hc hd ta tc w F bx hg hP
    rw [show errV 0 0 = .nilIface from by simp [errV]] at C
    exact C⟩
  rw [wh_at (pl_nodup wf (B + 1) t) hi, wh_at (pl_nodup wf (B + 1) t) hj]
  have : ¬ ((j : Int) < (i : Int)) := by omega
  rw [decide_eq_false this]
  unfold cmpB
  by_cases h1 : (i : Int) < (j : Int)
  · rw [decide_eq_true h1]; decide
  · rw [decide_eq_false h1]; decide
theorem Desk.call {w0 w W w' : World} {F : Nat → Prop} {bw bx : Nat} {n mine : Int} {st st' : St} (h : Desk w0 F w bw bx n mine st) (hB : Below w.heap.size w W) (hk : Keeps (fun b => F b ∧ b < w.heap.size) W w') (hl : PLies w' (grow (fun b => F b ∧ b < w.heap.size) W) bx st') : Keeps F w w' ∧ Desk w0 (grow F w) w' bw bx n mine st' :=
  ⟨(Keeps.of_below hB).trans (hk.mono (fun b _ e => .inl e.1)), h.back hB ((h.narrow.below hB).next hk hl)⟩
theorem Desk.also {w0 w w1 w2 : World} {F : Nat → Prop} {bw bx : Nat} {n mine n2 mine2 : Int} {st st2 : St} (h : Desk w0 F w bw bx n mine st) (hk : Keeps F w w1) (h2 : Keeps (grow F w) w1 w2 ∧ Desk w0 (grow (grow F w) w1) w2 bw bx n2 mine2 st2) : Keeps F w w2 ∧ Desk w0 (grow F w) w2 bw bx n2 mine2 st2 := by
  have hz := hk.size
  have hz0 := h.low.size
  have hlt := heap_lt h.at_
  refine ⟨hk.trans h2.1, h2.2.wider (fun b e => ?_) (fun e => e.elim h.out (fun e => by omega)) (fun b e => e.elim (h.ge b) (fun e => by omega))⟩
  rcases e with e | e
  · exact e
  · exact .inr (by omega)
set_option maxRecDepth 20000 in
set_option maxHeartbeats 1000000 in
theorem living_at {w0 w : World} {F : Nat → Prop} {bw bx : Nat} {N M : Int} (hg : GG w0) (wf : WF s) (hD : Desk w0 F w bw bx N M ⟨s, rs⟩) (r : Nat) (x : Sp) (hx : rs[r]? = some x) (hs : SpIs s x) :
    Calls Tryz.prog 38 #[ptr bw, .int .i64 (r : Int)] w fun e w' => e = .returned (.bool true) ∧ Keeps F w w' ∧ Desk w0 (grow F w) w' bw bx N M ⟨s, rs⟩ := by
  obtain ⟨d0, d1, d2⟩ := hD.cells
  have C1 := hid (fun W (hB : Below w.heap.size w W) => pspan_ok (rs := rs) ((hD.below hB).gg hg) (hD.narrow.below hB).doc r x hx)
  have HD := hid (And.intro hD (And.intro hg (And.intro wf hs)))
  clear hD hg wf hs
  go_enter Tryz.func38, Tryz.ntmps38
  go_wp2_with (
    go_at_call 36
    refine (C1.out _ (Below.refl _ w)).mono ?_
    rintro e w1 ⟨rfl, hk1, hl1⟩
    have H1 := hid (HD.out.1.call (Below.refl _ w) hk1 hl1)
    clear hk1 hl1)
  obtain ⟨v, hv, CL⟩ := plive_ok (rs := rs) HD.out.2.2.1 x HD.out.2.2.2
  have hD1 := H1.out.2
  have hlt1 := heap_lt hD1.at_
  obtain ⟨e0, e1, e2⟩ := hD1.cells
  obtain ⟨W, hW⟩ : ∃ W, w1.alloc (.cells #[.int .i64 x.a, .int .i64 x.b, .int .i64 x.c, .int .i64 x.d] 79) = W := ⟨_, rfl⟩
  have hWb : Below w1.heap.size w1 W := by rw [← hW]; exact (Below.refl _ w1).alloc (Nat.le_refl _) _
  have hWs : W.heap[w1.heap.size]? = some (.cells #[.int .i64 x.a, .int .i64 x.b, .int .i64 x.c, .int .i64 x.d] 79 (0, 0)) := by rw [← hW]; exact heap_alloc_new w1 _
  rw [hW]
  have C2 := hid (fun X (hB : Below w1.heap.size w1 X) => CL X _ bx ((hD1.below hB).gg HD.out.2.1) (hD1.narrow.below hB).doc)
  have g0 := (hWb.cell (p := ⟨bw, 0, none⟩) hlt1).trans e0
  have s0 := cell_of_heap hWs 0
  have s1 := cell_of_heap hWs 1
  have s2 := cell_of_heap hWs 2
  have s3 := cell_of_heap hWs 3
  have hlw := heap_lt hWs
  have KEEP := hid (fun (X : World) (hK : Keeps (fun b => grow F w b ∧ b < w1.heap.size) W X) => And.intro (hK.cell g0 (fun e => hD1.out e.1)) (And.intro (hK.cell s0 (fun e => Nat.lt_irrefl _ e.2)) (And.intro (hK.cell s1 (fun e => Nat.lt_irrefl _ e.2)) (And.intro (hK.cell s2 (fun e => Nat.lt_irrefl _ e.2)) (hK.cell s3 (fun e => Nat.lt_irrefl _ e.2))))))
  have HW := hid (And.intro hWb hD1)
  clear CL hD1 hWb hWs hW d0 d1 d2 e0 e1 e2
  go_region_held3 (fun w' => w'.cell? ⟨bw, 0, none⟩ = some (ptr bx) ∧ w'.cell? ⟨w1.heap.size, 0, none⟩ = some (.int .i64 x.a) ∧ w'.cell? ⟨w1.heap.size, 1, none⟩ = some (.int .i64 x.b) ∧ w'.cell? ⟨w1.heap.size, 2, none⟩ = some (.int .i64 x.c) ∧ w'.cell? ⟨w1.heap.size, 3, none⟩ = some (.int .i64 x.d)) (first | exact KEEP.out _ HK2.out | go_keep) ((
    go_at_call 26
    refine (C2.out _ HW.out.1.drew).mono ?_
    rintro e w2 ⟨rfl, hk2, hl2⟩
    have HK2 := hid (show Keeps (fun b => grow F w b ∧ b < w1.heap.size) W w2 from ⟨hk2.os, hk2.tape, hk2.output, hk2.size, hk2.block⟩)
    have H2 := hid (HW.out.2.call HW.out.1.drew hk2 hl2)
    clear hk2 hl2))
  all_goals
    go_wp2
    go_ret
    have hv2 : v ≤ 0 := hv
    refine ⟨?_, HD.out.1.also H1.out.1 H2.out⟩
    simp [hv2]
end
end Go.Proofs.YtabogkonklplcaaGreatDoor

namespace Go.Proofs.YtabogkonklplcaaGreatDoor
open Go.RowKit
set_option linter.unusedSimpArgs false
set_option linter.unusedVariables false
theorem Chg.size {s s' : List Nd} {a : Dact} {f : Mvf} (h : Chg s a s' f) : s'.length = s.length := by
  cases h <;> simp
theorem Chgs.size {s s' : List Nd} {ac : List Dact} {fs : List Mvf} (h : Chgs s ac s' fs) : s'.length = s.length := by
  induction h with
  | nil => rfl
  | cons c _ ih => rw [ih, c.size]
def DelR (s : List Nd) (x : Sp) (B : Nat) (s' : List Nd) (f : Mvf) (jp jq : Int) : Prop :=
  (∃ (a b d : Nat) (xa : Nd) (f1 : Mvf), x = ⟨a, b, a, d⟩ ∧ s[a]? = some xa ∧ xa.t = true ∧ b ≤ d ∧ d ≤ xa.cs.length ∧ Chg s (a, some (b, d)) s' f1 ∧ f = compF [f1] ∧ jp = a ∧ jq = b) ∨
  (∃ (a b c d t : Nat) (xa : Nd) (fs : List Mvf), x = ⟨a, b, c, d⟩ ∧ s[a]? = some xa ∧ (a ≠ c ∨ xa.t = false) ∧ IsTop s a t ∧ IsTop s c t ∧ Chgs s (delActs s B a b c d t) s' fs ∧ f = compF fs ∧
    ((c ∈ allF s (B + 1) a ∧ jp = a ∧ jq = b) ∨ (c ∉ allF s (B + 1) a ∧ ∃ (q n p m : Nat) (xj yj : Nd), JointAt s (B + 1) a c q n p m xj yj ∧ jp = p ∧ jq = (m : Int) + 1)))
theorem pdelete_ok {s : List Nd} (wf : WF s) {h : Nat → Nat} {B : Nat} (u : Up s h B) (rs : List Sp) (h6 : rs.length ≤ 6) (hrs : ∀ z ∈ rs, SpIs s z) (r : Nat) (x : Sp) (hx : rs[r]? = some x) :
    ∃ (s' : List Nd) (f : Mvf) (jp jq : Int), WF s' ∧ s'.length = s.length ∧ DelR s x B s' f jp jq ∧ (∀ z, SpIs s z → SpIs s' (mvSp f z)) ∧ PlOk s' jp jq ∧
      ∀ (w : World) (F : Nat → Prop) (bx : Nat), GG w → PLies w F bx ⟨s, rs⟩ → Calls Tryz.prog 37 #[ptr bx, .int .i64 (r : Int)] w (PLPost F w bx ⟨s', (rs.map (mvSp f)).set r ⟨jp, jq, jp, jq⟩⟩ (errV 0 0)) := by
  have hspx := hrs x (List.mem_of_getElem? hx)
  have hsm : Small rs := Small.of wf (fun z hz => (hrs z hz).ok)
  obtain ⟨a, b, c, d, t, i, j, S⟩ := spIs_at wf u hspx
  obtain ⟨rfl, ha, hc, ta, tc, hb, hd, hi, hj, hij⟩ := S
  obtain ⟨xa, hxa⟩ : ∃ x, s[a]? = some x := ⟨_, List.getElem?_eq_getElem ha⟩
  obtain ⟨xc, hxc⟩ : ∃ x, s[c]? = some x := ⟨_, List.getElem?_eq_getElem hc⟩
  by_cases hone : a = c ∧ xa.t = true
  · obtain ⟨rfl, hta⟩ := hone
    have hbd := spIs_le wf hspx
    have hdl : d ≤ xa.cs.length := by rw [sizeAt_eq hxa, sizeN_text hta] at hd; exact hd
    obtain ⟨s1, f, hcg, hf⟩ : ∃ s1 f, Chg s (a, some (b, d)) s1 f ∧ f = resizeF a b ((d - b : Nat) : Int) (([] : List ByteArray).length : Int) := ⟨_, _, .cut hxa hta hbd hdl, rfl⟩
    have hlv : SpIs s1 (mvSp (compF [f]) ⟨a, b, a, d⟩) := (Chgs.cons hcg .nil).lives spIs_lives wf hspx
    have hmv : mvSp (compF [f]) ⟨a, b, a, d⟩ = ⟨a, b, a, b⟩ := by
      rw [compF_cons, compF_nil, hf]
      unfold mvSp resizeF shiftF
      simp only [id, List.length_nil, true_and]
      by_cases hbd2 : b = d
      · subst hbd2
        simp
      · have e1 : ((b : Int) < (d : Int) ∧ (d : Int) ≤ (b : Int) + ((d - b : Nat) : Int)) := by omega
        have e2 : ¬ ((b : Int) + ((d - b : Nat) : Int) < (b : Int)) := by omega
        simp [e1, e2]
    rw [hmv] at hlv
    refine ⟨s1, compF [f], a, b, hcg.wf wf, (Chgs.cons hcg .nil).size, .inl ⟨a, b, d, xa, f, rfl, hxa, hta, hbd, hdl, hcg, rfl, rfl, rfl⟩, fun z hz => (Chgs.cons hcg .nil).lives spIs_lives wf hz, hlv.ok.1, ?_⟩
    intro w F bx hg hP
    exact mdelete_ok hg hP hsm h6 r _ hx (a : Int) (b : Int) (compF [f]) (s' := s1) (fun W F' bf hB hP hTb => tdelete_go hTb hP wf _ (a : Int) (b : Int) _ _ (.cons hcg .nil) (by simp) (fun W' hB' => by
        obtain ⟨bn, cap, pn, h⟩ := hP
        exact tjoint_in wf u (h.below hB') a b a d ha (by simp [allF])) (fun W' hB' => by
        obtain ⟨bn, cap, pn, h⟩ := hP
        exact tdeletion_one (h.below hB') a b d xa hxa hta))
  · have hacx : a ≠ c ∨ xa.t = false := by
      by_cases e : a = c
      · right
        cases ht : xa.t with
        | false => rfl
        | true => exact absurd ⟨e, ht⟩ hone
      · exact .inl e
    have hac : a ≠ c ∨ (s[a]?.map (·.t)) = some false := hacx.imp id (fun h => by rw [hxa]; simp [h])
    obtain ⟨s', fs, hcs, hF⟩ := del_there (B := B) (t := t) wf hac hc ha hb hd
    have hlen := delActs_len (B := B) (a := a) (b := b) (c := c) (d := d) wf ta.lt
    obtain ⟨jp, jq, hJP, hJR, hok⟩ : ∃ jp jq : Int,
        (∀ (w : World) (F : Nat → Prop) (bf bn cap : Nat) (pn : List PN), PForAt w F bf bn cap pn s → Calls Tryz.prog 162 #[ptr bf, spV ⟨a, b, c, d⟩] w fun e w' => e = .returned (.agg #[.int .i64 jp, .int .i64 jq]) ∧ Below w.heap.size w w') ∧
        ((c ∈ allF s (B + 1) a ∧ jp = a ∧ jq = b) ∨ (c ∉ allF s (B + 1) a ∧ ∃ (q n p m : Nat) (xj yj : Nd), JointAt s (B + 1) a c q n p m xj yj ∧ jp = p ∧ jq = (m : Int) + 1)) ∧ PlOk s' jp jq := by
      by_cases hca : c ∈ allF s (B + 1) a
      · refine ⟨a, b, fun w F bf bn cap pn h => tjoint_in wf u h a b c d ha hca, .inl ⟨hca, rfl, rfl⟩, ?_⟩
        have hel : xa.t = false := by
          rcases hacx with h | h
          · cases ht : xa.t with
            | false => rfl
            | true =>
              exfalso
              have hk : kidsOf s a = [] := by unfold kidsOf; rw [hxa]; exact (wf.elem a xa hxa).1 ht
              simp [allF, hk] at hca
              exact h hca.symm
          · exact h
        have hfi : Firsts s a b (xa.ks.take b) := ⟨xa, hxa, hel, by rw [sizeAt_eq hxa, sizeN_elem hel] at hb; exact hb, rfl⟩
        exact (hF a b _ hfi (firsts_stay wf hxa (fun m n hm hcov => start_after wf u ha ta hb hxa hm hcov))).ok
      · obtain ⟨M, hM⟩ := ta.1
        obtain ⟨q, n, p, m, xj, yj, hJ⟩ := joint_there wf ha hca M M (Nat.le_refl _) t hM (pl_node (B + 1) t (c, d) (List.mem_of_getElem? hj))
        refine ⟨p, (m : Int) + 1, fun w F bf bn cap pn h => tjoint_up wf u h a b c d ha hca hJ, .inr ⟨hca, q, n, p, m, xj, yj, hJ, rfl, rfl⟩, ?_⟩
        obtain ⟨hel, hsz⟩ := kid_size wf hJ.hy hJ.hm
        have hfi : Firsts s p (m + 1) (yj.ks.take (m + 1)) := ⟨yj, hJ.hy, hel, by rw [sizeAt_eq hJ.hy, sizeN_elem hel] at hsz; exact hsz, rfl⟩
        have := (hF p (m + 1) _ hfi (firsts_stay wf hJ.hy (fun m' n' hm' hcov => joint_after wf u ha ta hb hJ hm' hcov))).ok
        simpa using this
    refine ⟨s', compF fs, jp, jq, hcs.wf wf, hcs.size, .inr ⟨a, b, c, d, t, xa, fs, rfl, hxa, hacx, ta, tc, hcs, rfl, hJR⟩, fun z hz => hcs.lives spIs_lives wf hz, hok, ?_⟩
    intro w F bx hg hP
    exact mdelete_ok hg hP hsm h6 r _ hx jp jq (compF fs) (fun W F' bf hB hP hTb => tdelete_go hTb hP wf _ jp jq _ _ hcs hlen (fun W' hB' => by
      obtain ⟨bn, cap, pn, h⟩ := hP
      exact hJP W' _ bf bn cap pn (h.below hB')) (fun W' hB' => by
      obtain ⟨bn, cap, pn, h⟩ := hP
      exact tdeletion_many wf u (h.below hB') a b c d t xa xc hxa hxc ta tc hb hd hacx))
end Go.Proofs.YtabogkonklplcaaGreatDoor
