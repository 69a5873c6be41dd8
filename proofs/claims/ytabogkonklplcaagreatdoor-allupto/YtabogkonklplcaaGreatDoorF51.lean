import Derived.Test.YtabogkonklplcaaGreatDoorF50
import Derived.Test.YtabogkonklplcaaGreatDoorF45
import Derived.Test.YtabogkonklplcaaGreatDoorF41
import Derived.Test.YtabogkonklplcaaGreatDoorF37
import Derived.Test.YtabogkonklplcaaGreatDoorF38
import Derived.Test.YtabogkonklplcaaGreatDoorF27
import Derived.Test.YtabogkonklplcaaGreatDoorF43
import Derived.Test.YtabogkonklplcaaGreatDoorF40
import Derived.Test.YtabogkonklplcaaGreatDoorF11

/- One change behind the other, of marginref's documents. -/
namespace Go.Proofs.YtabogkonklplcaaGreatDoor
open Go.RowKit
set_option linter.unusedSimpArgs false
set_option linter.unusedVariables false

theorem Chgs.split : ∀ {ac bs : List Dact} {s s' : List Nd} {fs : List Mvf}, Chgs s (ac ++ bs) s' fs → ∃ s1 f1 f2, Chgs s ac s1 f1 ∧ Chgs s1 bs s' f2 ∧ fs = f1 ++ f2 := by
  intro ac
  induction ac with
  | nil => intro bs s s' fs h; exact ⟨s, [], fs, .nil, h, rfl⟩
  | cons a ac ih =>
    intro bs s s' fs h
    cases h with
    | cons c h2 =>
      obtain ⟨s1, f1, f2, h3, h4, rfl⟩ := ih h2
      exact ⟨s1, _, f2, .cons c h3, h4, rfl⟩

theorem compF_append (f1 f2 : List Mvf) (rs : List Sp) : rs.map (mvSp (compF (f1 ++ f2))) = (rs.map (mvSp (compF f1))).map (mvSp (compF f2)) := by
  induction f1 generalizing rs with
  | nil => rw [List.nil_append, map_nil']
  | cons f fs ih => rw [List.cons_append, map_cons', map_cons', ih]

theorem Chg.text {s s' : List Nd} {a : Dact} {f : Mvf} (h : Chg s a s' f) (n : Nat) : (s'[n]?.map (·.t)) = (s[n]?.map (·.t)) := by
  cases h with
  | @cut n0 o e x hx ht _ _ =>
    by_cases hn : n = n0
    · subst hn
      rw [List.getElem?_set_self (List.getElem?_eq_some_iff.1 hx).1, hx]
      rfl
    · rw [List.getElem?_set_ne (fun e => hn e.symm)]
  | @rem i j m x y h2 H2 hx hj hy hm hno hij _ _ =>
    rw [rem_look hx hy hij]
    cases s[n]? with
    | none => rfl
    | some z =>
      simp only [Option.map_some, Option.some.injEq]
      split
      · rfl
      · split <;> rfl
theorem Chgs.text {s s' : List Nd} {ac : List Dact} {fs : List Mvf} (h : Chgs s ac s' fs) (n : Nat) : (s'[n]?.map (·.t)) = (s[n]?.map (·.t)) := by
  induction h with
  | nil => rfl
  | cons c _ ih => rw [ih, c.text]

/-- A document that is being changed: what it is now, since w1. -/
def RSt (F0 : Nat → Prop) (w1 : World) (bd : Nat) (wr : World) (s : List Nd) (rs : List Sp) : Prop := ∃ Fk : Nat → Prop, RDoc wr Fk bd s rs ∧ (∀ b, Fk b → F0 b ∨ w1.heap.size ≤ b) ∧ Keeps F0 w1 wr

section
variable {F0 : Nat → Prop} {w1 wr : World} {bd : Nat} {s s1 : List Nd} {rs : List Sp}

theorem RSt.below {W : World} (h : RSt F0 w1 bd wr s rs) (hb : Below wr.heap.size wr W) : RSt F0 w1 bd W s rs := by
  obtain ⟨Fk, h1, h2, h3⟩ := h
  exact ⟨Fk, h1.keeps (G := fun _ => False) (Keeps.of_below hb) (fun _ _ e => e), h2, h3.trans (Keeps.of_below hb)⟩
theorem RSt.start (h : RDoc w1 F0 bd s rs) : RSt F0 w1 bd w1 s rs := ⟨F0, h, fun _ e => .inl e, Keeps.refl _ _⟩
theorem RSt.next {w2 : World} {Fk : Nat → Prop} {rs1 : List Sp} (h2 : ∀ b, Fk b → F0 b ∨ w1.heap.size ≤ b) (h3 : Keeps F0 w1 wr) (hk : Keeps Fk wr w2) (hd : RDoc w2 (fun b => Fk b ∨ wr.heap.size ≤ b) bd s1 rs1) : RSt F0 w1 bd w2 s1 rs1 := by
  have hz := h3.size
  refine ⟨_, hd, fun b e => ?_, h3.trans (hk.mono (fun b _ e => h2 b e))⟩
  rcases e with e | e
  · exact h2 b e
  · exact .inr (by omega)

theorem rst_rem {i : Nat} {f : Mvf} (h : RSt F0 w1 bd wr s rs) (hc : Chg s (i, none) s1 f) (wf : WF s) (hsp : ∀ x ∈ rs, SpOk s x) (h6 : rs.length ≤ 6) :
    Calls Tryz.prog 76 #[.pointer (some ⟨bd, 0, none⟩), .int .i64 i] wr fun e w' => e = .returned (.agg #[.int .i64 0, .int .i64 0]) ∧ RSt F0 w1 bd w' s1 (rs.map (mvSp f)) := by
  obtain ⟨Fk, ⟨bn, cap, rn, rv, hD⟩, h2, h3⟩ := h
  obtain ⟨hh, HH, u⟩ := wf.up
  cases hc with
  | @rem i j m x y hh2 H2 hx hj hy hm hno hij wf2 u2 =>
    have hyl := kids_le wf hy
    refine (rremove_any hD u i j m x y hx hj hy hm hno (by unfold lots; omega) hij _ (gone_lim wf u hx hj hy hm hij wf2 u2) wf hsp h6).mono ?_
    rintro e w' ⟨rfl, hk, hd⟩
    exact ⟨rfl, RSt.next h2 h3 hk hd⟩

theorem rst_cut {n o e : Nat} {c : Int} {f : Mvf} (h : RSt F0 w1 bd wr s rs) (hc : Chg s (n, some (o, e)) s1 f) (wf : WF s) (hsp : ∀ x ∈ rs, SpOk s x) (h6 : rs.length ≤ 6) (hce : c = ((e - o : Nat) : Int)) :
    Calls Tryz.prog 125 #[.pointer (some ⟨bd, 0, none⟩), .int .i64 n, .int .i64 o, .int .i64 c, .slice none 0 0] wr fun e w' => e = .returned (.tuple #[]) ∧ RSt F0 w1 bd w' s1 (rs.map (mvSp f)) := by
  subst hce
  obtain ⟨Fk, ⟨bn, cap, rn, rv, hD⟩, h2, h3⟩ := h
  cases hc with
  | @cut n o e x hx ht ho he =>
    have hl := (wf.chars _ _ hx).1
    refine (replace_anyR hD n o (e - o) x hx hl (by omega) (.slice none 0 0) [] (by unfold lots; simp) (World.ownsRow_nil _ _ _ _) (Small.of wf hsp) h6 (by simp)).mono ?_
    rintro e w' ⟨rfl, hk, hd⟩
    exact ⟨rfl, RSt.next h2 h3 hk hd⟩
end

end Go.Proofs.YtabogkonklplcaaGreatDoor

/- marginref's Delete: of no range, and within one text. -/
namespace Go.Proofs.YtabogkonklplcaaGreatDoor
open Go.RowKit
set_option linter.unusedSimpArgs false
set_option linter.unusedVariables false

section
variable {w : World} {F : Nat → Prop} {bd bn cap : Nat} {rn : List RN} {rv : Value} {s : List Nd} {rs : List Sp}

set_option maxRecDepth 20000 in
set_option maxHeartbeats 1000000 in
theorem rdelete_no (hD : RDocAt w F bd bn cap rn rv s rs) (r : Int) (h : r < 0 ∨ (rs.length : Int) ≤ r) :
    Calls Tryz.prog 86 #[.pointer (some ⟨bd, 0, none⟩), .int .i64 r] w fun e w' => e = .returned (rfltV r 8) ∧ Below w.heap.size w w' := by
  have CR := hid (fun W (hb : Below w.heap.size w W) => rranged_no (hD.below hb) r h)
  have h1b : ((8 : Int) == 0) = false := rfl
  have HB0 : Hid (Below w.heap.size w (w.alloc (.cells #[.int .i64 0, .int .i64 0] 32))) := (Below.refl _ w).alloc (Nat.le_refl _) _
  have HF0 := hid (heap_alloc_new w (.cells #[.int .i64 0, .int .i64 0] 32))
  clear hD h
  go_enter Tryz.func86, Tryz.ntmps86
  go_wp2_with (first
    | (go_at_call 131; refine (CR.out _ HB0.out).mono ?_; rintro e w1 ⟨rfl, hb1⟩
       have H1 := hid hb1
       have hs1 := hb1.size
       clear hb1)
    | (go_at_call 124; refine (fine_any r 8 _).mono ?_; rintro e w2 ⟨rfl, hb2⟩
       have hf2 : w2.heap[w1.heap.size]? = some (.cells #[.int .i64 r, .int .i64 8] 32 (0, 0)) := (hb2.block _ (by simp)).trans (heap_alloc_new w1 _)
       have hB2 : Below (w.alloc (.cells #[.int .i64 0, .int .i64 0] 32)).heap.size (w.alloc (.cells #[.int .i64 0, .int .i64 0] 32)) w2 := (H1.out.alloc H1.out.size _).trans (hb2.mono (Nat.le_trans H1.out.size (by simp)))
       have s1 := (hB2.block w.heap.size (by simp)).trans HF0.out
       have cf0 : w2.cell? ⟨w1.heap.size, 0, none⟩ = some (.int .i64 r) := cell_of_heap hf2 0
       have cf1 : w2.cell? ⟨w1.heap.size, 1, none⟩ = some (.int .i64 8) := cell_of_heap hf2 1
       have za0 : w2.cell? ⟨w.heap.size, 0, none⟩ = some (.int .i64 0) := cell_of_heap s1 0
       have za1 : w2.cell? ⟨w.heap.size, 1, none⟩ = some (.int .i64 0) := cell_of_heap s1 1
       have fa0 := frozen_of_heap s1 0
       have fa1 := frozen_of_heap s1 1
       have hsa := heap_lt s1
       have hsf := heap_lt hf2
       have hne : ¬ w1.heap.size = w.heap.size := by simp at hs1; omega
       have HB2 := hid (HB0.out.trans (hB2.mono HB0.out.size))
       clear hb2 hf2 hB2 s1
       rw [h1b]))
  refine bodyPost_ret (v := rfltV r 8) (by simp [results, Tryz.results86, go_sem, *]) rfl ?_
  refine ⟨rfl, ?_⟩
  have hB := HB2.out
  have hz := hB.size
  go_grown

theorem RSt.done {F : Nat → Prop} {w w1 w' : World} {bd : Nat} {s : List Nd} {rs : List Sp} (hb : Below w.heap.size w w1) (h : RSt (fun b => F b ∧ b < w.heap.size) w1 bd w' s rs) : Keeps F w w' ∧ RDoc w' (grow F w) bd s rs := by
  obtain ⟨Fk, h1, h2, h3⟩ := h
  have hz := hb.size
  refine ⟨(Keeps.of_below hb).trans (h3.mono (fun b _ e => .inl e.1)), h1.wider (fun b e => ?_)⟩
  rcases h2 b e with e | e
  · exact .inl e.1
  · exact .inr (by omega)

theorem RSt.done2 {F : Nat → Prop} {w w1 w' W : World} {bd p : Nat} {s : List Nd} {rs : List Sp} (hb : Below w.heap.size w w1) (h : RSt (fun b => F b ∧ b < w.heap.size) w1 bd w' s rs) (hp : w.heap.size ≤ p) (hp1 : p < w1.heap.size) (hk : Keeps (fun b => b = p) w' W) : Keeps F w W ∧ RDoc W (grow F w) bd s rs := by
  obtain ⟨Fk, h1, h2, h3⟩ := h
  have hz := hb.size
  refine ⟨((Keeps.of_below hb).trans (h3.mono (fun b _ e => .inl e.1))).trans (hk.mono (fun b _ e => .inr (by omega))), (h1.keeps hk (fun b e e2 => ?_)).wider (fun b e => ?_)⟩
  · subst e2
    rcases h2 _ e with e | e
    · have := e.2; omega
    · omega
  · rcases h2 b e with e | e
    · exact .inl e.1
    · exact .inr (by omega)

set_option maxRecDepth 20000 in
set_option maxHeartbeats 4000000 in
theorem rdelete_text (wf : WF s) (hD : RDocAt w F bd bn cap rn rv s rs) (r a b d : Nat) (x : Nd) (hx : rs[r]? = some ⟨a, b, a, d⟩) (hn : s[a]? = some x) (ht : x.t = true) {s1 : List Nd} {f : Mvf} (hc : Chg s (a, some (b, d)) s1 f) (hbd : b ≤ d) (hd : d ≤ x.cs.length) (hsp : ∀ z ∈ rs, SpOk s z) (h6 : rs.length ≤ 6) :
    Calls Tryz.prog 86 #[.pointer (some ⟨bd, 0, none⟩), .int .i64 (r : Int)] w fun e w' => e = .returned (rfltV 0 0) ∧ Keeps F w w' ∧ RDoc w' (grow F w) bd s1 (rs.map (mvSp f)) := by
  have hr : r < rs.length := (List.getElem?_eq_some_iff.1 hx).1
  have hcap := wf.cap
  have hal : a < s.length := (List.getElem?_eq_some_iff.1 hn).1
  have halI : (a : Int) < (s.length : Int) := by omega
  have hxl := (wf.chars _ _ hn).1
  have CR := hid (fun W (hb : Below w.heap.size w W) => rranged_ok (hD.below hb) r hr)
  have h1b : ((0 : Int) == 0) = true := rfl
  have hlt := hD.lt
  have hrv := hD.rangesCell
  have n0 := hD.nodesCell
  obtain ⟨rr, hrr, ho, c0, c1, c2, c3⟩ := hD.look hn
  rw [ht] at c0
  obtain ⟨g, rc, hrve, hgl, _, _, _, e0, e1, e2, e3, _⟩ := hD.spanCells hx
  rw [hrve] at hrv
  have HB0 : Hid (Below w.heap.size w (w.alloc (.cells #[.int .i64 0, .int .i64 0] 32))) := (Below.refl _ w).alloc (Nat.le_refl _) _
  have HF0 := hid (heap_alloc_new w (.cells #[.int .i64 0, .int .i64 0] 32))
  have CX := hid (fun W (hb : Below w.heap.size w W) => rst_cut (F0 := fun b => F b ∧ b < w.heap.size) (c := (d : Int) - (b : Int)) (RSt.start ⟨bn, cap, rn, rv, hD.narrow.below hb⟩) hc wf hsp h6 (by omega))
  clear hD hx hrr ho c1 c2 c3 wf hsp hc hn
  go_enter Tryz.func86, Tryz.ntmps86
  go_wp2_with (first
    | (go_at_call 131; refine (CR.out _ HB0.out).mono ?_; rintro e w1 ⟨rfl, hb1⟩
       have H1 := hid hb1
       have hs1 := hb1.size
       clear hb1)
    | (go_at_call 124; refine (fine_any 0 0 _).mono ?_; rintro e w2 ⟨rfl, hb2⟩
       have hf2 : w2.heap[w1.heap.size]? = some (.cells #[.int .i64 0, .int .i64 0] 32 (0, 0)) := (hb2.block _ (by simp)).trans (heap_alloc_new w1 _)
       have hB2 : Below (w.alloc (.cells #[.int .i64 0, .int .i64 0] 32)).heap.size (w.alloc (.cells #[.int .i64 0, .int .i64 0] 32)) w2 := (H1.out.alloc H1.out.size _).trans (hb2.mono (Nat.le_trans H1.out.size (by simp)))
       have s1 := (hB2.block w.heap.size (by simp)).trans HF0.out
       have HF2 := hid (And.intro hf2 s1)
       have hsa := heap_lt s1
       have hsf := heap_lt hf2
       have hne : ¬ w1.heap.size = w.heap.size := by simp at hs1; omega
       have HB2 := hid (HB0.out.trans (hB2.mono HB0.out.size))
       have d0 := (HB2.out.cell (p := ⟨bd, 1, none⟩) hlt.1).trans hrv
       have m0 := (HB2.out.cell (p := ⟨g, r * 4, none⟩) hgl).trans e0
       have m1 := (HB2.out.cell (p := ⟨g, r * 4 + 1, none⟩) hgl).trans e1
       have m2 := (HB2.out.cell (p := ⟨g, r * 4 + 2, none⟩) hgl).trans e2
       have m3 := (HB2.out.cell (p := ⟨g, r * 4 + 3, none⟩) hgl).trans e3
       obtain ⟨W3, hW3⟩ : ∃ W3, w2.alloc (.cells #[.int .i64 (a : Int), .int .i64 (b : Int), .int .i64 (a : Int), .int .i64 (d : Int)] 79) = W3 := ⟨_, rfl⟩
       have HW3 := hid hW3
       have HB3 : Hid (Below w.heap.size w W3) := by rw [← hW3]; exact HB2.out.alloc HB2.out.size _
       have HS3 : Hid (W3.heap[w2.heap.size]? = some (.cells #[.int .i64 (a : Int), .int .i64 (b : Int), .int .i64 (a : Int), .int .i64 (d : Int)] 79 (0, 0))) := by rw [← hW3]; exact heap_alloc_new w2 _
       have HF3 : Hid (W3.heap[w1.heap.size]? = some (.cells #[.int .i64 0, .int .i64 0] 32 (0, 0)) ∧ W3.heap[w.heap.size]? = some (.cells #[.int .i64 0, .int .i64 0] 32 (0, 0))) := by
         rw [← hW3, Below.heap_alloc _ _ _ hsf, Below.heap_alloc _ _ _ hsa]
         exact HF2.out
       clear hW3
       clear hb2 hf2 hB2 s1
       rw [h1b]))
  rw [HW3.out]
  clear HW3
  have hw1 : w.heap.size ≤ w1.heap.size := by simp at hs1; omega
  have k0 := (HB3.out.cell (p := ⟨bd, 0, none⟩) hlt.1).trans n0
  have k1 := (HB3.out.cell (p := ⟨bn, a * 4, none⟩) hlt.2).trans c0
  have y0 := cell_of_heap HS3.out 0
  have y1 := cell_of_heap HS3.out 1
  have y2 := cell_of_heap HS3.out 2
  have y3 := cell_of_heap HS3.out 3
  go_quiet (fail)
  go_wp2_with (
       go_at_call 125
       refine (CX.out _ (below_drewN HB3.out _)).mono ?_
       rintro e w3 ⟨rfl, h3⟩
       have H3 := hid h3
       obtain ⟨_, _, _, hk3⟩ := h3
       have hf3 := (hk3.block w1.heap.size (heap_lt HF3.out.1) (fun e => Nat.not_lt.2 hw1 e.2)).trans HF3.out.1
       have hg3 := (hk3.block w.heap.size (heap_lt HF3.out.2) (fun e => Nat.lt_irrefl _ e.2)).trans HF3.out.2
       have cf0 := cell_of_heap hf3 0
       have cf1 := cell_of_heap hf3 1
       have za0 := cell_of_heap hg3 0
       have za1 := cell_of_heap hg3 1
       have fa0 := frozen_of_heap hg3 0
       have fa1 := frozen_of_heap hg3 1
       clear hk3 hf3 hg3)
  refine bodyPost_ret (v := rfltV 0 0) (by simp [results, Tryz.results86, go_sem, *]) rfl ?_
  refine ⟨rfl, ?_⟩
  exact H3.out.done2 (below_drewN HB3.out _) (Nat.le_refl _) (heap_lt HF3.out.2) (((Keeps.refl (fun b => b = w.heap.size) w3).setCell (p := ⟨w.heap.size, 0, none⟩) (.inl rfl) _).setCell (p := ⟨w.heap.size, 1, none⟩) (.inl rfl) _)
end
end Go.Proofs.YtabogkonklplcaaGreatDoor

/- marginref's Delete, of more than one text. -/
namespace Go.Proofs.YtabogkonklplcaaGreatDoor
open Go.RowKit
set_option linter.unusedSimpArgs false
set_option linter.unusedVariables false

section
variable {w : World} {F : Nat → Prop} {bd bn cap : Nat} {rn : List RN} {rv : Value} {s : List Nd} {rs : List Sp}

theorem RSt.setAll {F0 : Nat → Prop} {W X : World} {Fk : Nat → Prop} {bd bn cap : Nat} {rn : List RN} {rv : Value} {s : List Nd} {rs : List Sp} (hD : RDocAt X Fk bd bn cap rn rv s rs) (hsub : ∀ b, Fk b → F0 b ∨ W.heap.size ≤ b) (hk : Keeps F0 W X) {q g c : Nat} (hrv : rv = .slice (some ⟨g, 0, none⟩) rs.length c) {z : Sp} (hr : rs[q]? = some z) (v0 v1 v2 v3 : Int) :
    RSt F0 W bd ((((X.setCell ⟨g, q * 4, none⟩ (.int .i64 v0)).setCell ⟨g, q * 4 + 1, none⟩ (.int .i64 v1)).setCell ⟨g, q * 4 + 2, none⟩ (.int .i64 v2)).setCell ⟨g, q * 4 + 3, none⟩ (.int .i64 v3)) s (rs.set q ⟨v0, v1, v2, v3⟩) := by
  have hF := (hD.apart g (by rw [hrv]; rfl)).1
  have hg : F0 g ∨ W.heap.size ≤ g := hsub g hF
  exact ⟨Fk, ⟨_, _, _, _, hD.setAll hrv hr v0 v1 v2 v3⟩, hsub, (((hk.setCell (p := ⟨g, q * 4, none⟩) hg _).setCell (p := ⟨g, q * 4 + 1, none⟩) hg _).setCell (p := ⟨g, q * 4 + 2, none⟩) hg _).setCell (p := ⟨g, q * 4 + 3, none⟩) hg _⟩

theorem insB_yes {s : List Nd} {L : List (Nat × Nat)} {a b c d n : Nat} {x : Nd} (hx : s[n]? = some x) (h : insB s L a b c d n = true) : 0 ≤ x.p ∧ x.p.toNat < s.length := by
  unfold insB at h
  rw [hx] at h
  simp only at h
  split at h
  · cases h
  · split at h
    · cases h
    · next y hy => exact ⟨by omega, (List.getElem?_eq_some_iff.1 hy).1⟩

set_option maxRecDepth 20000 in
set_option maxHeartbeats 40000000 in
theorem rdelete_many (wf : WF s) {h : Nat → Nat} {B : Nat} (u : Up s h B) (hD : RDocAt w F bd bn cap rn rv s rs) (r a b c d t i j : Nat) (hx : rs[r]? = some ⟨a, b, c, d⟩) (ha : a < s.length) (hc : c < s.length) (ta : IsTop s a t) (hi : (plF s (B + 1) t)[i]? = some (a, b)) (hj : (plF s (B + 1) t)[j]? = some (c, d))
    (hac : a ≠ c ∨ (s[a]?.map (·.t)) = some false) {xa : Nd} (hxa : s[a]? = some xa) {xc : Nd} (hxc : s[c]? = some xc) (hb : b ≤ sizeN xa) (hd : d ≤ sizeN xc)
    {s1 s2 s3 : List Nd} {f1 f2 f3 : List Mvf} (h1 : Chgs s (endAct s a b (csOf s a).length) s1 f1) (h2 : Chgs s1 ((leaveF s (plF s (B + 1) t) a b c d (allF s (B + 1) t)).map (fun i => ((i, none) : Dact))) s2 f2) (h3 : Chgs s2 (endAct s c 0 d) s3 f3)
    (hsp : ∀ z ∈ rs, SpIs s z) (h6 : rs.length ≤ 6) (jp jq : Int)
    (hJ : ∀ W, Below w.heap.size w W → Calls Tryz.prog 135 #[.pointer (some ⟨bd, 0, none⟩), spV ⟨a, b, c, d⟩] W fun e w' => e = .returned (.agg #[.int .i64 jp, .int .i64 jq]) ∧ Below W.heap.size W w') :
    Calls Tryz.prog 86 #[.pointer (some ⟨bd, 0, none⟩), .int .i64 (r : Int)] w fun e w' => e = .returned (rfltV 0 0) ∧ Keeps F w w' ∧ RDoc w' (grow F w) bd s3 ((rs.map (mvSp (compF (f1 ++ f2 ++ f3)))).set r ⟨jp, jq, jp, jq⟩) := by
  obtain ⟨i0, hi0, hz0, hz1, hz2⟩ := info_parts Tryz.info3
  have hr : r < rs.length := (List.getElem?_eq_some_iff.1 hx).1
  have hcap := wf.cap
  have haI : (a : Int) < (s.length : Int) := by omega
  have hcI : (c : Int) < (s.length : Int) := by omega
  have CR := hid (fun W (hb : Below w.heap.size w W) => rranged_ok (hD.below hb) r hr)
  have CT := hid (fun W (hb : Below w.heap.size w W) => top_any wf (hD.below hb) a ha)
  have CP := hid (fun W (hb : Below w.heap.size w W) => places_any wf u (B + 1) t ta.lt (by have := u.le t; omega) W (hD.below hb))
  have CA := hid (fun W (hb : Below w.heap.size w W) => rall_any wf u (B + 1) t ta.lt (by have := u.le t; omega) W (hD.below hb))
  have HLEN := Nat.le_trans (plF_le wf (B + 1) t ta.lt) (Nat.mul_le_mul_left 41 (all_length wf (B + 1) t ta.lt))
  have h1b : ((0 : Int) == 0) = true := rfl
  have hlt := hD.lt
  have hrv := hD.rangesCell
  have n0 := hD.nodesCell
  obtain ⟨rr, hrr, ho, c0, c1, c2, c3⟩ := hD.look hxa
  obtain ⟨g, rc, hrve, hgl, _, _, _, e0, e1, e2, e3, _⟩ := hD.spanCells hx
  rw [hrve] at hrv
  have HB0 : Hid (Below w.heap.size w (w.alloc (.cells #[.int .i64 0, .int .i64 0] 32))) := (Below.refl _ w).alloc (Nat.le_refl _) _
  have HF0 := hid (heap_alloc_new w (.cells #[.int .i64 0, .int .i64 0] 32))
  have HD := hid (And.intro hD (And.intro hx (And.intro hrve (And.intro wf u))))
  have HJ := hid hJ
  have HX := hid (And.intro hxa (And.intro hxc (And.intro hb hd)))
  have HC := hid (And.intro h1 (And.intro h2 (And.intro h3 hsp)))
  have HIJ := hid (And.intro hi hj)
  have TA := hid ta
  have HAC := hid hac
  clear hD hx hrr ho c1 c2 c3 wf u hsp hc hxa hxc hb hd h1 h2 h3 hJ hi hj ta hrve hac
  go_enter Tryz.func86, Tryz.ntmps86
  go_wp2_with (first
    | (go_at_call 131; refine (CR.out _ HB0.out).mono ?_; rintro e w1 ⟨rfl, hb1⟩
       have H1 := hid hb1
       have hs1 := hb1.size
       clear hb1)
    | (go_at_call 124; refine (fine_any 0 0 _).mono ?_; rintro e w2 ⟨rfl, hb2⟩
       have hf2 : w2.heap[w1.heap.size]? = some (.cells #[.int .i64 0, .int .i64 0] 32 (0, 0)) := (hb2.block _ (by simp)).trans (heap_alloc_new w1 _)
       have hB2 : Below (w.alloc (.cells #[.int .i64 0, .int .i64 0] 32)).heap.size (w.alloc (.cells #[.int .i64 0, .int .i64 0] 32)) w2 := (H1.out.alloc H1.out.size _).trans (hb2.mono (Nat.le_trans H1.out.size (by simp)))
       have s1 := (hB2.block w.heap.size (by simp)).trans HF0.out
       have HF2 := hid (And.intro hf2 s1)
       have hsa := heap_lt s1
       have hsf := heap_lt hf2
       have HB2 := hid (HB0.out.trans (hB2.mono HB0.out.size))
       have d0 := (HB2.out.cell (p := ⟨bd, 1, none⟩) hlt.1).trans hrv
       have m0 := (HB2.out.cell (p := ⟨g, r * 4, none⟩) hgl).trans e0
       have m1 := (HB2.out.cell (p := ⟨g, r * 4 + 1, none⟩) hgl).trans e1
       have m2 := (HB2.out.cell (p := ⟨g, r * 4 + 2, none⟩) hgl).trans e2
       have m3 := (HB2.out.cell (p := ⟨g, r * 4 + 3, none⟩) hgl).trans e3
       obtain ⟨W3, hW3⟩ : ∃ W3, w2.alloc (.cells #[.int .i64 (a : Int), .int .i64 (b : Int), .int .i64 (c : Int), .int .i64 (d : Int)] 79) = W3 := ⟨_, rfl⟩
       have HW3 := hid hW3
       have HB3 : Hid (Below w.heap.size w W3) := by rw [← hW3]; exact HB2.out.alloc HB2.out.size _
       have HS3 : Hid (W3.heap[w2.heap.size]? = some (.cells #[.int .i64 (a : Int), .int .i64 (b : Int), .int .i64 (c : Int), .int .i64 (d : Int)] 79 (0, 0))) := by rw [← hW3]; exact heap_alloc_new w2 _
       have HF3 : Hid (W3.heap[w1.heap.size]? = some (.cells #[.int .i64 0, .int .i64 0] 32 (0, 0)) ∧ W3.heap[w.heap.size]? = some (.cells #[.int .i64 0, .int .i64 0] 32 (0, 0))) := by
         rw [← hW3, Below.heap_alloc _ _ _ hsf, Below.heap_alloc _ _ _ hsa]
         exact HF2.out
       clear hW3
       clear hb2 hf2 hB2 s1
       rw [h1b]))
  rw [HW3.out]
  have hw12 : w.heap.size ≤ w1.heap.size ∧ w1.heap.size < w2.heap.size := by simp at hs1; omega
  have hw1s : w.heap.size < w1.heap.size := by simp at hs1; omega
  clear HW3 d0 m0 m1 m2 m3
  have k0 := (HB3.out.cell (p := ⟨bd, 0, none⟩) hlt.1).trans n0
  have k1 := (HB3.out.cell (p := ⟨bn, a * 4, none⟩) hlt.2).trans c0
  have y0 := cell_of_heap HS3.out 0
  have y1 := cell_of_heap HS3.out 1
  have y2 := cell_of_heap HS3.out 2
  have y3 := cell_of_heap HS3.out 3
  go_cut [51] from 33 to 50 (fun s51 wc => s51 = .bool false ∧ Below W3.heap.size W3 wc)
  case first =>
    rcases HAC.out with hne | htf
    · have hneI : ¬ (a : Int) = (c : Int) := by omega
      have hneD : decide ((a : Int) = (c : Int)) = false := by simpa using hneI
      go_quiet (fail)
      go_wp2
      go_meet
      case rel => exact ⟨rfl, below_drewN (Below.refl _ _) _⟩
    · rw [HX.out.1] at htf
      simp only [Option.map_some, Option.some.injEq] at htf
      rw [htf] at k1
      by_cases hne : a = c
      · subst hne
        go_quiet (fail)
        go_wp2
        go_meet
        case rel => exact ⟨rfl, below_drewN (Below.refl _ _) _⟩
      · have hneI : ¬ (a : Int) = (c : Int) := by omega
        have hneD : decide ((a : Int) = (c : Int)) = false := by simpa using hneI
        go_quiet (fail)
        go_wp2
        go_meet
        case rel => exact ⟨rfl, below_drewN (Below.refl _ _) _⟩
  case rest =>
    obtain ⟨rfl, hbc⟩ := hcut
    have HB4 := hid (HB3.out.trans (hbc.mono HB3.out.size))
    have hs4 := (hbc.block _ (heap_lt HS3.out)).trans HS3.out
    have HF4 := hid (And.intro hs4 (And.intro ((hbc.block _ (heap_lt HF3.out.1)).trans HF3.out.1) ((hbc.block _ (heap_lt HF3.out.2)).trans HF3.out.2)))
    have x0 := cell_of_heap hs4 0
    have x1 := cell_of_heap hs4 1
    have x2 := cell_of_heap hs4 2
    have x3 := cell_of_heap hs4 3
    clear k0 k1 y0 y1 y2 y3 hs4 HF3 HS3 HB3 hbc HF2 HB2 HB0 HF0 H1 hs1 e0 e1 e2 e3 c0
    go_wp2_with (first
      | (go_at_call 128; refine (CT.out _ HB7w.out).mono ?_; rintro e w8 ⟨⟨t', rfl, ht'⟩, hw8⟩
         obtain rfl := TA.out.one ht'
         replace hw8 := hw8.symm
         subst hw8
         clear ht')
      | (go_at_call 128; refine (CT.out _ HB4.out).mono ?_; rintro e w5 ⟨⟨t', rfl, ht'⟩, hw5⟩
         obtain rfl := TA.out.one ht'
         replace hw5 := hw5.symm
         subst hw5
         clear ht')
      | (go_at_call 49; refine (CA.out _ HB7w.out).mono ?_; rintro e w9 ⟨aa, ac, rfl, hr9, hb9⟩
         have HR9 := hid (And.intro hr9 hb9)
         clear hr9 hb9)
      | (go_at_call 132; refine (CP.out _ HB4.out).mono ?_; rintro e w5 ⟨la, lc, rfl, hr5, hb5⟩
         have HF5 := hid (And.intro ((hb5.block _ (heap_lt HF4.out.1)).trans HF4.out.1) (And.intro ((hb5.block _ (heap_lt HF4.out.2.1)).trans HF4.out.2.1) ((hb5.block _ (heap_lt HF4.out.2.2)).trans HF4.out.2.2)))
         have y0 := cell_of_heap HF5.out.1 0
         have y1 := cell_of_heap HF5.out.1 1
         have y2 := cell_of_heap HF5.out.1 2
         have y3 := cell_of_heap HF5.out.1 3
         have HB5 := hid (HB4.out.trans (hb5.mono HB4.out.size))
         have hr0 := ownsRow_base hr5 (Nat.zero_le _)
         have HR5 := hid hr0
         have hbl : (plF s (B + 1) t).length < lots := by unfold lots; omega
         have CWA := hid (fun W (hb : Below w5.heap.size w5 W) => where_at (plF s (B + 1) t) (.slice la (plF s (B + 1) t).length lc) a b w5 W hr0 hbl hb)
         have CWB := hid (fun W (hb : Below w5.heap.size w5 W) => where_at (plF s (B + 1) t) (.slice la (plF s (B + 1) t).length lc) c d w5 W hr0 hbl hb)
         clear hr5 hb5 hr0)
      | (go_at_call 133; refine (CWB.out _ HB6.out).mono ?_; rintro e w7 ⟨q7, rfl, hq7, hb7⟩
         obtain rfl : q7 = wh (plF s (B + 1) t) (c, d) := hq7.wh
         have HB7 := hid hb7
         have HB7w := hid (HB5.out.trans (hb7.mono HB5.out.size))
         have HF7 := hid (And.intro ((hb7.block _ (heap_lt HF5.out.1)).trans HF5.out.1) (And.intro ((hb7.block _ (heap_lt HF5.out.2.1)).trans HF5.out.2.1) ((hb7.block _ (heap_lt HF5.out.2.2)).trans HF5.out.2.2)))
         have v0 := cell_of_heap HF7.out.1 0
         have v1 := cell_of_heap HF7.out.1 1
         have v2 := cell_of_heap HF7.out.1 2
         have v3 := cell_of_heap HF7.out.1 3
         clear hb7 hq7)
      | (go_at_call 133; refine (CWA.out _ (Below.refl _ w5)).mono ?_; rintro e w6 ⟨q6, rfl, hq6, hb6⟩
         obtain rfl : q6 = wh (plF s (B + 1) t) (a, b) := hq6.wh
         have HB6 := hid hb6
         have hs6 := (hb6.block _ (heap_lt HF5.out.1)).trans HF5.out.1
         have z0 := cell_of_heap hs6 0
         have z1 := cell_of_heap hs6 1
         have z2 := cell_of_heap hs6 2
         have z3 := cell_of_heap hs6 3
         clear hb6 hq6 hs6))
    obtain ⟨L, hL⟩ : ∃ L, allF s (B + 1) t = L := ⟨_, rfl⟩
    obtain ⟨Lp, hLp⟩ : ∃ Lp, plF s (B + 1) t = Lp := ⟨_, rfl⟩
    have hR9 := HR9.out
    rw [hL] at hR9 ⊢
    rw [hLp]
    have hR5 := HR5.out
    rw [hLp] at hbl hR5
    have hLm : ∀ n ∈ L, n < s.length := by rw [← hL]; exact all_lt HD.out.2.2.2.1 (B + 1) t TA.out.lt
    have hL40 : L.length ≤ 40 := by rw [← hL]; exact all_length HD.out.2.2.2.1 (B + 1) t TA.out.lt
    have HLL := hid (And.intro hL hLp)
    have HB9 := hid (HB7.out.trans (hR9.2.mono HB7.out.size))
    have HB9w := hid (HB7w.out.trans (hR9.2.mono HB7w.out.size))
    have HF9 := hid (And.intro ((hR9.2.block _ (heap_lt HF7.out.1)).trans HF7.out.1) (And.intro ((hR9.2.block _ (heap_lt HF7.out.2.1)).trans HF7.out.2.1) ((hR9.2.block _ (heap_lt HF7.out.2.2)).trans HF7.out.2.2)))
    have HRA := hid (ownsRow_base hR9.1 (Nat.zero_le _))
    have HRP := hid ((Keeps.of_below (F := fun _ => False) HB9.out).row hR5 (fun _ _ e => e))
    clear hR9 hR5 hL hLp HR9 HR5 HB6 HB7 CWA CWB x0 x1 x2 x3 y0 y1 y2 y3 z0 z1 z2 z3 v0 v1 v2 v3 HF5 HF7 HF4 HB4 HB5 CT CP CA CR HB7w HLEN
    go_loopw [11, 13] (fun t11 t13 wr => ∃ (k : Nat) (lv : Value), k ≤ L.length ∧ t11 = lv ∧ t13 = .int .i64 (k : Int) ∧ wr.ownsRow w9.heap.size 3 1 lv (leaveF s Lp a b c d (L.take k)).length (intsV (leaveF s Lp a b c d (L.take k))) ∧ Below w9.heap.size w9 wr) (fun _ t _ => leftN L.length t)
    case atStart => exact ⟨0, _, Nat.zero_le _, rfl, rfl, World.ownsRow_nil _ _ _ _, Below.refl _ _⟩
    case round =>
      obtain ⟨k, lv, hk, h11, rfl, hrow, hbr⟩ := hrel
      replace h11 := h11.symm
      subst h11
      obtain ⟨gl, cl, hv⟩ := slice_form' hrow
      subst hv
      have hbw : Below w.heap.size w wr := HB9w.out.trans (hbr.mono HB9w.out.size)
      by_cases hlt : k < L.length
      · have hltI : (k : Int) < (L.length : Int) := by omega
        obtain ⟨n, hn⟩ : ∃ n, L[k]? = some n := ⟨_, List.getElem?_eq_getElem hlt⟩
        have hns : n < s.length := hLm n (List.mem_of_getElem? hn)
        have hnI : (n : Int) < (s.length : Int) := by omega
        obtain ⟨x, hx⟩ : ∃ x, s[n]? = some x := ⟨_, List.getElem?_eq_getElem hns⟩
        have htk : L.take (k + 1) = L.take k ++ [n] := by rw [List.take_add_one, hn]; rfl
        have hlv := leaveF_snoc s Lp a b c d (L.take k) n
        rw [← htk] at hlv
        have hll : (leaveF s Lp a b c d (L.take k)).length ≤ 40 := Nat.le_trans (leave_len _ _ _ _ _ _ _) (by rw [List.length_take]; omega)
        have hra := (Keeps.of_below (F := fun _ => False) hbr).row HRA.out (fun _ _ e => e)
        have hrp := (Keeps.of_below (F := fun _ => False) hbr).row HRP.out (fun _ _ e => e)
        obtain ⟨gA, hgA⟩ : ∃ gA, aa = some ⟨gA, 0, none⟩ := by
          rcases row_cases hra with ⟨_, hl0⟩ | ⟨g, c3, hgv⟩
          · omega
          · cases hgv; exact ⟨_, rfl⟩
        subst hgA
        have cA : wr.cell? ⟨gA, k, none⟩ = some (.int .i64 (n : Int)) := by
          rw [hra.cellAt k (by omega)]
          simp [intsV, hn]
        have hgA9 : gA < wr.heap.size := (hra.lt gA rfl).2
        have hDr := HD.out.1.below hbw
        have CI := hid (fun (m : Nat) (hm : m < s.length) W (hB : Below wr.heap.size wr W) => rinside_any HD.out.2.2.2.1 (hDr.below hB) Lp (.slice la Lp.length lc) a b c d m hm ((Keeps.of_below (F := fun _ => False) hB).row hrp (fun _ _ e => e)) hbl)
        obtain ⟨rr2, hrr2, ho2, q0, q1, q2, q3⟩ := hDr.look hx
        have qn := hDr.nodesCell
        have hlr := hDr.lt
        have HROW := hid hrow
        have HBR := hid hbr
        have HLV := hid hlv
        clear hra hrp hDr hrr2 ho2 q0 q1 q2 hrow hbr htk hlv hbw
        cases hin : insB s Lp a b c d n with
        | false =>
          go_wp2_with (
            go_at_call 134
            refine (CI.out n hns _ (Below.refl _ _)).mono ?_
            rintro e w10 ⟨rfl, hb10⟩
            rw [hin]
            have HB10 := hid hb10
            clear hb10)
          go_roundw
          case rel =>
            have hg : goesB s Lp a b c d n = false := by unfold goesB; rw [hin]; rfl
            refine ⟨k + 1, _, by omega, rfl, by simp, ?_, HBR.out.trans (HB10.out.mono HBR.out.size)⟩
            have := HLV.out
            rw [hg] at this
            simp only [Bool.false_eq_true, if_false, List.append_nil] at this
            rw [this]
            exact (Keeps.of_below (F := fun _ => False) HB10.out).rowB HROW.out (fun _ _ e => e)
          case measure =>
            show L.length - ((k : Int) + 1).toNat < L.length - ((k : Int)).toNat
            omega
        | true =>
          obtain ⟨hp0, hpl⟩ := insB_yes hx hin
          obtain ⟨p, hp⟩ : ∃ p : Nat, x.p = (p : Int) := ⟨x.p.toNat, by omega⟩
          have hps : p < s.length := by rw [hp] at hpl; simpa using hpl
          rw [hp] at q3
          cases hup : insB s Lp a b c d p with
          | true =>
            go_wp2_with (
                 go_at_call 134
                 refine (CI.out n hns _ (Below.refl _ _)).mono ?_
                 rintro e w10 ⟨rfl, hb10⟩
                 rw [hin]
                 have HB10 := hid hb10
                 have cA1 := (hb10.cell (p := ⟨gA, k, none⟩) hgA9).trans cA
                 have qn1 := (hb10.cell (p := ⟨bd, 0, none⟩) hlr.1).trans qn
                 have q31 := (hb10.cell (p := ⟨bn, n * 4 + 3, none⟩) hlr.2).trans q3
                 clear hb10)
            go_region_held3 (fun w' => w'.cell? ⟨bd, 0, none⟩ = some (.slice (some ⟨bn, 0, none⟩) s.length cap) ∧ w'.cell? ⟨gA, k, none⟩ = some (.int .i64 (n : Int)) ∧ w'.cell? ⟨bn, n * 4 + 3, none⟩ = some (.int .i64 (p : Int))) (first | exact KP.out | go_keep) ((
                 go_at_call 134
                 refine (CI.out p hps _ HB10.out.drew).mono ?_
                 rintro e w11 ⟨rfl, hb11⟩
                 rw [hup]
                 have HB11 := hid (HB10.out.trans ((show Below w10.heap.size w10 w11 from ⟨hb11.os, hb11.tape, hb11.output, hb11.size, hb11.block⟩).mono HB10.out.size))
                 have KP := hid (And.intro ((HB11.out.cell (p := ⟨bd, 0, none⟩) hlr.1).trans qn) (And.intro ((HB11.out.cell (p := ⟨gA, k, none⟩) hgA9).trans cA) ((HB11.out.cell (p := ⟨bn, n * 4 + 3, none⟩) hlr.2).trans q3)))
                 clear hb11))
            go_wp2
            go_roundw
            case rel =>
              have hg : goesB s Lp a b c d n = false := by unfold goesB; rw [show parOf s n = x.p by unfold parOf; rw [hx], hp]; simp [hup]
              refine ⟨k + 1, _, by omega, rfl, by simp, ?_, HBR.out.trans (HB11.out.mono HBR.out.size)⟩
              have := HLV.out
              rw [hg] at this
              simp only [Bool.false_eq_true, if_false, List.append_nil] at this
              rw [this]
              exact (Keeps.of_below (F := fun _ => False) HB11.out).rowB HROW.out (fun _ _ e => e)
            case measure =>
              show L.length - ((k : Int) + 1).toNat < L.length - ((k : Int)).toNat
              omega
          | false =>
            obtain ⟨n9, hn9⟩ : ∃ n9, (leaveF s Lp a b c d (L.take k)).length = n9 := ⟨_, rfl⟩
            rw [hn9] at hll ⊢
            have hROW := HROW.out
            rw [hn9] at hROW
            have HROW2 := hid hROW
            clear hROW
            have hz9 := HBR.out.size
            go_wp2_with (
                 go_at_call 134
                 refine (CI.out n hns _ (Below.refl _ _)).mono ?_
                 rintro e w10 ⟨rfl, hb10⟩
                 rw [hin]
                 have HB10 := hid hb10
                 have cA1 := (hb10.cell (p := ⟨gA, k, none⟩) hgA9).trans cA
                 have qn1 := (hb10.cell (p := ⟨bd, 0, none⟩) hlr.1).trans qn
                 have q31 := (hb10.cell (p := ⟨bn, n * 4 + 3, none⟩) hlr.2).trans q3
                 clear hb10)
            go_region_held3 (fun w' => w'.cell? ⟨bd, 0, none⟩ = some (.slice (some ⟨bn, 0, none⟩) s.length cap) ∧ w'.cell? ⟨gA, k, none⟩ = some (.int .i64 (n : Int)) ∧ w'.cell? ⟨bn, n * 4 + 3, none⟩ = some (.int .i64 (p : Int))) (first | exact KP.out | go_keep) ((
                 go_at_call 134
                 refine (CI.out p hps _ HB10.out.drew).mono ?_
                 rintro e w11 ⟨rfl, hb11⟩
                 rw [hup]
                 have HB11 := hid (HB10.out.trans ((show Below w10.heap.size w10 w11 from ⟨hb11.os, hb11.tape, hb11.output, hb11.size, hb11.block⟩).mono HB10.out.size))
                 have KP := hid (And.intro ((HB11.out.cell (p := ⟨bd, 0, none⟩) hlr.1).trans qn) (And.intro ((HB11.out.cell (p := ⟨gA, k, none⟩) hgA9).trans cA) ((HB11.out.cell (p := ⟨bn, n * 4 + 3, none⟩) hlr.2).trans q3)))
                 have cA2 := (HB11.out.cell (p := ⟨gA, k, none⟩) hgA9).trans cA
                 have HROW3 := hid ((Keeps.of_below (F := fun _ => False) HB11.out).rowB HROW2.out (fun _ _ e => e))
                 have hz11 := HB11.out.size
                 clear hb11))
            go_wp2_with (
                 at_builtin
                 refine wpList_append_own_at _ rfl _ _ 24 rfl w9.heap.size 3 i0 (.int .i64 0) 1 8 Tryz.underlying24 hi0 hz0 hz1 hz2 rfl (by decide) (.slice gl n9 cl) _ _ rfl (HROW3.out.alloc _) ⟨w11.heap.size, 0, none⟩ 1 1 [.int .i64 (n : Int)] rfl rfl (cell_one_new _ _ _) (by simp [Value.oneCell']) (by unfold maxLen; omega) (by omega) (by simp; omega) ?_
                 intro v' w12 hown' hgrow _ hob
                 obtain ⟨g', cap', rfl⟩ := ownsRow_succ hown'
                 have HW := hid hown'
                 have HG := hid hgrow
                 clear hown' hgrow hob)
            go_roundw
            case rel =>
              have hg : goesB s Lp a b c d n = true := by unfold goesB; rw [show parOf s n = x.p by unfold parOf; rw [hx], hp, hin]; simp [hup]
              have := HLV.out
              rw [hg] at this
              simp only [if_true] at this
              refine ⟨k + 1, _, by omega, rfl, by simp, ?_, ?_⟩
              · rw [this, List.length_append, hn9]
                have e1 : intsV (leaveF s Lp a b c d (L.take k) ++ [n]) = intsV (leaveF s Lp a b c d (L.take k)) ++ [.int .i64 (n : Int)] := by simp [intsV]
                rw [e1]
                exact HW.out
              · have hkA : Keeps (fun b => w9.heap.size ≤ b) wr w12 := ((Keeps.of_below HB11.out).alloc _).trans (Keeps.grown HG.out (fun j e => .inl (.inl (HROW2.out.lt j e).1)))
                have hk2 : Keeps (fun _ => False) w9 w12 := (Keeps.of_below HBR.out).trans (hkA.mono (fun b _ e => .inr e))
                exact hk2.below
            case measure =>
              show L.length - ((k : Int) + 1).toNat < L.length - ((k : Int)).toNat
              omega
      · have hkl : k = L.length := by omega
        subst hkl
        have hltI : ¬ (L.length : Int) < (L.length : Int) := by omega
        rw [List.take_length] at hrow ⊢
        have hF9 := HF9.out
        have hs9 := (hbr.block _ (heap_lt hF9.1)).trans hF9.1
        have HFr := hid (And.intro hs9 (And.intro ((hbr.block _ (heap_lt hF9.2.1)).trans hF9.2.1) ((hbr.block _ (heap_lt hF9.2.2)).trans hF9.2.2)))
        have x0 := cell_of_heap hs9 0
        have x1 := cell_of_heap hs9 1
        have x2 := cell_of_heap hs9 2
        have x3 := cell_of_heap hs9 3
        have HROW := hid hrow
        have HBR := hid hbr
        have HBW := hid hbw
        have CJ := hid (HJ.out wr hbw)
        have hsl := heap_lt hs9
        clear hF9 hs9 hrow hbr hbw
        go_wp2_with (
          go_at_call 135
          refine CJ.out.mono ?_
          rintro e w20 ⟨rfl, hb20⟩
          have HB20 := hid hb20
          clear hb20)
        have hz20 := HB20.out.size
        obtain ⟨W, hW⟩ : ∃ W, w20.alloc (.cells #[.int .i64 jp, .int .i64 jq] 37) = W := ⟨_, rfl⟩
        have hWb : Below wr.heap.size wr W := by rw [← hW]; exact HB20.out.alloc HB20.out.size _
        have hWp : W.heap[w20.heap.size]? = some (.cells #[.int .i64 jp, .int .i64 jq] 37 (0, 0)) := by rw [← hW]; exact heap_alloc_new w20 _
        rw [hW]
        clear hW
        have hFr := HFr.out
        have hWs := (hWb.block _ (heap_lt hFr.1)).trans hFr.1
        have hWf := (hWb.block _ (heap_lt hFr.2.1)).trans hFr.2.1
        have hWr := (hWb.block _ (heap_lt hFr.2.2)).trans hFr.2.2
        have hWl := (Keeps.of_below (F := fun _ => False) hWb).rowB HROW.out (fun _ _ e => e)
        have HBx := hid (HBW.out.trans (hWb.mono HBW.out.size))
        have hz9 : w.heap.size ≤ w9.heap.size := HB9w.out.size
        have hzr := HBR.out.size
        have KPW := hid (fun (X : World) (hK : Keeps (fun b => F b ∧ b < w.heap.size) W X) =>
          And.intro ((hK.block _ (heap_lt hWs) (fun e => Nat.not_lt.2 (Nat.le_trans hw12.1 (Nat.le_of_lt hw12.2)) e.2)).trans hWs)
            (And.intro ((hK.block _ (heap_lt hWf) (fun e => Nat.not_lt.2 hw12.1 e.2)).trans hWf)
              (And.intro ((hK.block _ (heap_lt hWr) (fun e => Nat.lt_irrefl _ e.2)).trans hWr)
                (And.intro ((hK.block _ (heap_lt hWp) (fun e => by have := e.2; omega)).trans hWp)
                  (hK.rowB hWl (fun b e1 e2 => by have := (hWl.lt b e1).1; have := e2.2; omega))))))
        have ST0 : Hid (RSt (fun b => F b ∧ b < w.heap.size) W bd W s rs) := RSt.start ⟨bn, cap, rn, rv, HD.out.1.narrow.below HBx.out⟩
        have hWsl := heap_lt hWr
        obtain ⟨LV, hLV⟩ : ∃ LV, leaveF s Lp a b c d L = LV := ⟨_, rfl⟩
        rw [hLV]
        have HLV := hid hLV
        clear hWb hWp hFr hWs hWf hWr hWl x0 x1 x2 x3 HROW HBR HB20 CJ HJ HFr HF9 HRA HRP HBW hLV
        have hDW := HD.out.1.below HBx.out
        have qn := hDW.nodesCell
        obtain ⟨rr2, hrr2, ho2, q0, q1, q2, q3⟩ := hDW.look HX.out.1
        have g0 := cell_of_heap (KPW.out W (Keeps.refl _ _)).1 0
        have g1 := cell_of_heap (KPW.out W (Keeps.refl _ _)).1 1
        obtain ⟨ca, cc, hcv⟩ := slice_shape ho2.chars
        rw [hcv] at q1
        have hal := (HD.out.2.2.2.1.chars _ _ HX.out.1).1
        have hcs : csOf s a = xa.cs := csOf_eq HX.out.1
        clear hrr2 ho2 q2 q3 hDW hcv
        go_quiet (fail)
        go_upto_if 144 with (fail)
        go_cut [] from 135 to 144 (fun wc => RSt (fun b => F b ∧ b < w.heap.size) W bd wc s1 (rs.map (mvSp (compF f1))))
        case first =>
          obtain ⟨hh1, hh2, hh3, hsp⟩ := HC.out
          have hend : endAct s a b (csOf s a).length = if xa.t = true then [(a, some (b, xa.cs.length))] else [] := by
            unfold endAct
            rw [HX.out.1, hcs]
            simp
          rw [hend] at hh1
          cases hxt : xa.t with
          | false =>
            rw [hxt] at hh1
            simp only [Bool.false_eq_true, if_false] at hh1
            obtain ⟨e1, e2⟩ : s1 = s ∧ f1 = [] := by cases hh1; exact ⟨rfl, rfl⟩
            subst e1 e2
            go_wp2
            go_meet
            case rel => rw [map_nil']; exact ST0.out.below (below_drewN (Below.refl _ _) _)
          | true =>
            rw [hxt] at hh1
            simp only [if_true] at hh1
            obtain ⟨f, rfl, hcg⟩ : ∃ f, f1 = [f] ∧ Chg s (a, some (b, xa.cs.length)) s1 f := by
              cases hh1 with
              | cons c0 c1 => cases c1; exact ⟨_, rfl, c0⟩
            have hbx : b ≤ xa.cs.length := by have := HX.out.2.2.1; unfold sizeN at this; rw [hxt] at this; simpa using this
            have CX := hid (fun X (hB : Below W.heap.size W X) => rst_cut (c := (xa.cs.length : Int) - (b : Int)) (ST0.out.below hB) hcg HD.out.2.2.2.1 (fun z hz => (hsp z hz).ok) h6 (by omega))
            clear hh1 hh2 hh3 hsp hend
            go_wp2
            refine wp_region_last (by rfl) (by kernel_rfl) (by kernel_rfl) ?_
            simp only [List.dropLast]
            repeat (quiet_step (fail))
            refine wpQuiet_nil ?_
            intro _ hw'
            obtain ⟨nq, hw''⟩ := hw'
            subst hw''
            go_wp2_with (
              go_at_call 125
              refine (CX.out _ (below_drewN (Below.refl _ _) _)).mono ?_
              rintro e w30 ⟨rfl, h30⟩
              have H30 := hid h30
              clear h30)
            go_meet
            case rel => rw [map_cons', map_nil']; exact H30.out
        case rest =>
          obtain ⟨hh1, hh2, hh3, hsp⟩ := HC.out
          have hwf1 := hh1.wf HD.out.2.2.2.1
          have hsp1 : ∀ z ∈ rs.map (mvSp (compF f1)), SpIs s1 z := by
            intro z hz
            obtain ⟨z0, hz0, rfl⟩ := List.mem_map.1 hz
            exact hh1.lives spIs_lives HD.out.2.2.2.1 (hsp z0 hz0)
          rw [HLL.out.1, HLL.out.2, HLV.out] at hh2
          have HC2 := hid (And.intro hh2 (And.intro hwf1 (And.intro hsp1 hh3)))
          have hLV40 : LV.length ≤ 40 := by rw [← HLV.out]; exact Nat.le_trans (leave_len _ _ _ _ _ _ _) hL40
          have HCUT := hid hcut
          have HTX : Hid (∀ n : Nat, (s2[n]?.map (·.t)) = (s[n]?.map (·.t))) := fun n => (hh2.text n).trans (hh1.text n)
          clear hh1 hh2 hh3 hsp hwf1 hsp1 hcut qn q0 q1 g0 g1 HC
          go_wp2
          go_loopw [17] (fun t17 wr => ∃ (k : Nat) (sk : List Nd) (fa fb : List Mvf), k ≤ LV.length ∧ t17 = .int .i64 (k : Int) ∧ RSt (fun b => F b ∧ b < w.heap.size) W bd wr sk ((rs.map (mvSp (compF f1))).map (mvSp (compF fa))) ∧ Chgs sk ((LV.drop k).map (fun i => ((i, none) : Dact))) s2 fb ∧ f2 = fa ++ fb ∧ WF sk ∧ ∀ z ∈ (rs.map (mvSp (compF f1))).map (mvSp (compF fa)), SpIs sk z) (fun t _ => leftN LV.length t)
          case atStart =>
            obtain ⟨h2, hw1, hs1, _⟩ := HC2.out
            exact ⟨0, s1, [], f2, Nat.zero_le _, rfl, by rw [map_nil']; exact HCUT.out, h2, rfl, hw1, by rw [map_nil']; exact hs1⟩
          case round =>
            obtain ⟨k, sk, fa, fb, hk, rfl, hst, hcs, hf2, hwk, hspk⟩ := hrel
            obtain ⟨Fk, hRD, hsub, hkeep⟩ := hst
            obtain ⟨kS, kF, kR, kP, kL⟩ := KPW.out wr hkeep
            rw [HLV.out] at kL
            by_cases hlt : k < LV.length
            · have hltI : (k : Int) < (LV.length : Int) := by omega
              obtain ⟨n, hn⟩ : ∃ n, LV[k]? = some n := ⟨_, List.getElem?_eq_getElem hlt⟩
              have hdr : LV.drop k = n :: LV.drop (k + 1) := by
                obtain ⟨h1, rfl⟩ := List.getElem?_eq_some_iff.1 hn
                exact List.drop_eq_getElem_cons h1
              rw [hdr, List.map_cons] at hcs
              obtain ⟨sn, f, fc, rfl, hc1, hc2⟩ : ∃ sn f fc, fb = f :: fc ∧ Chg sk (n, none) sn f ∧ Chgs sn ((LV.drop (k + 1)).map (fun i => ((i, none) : Dact))) s2 fc := by
                cases hcs with
                | cons h1 h2 => exact ⟨_, _, _, rfl, h1, h2⟩
              obtain ⟨gL, hgL⟩ : ∃ gL, gl = some ⟨gL, 0, none⟩ := by
                rcases row_cases (ownsRow_base kL (Nat.zero_le _)) with ⟨_, hl0⟩ | ⟨g, c3, hgv⟩
                · omega
                · cases hgv; exact ⟨_, rfl⟩
              subst hgL
              have cA : wr.cell? ⟨gL, k, none⟩ = some (.int .i64 (n : Int)) := by
                rw [(ownsRow_base kL (Nat.zero_le _)).cellAt k (by omega)]
                simp [intsV, hn]
              have CM := hid (rst_rem ⟨Fk, hRD, hsub, hkeep⟩ hc1 hwk (fun z hz => (hspk z hz).ok) (by simpa using h6))
              have HN := hid (And.intro hc1 (And.intro hc2 (And.intro hwk (And.intro hspk hf2))))
              clear hRD hsub hkeep kS kF kR kP kL hcs hc1 hc2 hwk hspk hf2 hdr hn
              go_wp2_with (
                go_at_call 76
                refine CM.out.mono ?_
                rintro e w31 ⟨rfl, h31⟩
                have H31 := hid h31
                clear h31)
              go_roundw
              case rel =>
                obtain ⟨hc1, hc2, hwk, hspk, hf2⟩ := HN.out
                have hmap : (rs.map (mvSp (compF f1))).map (mvSp (compF (fa ++ [f]))) = ((rs.map (mvSp (compF f1))).map (mvSp (compF fa))).map (mvSp f) := by rw [compF_append, map_cons', map_nil']
                refine ⟨k + 1, sn, fa ++ [f], fc, by omega, by simp, by rw [hmap]; exact H31.out, hc2, by rw [hf2]; simp, hc1.wf hwk, ?_⟩
                rw [hmap]
                intro z hz
                obtain ⟨z0, hz0, rfl⟩ := List.mem_map.1 hz
                exact hc1.lives spIs_lives hwk (hspk z0 hz0)
              case measure =>
                show LV.length - ((k : Int) + 1).toNat < LV.length - ((k : Int)).toNat
                omega
            · have hkl : k = LV.length := by omega
              subst hkl
              rw [List.drop_length] at hcs
              obtain ⟨e1, e2⟩ : sk = s2 ∧ fb = [] := by cases hcs; exact ⟨rfl, rfl⟩
              subst e1 e2
              rw [List.append_nil] at hf2
              subst hf2
              have hltI : ¬ (LV.length : Int) < (LV.length : Int) := by omega
              have STk := hid (show RSt (fun b => F b ∧ b < w.heap.size) W bd wr sk ((rs.map (mvSp (compF f1))).map (mvSp (compF f2))) from ⟨Fk, hRD, hsub, hkeep⟩)
              obtain ⟨bn2, cap2, rn2, rv2, hD2⟩ := hRD
              have htx := HTX.out c
              rw [HX.out.2.1] at htx
              obtain ⟨xc2, hxc2, htc⟩ : ∃ x2, sk[c]? = some x2 ∧ x2.t = xc.t := by
                cases hc2 : sk[c]? with
                | none => rw [hc2] at htx; cases htx
                | some x2 => rw [hc2] at htx; simp at htx; exact ⟨x2, rfl, htx⟩
              have hcl := (List.getElem?_eq_some_iff.1 hxc2).1
              have hclI : (c : Int) < (sk.length : Int) := by omega
              have hsk40 := hwk.cap
              have qn := hD2.nodesCell
              obtain ⟨rr3, _, _, q0, _, _, _⟩ := hD2.look hxc2
              have g2 := cell_of_heap kS 2
              have g3 := cell_of_heap kS 3
              have HSK := hid (And.intro hwk (And.intro hspk hkeep))
              have HTC := hid htc
              clear htc hD2 hsub hkeep kS kF kR kP kL hcs hwk hspk htx
              go_wp2
              go_quiet (fail)
              go_upto_if 189 with (fail)
              go_cut [] from 180 to 189 (fun wc => RSt (fun b => F b ∧ b < w.heap.size) W bd wc s3 (((rs.map (mvSp (compF f1))).map (mvSp (compF f2))).map (mvSp (compF f3))))
              case first =>
                have hh3 := HC2.out.2.2.2
                have hend : endAct s c 0 d = if xc2.t = true then [(c, some (0, d))] else [] := by
                  unfold endAct
                  rw [HX.out.2.1, Option.map_some, ← HTC.out]
                  simp
                rw [hend] at hh3
                cases hxt : xc2.t with
                | false =>
                  rw [hxt] at hh3
                  simp only [Bool.false_eq_true, if_false] at hh3
                  obtain ⟨e1, e2⟩ : s3 = sk ∧ f3 = [] := by cases hh3; exact ⟨rfl, rfl⟩
                  subst e1 e2
                  go_wp2
                  go_meet
                  case rel => rw [map_nil']; exact STk.out.below (below_drewN (Below.refl _ _) _)
                | true =>
                  rw [hxt] at hh3
                  simp only [if_true] at hh3
                  obtain ⟨f, rfl, hcg⟩ : ∃ f, f3 = [f] ∧ Chg sk (c, some (0, d)) s3 f := by
                    cases hh3 with
                    | cons c0 c1 => cases c1; exact ⟨_, rfl, c0⟩
                  have CX := hid (fun X (hB : Below wr.heap.size wr X) => rst_cut (c := (d : Int)) (STk.out.below hB) hcg HSK.out.1 (fun z hz => (HSK.out.2.1 z hz).ok) (by simpa using h6) (by omega))
                  clear hh3 hend
                  go_wp2_with (
                    go_at_call 125
                    refine (CX.out _ (below_drewN (Below.refl _ _) _)).mono ?_
                    rintro e w32 ⟨rfl, h32⟩
                    have H32 := hid h32
                    clear h32)
                  go_meet
                  case rel => rw [map_cons', map_nil']; exact H32.out
              case rest =>
                obtain ⟨F3, ⟨bn3, cap3, rn3, rv3, hD3⟩, hsub3, hk3⟩ := hcut
                obtain ⟨kS, kF, kR, kP, _⟩ := KPW.out wc hk3
                obtain ⟨g3, rc3, hrv3⟩ : ∃ g3 rc3, rv3 = .slice (some ⟨g3, 0, none⟩) rs.length rc3 := by
                  rcases row_cases hD3.ranges with ⟨_, h0⟩ | ⟨g, c, h⟩
                  · rw [List.length_map, List.length_map, List.length_map] at h0; omega
                  · simp at h; exact ⟨g, c, h⟩
                have hz3 : ∃ z3, (((rs.map (mvSp (compF f1))).map (mvSp (compF f2))).map (mvSp (compF f3)))[r]? = some z3 := ⟨_, List.getElem?_eq_getElem (by simpa using hr)⟩
                obtain ⟨z3, hz3⟩ := hz3
                have k1 := hD3.rangesCell
                rw [hrv3] at k1
                obtain ⟨q0, q1, q2, q3, qf⟩ := hD3.spanAt hz3 hrv3
                have qf0 := qf (r * 4)
                have qf1 := qf (r * 4 + 1)
                have qf2 := qf (r * 4 + 2)
                have qf3 := qf (r * 4 + 3)
                have p0 := cell_of_heap kP 0
                have p1 := cell_of_heap kP 1
                have h3b := (hD3.apart g3 (by rw [hrv3]; rfl))
                have hg3 : ¬ (w.heap.size ≤ g3 ∧ g3 < W.heap.size) := by
                  rintro ⟨e1, e2⟩
                  rcases hsub3 g3 h3b.1 with e | e
                  · have := e.2; omega
                  · omega
                have hpw := heap_lt (KPW.out W (Keeps.refl _ _)).2.2.2.1
                have hfw := heap_lt (KPW.out W (Keeps.refl _ _)).2.1
                have ng1 : ¬ g3 = w20.heap.size := by omega
                have ng2 : ¬ g3 = w1.heap.size := by omega
                have ng3 : ¬ g3 = w.heap.size := by omega
                have hne3 : ¬ w1.heap.size = w.heap.size := by omega
                have cf0 := cell_of_heap kF 0
                have cf1 := cell_of_heap kF 1
                have za0 := cell_of_heap kR 0
                have za1 := cell_of_heap kR 1
                have fa0 := frozen_of_heap kR 0
                have fa1 := frozen_of_heap kR 1
                have H3 := hid (And.intro hD3 (And.intro hsub3 (And.intro hk3 (And.intro hrv3 hz3))))
                clear hD3 hsub3 hk3 hrv3 hz3 qf kS kF kR kP h3b
                go_wp2
                refine wp_region_last (by rfl) (by kernel_rfl) (by kernel_rfl) ?_
                simp only [List.dropLast]
                repeat (quiet_step (fail))
                refine wpQuiet_nil ?_
                intro _ hw'
                obtain ⟨nq, hw''⟩ := hw'
                subst hw''
                go_wp2
                obtain ⟨hD3, hsub3, hk3, hrv3, hz3⟩ := H3.out
                have st := RSt.setAll (F0 := fun b => F b ∧ b < w.heap.size) (W := W) (hD3.drewN nq) hsub3 (hk3.trans (Keeps.of_below (below_drewN (Below.refl _ _) _))) (g := g3) (c := rc3) (by rw [hrv3]; simp) hz3 jp jq jp jq
                obtain ⟨X4, hX4⟩ : ∃ X4, ((((wc.drewN nq).setCell ⟨g3, r * 4, none⟩ (.int .i64 jp)).setCell ⟨g3, r * 4 + 1, none⟩ (.int .i64 jq)).setCell ⟨g3, r * 4 + 2, none⟩ (.int .i64 jp)).setCell ⟨g3, r * 4 + 3, none⟩ (.int .i64 jq) = X4 := ⟨_, rfl⟩
                rw [hX4] at st ⊢
                have hq3 : Keeps (fun b => F b ∧ b < w.heap.size) W X4 := by obtain ⟨_, _, _, hq3⟩ := st; exact hq3
                have kR4 := (KPW.out X4 hq3).2.2.1
                have a1 := heap_setCell_same X4 _ 0 _ _ (.int .i64 0) kR4
                have a2 := heap_setCell_same _ _ 1 _ _ (.int .i64 0) a1
                have b0 : ((X4.setCell ⟨w.heap.size, 0, none⟩ (.int .i64 0)).setCell ⟨w.heap.size, 1, none⟩ (.int .i64 0)).cell? ⟨w.heap.size, 0, none⟩ = some (.int .i64 0) := cell_of_heap a2 0
                have b1 : ((X4.setCell ⟨w.heap.size, 0, none⟩ (.int .i64 0)).setCell ⟨w.heap.size, 1, none⟩ (.int .i64 0)).cell? ⟨w.heap.size, 1, none⟩ = some (.int .i64 0) := cell_of_heap a2 1
                refine bodyPost_ret (v := rfltV 0 0) (by simp [results, Tryz.results86, go_sem, b0, b1]) rfl ?_
                refine ⟨rfl, ?_⟩
                rw [compF_append, compF_append]
                exact st.done2 HBx.out (Nat.le_refl _) hWsl (((Keeps.refl (fun b => b = w.heap.size) X4).setCell (p := ⟨w.heap.size, 0, none⟩) (.inl rfl) _).setCell (p := ⟨w.heap.size, 1, none⟩) (.inl rfl) _)
end
end Go.Proofs.YtabogkonklplcaaGreatDoor
