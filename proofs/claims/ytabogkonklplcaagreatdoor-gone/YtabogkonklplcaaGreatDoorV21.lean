import Derived.Test.YtabogkonklplcaaGreatDoorV11
import Derived.Deep.RegionWith
import Derived.Deep.RegionHeld3
import Derived.Test.YtabogkonklplcaaGreatDoorV14
import Derived.Deep.QuietTactic
import Derived.BigQuiet
import Derived.Test.YtabogkonklplcaaGreatDoorV15
import Derived.Lib.Builder
import Derived.Lib.AppendStr
import Derived.Lib.UnsafeStr
import Derived.Lib.Walk
import Derived.Lib.RuneBytes
import Derived.Laws.Externs
import Derived.Shelf.Strings.BuilderX
import Derived.Test.YtabogkonklplcaaGreatDoorV05
import Derived.LoopTactic
import Derived.Maps.AppendAt
import Derived.Test.YtabogkonklplcaaGreatDoorV04
import Derived.Test.YtabogkonklplcaaGreatDoorV12

namespace Go.Proofs.YtabogkonklplcaaGreatDoor
open Go.RowKit
set_option linter.unusedSimpArgs false
set_option linter.unusedVariables false
theorem IsTop.lt {s : List Nd} {n t : Nat} (h : IsTop s n t) : t < s.length := by
  obtain ⟨_, x, hx, _⟩ := h
  exact (List.getElem?_eq_some_iff.1 hx).1
section
variable {F : Nat → Prop} {bd bn cap : Nat} {rn : List RN} {rv : Value} {s : List Nd} {rs : List Sp}
abbrev two (w : World) (a b : Nat × Nat) : World := (w.alloc (.cells #[.int .i64 a.1, .int .i64 a.2] 37)).alloc (.cells #[.int .i64 b.1, .int .i64 b.2] 37)
end
end Go.Proofs.YtabogkonklplcaaGreatDoor

namespace Go.Proofs.YtabogkonklplcaaGreatDoor
open Go.RowKit
set_option linter.unusedSimpArgs false
set_option linter.unusedVariables false
def placeFault (s : List Nd) (n k : Int) : Int × Int := if isB s n = false then (n, 1) else if k < 0 ∨ (sizeAt s n.toNat : Int) < k then (n, 3) else (0, 0)
section
variable {w : World} {F : Nat → Prop} {bd bn cap : Nat} {rn : List RN} {rv : Value} {s : List Nd} {rs : List Sp}
abbrev three (w : World) (a0 a1 b0 b1 : Int) : World := ((w.alloc (.cells #[.int .i64 a0, .int .i64 a1] 37)).alloc (.cells #[.int .i64 b0, .int .i64 b1] 37)).alloc (.cells #[.int .i64 0, .int .i64 0] 32)
theorem three_below (w : World) (a0 a1 b0 b1 : Int) : Below w.heap.size w (three w a0 a1 b0 b1) := (((Below.refl _ w).alloc (Nat.le_refl _) _).alloc (by simp) _).alloc (by simp; omega) _
end
end Go.Proofs.YtabogkonklplcaaGreatDoor

namespace Go.Proofs.YtabogkonklplcaaGreatDoor
open Go.RowKit
set_option linter.unusedSimpArgs false
set_option linter.unusedVariables false
structure Cmp (w : World) (W fb : Nat) (a0 a1 b0 b1 f0 f1 : Int) : Prop where
  a : w.heap[W]? = some (.cells #[.int .i64 a0, .int .i64 a1] 37 (0, 0))
  b : w.heap[W + 1]? = some (.cells #[.int .i64 b0, .int .i64 b1] 37 (0, 0))
  z : w.heap[W + 1 + 1]? = some (.cells #[.int .i64 0, .int .i64 0] 32 (0, 0))
  f : w.heap[fb]? = some (.cells #[.int .i64 f0, .int .i64 f1] 32 (0, 0))
  gt : W + 2 < fb
section
variable {w w' : World} {W fb : Nat} {a0 a1 b0 b1 f0 f1 : Int}
theorem Cmp.below (h : Cmp w W fb a0 a1 b0 b1 f0 f1) (hb : Below w.heap.size w w') : Cmp w' W fb a0 a1 b0 b1 f0 f1 :=
  ⟨(hb.block _ (heap_lt h.a)).trans h.a, (hb.block _ (heap_lt h.b)).trans h.b, (hb.block _ (heap_lt h.z)).trans h.z, (hb.block _ (heap_lt h.f)).trans h.f, h.gt⟩
theorem Cmp.put (h : Cmp w W fb a0 a1 b0 b1 f0 f1) (g0 g1 : Int) : Cmp ((w.setCell ⟨fb, 0, none⟩ (.int .i64 g0)).setCell ⟨fb, 1, none⟩ (.int .i64 g1)) W fb a0 a1 b0 b1 g0 g1 := by
  have hg := h.gt
  have hk : ∀ i, i ≠ fb → ((w.setCell ⟨fb, 0, none⟩ (.int .i64 g0)).setCell ⟨fb, 1, none⟩ (.int .i64 g1)).heap[i]? = w.heap[i]? := fun i hi => by
    rw [Below.heap_setCell _ _ _ _ (by simpa using hi), Below.heap_setCell _ _ _ _ (by simpa using hi)]
  refine ⟨(hk _ (by omega)).trans h.a, (hk _ (by omega)).trans h.b, (hk _ (by omega)).trans h.z, ?_, hg⟩
  rw [heap_setCell_same _ fb 1 _ _ _ (heap_setCell_same w fb 0 _ _ _ h.f)]
  simp
theorem Cmp.cells (h : Cmp w W fb a0 a1 b0 b1 f0 f1) :
    (w.cell? ⟨W, 0, none⟩ = some (.int .i64 a0) ∧ w.cell? ⟨W, 1, none⟩ = some (.int .i64 a1)) ∧ (w.cell? ⟨W + 1, 0, none⟩ = some (.int .i64 b0) ∧ w.cell? ⟨W + 1, 1, none⟩ = some (.int .i64 b1)) ∧
    (w.cell? ⟨W + 1 + 1, 0, none⟩ = some (.int .i64 0) ∧ w.cell? ⟨W + 1 + 1, 1, none⟩ = some (.int .i64 0)) ∧ (w.cell? ⟨fb, 0, none⟩ = some (.int .i64 f0) ∧ w.cell? ⟨fb, 1, none⟩ = some (.int .i64 f1)) :=
  ⟨⟨cell_of_heap h.a 0, cell_of_heap h.a 1⟩, ⟨cell_of_heap h.b 0, cell_of_heap h.b 1⟩, ⟨cell_of_heap h.z 0, cell_of_heap h.z 1⟩, ⟨cell_of_heap h.f 0, cell_of_heap h.f 1⟩⟩
theorem Cmp.first {w1 w2 : World} (hb1 : Below (three w a0 a1 b0 b1).heap.size (three w a0 a1 b0 b1) w1) (hb2 : Below (w1.alloc (.cells #[.int .i64 f0, .int .i64 f1] 32)).heap.size (w1.alloc (.cells #[.int .i64 f0, .int .i64 f1] 32)) w2) :
    Cmp w2 w.heap.size w1.heap.size a0 a1 b0 b1 f0 f1 ∧ Below w.heap.size w w2 := by
  have hs1 : w.heap.size + 3 ≤ w1.heap.size := by have := hb1.size; simpa using this
  have hB1 : Below w.heap.size w w1 := (three_below w a0 a1 b0 b1).trans (hb1.mono (three_below w a0 a1 b0 b1).size)
  have hal := ((Below.refl _ w1).alloc (Nat.le_refl _) (.cells #[.int .i64 f0, .int .i64 f1] 32)).trans (hb2.mono (by simp))
  have k0 : (three w a0 a1 b0 b1).heap[w.heap.size]? = some (.cells #[.int .i64 a0, .int .i64 a1] 37 (0, 0)) := by
    rw [((Below.refl _ (w.alloc (.cells #[.int .i64 a0, .int .i64 a1] 37))).alloc (Nat.le_refl _) (.cells #[.int .i64 b0, .int .i64 b1] 37)).alloc (by simp) (.cells #[.int .i64 0, .int .i64 0] 32) |>.block w.heap.size (by simp)]
    exact heap_alloc_new w _
  have k1 : (three w a0 a1 b0 b1).heap[w.heap.size + 1]? = some (.cells #[.int .i64 b0, .int .i64 b1] 37 (0, 0)) := by
    rw [((Below.refl _ ((w.alloc (.cells #[.int .i64 a0, .int .i64 a1] 37)).alloc (.cells #[.int .i64 b0, .int .i64 b1] 37))).alloc (Nat.le_refl _) (.cells #[.int .i64 0, .int .i64 0] 32)).block (w.heap.size + 1) (by simp)]
    have := heap_alloc_new (w.alloc (.cells #[.int .i64 a0, .int .i64 a1] 37)) (.cells #[.int .i64 b0, .int .i64 b1] 37)
    simpa using this
  have k2 : (three w a0 a1 b0 b1).heap[w.heap.size + 1 + 1]? = some (.cells #[.int .i64 0, .int .i64 0] 32 (0, 0)) := by
    have := heap_alloc_new ((w.alloc (.cells #[.int .i64 a0, .int .i64 a1] 37)).alloc (.cells #[.int .i64 b0, .int .i64 b1] 37)) (.cells #[.int .i64 0, .int .i64 0] 32)
    simpa using this
  have up : ∀ i, i < w.heap.size + 3 → w2.heap[i]? = (three w a0 a1 b0 b1).heap[i]? := fun i hi => (hal.block i (by omega)).trans (hb1.block i (by simp; omega))
  refine ⟨⟨(up _ (by omega)).trans k0, (up _ (by omega)).trans k1, (up _ (by omega)).trans k2, (hb2.block _ (by simp)).trans (heap_alloc_new w1 _), by omega⟩, hB1.trans (hal.mono hB1.size)⟩
end
end Go.Proofs.YtabogkonklplcaaGreatDoor

namespace Go.Proofs.YtabogkonklplcaaGreatDoor
open Go.RowKit
set_option linter.unusedSimpArgs false
set_option linter.unusedVariables false
section
variable {w : World} {F : Nat → Prop} {bd bn cap : Nat} {rn : List RN} {rv : Value} {s : List Nd} {rs : List Sp}
end
end Go.Proofs.YtabogkonklplcaaGreatDoor

namespace Go.Proofs.YtabogkonklplcaaGreatDoor
open Go.RowKit
set_option linter.unusedSimpArgs false
set_option linter.unusedVariables false
theorem climb_neg {s : List Nd} {j n : Nat} (h : climb s j n < 0) : ∀ i, climb s (j + i) n < 0 := by
  intro i
  induction i with
  | zero => exact h
  | succ i ih =>
    show climb s (j + i + 1) n < 0
    simp [climb, ih]
theorem IsTop.one {s : List Nd} {n t t' : Nat} (h : IsTop s n t) (h' : IsTop s n t') : t = t' := by
  have key : ∀ {a b : Nat} {i j : Nat} {x : Nd}, climb s i n = (a : Int) → s[a]? = some x → x.p = -1 → climb s j n = (b : Int) → ¬ i < j := by
    intro a b i j x h1 h2 h3 h4 hlt
    have e : climb s (i + 1) n < 0 := by rw [climb_step h1]; simp [parOf, h2, h3]
    have := climb_neg e (j - (i + 1))
    rw [show i + 1 + (j - (i + 1)) = j by omega, h4] at this
    omega
  obtain ⟨⟨i, hi⟩, x, hx, hp⟩ := h
  obtain ⟨⟨j, hj⟩, y, hy, hq⟩ := h'
  have h1 := key hi hx hp hj
  have h2 := key hj hy hq hi
  obtain rfl : i = j := by omega
  rw [hi] at hj
  omega
theorem IsTop.up {s : List Nd} {n q t : Nat} {x : Nd} (hx : s[n]? = some x) (hp : x.p = (q : Int)) (h : IsTop s q t) : IsTop s n t := by
  obtain ⟨⟨m, hm⟩, r⟩ := h
  have e : climb s 1 n = (q : Int) := by
    show climb s (0 + 1) n = _
    rw [climb_step (show climb s 0 n = (n : Int) from rfl)]
    simp [parOf, hx, hp]
  exact ⟨⟨1 + m, by rw [climb_add e, hm]⟩, r⟩
theorem top_there {s : List Nd} (wf : WF s) : ∀ n, n < s.length → ∃ t, IsTop s n t := by
  obtain ⟨h, B, u⟩ := wf.up
  have key : ∀ k n, n < s.length → B - h n < k → ∃ t, IsTop s n t := by
    intro k
    induction k with
    | zero => intro n _ hk; omega
    | succ k ih =>
      intro n hn hk
      have hx : s[n]? = some s[n] := List.getElem?_eq_getElem hn
      rcases wf.par n _ hx with e | ⟨q, y, e, hy, _⟩
      · exact ⟨n, ⟨0, rfl⟩, _, hx, e⟩
      · have hup := u.par n _ hx (by omega)
        rw [e] at hup
        simp at hup
        have := u.le q
        obtain ⟨t, ht⟩ := ih q (List.getElem?_eq_some_iff.1 hy).1 (by omega)
        exact ⟨t, ht.up hx e⟩
  intro n hn
  exact key (B - h n + 1) n hn (by omega)
section
variable {w : World} {F : Nat → Prop} {bd bn cap : Nat} {rn : List RN} {rv : Value} {s : List Nd} {rs : List Sp}
theorem IsWhere.one {l : List (Nat × Nat)} {p : Nat × Nat} {q q' : Int} (h : IsWhere l p q) (h' : IsWhere l p q') : q = q' := by
  have key : ∀ {i j : Nat}, l[i]? = some p → p ∉ l.take j → ¬ i < j := fun h1 h2 hlt => h2 (List.mem_of_getElem? (i := _) (by rw [List.getElem?_take, if_pos hlt]; exact h1))
  rcases h with ⟨i, rfl, hi, hi'⟩ | ⟨rfl, hn⟩ <;> rcases h' with ⟨j, rfl, hj, hj'⟩ | ⟨rfl, hn'⟩
  · have h1 := key hi hj'
    have h2 := key hj hi'
    omega
  · exact absurd (List.mem_of_getElem? hi) hn'
  · exact absurd (List.mem_of_getElem? hj) hn
  · rfl
end
end Go.Proofs.YtabogkonklplcaaGreatDoor

namespace Go.Proofs.YtabogkonklplcaaGreatDoor
open Go.RowKit
set_option linter.unusedSimpArgs false
set_option linter.unusedVariables false
theorem spcells_set (rs : List Sp) (i : Nat) (r r' : Sp) (h : rs[i]? = some r) (j : Nat) (hj : j < 4) (u : Value) (he : r'.cells = r.cells.set j u) :
    (rs.flatMap Sp.cells).set (i * 4 + j) u = (rs.set i r').flatMap Sp.cells := by
  induction rs generalizing i with
  | nil => simp at h
  | cons a l ih =>
    cases i with
    | zero =>
      simp at h; subst h
      simp only [List.flatMap_cons, List.set_cons_zero, Nat.zero_mul, Nat.zero_add]
      rw [List.set_append_left _ _ (by simpa [Sp.cells] using hj), ← he]
    | succ i =>
      have e : (i + 1) * 4 + j = (i * 4 + j) + 4 := by omega
      simp only [List.flatMap_cons, List.set_cons_succ]
      rw [e, List.set_append_right _ _ (by simp [Sp.cells])]
      congr 1
      simpa [Sp.cells] using ih i (by simpa using h)
section
variable {w : World} {F : Nat → Prop} {bd bn cap : Nat} {rn : List RN} {rv : Value} {s : List Nd} {rs : List Sp}
theorem RDocAt.spanCells (hD : RDocAt w F bd bn cap rn rv s rs) {r : Nat} {x : Sp} (hx : rs[r]? = some x) : ∃ g c, rv = .slice (some ⟨g, 0, none⟩) rs.length c ∧ g < w.heap.size ∧ F g ∧ g ≠ bd ∧ g ≠ bn ∧ w.cell? ⟨g, r * 4, none⟩ = some (.int .i64 x.a) ∧ w.cell? ⟨g, r * 4 + 1, none⟩ = some (.int .i64 x.b) ∧ w.cell? ⟨g, r * 4 + 2, none⟩ = some (.int .i64 x.c) ∧ w.cell? ⟨g, r * 4 + 3, none⟩ = some (.int .i64 x.d) ∧
    (∀ o, w.frozen? ⟨g, o, none⟩ = false) := by
  have hr : r < rs.length := (List.getElem?_eq_some_iff.1 hx).1
  obtain ⟨g, rc, hrve⟩ : ∃ g c, rv = .slice (some ⟨g, 0, none⟩) rs.length c := by
    rcases row_cases hD.ranges with ⟨_, h0⟩ | ⟨g, c, h⟩
    · omega
    · exact ⟨g, c, h⟩
  have hrow := hD.ranges
  have ha := hD.apart g (by rw [hrve]; rfl)
  rw [hrve] at hrow
  refine ⟨g, rc, hrve, (hrow.lt g rfl).2, ha.1, ha.2.1, ha.2.2, ?_, ?_, ?_, ?_, fun o => hrow.frozenAt o⟩
  · have := hrow.cellAt (r * 4 + 0) (by omega); rw [spcells_get rs r x hx 0 (by omega)] at this; simpa [Sp.cells] using this
  · have := hrow.cellAt (r * 4 + 1) (by omega); rw [spcells_get rs r x hx 1 (by omega)] at this; simpa [Sp.cells] using this
  · have := hrow.cellAt (r * 4 + 2) (by omega); rw [spcells_get rs r x hx 2 (by omega)] at this; simpa [Sp.cells] using this
  · have := hrow.cellAt (r * 4 + 3) (by omega); rw [spcells_get rs r x hx 3 (by omega)] at this; simpa [Sp.cells] using this
end
theorem set_mid {α : Type} (f : α → α) (rs : List α) (q : Nat) (x : α) (hx : rs[q]? = some x) : ((rs.take q).map f ++ rs.drop q).set q (f x) = (rs.take (q + 1)).map f ++ rs.drop (q + 1) := by
  have hq : q < rs.length := (List.getElem?_eq_some_iff.1 hx).1
  have hd : rs.drop q = x :: rs.drop (q + 1) := by
    rw [List.drop_eq_getElem_cons hq]
    rw [(List.getElem?_eq_some_iff.1 hx).2]
  rw [hd, List.set_append_right _ _ (by simp; omega)]
  have e : q - ((rs.take q).map f).length = 0 := by simp; omega
  rw [e, List.set_cons_zero, List.take_add_one, hx]
  simp
theorem get_mid {α : Type} (f : α → α) (rs : List α) (q : Nat) (x : α) (hx : rs[q]? = some x) : ((rs.take q).map f ++ rs.drop q)[q]? = some x := by
  have hq : q < rs.length := (List.getElem?_eq_some_iff.1 hx).1
  rw [List.getElem?_append_right (by simp; omega)]
  have e : q - ((rs.take q).map f).length = 0 := by simp; omega
  rw [e]
  simpa using hx
section
variable {w : World} {F : Nat → Prop} {bd bn cap : Nat} {rn : List RN} {rv : Value} {s : List Nd} {rs : List Sp}
end
end Go.Proofs.YtabogkonklplcaaGreatDoor

namespace Go.Proofs.YtabogkonklplcaaGreatDoor
open Go.RowKit
set_option linter.unusedSimpArgs false
set_option linter.unusedVariables false
section
variable {w : World} {F : Nat → Prop} {bd bn cap : Nat} {rn : List RN} {rv : Value} {s : List Nd} {rs : List Sp}
end
end Go.Proofs.YtabogkonklplcaaGreatDoor

namespace Go.Proofs.YtabogkonklplcaaGreatDoor
open Go.RowKit
set_option linter.unusedSimpArgs false
set_option linter.unusedVariables false
def cmpB : Bool → Bool → Int
  | true, _ => -1
  | false, true => 1
  | false, false => 0
section
variable {w : World} {F : Nat → Prop} {bd bn cap : Nat} {rn : List RN} {rv : Value} {s : List Nd} {rs : List Sp}
end
end Go.Proofs.YtabogkonklplcaaGreatDoor

namespace Go.Proofs.YtabogkonklplcaaGreatDoor
open Go.RowKit
set_option linter.unusedSimpArgs false
set_option linter.unusedVariables false
abbrev Bld (B b : Nat) (bs : List Value) (w : World) : Prop := Lib.IsBuilder 219 5 B b bs w
abbrev BldU (B b : Nat) (bs : List Value) (w : World) : Prop := Lib.BuilderAt 219 5 B b (ptr b) bs w
theorem Tryz.sizeBld : (Tryz.prog.info? 219).map (·.size) = some 2 := by kernel_rfl
set_option maxHeartbeats 1000000 in
set_option maxRecDepth 100000 in
theorem bcheck_used (b : Nat) (w : World) (h0 : w.cell? ⟨b, 0, none⟩ = some (ptr b)) :
    Calls Tryz.prog 184 #[ptr b] w fun e w' => e = .returned (.tuple #[]) ∧ w' = w := by
  obtain ⟨j, hj, _⟩ := Option.map_eq_some_iff.1 Tryz.sizeBld
  go_enter Tryz.func184, Tryz.ntmps184
  go_wp2
  rw [Lib.run_neq_ptr_same w _ Tryz.underlying216 hj]
  go_wp2
  go_end0
  exact ⟨rfl, rfl⟩
set_option maxHeartbeats 1000000 in
set_option maxRecDepth 100000 in
theorem bcheck_fresh (b : Nat) (w : World) (h0 : w.cell? ⟨b, 0, none⟩ = some (.pointer none)) (hsh : w.shape? b = some (219, 2)) (hfz : w.frozen? ⟨b, 0, none⟩ = false) :
    Calls Tryz.prog 184 #[ptr b] w fun e w' => e = .returned (.tuple #[]) ∧ w' = w.setCell ⟨b, 0, none⟩ (ptr b) := by
  obtain ⟨j, hj, hjs⟩ := Option.map_eq_some_iff.1 Tryz.sizeBld
  go_enter Tryz.func184, Tryz.ntmps184
  go_wp2
  rw [Lib.run_to_unsafe w ⟨b, 0, none⟩ Tryz.underlying216 Tryz.underlying203 hj (by rw [hjs]; decide) hsh (Nat.zero_lt_succ 1)]
  simp only [Result.andThen]
  rw [Oper.upon_value]
  go_wp2
  rw [run_callFunc_extern Tryz.func195 (by kernel_rfl) (by kernel_rfl) (by kernel_rfl) (e := Extern.AbiNoEscape.same) (by kernel_rfl)]
  rw [Lib.run_noEscape]
  simp only [Result.andThen]
  rw [Oper.upon_value]
  go_wp2
  rw [Lib.run_from_unsafe w ⟨b, 0, none⟩ Tryz.underlying203 Tryz.underlying216 hj hsh (by kernel_rfl)]
  simp only [Result.andThen]
  rw [Oper.upon_value]
  go_wp2
  go_end0
  exact ⟨rfl, rfl⟩
def IterKept (w w' : World) : Prop := ∀ (k : Nat) (t : ByteArray) (p : Nat), w.heap[k]? = some (.stringIter t p) → w'.heap[k]? = some (.stringIter t p)
theorem IterKept.refl (w : World) : IterKept w w := fun _ _ _ h => h
theorem IterKept.trans {a b c : World} (h : IterKept a b) (g : IterKept b c) : IterKept a c := fun k t p hk => g k t p (h k t p hk)
theorem IterKept.alloc (w : World) (o : Obj) : IterKept w (w.alloc o) := fun k t p hk => by rw [Below.heap_alloc _ _ _ (heap_lt hk)]; exact hk
theorem IterKept.setCell {w : World} {b o : Nat} {cur : Array Value} {e : TypeId} {fz : Nat × Nat} (v : Value) (hb : w.heap[b]? = some (.cells cur e fz)) : IterKept w (w.setCell ⟨b, o, none⟩ v) := fun k t p hk => by
  have hne : k ≠ b := fun e => by subst e; rw [hb] at hk; cases hk
  have h := (Keeps.refl (fun x => x = b) w).setCell (p := ⟨b, o, none⟩) (.inl rfl) v
  rw [h.block k (heap_lt hk) hne]; exact hk
theorem IterKept.grown {w w' : World} {B : Nat} {v : Value} {n : Nat} {xs : List Value} {e : TypeId} {z : Nat} (hown : w.ownsRow B e z v n xs) (hg : w.grownBy w' v.ownBlock) : IterKept w w' := fun k t p hk => by
  rw [hg.block k (heap_lt hk) ?_]
  · exact hk
  · intro e
    rcases hown.2 with ⟨hv, _⟩ | ⟨g, cap, cur, hv, _, hh, _⟩
    · rw [hv] at e; cases e
    · rw [hv] at e
      cases e
      rw [hh] at hk; cases hk
theorem bcheck {B b : Nat} {bs : List Value} {w : World} (h : Bld B b bs w) :
    Calls Tryz.prog 184 #[ptr b] w fun e w' => e = .returned (.tuple #[]) ∧ BldU B b bs w' ∧ Below B w w' ∧ IterKept w w' := by
  rcases h with h | h
  · refine (bcheck_fresh b w h.cell0 h.shape h.frozen0).mono ?_
    rintro e w' ⟨rfl, rfl⟩
    have h2 := h
    obtain ⟨_, v, hb, _⟩ := h2
    exact ⟨rfl, h.used _, (Below.refl B w).setCell (p := ⟨b, 0, none⟩) h.1 _, IterKept.setCell _ hb⟩
  · refine (bcheck_used b w h.cell0).mono ?_
    rintro e w' ⟨rfl, rfl⟩
    exact ⟨rfl, h, Below.refl B _, IterKept.refl _⟩
end Go.Proofs.YtabogkonklplcaaGreatDoor

namespace Go.Proofs.YtabogkonklplcaaGreatDoor
open Go.RowKit
set_option linter.unusedSimpArgs false
set_option linter.unusedVariables false
theorem Tryz.info5 : (Tryz.prog.info? 5).map (fun i => (i.zero, i.size, i.bytes)) = some (some (.int .u8 0), 1, 1) := by kernel_rfl
theorem bld_put {B b : Nat} {bs bs' : List Value} {v v' : Value} {w0 w1 w2 : World} (hB : B ≤ b) (hbk : w1.heap[b]? = some (.cells #[ptr b, v] 219 (0, 0))) (hne : v.ownBlock ≠ some b) (hown : w1.ownsRow B 5 1 v bs.length bs)
    (h01 : Below B w0 w1) (hik : IterKept w0 w1) (hBw : B ≤ w1.heap.size) (hg : w1.grownBy w2 v.ownBlock) (hown' : w2.ownsRow B 5 1 v' bs'.length bs') :
    BldU B b bs' (w2.setCell ⟨b, 1, none⟩ v') ∧ (Below B w0 (w2.setCell ⟨b, 1, none⟩ v') ∧ IterKept w0 (w2.setCell ⟨b, 1, none⟩ v')) ∧ w2.heap[b]? = some (.cells #[ptr b, v] 219 (0, 0)) := by
  have hb2 : w2.heap[b]? = some (.cells #[ptr b, v] 219 (0, 0)) := by
    rw [hg.block b (heap_lt hbk) (fun e => hne e.symm)]
    exact hbk
  exact ⟨Lib.BuilderAt.put hB hb2 hown' (by decide), ⟨(h01.grown hg hBw (fun k hk => (hown.lt k hk).1)).setCell (p := ⟨b, 1, none⟩) hB _, (hik.trans (IterKept.grown hown hg)).trans (IterKept.setCell _ hb2)⟩, hb2⟩
theorem bld_slice {B : Nat} {bs : List Value} {v : Value} {w : World} (h : w.ownsRow B 5 1 v bs.length bs) : ∃ a n c, v = .slice a n c := by
  rcases h.2 with ⟨hv, _⟩ | ⟨g, cap, cur, hv, _⟩
  · exact ⟨_, _, _, hv⟩
  · exact ⟨_, _, _, hv⟩
set_option maxHeartbeats 2000000 in
set_option maxRecDepth 100000 in
theorem bwrite_byte {B b : Nat} {bs : List Value} (c : Int) {w : World} (h : Bld B b bs w) (hlen : bs.length < lots) (hBw : B ≤ w.heap.size) :
    Calls Tryz.prog 177 #[ptr b, .int .u8 c] w fun e w' => e = .returned .nilIface ∧ BldU B b (bs ++ [.int .u8 c]) w' ∧ Below B w w' ∧ IterKept w w' := by
  obtain ⟨i0, hi, hz0, hz1, hz2⟩ := info_parts Tryz.info5
  have C := hid (bcheck h)
  clear h
  go_enter Tryz.func177, Tryz.ntmps177
  go_wp2_with (go_at_call 184; refine C.out.mono ?_)
  rintro e w1 ⟨rfl, h1, hb1, hk1⟩
  obtain ⟨hB, v, hbk, hown, hne⟩ := h1
  have hsz := hb1.size
  obtain ⟨a0, n0, p0, rfl⟩ := bld_slice hown
  have c1 : w1.cell? ⟨b, 1, none⟩ = some (.slice a0 n0 p0) := cell_of_heap hbk 1
  have hbn : ¬ b = w1.heap.size := by have := heap_lt hbk; omega
  go_wp2_with (at_builtin; refine wpList_append_own _ rfl _ _ 217 rfl B 5 i0 (.int .u8 0) 1 1 Tryz.underlying217 hi hz0 hz1 hz2 rfl (by decide) (.slice a0 n0 p0) _ _ rfl (hown.alloc _) ⟨w1.heap.size, 0, none⟩ 1 1 [.int .u8 c] rfl rfl (cell_one_new _ _ _) (by simp [Value.oneCell']) (by unfold maxLen; unfold lots at hlen; omega) (by unfold lots at hlen; omega) (by simp; omega) ?_)
  intro v' w2 hown' hgrow _
  have hbk' : (w1.alloc (.cells #[.int .u8 c] 5)).heap[b]? = some (.cells #[ptr b, .slice a0 n0 p0] 219 (0, 0)) := by rw [Below.heap_alloc _ _ _ (heap_lt hbk)]; exact hbk
  have P := hid (bld_put (bs' := bs ++ [.int .u8 c]) hB hbk' hne (hown.alloc _) (hb1.alloc (by omega) _) (hk1.trans (IterKept.alloc _ _)) (by simp; omega) hgrow (by simpa using hown'))
  obtain ⟨ao, n', cap, rfl⟩ := bld_slice (bs := bs ++ [.int .u8 c]) (by simpa using hown')
  have d1 : w2.cell? ⟨b, 1, none⟩ = some (.slice a0 n0 p0) := cell_of_heap P.out.2.2 1
  have f1 : w2.frozen? ⟨b, 1, none⟩ = false := frozen_of_heap P.out.2.2 1
  clear hown' hgrow hbk' hown hbk hne
  go_wp2
  go_ret
  exact ⟨rfl, P.out.1, P.out.2.1⟩
set_option maxHeartbeats 2000000 in
set_option maxRecDepth 100000 in
theorem bwrite_string {B b : Nat} {bs : List Value} (s : ByteArray) {w : World} (h : Bld B b bs w) (hlen : bs.length + s.size < lots) (hBw : B ≤ w.heap.size) :
    Calls Tryz.prog 174 #[ptr b, .string s] w fun e w' => e = .returned (.tuple #[.int .i64 s.size, .nilIface]) ∧ BldU B b (bs ++ Lib.strCells s) w' ∧ Below B w w' ∧ IterKept w w' := by
  obtain ⟨i0, hi, hz0, hz1, hz2⟩ := info_parts Tryz.info5
  have C := hid (bcheck h)
  clear h
  go_enter Tryz.func174, Tryz.ntmps174
  go_wp2_with (go_at_call 184; refine C.out.mono ?_)
  rintro e w1 ⟨rfl, h1, hb1, hk1⟩
  obtain ⟨hB, v, hbk, hown, hne⟩ := h1
  have hsz := hb1.size
  obtain ⟨a0, n0, p0, rfl⟩ := bld_slice hown
  have c1 : w1.cell? ⟨b, 1, none⟩ = some (.slice a0 n0 p0) := cell_of_heap hbk 1
  go_wp2_with (at_builtin; refine Lib.wpList_append_own_string _ rfl _ _ 217 9 rfl B 5 i0 Tryz.underlying217 Tryz.underlying9 hi hz0 hz1 hz2 (.slice a0 n0 p0) _ _ rfl hown s rfl (by unfold maxLen; unfold lots at hlen; omega) (by unfold lots at hlen; omega) (by omega) ?_)
  intro v' w2 hown' hgrow _
  have P := hid (bld_put (bs' := bs ++ Lib.strCells s) hB hbk hne hown hb1 hk1 (by omega) hgrow (by simpa [Lib.strCells_length] using hown'))
  obtain ⟨ao, n', cap, rfl⟩ := bld_slice (bs := bs ++ Lib.strCells s) (by simpa [Lib.strCells_length] using hown')
  have d1 : w2.cell? ⟨b, 1, none⟩ = some (.slice a0 n0 p0) := cell_of_heap P.out.2.2 1
  have f1 : w2.frozen? ⟨b, 1, none⟩ = false := frozen_of_heap P.out.2.2 1
  clear hown' hgrow hown hbk hne
  go_wp2
  go_ret2
  exact ⟨rfl, P.out.1, P.out.2.1⟩
def RuneWrote (B b : Nat) (bs : List Value) (w : World) (e : Ending) (w' : World) : Prop := ∃ n : Int, e = .returned (.tuple #[.int .i64 n, .nilIface]) ∧ BldU B b bs w' ∧ Below B w w' ∧ IterKept w w'
set_option maxHeartbeats 2000000 in
set_option maxRecDepth 100000 in
theorem bwrite_rune {B b : Nat} {bs : List Value} (r : Int) (hr0 : 0 ≤ r) (hr1 : r ≤ 2147483647) {w : World} (h : Bld B b bs w) (hlen : bs.length < lots) (hBw : B ≤ w.heap.size) :
    Calls Tryz.prog 160 #[ptr b, .int .i32 r] w (RuneWrote B b (bs ++ Lib.runeCells r) w) := by
  have C := hid (bcheck h)
  clear h
  go_enter Tryz.func160, Tryz.ntmps160
  go_wp2_with (go_at_call 184; refine C.out.mono ?_)
  rintro e w1 ⟨rfl, h1, hb1, hk1⟩
  obtain ⟨hB, v, hbk, hown, hne⟩ := h1
  have hsz := hb1.size
  obtain ⟨a0, n0, p0, rfl⟩ := bld_slice hown
  have c1 : w1.cell? ⟨b, 1, none⟩ = some (.slice a0 n0 p0) := cell_of_heap hbk 1
  have A1 := hid (Tryz.utf8_AppendRune_plain B (.slice a0 n0 p0) bs.length bs r (by omega) hr1 w1 hown (by unfold lots at hlen; omega) (by omega))
  go_wp2_with (go_at_call 185; refine A1.out.mono ?_)
  rintro e w2 ⟨v', rfl, hown', o, hgrow⟩
  have hbk' : (w1.alloc o).heap[b]? = some (.cells #[ptr b, .slice a0 n0 p0] 219 (0, 0)) := by rw [Below.heap_alloc _ _ _ (heap_lt hbk)]; exact hbk
  have P := hid (bld_put (bs' := bs ++ Lib.runeCells r) hB hbk' hne (hown.alloc _) (hb1.alloc (by omega) _) (hk1.trans (IterKept.alloc _ _)) (by simp; omega) hgrow (by simpa using hown'))
  obtain ⟨ao, n', cap, rfl⟩ := bld_slice (bs := bs ++ Lib.runeCells r) (by simpa using hown')
  have d1 : w2.cell? ⟨b, 1, none⟩ = some (.slice a0 n0 p0) := cell_of_heap P.out.2.2 1
  have f1 : w2.frozen? ⟨b, 1, none⟩ = false := frozen_of_heap P.out.2.2 1
  clear hown' hgrow hbk' hown hbk hne
  go_wp2
  go_ret2
  exact ⟨_, rfl, P.out.1, P.out.2.1⟩
end Go.Proofs.YtabogkonklplcaaGreatDoor

namespace Go.Proofs.YtabogkonklplcaaGreatDoor
open Go.RowKit
set_option linter.unusedSimpArgs false
set_option linter.unusedVariables false
theorem strCells_append (a b : ByteArray) : Lib.strCells (a ++ b) = Lib.strCells a ++ Lib.strCells b := by
  simp [Lib.strCells, ByteArray.data_append]
theorem enc_39 {r : Int} (h : Lib.runeCells r = [.int .u8 39]) : r = 39 := by
  unfold Lib.runeCells Lib.encodeRuneZ at h
  split at h
  · simpa using h
  · (repeat' split at h) <;> simp at h
theorem enc_92 {r : Int} (h : Lib.runeCells r = [.int .u8 92]) : r = 92 := by
  unfold Lib.runeCells Lib.encodeRuneZ at h
  split at h
  · simpa using h
  · (repeat' split at h) <;> simp at h
theorem strCells_39 {c : ByteArray} (h : Lib.strCells c = [.int .u8 39]) : c.data.toList = [39] := by
  unfold Lib.strCells at h
  rw [List.map_eq_singleton_iff] at h
  obtain ⟨a, h1, h2⟩ := h
  rw [h1]
  simp at h2
  have : a.toNat = 39 := by omega
  rw [show a = 39 from UInt8.toNat_inj.1 this]
theorem strCells_92 {c : ByteArray} (h : Lib.strCells c = [.int .u8 92]) : c.data.toList = [92] := by
  unfold Lib.strCells at h
  rw [List.map_eq_singleton_iff] at h
  obtain ⟨a, h1, h2⟩ := h
  rw [h1]
  simp at h2
  have : a.toNat = 92 := by omega
  rw [show a = 92 from UInt8.toNat_inj.1 this]
theorem rune_q {c : ByteArray} {R : Nat} (h : Lib.runeCells (R : Int) = Lib.strCells c) : isQ c = (decide (R = 39) || decide (R = 92)) := by
  unfold isQ
  rw [Lib.toList_data]
  by_cases h1 : R = 39
  · subst h1
    have e : Lib.runeCells ((39 : Nat) : Int) = [.int .u8 39] := by unfold Lib.runeCells; rw [Lib.encodeRuneZ_one (by decide) (by decide)]; rfl
    rw [e] at h
    rw [strCells_39 h.symm]
    decide
  · by_cases h2 : R = 92
    · subst h2
      have e : Lib.runeCells ((92 : Nat) : Int) = [.int .u8 92] := by unfold Lib.runeCells; rw [Lib.encodeRuneZ_one (by decide) (by decide)]; rfl
      rw [e] at h
      rw [strCells_92 h.symm]
      decide
    · have n1 : (c.data.toList == [39]) = false := by
        rw [beq_eq_false_iff_ne]
        intro e
        have : Lib.strCells c = [.int .u8 39] := by unfold Lib.strCells; rw [e]; rfl
        rw [this] at h
        have := enc_39 h
        omega
      have n2 : (c.data.toList == [92]) = false := by
        rw [beq_eq_false_iff_ne]
        intro e
        have : Lib.strCells c = [.int .u8 92] := by unfold Lib.strCells; rw [e]; rfl
        rw [this] at h
        have := enc_92 h
        omega
      rw [n1, n2]
      simp [h1, h2]
end Go.Proofs.YtabogkonklplcaaGreatDoor

namespace Go.Proofs.YtabogkonklplcaaGreatDoor
open Go.RowKit
set_option linter.unusedSimpArgs false
set_option linter.unusedVariables false
theorem bld_of {B b : Nat} {bs : List Value} {w : World} (h : BldU B b bs w) : Bld B b bs w := .inr h
def CellsKept (w w' : World) : Prop := ∀ (k : Nat) (cur : Array Value) (e : TypeId) (fz : Nat × Nat), w.heap[k]? = some (.cells cur e fz) → w'.heap[k]? = some (.cells cur e fz)
theorem CellsKept.alloc (w : World) (o : Obj) : CellsKept w (w.alloc o) := fun k cur e fz hk => by rw [Below.heap_alloc _ _ _ (heap_lt hk)]; exact hk
theorem CellsKept.iterAt {w : World} {k : Nat} {t : ByteArray} {p : Nat} (hi : w.heap[k]? = some (.stringIter t p)) (q : Nat) : CellsKept w (w.iterAt k t q) := fun j cur e fz hj => by
  have hne : j ≠ k := fun e => by subst e; rw [hi] at hj; cases hj
  rw [Lib.iterAt_other w k j t q hne]; exact hj
theorem bld_kept {B b : Nat} {bs : List Value} {w w' : World} (h : BldU B b bs w) (hk : CellsKept w w') : BldU B b bs w' := by
  obtain ⟨hB, v, hb, ho, hne⟩ := h
  refine ⟨hB, v, hk _ _ _ _ hb, ⟨ho.1, ?_⟩, hne⟩
  rcases ho.2 with h | ⟨g, cap, cur, hv, hg, hh, rest⟩
  · exact .inl h
  · exact .inr ⟨g, cap, cur, hv, hg, hk _ _ _ _ hh, rest⟩
theorem text_cells (acc c : ByteArray) : Lib.strCells (textStep acc c) = (if isQ c then Lib.strCells acc ++ [.int .u8 92] else Lib.strCells acc) ++ Lib.strCells c := by
  unfold textStep
  rw [strCells_append]
  split
  · rw [strCells_append]; rfl
  · rfl
def QuoteInv (B b k : Nat) (w : World) (cs : List ByteArray) (acc : ByteArray) (wr : World) : Prop :=
  ∃ l r, cs = l ++ r ∧ wr.heap[k]? = some (.stringIter (catB cs) (catB l).size) ∧ Below B w wr ∧ B ≤ wr.heap.size ∧ BldU B b (Lib.strCells (l.foldl textStep acc)) wr
theorem quote_end {cs l r : List ByteArray} (h : cs = l ++ r) (hc : ∀ c ∈ cs, IsCh c) (hp : ¬ (catB l).size < (catB cs).size) : l = cs := by
  cases r with
  | nil => simpa using h.symm
  | cons c r =>
    exfalso
    subst h
    obtain ⟨R, _, _, _, h4, _⟩ := decode_place l c r (hc c (by simp))
    exact hp h4
theorem quote_next {cs l r : List ByteArray} (h : cs = l ++ r) (hc : ∀ c ∈ cs, IsCh c) (hp : (catB l).size < (catB cs).size) :
    ∃ c r', r = c :: r' ∧ ∃ R : Nat, Utf8.decode (catB cs) (catB l).size = (R, c.size) ∧ Lib.runeCells (R : Int) = Lib.strCells c ∧ R ≤ 2147483647 ∧ (catB (l ++ [c])).size = (catB l).size + c.size ∧ c.size ≠ 0 := by
  cases r with
  | nil => subst h; simp at hp
  | cons c r =>
    subst h
    obtain ⟨R, h1, h2, h3, _, h5⟩ := decode_place l c r (hc c (by simp))
    exact ⟨c, r, rfl, R, h1, h2, h3, h5, (hc c (by simp)).1⟩
set_option maxRecDepth 20000 in
set_option maxHeartbeats 2000000 in
theorem quoted_any {B b : Nat} {w : World} (cs : List ByteArray) (acc : ByteArray) (h : Bld B b (Lib.strCells acc) w) (hBw : B ≤ w.heap.size) (hc : ∀ c ∈ cs, IsCh c) (hlen : (cs.foldl textStep (acc ++ ⟨#[39]⟩)).size + 10 < lots) (hmono : ∀ l r, cs = l ++ r → (l.foldl textStep (acc ++ ⟨#[39]⟩)).size ≤ (cs.foldl textStep (acc ++ ⟨#[39]⟩)).size) :
    Calls Tryz.prog 176 #[ptr b, .string (catB cs)] w fun e w' => e = .returned (.tuple #[]) ∧ BldU B b (Lib.strCells (cs.foldl textStep (acc ++ ⟨#[39]⟩) ++ ⟨#[39]⟩)) w' ∧ Below B w w' := by
  have hl0 : acc.size < lots := by
    have := hmono [] cs rfl
    simp only [List.foldl_nil, ByteArray.size_append] at this
    omega
  have C0 := hid (bwrite_byte 39 h (by rw [Lib.strCells_length]; exact hl0) hBw)
  rw [show Lib.strCells acc ++ [Value.int .u8 39] = Lib.strCells (acc ++ ⟨#[39]⟩) from by rw [strCells_append]; rfl] at C0
  generalize acc ++ ⟨#[39]⟩ = acc1 at C0 hlen hmono ⊢
  have HC := hid hc
  have HL := hid hlen
  have HM := hid hmono
  clear h hl0 hc hlen hmono
  go_enter Tryz.func176, Tryz.ntmps176
  go_wp2_with (go_at_call 177; refine C0.out.mono ?_)
  rintro e w1 ⟨rfl, hu1, hb1, _⟩
  have hs1 := hb1.size
  go_wp2
  go_loopw [5] (fun _ wr => QuoteInv B b w1.heap.size w cs acc1 wr) (fun _ wr => (catB cs).size - wr.iterPos w1.heap.size)
  case atStart =>
    exact ⟨[], cs, rfl, heap_alloc_new w1 _, hb1.alloc (by omega) _, (by show B ≤ (w1.alloc _).heap.size; rw [World.size_alloc]; omega), bld_kept hu1 (CellsKept.alloc _ _)⟩
  case round =>
    obtain ⟨l, r, hlr, hi, hb, hBr, hu⟩ := hrel
    have hm := HM.out l r hlr
    have hL := HL.out
    by_cases hp : (catB l).size < (catB cs).size
    · obtain ⟨c, r', rfl, R, hd, hR, hR1, hsz, hc0⟩ := quote_next hlr HC.out hp
      have hnx := fun ty => Lib.run_next_any_at (P := Tryz.prog) _ w1.heap.size (catB cs) (catB l).size ty hi hp
      rw [hd] at hnx
      simp only at hnx
      have hq := rune_q hR
      have hm2 := HM.out (l ++ [c]) r' (by rw [hlr]; simp)
      rw [List.foldl_append, List.foldl_cons, List.foldl_nil] at hm2
      have hcl := text_cells (l.foldl textStep acc1) c
      rw [hq] at hcl
      have hts : (textStep (l.foldl textStep acc1) c).size ≥ (l.foldl textStep acc1).size := by
        have := text_mono [c] (l.foldl textStep acc1)
        simpa using this
      have hi2 := Lib.iterAt_heap _ _ (catB cs) _ ((catB l).size + c.size) hi
      have hb2 := Lib.below_iterAt hb (k := w1.heap.size) (by omega) (catB cs) ((catB l).size + c.size)
      have hu2 := bld_kept hu (CellsKept.iterAt hi ((catB l).size + c.size))
      have hB2 : B ≤ (World.iterAt wr w1.heap.size (catB cs) ((catB l).size + c.size)).heap.size := by rw [Lib.iterAt_size]; exact hBr
      have REL := hid (show cs = (l ++ [c]) ++ r' by rw [hlr]; simp)
      have SZ := hid hsz
      have CL := hid hcl
      have hb2s := hb2.size
      have hlen2 : (Lib.strCells (l.foldl textStep acc1)).length < lots := by rw [Lib.strCells_length]; omega
      have hlen3 : (Lib.strCells (l.foldl textStep acc1) ++ [Value.int .u8 92]).length < lots := by rw [List.length_append, Lib.strCells_length]; simp; omega
      have C92 := hid (bwrite_byte 92 (bld_of hu2) hlen2 hB2)
      have CR := hid (bwrite_rune (R : Int) (by omega) (by omega) (bld_of hu2) hlen2 hB2)
      have CR2 := hid (fun (wx : World) (hx : BldU B b (Lib.strCells (l.foldl textStep acc1) ++ [Value.int .u8 92]) wx) (hBx : B ≤ wx.heap.size) => bwrite_rune (R : Int) (by omega) (by omega) (bld_of hx) hlen3 hBx)
      rw [hR] at CR CR2
      have MEAS := hid (show ∀ wx : World, wx.heap[w1.heap.size]? = some (.stringIter (catB cs) ((catB l).size + c.size)) → (catB cs).size - wx.iterPos w1.heap.size < (catB cs).size - (catB l).size from fun wx hx => by rw [iterPos_of hx]; omega)
      have IP := iterPos_of hi
      clear hlr hm hL hu hm2 hcl hts hlen2 hlen3 hR hsz hd hq
      by_cases h39 : R = 39 ∨ R = 92
      · rw [show (decide (R = 39) || decide (R = 92)) = true from by simpa using h39, if_pos rfl] at CL
        rcases h39 with rfl | rfl
        · skip
          go_wp2_with first
            | (go_at_call 177; refine C92.out.mono ?_; rintro e w3 ⟨rfl, hu3, hb3, hk3⟩
               have hs3 := hb3.size
               have C9 := hid (CR2.out w3 hu3 (by omega)))
            | (go_at_call 160; refine C9.out.mono ?_; rintro e w4 ⟨n4, rfl, hu4, hb4, hk4⟩)
          have hi4 := hk4 _ _ _ (hk3 _ _ _ hi2)
          go_roundw
          case rel =>
            refine ⟨l ++ [c], r', REL.out, by rw [SZ.out]; exact hi4, hb2.trans ((hb3.trans hb4).mono (Nat.le_refl _)), by have := hb4.size; omega, ?_⟩
            rw [List.foldl_append, List.foldl_cons, List.foldl_nil, CL.out]
            exact hu4
          case measure =>
            rw [IP]
            exact MEAS.out _ hi4
        · skip
          go_wp2_with first
            | (go_at_call 177; refine C92.out.mono ?_; rintro e w3 ⟨rfl, hu3, hb3, hk3⟩
               have hs3 := hb3.size
               have C9 := hid (CR2.out w3 hu3 (by omega)))
            | (go_at_call 160; refine C9.out.mono ?_; rintro e w4 ⟨n4, rfl, hu4, hb4, hk4⟩)
          have hi4 := hk4 _ _ _ (hk3 _ _ _ hi2)
          go_roundw
          case rel =>
            refine ⟨l ++ [c], r', REL.out, by rw [SZ.out]; exact hi4, hb2.trans ((hb3.trans hb4).mono (Nat.le_refl _)), by have := hb4.size; omega, ?_⟩
            rw [List.foldl_append, List.foldl_cons, List.foldl_nil, CL.out]
            exact hu4
          case measure =>
            rw [IP]
            exact MEAS.out _ hi4
      · have h1 : ((R : Int) == 39) = false := by simp; omega
        have h2 : ((R : Int) == 92) = false := by simp; omega
        rw [show (decide (R = 39) || decide (R = 92)) = false from by simpa using h39, if_neg (by decide)] at CL
        go_wp2_with (go_at_call 160; refine CR.out.mono ?_; rintro e w4 ⟨n4, rfl, hu4, hb4, hk4⟩)
        have hi4 := hk4 _ _ _ hi2
        go_roundw
        case rel =>
          refine ⟨l ++ [c], r', REL.out, by rw [SZ.out]; exact hi4, hb2.trans hb4, by have := hb4.size; omega, ?_⟩
          rw [List.foldl_append, List.foldl_cons, List.foldl_nil, CL.out]
          exact hu4
        case measure =>
          rw [IP]
          exact MEAS.out _ hi4
    · have hnx := fun ty => Lib.run_next_end_at (P := Tryz.prog) _ w1.heap.size (catB cs) (catB l).size ty hi hp
      obtain rfl := quote_end hlr HC.out hp
      have CE := hid (bwrite_byte 39 (bld_of hu) (by rw [Lib.strCells_length]; omega) hBr)
      clear hlr hm hL hu
      go_wp2_with (go_at_call 177; refine CE.out.mono ?_)
      rintro e w3 ⟨rfl, hu3, hb3, _⟩
      go_wp2
      go_end0
      exact ⟨rfl, by rw [strCells_append]; exact hu3, hb.trans (hb3.mono (Nat.le_refl _))⟩
end Go.Proofs.YtabogkonklplcaaGreatDoor

namespace Go.Proofs.YtabogkonklplcaaGreatDoor
open Go.RowKit
set_option linter.unusedSimpArgs false
set_option linter.unusedVariables false
def RunePut (v : Value) (bs : List Value) (w : World) (e : Ending) (w' : World) : Prop :=
  ∃ v', e = .returned v' ∧ w'.ownsRow 0 5 1 v' bs.length bs ∧ (∃ o, (w.alloc o).grownBy w' v.ownBlock) ∧ (v'.ownBlock = v.ownBlock ∨ v'.ownBlock = some (w.heap.size + 1))
set_option maxHeartbeats 4000000 in
set_option maxRecDepth 100000 in
theorem nonascii_two (a0 : Option Addr) (n0 p0 : Nat) (bs : List Value) (r : Int) (h0 : 128 ≤ r) (h1 : r ≤ 2047) (w : World) (hown : w.ownsRow 0 5 1 (.slice a0 n0 p0) bs.length bs) (hlen : bs.length < lots) :
    Calls Tryz.prog 196 #[.slice a0 n0 p0, .int .i32 r] w (RunePut (.slice a0 n0 p0) (bs ++ [.int .u8 (192 + r / 64), .int .u8 (128 + r % 64)]) w) := by
  obtain ⟨i0, hi, hz0, hz1, hz2⟩ := info_parts Tryz.info5
  unfold lots at hlen
  go_enter Tryz.func196, Tryz.ntmps196
  go_wp2_with (at_builtin; refine wpList_append_own_at _ rfl _ _ 217 rfl 0 5 i0 (.int .u8 0) 1 1 Tryz.underlying217 hi hz0 hz1 hz2 rfl (by decide) (.slice a0 n0 p0) _ _ rfl (hown.alloc _) ⟨w.heap.size, 0, none⟩ 2 2 [.int .u8 (192 + r / 64), .int .u8 (128 + r % 64)] rfl rfl ?c1 (by simp [Value.oneCell']) (by unfold maxLen; omega) (by omega) (Nat.zero_le _) ?_)
  case c1 =>
    intro j u hj
    match j, hj with
    | 0, hj => simp at hj; subst hj; simp [Addr.add]
    | 1, hj => simp at hj; subst hj; simp [Addr.add]
    | (j + 2), hj => simp at hj
  intro v' w2 hown' hgrow _ hat
  go_wp2
  go_ret
  exact ⟨_, rfl, by simpa using hown', ⟨_, hgrow⟩, by simpa using hat⟩
set_option maxHeartbeats 4000000 in
set_option maxRecDepth 100000 in
theorem nonascii_three (a0 : Option Addr) (n0 p0 : Nat) (bs : List Value) (r : Int) (h0 : 2048 ≤ r) (h1 : r < 55296) (w : World) (hown : w.ownsRow 0 5 1 (.slice a0 n0 p0) bs.length bs) (hlen : bs.length < lots) :
    Calls Tryz.prog 196 #[.slice a0 n0 p0, .int .i32 r] w (RunePut (.slice a0 n0 p0) (bs ++ [.int .u8 (224 + r / 4096), .int .u8 (128 + r / 64 % 64), .int .u8 (128 + r % 64)]) w) := by
  obtain ⟨i0, hi, hz0, hz1, hz2⟩ := info_parts Tryz.info5
  unfold lots at hlen
  go_enter Tryz.func196, Tryz.ntmps196
  go_wp2_with (at_builtin; refine wpList_append_own_at _ rfl _ _ 217 rfl 0 5 i0 (.int .u8 0) 1 1 Tryz.underlying217 hi hz0 hz1 hz2 rfl (by decide) (.slice a0 n0 p0) _ _ rfl (hown.alloc _) ⟨w.heap.size, 0, none⟩ 3 3 [.int .u8 (224 + r / 4096), .int .u8 (128 + r / 64 % 64), .int .u8 (128 + r % 64)] rfl rfl ?c1 (by simp [Value.oneCell']) (by unfold maxLen; omega) (by omega) (Nat.zero_le _) ?_)
  case c1 =>
    intro j u hj
    match j, hj with
    | 0, hj => simp at hj; subst hj; simp [Addr.add]
    | 1, hj => simp at hj; subst hj; simp [Addr.add]
    | 2, hj => simp at hj; subst hj; simp [Addr.add]
    | (j + 3), hj => simp at hj
  intro v' w2 hown' hgrow _ hat
  go_wp2
  go_ret
  exact ⟨_, rfl, by simpa using hown', ⟨_, hgrow⟩, by simpa using hat⟩
set_option maxHeartbeats 4000000 in
set_option maxRecDepth 100000 in
theorem nonascii_sur (a0 : Option Addr) (n0 p0 : Nat) (bs : List Value) (r : Int) (h0 : 55296 ≤ r) (h1 : r ≤ 57343) (w : World) (hown : w.ownsRow 0 5 1 (.slice a0 n0 p0) bs.length bs) (hlen : bs.length < lots) :
    Calls Tryz.prog 196 #[.slice a0 n0 p0, .int .i32 r] w (RunePut (.slice a0 n0 p0) (bs ++ [.int .u8 239, .int .u8 191, .int .u8 189]) w) := by
  obtain ⟨i0, hi, hz0, hz1, hz2⟩ := info_parts Tryz.info5
  unfold lots at hlen
  go_enter Tryz.func196, Tryz.ntmps196
  go_wp2_with (at_builtin; refine wpList_append_own_at _ rfl _ _ 217 rfl 0 5 i0 (.int .u8 0) 1 1 Tryz.underlying217 hi hz0 hz1 hz2 rfl (by decide) (.slice a0 n0 p0) _ _ rfl (hown.alloc _) ⟨w.heap.size, 0, none⟩ 3 3 [.int .u8 239, .int .u8 191, .int .u8 189] rfl rfl ?c1 (by simp [Value.oneCell']) (by unfold maxLen; omega) (by omega) (Nat.zero_le _) ?_)
  all_goals first
    | (intro v' w2 hown' hgrow _ hat; go_wp2; go_ret; exact ⟨_, rfl, by simpa using hown', ⟨_, hgrow⟩, by simpa using hat⟩)
    | (intro j u hj
       match j, hj with
       | 0, hj => simp at hj; subst hj; simp [Addr.add]
       | 1, hj => simp at hj; subst hj; simp [Addr.add]
       | 2, hj => simp at hj; subst hj; simp [Addr.add]
       | (j + 3), hj => simp at hj)
set_option maxHeartbeats 4000000 in
set_option maxRecDepth 100000 in
theorem nonascii_hi (a0 : Option Addr) (n0 p0 : Nat) (bs : List Value) (r : Int) (h0 : 57343 < r) (h1 : r ≤ 65535) (w : World) (hown : w.ownsRow 0 5 1 (.slice a0 n0 p0) bs.length bs) (hlen : bs.length < lots) :
    Calls Tryz.prog 196 #[.slice a0 n0 p0, .int .i32 r] w (RunePut (.slice a0 n0 p0) (bs ++ [.int .u8 (224 + r / 4096), .int .u8 (128 + r / 64 % 64), .int .u8 (128 + r % 64)]) w) := by
  obtain ⟨i0, hi, hz0, hz1, hz2⟩ := info_parts Tryz.info5
  unfold lots at hlen
  go_enter Tryz.func196, Tryz.ntmps196
  go_wp2_with (at_builtin; refine wpList_append_own_at _ rfl _ _ 217 rfl 0 5 i0 (.int .u8 0) 1 1 Tryz.underlying217 hi hz0 hz1 hz2 rfl (by decide) (.slice a0 n0 p0) _ _ rfl (hown.alloc _) ⟨w.heap.size, 0, none⟩ 3 3 [.int .u8 (224 + r / 4096), .int .u8 (128 + r / 64 % 64), .int .u8 (128 + r % 64)] rfl rfl ?c1 (by simp [Value.oneCell']) (by unfold maxLen; omega) (by omega) (Nat.zero_le _) ?_)
  case c1 =>
    intro j u hj
    match j, hj with
    | 0, hj => simp at hj; subst hj; simp [Addr.add]
    | 1, hj => simp at hj; subst hj; simp [Addr.add]
    | 2, hj => simp at hj; subst hj; simp [Addr.add]
    | (j + 3), hj => simp at hj
  intro v' w2 hown' hgrow _ hat
  go_wp2
  go_ret
  exact ⟨_, rfl, by simpa using hown', ⟨_, hgrow⟩, by simpa using hat⟩
set_option maxHeartbeats 4000000 in
set_option maxRecDepth 100000 in
theorem nonascii_four (a0 : Option Addr) (n0 p0 : Nat) (bs : List Value) (r : Int) (h0 : 65536 ≤ r) (h1 : r ≤ 1114111) (w : World) (hown : w.ownsRow 0 5 1 (.slice a0 n0 p0) bs.length bs) (hlen : bs.length < lots) :
    Calls Tryz.prog 196 #[.slice a0 n0 p0, .int .i32 r] w (RunePut (.slice a0 n0 p0) (bs ++ [.int .u8 (240 + r / 262144), .int .u8 (128 + r / 4096 % 64), .int .u8 (128 + r / 64 % 64), .int .u8 (128 + r % 64)]) w) := by
  obtain ⟨i0, hi, hz0, hz1, hz2⟩ := info_parts Tryz.info5
  unfold lots at hlen
  go_enter Tryz.func196, Tryz.ntmps196
  go_wp2_with (at_builtin; refine wpList_append_own_at _ rfl _ _ 217 rfl 0 5 i0 (.int .u8 0) 1 1 Tryz.underlying217 hi hz0 hz1 hz2 rfl (by decide) (.slice a0 n0 p0) _ _ rfl (hown.alloc _) ⟨w.heap.size, 0, none⟩ 4 4 [.int .u8 (240 + r / 262144), .int .u8 (128 + r / 4096 % 64), .int .u8 (128 + r / 64 % 64), .int .u8 (128 + r % 64)] rfl rfl ?c1 (by simp [Value.oneCell']) (by unfold maxLen; omega) (by omega) (Nat.zero_le _) ?_)
  case c1 =>
    intro j u hj
    match j, hj with
    | 0, hj => simp at hj; subst hj; simp [Addr.add]
    | 1, hj => simp at hj; subst hj; simp [Addr.add]
    | 2, hj => simp at hj; subst hj; simp [Addr.add]
    | 3, hj => simp at hj; subst hj; simp [Addr.add]
    | (j + 4), hj => simp at hj
  intro v' w2 hown' hgrow _ hat
  go_wp2
  go_ret
  exact ⟨_, rfl, by simpa using hown', ⟨_, hgrow⟩, by simpa using hat⟩
set_option maxHeartbeats 4000000 in
set_option maxRecDepth 100000 in
theorem nonascii_big (a0 : Option Addr) (n0 p0 : Nat) (bs : List Value) (r : Int) (h0 : 1114111 < r) (h1 : r ≤ 2147483647) (w : World) (hown : w.ownsRow 0 5 1 (.slice a0 n0 p0) bs.length bs) (hlen : bs.length < lots) :
    Calls Tryz.prog 196 #[.slice a0 n0 p0, .int .i32 r] w (RunePut (.slice a0 n0 p0) (bs ++ [.int .u8 239, .int .u8 191, .int .u8 189]) w) := by
  obtain ⟨i0, hi, hz0, hz1, hz2⟩ := info_parts Tryz.info5
  unfold lots at hlen
  go_enter Tryz.func196, Tryz.ntmps196
  go_wp2_with (at_builtin; refine wpList_append_own_at _ rfl _ _ 217 rfl 0 5 i0 (.int .u8 0) 1 1 Tryz.underlying217 hi hz0 hz1 hz2 rfl (by decide) (.slice a0 n0 p0) _ _ rfl (hown.alloc _) ⟨w.heap.size, 0, none⟩ 3 3 [.int .u8 239, .int .u8 191, .int .u8 189] rfl rfl ?c1 (by simp [Value.oneCell']) (by unfold maxLen; omega) (by omega) (Nat.zero_le _) ?_)
  case c1 =>
    intro j u hj
    match j, hj with
    | 0, hj => simp at hj; subst hj; simp [Addr.add]
    | 1, hj => simp at hj; subst hj; simp [Addr.add]
    | 2, hj => simp at hj; subst hj; simp [Addr.add]
    | (j + 3), hj => simp at hj
  intro v' w2 hown' hgrow _ hat
  go_wp2
  go_ret
  exact ⟨_, rfl, by simpa using hown', ⟨_, hgrow⟩, by simpa using hat⟩
theorem nonascii_at (a0 : Option Addr) (n0 p0 : Nat) (bs : List Value) (r : Int) (h0 : 128 ≤ r) (h1 : r ≤ 2147483647) (w : World) (hown : w.ownsRow 0 5 1 (.slice a0 n0 p0) bs.length bs) (hlen : bs.length < lots) :
    Calls Tryz.prog 196 #[.slice a0 n0 p0, .int .i32 r] w (RunePut (.slice a0 n0 p0) (bs ++ Lib.runeCells r) w) := by
  by_cases c1 : r ≤ 2047
  · rw [show Lib.runeCells r = [.int .u8 (192 + r / 64), .int .u8 (128 + r % 64)] by simp [Lib.runeCells, Lib.encodeRuneZ_two (by omega) c1]]
    exact nonascii_two a0 n0 p0 bs r (by omega) (by omega) w hown hlen
  by_cases c2 : r < 55296
  · rw [show Lib.runeCells r = [.int .u8 (224 + r / 4096), .int .u8 (128 + r / 64 % 64), .int .u8 (128 + r % 64)] by simp [Lib.runeCells, Lib.encodeRuneZ_three (Or.inl ⟨by omega, c2⟩)]]
    exact nonascii_three a0 n0 p0 bs r (by omega) (by omega) w hown hlen
  by_cases c3 : r ≤ 57343
  · rw [show Lib.runeCells r = [.int .u8 239, .int .u8 191, .int .u8 189] by simp [Lib.runeCells, Lib.encodeRuneZ_bad (Or.inr (Or.inl ⟨by omega, c3⟩))]]
    exact nonascii_sur a0 n0 p0 bs r (by omega) (by omega) w hown hlen
  by_cases c4 : r ≤ 65535
  · rw [show Lib.runeCells r = [.int .u8 (224 + r / 4096), .int .u8 (128 + r / 64 % 64), .int .u8 (128 + r % 64)] by simp [Lib.runeCells, Lib.encodeRuneZ_three (Or.inr ⟨by omega, c4⟩)]]
    exact nonascii_hi a0 n0 p0 bs r (by omega) (by omega) w hown hlen
  by_cases c5 : r ≤ 1114111
  · rw [show Lib.runeCells r = [.int .u8 (240 + r / 262144), .int .u8 (128 + r / 4096 % 64), .int .u8 (128 + r / 64 % 64), .int .u8 (128 + r % 64)] by simp [Lib.runeCells, Lib.encodeRuneZ_four (by omega) c5]]
    exact nonascii_four a0 n0 p0 bs r (by omega) (by omega) w hown hlen
  · rw [show Lib.runeCells r = [.int .u8 239, .int .u8 191, .int .u8 189] by simp [Lib.runeCells, Lib.encodeRuneZ_bad (r := r) (Or.inr (Or.inr (by omega)))]]
    exact nonascii_big a0 n0 p0 bs r (by omega) (by omega) w hown hlen
set_option maxHeartbeats 4000000 in
set_option maxRecDepth 100000 in
theorem appendRune_at (a0 : Option Addr) (n0 p0 : Nat) (bs : List Value) (r : Int) (h0 : 0 ≤ r) (h1 : r ≤ 2147483647) (w : World) (hown : w.ownsRow 0 5 1 (.slice a0 n0 p0) bs.length bs) (hlen : bs.length < lots) :
    Calls Tryz.prog 185 #[.slice a0 n0 p0, .int .i32 r] w (RunePut (.slice a0 n0 p0) (bs ++ Lib.runeCells r) w) := by
  by_cases c : r ≤ 127
  · obtain ⟨i0, hi, hz0, hz1, hz2⟩ := info_parts Tryz.info5
    unfold lots at hlen
    rw [show Lib.runeCells r = [.int .u8 r] by simp [Lib.runeCells, Lib.encodeRuneZ_one h0 c]]
    go_enter Tryz.func185, Tryz.ntmps185
    go_wp2_with (at_builtin; refine wpList_append_own_at _ rfl _ _ 217 rfl 0 5 i0 (.int .u8 0) 1 1 Tryz.underlying217 hi hz0 hz1 hz2 rfl (by decide) (.slice a0 n0 p0) _ _ rfl (hown.alloc _) ⟨w.heap.size, 0, none⟩ 1 1 [.int .u8 r] rfl rfl ?c1 (by simp [Value.oneCell']) (by unfold maxLen; omega) (by omega) (Nat.zero_le _) ?_)
    case c1 =>
      intro j u hj
      match j, hj with
      | 0, hj => simp at hj; subst hj; simp [Addr.add]
      | (j + 1), hj => simp at hj
    intro v' w2 hown' hgrow _ hat
    go_wp2
    go_ret
    exact ⟨_, rfl, by simpa using hown', ⟨_, hgrow⟩, by simpa using hat⟩
  · have C := hid (nonascii_at a0 n0 p0 bs r (by omega) h1 w hown hlen)
    clear hown
    go_enter Tryz.func185, Tryz.ntmps185
    go_wp2_with (go_at_call 196; refine C.out.mono ?_)
    rintro e w1 ⟨v', rfl, h1, h2⟩
    go_wp2
    go_ret
    exact ⟨_, rfl, h1, h2⟩
def BldV (b : Nat) (v : Value) (bs : List Value) (w : World) : Prop :=
  (w.heap[b]? = some (.cells #[.pointer none, v] 219 (0, 0)) ∨ w.heap[b]? = some (.cells #[ptr b, v] 219 (0, 0))) ∧ w.ownsRow 0 5 1 v bs.length bs ∧ v.ownBlock ≠ some b
theorem BldV.keeps {b : Nat} {v : Value} {bs : List Value} {w w' : World} {F : Nat → Prop} (h : BldV b v bs w) (hk : Keeps F w w') (hb : ¬ F b) (hv : ∀ k, v.ownBlock = some k → ¬ F k) : BldV b v bs w' := by
  obtain ⟨h1, h2, h3⟩ := h
  refine ⟨?_, hk.row h2 hv, h3⟩
  rcases h1 with h1 | h1
  · exact .inl (by rw [hk.block b (heap_lt h1) hb]; exact h1)
  · exact .inr (by rw [hk.block b (heap_lt h1) hb]; exact h1)
theorem BldV.lt {b : Nat} {v : Value} {bs : List Value} {w : World} (h : BldV b v bs w) : b < w.heap.size := h.1.elim heap_lt heap_lt
theorem bcheckV {b : Nat} {v : Value} {bs : List Value} {w : World} (h : BldV b v bs w) :
    Calls Tryz.prog 184 #[ptr b] w fun e w' => e = .returned (.tuple #[]) ∧ w'.heap[b]? = some (.cells #[ptr b, v] 219 (0, 0)) ∧ w'.ownsRow 0 5 1 v bs.length bs ∧ Keeps (fun k => k = b) w w' ∧ IterKept w w' ∧ w'.heap.size = w.heap.size := by
  obtain ⟨h1, h2, h3⟩ := h
  rcases h1 with h1 | h1
  · have hf : Lib.BuilderAt 219 5 0 b (.pointer none) bs w := ⟨Nat.zero_le _, v, h1, h2, h3⟩
    refine (bcheck_fresh b w hf.cell0 hf.shape hf.frozen0).mono ?_
    rintro e w' ⟨rfl, rfl⟩
    have hk := (Keeps.refl (fun k => k = b) w).setCell (p := ⟨b, 0, none⟩) (.inl rfl) (ptr b)
    exact ⟨rfl, by rw [heap_setCell_same w _ 0 _ _ _ h1]; rfl, hk.row h2 (fun k e e2 => h3 (e2 ▸ e)), hk, IterKept.setCell _ h1, by simp⟩
  · refine (bcheck_used b w (cell_of_heap h1 0)).mono ?_
    rintro e w' ⟨rfl, rfl⟩
    exact ⟨rfl, h1, h2, Keeps.refl _ _, IterKept.refl _, rfl⟩
def RuneV (b : Nat) (v : Value) (bs : List Value) (w : World) (e : Ending) (w' : World) : Prop :=
  ∃ (n : Int) (v' : Value), e = .returned (.tuple #[.int .i64 n, .nilIface]) ∧ BldV b v' bs w' ∧ Keeps (fun k => k = b ∨ v.ownBlock = some k) w w' ∧ (∀ k, v'.ownBlock = some k → v.ownBlock = some k ∨ w.heap.size ≤ k) ∧ IterKept w w'
set_option maxHeartbeats 2000000 in
set_option maxRecDepth 100000 in
theorem bruneV {b : Nat} {v : Value} {bs : List Value} (r : Int) (hr0 : 0 ≤ r) (hr1 : r ≤ 2147483647) {w : World} (h : BldV b v bs w) (hlen : bs.length < lots) :
    Calls Tryz.prog 160 #[ptr b, .int .i32 r] w (RuneV b v (bs ++ Lib.runeCells r) w) := by
  have C := hid (bcheckV h)
  have hne := h.2.2
  have hbl := h.lt
  clear h
  go_enter Tryz.func160, Tryz.ntmps160
  go_wp2_with (go_at_call 184; refine C.out.mono ?_)
  rintro e w1 ⟨rfl, hbk, hown, hk1, hi1, hs1⟩
  obtain ⟨a0, n0, p0, rfl⟩ := bld_slice hown
  have c1 : w1.cell? ⟨b, 1, none⟩ = some (.slice a0 n0 p0) := cell_of_heap hbk 1
  have A1 := hid (appendRune_at a0 n0 p0 bs r hr0 hr1 w1 hown hlen)
  have H1 := hid (And.intro hbk (And.intro hown (And.intro hk1 hi1)))
  have HS := hid hs1
  clear hbk hown hk1 hi1 hs1
  go_wp2_with (go_at_call 185; refine A1.out.mono ?_)
  rintro e w2 ⟨v', rfl, hown', ⟨o, hgrow⟩, hat⟩
  obtain ⟨hbk, hown, hk1, hi1⟩ := H1.out
  have hs1 := HS.out
  have hbk' : (w1.alloc o).heap[b]? = some (.cells #[ptr b, .slice a0 n0 p0] 219 (0, 0)) := by rw [Below.heap_alloc _ _ _ (heap_lt hbk)]; exact hbk
  have hb2 : w2.heap[b]? = some (.cells #[ptr b, .slice a0 n0 p0] 219 (0, 0)) := by
    rw [hgrow.block b (heap_lt hbk') (fun e => hne e.symm)]
    exact hbk'
  have hk2 : Keeps (fun k => k = b ∨ (Value.slice a0 n0 p0).ownBlock = some k) w w2 :=
    ((hk1.mono (fun k _ e => .inl e)).alloc o).trans (Keeps.grown hgrow (fun k e => .inl (.inl (.inr e))))
  have hi2 : IterKept w w2 := (hi1.trans (IterKept.alloc _ _)).trans (IterKept.grown (hown.alloc o) hgrow)
  have hgain : ∀ k, v'.ownBlock = some k → (Value.slice a0 n0 p0).ownBlock = some k ∨ w.heap.size ≤ k := by
    intro k e
    rcases hat with h | h
    · exact .inl (h ▸ e)
    · rw [h] at e
      cases e
      exact .inr (by omega)
  have hne' : v'.ownBlock ≠ some b := by
    rcases hat with h | h
    · rw [h]; exact hne
    · rw [h]; intro e; cases e; omega
  obtain ⟨ao, n', cap, rfl⟩ := bld_slice (bs := bs ++ Lib.runeCells r) hown'
  have d1 : w2.cell? ⟨b, 1, none⟩ = some (.slice a0 n0 p0) := cell_of_heap hb2 1
  have f1 : w2.frozen? ⟨b, 1, none⟩ = false := frozen_of_heap hb2 1
  have P := hid (And.intro hb2 (And.intro hk2 (And.intro hi2 (And.intro hgain (And.intro hne' hown')))))
  clear hown' hgrow hbk' hown hbk hb2 hk2 hi2 hgain hne' hk1 hi1 hs1 hat
  go_wp2
  go_ret2
  obtain ⟨hb2, hk2, hi2, hgain, hne', hown'⟩ := P.out
  have hk3 := (Keeps.refl (fun k => k = b) w2).setCell (p := ⟨b, 1, none⟩) (.inl rfl) (.slice ao n' cap)
  refine ⟨_, _, rfl, ⟨.inr ?_, hk3.row hown' (fun k e e2 => hne' (e2 ▸ e)), hne'⟩, hk2.setCell (p := ⟨b, 1, none⟩) (.inl (.inl rfl)) _, hgain, hi2.trans (IterKept.setCell _ hb2)⟩
  rw [heap_setCell_same w2 _ 1 _ _ _ hb2]
  rfl
end Go.Proofs.YtabogkonklplcaaGreatDoor

namespace Go.Proofs.YtabogkonklplcaaGreatDoor
open Go.RowKit
set_option linter.unusedSimpArgs false
set_option linter.unusedVariables false
theorem keeps_freeze {F : Nat → Prop} {a w : World} (h : Keeps F a w) {p : Addr} (hp : F p.block) (n : Nat) : Keeps F a (w.freeze p n) := by
  refine h.trans (Keeps.mono (F := F) ?_ (fun k _ e => .inl e))
  unfold World.freeze
  split
  · exact Keeps.refl _ _
  · exact ⟨rfl, rfl, rfl, by simp, fun k hk hF => by
      simp only [Array.getElem?_modify]
      rw [if_neg (fun e => hF (by rw [← e]; exact hp))]⟩
theorem Tryz.cellsByte : Tryz.prog.cellsOf 5 = 1 := by kernel_rfl
set_option maxHeartbeats 2000000 in
set_option maxRecDepth 100000 in
theorem bstringV {b : Nat} {v : Value} (l : List UInt8) {w : World} (h : BldV b v (Lib.byteCells l) w) :
    Calls Tryz.prog 148 #[ptr b] w fun e w' => e = .returned (.string ⟨l.toArray⟩) ∧ Keeps (fun k => v.ownBlock = some k) w w' := by
  obtain ⟨h1, hown, hne⟩ := h
  obtain ⟨p, hbk⟩ : ∃ p, w.heap[b]? = some (.cells #[p, v] 219 (0, 0)) := h1.elim (fun h => ⟨_, h⟩) (fun h => ⟨_, h⟩)
  clear h1
  have hlt := heap_lt hbk
  rw [Lib.byteCells_length] at hown
  by_cases h0 : l = []
  · subst h0
    have hUS := fun (W : World) (q : Option Addr) => Lib.run_unsafeString_none (P := Tryz.prog) W 252 3 9 q
    rcases hown.2 with ⟨rfl, _⟩ | ⟨g, cap, cur, rfl, hbg, hg, _, _, _, _⟩
    · have c1 : w.drew.cell? ⟨b, 1, none⟩ = some (.slice none 0 0) := cell_of_heap (w := w.drew) hbk 1
      have hSD : (Builtin.unsafeSliceData_ #[217] 252 #[.slice none 0 0]).run Tryz.prog w.drew = .ok (.pointer none) w.drew := rfl
      clear hown hbk
      go_enter Tryz.func148, Tryz.ntmps148
      go_wp2
      go_region
      all_goals (go_wp2; go_ret; exact ⟨rfl, (Keeps.refl _ w).drew⟩)
    · by_cases hc0 : cap = 0
      · subst hc0
        have c0 : w.cell? ⟨b, 1, none⟩ = some (.slice (some ⟨g, 0, none⟩) 0 0) := cell_of_heap hbk 1
        have c1 : w.drew.cell? ⟨b, 1, none⟩ = some (.slice (some ⟨g, 0, none⟩) 0 0) := c0
        have hSD : (Builtin.unsafeSliceData_ #[217] 252 #[.slice (some ⟨g, 0, none⟩) 0 0]).run Tryz.prog w.drew = .ok (.pointer (some ⟨w.drew.heap.size, 0, none⟩)) (w.drew.alloc (.view ⟨g, 0, none⟩ 5)) :=
          Lib.run_unsafeSliceData_zero w.drew _ _ 5 Tryz.underlying252 ⟨g, 0, none⟩ 0 (5, cur.size) (by have hg' : w.drew.heap[g]? = some (.cells cur 5 (0, 0)) := hg; simp [World.shape?, hg'])
        have c2 : (w.drew.alloc (.view ⟨g, 0, none⟩ 5)).cell? ⟨b, 1, none⟩ = some (.slice (some ⟨g, 0, none⟩) 0 0) := by
          have : (w.drew.alloc (.view ⟨g, 0, none⟩ 5)).heap[b]? = _ := (Below.heap_alloc w.drew _ b hlt).trans hbk
          exact cell_of_heap this 1
        have c3 : (w.alloc (.view ⟨g, 0, none⟩ 5)).drew.cell? ⟨b, 1, none⟩ = some (.slice (some ⟨g, 0, none⟩) 0 0) := c2
        clear hown hbk hg
        go_enter Tryz.func148, Tryz.ntmps148
        go_wp2
        go_region
        all_goals (go_wp2; go_ret; exact ⟨rfl, ((Keeps.refl _ w).drew).alloc _⟩)
      · have c1 : w.drew.cell? ⟨b, 1, none⟩ = some (.slice (some ⟨g, 0, none⟩) 0 cap) := cell_of_heap (w := w.drew) hbk 1
        have hSD : (Builtin.unsafeSliceData_ #[217] 252 #[.slice (some ⟨g, 0, none⟩) 0 cap]).run Tryz.prog w.drew = .ok (.pointer (some ⟨g, 0, none⟩)) w.drew := Lib.run_unsafeSliceData_row _ _ _ _ _ _ hc0
        clear hown hbk hg hc0
        go_enter Tryz.func148, Tryz.ntmps148
        go_wp2
        go_region
        all_goals (go_wp2; go_ret; exact ⟨rfl, (Keeps.refl _ w).drew⟩)
  · have hl0 : l.length ≠ 0 := by simpa using h0
    obtain ⟨g, cap, cur, rfl, hbg, hg, hnc, hcm, hcs, htake⟩ : ∃ g cap cur, v = .slice (some ⟨g, 0, none⟩) l.length cap ∧ 0 ≤ g ∧ w.heap[g]? = some (.cells cur 5 (0, 0)) ∧ l.length ≤ cap ∧ cap ≤ maxLen ∧ cur.size = cap * 1 ∧ cur.toList.take (l.length * 1) = Lib.byteCells l := by
      rcases hown.2 with ⟨_, hz⟩ | ⟨g, cap, cur, hv, r⟩
      · exact absurd hz hl0
      · exact ⟨g, cap, cur, hv, r⟩
    have c1 : w.drew.cell? ⟨b, 1, none⟩ = some (.slice (some ⟨g, 0, none⟩) l.length cap) := cell_of_heap (w := w.drew) hbk 1
    have hSD : (Builtin.unsafeSliceData_ #[217] 252 #[.slice (some ⟨g, 0, none⟩) l.length cap]).run Tryz.prog w.drew = .ok (.pointer (some ⟨g, 0, none⟩)) w.drew := Lib.run_unsafeSliceData_row _ _ _ _ _ _ (by omega)
    have hUS : (Builtin.unsafeString_ #[252, 3] 9 #[.pointer (some ⟨g, 0, none⟩), .int .i64 l.length]).run Tryz.prog w.drew = .ok (.string ⟨l.toArray⟩) (w.drew.freeze ⟨g, 0, none⟩ l.length) := by
      refine Lib.run_unsafeString_row w.drew 252 3 9 5 Tryz.underlying252 Tryz.cellsByte g cur.size (by have hg' : w.drew.heap[g]? = some (.cells cur 5 (0, 0)) := hg; simp [World.shape?, hg']) l h0 (by omega) (by unfold maxLen at hcm; omega) ?_
      intro j x hx
      have := hown.cells (g := g) rfl j (.int .u8 x.toNat) (by simp [Lib.byteCells, hx])
      exact this
    have HK := hid (keeps_freeze (F := fun k => (Value.slice (some ⟨g, 0, none⟩) l.length cap).ownBlock = some k) ((Keeps.refl _ w).drew) (p := ⟨g, 0, none⟩) rfl l.length)
    clear hown hbk hg hnc hcm hcs htake
    go_enter Tryz.func148, Tryz.ntmps148
    go_wp2
    go_region
    all_goals (go_wp2; go_ret; exact ⟨rfl, HK.out⟩)
end Go.Proofs.YtabogkonklplcaaGreatDoor

namespace Go.Proofs.YtabogkonklplcaaGreatDoor
open Go.RowKit Go.Extern.Stop Go.Stop Go.Extern
set_option linter.unusedSimpArgs false
set_option linter.unusedVariables false
theorem fa_noIsR (v : Value) (w : World) : (Instr.typeAssert (.iface 145 v) 29 151 true).run Tryz.prog w = .ok (.tuple #[.nilIface, .bool false]) w := run_typeAssert_lacksB Tryz.underlying151 (by kernel_rfl) (by kernel_rfl) v _ w
theorem eq_refP (u : Value) (y : Int) (w : World) : (binOp .eql 29 (.iface 145 u) (.iface 30 (.int .i64 y))).run Tryz.prog w = .ok (.bool false) w := by kernel_rfl
set_option maxRecDepth 20000 in
set_option maxHeartbeats 4000000 in
theorem is_refYes (n y z : Int) (he : ∀ w, (binOp .eql 29 (.iface 30 (.int .i64 y)) (.iface 30 (.int .i64 z))).run Tryz.prog w = .ok (.bool true) w) (w : World) : Calls Tryz.prog 22 #[refusalV n y, .iface 30 (.int .i64 z)] w fun e w' => e = .returned (.bool true) ∧ Below w.heap.size w w' := by
  have h10 := fx_h10
  have tO := fa_typeOfP
  have tC := fa_cmpP
  have ni := fa_noIsR
  have nu := fa_unwR
  have e1 := eq_refP
  go_enter Tryz.func22, Tryz.ntmps22
  go_wp2
  refine wp_loop_rounds 2 ?_
  rw [rounds_succ]
  go_wp2
  rw [rounds_succ]
  go_wp2
  go_ret
  exact ⟨rfl, by go_grown⟩
end Go.Proofs.YtabogkonklplcaaGreatDoor
