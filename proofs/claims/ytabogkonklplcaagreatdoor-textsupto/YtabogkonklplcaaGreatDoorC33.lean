import Derived.Test.YtabogkonklplcaaGreatDoorC32
import Derived.Test.YtabogkonklplcaaGreatDoorC21
import Derived.Test.YtabogkonklplcaaGreatDoorC28
import Derived.Test.YtabogkonklplcaaGreatDoorC30
import Derived.Test.YtabogkonklplcaaGreatDoorC22

/- Where places go when something changes; that they are places then, too. Plain mathematics. -/
namespace Go.Proofs.YtabogkonklplcaaGreatDoor
set_option linter.unusedSimpArgs false
set_option linter.unusedVariables false

/-- Where places go: their nodes and offsets. -/
abbrev Mvf : Type := Int → Int → Int × Int
def shiftF (n o d : Int) : Mvf := fun a b => if a = n ∧ o < b then (a, b + d) else (a, b)
def gatherF (l : List Nat) (p q : Int) (g : Mvf) : Mvf := fun a b => if (l.map Int.ofNat).contains a then (p, q) else g a b
def resizeF (n o t g : Int) : Mvf := fun a b => if a = n ∧ o < b ∧ b ≤ o + t then (n, o) else shiftF n (o + t) (g - t) a b
def carryF (n o fr : Int) (g : Mvf) : Mvf := fun a b => if a = n ∧ o < b then (fr, b - o) else g a b

def mvSp (f : Mvf) (x : Sp) : Sp := ⟨(f x.a x.b).1, (f x.a x.b).2, (f x.c x.d).1, (f x.c x.d).2⟩

/-- There is such a place. -/
def PlOk (s : List Nd) (a b : Int) : Prop := ∃ n k : Nat, a = (n : Int) ∧ b = (k : Int) ∧ n < s.length ∧ k ≤ sizeAt s n
/-- Both places of a range are there. -/
def SpOk (s : List Nd) (x : Sp) : Prop := PlOk s x.a x.b ∧ PlOk s x.c x.d

theorem sizeAt_set {s : List Nd} {i : Nat} (hi : i < s.length) (x : Nd) (n : Nat) : sizeAt (s.set i x) n = if n = i then sizeN x else sizeAt s n := by
  unfold sizeAt
  by_cases h : n = i
  · subst h
    simp [hi]
  · rw [List.getElem?_set_ne (fun e => h e.symm), if_neg h]
theorem sizeAt_push {s : List Nd} (x : Nd) {n : Nat} (hn : n < s.length) : sizeAt (s ++ [x]) n = sizeAt s n := by
  unfold sizeAt
  rw [List.getElem?_append_left hn]
theorem sizeAt_new (s : List Nd) (x : Nd) : sizeAt (s ++ [x]) s.length = sizeN x := by
  unfold sizeAt
  rw [List.getElem?_append_right (Nat.le_refl _)]
  simp

theorem PlOk.push {s : List Nd} {a b : Int} (h : PlOk s a b) (x : Nd) : PlOk (s ++ [x]) a b := by
  obtain ⟨n, k, rfl, rfl, hn, hk⟩ := h
  exact ⟨n, k, rfl, rfl, by simp; omega, by rw [sizeAt_push x hn]; exact hk⟩

theorem PlOk.insert {s : List Nd} {i j k : Nat} {x y : Nd} (hx : s[i]? = some x) (hy : s[j]? = some y) (hij : i ≠ j) (ht : x.t = false) (hk : k ≤ x.ks.length) {a b : Int} (h : PlOk s a b) :
    PlOk ((s.set i { x with ks := x.ks.take k ++ j :: x.ks.drop k }).set j { y with p := i }) (shiftF i k 1 a b).1 (shiftF i k 1 a b).2 := by
  obtain ⟨n, m, rfl, rfl, hn, hm⟩ := h
  have hi : i < s.length := (List.getElem?_eq_some_iff.1 hx).1
  have hj : j < s.length := (List.getElem?_eq_some_iff.1 hy).1
  have hsz : sizeAt ((s.set i { x with ks := x.ks.take k ++ j :: x.ks.drop k }).set j { y with p := i }) n = if n = i then sizeAt s n + 1 else sizeAt s n := by
    rw [sizeAt_set (by simpa using hj), sizeAt_set hi]
    by_cases h1 : n = j
    · subst h1
      rw [if_pos rfl, if_neg (fun e => hij e.symm), sizeAt_eq hy]
      rfl
    · rw [if_neg h1]
      by_cases h2 : n = i
      · subst h2
        rw [if_pos rfl, if_pos rfl, sizeAt_eq hx, sizeN_elem ht, sizeN_elem (x := { x with ks := x.ks.take k ++ j :: x.ks.drop k }) ht]
        simp; omega
      · rw [if_neg h2, if_neg h2]
  unfold shiftF
  by_cases hc : (n : Int) = (i : Int) ∧ (k : Int) < (m : Int)
  · rw [if_pos hc]
    refine ⟨n, m + 1, rfl, by simp, by simpa using hn, ?_⟩
    rw [hsz, if_pos (by omega)]; omega
  · rw [if_neg hc]
    refine ⟨n, m, rfl, rfl, by simpa using hn, ?_⟩
    rw [hsz]; split <;> omega

theorem PlOk.remove {s : List Nd} {i j m : Nat} {x y : Nd} (hx : s[i]? = some x) (hy : s[j]? = some y) (hij : i ≠ j) (ht : y.t = false) (hm : m < y.ks.length) (l : List Nat) (hjl : j ∉ l) {a b : Int} (h : PlOk s a b) :
    PlOk ((s.set j { y with ks := y.ks.take m ++ y.ks.drop (m + 1) }).set i { x with p := -1 }) (gatherF l j m (shiftF j m (-1)) a b).1 (gatherF l j m (shiftF j m (-1)) a b).2 := by
  obtain ⟨n, o, rfl, rfl, hn, ho⟩ := h
  have hi : i < s.length := (List.getElem?_eq_some_iff.1 hx).1
  have hj : j < s.length := (List.getElem?_eq_some_iff.1 hy).1
  have hsz : ∀ n, sizeAt ((s.set j { y with ks := y.ks.take m ++ y.ks.drop (m + 1) }).set i { x with p := -1 }) n = if n = j then sizeAt s n - 1 else sizeAt s n := by
    intro n
    rw [sizeAt_set (by simpa using hi), sizeAt_set hj]
    by_cases h1 : n = i
    · subst h1
      rw [if_pos rfl, if_neg hij, sizeAt_eq hx]
      rfl
    · rw [if_neg h1]
      by_cases h2 : n = j
      · subst h2
        rw [if_pos rfl, if_pos rfl, sizeAt_eq hy, sizeN_elem ht, sizeN_elem (x := { y with ks := y.ks.take m ++ y.ks.drop (m + 1) }) ht]
        simp; omega
      · rw [if_neg h2, if_neg h2]
  have hsj : sizeAt s j = y.ks.length := by rw [sizeAt_eq hy, sizeN_elem ht]
  unfold gatherF
  split
  · exact ⟨j, m, rfl, rfl, by simpa using hj, by rw [hsz, if_pos rfl, hsj]; omega⟩
  · unfold shiftF
    by_cases hc : (n : Int) = (j : Int) ∧ (m : Int) < (o : Int)
    · rw [if_pos hc]
      obtain rfl : n = j := by omega
      exact ⟨n, o - 1, rfl, by show (o : Int) + -1 = _; omega, by simpa using hn, by rw [hsz, if_pos rfl]; omega⟩
    · rw [if_neg hc]
      refine ⟨n, o, rfl, rfl, by simpa using hn, ?_⟩
      rw [hsz]
      split
      · rename_i e
        subst e
        omega
      · exact ho

theorem PlOk.replace {s : List Nd} {i o c : Nat} {x : Nd} {cs : List ByteArray} {g : Nat} (hx : s[i]? = some x) (ht : x.t = true) (hc : o + c ≤ x.cs.length) (hcs : cs.length = x.cs.length - c + g) {a b : Int} (h : PlOk s a b) :
    PlOk (s.set i { x with cs := cs }) (resizeF i o c g a b).1 (resizeF i o c g a b).2 := by
  obtain ⟨n, m, rfl, rfl, hn, hm⟩ := h
  have hi : i < s.length := (List.getElem?_eq_some_iff.1 hx).1
  have hsi : sizeAt s i = x.cs.length := by rw [sizeAt_eq hx, sizeN_text ht]
  have hsz : ∀ n, sizeAt (s.set i { x with cs := cs }) n = if n = i then cs.length else sizeAt s n := by
    intro n
    rw [sizeAt_set hi, sizeN_text (x := { x with cs := cs }) ht]
  unfold resizeF
  split
  · exact ⟨i, o, rfl, rfl, by simpa using hi, by rw [hsz, if_pos rfl]; omega⟩
  · rename_i h1
    unfold shiftF
    split
    · rename_i h2
      obtain rfl : n = i := by omega
      exact ⟨n, m - c + g, rfl, by show (m : Int) + _ = _; omega, by simpa using hn, by rw [hsz, if_pos rfl]; omega⟩
    · rename_i h2
      refine ⟨n, m, rfl, rfl, by simpa using hn, ?_⟩
      rw [hsz]
      split
      · rename_i e
        subst e
        have : m ≤ o := by
          rcases Nat.lt_or_ge o m with h | h
          · exfalso
            have h3 : ¬ ((m : Int) ≤ (o : Int) + (c : Int)) := fun h4 => h1 ⟨rfl, by omega, h4⟩
            exact h2 ⟨rfl, by omega⟩
          · exact h
        omega
      · exact hm

theorem SpOk.mv {s s' : List Nd} {f : Mvf} (hf : ∀ a b : Int, PlOk s a b → PlOk s' (f a b).1 (f a b).2) {x : Sp} (h : SpOk s x) : SpOk s' (mvSp f x) := ⟨hf _ _ h.1, hf _ _ h.2⟩

/-- No place is far out. -/
theorem PlOk.small {s : List Nd} (wf : WF s) {a b : Int} (h : PlOk s a b) : 0 ≤ b ∧ b ≤ 40 := by
  obtain ⟨n, k, rfl, rfl, hn, hk⟩ := h
  have hx := List.getElem?_eq_getElem hn
  rw [sizeAt_eq hx] at hk
  have := sizeN_le wf hx
  omega

end Go.Proofs.YtabogkonklplcaaGreatDoor

/- The functions that move places, called. -/
namespace Go.Proofs.YtabogkonklplcaaGreatDoor
open Go.RowKit Go.Lib
set_option linter.unusedSimpArgs false
set_option linter.unusedVariables false

abbrev ptwo (w : World) (a0 a1 b0 b1 : Int) : World := (w.alloc (.cells #[.int .i64 a0, .int .i64 a1] 37)).alloc (.cells #[.int .i64 b0, .int .i64 b1] 37)
theorem ptwo_below (w : World) (a0 a1 b0 b1 : Int) : Below w.heap.size w (ptwo w a0 a1 b0 b1) := ((Below.refl _ w).alloc (Nat.le_refl _) _).alloc (by simp) _
theorem ptwo_cells {w w1 : World} {a0 a1 b0 b1 : Int} (hb : Below (ptwo w a0 a1 b0 b1).heap.size (ptwo w a0 a1 b0 b1) w1) :
    w1.heap[w.heap.size]? = some (.cells #[.int .i64 a0, .int .i64 a1] 37 (0, 0)) ∧ w1.heap[w.heap.size + 1]? = some (.cells #[.int .i64 b0, .int .i64 b1] 37 (0, 0)) := by
  constructor
  · rw [hb.block _ (by simp; omega), Below.heap_alloc _ _ _ (by simp), heap_alloc_new]
  · rw [hb.block _ (by simp)]
    have := heap_alloc_new (w.alloc (.cells #[.int .i64 a0, .int .i64 a1] 37)) (.cells #[.int .i64 b0, .int .i64 b1] 37)
    simpa using this

/-- A function that moves places so, in whatever world has what it leans on (blocks from m on). -/
structure MoveOk (m : Nat) (w : World) (mv : Value) (f : Mvf) : Prop where
  runs : ∃ (gf : Nat) (lb : Array Value), mv = .func (.func gf) #[] lb ∧ (∀ args w, (callFunc gf args).run Tryz.prog w = .ok (.enter gf args) w) ∧
    ∀ (G : Nat → Prop) (W : World), Keeps G w W → (∀ b, m ≤ b → ¬ G b) → ∀ a b : Int, 0 ≤ b → b ≤ 100 →
      Calls Tryz.prog gf (#[.agg #[.int .i64 a, .int .i64 b]] ++ lb) W fun e w' => e = .returned (.agg #[.int .i64 (f a b).1, .int .i64 (f a b).2]) ∧ Below W.heap.size W w'

set_option maxRecDepth 20000 in
set_option maxHeartbeats 1000000 in
theorem shift1 (n o d a b : Int) (x y z : Nat) (W : World) (h0 : W.cell? ⟨x, 0, none⟩ = some (.int .i64 n)) (h1 : W.cell? ⟨y, 0, none⟩ = some (.int .i64 o)) (h2 : W.cell? ⟨z, 0, none⟩ = some (.int .i64 d)) (hb0 : 0 ≤ b) (hb : b ≤ 100) (hd0 : -100 ≤ d) (hd : d ≤ 100) :
    Calls Tryz.prog 158 #[.agg #[.int .i64 a, .int .i64 b], ptr x, ptr y, ptr z] W fun e w' => e = .returned (.agg #[.int .i64 (shiftF n o d a b).1, .int .i64 (shiftF n o d a b).2]) ∧ Below W.heap.size W w' := by
  have l0 := World.block_lt_of_cell? W _ h0
  have l1 := World.block_lt_of_cell? W _ h1
  have l2 := World.block_lt_of_cell? W _ h2
  by_cases ha : a = n
  · subst ha
    by_cases ho : o < b
    · have e1 : shiftF a o d a b = (a, b + d) := by simp [shiftF, ho]
      rw [e1]
      have d2 : decide (o < b) = true := decide_eq_true ho
      go_enter Tryz.func158, Tryz.ntmps158
      go_wp2
      refine bodyPost_ret (v := .agg #[.int .i64 a, .int .i64 (b + d)]) (by simp [results, Tryz.results158, go_sem]) rfl ?_
      exact ⟨rfl, by go_grown⟩
    · have e1 : shiftF a o d a b = (a, b) := by simp [shiftF, ho]
      rw [e1]
      have d2 : decide (o < b) = false := decide_eq_false ho
      go_enter Tryz.func158, Tryz.ntmps158
      go_wp2
      refine bodyPost_ret (v := .agg #[.int .i64 a, .int .i64 b]) (by simp [results, Tryz.results158, go_sem]) rfl ?_
      exact ⟨rfl, by go_grown⟩
  · have e1 : shiftF n o d a b = (a, b) := by simp [shiftF, ha]
    rw [e1]
    have d1 : (a == n) = false := by simpa using ha
    go_enter Tryz.func158, Tryz.ntmps158
    go_wp2
    refine bodyPost_ret (v := .agg #[.int .i64 a, .int .i64 b]) (by simp [results, Tryz.results158, go_sem]) rfl ?_
    exact ⟨rfl, by go_grown⟩

end Go.Proofs.YtabogkonklplcaaGreatDoor

/- The functions that move places, called: gather, resize, carry. -/
namespace Go.Proofs.YtabogkonklplcaaGreatDoor
open Go.RowKit Go.Lib
set_option linter.unusedSimpArgs false
set_option linter.unusedVariables false

/-- What a shift leans on. -/
structure ShiftAt (W : World) (n o d : Int) (x y z : Nat) : Prop where
  h0 : W.cell? ⟨x, 0, none⟩ = some (.int .i64 n)
  h1 : W.cell? ⟨y, 0, none⟩ = some (.int .i64 o)
  h2 : W.cell? ⟨z, 0, none⟩ = some (.int .i64 d)
  d0 : -100 ≤ d
  d1 : d ≤ 100

theorem ShiftAt.runs {W W1 : World} {n o d : Int} {x y z : Nat} (h : ShiftAt W n o d x y z) (hb : Below W.heap.size W W1) {a b : Int} (hb0 : 0 ≤ b) (hb1 : b ≤ 100) :
    Calls Tryz.prog 158 #[.agg #[.int .i64 a, .int .i64 b], ptr x, ptr y, ptr z] W1 fun e w' => e = .returned (.agg #[.int .i64 (shiftF n o d a b).1, .int .i64 (shiftF n o d a b).2]) ∧ Below W1.heap.size W1 w' :=
  shift1 n o d a b x y z W1 ((hb.cell (World.block_lt_of_cell? W _ h.h0)).trans h.h0) ((hb.cell (World.block_lt_of_cell? W _ h.h1)).trans h.h1) ((hb.cell (World.block_lt_of_cell? W _ h.h2)).trans h.h2) hb0 hb1 h.d0 h.d1

abbrev shiftV (x y z : Nat) : Value := .func (.func 158) #[] #[ptr x, ptr y, ptr z]

set_option maxRecDepth 20000 in
set_option maxHeartbeats 1000000 in
theorem resize1 (n o t g a b : Int) (B0 B1 B2 B3 x y z : Nat) (W : World) (k0 : W.cell? ⟨B0, 0, none⟩ = some (.int .i64 n)) (k1 : W.cell? ⟨B1, 0, none⟩ = some (.int .i64 o)) (k2 : W.cell? ⟨B2, 0, none⟩ = some (.int .i64 t)) (k3 : W.cell? ⟨B3, 0, none⟩ = some (shiftV x y z)) (hS : ShiftAt W n (o + t) (g - t) x y z) (ho0 : 0 ≤ o) (ho : o ≤ 100) (ht0 : 0 ≤ t) (ht : t ≤ 100) (hb0 : 0 ≤ b) (hb : b ≤ 100) :
    Calls Tryz.prog 154 #[.agg #[.int .i64 a, .int .i64 b], ptr B0, ptr B1, ptr B2, ptr B3] W fun e w' => e = .returned (.agg #[.int .i64 (resizeF n o t g a b).1, .int .i64 (resizeF n o t g a b).2]) ∧ Below W.heap.size W w' := by
  have l0 := World.block_lt_of_cell? W _ k0
  have l1 := World.block_lt_of_cell? W _ k1
  have l2 := World.block_lt_of_cell? W _ k2
  have l3 := World.block_lt_of_cell? W _ k3
  have HS := hid (fun W1 (hB : Below W.heap.size W W1) => hS.runs hB (a := a) (b := b) hb0 hb)
  have q : IntKind.i64.wrap (o + t) = o + t := by rw [IntKind.wrap_i64]; omega
  clear hS
  by_cases hc : a = n ∧ o < b ∧ b ≤ o + t
  · obtain ⟨rfl, h2, h3⟩ := hc
    have e1 : resizeF a o t g a b = (a, o) := by simp [resizeF, h2, h3]
    rw [e1]
    have d2 : decide (o < b) = true := decide_eq_true h2
    have d3 : decide (b ≤ o + t) = true := decide_eq_true h3
    go_enter Tryz.func154, Tryz.ntmps154
    go_wp2
    refine bodyPost_ret (v := .agg #[.int .i64 a, .int .i64 o]) (by simp [results, Tryz.results154, go_sem]) rfl ?_
    exact ⟨rfl, by go_grown⟩
  · have e1 : resizeF n o t g a b = shiftF n (o + t) (g - t) a b := by unfold resizeF; rw [if_neg hc]
    rw [e1]
    obtain ⟨r0, r1, hr⟩ : ∃ r0 r1, shiftF n (o + t) (g - t) a b = (r0, r1) := ⟨_, _, rfl⟩
    rw [hr] at HS ⊢
    clear hr e1
    by_cases h1 : a = n
    · subst h1
      by_cases h2 : o < b
      · have h3 : ¬ b ≤ o + t := fun h => hc ⟨rfl, h2, h⟩
        have d2 : decide (o < b) = true := decide_eq_true h2
        have d3 : decide (b ≤ o + t) = false := decide_eq_false h3
        go_enter Tryz.func154, Tryz.ntmps154
        go_wp2_with (go_at_call 158; refine (HS.out _ (ptwo_below W a b 0 0)).mono ?_; rintro e w1 ⟨rfl, hb1⟩
                     obtain ⟨q1, q2⟩ := ptwo_cells hb1
                     have z0 : w1.cell? ⟨W.heap.size + 1, 0, none⟩ = some (.int .i64 0) := cell_of_heap q2 0
                     have z1 : w1.cell? ⟨W.heap.size + 1, 1, none⟩ = some (.int .i64 0) := cell_of_heap q2 1
                     have f0 := frozen_of_heap q2 0
                     have f1 := frozen_of_heap q2 1
                     have hl := heap_lt q2
                     have HB := hid ((ptwo_below W a b 0 0).trans (hb1.mono (ptwo_below W a b 0 0).size))
                     clear q1 q2 hb1)
        refine bodyPost_ret (v := .agg #[.int .i64 r0, .int .i64 r1]) (by simp [results, Tryz.results154, go_sem, z0, z1, f0, f1, hl]) rfl ?_
        exact ⟨rfl, (HB.out.setCell (p := ⟨W.heap.size + 1, 0, none⟩) (Nat.le_succ _) _).setCell (p := ⟨W.heap.size + 1, 1, none⟩) (Nat.le_succ _) _⟩
      · have d2 : decide (o < b) = false := decide_eq_false h2
        go_enter Tryz.func154, Tryz.ntmps154
        go_wp2_with (go_at_call 158; refine (HS.out _ (ptwo_below W a b 0 0)).mono ?_; rintro e w1 ⟨rfl, hb1⟩
                     obtain ⟨q1, q2⟩ := ptwo_cells hb1
                     have z0 : w1.cell? ⟨W.heap.size + 1, 0, none⟩ = some (.int .i64 0) := cell_of_heap q2 0
                     have z1 : w1.cell? ⟨W.heap.size + 1, 1, none⟩ = some (.int .i64 0) := cell_of_heap q2 1
                     have f0 := frozen_of_heap q2 0
                     have f1 := frozen_of_heap q2 1
                     have hl := heap_lt q2
                     have HB := hid ((ptwo_below W a b 0 0).trans (hb1.mono (ptwo_below W a b 0 0).size))
                     clear q1 q2 hb1)
        refine bodyPost_ret (v := .agg #[.int .i64 r0, .int .i64 r1]) (by simp [results, Tryz.results154, go_sem, z0, z1, f0, f1, hl]) rfl ?_
        exact ⟨rfl, (HB.out.setCell (p := ⟨W.heap.size + 1, 0, none⟩) (Nat.le_succ _) _).setCell (p := ⟨W.heap.size + 1, 1, none⟩) (Nat.le_succ _) _⟩
    · have d1 : (a == n) = false := by simpa using h1
      go_enter Tryz.func154, Tryz.ntmps154
      go_wp2_with (go_at_call 158; refine (HS.out _ (ptwo_below W a b 0 0)).mono ?_; rintro e w1 ⟨rfl, hb1⟩
                   obtain ⟨q1, q2⟩ := ptwo_cells hb1
                   have z0 : w1.cell? ⟨W.heap.size + 1, 0, none⟩ = some (.int .i64 0) := cell_of_heap q2 0
                   have z1 : w1.cell? ⟨W.heap.size + 1, 1, none⟩ = some (.int .i64 0) := cell_of_heap q2 1
                   have f0 := frozen_of_heap q2 0
                   have f1 := frozen_of_heap q2 1
                   have hl := heap_lt q2
                   have HB := hid ((ptwo_below W a b 0 0).trans (hb1.mono (ptwo_below W a b 0 0).size))
                   clear q1 q2 hb1)
      refine bodyPost_ret (v := .agg #[.int .i64 r0, .int .i64 r1]) (by simp [results, Tryz.results154, go_sem, z0, z1, f0, f1, hl]) rfl ?_
      exact ⟨rfl, (HB.out.setCell (p := ⟨W.heap.size + 1, 0, none⟩) (Nat.le_succ _) _).setCell (p := ⟨W.heap.size + 1, 1, none⟩) (Nat.le_succ _) _⟩

set_option maxRecDepth 20000 in
set_option maxHeartbeats 1000000 in
theorem carry1 (n o fr m i d a b : Int) (B0 B1 B2 B3 x y z : Nat) (W : World) (k0 : W.cell? ⟨B0, 0, none⟩ = some (.int .i64 n)) (k1 : W.cell? ⟨B1, 0, none⟩ = some (.int .i64 o)) (k2 : W.cell? ⟨B2, 0, none⟩ = some (.int .i64 fr)) (k3 : W.cell? ⟨B3, 0, none⟩ = some (shiftV x y z)) (hS : ShiftAt W m i d x y z) (ho0 : 0 ≤ o) (ho : o ≤ 100) (hb0 : 0 ≤ b) (hb : b ≤ 100) :
    Calls Tryz.prog 157 #[.agg #[.int .i64 a, .int .i64 b], ptr B0, ptr B1, ptr B2, ptr B3] W fun e w' => e = .returned (.agg #[.int .i64 (carryF n o fr (shiftF m i d) a b).1, .int .i64 (carryF n o fr (shiftF m i d) a b).2]) ∧ Below W.heap.size W w' := by
  have l0 := World.block_lt_of_cell? W _ k0
  have l1 := World.block_lt_of_cell? W _ k1
  have l2 := World.block_lt_of_cell? W _ k2
  have l3 := World.block_lt_of_cell? W _ k3
  have HS := hid (fun W1 (hB : Below W.heap.size W W1) => hS.runs hB (a := a) (b := b) hb0 hb)
  clear hS
  by_cases hc : a = n ∧ o < b
  · obtain ⟨rfl, h2⟩ := hc
    have e1 : carryF a o fr (shiftF m i d) a b = (fr, b - o) := by simp [carryF, h2]
    rw [e1]
    have d2 : decide (o < b) = true := decide_eq_true h2
    go_enter Tryz.func157, Tryz.ntmps157
    go_wp2
    refine bodyPost_ret (v := .agg #[.int .i64 fr, .int .i64 (b - o)]) (by simp [results, Tryz.results157, go_sem]) rfl ?_
    exact ⟨rfl, by go_grown⟩
  · have e1 : carryF n o fr (shiftF m i d) a b = shiftF m i d a b := by unfold carryF; rw [if_neg hc]
    rw [e1]
    obtain ⟨r0, r1, hr⟩ : ∃ r0 r1, shiftF m i d a b = (r0, r1) := ⟨_, _, rfl⟩
    rw [hr] at HS ⊢
    clear hr e1
    by_cases h1 : a = n
    · subst h1
      have d2 : decide (o < b) = false := decide_eq_false (fun h => hc ⟨rfl, h⟩)
      go_enter Tryz.func157, Tryz.ntmps157
      go_wp2_with (go_at_call 158; refine (HS.out _ (ptwo_below W a b 0 0)).mono ?_; rintro e w1 ⟨rfl, hb1⟩
                   obtain ⟨q1, q2⟩ := ptwo_cells hb1
                   have z0 : w1.cell? ⟨W.heap.size + 1, 0, none⟩ = some (.int .i64 0) := cell_of_heap q2 0
                   have z1 : w1.cell? ⟨W.heap.size + 1, 1, none⟩ = some (.int .i64 0) := cell_of_heap q2 1
                   have f0 := frozen_of_heap q2 0
                   have f1 := frozen_of_heap q2 1
                   have hl := heap_lt q2
                   have HB := hid ((ptwo_below W a b 0 0).trans (hb1.mono (ptwo_below W a b 0 0).size))
                   clear q1 q2 hb1)
      refine bodyPost_ret (v := .agg #[.int .i64 r0, .int .i64 r1]) (by simp [results, Tryz.results157, go_sem, z0, z1, f0, f1, hl]) rfl ?_
      exact ⟨rfl, (HB.out.setCell (p := ⟨W.heap.size + 1, 0, none⟩) (Nat.le_succ _) _).setCell (p := ⟨W.heap.size + 1, 1, none⟩) (Nat.le_succ _) _⟩
    · have d1 : (a == n) = false := by simpa using h1
      go_enter Tryz.func157, Tryz.ntmps157
      go_wp2_with (go_at_call 158; refine (HS.out _ (ptwo_below W a b 0 0)).mono ?_; rintro e w1 ⟨rfl, hb1⟩
                   obtain ⟨q1, q2⟩ := ptwo_cells hb1
                   have z0 : w1.cell? ⟨W.heap.size + 1, 0, none⟩ = some (.int .i64 0) := cell_of_heap q2 0
                   have z1 : w1.cell? ⟨W.heap.size + 1, 1, none⟩ = some (.int .i64 0) := cell_of_heap q2 1
                   have f0 := frozen_of_heap q2 0
                   have f1 := frozen_of_heap q2 1
                   have hl := heap_lt q2
                   have HB := hid ((ptwo_below W a b 0 0).trans (hb1.mono (ptwo_below W a b 0 0).size))
                   clear q1 q2 hb1)
      refine bodyPost_ret (v := .agg #[.int .i64 r0, .int .i64 r1]) (by simp [results, Tryz.results157, go_sem, z0, z1, f0, f1, hl]) rfl ?_
      exact ⟨rfl, (HB.out.setCell (p := ⟨W.heap.size + 1, 0, none⟩) (Nat.le_succ _) _).setCell (p := ⟨W.heap.size + 1, 1, none⟩) (Nat.le_succ _) _⟩

end Go.Proofs.YtabogkonklplcaaGreatDoor

/- The functions that move places, called: gather. -/
namespace Go.Proofs.YtabogkonklplcaaGreatDoor
open Go.RowKit Go.Lib
set_option linter.unusedSimpArgs false
set_option linter.unusedVariables false

set_option maxRecDepth 20000 in
set_option maxHeartbeats 1000000 in
theorem gather1 (l : List Nat) (p q m i d a b : Int) (B0 B1 B2 x y z : Nat) (v : Value) (W : World) (hrow : W.ownsRow 0 3 1 v l.length (intsV l)) (hne : l ≠ []) (hl : l.length < lots) (k0 : W.cell? ⟨B0, 0, none⟩ = some v) (k1 : W.cell? ⟨B1, 0, none⟩ = some (.int .i64 p)) (k1' : W.cell? ⟨B1, 1, none⟩ = some (.int .i64 q)) (k2 : W.cell? ⟨B2, 0, none⟩ = some (shiftV x y z)) (hS : ShiftAt W m i d x y z) (hb0 : 0 ≤ b) (hb : b ≤ 100) :
    Calls Tryz.prog 178 #[.agg #[.int .i64 a, .int .i64 b], ptr B0, ptr B1, ptr B2] W fun e w' => e = .returned (.agg #[.int .i64 (gatherF l p q (shiftF m i d) a b).1, .int .i64 (gatherF l p q (shiftF m i d) a b).2]) ∧ Below W.heap.size W w' := by
  have l0 := World.block_lt_of_cell? W _ k0
  have l1 := World.block_lt_of_cell? W _ k1
  have l2 := World.block_lt_of_cell? W _ k2
  obtain ⟨g, cp, cur, hv, hh, hn, hc, hcs, ht, hcell, hfr⟩ := row_ints hrow hne
  subst hv
  have CC := hid (fun W1 (hB : Below W.heap.size W W1) => Tryz.slices_Contains_int g 0 l.length cp (l.map Int.ofNat) a W1 (by simp) (by unfold lots at hl; omega) (fun j hj => (hB.cell (p := ⟨g, 0 + j, none⟩) (heap_lt hh)).trans (hcell j hj)))
  rw [List.take_of_length_le (by simp)] at CC
  have HS := hid (fun W1 (hB : Below W.heap.size W W1) => hS.runs hB (a := a) (b := b) hb0 hb)
  clear hS hrow hh hcell hfr ht
  cases hin : (l.map Int.ofNat).contains a with
  | true =>
    have e1 : gatherF l p q (shiftF m i d) a b = (p, q) := by unfold gatherF; rw [if_pos hin]
    rw [e1]
    rw [hin] at CC
    clear hin e1
    go_enter Tryz.func178, Tryz.ntmps178
    go_wp2_with (go_at_call 179; refine (CC.out _ (ptwo_below W a b 0 0)).mono ?_; rintro e w1 ⟨rfl, hw1⟩; replace hw1 := hw1.symm; subst hw1)
    refine bodyPost_ret (v := .agg #[.int .i64 p, .int .i64 q]) (by simp [results, Tryz.results178, go_sem]) rfl ?_
    exact ⟨rfl, by go_grown⟩
  | false =>
    have e1 : gatherF l p q (shiftF m i d) a b = shiftF m i d a b := by unfold gatherF; rw [if_neg (by rw [hin]; decide)]
    rw [e1]
    rw [hin] at CC
    obtain ⟨r0, r1, hr⟩ : ∃ r0 r1, shiftF m i d a b = (r0, r1) := ⟨_, _, rfl⟩
    rw [hr] at HS ⊢
    clear hr e1 hin
    go_enter Tryz.func178, Tryz.ntmps178
    go_wp2_with first
      | (go_at_call 179; refine (CC.out _ (ptwo_below W a b 0 0)).mono ?_; rintro e w0 ⟨rfl, hw1⟩; replace hw1 := hw1.symm; subst hw1)
      | (go_at_call 158; refine (HS.out _ (ptwo_below W a b 0 0)).mono ?_; rintro e w1 ⟨rfl, hb1⟩
         obtain ⟨q1, q2⟩ := ptwo_cells hb1
         have z0 : w1.cell? ⟨W.heap.size + 1, 0, none⟩ = some (.int .i64 0) := cell_of_heap q2 0
         have z1 : w1.cell? ⟨W.heap.size + 1, 1, none⟩ = some (.int .i64 0) := cell_of_heap q2 1
         have f0 := frozen_of_heap q2 0
         have f1 := frozen_of_heap q2 1
         have hlw := heap_lt q2
         have HB := hid ((ptwo_below W a b 0 0).trans (hb1.mono (ptwo_below W a b 0 0).size))
         clear q1 q2 hb1)
    refine bodyPost_ret (v := .agg #[.int .i64 r0, .int .i64 r1]) (by simp [results, Tryz.results178, go_sem, z0, z1, f0, f1, hlw]) rfl ?_
    exact ⟨rfl, (HB.out.setCell (p := ⟨W.heap.size + 1, 0, none⟩) (Nat.le_succ _) _).setCell (p := ⟨W.heap.size + 1, 1, none⟩) (Nat.le_succ _) _⟩

end Go.Proofs.YtabogkonklplcaaGreatDoor
