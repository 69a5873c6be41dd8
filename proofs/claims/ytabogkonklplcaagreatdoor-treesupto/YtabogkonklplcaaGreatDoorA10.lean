import Derived.Test.YtabogkonklplcaaGreatDoorA08

/- marginref's Insert. -/
namespace Go.Proofs.YtabogkonklplcaaGreatDoor
open Go.RowKit
set_option linter.unusedSimpArgs false
set_option linter.unusedVariables false

section
variable {w : World} {F : Nat → Prop} {bd bn cap : Nat} {rn : List RN} {rv : Value} {s : List Nd} {rs : List Sp}

/-- Is there such a node? -/
def isB (s : List Nd) (k : Int) : Bool := decide (0 ≤ k ∧ k < s.length)
theorem isB_true {s : List Nd} {k : Int} (h : isB s k = true) : 0 ≤ k ∧ k < s.length := by simpa [isB] using h
theorem isB_of {s : List Nd} {k : Int} (h : 0 ≤ k ∧ k < s.length) : isB s k = true := by simpa [isB] using h

theorem is_at (hD : RDocAt w F bd bn cap rn rv s rs) (k : Int) :
    Calls Tryz.prog 47 #[.pointer (some ⟨bd, 0, none⟩), .int .i64 k] w fun e w' => e = .returned (.bool (isB s k)) ∧ w' = w := is_any hD k
theorem within_at (hD : RDocAt w F bd bn cap rn rv s rs) {ht : Nat → Nat} {B : Nat} (hU : Up s ht B) (k o : Int) (hk : k < s.length) {b : Bool} (hb : Lim (fun c => withinF s c k o) b) :
    Calls Tryz.prog 116 #[.pointer (some ⟨bd, 0, none⟩), .int .i64 k, .int .i64 o] w fun e w' => e = .returned (.bool b) ∧ w' = w := by
  refine (within_any hD hU k o hk).mono ?_
  rintro e w' ⟨rfl, b', rfl, hl⟩
  exact ⟨ret_bool (hl.unique hb), rfl⟩

/-- The world in which the calls are made: a fault's place laid. -/
theorem RDocAt.faultAt (hD : RDocAt w F bd bn cap rn rv s rs) : RDocAt (w.alloc (.cells #[.int .i64 0, .int .i64 0] 32)) F bd bn cap rn rv s rs :=
  hD.below ((Below.refl _ w).alloc (Nat.le_refl _) _)

set_option maxRecDepth 20000 in
set_option maxHeartbeats 1000000 in
theorem rinsert_parent (hD : RDocAt w F bd bn cap rn rv s rs) (p n k : Int) (hp : isB s p = false) :
    Calls Tryz.prog 75 #[.pointer (some ⟨bd, 0, none⟩), .int .i64 p, .int .i64 n, .int .i64 k] w fun e w' => e = .returned (.agg #[.int .i64 p, .int .i64 1]) ∧ Below w.heap.size w w' := by
  have HD : Hid _ := hD.faultAt
  clear hD
  go_enter Tryz.func75, Tryz.ntmps75
  go_wp2_with (first
    | (go_at_call 47; refine (is_at HD.out _).mono ?_; rintro e w' ⟨rfl, rfl⟩)
    | (go_at_call 48; refine (no_any _ _ _).mono ?_; rintro e w' ⟨rfl, rfl⟩))
  go_returns
  refine ⟨rfl, ?_⟩
  go_grown

set_option maxRecDepth 20000 in
set_option maxHeartbeats 1000000 in
theorem rinsert_node (hD : RDocAt w F bd bn cap rn rv s rs) (p n k : Int) (hp : isB s p = true) (hn : isB s n = false) :
    Calls Tryz.prog 75 #[.pointer (some ⟨bd, 0, none⟩), .int .i64 p, .int .i64 n, .int .i64 k] w fun e w' => e = .returned (.agg #[.int .i64 n, .int .i64 1]) ∧ Below w.heap.size w w' := by
  have HD : Hid _ := hD.faultAt
  clear hD
  go_enter Tryz.func75, Tryz.ntmps75
  go_wp2_with (first
    | (go_at_call 47; refine (is_at HD.out _).mono ?_; rintro e w' ⟨rfl, rfl⟩)
    | (go_at_call 48; refine (no_any _ _ _).mono ?_; rintro e w' ⟨rfl, rfl⟩))
  go_returns
  refine ⟨rfl, ?_⟩
  go_grown

set_option maxRecDepth 20000 in
set_option maxHeartbeats 1000000 in
theorem rinsert_kind (hD : RDocAt w F bd bn cap rn rv s rs) (i j : Nat) (k : Int) (x : Nd) (hx : s[i]? = some x) (hj : j < s.length) (ht : x.t = true) :
    Calls Tryz.prog 75 #[.pointer (some ⟨bd, 0, none⟩), .int .i64 i, .int .i64 j, .int .i64 k] w fun e w' => e = .returned (.agg #[.int .i64 i, .int .i64 2]) ∧ Below w.heap.size w w' := by
  have hi : i < s.length := (List.getElem?_eq_some_iff.1 hx).1
  have hp : isB s i = true := isB_of (by omega)
  have hn : isB s j = true := isB_of (by omega)
  have h0 := hD.nodesCell
  have hl := hD.lt.1
  have hl2 := hD.lt.2
  obtain ⟨r, hr, ho, hc0, -, -, -⟩ := hD.look hx
  rw [ht] at hc0
  have HD : Hid _ := hD.faultAt
  clear hD hr ho hx
  go_enter Tryz.func75, Tryz.ntmps75
  go_wp2_with (first
    | (go_at_call 47; refine (is_at HD.out _).mono ?_; rintro e w' ⟨rfl, rfl⟩)
    | (go_at_call 48; refine (no_any _ _ _).mono ?_; rintro e w' ⟨rfl, rfl⟩))
  go_returns
  refine ⟨rfl, ?_⟩
  go_grown

set_option maxRecDepth 20000 in
set_option maxHeartbeats 1000000 in
theorem rinsert_has (hD : RDocAt w F bd bn cap rn rv s rs) (i j : Nat) (k : Int) (x y : Nd) (hx : s[i]? = some x) (hy : s[j]? = some y) (ht : x.t = false) (hj : j = 0 ∨ 0 ≤ y.p) :
    Calls Tryz.prog 75 #[.pointer (some ⟨bd, 0, none⟩), .int .i64 i, .int .i64 j, .int .i64 k] w fun e w' => e = .returned (.agg #[.int .i64 j, .int .i64 4]) ∧ Below w.heap.size w w' := by
  have hi : i < s.length := (List.getElem?_eq_some_iff.1 hx).1
  have hj' : j < s.length := (List.getElem?_eq_some_iff.1 hy).1
  have hp : isB s i = true := isB_of (by omega)
  have hn : isB s j = true := isB_of (by omega)
  have h0 := hD.nodesCell
  have hl := hD.lt.1
  have hl2 := hD.lt.2
  obtain ⟨r, hr, ho, hc0, -, -, -⟩ := hD.look hx
  obtain ⟨r', hr', ho', -, -, -, hc3⟩ := hD.look hy
  rw [ht] at hc0
  have HD : Hid _ := hD.faultAt
  clear hD hr ho hx hr' ho' hy ht
  rcases Nat.eq_zero_or_pos j with h1 | h1
  · subst h1
    have hn0 : isB s (0 : Int) = true := by simpa using hn
    clear hn hj
    have hl0 : 0 < s.length := by omega
    go_enter Tryz.func75, Tryz.ntmps75
    go_wp2_with (first
      | (go_at_call 47; refine (is_at HD.out _).mono ?_; rintro e w' ⟨rfl, rfl⟩)
      | (go_at_call 48; refine (no_any _ _ _).mono ?_; rintro e w' ⟨rfl, rfl⟩))
    go_returns
    refine ⟨by simp, ?_⟩
    go_grown
  · have h2 : 0 ≤ y.p := by omega
    have hj0 : ((j : Int) == 0) = false := by simp; omega
    clear hj
    go_enter Tryz.func75, Tryz.ntmps75
    go_wp2_with (first
      | (go_at_call 47; refine (is_at HD.out _).mono ?_; rintro e w' ⟨rfl, rfl⟩)
      | (go_at_call 48; refine (no_any _ _ _).mono ?_; rintro e w' ⟨rfl, rfl⟩))
    go_returns
    refine ⟨rfl, ?_⟩
    go_grown

/-- What stands ahead of the last three cases. -/
structure InsOk (s : List Nd) (i j : Nat) (x y : Nd) : Prop where
  hx : s[i]? = some x
  hy : s[j]? = some y
  ht : x.t = false
  hj : 0 < j
  hp : y.p < 0

set_option maxRecDepth 20000 in
set_option maxHeartbeats 1000000 in
theorem rinsert_cycle (hD : RDocAt w F bd bn cap rn rv s rs) {ht : Nat → Nat} {B : Nat} (hU : Up s ht B) (i j : Nat) (k : Int) (x y : Nd) (h : InsOk s i j x y) (hw : Lim (fun c => withinF s c (i : Int) (j : Int)) true) :
    Calls Tryz.prog 75 #[.pointer (some ⟨bd, 0, none⟩), .int .i64 i, .int .i64 j, .int .i64 k] w fun e w' => e = .returned (.agg #[.int .i64 j, .int .i64 5]) ∧ Below w.heap.size w w' := by
  obtain ⟨hx, hy, ht0, hj, hyp⟩ := h
  have hi : i < s.length := (List.getElem?_eq_some_iff.1 hx).1
  have hj' : j < s.length := (List.getElem?_eq_some_iff.1 hy).1
  have hp : isB s i = true := isB_of (by omega)
  have hn : isB s j = true := isB_of (by omega)
  have h0 := hD.nodesCell
  have hl := hD.lt.1
  have hl2 := hD.lt.2
  obtain ⟨r, hr, ho, hc0, -, -, -⟩ := hD.look hx
  obtain ⟨r', hr', ho', -, -, -, hc3⟩ := hD.look hy
  rw [ht0] at hc0
  have HD : Hid _ := hD.faultAt
  have HU : Hid _ := hU
  have HW : Hid _ := hw
  have hj0 : ((j : Int) == 0) = false := by simp; omega
  clear hD hr ho hx hr' ho' hy ht0 hU hw
  go_enter Tryz.func75, Tryz.ntmps75
  go_wp2_with (first
    | (go_at_call 47; refine (is_at HD.out _).mono ?_; rintro e w' ⟨rfl, rfl⟩)
    | (go_at_call 116; refine (within_at HD.out HU.out _ _ (by omega) HW.out).mono ?_; rintro e w' ⟨rfl, rfl⟩)
    | (go_at_call 48; refine (no_any _ _ _).mono ?_; rintro e w' ⟨rfl, rfl⟩))
  go_returns
  refine ⟨rfl, ?_⟩
  go_grown

set_option maxRecDepth 20000 in
set_option maxHeartbeats 1000000 in
theorem rinsert_index (hD : RDocAt w F bd bn cap rn rv s rs) {ht : Nat → Nat} {B : Nat} (hU : Up s ht B) (i j : Nat) (k : Int) (x y : Nd) (h : InsOk s i j x y) (hw : Lim (fun c => withinF s c (i : Int) (j : Int)) false) (hk : k < 0 ∨ (x.ks.length : Int) < k) :
    Calls Tryz.prog 75 #[.pointer (some ⟨bd, 0, none⟩), .int .i64 i, .int .i64 j, .int .i64 k] w fun e w' => e = .returned (.agg #[.int .i64 i, .int .i64 3]) ∧ Below w.heap.size w w' := by
  obtain ⟨hx, hy, ht0, hj, hyp⟩ := h
  have hi : i < s.length := (List.getElem?_eq_some_iff.1 hx).1
  have hj' : j < s.length := (List.getElem?_eq_some_iff.1 hy).1
  have hp : isB s i = true := isB_of (by omega)
  have hn : isB s j = true := isB_of (by omega)
  have h0 := hD.nodesCell
  have hl := hD.lt.1
  have hl2 := hD.lt.2
  obtain ⟨r, hr, ho, hc0, -, hc2, -⟩ := hD.look hx
  obtain ⟨r', hr', ho', -, -, -, hc3⟩ := hD.look hy
  obtain ⟨a, c, hv⟩ := slice_shape ho.kids
  rw [hv] at hc2
  rw [ht0] at hc0
  have HD : Hid _ := hD.faultAt
  have HU : Hid _ := hU
  have HW : Hid _ := hw
  have hj0 : ((j : Int) == 0) = false := by simp; omega
  clear hD hr ho hx hr' ho' hy ht0 hU hw hv
  rcases hk with hk | hk
  all_goals
    go_enter Tryz.func75, Tryz.ntmps75
    go_wp2_with (first
      | (go_at_call 47; refine (is_at HD.out _).mono ?_; rintro e w' ⟨rfl, rfl⟩)
      | (go_at_call 116; refine (within_at HD.out HU.out _ _ (by omega) HW.out).mono ?_; rintro e w' ⟨rfl, rfl⟩)
      | (go_at_call 48; refine (no_any _ _ _).mono ?_; rintro e w' ⟨rfl, rfl⟩))
    go_returns
    refine ⟨rfl, ?_⟩
    go_grown
end

end Go.Proofs.YtabogkonklplcaaGreatDoor
