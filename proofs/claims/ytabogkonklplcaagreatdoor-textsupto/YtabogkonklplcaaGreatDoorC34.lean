import Derived.Test.YtabogkonklplcaaGreatDoorC33

/- What shift, gather, resize and carry give: functions that move places. -/
namespace Go.Proofs.YtabogkonklplcaaGreatDoor
open Go.RowKit Go.Lib
set_option linter.unusedSimpArgs false
set_option linter.unusedVariables false

theorem ShiftAt.keeps {w W : World} {n o d : Int} {x y z m : Nat} {G : Nat → Prop} (h : ShiftAt w n o d x y z) (hm : m ≤ x ∧ m ≤ y ∧ m ≤ z) (hk : Keeps G w W) (hG : ∀ b, m ≤ b → ¬ G b) : ShiftAt W n o d x y z :=
  ⟨hk.cell h.h0 (hG _ hm.1), hk.cell h.h1 (hG _ hm.2.1), hk.cell h.h2 (hG _ hm.2.2), h.d0, h.d1⟩

theorem ShiftAt.move {w : World} {n o d : Int} {x y z m : Nat} (h : ShiftAt w n o d x y z) (hm : m ≤ x ∧ m ≤ y ∧ m ≤ z) : MoveOk m w (shiftV x y z) (shiftF n o d) :=
  ⟨_, _, rfl, enters_of Tryz.func158 (by kernel_rfl) rfl, fun G W hk hG a b hb0 hb => (h.keeps hm hk hG).runs (Below.refl _ _) hb0 hb⟩

theorem MoveOk.keeps {w W : World} {m : Nat} {mv : Value} {f : Mvf} {G : Nat → Prop} (h : MoveOk m w mv f) (hk : Keeps G w W) (hG : ∀ b, m ≤ b → ¬ G b) : MoveOk m W mv f := by
  obtain ⟨gf, lb, e, he, hr⟩ := h.runs
  refine ⟨gf, lb, e, he, fun G2 W2 hk2 hG2 => hr (fun b => b < m) W2 ?_ (fun b hb e => by omega)⟩
  refine (hk.mono (fun k _ e => ?_)).trans (hk2.mono (fun k _ e => ?_))
  · rcases Nat.lt_or_ge k m with h | h
    · exact h
    · exact absurd e (hG k h)
  · rcases Nat.lt_or_ge k m with h | h
    · exact .inl h
    · exact absurd e (hG2 k h)

set_option maxHeartbeats 1000000 in
theorem shift_at (n o d : Int) (hd0 : -100 ≤ d) (hd : d ≤ 100) (w : World) : Calls Tryz.prog 109 #[.int .i64 n, .int .i64 o, .int .i64 d] w fun e w' => ∃ x y z, e = .returned (shiftV x y z) ∧ Below w.heap.size w w' ∧ ShiftAt w' n o d x y z ∧ w.heap.size ≤ x ∧ w.heap.size ≤ y ∧ w.heap.size ≤ z := by
  go_enter Tryz.func109, Tryz.ntmps109
  go_wp2
  go_ret
  refine ⟨w.heap.size, w.heap.size + 1, w.heap.size + 1 + 1, rfl, by go_grown, ?_, Nat.le_refl _, by omega, by omega⟩
  have a0 : ((((w.alloc (.cells #[.int .i64 n] 3)).alloc (.cells #[.int .i64 o] 3)).alloc (.cells #[.int .i64 d] 3))).heap[w.heap.size]? = some (.cells #[.int .i64 n] 3 (0, 0)) := by
    rw [Below.heap_alloc _ _ _ (by simp only [World.size_alloc]; omega), Below.heap_alloc _ _ _ (by simp), heap_alloc_new]
  have a1 : ((((w.alloc (.cells #[.int .i64 n] 3)).alloc (.cells #[.int .i64 o] 3)).alloc (.cells #[.int .i64 d] 3))).heap[w.heap.size + 1]? = some (.cells #[.int .i64 o] 3 (0, 0)) := by
    rw [Below.heap_alloc _ _ _ (by simp)]
    have := heap_alloc_new (w.alloc (.cells #[.int .i64 n] 3)) (.cells #[.int .i64 o] 3)
    simpa using this
  have a2 : ((((w.alloc (.cells #[.int .i64 n] 3)).alloc (.cells #[.int .i64 o] 3)).alloc (.cells #[.int .i64 d] 3))).heap[w.heap.size + 1 + 1]? = some (.cells #[.int .i64 d] 3 (0, 0)) := by
    have := heap_alloc_new ((w.alloc (.cells #[.int .i64 n] 3)).alloc (.cells #[.int .i64 o] 3)) (.cells #[.int .i64 d] 3)
    simpa using this
  exact ⟨cell_of_heap a0 0, cell_of_heap a1 0, cell_of_heap a2 0, hd0, hd⟩

set_option maxHeartbeats 1000000 in
theorem gather_at (l : List Nat) (a : Option Addr) (c : Nat) (p q n o d : Int) (x y z m : Nat) (w : World) (hrow : w.ownsRow 0 3 1 (.slice a l.length c) l.length (intsV l)) (hrm : ∀ b, (Value.slice a l.length c).ownBlock = some b → m ≤ b) (hne : l ≠ []) (hl : l.length < lots) (hS : ShiftAt w n o d x y z) (hm : m ≤ x ∧ m ≤ y ∧ m ≤ z) (hmw : m ≤ w.heap.size) :
    Calls Tryz.prog 151 #[.slice a l.length c, .agg #[.int .i64 p, .int .i64 q], shiftV x y z] w fun e w' => ∃ bs, e = .returned (.func (.func 178) #[] bs) ∧ Below w.heap.size w w' ∧ MoveOk m w' (.func (.func 178) #[] bs) (gatherF l p q (shiftF n o d)) := by
  have H := hid (And.intro hrow (And.intro hrm (And.intro hS hm)))
  clear hrow hrm hS hm
  go_enter Tryz.func151, Tryz.ntmps151
  go_wp2
  go_ret
  obtain ⟨hrow, hrm, hS, hm⟩ := H.out
  have hB : Below w.heap.size w (((w.alloc (.cells #[.slice a l.length c] 24)).alloc (.cells #[.int .i64 p, .int .i64 q] 37)).alloc (.cells #[shiftV x y z] 110)) := (((Below.refl _ w).alloc (Nat.le_refl _) _).alloc (by simp) _).alloc (by simp only [World.size_alloc]; omega) _
  refine ⟨_, rfl, by first | exact hB | go_grown, ?_⟩
  have a0 : (((w.alloc (.cells #[.slice a l.length c] 24)).alloc (.cells #[.int .i64 p, .int .i64 q] 37)).alloc (.cells #[shiftV x y z] 110)).heap[w.heap.size]? = some (.cells #[.slice a l.length c] 24 (0, 0)) := by
    rw [Below.heap_alloc _ _ _ (by simp only [World.size_alloc]; omega), Below.heap_alloc _ _ _ (by simp), heap_alloc_new]
  have a1 : (((w.alloc (.cells #[.slice a l.length c] 24)).alloc (.cells #[.int .i64 p, .int .i64 q] 37)).alloc (.cells #[shiftV x y z] 110)).heap[w.heap.size + 1]? = some (.cells #[.int .i64 p, .int .i64 q] 37 (0, 0)) := by
    rw [Below.heap_alloc _ _ _ (by simp)]
    have := heap_alloc_new (w.alloc (.cells #[.slice a l.length c] 24)) (.cells #[.int .i64 p, .int .i64 q] 37)
    simpa using this
  have a2 : (((w.alloc (.cells #[.slice a l.length c] 24)).alloc (.cells #[.int .i64 p, .int .i64 q] 37)).alloc (.cells #[shiftV x y z] 110)).heap[w.heap.size + 1 + 1]? = some (.cells #[shiftV x y z] 110 (0, 0)) := by
    have := heap_alloc_new ((w.alloc (.cells #[.slice a l.length c] 24)).alloc (.cells #[.int .i64 p, .int .i64 q] 37)) (.cells #[shiftV x y z] 110)
    simpa using this
  have hk0 := Keeps.of_below (F := fun _ => False) hB
  refine ⟨_, _, rfl, enters_of Tryz.func178 (by kernel_rfl) rfl, fun G W hk hG e f hb0 hb => ?_⟩
  exact gather1 l p q n o d e f w.heap.size (w.heap.size + 1) (w.heap.size + 1 + 1) x y z (.slice a l.length c) W (hk.row (hk0.row hrow (fun _ _ e => e)) (fun b e => hG b (hrm b e))) hne hl
    (hk.cell (cell_of_heap a0 0) (hG _ hmw)) (hk.cell (cell_of_heap a1 0) (hG _ (by show m ≤ w.heap.size + 1; omega))) (hk.cell (cell_of_heap a1 1) (hG _ (by show m ≤ w.heap.size + 1; omega))) (hk.cell (cell_of_heap a2 0) (hG _ (by show m ≤ w.heap.size + 1 + 1; omega)))
    ((hS.keeps hm hk0 (fun _ _ e => e)).keeps hm hk hG) hb0 hb

set_option maxHeartbeats 1000000 in
theorem carry_at (n o fr p i d : Int) (x y z m : Nat) (w : World) (hS : ShiftAt w p i d x y z) (hm : m ≤ x ∧ m ≤ y ∧ m ≤ z) (hmw : m ≤ w.heap.size) (ho0 : 0 ≤ o) (ho : o ≤ 100) :
    Calls Tryz.prog 108 #[.int .i64 n, .int .i64 o, .int .i64 fr, shiftV x y z] w fun e w' => ∃ bs, e = .returned (.func (.func 157) #[] bs) ∧ Below w.heap.size w w' ∧ MoveOk m w' (.func (.func 157) #[] bs) (carryF n o fr (shiftF p i d)) := by
  have H := hid (And.intro hS hm)
  clear hS hm
  go_enter Tryz.func108, Tryz.ntmps108
  go_wp2
  go_ret
  obtain ⟨hS, hm⟩ := H.out
  have hB : Below w.heap.size w ((((w.alloc (.cells #[.int .i64 n] 3)).alloc (.cells #[.int .i64 o] 3)).alloc (.cells #[.int .i64 fr] 3)).alloc (.cells #[shiftV x y z] 110)) := ((((Below.refl _ w).alloc (Nat.le_refl _) _).alloc (by simp) _).alloc (by simp only [World.size_alloc]; omega) _).alloc (by simp only [World.size_alloc]; omega) _
  refine ⟨_, rfl, by first | exact hB | go_grown, ?_⟩
  have a0 : ((((w.alloc (.cells #[.int .i64 n] 3)).alloc (.cells #[.int .i64 o] 3)).alloc (.cells #[.int .i64 fr] 3)).alloc (.cells #[shiftV x y z] 110)).heap[w.heap.size]? = some (.cells #[.int .i64 n] 3 (0, 0)) := by
    rw [Below.heap_alloc _ _ _ (by simp only [World.size_alloc]; omega), Below.heap_alloc _ _ _ (by simp only [World.size_alloc]; omega), Below.heap_alloc _ _ _ (by simp), heap_alloc_new]
  have a1 : ((((w.alloc (.cells #[.int .i64 n] 3)).alloc (.cells #[.int .i64 o] 3)).alloc (.cells #[.int .i64 fr] 3)).alloc (.cells #[shiftV x y z] 110)).heap[w.heap.size + 1]? = some (.cells #[.int .i64 o] 3 (0, 0)) := by
    rw [Below.heap_alloc _ _ _ (by simp only [World.size_alloc]; omega), Below.heap_alloc _ _ _ (by simp)]
    have := heap_alloc_new (w.alloc (.cells #[.int .i64 n] 3)) (.cells #[.int .i64 o] 3)
    simpa using this
  have a2 : ((((w.alloc (.cells #[.int .i64 n] 3)).alloc (.cells #[.int .i64 o] 3)).alloc (.cells #[.int .i64 fr] 3)).alloc (.cells #[shiftV x y z] 110)).heap[w.heap.size + 1 + 1]? = some (.cells #[.int .i64 fr] 3 (0, 0)) := by
    rw [Below.heap_alloc _ _ _ (by simp)]
    have := heap_alloc_new ((w.alloc (.cells #[.int .i64 n] 3)).alloc (.cells #[.int .i64 o] 3)) (.cells #[.int .i64 fr] 3)
    simpa using this
  have a3 : ((((w.alloc (.cells #[.int .i64 n] 3)).alloc (.cells #[.int .i64 o] 3)).alloc (.cells #[.int .i64 fr] 3)).alloc (.cells #[shiftV x y z] 110)).heap[w.heap.size + 1 + 1 + 1]? = some (.cells #[shiftV x y z] 110 (0, 0)) := by
    have := heap_alloc_new (((w.alloc (.cells #[.int .i64 n] 3)).alloc (.cells #[.int .i64 o] 3)).alloc (.cells #[.int .i64 fr] 3)) (.cells #[shiftV x y z] 110)
    simpa using this
  have hk0 := Keeps.of_below (F := fun _ => False) hB
  refine ⟨_, _, rfl, enters_of Tryz.func157 (by kernel_rfl) rfl, fun G W hk hG e f hb0 hb => ?_⟩
  exact carry1 n o fr p i d e f w.heap.size (w.heap.size + 1) (w.heap.size + 1 + 1) (w.heap.size + 1 + 1 + 1) x y z W
    (hk.cell (cell_of_heap a0 0) (hG _ hmw)) (hk.cell (cell_of_heap a1 0) (hG _ (by show m ≤ w.heap.size + 1; omega))) (hk.cell (cell_of_heap a2 0) (hG _ (by show m ≤ w.heap.size + 1 + 1; omega))) (hk.cell (cell_of_heap a3 0) (hG _ (by show m ≤ w.heap.size + 1 + 1 + 1; omega)))
    ((hS.keeps hm hk0 (fun _ _ e => e)).keeps hm hk hG) ho0 ho hb0 hb

set_option maxHeartbeats 1000000 in
theorem resize_at (n o t g : Int) (w : World) (ho0 : 0 ≤ o) (ho : o ≤ 30) (ht0 : 0 ≤ t) (ht : t ≤ 30) (hg0 : 0 ≤ g) (hg : g ≤ 30) : Calls Tryz.prog 104 #[.int .i64 n, .int .i64 o, .int .i64 t, .int .i64 g] w fun e w' => ∃ bs, e = .returned (.func (.func 154) #[] bs) ∧ Below w.heap.size w w' ∧ MoveOk w.heap.size w' (.func (.func 154) #[] bs) (resizeF n o t g) := by
  obtain ⟨W3, hW3⟩ : ∃ W3, ((w.alloc (.cells #[.int .i64 n] 3)).alloc (.cells #[.int .i64 o] 3)).alloc (.cells #[.int .i64 t] 3) = W3 := ⟨_, rfl⟩
  have h0 : Below w.heap.size w W3 := by rw [← hW3]; exact (((Below.refl _ w).alloc (Nat.le_refl _) _).alloc (by simp) _).alloc (by simp only [World.size_alloc]; omega) _
  have a0 : W3.heap[w.heap.size]? = some (.cells #[.int .i64 n] 3 (0, 0)) := by
    rw [← hW3, Below.heap_alloc _ _ _ (by simp only [World.size_alloc]; omega), Below.heap_alloc _ _ _ (by simp), heap_alloc_new]
  have a1 : W3.heap[w.heap.size + 1]? = some (.cells #[.int .i64 o] 3 (0, 0)) := by
    rw [← hW3, Below.heap_alloc _ _ _ (by simp)]
    have := heap_alloc_new (w.alloc (.cells #[.int .i64 n] 3)) (.cells #[.int .i64 o] 3)
    simpa using this
  have a2 : W3.heap[w.heap.size + 1 + 1]? = some (.cells #[.int .i64 t] 3 (0, 0)) := by
    rw [← hW3]
    have := heap_alloc_new ((w.alloc (.cells #[.int .i64 n] 3)).alloc (.cells #[.int .i64 o] 3)) (.cells #[.int .i64 t] 3)
    simpa using this
  have H0 := hid (And.intro h0 (And.intro a0 (And.intro a1 a2)))
  have C := hid (shift_at n (o + t) (g - t) (by omega) (by omega) W3)
  have q1 : IntKind.i64.wrap (o + t) = o + t := by rw [IntKind.wrap_i64]; omega
  have q2 : IntKind.i64.wrap (g - t) = g - t := by rw [IntKind.wrap_i64]; omega
  rw [← hW3] at C
  have HW3 := hid hW3
  clear h0 a0 a1 a2 hW3
  go_enter Tryz.func104, Tryz.ntmps104
  go_wp2_with (go_at_call 109; refine C.out.mono ?_; rintro e w1 ⟨x, y, z, rfl, hb, hS, hx, hy, hz⟩
               have H1 := hid (And.intro hb (And.intro hS (And.intro hx (And.intro hy hz))))
               clear hb hS hx hy hz
               have st : (store ⟨w1.heap.size, 0, none⟩ (shiftV x y z)).run Tryz.prog (w1.alloc (.cells #[.nilFunc] 110)) = .ok () ((w1.alloc (.cells #[.nilFunc] 110)).setCell ⟨w1.heap.size, 0, none⟩ (shiftV x y z)) := by
                 rw [run_store Tryz.prog _ _ _ _ (by rfl)]; simp)
  go_ret
  rw [HW3.out] at H1
  obtain ⟨hb, hS, hx, hy, hz⟩ := H1.out
  obtain ⟨h0, a0, a1, a2⟩ := H0.out
  have hs3 := h0.size
  have l2 := heap_lt a2
  have hs1 := hb.size
  have hB1 : Below w.heap.size w w1 := h0.trans (hb.mono hs3)
  have hB : Below w.heap.size w (w1.alloc (.cells #[shiftV x y z] 110)) := hB1.alloc (by omega) _
  refine ⟨_, rfl, by first | exact hB | go_grown, ?_⟩
  have b0 : (w1.alloc (.cells #[shiftV x y z] 110)).heap[w.heap.size]? = _ := (Below.heap_alloc _ _ _ (by omega)).trans ((hb.block _ (heap_lt a0)).trans a0)
  have b1 : (w1.alloc (.cells #[shiftV x y z] 110)).heap[w.heap.size + 1]? = _ := (Below.heap_alloc _ _ _ (by omega)).trans ((hb.block _ (heap_lt a1)).trans a1)
  have b2 : (w1.alloc (.cells #[shiftV x y z] 110)).heap[w.heap.size + 1 + 1]? = _ := (Below.heap_alloc _ _ _ (by omega)).trans ((hb.block _ (heap_lt a2)).trans a2)
  have b3 : (w1.alloc (.cells #[shiftV x y z] 110)).heap[w1.heap.size]? = _ := heap_alloc_new w1 (.cells #[shiftV x y z] 110)
  have hm : w.heap.size ≤ x ∧ w.heap.size ≤ y ∧ w.heap.size ≤ z := ⟨by omega, by omega, by omega⟩
  have hk0 : Keeps (fun _ => False) w1 (w1.alloc (.cells #[shiftV x y z] 110)) := (Keeps.refl _ w1).alloc _
  have hS2 := hS.keeps hm hk0 (fun _ _ e => e)
  refine ⟨_, _, rfl, enters_of Tryz.func154 (by kernel_rfl) rfl, fun G W hk hG e f hb0 hb' => ?_⟩
  exact resize1 n o t g e f w.heap.size (w.heap.size + 1) (w.heap.size + 1 + 1) w1.heap.size x y z W
    (hk.cell (cell_of_heap b0 0) (hG _ (Nat.le_refl _))) (hk.cell (cell_of_heap b1 0) (hG _ (by show w.heap.size ≤ w.heap.size + 1; omega))) (hk.cell (cell_of_heap b2 0) (hG _ (by show w.heap.size ≤ w.heap.size + 1 + 1; omega))) (hk.cell (cell_of_heap b3 0) (hG _ (by show w.heap.size ≤ w1.heap.size; omega)))
    (hS2.keeps hm hk hG) ho0 (by omega) ht0 (by omega) hb0 hb'

/-- What a change of the forest's must have left that was made: with the function that moves places, which leans on blocks from m on alone. -/
def TMv (f : Mvf) (F : Nat → Prop) (w : World) (bf : Nat) (s' : List Nd) (e : Ending) (w' : World) : Prop := ∃ mv m, e = .returned (.tuple #[mv, .nilIface]) ∧ Keeps F w w' ∧ w.heap.size ≤ m ∧ m ≤ w'.heap.size ∧ PFor w' (fun b => F b ∨ (w.heap.size ≤ b ∧ b < m)) bf s' ∧ MoveOk m w' mv f
theorem TMv.move {f : Mvf} {F : Nat → Prop} {w : World} {bf : Nat} {s' : List Nd} {e : Ending} {w' : World} (h : TMv f F w bf s' e w') : TMove (fun _ _ => True) F w bf s' e w' := by
  obtain ⟨mv, m, rfl, hk, h1, h2, hf, hm⟩ := h
  exact ⟨mv, rfl, hk, hf.wider (fun b h => h.elim .inl (fun h => .inr h.1)), trivial⟩

end Go.Proofs.YtabogkonklplcaaGreatDoor
