import Derived.Test.YtabogkonklplcaaGreatDoorF03
import Derived.Test.YtabogkonklplcaaGreatDoorF06
import Derived.Deep.RegionLaw
import Derived.Deep.RegionHeld3
import Derived.Deep.Cut
import Derived.Deep.CutRange
import Derived.Test.YtabogkonklplcaaGreatDoorF07
import Derived.BigQuiet
import Derived.Deep.QuietTactic

/- marginlaw's as, in, pick. -/
namespace Go.Proofs.YtabogkonklplcaaGreatDoor
open Go.RowKit
set_option linter.unusedSimpArgs false
set_option linter.unusedVariables false

/-- What a call of the program's answers: nil, or a fault. -/
def errV (a y : Int) : Value := if y = 0 then .nilIface else .iface 32 (.agg #[.int .i64 a, .int .i64 y])

theorem fa_faultIs (v : Value) (w : World) : (Instr.typeAssert (.iface 32 v) 29 32 true).run Tryz.prog w = .ok (.tuple #[v, .bool true]) w := by kernel_rfl

theorem setCell_heap4 {w : World} {b : Nat} {o0 o1 o2 o3 v1 v2 v3 : Value} {t : TypeId} (h : w.heap[b]? = some (.cells #[o0, o1, o2, o3] t (0, 0))) :
    (((w.setCell ⟨b, 1, none⟩ v1).setCell ⟨b, 2, none⟩ v2).setCell ⟨b, 3, none⟩ v3).heap[b]? = some (.cells #[o0, v1, v2, v3] t (0, 0)) := by
  have h1 := heap_setCell_same w b 1 _ _ v1 h
  have h2 := heap_setCell_same _ b 2 _ _ v2 h1
  rw [heap_setCell_same _ b 3 _ _ _ h2]; simp

set_option maxRecDepth 20000 in
set_option maxHeartbeats 1000000 in
theorem las_nil (yb : Nat) (psv l0 : Value) (a0 y0 a : Int) (w : World) (hq : w.heap[yb]? = some (.cells #[psv, l0, .int .i64 a0, .int .i64 y0] 34 (0, 0))) :
    Calls Tryz.prog 20 #[.pointer (some ⟨yb, 0, none⟩), .nilIface, .agg #[.int .i64 a, .int .i64 0]] w fun e w' => e = .returned (.bool true) ∧
      Keeps (fun b => b = yb) w w' ∧ w'.heap[yb]? = some (.cells #[psv, .nilIface, .int .i64 a, .int .i64 0] 34 (0, 0)) := by
  have hl := heap_lt hq
  have c1 : w.cell? ⟨yb, 1, none⟩ = some l0 := cell_of_heap hq 1
  have c2 : w.cell? ⟨yb, 2, none⟩ = some (.int .i64 a0) := cell_of_heap hq 2
  have c3 : w.cell? ⟨yb, 3, none⟩ = some (.int .i64 y0) := cell_of_heap hq 3
  have f1 := frozen_of_heap hq 1
  have f2 := frozen_of_heap hq 2
  have f3 := frozen_of_heap hq 3
  have hne : ¬ yb = w.heap.size := by omega
  have HQ := hid hq
  clear hq
  go_enter Tryz.func20, Tryz.ntmps20
  go_wp2
  go_ret
  refine ⟨rfl, ?_, ?_⟩
  · repeat (refine Keeps.alloc ?_ _)
    exact (((Keeps.refl (fun b => b = yb) w).setCell (p := ⟨yb, 1, none⟩) (.inl rfl) _).setCell (p := ⟨yb, 2, none⟩) (.inl rfl) _).setCell (p := ⟨yb, 3, none⟩) (.inl rfl) _
  · first
      | (rw [Below.heap_alloc _ _ _ (by simp only [World.size_setCell]; omega)]; exact setCell_heap4 HQ.out)
      | (refine setCell_heap4 ?_; rw [Below.heap_alloc _ _ _ hl]; exact HQ.out)

set_option maxRecDepth 20000 in
set_option maxHeartbeats 1000000 in
theorem las_fault (yb : Nat) (psv l0 : Value) (a0 y0 a y : Int) (hy : y ≠ 0) (w : World) (hq : w.heap[yb]? = some (.cells #[psv, l0, .int .i64 a0, .int .i64 y0] 34 (0, 0))) :
    Calls Tryz.prog 20 #[.pointer (some ⟨yb, 0, none⟩), .iface 32 (.agg #[.int .i64 a, .int .i64 y]), .agg #[.int .i64 a, .int .i64 y]] w fun e w' => e = .returned (.bool true) ∧
      Keeps (fun b => b = yb) w w' ∧ w'.heap[yb]? = some (.cells #[psv, .iface 32 (.agg #[.int .i64 a, .int .i64 y]), .int .i64 a, .int .i64 y] 34 (0, 0)) := by
  have hl := heap_lt hq
  have c1 : w.cell? ⟨yb, 1, none⟩ = some l0 := cell_of_heap hq 1
  have c2 : w.cell? ⟨yb, 2, none⟩ = some (.int .i64 a0) := cell_of_heap hq 2
  have c3 : w.cell? ⟨yb, 3, none⟩ = some (.int .i64 y0) := cell_of_heap hq 3
  have f1 := frozen_of_heap hq 1
  have f2 := frozen_of_heap hq 2
  have f3 := frozen_of_heap hq 3
  have hne : ¬ yb = w.heap.size := by omega
  have hy0 : (y != 0) = true := by simpa using hy
  have hy1 : (y == 0) = false := by simpa using hy
  have ta := fa_faultIs
  have HQ := hid hq
  clear hq hy
  go_enter Tryz.func20, Tryz.ntmps20
  go_wp2
  go_ret
  refine ⟨by simp, ?_, ?_⟩
  · repeat (refine Keeps.alloc ?_ _)
    exact (((Keeps.refl (fun b => b = yb) w).setCell (p := ⟨yb, 1, none⟩) (.inl rfl) _).setCell (p := ⟨yb, 2, none⟩) (.inl rfl) _).setCell (p := ⟨yb, 3, none⟩) (.inl rfl) _
  · first
      | (rw [Below.heap_alloc _ _ _ (by simp only [World.size_alloc, World.size_setCell]; omega), Below.heap_alloc _ _ _ (by simp only [World.size_setCell]; omega)]; exact setCell_heap4 HQ.out)
      | (rw [Below.heap_alloc _ _ _ (by simp only [World.size_alloc, World.size_setCell]; omega)]; refine setCell_heap4 ?_; rw [Below.heap_alloc _ _ _ hl]; exact HQ.out)

theorem las_any (yb : Nat) (psv l0 : Value) (a0 y0 a y : Int) (w : World) (hq : w.heap[yb]? = some (.cells #[psv, l0, .int .i64 a0, .int .i64 y0] 34 (0, 0))) :
    Calls Tryz.prog 20 #[.pointer (some ⟨yb, 0, none⟩), errV a y, .agg #[.int .i64 a, .int .i64 y]] w fun e w' => e = .returned (.bool true) ∧
      Keeps (fun b => b = yb) w w' ∧ w'.heap[yb]? = some (.cells #[psv, errV a y, .int .i64 a, .int .i64 y] 34 (0, 0)) := by
  by_cases h : y = 0
  · subst h; exact las_nil yb psv l0 a0 y0 a w hq
  · have e : errV a y = .iface 32 (.agg #[.int .i64 a, .int .i64 y]) := if_neg h
    rw [e]
    exact las_fault yb psv l0 a0 y0 a y h w hq

/-- pick: a number of 0 to n - 1. -/
def pickN (c : Int) (n : Nat) : Nat := ((if c < 0 then -(c + 1) else c) % (n : Int)).toNat
theorem pickN_lt (c : Int) {n : Nat} (h : 0 < n) : pickN c n < n := by
  unfold pickN
  have h1 := Int.emod_nonneg (if c < 0 then -(c + 1) else c) (show (n : Int) ≠ 0 by omega)
  have h2 := Int.emod_lt_of_pos (if c < 0 then -(c + 1) else c) (show (0 : Int) < n by omega)
  omega

set_option maxHeartbeats 400000 in
theorem pick_any (c : Int) (n : Nat) (hn : 0 < n) (hb : n < lots) (h1 : -9223372036854775808 ≤ c) (h2 : c ≤ 9223372036854775807) (w : World) :
    Calls Tryz.prog 21 #[.int .i64 c, .int .i64 n] w fun e w' => e = .returned (.int .i64 (pickN c n)) ∧ w' = w := by
  unfold lots at hb
  by_cases hc : c < 0
  · have hz : ¬ (n : Int) = 0 := by omega
    go_enter Tryz.func21, Tryz.ntmps21
    go_wp2
    go_ret
    refine ⟨ret_int ?_, rfl⟩
    unfold pickN
    rw [if_pos hc, ← Int.neg_tmod, Int.tmod_eq_emod_of_nonneg (by omega)]
    have h3 := Int.emod_nonneg (-(c + 1)) (show (n : Int) ≠ 0 by omega)
    omega
  · have hz : ¬ (n : Int) = 0 := by omega
    have hc' : 0 ≤ c := by omega
    go_enter Tryz.func21, Tryz.ntmps21
    go_wp2
    go_ret
    refine ⟨ret_int ?_, rfl⟩
    unfold pickN
    rw [if_neg (show ¬ c < 0 by omega)]
    try rw [Int.tmod_eq_emod_of_nonneg hc']
    have h3 := Int.emod_nonneg c (show (n : Int) ≠ 0 by omega)
    omega

set_option maxRecDepth 20000 in
set_option maxHeartbeats 400000 in
/-- in: is a kind one of some? -/
theorem in_any (k : Int) (g cap : Nat) (ks : List Int) (w : World) (hr : w.ownsRow 0 3 1 (.slice (some ⟨g, 0, none⟩) ks.length cap) ks.length (ks.map (fun k => Value.int .i64 k))) (hb : ks.length < 100) :
    Calls Tryz.prog 39 #[.int .i64 k, .slice (some ⟨g, 0, none⟩) ks.length cap] w fun e w' => e = .returned (.bool (ks.contains k)) ∧ w' = w := by
  have CELL : Hid (∀ (j : Nat) (u : Int), ks[j]? = some u → w.cell? ⟨g, j, none⟩ = some (.int .i64 u)) := by
    intro j u hj
    rw [hr.cellAt j (by have := (List.getElem?_eq_some_iff.1 hj).1; omega)]
    simp [hj]
  clear hr
  go_enter Tryz.func39, Tryz.ntmps39
  go_wp2
  go_loop [5] (fun t => ∃ j : Nat, j ≤ ks.length ∧ t = .int .i64 j ∧ k ∉ ks.take j) (fun t => ks.length - (intOf t).toNat)
  case atStart => exact ⟨0, Nat.zero_le _, rfl, by simp⟩
  case round =>
    obtain ⟨j, hj, rfl, hno⟩ := hrel
    have HN := hid hno
    clear hno
    by_cases hlt : j < ks.length
    · obtain ⟨u, hu⟩ : ∃ u, ks[j]? = some u := ⟨_, List.getElem?_eq_getElem hlt⟩
      have hc := CELL.out j u hu
      have HU := hid hu
      clear hu
      by_cases huk : u = k
      · subst huk
        go_wp2
        go_ret
        exact ⟨ret_bool (by simpa using (List.mem_of_getElem? HU.out)), rfl⟩
      · have hne : (u == k) = false := by simpa using huk
        go_wp2
        go_round
        case rel => exact ⟨j + 1, by omega, by go_num, by rw [List.take_add_one, HU.out]; simp; exact ⟨HN.out, fun e => huk e.symm⟩⟩
        case measure => simp [intOf]; omega
    · go_wp2
      go_ret
      exact ⟨ret_bool (by have h := HN.out; rw [List.take_of_length_le (by omega)] at h; simpa using h), rfl⟩

end Go.Proofs.YtabogkonklplcaaGreatDoor

/- marginlaw's nodes: one call on the program's document and on the document's own; what is asked of both (Ans..). -/
namespace Go.Proofs.YtabogkonklplcaaGreatDoor
open Go.RowKit
set_option linter.unusedSimpArgs false
set_option linter.unusedVariables false

/-- The state of a document: its nodes, its ranges. How the program lays one: of the world, its blocks, its address, its state; and what states there are. -/
structure St where
  n : List Nd
  r : List Sp
structure PDT where
  lies : World → (Nat → Prop) → Nat → St → Prop
  ok : St → Prop
instance : CoeFun PDT (fun _ => World → (Nat → Prop) → Nat → St → Prop) := ⟨PDT.lies⟩
abbrev RDocS (w : World) (F : Nat → Prop) (bd : Nat) (s : St) : Prop := RDoc w F bd s.n s.r

structure PDOk (PD : PDT) : Prop where
  keeps : ∀ {w w' : World} {F G : Nat → Prop} {b : Nat} {s : St}, PD w F b s → Keeps G w w' → (∀ b, F b → ¬ G b) → PD w' F b s
  wider : ∀ {w : World} {F G : Nat → Prop} {b : Nat} {s : St}, PD w F b s → (∀ b, F b → G b) → PD w G b s
  narrow : ∀ {w : World} {F : Nat → Prop} {b : Nat} {s : St}, PD w F b s → PD w (fun k => F k ∧ k < w.heap.size) b s
  root : PD.ok ⟨[rootNd], []⟩

def grow (F : Nat → Prop) (w : World) : Nat → Prop := fun b => F b ∨ w.heap.size ≤ b
abbrev ptr (b : Nat) : Value := .pointer (some ⟨b, 0, none⟩)
abbrev fltV (a y : Int) : Value := .agg #[.int .i64 a, .int .i64 y]

/-- What a call of the program's must have left. -/
def PPost (PD : PDT) (F : Nat → Prop) (w : World) (bx : Nat) (s' : St) (v : Value) (e : Ending) (w' : World) : Prop := e = .returned v ∧ Keeps F w w' ∧ PD w' (grow F w) bx s'
/-- What the document's own must have left. -/
def RPost (F : Nat → Prop) (w : World) (bd : Nat) (s' : St) (v : Value) (e : Ending) (w' : World) : Prop := e = .returned v ∧ Keeps F w w' ∧ RDocS w' (grow F w) bd s'

/-- Both answer alike: a call with the arguments 'args' behind the receiver; 'res v' is the whole result where 'v' tells of the fault. -/
def Ans (PD : PDT) (G : World → Prop) (s : St) (pf rf : FuncId) (args : List Value) (pres : Value → Value) (rres : Value → Value) : Prop :=
  ∃ (a y : Int) (s' : St), PD.ok s' ∧
    (∀ (w : World) (F : Nat → Prop) (bx : Nat), G w → PD w F bx s → Calls Tryz.prog pf (ptr bx :: args).toArray w (PPost PD F w bx s' (pres (errV a y)))) ∧
    (∀ (w : World) (F : Nat → Prop) (bd : Nat), RDocS w F bd s → Calls Tryz.prog rf (ptr bd :: args).toArray w (RPost F w bd s' (rres (fltV a y))))

/-- The play's own block. -/
def PlayAt (w : World) (yb : Nat) (psv : Value) : Prop := ∃ (l0 : Value) (a0 y0 : Int), l0 = errV a0 y0 ∧ w.heap[yb]? = some (.cells #[psv, l0, .int .i64 a0, .int .i64 y0] 34 (0, 0))

/-- Behind one step on one pair: both have the same state again; of the blocks that are new those below m are the program's. -/
def PairPost (PD : PDT) (FP FR : Nat → Prop) (w : World) (yb bx bd : Nat) (psv : Value) (e : Ending) (w' : World) : Prop :=
  e = .returned (.bool true) ∧ ∃ (m : Nat) (s' : St), w.heap.size ≤ m ∧ m ≤ w'.heap.size ∧ PD.ok s' ∧ Keeps (fun b => FP b ∨ FR b ∨ b = yb) w w' ∧ PlayAt w' yb psv ∧
    PD w' (fun b => FP b ∨ (w.heap.size ≤ b ∧ b < m)) bx s' ∧ RDocS w' (fun b => FR b ∨ (m ≤ b ∧ b < w'.heap.size)) bd s'

/-- Where a pair lies beside the play. -/
structure PairAt (PD : PDT) (FP FR : Nat → Prop) (w : World) (yb bx bd : Nat) (psv : Value) (s : St) : Prop where
  play : PlayAt w yb psv
  pd : PD w FP bx s
  rd : RDocS w FR bd s
  apart : ∀ b, FP b → ¬ FR b
  fy : ¬ FP yb
  ry : ¬ FR yb
  fl : ∀ b, FP b → b < w.heap.size
  rl : ∀ b, FR b → b < w.heap.size

abbrev opV (kind D A B C : Int) (S : ByteArray) (p0 p1 q0 q1 : Int) : Value := .agg #[.int .i64 kind, .int .i64 D, .int .i64 A, .int .i64 B, .int .i64 C, .string S, .int .i64 p0, .int .i64 p1, .int .i64 q0, .int .i64 q1]

section
variable {PD : PDT} {G : World → Prop} {FP FR : Nat → Prop} {w : World} {yb bx bd : Nat} {psv : Value} {s : St}

theorem PlayAt.keeps {w w' : World} {F : Nat → Prop} (h : PlayAt w yb psv) (hk : Keeps F w w') (hF : ¬ F yb) : PlayAt w' yb psv := by
  obtain ⟨l0, a0, y0, he, h⟩ := h
  exact ⟨l0, a0, y0, he, (hk.block yb (heap_lt h) hF).trans h⟩

theorem RDoc.narrow {w : World} {F : Nat → Prop} {bd : Nat} {s : List Nd} {rs : List Sp} (h : RDoc w F bd s rs) : RDoc w (fun b => F b ∧ b < w.heap.size) bd s rs := by
  obtain ⟨bn, cap, rn, rv, h⟩ := h
  exact ⟨bn, cap, rn, rv, h.narrow⟩
theorem RDoc.wider {w : World} {F G : Nat → Prop} {bd : Nat} {s : List Nd} {rs : List Sp} (h : RDoc w F bd s rs) (hG : ∀ b, F b → G b) : RDoc w G bd s rs := by
  obtain ⟨bn, cap, rn, rv, h⟩ := h
  exact ⟨bn, cap, rn, rv, h.wider hG⟩

/-- The pair, when the program's call has been made. -/
theorem PairAt.ref {W0 w1 : World} (hA : PairAt PD FP FR w yb bx bd psv s) (hb0 : Below w.heap.size w W0) (k1 : Keeps FP W0 w1) : RDocS w1 FR bd s :=
  (hA.rd.keeps (Keeps.of_below (F := fun _ => False) hb0) (fun _ _ e => e)).keeps k1 (fun b hr hp => hA.apart b hp hr)
theorem PairAt.old {W0 w1 : World} (hA : PairAt PD FP FR w yb bx bd psv s) (k1 : Keeps FP W0 w1) {b : Nat} {o : Obj} (hb : w.heap.size ≤ b) (h : W0.heap[b]? = some o) : w1.heap[b]? = some o :=
  (k1.block b (heap_lt h) (fun e => by have := hA.fl b e; omega)).trans h
theorem PairAt.old2 {w1 w2 : World} (hA : PairAt PD FP FR w yb bx bd psv s) (k2 : Keeps FR w1 w2) {b : Nat} {o : Obj} (hb : w.heap.size ≤ b) (h : w1.heap[b]? = some o) : w2.heap[b]? = some o :=
  (k2.block b (heap_lt h) (fun e => by have := hA.rl b e; omega)).trans h
theorem PairAt.play2 {W0 w1 w2 : World} (hA : PairAt PD FP FR w yb bx bd psv s) (hb0 : Below w.heap.size w W0) (k1 : Keeps FP W0 w1) (k2 : Keeps FR w1 w2) : PlayAt w2 yb psv :=
  ((hA.play.keeps (Keeps.of_below (F := fun _ => False) hb0) (fun e => e)).keeps k1 hA.fy).keeps k2 hA.ry

theorem pair_close (hPD : PDOk PD) (hA : PairAt PD FP FR w yb bx bd psv s) {W0 w1 w2 w4 : World} {s' : St} (hwf : PD.ok s') (hb0 : Below w.heap.size w W0) (k1 : Keeps FP W0 w1) (d1 : PD w1 (grow FP W0) bx s')
    (k2 : Keeps FR w1 w2) (r2 : RDocS w2 (grow FR w1) bd s') (k4 : Keeps (fun b => b = yb) w2 w4) (hp : PlayAt w4 yb psv) :
    PairPost PD FP FR w yb bx bd psv (.returned (.bool true)) w4 := by
  have z0 := hb0.size
  have z1 := k1.size
  have z2 := k2.size
  have z4 := k4.size
  have hyb : yb < w.heap.size := by obtain ⟨_, _, _, _, h⟩ := hA.play; exact heap_lt h
  refine ⟨rfl, w1.heap.size, s', by omega, by omega, hwf, ?_, hp, ?_, ?_⟩
  · have e1 : Keeps (fun b => FP b ∨ FR b ∨ b = yb) w w1 := (Keeps.of_below hb0).trans (k1.mono (fun k _ e => .inl (.inl e)))
    have e2 : Keeps (fun b => FP b ∨ FR b ∨ b = yb) w w2 := e1.trans (k2.mono (fun k _ e => .inl (.inr (.inl e))))
    exact e2.trans (k4.mono (fun k _ e => .inl (.inr (.inr e))))
  · have e1 := hPD.narrow d1
    have e2 := hPD.keeps e1 k2 (fun b hb hr => by
      rcases hb.1 with h | h
      · exact hA.apart b h hr
      · have := hA.rl b hr; omega)
    have e4 := hPD.keeps e2 k4 (fun b hb hy => by
      rcases hb.1 with h | h
      · exact hA.fy (hy ▸ h)
      · omega)
    refine hPD.wider e4 (fun b hb => ?_)
    rcases hb.1 with h | h
    · exact .inl h
    · exact .inr ⟨by omega, hb.2⟩
  · have e1 := r2.narrow
    have e4 := e1.keeps k4 (fun b hb hy => by
      rcases hb.1 with h | h
      · exact hA.ry (hy ▸ h)
      · omega)
    refine e4.wider (fun b hb => ?_)
    rcases hb.1 with h | h
    · exact .inl h
    · exact .inr ⟨h, by omega⟩

/-- The two boxes that nodes lays. -/
abbrev boxed2 (w : World) (bx bd : Nat) (kind D A B C : Int) (S : ByteArray) (p0 p1 q0 q1 : Int) : World :=
  (w.alloc (.cells #[ptr bx, ptr bd] 44)).alloc (.cells #[.int .i64 kind, .int .i64 D, .int .i64 A, .int .i64 B, .int .i64 C, .string S, .int .i64 p0, .int .i64 p1, .int .i64 q0, .int .i64 q1] 39)
theorem boxed2_below (w : World) (bx bd : Nat) (kind D A B C : Int) (S : ByteArray) (p0 p1 q0 q1 : Int) : Below w.heap.size w (boxed2 w bx bd kind D A B C S p0 p1 q0 q1) :=
  ((Below.refl _ w).alloc (Nat.le_refl _) _).alloc (by simp) _
theorem boxed2_pair (w : World) (bx bd : Nat) (kind D A B C : Int) (S : ByteArray) (p0 p1 q0 q1 : Int) : (boxed2 w bx bd kind D A B C S p0 p1 q0 q1).heap[w.heap.size]? = some (.cells #[ptr bx, ptr bd] 44 (0, 0)) := by
  rw [Below.heap_alloc _ _ _ (by simp), heap_alloc_new]
theorem boxed2_op (w : World) (bx bd : Nat) (kind D A B C : Int) (S : ByteArray) (p0 p1 q0 q1 : Int) : (boxed2 w bx bd kind D A B C S p0 p1 q0 q1).heap[w.heap.size + 1]? = some (.cells #[.int .i64 kind, .int .i64 D, .int .i64 A, .int .i64 B, .int .i64 C, .string S, .int .i64 p0, .int .i64 p1, .int .i64 q0, .int .i64 q1] 39 (0, 0)) := by
  have := heap_alloc_new (w.alloc (.cells #[ptr bx, ptr bd] 44)) (.cells #[.int .i64 kind, .int .i64 D, .int .i64 A, .int .i64 B, .int .i64 C, .string S, .int .i64 p0, .int .i64 p1, .int .i64 q0, .int .i64 q1] 39)
  simpa using this

set_option maxRecDepth 20000 in
set_option maxHeartbeats 4000000 in
theorem nodes_element (hPD : PDOk PD) (hGB : ∀ w w', G w → Below w.heap.size w w' → G w') (hA : PairAt PD FP FR w yb bx bd psv s) (hg : G w)
    (D A B C : Int) (S : ByteArray) (p0 p1 q0 q1 : Int) (h : ∃ n : Int, Ans PD G s 52 73 [] (fun v => .tuple #[.int .i64 n, v]) (fun v => .tuple #[.int .i64 n, v])) :
    Calls Tryz.prog 42 #[ptr yb, .agg #[ptr bx, ptr bd], opV 2 D A B C S p0 p1 q0 q1] w (PairPost PD FP FR w yb bx bd psv) := by
  obtain ⟨n, a, y, s', hwf, hp, hr⟩ := h
  have hB := boxed2_below w bx bd 2 D A B C S p0 p1 q0 q1
  have hbp := boxed2_pair w bx bd 2 D A B C S p0 p1 q0 q1
  have hbo := boxed2_op w bx bd 2 D A B C S p0 p1 q0 q1
  have CP := hid (hp (boxed2 w bx bd 2 D A B C S p0 p1 q0 q1) FP bx (hGB _ _ hg hB) (hPD.keeps hA.pd (Keeps.of_below (F := fun _ => False) hB) (fun _ _ e => e)))
  have HB := hid hB
  have HBP := hid hbp
  have HBO := hid hbo
  have HR := hid hr
  have HA := hid hA
  have HPD := hid hPD
  have HWF := hid hwf
  clear hp hr hB hbp hbo hA hPD hwf hg hGB
  go_enter Tryz.func42, Tryz.ntmps42
  go_wp2_with (first
    | (go_at_call 52
       refine CP.out.mono ?_
       clear CP
       rintro e w1 ⟨rfl, k1, d1⟩
       have hp1 := HA.out.old k1 (Nat.le_refl _) HBP.out
       have ho1 := HA.out.old k1 (Nat.le_succ _) HBO.out
       have c10 : w1.cell? ⟨w.heap.size, 0, none⟩ = some (ptr bx) := cell_of_heap hp1 0
       have c11 : w1.cell? ⟨w.heap.size, 1, none⟩ = some (ptr bd) := cell_of_heap hp1 1
       have c22 : w1.cell? ⟨w.heap.size + 1, 2, none⟩ = some (.int .i64 A) := cell_of_heap ho1 2
       have c23 : w1.cell? ⟨w.heap.size + 1, 3, none⟩ = some (.int .i64 B) := cell_of_heap ho1 3
       have c24 : w1.cell? ⟨w.heap.size + 1, 4, none⟩ = some (.int .i64 C) := cell_of_heap ho1 4
       have c25 : w1.cell? ⟨w.heap.size + 1, 5, none⟩ = some (.string S) := cell_of_heap ho1 5
       have CR := hid (HR.out w1 FR bd (HA.out.ref HB.out k1))
       have K1 := hid k1
       have D1 := hid d1
       clear k1 d1 hp1 ho1)
    | (go_at_call 73
       refine CR.out.mono ?_
       clear CR
       rintro e w2 ⟨rfl, k2, r2⟩
       have PL := hid (HA.out.play2 HB.out K1.out k2)
       have K2 := hid k2
       have R2 := hid r2
       clear k2 r2)
    | (go_at_call 20
       obtain ⟨l0, a0, y0, -, hq⟩ := PL.out
       refine (las_any yb psv l0 a0 y0 a y (w2.alloc (.cells #[.int .i64 a, .int .i64 y] 32)) ((Below.heap_alloc _ _ _ (heap_lt hq)).trans hq)).mono ?_
       rintro e w4 ⟨rfl, k4, hq4⟩
       have K4 := hid k4
       have Q4 := hid hq4
       clear k4 hq4 hq))
  go_ret
  exact pair_close HPD.out HA.out HWF.out HB.out K1.out D1.out K2.out R2.out ((((Keeps.refl (fun b => b = yb) w2).alloc _)).trans (K4.out.mono (fun k _ e => .inl e))) ⟨_, _, _, rfl, Q4.out⟩
set_option maxRecDepth 20000 in
set_option maxHeartbeats 4000000 in
theorem nodes_text (hPD : PDOk PD) (hGB : ∀ w w', G w → Below w.heap.size w w' → G w') (hA : PairAt PD FP FR w yb bx bd psv s) (hg : G w)
    (D A B C : Int) (S : ByteArray) (p0 p1 q0 q1 : Int) (h : ∃ n : Int, Ans PD G s 53 74 [.string S] (fun v => .tuple #[.int .i64 n, v]) (fun v => .tuple #[.int .i64 n, v])) :
    Calls Tryz.prog 42 #[ptr yb, .agg #[ptr bx, ptr bd], opV 3 D A B C S p0 p1 q0 q1] w (PairPost PD FP FR w yb bx bd psv) := by
  obtain ⟨n, a, y, s', hwf, hp, hr⟩ := h
  have hB := boxed2_below w bx bd 3 D A B C S p0 p1 q0 q1
  have hbp := boxed2_pair w bx bd 3 D A B C S p0 p1 q0 q1
  have hbo := boxed2_op w bx bd 3 D A B C S p0 p1 q0 q1
  have CP := hid (hp (boxed2 w bx bd 3 D A B C S p0 p1 q0 q1) FP bx (hGB _ _ hg hB) (hPD.keeps hA.pd (Keeps.of_below (F := fun _ => False) hB) (fun _ _ e => e)))
  have HB := hid hB
  have HBP := hid hbp
  have HBO := hid hbo
  have HR := hid hr
  have HA := hid hA
  have HPD := hid hPD
  have HWF := hid hwf
  clear hp hr hB hbp hbo hA hPD hwf hg hGB
  go_enter Tryz.func42, Tryz.ntmps42
  go_wp2_with (first
    | (go_at_call 53
       refine CP.out.mono ?_
       clear CP
       rintro e w1 ⟨rfl, k1, d1⟩
       have hp1 := HA.out.old k1 (Nat.le_refl _) HBP.out
       have ho1 := HA.out.old k1 (Nat.le_succ _) HBO.out
       have c10 : w1.cell? ⟨w.heap.size, 0, none⟩ = some (ptr bx) := cell_of_heap hp1 0
       have c11 : w1.cell? ⟨w.heap.size, 1, none⟩ = some (ptr bd) := cell_of_heap hp1 1
       have c22 : w1.cell? ⟨w.heap.size + 1, 2, none⟩ = some (.int .i64 A) := cell_of_heap ho1 2
       have c23 : w1.cell? ⟨w.heap.size + 1, 3, none⟩ = some (.int .i64 B) := cell_of_heap ho1 3
       have c24 : w1.cell? ⟨w.heap.size + 1, 4, none⟩ = some (.int .i64 C) := cell_of_heap ho1 4
       have c25 : w1.cell? ⟨w.heap.size + 1, 5, none⟩ = some (.string S) := cell_of_heap ho1 5
       have CR := hid (HR.out w1 FR bd (HA.out.ref HB.out k1))
       have K1 := hid k1
       have D1 := hid d1
       clear k1 d1 hp1 ho1)
    | (go_at_call 74
       refine CR.out.mono ?_
       clear CR
       rintro e w2 ⟨rfl, k2, r2⟩
       have PL := hid (HA.out.play2 HB.out K1.out k2)
       have K2 := hid k2
       have R2 := hid r2
       clear k2 r2)
    | (go_at_call 20
       obtain ⟨l0, a0, y0, -, hq⟩ := PL.out
       refine (las_any yb psv l0 a0 y0 a y (w2.alloc (.cells #[.int .i64 a, .int .i64 y] 32)) ((Below.heap_alloc _ _ _ (heap_lt hq)).trans hq)).mono ?_
       rintro e w4 ⟨rfl, k4, hq4⟩
       have K4 := hid k4
       have Q4 := hid hq4
       clear k4 hq4 hq))
  go_ret
  exact pair_close HPD.out HA.out HWF.out HB.out K1.out D1.out K2.out R2.out ((((Keeps.refl (fun b => b = yb) w2).alloc _)).trans (K4.out.mono (fun k _ e => .inl e))) ⟨_, _, _, rfl, Q4.out⟩

set_option maxRecDepth 20000 in
set_option maxHeartbeats 4000000 in
theorem nodes_insert (hPD : PDOk PD) (hGB : ∀ w w', G w → Below w.heap.size w w' → G w') (hA : PairAt PD FP FR w yb bx bd psv s) (hg : G w)
    (D A B C : Int) (S : ByteArray) (p0 p1 q0 q1 : Int) (h : Ans PD G s 54 75 [.int .i64 A, .int .i64 B, .int .i64 C] (fun v => v) (fun v => v)) :
    Calls Tryz.prog 42 #[ptr yb, .agg #[ptr bx, ptr bd], opV 4 D A B C S p0 p1 q0 q1] w (PairPost PD FP FR w yb bx bd psv) := by
  obtain ⟨a, y, s', hwf, hp, hr⟩ := h
  have hB := boxed2_below w bx bd 4 D A B C S p0 p1 q0 q1
  have hbp := boxed2_pair w bx bd 4 D A B C S p0 p1 q0 q1
  have hbo := boxed2_op w bx bd 4 D A B C S p0 p1 q0 q1
  have CP := hid (hp (boxed2 w bx bd 4 D A B C S p0 p1 q0 q1) FP bx (hGB _ _ hg hB) (hPD.keeps hA.pd (Keeps.of_below (F := fun _ => False) hB) (fun _ _ e => e)))
  have HB := hid hB
  have HBP := hid hbp
  have HBO := hid hbo
  have HR := hid hr
  have HA := hid hA
  have HPD := hid hPD
  have HWF := hid hwf
  clear hp hr hB hbp hbo hA hPD hwf hg hGB
  go_enter Tryz.func42, Tryz.ntmps42
  go_wp2_with (first
    | (go_at_call 54
       refine CP.out.mono ?_
       clear CP
       rintro e w1 ⟨rfl, k1, d1⟩
       have hp1 := HA.out.old k1 (Nat.le_refl _) HBP.out
       have ho1 := HA.out.old k1 (Nat.le_succ _) HBO.out
       have c10 : w1.cell? ⟨w.heap.size, 0, none⟩ = some (ptr bx) := cell_of_heap hp1 0
       have c11 : w1.cell? ⟨w.heap.size, 1, none⟩ = some (ptr bd) := cell_of_heap hp1 1
       have c22 : w1.cell? ⟨w.heap.size + 1, 2, none⟩ = some (.int .i64 A) := cell_of_heap ho1 2
       have c23 : w1.cell? ⟨w.heap.size + 1, 3, none⟩ = some (.int .i64 B) := cell_of_heap ho1 3
       have c24 : w1.cell? ⟨w.heap.size + 1, 4, none⟩ = some (.int .i64 C) := cell_of_heap ho1 4
       have c25 : w1.cell? ⟨w.heap.size + 1, 5, none⟩ = some (.string S) := cell_of_heap ho1 5
       have CR := hid (HR.out w1 FR bd (HA.out.ref HB.out k1))
       have K1 := hid k1
       have D1 := hid d1
       clear k1 d1 hp1 ho1)
    | (go_at_call 75
       refine CR.out.mono ?_
       clear CR
       rintro e w2 ⟨rfl, k2, r2⟩
       have PL := hid (HA.out.play2 HB.out K1.out k2)
       have K2 := hid k2
       have R2 := hid r2
       clear k2 r2)
    | (go_at_call 20
       obtain ⟨l0, a0, y0, -, hq⟩ := PL.out
       refine (las_any yb psv l0 a0 y0 a y w2 hq).mono ?_
       rintro e w4 ⟨rfl, k4, hq4⟩
       have K4 := hid k4
       have Q4 := hid hq4
       clear k4 hq4 hq))
  go_ret
  exact pair_close HPD.out HA.out HWF.out HB.out K1.out D1.out K2.out R2.out K4.out ⟨_, _, _, rfl, Q4.out⟩

set_option maxRecDepth 20000 in
set_option maxHeartbeats 4000000 in
theorem nodes_remove (hPD : PDOk PD) (hGB : ∀ w w', G w → Below w.heap.size w w' → G w') (hA : PairAt PD FP FR w yb bx bd psv s) (hg : G w)
    (D A B C : Int) (S : ByteArray) (p0 p1 q0 q1 : Int) (h : Ans PD G s 60 76 [.int .i64 A] (fun v => v) (fun v => v)) :
    Calls Tryz.prog 42 #[ptr yb, .agg #[ptr bx, ptr bd], opV 5 D A B C S p0 p1 q0 q1] w (PairPost PD FP FR w yb bx bd psv) := by
  obtain ⟨a, y, s', hwf, hp, hr⟩ := h
  have hB := boxed2_below w bx bd 5 D A B C S p0 p1 q0 q1
  have hbp := boxed2_pair w bx bd 5 D A B C S p0 p1 q0 q1
  have hbo := boxed2_op w bx bd 5 D A B C S p0 p1 q0 q1
  have CP := hid (hp (boxed2 w bx bd 5 D A B C S p0 p1 q0 q1) FP bx (hGB _ _ hg hB) (hPD.keeps hA.pd (Keeps.of_below (F := fun _ => False) hB) (fun _ _ e => e)))
  have HB := hid hB
  have HBP := hid hbp
  have HBO := hid hbo
  have HR := hid hr
  have HA := hid hA
  have HPD := hid hPD
  have HWF := hid hwf
  clear hp hr hB hbp hbo hA hPD hwf hg hGB
  go_enter Tryz.func42, Tryz.ntmps42
  go_wp2_with (first
    | (go_at_call 60
       refine CP.out.mono ?_
       clear CP
       rintro e w1 ⟨rfl, k1, d1⟩
       have hp1 := HA.out.old k1 (Nat.le_refl _) HBP.out
       have ho1 := HA.out.old k1 (Nat.le_succ _) HBO.out
       have c10 : w1.cell? ⟨w.heap.size, 0, none⟩ = some (ptr bx) := cell_of_heap hp1 0
       have c11 : w1.cell? ⟨w.heap.size, 1, none⟩ = some (ptr bd) := cell_of_heap hp1 1
       have c22 : w1.cell? ⟨w.heap.size + 1, 2, none⟩ = some (.int .i64 A) := cell_of_heap ho1 2
       have c23 : w1.cell? ⟨w.heap.size + 1, 3, none⟩ = some (.int .i64 B) := cell_of_heap ho1 3
       have c24 : w1.cell? ⟨w.heap.size + 1, 4, none⟩ = some (.int .i64 C) := cell_of_heap ho1 4
       have c25 : w1.cell? ⟨w.heap.size + 1, 5, none⟩ = some (.string S) := cell_of_heap ho1 5
       have CR := hid (HR.out w1 FR bd (HA.out.ref HB.out k1))
       have K1 := hid k1
       have D1 := hid d1
       clear k1 d1 hp1 ho1)
    | (go_at_call 76
       refine CR.out.mono ?_
       clear CR
       rintro e w2 ⟨rfl, k2, r2⟩
       have PL := hid (HA.out.play2 HB.out K1.out k2)
       have K2 := hid k2
       have R2 := hid r2
       clear k2 r2)
    | (go_at_call 20
       obtain ⟨l0, a0, y0, -, hq⟩ := PL.out
       refine (las_any yb psv l0 a0 y0 a y w2 hq).mono ?_
       rintro e w4 ⟨rfl, k4, hq4⟩
       have K4 := hid k4
       have Q4 := hid hq4
       clear k4 hq4 hq))
  go_ret
  exact pair_close HPD.out HA.out HWF.out HB.out K1.out D1.out K2.out R2.out K4.out ⟨_, _, _, rfl, Q4.out⟩

set_option maxRecDepth 20000 in
set_option maxHeartbeats 4000000 in
theorem nodes_show (hPD : PDOk PD) (hGB : ∀ w w', G w → Below w.heap.size w w' → G w') (hA : PairAt PD FP FR w yb bx bd psv s) (hg : G w)
    (D A B C : Int) (S : ByteArray) (p0 p1 q0 q1 : Int) (h : ∃ b : ByteArray, Ans PD G s 55 77 [.int .i64 A] (fun v => .tuple #[.string b, v]) (fun v => .tuple #[.string b, v])) :
    Calls Tryz.prog 42 #[ptr yb, .agg #[ptr bx, ptr bd], opV 6 D A B C S p0 p1 q0 q1] w (PairPost PD FP FR w yb bx bd psv) := by
  obtain ⟨b, a, y, s', hwf, hp, hr⟩ := h
  have hB := boxed2_below w bx bd 6 D A B C S p0 p1 q0 q1
  have hbp := boxed2_pair w bx bd 6 D A B C S p0 p1 q0 q1
  have hbo := boxed2_op w bx bd 6 D A B C S p0 p1 q0 q1
  have CP := hid (hp (boxed2 w bx bd 6 D A B C S p0 p1 q0 q1) FP bx (hGB _ _ hg hB) (hPD.keeps hA.pd (Keeps.of_below (F := fun _ => False) hB) (fun _ _ e => e)))
  have HB := hid hB
  have HBP := hid hbp
  have HBO := hid hbo
  have HR := hid hr
  have HA := hid hA
  have HPD := hid hPD
  have HWF := hid hwf
  clear hp hr hB hbp hbo hA hPD hwf hg hGB
  have hbb : (b.toList == b.toList) = true := by simp
  go_enter Tryz.func42, Tryz.ntmps42
  go_wp2_with (first
    | (go_at_call 55
       refine CP.out.mono ?_
       clear CP
       rintro e w1 ⟨rfl, k1, d1⟩
       have hp1 := HA.out.old k1 (Nat.le_refl _) HBP.out
       have ho1 := HA.out.old k1 (Nat.le_succ _) HBO.out
       have c10 : w1.cell? ⟨w.heap.size, 0, none⟩ = some (ptr bx) := cell_of_heap hp1 0
       have c11 : w1.cell? ⟨w.heap.size, 1, none⟩ = some (ptr bd) := cell_of_heap hp1 1
       have c22 : w1.cell? ⟨w.heap.size + 1, 2, none⟩ = some (.int .i64 A) := cell_of_heap ho1 2
       have c23 : w1.cell? ⟨w.heap.size + 1, 3, none⟩ = some (.int .i64 B) := cell_of_heap ho1 3
       have c24 : w1.cell? ⟨w.heap.size + 1, 4, none⟩ = some (.int .i64 C) := cell_of_heap ho1 4
       have c25 : w1.cell? ⟨w.heap.size + 1, 5, none⟩ = some (.string S) := cell_of_heap ho1 5
       have CR := hid (HR.out w1 FR bd (HA.out.ref HB.out k1))
       have K1 := hid k1
       have D1 := hid d1
       clear k1 d1 hp1 ho1)
    | (go_at_call 77
       refine CR.out.mono ?_
       clear CR
       rintro e w2 ⟨rfl, k2, r2⟩
       have PL := hid (HA.out.play2 HB.out K1.out k2)
       have K2 := hid k2
       have R2 := hid r2
       clear k2 r2)
    | (go_at_call 20
       obtain ⟨l0, a0, y0, -, hq⟩ := PL.out
       refine (las_any yb psv l0 a0 y0 a y (w2.alloc (.cells #[.int .i64 a, .int .i64 y] 32)) ((Below.heap_alloc _ _ _ (heap_lt hq)).trans hq)).mono ?_
       rintro e w4 ⟨rfl, k4, hq4⟩
       have K4 := hid k4
       have Q4 := hid hq4
       clear k4 hq4 hq))
  go_ret
  exact pair_close HPD.out HA.out HWF.out HB.out K1.out D1.out K2.out R2.out ((((Keeps.refl (fun b => b = yb) w2).alloc _)).trans (K4.out.mono (fun k _ e => .inl e))) ⟨_, _, _, rfl, Q4.out⟩
end

end Go.Proofs.YtabogkonklplcaaGreatDoor

/- marginlaw's step: one step of a script. -/
namespace Go.Proofs.YtabogkonklplcaaGreatDoor
open Go.RowKit
set_option linter.unusedSimpArgs false
set_option linter.unusedVariables false

/-- A pair: the program's document, the document's own, the state of both. -/
structure DocR where
  bx : Nat
  bd : Nat
  s : St

/-- What is played, in memory: whose block is whose ('own': 1 the play's, 2i + 2 the program's document i, 2i + 3 the document's own i, 0 nobody's); all of it lies where Q lets things turn, and nothing else has turned since w0. -/
structure Inv (PD : PDT) (Q : Nat → Prop) (w0 w : World) (yb : Nat) (docs : List DocR) (own : Nat → Nat) (psv : Value) : Prop where
  play : PlayAt w yb psv
  row : w.ownsRow 0 44 2 psv docs.length (docs.flatMap fun d => [ptr d.bx, ptr d.bd])
  oy : own yb = 1
  ops : ∀ b, psv.ownBlock = some b → own b = 1 ∧ b ≠ yb
  ol : ∀ b, own b ≠ 0 → Q b ∧ b < w.heap.size
  bl : ∀ b, w.heap.size ≤ b → Q b
  fr : Keeps Q w0 w
  doc : ∀ (i : Nat) (d : DocR), docs[i]? = some d → PD w (fun b => own b = 2 * i + 2) d.bx d.s ∧ RDocS w (fun b => own b = 2 * i + 3) d.bd d.s ∧ PD.ok d.s

def InvE (PD : PDT) (Q : Nat → Prop) (w0 w : World) (yb : Nat) (docs : List DocR) : Prop := ∃ own psv, Inv PD Q w0 w yb docs own psv

/-- What a step must have left. -/
def StepPost (PD : PDT) (Q : Nat → Prop) (w0 : World) (yb : Nat) (m n : Nat) (e : Ending) (w' : World) : Prop := e = .returned (.bool true) ∧ ∃ docs, InvE PD Q w0 w' yb docs ∧ m ≤ docs.length ∧ docs.length ≤ n

theorem pairs_length (docs : List DocR) : (docs.flatMap fun d => [ptr d.bx, ptr d.bd]).length = docs.length * 2 := by
  induction docs with
  | nil => rfl
  | cons d l ih => simp [ih]; omega
theorem pairs_get (docs : List DocR) (i : Nat) (d : DocR) (h : docs[i]? = some d) : (docs.flatMap fun d => [ptr d.bx, ptr d.bd])[i * 2]? = some (ptr d.bx) ∧ (docs.flatMap fun d => [ptr d.bx, ptr d.bd])[i * 2 + 1]? = some (ptr d.bd) := by
  induction docs generalizing i with
  | nil => simp at h
  | cons a l ih =>
    cases i with
    | zero => simp at h; subst h; simp
    | succ i =>
      have := ih i (by simpa using h)
      have e1 : (i + 1) * 2 = i * 2 + 1 + 1 := by omega
      have e2 : (i + 1) * 2 + 1 = i * 2 + 1 + 1 + 1 := by omega
      rw [e2, e1]
      simpa using this
theorem pairs_set (docs : List DocR) (i : Nat) (d d' : DocR) (h : docs[i]? = some d) (hx : d'.bx = d.bx) (hd : d'.bd = d.bd) : ((docs.set i d').flatMap fun d => [ptr d.bx, ptr d.bd]) = (docs.flatMap fun d => [ptr d.bx, ptr d.bd]) := by
  induction docs generalizing i with
  | nil => simp at h
  | cons a l ih =>
    cases i with
    | zero => simp at h; subst h; simp [hx, hd]
    | succ i => simp [ih i (by simpa using h)]

section
variable {PD : PDT} {Q : Nat → Prop} {w0 w : World} {yb : Nat} {docs : List DocR} {own : Nat → Nat} {psv : Value}

theorem InvE.below {w' : World} (hPD : PDOk PD) (h : InvE PD Q w0 w yb docs) (hb : Below w.heap.size w w') : InvE PD Q w0 w' yb docs := by
  obtain ⟨own, psv, h⟩ := h
  have hk := Keeps.of_below (F := fun _ => False) hb
  have hz := hb.size
  have hbl := h.bl
  refine ⟨own, psv, h.play.keeps hk (fun e => e), hk.row h.row (fun _ _ e => e), h.oy, h.ops, fun b e => ⟨(h.ol b e).1, by have := (h.ol b e).2; omega⟩, fun b e => hbl b (by omega), h.fr.trans (Keeps.of_below hb), fun i d hd => ?_⟩
  obtain ⟨h1, h2, h3⟩ := h.doc i d hd
  exact ⟨hPD.keeps h1 hk (fun _ _ e => e), h2.keeps hk (fun _ _ e => e), h3⟩

/-- The pair that a step is played on. -/
theorem Inv.pair (h : Inv PD Q w0 w yb docs own psv) {i : Nat} {d : DocR} (hd : docs[i]? = some d) : PairAt PD (fun b => own b = 2 * i + 2) (fun b => own b = 2 * i + 3) w yb d.bx d.bd psv d.s := by
  obtain ⟨h1, h2, h3⟩ := h.doc i d hd
  have hy := h.oy
  exact ⟨h.play, h1, h2, fun b e1 e2 => by omega, by omega, by omega, fun b e => (h.ol b (by omega)).2, fun b e => (h.ol b (by omega)).2⟩

/-- Behind a step on one pair. -/
theorem Inv.stepped (hPD : PDOk PD) (h : Inv PD Q w0 w yb docs own psv) {i : Nat} {d : DocR} (hd : docs[i]? = some d) {e : Ending} {w' : World} (hp : PairPost PD (fun b => own b = 2 * i + 2) (fun b => own b = 2 * i + 3) w yb d.bx d.bd psv e w') :
    StepPost PD Q w0 yb docs.length docs.length e w' := by
  obtain ⟨rfl, m, s', hm1, hm2, hwf, hk, hpl, hpd, hrd⟩ := hp
  have hbl := h.bl
  have hi := (List.getElem?_eq_some_iff.1 hd).1
  refine ⟨rfl, docs.set i ⟨d.bx, d.bd, s'⟩, ⟨fun b => if w.heap.size ≤ b then (if b < m then 2 * i + 2 else if b < w'.heap.size then 2 * i + 3 else 0) else own b, psv, ?_⟩, by simp, by simp⟩
  have hyb : yb < w.heap.size := (h.ol yb (by rw [h.oy]; decide)).2
  refine ⟨hpl, ?_, ?_, ?_, ?_, fun b e => hbl b (by omega), ?_, ?_⟩
  · rw [List.length_set, pairs_set docs i d ⟨d.bx, d.bd, s'⟩ hd rfl rfl]
    refine hk.row h.row (fun b e => ?_)
    have := h.ops b e
    omega
  · rw [if_neg (by omega)]; exact h.oy
  · intro b e
    have h1 := h.ops b e
    have h2 := (h.ol b (by omega)).2
    exact ⟨by rw [if_neg (by omega)]; exact h1.1, h1.2⟩
  · intro b e
    split at e
    · split at e
      · exact ⟨hbl b (by omega), by omega⟩
      · split at e
        · exact ⟨hbl b (by omega), by omega⟩
        · exact absurd rfl e
    · have := h.ol b e
      exact ⟨this.1, by omega⟩
  · refine h.fr.trans (hk.mono (fun k _ e => .inl ?_))
    have h1 : own k ≠ 0 := by
      rcases e with e | e | e
      · omega
      · omega
      · rw [e, h.oy]; decide
    exact (h.ol k h1).1
  · intro j d' hd'
    rw [List.getElem?_set] at hd'
    by_cases hij : i = j
    · subst hij
      rw [if_pos rfl, if_pos hi] at hd'
      cases hd'
      refine ⟨hPD.wider hpd (fun b hb => ?_), hrd.wider (fun b hb => ?_), hwf⟩
      · rcases hb with hb | hb
        · have := (h.ol b (by omega)).2
          rw [if_neg (by omega)]; exact hb
        · rw [if_pos hb.1, if_pos hb.2]
      · rcases hb with hb | hb
        · have := (h.ol b (by omega)).2
          rw [if_neg (by omega)]; exact hb
        · rw [if_pos (by omega), if_neg (by omega), if_pos hb.2]
    · rw [if_neg hij] at hd'
      obtain ⟨h1, h2, h3⟩ := h.doc j d' hd'
      refine ⟨hPD.wider (hPD.keeps h1 hk (fun b hb hf => by have := h.oy; rcases hf with hf | hf | hf; omega; omega; (rw [hf] at hb; omega))) (fun b hb => ?_), (h2.keeps hk (fun b hb hf => by have := h.oy; rcases hf with hf | hf | hf; omega; omega; (rw [hf] at hb; omega))).wider (fun b hb => ?_), h3⟩
      · have := (h.ol b (by omega)).2
        rw [if_neg (by omega)]; exact hb
      · have := (h.ol b (by omega)).2
        rw [if_neg (by omega)]; exact hb

/-- What the program's New must do. -/
def NewOk (PD : PDT) (G : World → Prop) : Prop := ∀ w : World, G w → Calls Tryz.prog 40 #[] w fun e w' => ∃ bx, e = .returned (ptr bx) ∧ Below w.heap.size w w' ∧ PD w' (fun b => w.heap.size ≤ b) bx ⟨[rootNd], []⟩

theorem wf_root : WF [rootNd] where
  pos := by decide
  cap := by decide
  up := ⟨fun _ => 0, 0, fun _ => Nat.le_refl _, fun i x hx hp => by
    cases i with
    | zero => simp at hx; subst hx; simp [rootNd] at hp
    | succ i => simp at hx⟩
  kid := fun i x hx c hc => by
    cases i with
    | zero => simp at hx; subst hx; simp [rootNd] at hc
    | succ i => simp at hx
  par := fun c y hy => by
    cases c with
    | zero => simp at hy; subst hy; exact .inl rfl
    | succ i => simp at hy
  nodup := fun i x hx => by
    cases i with
    | zero => simp at hx; subst hx; simp [rootNd]
    | succ i => simp at hx
  root := fun x hx => by simp at hx; subst hx; rfl
  elem := fun i x hx => by
    cases i with
    | zero => simp at hx; subst hx; exact ⟨fun h => (by cases h), fun _ => rfl⟩
    | succ i => simp at hx
  chars := fun i x hx => by
    cases i with
    | zero => simp at hx; subst hx; exact ⟨by decide, fun c hc => by simp [rootNd] at hc⟩
    | succ i => simp at hx

abbrev opCells (kind D A B C : Int) (S : ByteArray) (p0 p1 q0 q1 : Int) : Array Value := #[.int .i64 kind, .int .i64 D, .int .i64 A, .int .i64 B, .int .i64 C, .string S, .int .i64 p0, .int .i64 p1, .int .i64 q0, .int .i64 q1]

set_option maxRecDepth 20000 in
set_option maxHeartbeats 4000000 in
/-- A step that does nothing: no document, or no such kind. -/
theorem step_none (hPD : PDOk PD) (h : InvE PD Q w0 w yb docs) (kind D A B C : Int) (S : ByteArray) (p0 p1 q0 q1 : Int) (hk1 : kind ≠ 1) (hk : docs.length = 0 ∨ kind < 2 ∨ 15 < kind) :
    Calls Tryz.prog 15 #[ptr yb, opV kind D A B C S p0 p1 q0 q1] w (StepPost PD Q w0 yb docs.length docs.length) := by
  have hI := h
  obtain ⟨own, psv, h⟩ := h
  obtain ⟨a, c, hv⟩ := slice_shape h.row
  obtain ⟨l0, a0, y0, -, hq⟩ := h.play
  have hl := heap_lt hq
  have c0 : w.cell? ⟨yb, 0, none⟩ = some (.slice a docs.length c) := by rw [← hv]; exact cell_of_heap hq 0
  have hk1' : (kind == 1) = false := by simpa using hk1
  have HI := hid hI
  have HPD := hid hPD
  clear hq h hI hPD hv hk1
  have done : ∀ (v : Value) (W : World), Below w.heap.size w W → StepPost PD Q w0 yb docs.length docs.length (.returned (.bool true)) W := fun v W hb => ⟨rfl, docs, HI.out.below HPD.out hb, Nat.le_refl _, Nat.le_refl _⟩
  have DONE := hid done
  clear done
  by_cases h0 : docs.length = 0
  · have h0' : ((docs.length : Int) == 0) = true := by simp [h0]
    rw [h0] at c0
    go_enter Tryz.func15, Tryz.ntmps15
    go_wp2
    go_ret
    exact DONE.out (.bool true) _ (by go_grown)
  · have h0' : ((docs.length : Int) == 0) = false := by simp; intro e; exact h0 (by simp [e])
    by_cases h2 : kind < 2
    · go_enter Tryz.func15, Tryz.ntmps15
      go_wp2
      go_ret
      exact DONE.out (.bool true) _ (by go_grown)
    · have h2' : decide (kind < 2) = false := decide_eq_false h2
      have h15 : 15 < kind := by omega
      go_enter Tryz.func15, Tryz.ntmps15
      go_wp2
      go_ret
      exact DONE.out (.bool true) _ (by go_grown)
end

end Go.Proofs.YtabogkonklplcaaGreatDoor

/- marginref's size, top, placeFits. -/
namespace Go.Proofs.YtabogkonklplcaaGreatDoor
open Go.RowKit
set_option linter.unusedSimpArgs false
set_option linter.unusedVariables false

/-- How many places a node has, but one. -/
def sizeN (x : Nd) : Nat := if x.t = true then x.cs.length else x.ks.length
theorem sizeN_text {x : Nd} (h : x.t = true) : sizeN x = x.cs.length := by simp [sizeN, h]
theorem sizeN_elem {x : Nd} (h : x.t = false) : sizeN x = x.ks.length := by simp [sizeN, h]

/-- The top of a node's tree. -/
def IsTop (s : List Nd) (n t : Nat) : Prop := (∃ m, climb s m n = (t : Int)) ∧ ∃ x, s[t]? = some x ∧ x.p = -1
def TopPost (s : List Nd) (n : Nat) (w : World) (e : Ending) (w' : World) : Prop := (∃ t : Nat, e = .returned (.int .i64 t) ∧ IsTop s n t) ∧ w' = w
def TopInv (s : List Nd) (n : Nat) (w : World) (a : Value) (wr : World) : Prop := wr = w ∧ ∃ (c m : Nat), a = .int .i64 c ∧ c < s.length ∧ climb s m n = (c : Int)

section
variable {w : World} {F : Nat → Prop} {bd bn cap : Nat} {rn : List RN} {rv : Value} {s : List Nd} {rs : List Sp}

set_option maxRecDepth 20000 in
set_option maxHeartbeats 1000000 in
theorem size_any (hD : RDocAt w F bd bn cap rn rv s rs) (n : Nat) (x : Nd) (hx : s[n]? = some x) :
    Calls Tryz.prog 168 #[.pointer (some ⟨bd, 0, none⟩), .int .i64 n] w fun e w' => e = .returned (.int .i64 (sizeN x)) ∧ w' = w := by
  have hi : n < s.length := (List.getElem?_eq_some_iff.1 hx).1
  have h0 := hD.nodesCell
  obtain ⟨r, hr, ho, c0, c1, c2, c3⟩ := hD.look hx
  obtain ⟨sa, sc, hcv⟩ : ∃ a c, r.cv = .slice a x.cs.length c := by
    rcases row_cases ho.chars with ⟨h1, h2⟩ | ⟨g, c, h1⟩
    · exact ⟨none, 0, by rw [h1, h2]⟩
    · exact ⟨_, _, h1⟩
  obtain ⟨ka, kc, hkv⟩ : ∃ a c, r.kv = .slice a x.ks.length c := by
    rcases row_cases ho.kids with ⟨h1, h2⟩ | ⟨g, c, h1⟩
    · exact ⟨none, 0, by rw [h1, h2]⟩
    · exact ⟨_, _, h1⟩
  rw [hcv] at c1
  rw [hkv] at c2
  cases ht : x.t with
  | true =>
    rw [ht] at c0
    rw [sizeN_text ht]
    clear hD c2 c3 hr ho hx hkv hcv ht
    go_enter Tryz.func168, Tryz.ntmps168
    go_wp2
    go_ret
    exact ⟨rfl, rfl⟩
  | false =>
    rw [ht] at c0
    rw [sizeN_elem ht]
    clear hD c1 c3 hr ho hx hkv hcv ht
    go_enter Tryz.func168, Tryz.ntmps168
    go_wp2
    go_ret
    exact ⟨rfl, rfl⟩

set_option maxRecDepth 20000 in
set_option maxHeartbeats 1000000 in
theorem top_any (wf : WF s) (hD : RDocAt w F bd bn cap rn rv s rs) (n : Nat) (hn : n < s.length) :
    Calls Tryz.prog 128 #[.pointer (some ⟨bd, 0, none⟩), .int .i64 n] w (TopPost s n w) := by
  obtain ⟨h, B, u⟩ := wf.up
  have h0 := hD.nodesCell
  have HD := hid hD
  have HW := hid wf
  have HU := hid u
  clear hD wf u
  go_enter Tryz.func128, Tryz.ntmps128
  go_wp2
  go_loopw [1] (fun a wr => TopInv s n w a wr) (fun a _ => upMeas h B (intOf a))
  case atStart => exact ⟨rfl, n, 0, rfl, hn, rfl⟩
  case round =>
    obtain ⟨rfl, c, m, rfl, hc, hm⟩ := hrel
    obtain ⟨x, hx⟩ : ∃ x, s[c]? = some x := ⟨_, List.getElem?_eq_getElem hc⟩
    obtain ⟨r, hr, ho, c0, c1, c2, c3⟩ := HD.out.look hx
    have HM := hid hm
    have HX := hid hx
    clear c0 c1 c2 hr ho hm hx
    by_cases hp : 0 ≤ x.p
    · have hup := upMeas_lt HU.out HX.out
      have hpar := (HU.out.par c x HX.out hp).1
      have HUP := hid hup
      clear hup
      go_wp2
      go_roundw
      case rel =>
        obtain ⟨q, hq⟩ := Int.eq_ofNat_of_zero_le hp
        refine ⟨rfl, q, m + 1, by rw [hq], by omega, ?_⟩
        rw [climb_step HM.out]
        simp [parOf, HX.out, hq]
      case measure => exact HUP.out
    · have hp' : x.p < 0 := by omega
      have hp1 : x.p = -1 := by
        rcases HW.out.par c x HX.out with e | ⟨q, y, e, _⟩
        · exact e
        · omega
      go_wp2
      go_ret
      exact ⟨⟨c, rfl, ⟨m, HM.out⟩, x, HX.out, hp1⟩, rfl⟩

/-- The two blocks that placeFits lays. -/
abbrev pf (w : World) (n k : Int) : World := (w.alloc (.cells #[.int .i64 n, .int .i64 k] 37)).alloc (.cells #[.int .i64 0, .int .i64 0] 32)
theorem pf_below (w : World) (n k : Int) (q : Nat) : Below w.heap.size w ((pf w n k).drewN q) := by
  have h : Below w.heap.size w (pf w n k) := ((Below.refl _ w).alloc (Nat.le_refl _) _).alloc (by simp) _
  exact ⟨h.os, h.tape, h.output, h.size, h.block⟩
theorem RDocAt.pf (hD : RDocAt w F bd bn cap rn rv s rs) (n k : Int) : RDocAt (pf w n k) F bd bn cap rn rv s rs := hD.below (((Below.refl _ w).alloc (Nat.le_refl _) _).alloc (by simp) _)

set_option maxRecDepth 20000 in
set_option maxHeartbeats 1000000 in
theorem placeFits_node (hD : RDocAt w F bd bn cap rn rv s rs) (n k : Int) (hn : isB s n = false) :
    Calls Tryz.prog 127 #[.pointer (some ⟨bd, 0, none⟩), .agg #[.int .i64 n, .int .i64 k]] w fun e w' => e = .returned (rfltV n 1) ∧ Below w.heap.size w w' := by
  have HD := hid (hD.pf n k)
  clear hD
  go_enter Tryz.func127, Tryz.ntmps127
  go_wp2_with (first
    | (go_at_call 47; refine (is_at HD.out _).mono ?_; rintro e w' ⟨rfl, rfl⟩)
    | (go_at_call 48; refine (no_any _ _ _).mono ?_; rintro e w' ⟨rfl, rfl⟩))
  go_returns
  refine ⟨rfl, ?_⟩
  go_grown

set_option maxRecDepth 20000 in
set_option maxHeartbeats 1000000 in
theorem placeFits_index (hD : RDocAt w F bd bn cap rn rv s rs) (n : Nat) (k : Int) (x : Nd) (hx : s[n]? = some x) (hk : k < 0 ∨ (sizeN x : Int) < k) :
    Calls Tryz.prog 127 #[.pointer (some ⟨bd, 0, none⟩), .agg #[.int .i64 n, .int .i64 k]] w fun e w' => e = .returned (rfltV n 3) ∧ Below w.heap.size w w' := by
  have hi : n < s.length := (List.getElem?_eq_some_iff.1 hx).1
  have hb : isB s n = true := isB_of (by omega)
  have HD := hid (hD.pf n k)
  have CS := hid (fun q => size_any (w := (pf w n k).drewN q) ((hD.pf n k).keeps (G := fun _ => False) ⟨rfl, rfl, rfl, Nat.le_refl _, fun _ _ _ => rfl⟩ (fun _ _ e => e)) n x hx)
  clear hD hx
  by_cases hneg : k < 0
  · clear hk CS
    go_enter Tryz.func127, Tryz.ntmps127
    go_wp2_with (go_at_call 47; refine (is_at HD.out _).mono ?_; rintro e w' ⟨rfl, rfl⟩)
    go_quiet (fail)
    go_wp2_with (go_at_call 48; refine (no_any _ _ _).mono ?_; rintro e w' ⟨rfl, rfl⟩)
    go_returns
    refine ⟨rfl, ?_⟩
    go_grown
    exact pf_below _ _ _ _
  · have hk2 : (sizeN x : Int) < k := by omega
    have hneg2 : decide (k < 0) = false := decide_eq_false hneg
    clear hk
    go_enter Tryz.func127, Tryz.ntmps127
    go_wp2_with (go_at_call 47; refine (is_at HD.out _).mono ?_; rintro e w' ⟨rfl, rfl⟩)
    go_quiet ((go_at_call 168; exact Calls.quiet_of_same (CS.out _)))
    go_wp2_with (go_at_call 48; refine (no_any _ _ _).mono ?_; rintro e w' ⟨rfl, rfl⟩)
    go_returns
    refine ⟨rfl, ?_⟩
    go_grown
    exact pf_below _ _ _ _

set_option maxRecDepth 20000 in
set_option maxHeartbeats 1000000 in
theorem placeFits_ok (hD : RDocAt w F bd bn cap rn rv s rs) (n k : Nat) (x : Nd) (hx : s[n]? = some x) (hk : k ≤ sizeN x) :
    Calls Tryz.prog 127 #[.pointer (some ⟨bd, 0, none⟩), .agg #[.int .i64 n, .int .i64 k]] w fun e w' => e = .returned (rfltV 0 0) ∧ Below w.heap.size w w' := by
  have hi : n < s.length := (List.getElem?_eq_some_iff.1 hx).1
  have hb : isB s n = true := isB_of (by omega)
  have HD := hid (hD.pf n k)
  have CS := hid (fun q => size_any (w := (pf w n k).drewN q) ((hD.pf n k).keeps (G := fun _ => False) ⟨rfl, rfl, rfl, Nat.le_refl _, fun _ _ _ => rfl⟩ (fun _ _ e => e)) n x hx)
  clear hD hx
  have hk2 : ¬ (sizeN x : Int) < (k : Int) := by omega
  have hneg2 : decide ((k : Int) < 0) = false := decide_eq_false (by omega)
  have hk3 : decide ((sizeN x : Int) < (k : Int)) = false := decide_eq_false hk2
  go_enter Tryz.func127, Tryz.ntmps127
  go_wp2_with (go_at_call 47; refine (is_at HD.out _).mono ?_; rintro e w' ⟨rfl, rfl⟩)
  go_quiet ((go_at_call 168; exact Calls.quiet_of_same (CS.out _)))
  go_wp2
  go_returns
  refine ⟨rfl, ?_⟩
  go_grown
  exact pf_below _ _ _ _
end

end Go.Proofs.YtabogkonklplcaaGreatDoor

/- marginref's all, Walk. -/
namespace Go.Proofs.YtabogkonklplcaaGreatDoor
open Go.RowKit
set_option linter.unusedSimpArgs false
set_option linter.unusedVariables false

/-- A list of numbers that a call has made. -/
def NewList (w : World) (xs : List Nat) (e : Ending) (w' : World) : Prop :=
  ∃ a c, e = .returned (.slice a xs.length c) ∧ w'.ownsRow w.heap.size 3 1 (.slice a xs.length c) xs.length (intsV xs) ∧ Below w.heap.size w w'

theorem slice_form' {w : World} {B : Nat} {e : TypeId} {z n : Nat} {v : Value} {xs : List Value} (h : w.ownsRow B e z v n xs) : ∃ a c, v = .slice a n c := by
  obtain ⟨_, h2⟩ := h
  rcases h2 with ⟨e1, e2⟩ | ⟨g, c, cur, e1, _⟩
  · exact ⟨none, 0, by rw [e1, e2]⟩
  · exact ⟨_, _, e1⟩
theorem ownsRow_below {w w' : World} {B : Nat} {e : TypeId} {z n : Nat} {v : Value} {xs : List Value} (h : w.ownsRow B e z v n xs) (hb : Below w.heap.size w w') : w'.ownsRow B e z v n xs := by
  obtain ⟨h1, h2⟩ := h
  refine ⟨h1, ?_⟩
  rcases h2 with h2 | ⟨g, cap, cur, e1, hg, hh, rest⟩
  · exact .inl h2
  · exact .inr ⟨g, cap, cur, e1, hg, (hb.block g (heap_lt hh)).trans hh, rest⟩
theorem Keeps.rowB {F : Nat → Prop} {w w' : World} (h : Keeps F w w') {B : Nat} {e : TypeId} {z n : Nat} {v : Value} {xs : List Value} (hr : w.ownsRow B e z v n xs) (hv : ∀ b, v.ownBlock = some b → ¬ F b) : w'.ownsRow B e z v n xs := by
  obtain ⟨h1, h2⟩ := hr
  refine ⟨h1, ?_⟩
  rcases h2 with h2 | ⟨g, cap, cur, rfl, hg, hh, rest⟩
  · exact .inl h2
  · exact .inr ⟨g, cap, cur, rfl, hg, (h.block g (heap_lt hh) (hv g rfl)).trans hh, rest⟩
theorem slice_some {w : World} {B : Nat} {e : TypeId} {n : Nat} {a : Option Addr} {c : Nat} {xs : List Value} (h : w.ownsRow B e 1 (.slice a n c) n xs) (hn : 0 < n) : ∃ g, a = some ⟨g, 0, none⟩ ∧ ∀ j u, xs[j]? = some u → w.cell? ((⟨g, 0, none⟩ : Addr).add j) = some u := by
  have h' := h
  obtain ⟨h1, h2⟩ := h
  rcases h2 with ⟨e1, e2⟩ | ⟨g, c', cur, e1, _, hh, _, _, _, ht⟩
  · omega
  · cases e1
    refine ⟨g, rfl, fun j u hu => ?_⟩
    have hj : j < xs.length := (List.getElem?_eq_some_iff.1 hu).1
    rw [Addr.add_lit, Nat.zero_add, cell_of_heap hh, ← Array.getElem?_toList]
    rw [← ht, List.getElem?_take] at hu
    split at hu
    · exact hu
    · cases hu

section
variable {F : Nat → Prop} {bd bn cap : Nat} {rn : List RN} {rv : Value} {s : List Nd} {rs : List Sp}

theorem flatMap_len (wf : WF s) {h : Nat → Nat} {B : Nat} (u : Up s h B) {k n j : Nat} {x : Nd} (hx : s[n]? = some x) : (n :: (x.ks.take j).flatMap (allF s k)).length ≤ 40 := by
  have h1 := all_length wf (k + 1) n (List.getElem?_eq_some_iff.1 hx).1
  rw [allF, kidsOf_eq hx] at h1
  have e : x.ks.flatMap (allF s k) = (x.ks.take j).flatMap (allF s k) ++ (x.ks.drop j).flatMap (allF s k) := by rw [← List.flatMap_append, List.take_append_drop]
  rw [e] at h1
  simp only [List.length_cons, List.length_append] at h1 ⊢
  omega

set_option maxRecDepth 20000 in
set_option maxHeartbeats 2000000 in
theorem rall_any (wf : WF s) {h : Nat → Nat} {B : Nat} (u : Up s h B) : ∀ (k n : Nat), n < s.length → h n < k → ∀ w, RDocAt w F bd bn cap rn rv s rs → Calls Tryz.prog 49 #[.pointer (some ⟨bd, 0, none⟩), .int .i64 n] w (NewList w (allF s k n)) := by
  intro k
  induction k with
  | zero => intro n _ hh; omega
  | succ k ih =>
    intro n hn hh w hD
    obtain ⟨i0, hi, hz0, hz1, hz2⟩ := info_parts Tryz.info3
    have hx : s[n]? = some s[n] := List.getElem?_eq_getElem hn
    generalize s[n] = x at hx
    have HD := hid hD
    have hlt := hD.lt
    obtain ⟨r, hr, ho, _, _, hc2, _⟩ := hD.look hx
    obtain ⟨sa, sc, hkv⟩ := slice_form' ho.kids
    rw [hkv] at hc2
    have h0 := hD.nodesCell
    have hrow := ho.kids
    rw [hkv] at hrow
    have HROW := hid hrow
    have HX := hid hx
    have HL := hid (fun j => flatMap_len (k := k) (j := j) wf u hx)
    have HKID := hid (fun (c : Nat) (hc : c ∈ x.ks) => wf.kid_lt u hx hc)
    have IH := hid ih
    have hkl : x.ks.length ≤ 40 := Nat.le_trans (nodup_length s.length _ (wf.nodup n x hx) (fun c hc => (wf.kid_lt u hx hc).1)) wf.cap
    have hw0 : (w.alloc (.cells #[.int .i64 (n : Int)] 3)).ownsRow w.heap.size 3 1 (.slice (some ⟨w.heap.size, 0, none⟩) 1 1) 1 [.int .i64 (n : Int)] := by
      have := World.ownsRow_lit (base := w.heap.size) (e := 3) (size := 1) w #[.int .i64 (n : Int)] 1 (Nat.le_refl _) (by decide) rfl
      simpa using this
    have HW0 := hid hw0
    clear hD hr ho hrow hx ih hw0 hkv wf u
    go_enter Tryz.func49, Tryz.ntmps49
    go_wp2
    go_loopw [5, 6] (fun a b wr => ∃ (j : Nat) (v : Value), j ≤ x.ks.length ∧ b = .int .i64 j ∧ a = v ∧ wr.ownsRow w.heap.size 3 1 v (n :: (x.ks.take j).flatMap (allF s k)).length (intsV (n :: (x.ks.take j).flatMap (allF s k))) ∧ Below w.heap.size w wr) (fun _ b _ => x.ks.length - (intOf b).toNat)
    case atStart => exact ⟨0, _, Nat.zero_le _, rfl, rfl, by simpa [intsV] using HW0.out, (Below.refl _ w).alloc (Nat.le_refl _) _⟩
    case round =>
      obtain ⟨j, v, hj, rfl, rfl, hv, hb⟩ := hrel
      have hrw := (Keeps.of_below (F := fun _ => False) hb).row HROW.out (fun _ _ e => e)
      have hDr := HD.out.below hb
      have d0 := (hb.cell (p := ⟨bd, 0, none⟩) hlt.1).trans h0
      have d2 := (hb.cell (p := ⟨bn, n * 4 + 2, none⟩) hlt.2).trans hc2
      by_cases hlt2 : j < x.ks.length
      · obtain ⟨c, hc⟩ : ∃ c, x.ks[j]? = some c := ⟨_, List.getElem?_eq_getElem hlt2⟩
        obtain ⟨hcl, hch⟩ := HKID.out c (List.mem_of_getElem? hc)
        rcases row_cases hrw with ⟨_, hl0⟩ | ⟨g, cc, hgv⟩
        · omega
        cases hgv
        have cel : wr.cell? ⟨g, j, none⟩ = some (.int .i64 (c : Int)) := by
          rw [hrw.cellAt j (by omega)]
          simp [intsV, hc]
        have C := hid (IH.out c hcl (by omega) wr hDr)
        have hjI : (j : Int) < x.ks.length := by omega
        have HC := hid hc
        have HV := hid hv
        have HB := hid hb
        have hpos : 0 < (allF s k c).length := by
          obtain ⟨k', rfl⟩ : ∃ k', k = k' + 1 := ⟨k - 1, by omega⟩
          simp [allF]
        have htk : (n :: (x.ks.take (j + 1)).flatMap (allF s k)) = (n :: (x.ks.take j).flatMap (allF s k)) ++ allF s k c := by
          rw [List.take_add_one, hc]; simp
        have HTK := hid htk
        have hll := HL.out (j + 1)
        rw [htk] at hll
        simp only [List.length_append] at hll
        clear hc hv hb hDr hrw htk
        go_wp2_with (first
          | (go_at_call 49; refine C.out.mono ?_; rintro e w2 ⟨a2, c2, rfl, h2, hb2⟩
             obtain ⟨g2, rfl, hsrc⟩ := slice_some h2 hpos
             have hv2 := ownsRow_below HV.out hb2
             have H2 := hid h2
             have HB2 := hid (HB.out.trans (hb2.mono HB.out.size))
             clear h2 hb2)
          | (at_builtin; refine wpList_append_own _ rfl _ _ 24 rfl w.heap.size 3 i0 (.int .i64 0) 1 8 Tryz.underlying24 hi hz0 hz1 hz2 rfl (by decide) u5 _ _ rfl hv2 ⟨g2, 0, none⟩ (allF s k c).length c2 (intsV (allF s k c)) rfl (by simp) hsrc (intsV_one _) (by unfold maxLen; omega) (by omega) HB2.out.size ?_
             intro v3 w3 ho3 hg3 _
             have HO3 := hid ho3
             have HB3 := hid (HB2.out.grown hg3 HB2.out.size (fun k e => (hv2.lt k e).1))
             clear ho3 hg3))
        go_roundw
        case rel =>
          refine ⟨j + 1, v3, by omega, by go_num, rfl, ?_, HB3.out⟩
          have e : intsV ((n :: (x.ks.take j).flatMap (allF s k)) ++ allF s k c) = intsV (n :: (x.ks.take j).flatMap (allF s k)) ++ intsV (allF s k c) := by simp [intsV]
          rw [HTK.out, List.length_append, e]
          exact HO3.out
        case measure => simp [intOf]; omega
      · obtain rfl : j = x.ks.length := by omega
        have hjI : ¬ (x.ks.length : Int) < x.ks.length := by omega
        have hfin : allF s (k + 1) n = n :: (x.ks.take x.ks.length).flatMap (allF s k) := by rw [allF, kidsOf_eq HX.out, List.take_of_length_le (Nat.le_refl _)]
        rw [← hfin] at hv
        obtain ⟨L, hLL⟩ : ∃ L, allF s (k + 1) n = L := ⟨_, rfl⟩
        rw [hLL] at hv
        have HLL := hid hLL
        obtain ⟨va, vc, hva⟩ := slice_form' hv
        subst hva
        clear hfin hLL
        have HV := hid hv
        have HB := hid hb
        clear hv hb hDr hrw
        go_wp2
        go_ret
        rw [HLL.out]
        exact ⟨va, vc, rfl, HV.out, HB.out⟩

variable {w : World}

set_option maxRecDepth 20000 in
set_option maxHeartbeats 1000000 in
theorem rwalk_no (hD : RDocAt w F bd bn cap rn rv s rs) (n : Int) (hn : isB s n = false) :
    Calls Tryz.prog 19 #[.pointer (some ⟨bd, 0, none⟩), .int .i64 n] w fun e w' => e = .returned (.tuple #[.slice none 0 0, .agg #[.int .i64 n, .int .i64 1]]) ∧ Below w.heap.size w w' := by
  have HD := hid hD.faultAt
  clear hD
  go_enter Tryz.func19, Tryz.ntmps19
  go_wp2_with (first
    | (go_at_call 47; refine (is_at HD.out _).mono ?_; rintro e w' ⟨rfl, rfl⟩)
    | (go_at_call 48; refine (no_any _ _ _).mono ?_; rintro e w' ⟨rfl, rfl⟩))
  go_returns
  refine ⟨rfl, ?_⟩
  go_grown

/-- A list that a call has made, and no fault. -/
def NewWalk (w : World) (xs : List Nat) (e : Ending) (w' : World) : Prop :=
  ∃ a c, e = .returned (.tuple #[.slice a xs.length c, .agg #[.int .i64 0, .int .i64 0]]) ∧ w'.ownsRow w.heap.size 3 1 (.slice a xs.length c) xs.length (intsV xs) ∧ Below w.heap.size w w'

theorem ownsRow_base {w : World} {B B' : Nat} {e : TypeId} {z n : Nat} {v : Value} {xs : List Value} (h : w.ownsRow B e z v n xs) (hB : B' ≤ B) : w.ownsRow B' e z v n xs := by
  obtain ⟨h1, h2⟩ := h
  refine ⟨h1, ?_⟩
  rcases h2 with h2 | ⟨g, cap, cur, e1, hg, rest⟩
  · exact .inl h2
  · exact .inr ⟨g, cap, cur, e1, Nat.le_trans hB hg, rest⟩

set_option maxRecDepth 20000 in
set_option maxHeartbeats 1000000 in
theorem rwalk_yes (wf : WF s) {h : Nat → Nat} {B : Nat} (u : Up s h B) (hD : RDocAt w F bd bn cap rn rv s rs) (k n : Nat) (hn : n < s.length) (hk : h n < k) :
    Calls Tryz.prog 19 #[.pointer (some ⟨bd, 0, none⟩), .int .i64 n] w (NewWalk w (allF s k n)) := by
  have hi : isB s n = true := isB_of (by omega)
  have HC := hid (rall_any (F := F) (bd := bd) (bn := bn) (cap := cap) (rn := rn) (rv := rv) (rs := rs) wf u k n hn hk _ hD.faultAt)
  have HD := hid hD.faultAt
  clear hD
  generalize allF s k n = L at HC ⊢
  go_enter Tryz.func19, Tryz.ntmps19
  go_wp2_with (first
    | (go_at_call 47; refine (is_at HD.out _).mono ?_; rintro e w' ⟨rfl, rfl⟩)
    | (go_at_call 49
       refine HC.out.mono ?_
       rintro e w1 ⟨a2, c2, rfl, hr, hb⟩
       have hq : w1.heap[w.heap.size]? = some (.cells #[.int .i64 0, .int .i64 0] 32 (0, 0)) := (hb.block w.heap.size (by simp)).trans (heap_alloc_new w _)
       have hc2 : w1.cell? ⟨w.heap.size, 0, none⟩ = some (.int .i64 0) := cell_of_heap hq 0
       have hc3 : w1.cell? ⟨w.heap.size, 1, none⟩ = some (.int .i64 0) := cell_of_heap hq 1
       have hf2 := frozen_of_heap hq 0
       have hf3 := frozen_of_heap hq 1
       have HB : Hid (Below w.heap.size w w1) := ((Below.refl _ w).alloc (Nat.le_refl _) _).trans (hb.mono (by simp))
       have HR := hid (And.intro (ownsRow_base hr (Nat.le_of_lt (show w.heap.size < (w.alloc _).heap.size by simp))) (And.intro hr hb))
       clear hq hb hr))
  refine bodyPost_ret (v := .tuple #[.slice a2 L.length c2, .agg #[.int .i64 0, .int .i64 0]]) (by simp [results, Tryz.results19, go_sem, *]) rfl ?_
  refine ⟨a2, c2, rfl, ?_, ?_⟩
  · have h1 := HR.out.2.1
    have hne : ∀ b, (Value.slice a2 L.length c2).ownBlock = some b → b ≠ w.heap.size := fun b e => by have := (h1.lt b e).1; simp at this; omega
    exact Keeps.rowB (((Keeps.refl (fun b => b = w.heap.size) w1).setCell (p := ⟨w.heap.size, 0, none⟩) (.inl rfl) _).setCell (p := ⟨w.heap.size, 1, none⟩) (.inl rfl) _) HR.out.1 hne
  · have hh := HB.out
    have hsz := hh.size
    go_grown
end
end Go.Proofs.YtabogkonklplcaaGreatDoor

/- marginref's where. -/
namespace Go.Proofs.YtabogkonklplcaaGreatDoor
open Go.RowKit
set_option linter.unusedSimpArgs false
set_option linter.unusedVariables false

/-- Places as they lie in memory. -/
def plV (l : List (Nat × Nat)) : List Value := l.flatMap fun p => [.int .i64 p.1, .int .i64 p.2]
@[simp] theorem plV_length (l : List (Nat × Nat)) : (plV l).length = 2 * l.length := by
  induction l with
  | nil => rfl
  | cons a l ih => simp [plV] at ih ⊢; omega
@[simp] theorem plV_append (l m : List (Nat × Nat)) : plV (l ++ m) = plV l ++ plV m := by simp [plV]
theorem plV_at (l : List (Nat × Nat)) (j : Nat) (p : Nat × Nat) (h : l[j]? = some p) : (plV l)[j * 2]? = some (.int .i64 p.1) ∧ (plV l)[j * 2 + 1]? = some (.int .i64 p.2) := by
  induction l generalizing j with
  | nil => simp at h
  | cons a l ih =>
    cases j with
    | zero => simp at h; subst h; simp [plV]
    | succ j =>
      have := ih j (by simpa using h)
      have e1 : (j + 1) * 2 = j * 2 + 2 := by omega
      have e2 : plV (a :: l) = .int .i64 a.1 :: .int .i64 a.2 :: plV l := by simp [plV]
      rw [e1, e2]
      simpa using this
theorem plV_one (l : List (Nat × Nat)) : ∀ u ∈ plV l, Value.oneCell' u := by
  intro u hu
  simp only [plV, List.mem_flatMap] at hu
  obtain ⟨p, _, h⟩ := hu
  simp at h
  rcases h with rfl | rfl <;> simp [Value.oneCell']

theorem below_drewN {B : Nat} {a w : World} (h : Below B a w) (n : Nat) : Below B a (w.drewN n) := ⟨h.os, h.tape, h.output, h.size, h.block⟩

/-- Where a place is among some. -/
def IsWhere (l : List (Nat × Nat)) (p : Nat × Nat) (q : Int) : Prop := (∃ m : Nat, q = m ∧ l[m]? = some p ∧ p ∉ l.take m) ∨ (q = -1 ∧ p ∉ l)
def WherePost (l : List (Nat × Nat)) (p : Nat × Nat) (w : World) (e : Ending) (w' : World) : Prop := (∃ q : Int, e = .returned (.int .i64 q) ∧ IsWhere l p q) ∧ Below w.heap.size w w'
def WhereInv (l : List (Nat × Nat)) (p : Nat × Nat) (w : World) (a : Value) (wr : World) : Prop := Below w.heap.size w wr ∧ ∃ j : Nat, a = .int .i64 j ∧ j ≤ l.length ∧ p ∉ l.take j

set_option maxRecDepth 20000 in
set_option maxHeartbeats 1000000 in
theorem where_any (l : List (Nat × Nat)) (v : Value) (n k : Nat) (w : World) (hr : w.ownsRow 0 37 2 v l.length (plV l)) (hbig : l.length < lots) :
    Calls Tryz.prog 133 #[v, .agg #[.int .i64 n, .int .i64 k]] w (WherePost l (n, k) w) := by
  obtain ⟨sa, sc, hv⟩ := slice_form' hr
  subst hv
  have HR := hid hr
  have HB := hid hbig
  clear hr hbig
  go_enter Tryz.func133, Tryz.ntmps133
  go_wp2
  go_loopw [5] (fun a wr => WhereInv l (n, k) w a wr ∧ wr.heap[w.heap.size]? = some (.cells #[.int .i64 n, .int .i64 k] 37 (0, 0))) (fun a _ => l.length - (intOf a).toNat)
  case atStart => exact ⟨⟨(Below.refl _ w).alloc (Nat.le_refl _) _, 0, rfl, Nat.zero_le _, by simp⟩, heap_alloc_new w _⟩
  case round =>
    obtain ⟨⟨hb, j, rfl, hj, hno⟩, hq⟩ := hrel
    have hq0 : wr.cell? ⟨w.heap.size, 0, none⟩ = some (.int .i64 n) := cell_of_heap hq 0
    have hq1 : wr.cell? ⟨w.heap.size, 1, none⟩ = some (.int .i64 k) := cell_of_heap hq 1
    have hbig := HB.out
    unfold lots at hbig
    by_cases hlt : j < l.length
    · have hlI : (j : Int) < (l.length : Int) := by omega
      obtain ⟨p, hp⟩ : ∃ p, l[j]? = some p := ⟨_, List.getElem?_eq_getElem hlt⟩
      have hrw := (Keeps.of_below (F := fun _ => False) hb).row HR.out (fun _ _ e => e)
      rcases row_cases hrw with ⟨_, hl0⟩ | ⟨g, cc, hgv⟩
      · omega
      cases hgv
      have cel0 : wr.cell? ⟨g, j * 2, none⟩ = some (.int .i64 (p.1 : Int)) := by
        rw [hrw.cellAt (j * 2) (by omega), (plV_at l j p hp).1]
      have cel1 : wr.cell? ⟨g, j * 2 + 1, none⟩ = some (.int .i64 (p.2 : Int)) := by
        rw [hrw.cellAt (j * 2 + 1) (by omega), (plV_at l j p hp).2]
      have HB1 := hid hb
      have HQ := hid hq
      have HNO := hid hno
      have HP := hid hp
      clear hb hrw hq hno hp
      obtain ⟨p1, p2⟩ := p
      by_cases he : p1 = n ∧ p2 = k
      · obtain ⟨rfl, rfl⟩ := he
        go_wp2
        go_quiet (fail)
        go_wp2
        go_ret
        exact ⟨⟨j, rfl, .inl ⟨j, rfl, HP.out, HNO.out⟩⟩, below_drewN HB1.out _⟩
      · have hno2 : (n, k) ∉ l.take (j + 1) := by
          rw [List.take_add_one, HP.out]
          simp only [Option.toList_some, List.mem_append, List.mem_singleton, Prod.mk.injEq]
          rintro (h1 | ⟨h1, h2⟩)
          · exact HNO.out h1
          · exact he ⟨h1.symm, h2.symm⟩
        have HNO2 := hid hno2
        clear hno2
        by_cases h1 : p1 = n
        · subst h1
          have h2 : ¬ (p2 : Int) = k := fun e => he ⟨rfl, by omega⟩
          have h3 : decide ((p2 : Int) = k) = false := decide_eq_false h2
          go_wp2
          go_quiet (fail)
          go_wp2
          go_roundw
          case rel => exact ⟨⟨below_drewN HB1.out _, j + 1, by go_num, by omega, HNO2.out⟩, HQ.out⟩
          case measure => simp [intOf]; omega
        · have h2 : ¬ (p1 : Int) = n := fun e => h1 (by omega)
          have h3 : decide ((p1 : Int) = n) = false := decide_eq_false h2
          go_wp2
          go_quiet (fail)
          go_wp2
          go_roundw
          case rel => exact ⟨⟨below_drewN HB1.out _, j + 1, by go_num, by omega, HNO2.out⟩, HQ.out⟩
          case measure => simp [intOf]; omega
    · obtain rfl : j = l.length := by omega
      have hjI : ¬ (l.length : Int) < l.length := by omega
      rw [List.take_of_length_le (Nat.le_refl _)] at hno
      go_wp2
      go_ret
      exact ⟨⟨-1, rfl, .inr ⟨rfl, hno⟩⟩, hb⟩

end Go.Proofs.YtabogkonklplcaaGreatDoor

/- marginref's places. -/
namespace Go.Proofs.YtabogkonklplcaaGreatDoor
open Go.RowKit
set_option linter.unusedSimpArgs false
set_option linter.unusedVariables false

/-- The places of a node from one on: each, and behind it those of the child that comes there. -/
def upTo (n : Nat) (ks : List Nat) (f : Nat → List (Nat × Nat)) (m : Nat) : List (Nat × Nat) :=
  (List.range m).flatMap fun i => (n, i) :: (match ks[i]? with | some c => f c | none => [])
theorem upTo_zero (n : Nat) (ks : List Nat) (f : Nat → List (Nat × Nat)) : upTo n ks f 0 = [] := rfl
theorem upTo_succ_some {n m c : Nat} {ks : List Nat} {f : Nat → List (Nat × Nat)} (h : ks[m]? = some c) : upTo n ks f (m + 1) = upTo n ks f m ++ [(n, m)] ++ f c := by
  simp [upTo, List.range_succ, h]
theorem upTo_succ_none {n m : Nat} {ks : List Nat} {f : Nat → List (Nat × Nat)} (h : ks[m]? = none) : upTo n ks f (m + 1) = upTo n ks f m ++ [(n, m)] := by
  simp [upTo, List.range_succ, h]
theorem upTo_length (n : Nat) (ks : List Nat) (f : Nat → List (Nat × Nat)) (m : Nat) : (upTo n ks f m).length = m + ((ks.take m).flatMap f).length := by
  induction m with
  | zero => rfl
  | succ m ih =>
    rw [List.take_add_one]
    cases h : ks[m]? with
    | none => rw [upTo_succ_none h]; simp [ih]; omega
    | some c => rw [upTo_succ_some h]; simp [ih]; omega

def sizeAt (s : List Nd) (n : Nat) : Nat := match s[n]? with | some x => sizeN x | none => 0
theorem sizeAt_eq {s : List Nd} {n : Nat} {x : Nd} (h : s[n]? = some x) : sizeAt s n = sizeN x := by simp [sizeAt, h]

/-- All places in a node and in all within it, so many levels deep. -/
def plF (s : List Nd) : Nat → Nat → List (Nat × Nat)
  | 0, _ => []
  | k + 1, n => upTo n (kidsOf s n) (plF s k) (sizeAt s n + 1)

theorem kids_le {s : List Nd} (wf : WF s) {n : Nat} {x : Nd} (hx : s[n]? = some x) : x.ks.length ≤ 40 := by
  obtain ⟨h, B, u⟩ := wf.up
  exact Nat.le_trans (nodup_length s.length _ (wf.nodup n x hx) (fun c hc => (wf.kid_lt u hx hc).1)) wf.cap
theorem sizeN_le {s : List Nd} (wf : WF s) {n : Nat} {x : Nd} (hx : s[n]? = some x) : sizeN x ≤ 40 := by
  unfold sizeN
  split
  · have := (wf.chars n x hx).1; omega
  · exact kids_le wf hx

theorem flatMap_le {α β γ : Type} (f : α → List β) (g : α → List γ) (c : Nat) : ∀ l : List α, (∀ a ∈ l, (f a).length ≤ c * (g a).length) → (l.flatMap f).length ≤ c * (l.flatMap g).length := by
  intro l
  induction l with
  | nil => intro _; simp
  | cons a l ih =>
    intro h
    have h1 := h a (by simp)
    have h2 := ih (fun b hb => h b (by simp [hb]))
    simp only [List.flatMap_cons, List.length_append, Nat.mul_add]
    omega

theorem plF_le {s : List Nd} (wf : WF s) : ∀ (k n : Nat), n < s.length → (plF s k n).length ≤ 41 * (allF s k n).length := by
  obtain ⟨h, B, u⟩ := wf.up
  intro k
  induction k with
  | zero => intro n _; simp [plF]
  | succ k ih =>
    intro n hn
    have hx : s[n]? = some s[n] := List.getElem?_eq_getElem hn
    have hs := sizeN_le wf hx
    have hl : (((kidsOf s n).take (sizeAt s n + 1)).flatMap (plF s k)).length ≤ 41 * (((kidsOf s n).take (sizeAt s n + 1)).flatMap (allF s k)).length :=
      flatMap_le _ _ 41 _ (fun c hc => ih c (by
        have := List.mem_of_mem_take hc
        rw [kidsOf_eq hx] at this
        exact (wf.kid_lt u hx this).1))
    have e : (kidsOf s n).flatMap (allF s k) = ((kidsOf s n).take (sizeAt s n + 1)).flatMap (allF s k) ++ ((kidsOf s n).drop (sizeAt s n + 1)).flatMap (allF s k) := by rw [← List.flatMap_append, List.take_append_drop]
    rw [plF, upTo_length, allF, List.length_cons, e, List.length_append]
    rw [sizeAt_eq hx] at hl ⊢
    omega

theorem upTo_le {s : List Nd} (wf : WF s) {k n m : Nat} {x : Nd} (hx : s[n]? = some x) (hm : m ≤ 41) : (upTo n x.ks (plF s k) m).length ≤ 1640 := by
  obtain ⟨h, B, u⟩ := wf.up
  have hl : ((x.ks.take m).flatMap (plF s k)).length ≤ 41 * ((x.ks.take m).flatMap (allF s k)).length :=
    flatMap_le _ _ 41 _ (fun c hc => plF_le wf k c (wf.kid_lt u hx (List.mem_of_mem_take hc)).1)
  have h2 := flatMap_len (k := k) (j := m) wf u hx
  rw [List.length_cons] at h2
  rw [upTo_length]
  omega

/-- A list of places that a call has made. -/
def NewPlaces (w : World) (xs : List (Nat × Nat)) (e : Ending) (w' : World) : Prop :=
  ∃ a c, e = .returned (.slice a xs.length c) ∧ w'.ownsRow w.heap.size 37 2 (.slice a xs.length c) xs.length (plV xs) ∧ Below w.heap.size w w'

theorem slice_some2 {w : World} {B : Nat} {e : TypeId} {z n : Nat} {a : Option Addr} {c : Nat} {xs : List Value} (h : w.ownsRow B e z (.slice a n c) n xs) (hn : 0 < n) : ∃ g, a = some ⟨g, 0, none⟩ ∧ ∀ j u, xs[j]? = some u → w.cell? ((⟨g, 0, none⟩ : Addr).add j) = some u := by
  have h' := h
  obtain ⟨h1, h2⟩ := h
  rcases h2 with ⟨e1, e2⟩ | ⟨g, c', cur, e1, _, hh, _, _, _, ht⟩
  · omega
  · cases e1
    refine ⟨g, rfl, fun j u hu => ?_⟩
    have hj : j < xs.length := (List.getElem?_eq_some_iff.1 hu).1
    rw [Addr.add_lit, Nat.zero_add, cell_of_heap hh, ← Array.getElem?_toList]
    rw [← ht, List.getElem?_take] at hu
    split at hu
    · exact hu
    · cases hu

theorem Tryz.info37 : (Tryz.prog.info? 37).map (fun i => (i.zero, i.size, i.bytes)) = some (some (.agg #[.int .i64 0, .int .i64 0]), 2, 16) := by kernel_rfl

section
variable {F : Nat → Prop} {bd bn cap : Nat} {rn : List RN} {rv : Value} {s : List Nd} {rs : List Sp}

set_option maxRecDepth 20000 in
set_option maxHeartbeats 2000000 in
theorem places_any (wf : WF s) {h : Nat → Nat} {B : Nat} (u : Up s h B) : ∀ (k n : Nat), n < s.length → h n < k → ∀ w, RDocAt w F bd bn cap rn rv s rs → Calls Tryz.prog 132 #[.pointer (some ⟨bd, 0, none⟩), .int .i64 n] w (NewPlaces w (plF s k n)) := by
  intro k
  induction k with
  | zero => intro n _ hh; omega
  | succ k ih =>
    intro n hn hh w hD
    obtain ⟨i0, hi, hz0, hz1, hz2⟩ := info_parts Tryz.info37
    have hx : s[n]? = some s[n] := List.getElem?_eq_getElem hn
    generalize s[n] = x at hx
    have HD := hid hD
    have hlt := hD.lt
    obtain ⟨r, hr, ho, hc0, _, hc2, _⟩ := hD.look hx
    obtain ⟨sa, sc, hkv⟩ := slice_form' ho.kids
    rw [hkv] at hc2
    have h0 := hD.nodesCell
    have hrow := ho.kids
    rw [hkv] at hrow
    have HROW := hid hrow
    have HX := hid hx
    have HL := hid (fun m hm => upTo_le (k := k) (m := m) wf hx hm)
    have HKID := hid (fun (c : Nat) (hc : c ∈ x.ks) => wf.kid_lt u hx hc)
    have HEL := hid (wf.elem n x hx)
    have IH := hid ih
    have hkl : x.ks.length ≤ 40 := kids_le wf hx
    have hsl : sizeN x ≤ 40 := sizeN_le wf hx
    clear hD hr ho hrow hx ih hkv wf u
    go_enter Tryz.func132, Tryz.ntmps132
    go_wp2
    go_loopw [5, 6] (fun a b wr => ∃ (j : Nat) (v : Value), j ≤ sizeN x + 1 ∧ b = .int .i64 j ∧ a = v ∧ wr.ownsRow w.heap.size 37 2 v (upTo n x.ks (plF s k) j).length (plV (upTo n x.ks (plF s k) j)) ∧ Below w.heap.size w wr) (fun _ b _ => sizeN x + 1 - (intOf b).toNat)
    case atStart => exact ⟨0, _, Nat.zero_le _, rfl, rfl, World.ownsRow_nil _ _ _ _, Below.refl _ w⟩
    case round =>
      obtain ⟨j, v, hj, rfl, rfl, hv, hb⟩ := hrel
      have hDr := HD.out.below hb
      have CS := hid (size_any hDr n x HX.out)
      clear hDr
      by_cases hj2 : j ≤ sizeN x
      · have hjI : (j : Int) ≤ (sizeN x : Int) := by omega
        have src : ∀ (i : Nat) (u : Value), [Value.int .i64 (n : Int), .int .i64 (j : Int)][i]? = some u → (wr.alloc (.cells #[.int .i64 (n : Int), .int .i64 (j : Int)] 37)).cell? ((⟨wr.heap.size, 0, none⟩ : Addr).add i) = some u := by
          have := World.news_of_block (heap_alloc_new wr (.cells #[.int .i64 (n : Int), .int .i64 (j : Int)] 37))
          simpa using this
        have SRC := hid src
        have hll := HL.out j (by omega)
        have HV := hid hv
        have HB := hid hb
        clear hv hb src
        by_cases hj3 : j < x.ks.length
        · obtain ⟨c, hc⟩ : ∃ c, x.ks[j]? = some c := ⟨_, List.getElem?_eq_getElem hj3⟩
          obtain ⟨hcl, hch⟩ := HKID.out c (List.mem_of_getElem? hc)
          have ht : x.t = false := by
            cases e : x.t with
            | false => rfl
            | true => have := HEL.out.1 e; rw [this] at hj3; simp at hj3
          have hj3I : (j : Int) < (x.ks.length : Int) := by omega
          rw [ht] at hc0
          have HUP := hid (upTo_succ_some (n := n) (f := plF s k) hc)
          have hll2 := HL.out (j + 1) (by omega)
          rw [HUP.out] at hll2
          simp only [List.length_append, List.length_singleton] at hll2
          have hpos : 0 < (plF s k c).length := by
            obtain ⟨k', rfl⟩ : ∃ k', k = k' + 1 := ⟨k - 1, by omega⟩
            rw [plF, upTo_length]
            omega
          obtain ⟨g, hgv⟩ : ∃ g, sa = some ⟨g, 0, none⟩ := by
            rcases row_cases HROW.out with ⟨_, hl0⟩ | ⟨g, cc, hgv⟩
            · omega
            · cases hgv; exact ⟨_, rfl⟩
          subst hgv
          have HC := hid hc
          have hkc : k > h c := by omega
          clear hc
          go_wp2_with (first
            | (go_at_call 168; refine CS.out.mono ?_; rintro e w' ⟨rfl, hw'⟩; replace hw' := hw'.symm; subst hw')
            | (at_builtin; refine wpList_append_own _ rfl (.tmp 14) (.tmp 18) 197 rfl w.heap.size 37 i0 (.agg #[.int .i64 0, .int .i64 0]) 2 16 Tryz.underlying197 hi hz0 hz1 hz2 rfl (by decide) u5 _ _ rfl (HV.out.alloc _) ⟨wr.heap.size, 0, none⟩ 1 1 [.int .i64 (n : Int), .int .i64 (j : Int)] rfl rfl SRC.out (by simp [Value.oneCell']) (by unfold maxLen; omega) (by omega) (by have := HB.out.size; simp; omega) ?_
               intro v3 w3 ho3 hg3 _
               have hb3 : Below w.heap.size w w3 := (HB.out.alloc HB.out.size _).grown hg3 (by have := HB.out.size; simp; omega) (fun k e => (HV.out.lt k e).1)
               have HO3 := hid ho3
               have d0 := (hb3.cell (p := ⟨bd, 0, none⟩) hlt.1).trans h0
               have dc0 := (hb3.cell (p := ⟨bn, n * 4, none⟩) hlt.2).trans hc0
               have dc2 := (hb3.cell (p := ⟨bn, n * 4 + 2, none⟩) hlt.2).trans hc2
               have hrw := (Keeps.of_below (F := fun _ => False) hb3).row HROW.out (fun _ _ e => e)
               have cel : w3.cell? ⟨g, j, none⟩ = some (.int .i64 (c : Int)) := by
                 rw [hrw.cellAt j (by omega)]
                 simp [intsV, HC.out]
               have C := hid (IH.out c hcl hkc w3 (HD.out.below hb3))
               have HB3 := hid hb3
               clear ho3 hg3 hb3 hrw)
            | (go_at_call 132; refine C.out.mono ?_; rintro e w4 ⟨a4, c4, rfl, h4, hb4⟩
               obtain ⟨g4, rfl, hsrc⟩ := slice_some2 h4 hpos
               have hv4 := ownsRow_below HO3.out hb4
               have HB4 := hid (HB3.out.trans (hb4.mono HB3.out.size))
               have HSRC := hid hsrc
               clear h4 hb4 hsrc)
            | (at_builtin; refine wpList_append_own _ rfl (.tmp 42) (.tmp 55) 197 rfl w.heap.size 37 i0 (.agg #[.int .i64 0, .int .i64 0]) 2 16 Tryz.underlying197 hi hz0 hz1 hz2 rfl (by decide) v3 _ _ rfl hv4 ⟨g4, 0, none⟩ (plF s k c).length c4 (plV (plF s k c)) rfl (by simp; omega) HSRC.out (plV_one _) (by unfold maxLen; omega) (by omega) HB4.out.size ?_
               intro v5 w5 ho5 hg5 _
               have HO5 := hid ho5
               have HB5 := hid (HB4.out.grown hg5 HB4.out.size (fun k e => (hv4.lt k e).1))
               clear ho5 hg5 hv4))
          go_roundw
          case rel =>
            refine ⟨j + 1, v5, by omega, by go_num, rfl, ?_, HB5.out⟩
            rw [HUP.out]
            have e : plV (upTo n x.ks (plF s k) j ++ [(n, j)] ++ plF s k c) = plV (upTo n x.ks (plF s k) j) ++ [.int .i64 (n : Int), .int .i64 (j : Int)] ++ plV (plF s k c) := by simp [plV]
            rw [e, List.length_append, List.length_append]
            exact HO5.out
          case measure => simp [intOf]; omega
        · have hj3I : ¬ (j : Int) < (x.ks.length : Int) := by omega
          have hnone : x.ks[j]? = none := List.getElem?_eq_none (by omega)
          have HUP := hid (upTo_succ_none (n := n) (f := plF s k) hnone)
          cases ht : x.t with
          | true =>
            rw [ht] at hc0
            go_wp2_with (first
              | (go_at_call 168; refine CS.out.mono ?_; rintro e w' ⟨rfl, hw'⟩; replace hw' := hw'.symm; subst hw')
              | (at_builtin; refine wpList_append_own _ rfl (.tmp 14) (.tmp 18) 197 rfl w.heap.size 37 i0 (.agg #[.int .i64 0, .int .i64 0]) 2 16 Tryz.underlying197 hi hz0 hz1 hz2 rfl (by decide) u5 _ _ rfl (HV.out.alloc _) ⟨wr.heap.size, 0, none⟩ 1 1 [.int .i64 (n : Int), .int .i64 (j : Int)] rfl rfl SRC.out (by simp [Value.oneCell']) (by unfold maxLen; omega) (by omega) (by have := HB.out.size; simp; omega) ?_
                 intro v3 w3 ho3 hg3 _
                 have hb3 : Below w.heap.size w w3 := (HB.out.alloc HB.out.size _).grown hg3 (by have := HB.out.size; simp; omega) (fun k e => (HV.out.lt k e).1)
                 have HO3 := hid ho3
                 have d0 := (hb3.cell (p := ⟨bd, 0, none⟩) hlt.1).trans h0
                 have dc0 := (hb3.cell (p := ⟨bn, n * 4, none⟩) hlt.2).trans hc0
                 have HB3 := hid hb3
                 clear ho3 hg3 hb3))
            go_roundw
            case rel =>
              refine ⟨j + 1, v3, by omega, by go_num, rfl, ?_, HB3.out⟩
              rw [HUP.out]
              simpa [plV] using HO3.out
            case measure => simp [intOf]; omega
          | false =>
            rw [ht] at hc0
            go_wp2_with (first
              | (go_at_call 168; refine CS.out.mono ?_; rintro e w' ⟨rfl, hw'⟩; replace hw' := hw'.symm; subst hw')
              | (at_builtin; refine wpList_append_own _ rfl (.tmp 14) (.tmp 18) 197 rfl w.heap.size 37 i0 (.agg #[.int .i64 0, .int .i64 0]) 2 16 Tryz.underlying197 hi hz0 hz1 hz2 rfl (by decide) u5 _ _ rfl (HV.out.alloc _) ⟨wr.heap.size, 0, none⟩ 1 1 [.int .i64 (n : Int), .int .i64 (j : Int)] rfl rfl SRC.out (by simp [Value.oneCell']) (by unfold maxLen; omega) (by omega) (by have := HB.out.size; simp; omega) ?_
                 intro v3 w3 ho3 hg3 _
                 have hb3 : Below w.heap.size w w3 := (HB.out.alloc HB.out.size _).grown hg3 (by have := HB.out.size; simp; omega) (fun k e => (HV.out.lt k e).1)
                 have HO3 := hid ho3
                 have d0 := (hb3.cell (p := ⟨bd, 0, none⟩) hlt.1).trans h0
                 have dc0 := (hb3.cell (p := ⟨bn, n * 4, none⟩) hlt.2).trans hc0
                 have dc2 := (hb3.cell (p := ⟨bn, n * 4 + 2, none⟩) hlt.2).trans hc2
                 have HB3 := hid hb3
                 clear ho3 hg3 hb3))
            go_roundw
            case rel =>
              refine ⟨j + 1, v3, by omega, by go_num, rfl, ?_, HB3.out⟩
              rw [HUP.out]
              simpa [plV] using HO3.out
            case measure => simp [intOf]; omega
      · obtain rfl : j = sizeN x + 1 := by omega
        have hjI : ¬ ((sizeN x : Int) + 1 ≤ sizeN x) := by omega
        have hfin : plF s (k + 1) n = upTo n x.ks (plF s k) (sizeN x + 1) := by rw [plF, kidsOf_eq HX.out, sizeAt_eq HX.out]
        rw [← hfin] at hv
        obtain ⟨L, hLL⟩ : ∃ L, plF s (k + 1) n = L := ⟨_, rfl⟩
        rw [hLL] at hv
        have HLL := hid hLL
        obtain ⟨va, vc, hva⟩ := slice_form' hv
        subst hva
        clear hfin hLL
        have HV := hid hv
        have HB := hid hb
        clear hv hb
        go_wp2_with (go_at_call 168; refine CS.out.mono ?_; rintro e w' ⟨rfl, rfl⟩)
        go_ret
        rw [HLL.out]
        exact ⟨va, vc, rfl, HV.out, HB.out⟩
end
end Go.Proofs.YtabogkonklplcaaGreatDoor
