import Derived.Test.YtabogkonklplcaaGreatDoorC07
import Derived.Test.YtabogkonklplcaaGreatDoorC09

/- marginlaw's nodes: one call on the program's document and on the document's own; what is asked of both (Ans..). -/
namespace Go.Proofs.YtabogkonklplcaaGreatDoor
open Go.RowKit
set_option linter.unusedSimpArgs false
set_option linter.unusedVariables false

/-- The state of a document: its nodes, its ranges. How the program lays one: of the world, its blocks, its address, its state; and what states there are. -/
structure St where
  n : List Nd
  r : List Sp
structure PDT where
  lies : World → (Nat → Prop) → Nat → St → Prop
  ok : St → Prop
instance : CoeFun PDT (fun _ => World → (Nat → Prop) → Nat → St → Prop) := ⟨PDT.lies⟩
abbrev RDocS (w : World) (F : Nat → Prop) (bd : Nat) (s : St) : Prop := RDoc w F bd s.n s.r

structure PDOk (PD : PDT) : Prop where
  keeps : ∀ {w w' : World} {F G : Nat → Prop} {b : Nat} {s : St}, PD w F b s → Keeps G w w' → (∀ b, F b → ¬ G b) → PD w' F b s
  wider : ∀ {w : World} {F G : Nat → Prop} {b : Nat} {s : St}, PD w F b s → (∀ b, F b → G b) → PD w G b s
  narrow : ∀ {w : World} {F : Nat → Prop} {b : Nat} {s : St}, PD w F b s → PD w (fun k => F k ∧ k < w.heap.size) b s
  root : PD.ok ⟨[rootNd], []⟩

def grow (F : Nat → Prop) (w : World) : Nat → Prop := fun b => F b ∨ w.heap.size ≤ b
abbrev ptr (b : Nat) : Value := .pointer (some ⟨b, 0, none⟩)
abbrev fltV (a y : Int) : Value := .agg #[.int .i64 a, .int .i64 y]

/-- What a call of the program's must have left. -/
def PPost (PD : PDT) (F : Nat → Prop) (w : World) (bx : Nat) (s' : St) (v : Value) (e : Ending) (w' : World) : Prop := e = .returned v ∧ Keeps F w w' ∧ PD w' (grow F w) bx s'
/-- What the document's own must have left. -/
def RPost (F : Nat → Prop) (w : World) (bd : Nat) (s' : St) (v : Value) (e : Ending) (w' : World) : Prop := e = .returned v ∧ Keeps F w w' ∧ RDocS w' (grow F w) bd s'

/-- Both answer alike: a call with the arguments 'args' behind the receiver; res v is the whole result where v tells of the fault. -/
def Ans (PD : PDT) (G : World → Prop) (s : St) (pf rf : FuncId) (args : List Value) (pres : Value → Value) (rres : Value → Value) : Prop :=
  ∃ (a y : Int) (s' : St), PD.ok s' ∧
    (∀ (w : World) (F : Nat → Prop) (bx : Nat), G w → PD w F bx s → Calls Tryz.prog pf (ptr bx :: args).toArray w (PPost PD F w bx s' (pres (errV a y)))) ∧
    (∀ (w : World) (F : Nat → Prop) (bd : Nat), RDocS w F bd s → Calls Tryz.prog rf (ptr bd :: args).toArray w (RPost F w bd s' (rres (fltV a y))))

/-- The play's own block. -/
def PlayAt (w : World) (yb : Nat) (psv : Value) : Prop := ∃ (l0 : Value) (a0 y0 : Int), w.heap[yb]? = some (.cells #[psv, l0, .int .i64 a0, .int .i64 y0] 34 (0, 0))

/-- Behind one step on one pair: both have the same state again; of the blocks that are new those below m are the program's. -/
def PairPost (PD : PDT) (FP FR : Nat → Prop) (w : World) (yb bx bd : Nat) (psv : Value) (e : Ending) (w' : World) : Prop :=
  e = .returned (.bool true) ∧ ∃ (m : Nat) (s' : St), w.heap.size ≤ m ∧ m ≤ w'.heap.size ∧ PD.ok s' ∧ Keeps (fun b => FP b ∨ FR b ∨ b = yb) w w' ∧ PlayAt w' yb psv ∧
    PD w' (fun b => FP b ∨ (w.heap.size ≤ b ∧ b < m)) bx s' ∧ RDocS w' (fun b => FR b ∨ (m ≤ b ∧ b < w'.heap.size)) bd s'

/-- Where a pair lies beside the play. -/
structure PairAt (PD : PDT) (FP FR : Nat → Prop) (w : World) (yb bx bd : Nat) (psv : Value) (s : St) : Prop where
  play : PlayAt w yb psv
  pd : PD w FP bx s
  rd : RDocS w FR bd s
  apart : ∀ b, FP b → ¬ FR b
  fy : ¬ FP yb
  ry : ¬ FR yb
  fl : ∀ b, FP b → b < w.heap.size
  rl : ∀ b, FR b → b < w.heap.size

abbrev opV (kind D A B C : Int) (S : ByteArray) (p0 p1 q0 q1 : Int) : Value := .agg #[.int .i64 kind, .int .i64 D, .int .i64 A, .int .i64 B, .int .i64 C, .string S, .int .i64 p0, .int .i64 p1, .int .i64 q0, .int .i64 q1]

section
variable {PD : PDT} {G : World → Prop} {FP FR : Nat → Prop} {w : World} {yb bx bd : Nat} {psv : Value} {s : St}

theorem PlayAt.keeps {w w' : World} {F : Nat → Prop} (h : PlayAt w yb psv) (hk : Keeps F w w') (hF : ¬ F yb) : PlayAt w' yb psv := by
  obtain ⟨l0, a0, y0, h⟩ := h
  exact ⟨l0, a0, y0, (hk.block yb (heap_lt h) hF).trans h⟩

theorem RDoc.narrow {w : World} {F : Nat → Prop} {bd : Nat} {s : List Nd} {rs : List Sp} (h : RDoc w F bd s rs) : RDoc w (fun b => F b ∧ b < w.heap.size) bd s rs := by
  obtain ⟨bn, cap, rn, rv, h⟩ := h
  exact ⟨bn, cap, rn, rv, h.narrow⟩
theorem RDoc.wider {w : World} {F G : Nat → Prop} {bd : Nat} {s : List Nd} {rs : List Sp} (h : RDoc w F bd s rs) (hG : ∀ b, F b → G b) : RDoc w G bd s rs := by
  obtain ⟨bn, cap, rn, rv, h⟩ := h
  exact ⟨bn, cap, rn, rv, h.wider hG⟩

/-- The pair, when the program's call has been made. -/
theorem PairAt.ref {W0 w1 : World} (hA : PairAt PD FP FR w yb bx bd psv s) (hb0 : Below w.heap.size w W0) (k1 : Keeps FP W0 w1) : RDocS w1 FR bd s :=
  (hA.rd.keeps (Keeps.of_below (F := fun _ => False) hb0) (fun _ _ e => e)).keeps k1 (fun b hr hp => hA.apart b hp hr)
theorem PairAt.old {W0 w1 : World} (hA : PairAt PD FP FR w yb bx bd psv s) (k1 : Keeps FP W0 w1) {b : Nat} {o : Obj} (hb : w.heap.size ≤ b) (h : W0.heap[b]? = some o) : w1.heap[b]? = some o :=
  (k1.block b (heap_lt h) (fun e => by have := hA.fl b e; omega)).trans h
theorem PairAt.old2 {w1 w2 : World} (hA : PairAt PD FP FR w yb bx bd psv s) (k2 : Keeps FR w1 w2) {b : Nat} {o : Obj} (hb : w.heap.size ≤ b) (h : w1.heap[b]? = some o) : w2.heap[b]? = some o :=
  (k2.block b (heap_lt h) (fun e => by have := hA.rl b e; omega)).trans h
theorem PairAt.play2 {W0 w1 w2 : World} (hA : PairAt PD FP FR w yb bx bd psv s) (hb0 : Below w.heap.size w W0) (k1 : Keeps FP W0 w1) (k2 : Keeps FR w1 w2) : PlayAt w2 yb psv :=
  ((hA.play.keeps (Keeps.of_below (F := fun _ => False) hb0) (fun e => e)).keeps k1 hA.fy).keeps k2 hA.ry

theorem pair_close (hPD : PDOk PD) (hA : PairAt PD FP FR w yb bx bd psv s) {W0 w1 w2 w4 : World} {s' : St} (hwf : PD.ok s') (hb0 : Below w.heap.size w W0) (k1 : Keeps FP W0 w1) (d1 : PD w1 (grow FP W0) bx s')
    (k2 : Keeps FR w1 w2) (r2 : RDocS w2 (grow FR w1) bd s') (k4 : Keeps (fun b => b = yb) w2 w4) (hp : PlayAt w4 yb psv) :
    PairPost PD FP FR w yb bx bd psv (.returned (.bool true)) w4 := by
  have z0 := hb0.size
  have z1 := k1.size
  have z2 := k2.size
  have z4 := k4.size
  have hyb : yb < w.heap.size := by obtain ⟨_, _, _, h⟩ := hA.play; exact heap_lt h
  refine ⟨rfl, w1.heap.size, s', by omega, by omega, hwf, ?_, hp, ?_, ?_⟩
  · have e1 : Keeps (fun b => FP b ∨ FR b ∨ b = yb) w w1 := (Keeps.of_below hb0).trans (k1.mono (fun k _ e => .inl (.inl e)))
    have e2 : Keeps (fun b => FP b ∨ FR b ∨ b = yb) w w2 := e1.trans (k2.mono (fun k _ e => .inl (.inr (.inl e))))
    exact e2.trans (k4.mono (fun k _ e => .inl (.inr (.inr e))))
  · have e1 := hPD.narrow d1
    have e2 := hPD.keeps e1 k2 (fun b hb hr => by
      rcases hb.1 with h | h
      · exact hA.apart b h hr
      · have := hA.rl b hr; omega)
    have e4 := hPD.keeps e2 k4 (fun b hb hy => by
      rcases hb.1 with h | h
      · exact hA.fy (hy ▸ h)
      · omega)
    refine hPD.wider e4 (fun b hb => ?_)
    rcases hb.1 with h | h
    · exact .inl h
    · exact .inr ⟨by omega, hb.2⟩
  · have e1 := r2.narrow
    have e4 := e1.keeps k4 (fun b hb hy => by
      rcases hb.1 with h | h
      · exact hA.ry (hy ▸ h)
      · omega)
    refine e4.wider (fun b hb => ?_)
    rcases hb.1 with h | h
    · exact .inl h
    · exact .inr ⟨h, by omega⟩

/-- The two boxes that nodes lays. -/
abbrev boxed2 (w : World) (bx bd : Nat) (kind D A B C : Int) (S : ByteArray) (p0 p1 q0 q1 : Int) : World :=
  (w.alloc (.cells #[ptr bx, ptr bd] 44)).alloc (.cells #[.int .i64 kind, .int .i64 D, .int .i64 A, .int .i64 B, .int .i64 C, .string S, .int .i64 p0, .int .i64 p1, .int .i64 q0, .int .i64 q1] 39)
theorem boxed2_below (w : World) (bx bd : Nat) (kind D A B C : Int) (S : ByteArray) (p0 p1 q0 q1 : Int) : Below w.heap.size w (boxed2 w bx bd kind D A B C S p0 p1 q0 q1) :=
  ((Below.refl _ w).alloc (Nat.le_refl _) _).alloc (by simp) _
theorem boxed2_pair (w : World) (bx bd : Nat) (kind D A B C : Int) (S : ByteArray) (p0 p1 q0 q1 : Int) : (boxed2 w bx bd kind D A B C S p0 p1 q0 q1).heap[w.heap.size]? = some (.cells #[ptr bx, ptr bd] 44 (0, 0)) := by
  rw [Below.heap_alloc _ _ _ (by simp), heap_alloc_new]
theorem boxed2_op (w : World) (bx bd : Nat) (kind D A B C : Int) (S : ByteArray) (p0 p1 q0 q1 : Int) : (boxed2 w bx bd kind D A B C S p0 p1 q0 q1).heap[w.heap.size + 1]? = some (.cells #[.int .i64 kind, .int .i64 D, .int .i64 A, .int .i64 B, .int .i64 C, .string S, .int .i64 p0, .int .i64 p1, .int .i64 q0, .int .i64 q1] 39 (0, 0)) := by
  have := heap_alloc_new (w.alloc (.cells #[ptr bx, ptr bd] 44)) (.cells #[.int .i64 kind, .int .i64 D, .int .i64 A, .int .i64 B, .int .i64 C, .string S, .int .i64 p0, .int .i64 p1, .int .i64 q0, .int .i64 q1] 39)
  simpa using this

set_option maxRecDepth 20000 in
set_option maxHeartbeats 4000000 in
theorem nodes_element (hPD : PDOk PD) (hGB : ∀ w w', G w → Below w.heap.size w w' → G w') (hA : PairAt PD FP FR w yb bx bd psv s) (hg : G w)
    (D A B C : Int) (S : ByteArray) (p0 p1 q0 q1 : Int) (h : ∃ n : Int, Ans PD G s 52 73 [] (fun v => .tuple #[.int .i64 n, v]) (fun v => .tuple #[.int .i64 n, v])) :
    Calls Tryz.prog 42 #[ptr yb, .agg #[ptr bx, ptr bd], opV 2 D A B C S p0 p1 q0 q1] w (PairPost PD FP FR w yb bx bd psv) := by
  obtain ⟨n, a, y, s', hwf, hp, hr⟩ := h
  have hB := boxed2_below w bx bd 2 D A B C S p0 p1 q0 q1
  have hbp := boxed2_pair w bx bd 2 D A B C S p0 p1 q0 q1
  have hbo := boxed2_op w bx bd 2 D A B C S p0 p1 q0 q1
  have CP := hid (hp (boxed2 w bx bd 2 D A B C S p0 p1 q0 q1) FP bx (hGB _ _ hg hB) (hPD.keeps hA.pd (Keeps.of_below (F := fun _ => False) hB) (fun _ _ e => e)))
  have HB := hid hB
  have HBP := hid hbp
  have HBO := hid hbo
  have HR := hid hr
  have HA := hid hA
  have HPD := hid hPD
  have HWF := hid hwf
  clear hp hr hB hbp hbo hA hPD hwf hg hGB
  go_enter Tryz.func42, Tryz.ntmps42
  go_wp2_with (first
    | (go_at_call 52
       refine CP.out.mono ?_
       clear CP
       rintro e w1 ⟨rfl, k1, d1⟩
       have hp1 := HA.out.old k1 (Nat.le_refl _) HBP.out
       have ho1 := HA.out.old k1 (Nat.le_succ _) HBO.out
       have c10 : w1.cell? ⟨w.heap.size, 0, none⟩ = some (ptr bx) := cell_of_heap hp1 0
       have c11 : w1.cell? ⟨w.heap.size, 1, none⟩ = some (ptr bd) := cell_of_heap hp1 1
       have c22 : w1.cell? ⟨w.heap.size + 1, 2, none⟩ = some (.int .i64 A) := cell_of_heap ho1 2
       have c23 : w1.cell? ⟨w.heap.size + 1, 3, none⟩ = some (.int .i64 B) := cell_of_heap ho1 3
       have c24 : w1.cell? ⟨w.heap.size + 1, 4, none⟩ = some (.int .i64 C) := cell_of_heap ho1 4
       have c25 : w1.cell? ⟨w.heap.size + 1, 5, none⟩ = some (.string S) := cell_of_heap ho1 5
       have CR := hid (HR.out w1 FR bd (HA.out.ref HB.out k1))
       have K1 := hid k1
       have D1 := hid d1
       clear k1 d1 hp1 ho1)
    | (go_at_call 73
       refine CR.out.mono ?_
       clear CR
       rintro e w2 ⟨rfl, k2, r2⟩
       have PL := hid (HA.out.play2 HB.out K1.out k2)
       have K2 := hid k2
       have R2 := hid r2
       clear k2 r2)
    | (go_at_call 20
       obtain ⟨l0, a0, y0, hq⟩ := PL.out
       refine (las_any yb psv l0 a0 y0 a y (w2.alloc (.cells #[.int .i64 a, .int .i64 y] 32)) ((Below.heap_alloc _ _ _ (heap_lt hq)).trans hq)).mono ?_
       rintro e w4 ⟨rfl, k4, hq4⟩
       have K4 := hid k4
       have Q4 := hid hq4
       clear k4 hq4 hq))
  go_ret
  exact pair_close HPD.out HA.out HWF.out HB.out K1.out D1.out K2.out R2.out ((((Keeps.refl (fun b => b = yb) w2).alloc _)).trans (K4.out.mono (fun k _ e => .inl e))) ⟨_, _, _, Q4.out⟩
set_option maxRecDepth 20000 in
set_option maxHeartbeats 4000000 in
theorem nodes_text (hPD : PDOk PD) (hGB : ∀ w w', G w → Below w.heap.size w w' → G w') (hA : PairAt PD FP FR w yb bx bd psv s) (hg : G w)
    (D A B C : Int) (S : ByteArray) (p0 p1 q0 q1 : Int) (h : ∃ n : Int, Ans PD G s 53 74 [.string S] (fun v => .tuple #[.int .i64 n, v]) (fun v => .tuple #[.int .i64 n, v])) :
    Calls Tryz.prog 42 #[ptr yb, .agg #[ptr bx, ptr bd], opV 3 D A B C S p0 p1 q0 q1] w (PairPost PD FP FR w yb bx bd psv) := by
  obtain ⟨n, a, y, s', hwf, hp, hr⟩ := h
  have hB := boxed2_below w bx bd 3 D A B C S p0 p1 q0 q1
  have hbp := boxed2_pair w bx bd 3 D A B C S p0 p1 q0 q1
  have hbo := boxed2_op w bx bd 3 D A B C S p0 p1 q0 q1
  have CP := hid (hp (boxed2 w bx bd 3 D A B C S p0 p1 q0 q1) FP bx (hGB _ _ hg hB) (hPD.keeps hA.pd (Keeps.of_below (F := fun _ => False) hB) (fun _ _ e => e)))
  have HB := hid hB
  have HBP := hid hbp
  have HBO := hid hbo
  have HR := hid hr
  have HA := hid hA
  have HPD := hid hPD
  have HWF := hid hwf
  clear hp hr hB hbp hbo hA hPD hwf hg hGB
  go_enter Tryz.func42, Tryz.ntmps42
  go_wp2_with (first
    | (go_at_call 53
       refine CP.out.mono ?_
       clear CP
       rintro e w1 ⟨rfl, k1, d1⟩
       have hp1 := HA.out.old k1 (Nat.le_refl _) HBP.out
       have ho1 := HA.out.old k1 (Nat.le_succ _) HBO.out
       have c10 : w1.cell? ⟨w.heap.size, 0, none⟩ = some (ptr bx) := cell_of_heap hp1 0
       have c11 : w1.cell? ⟨w.heap.size, 1, none⟩ = some (ptr bd) := cell_of_heap hp1 1
       have c22 : w1.cell? ⟨w.heap.size + 1, 2, none⟩ = some (.int .i64 A) := cell_of_heap ho1 2
       have c23 : w1.cell? ⟨w.heap.size + 1, 3, none⟩ = some (.int .i64 B) := cell_of_heap ho1 3
       have c24 : w1.cell? ⟨w.heap.size + 1, 4, none⟩ = some (.int .i64 C) := cell_of_heap ho1 4
       have c25 : w1.cell? ⟨w.heap.size + 1, 5, none⟩ = some (.string S) := cell_of_heap ho1 5
       have CR := hid (HR.out w1 FR bd (HA.out.ref HB.out k1))
       have K1 := hid k1
       have D1 := hid d1
       clear k1 d1 hp1 ho1)
    | (go_at_call 74
       refine CR.out.mono ?_
       clear CR
       rintro e w2 ⟨rfl, k2, r2⟩
       have PL := hid (HA.out.play2 HB.out K1.out k2)
       have K2 := hid k2
       have R2 := hid r2
       clear k2 r2)
    | (go_at_call 20
       obtain ⟨l0, a0, y0, hq⟩ := PL.out
       refine (las_any yb psv l0 a0 y0 a y (w2.alloc (.cells #[.int .i64 a, .int .i64 y] 32)) ((Below.heap_alloc _ _ _ (heap_lt hq)).trans hq)).mono ?_
       rintro e w4 ⟨rfl, k4, hq4⟩
       have K4 := hid k4
       have Q4 := hid hq4
       clear k4 hq4 hq))
  go_ret
  exact pair_close HPD.out HA.out HWF.out HB.out K1.out D1.out K2.out R2.out ((((Keeps.refl (fun b => b = yb) w2).alloc _)).trans (K4.out.mono (fun k _ e => .inl e))) ⟨_, _, _, Q4.out⟩

set_option maxRecDepth 20000 in
set_option maxHeartbeats 4000000 in
theorem nodes_insert (hPD : PDOk PD) (hGB : ∀ w w', G w → Below w.heap.size w w' → G w') (hA : PairAt PD FP FR w yb bx bd psv s) (hg : G w)
    (D A B C : Int) (S : ByteArray) (p0 p1 q0 q1 : Int) (h : Ans PD G s 54 75 [.int .i64 A, .int .i64 B, .int .i64 C] (fun v => v) (fun v => v)) :
    Calls Tryz.prog 42 #[ptr yb, .agg #[ptr bx, ptr bd], opV 4 D A B C S p0 p1 q0 q1] w (PairPost PD FP FR w yb bx bd psv) := by
  obtain ⟨a, y, s', hwf, hp, hr⟩ := h
  have hB := boxed2_below w bx bd 4 D A B C S p0 p1 q0 q1
  have hbp := boxed2_pair w bx bd 4 D A B C S p0 p1 q0 q1
  have hbo := boxed2_op w bx bd 4 D A B C S p0 p1 q0 q1
  have CP := hid (hp (boxed2 w bx bd 4 D A B C S p0 p1 q0 q1) FP bx (hGB _ _ hg hB) (hPD.keeps hA.pd (Keeps.of_below (F := fun _ => False) hB) (fun _ _ e => e)))
  have HB := hid hB
  have HBP := hid hbp
  have HBO := hid hbo
  have HR := hid hr
  have HA := hid hA
  have HPD := hid hPD
  have HWF := hid hwf
  clear hp hr hB hbp hbo hA hPD hwf hg hGB
  go_enter Tryz.func42, Tryz.ntmps42
  go_wp2_with (first
    | (go_at_call 54
       refine CP.out.mono ?_
       clear CP
       rintro e w1 ⟨rfl, k1, d1⟩
       have hp1 := HA.out.old k1 (Nat.le_refl _) HBP.out
       have ho1 := HA.out.old k1 (Nat.le_succ _) HBO.out
       have c10 : w1.cell? ⟨w.heap.size, 0, none⟩ = some (ptr bx) := cell_of_heap hp1 0
       have c11 : w1.cell? ⟨w.heap.size, 1, none⟩ = some (ptr bd) := cell_of_heap hp1 1
       have c22 : w1.cell? ⟨w.heap.size + 1, 2, none⟩ = some (.int .i64 A) := cell_of_heap ho1 2
       have c23 : w1.cell? ⟨w.heap.size + 1, 3, none⟩ = some (.int .i64 B) := cell_of_heap ho1 3
       have c24 : w1.cell? ⟨w.heap.size + 1, 4, none⟩ = some (.int .i64 C) := cell_of_heap ho1 4
       have c25 : w1.cell? ⟨w.heap.size + 1, 5, none⟩ = some (.string S) := cell_of_heap ho1 5
       have CR := hid (HR.out w1 FR bd (HA.out.ref HB.out k1))
       have K1 := hid k1
       have D1 := hid d1
       clear k1 d1 hp1 ho1)
    | (go_at_call 75
       refine CR.out.mono ?_
       clear CR
       rintro e w2 ⟨rfl, k2, r2⟩
       have PL := hid (HA.out.play2 HB.out K1.out k2)
       have K2 := hid k2
       have R2 := hid r2
       clear k2 r2)
    | (go_at_call 20
       obtain ⟨l0, a0, y0, hq⟩ := PL.out
       refine (las_any yb psv l0 a0 y0 a y w2 hq).mono ?_
       rintro e w4 ⟨rfl, k4, hq4⟩
       have K4 := hid k4
       have Q4 := hid hq4
       clear k4 hq4 hq))
  go_ret
  exact pair_close HPD.out HA.out HWF.out HB.out K1.out D1.out K2.out R2.out K4.out ⟨_, _, _, Q4.out⟩

set_option maxRecDepth 20000 in
set_option maxHeartbeats 4000000 in
theorem nodes_remove (hPD : PDOk PD) (hGB : ∀ w w', G w → Below w.heap.size w w' → G w') (hA : PairAt PD FP FR w yb bx bd psv s) (hg : G w)
    (D A B C : Int) (S : ByteArray) (p0 p1 q0 q1 : Int) (h : Ans PD G s 60 76 [.int .i64 A] (fun v => v) (fun v => v)) :
    Calls Tryz.prog 42 #[ptr yb, .agg #[ptr bx, ptr bd], opV 5 D A B C S p0 p1 q0 q1] w (PairPost PD FP FR w yb bx bd psv) := by
  obtain ⟨a, y, s', hwf, hp, hr⟩ := h
  have hB := boxed2_below w bx bd 5 D A B C S p0 p1 q0 q1
  have hbp := boxed2_pair w bx bd 5 D A B C S p0 p1 q0 q1
  have hbo := boxed2_op w bx bd 5 D A B C S p0 p1 q0 q1
  have CP := hid (hp (boxed2 w bx bd 5 D A B C S p0 p1 q0 q1) FP bx (hGB _ _ hg hB) (hPD.keeps hA.pd (Keeps.of_below (F := fun _ => False) hB) (fun _ _ e => e)))
  have HB := hid hB
  have HBP := hid hbp
  have HBO := hid hbo
  have HR := hid hr
  have HA := hid hA
  have HPD := hid hPD
  have HWF := hid hwf
  clear hp hr hB hbp hbo hA hPD hwf hg hGB
  go_enter Tryz.func42, Tryz.ntmps42
  go_wp2_with (first
    | (go_at_call 60
       refine CP.out.mono ?_
       clear CP
       rintro e w1 ⟨rfl, k1, d1⟩
       have hp1 := HA.out.old k1 (Nat.le_refl _) HBP.out
       have ho1 := HA.out.old k1 (Nat.le_succ _) HBO.out
       have c10 : w1.cell? ⟨w.heap.size, 0, none⟩ = some (ptr bx) := cell_of_heap hp1 0
       have c11 : w1.cell? ⟨w.heap.size, 1, none⟩ = some (ptr bd) := cell_of_heap hp1 1
       have c22 : w1.cell? ⟨w.heap.size + 1, 2, none⟩ = some (.int .i64 A) := cell_of_heap ho1 2
       have c23 : w1.cell? ⟨w.heap.size + 1, 3, none⟩ = some (.int .i64 B) := cell_of_heap ho1 3
       have c24 : w1.cell? ⟨w.heap.size + 1, 4, none⟩ = some (.int .i64 C) := cell_of_heap ho1 4
       have c25 : w1.cell? ⟨w.heap.size + 1, 5, none⟩ = some (.string S) := cell_of_heap ho1 5
       have CR := hid (HR.out w1 FR bd (HA.out.ref HB.out k1))
       have K1 := hid k1
       have D1 := hid d1
       clear k1 d1 hp1 ho1)
    | (go_at_call 76
       refine CR.out.mono ?_
       clear CR
       rintro e w2 ⟨rfl, k2, r2⟩
       have PL := hid (HA.out.play2 HB.out K1.out k2)
       have K2 := hid k2
       have R2 := hid r2
       clear k2 r2)
    | (go_at_call 20
       obtain ⟨l0, a0, y0, hq⟩ := PL.out
       refine (las_any yb psv l0 a0 y0 a y w2 hq).mono ?_
       rintro e w4 ⟨rfl, k4, hq4⟩
       have K4 := hid k4
       have Q4 := hid hq4
       clear k4 hq4 hq))
  go_ret
  exact pair_close HPD.out HA.out HWF.out HB.out K1.out D1.out K2.out R2.out K4.out ⟨_, _, _, Q4.out⟩

set_option maxRecDepth 20000 in
set_option maxHeartbeats 4000000 in
theorem nodes_show (hPD : PDOk PD) (hGB : ∀ w w', G w → Below w.heap.size w w' → G w') (hA : PairAt PD FP FR w yb bx bd psv s) (hg : G w)
    (D A B C : Int) (S : ByteArray) (p0 p1 q0 q1 : Int) (h : ∃ b : ByteArray, Ans PD G s 55 77 [.int .i64 A] (fun v => .tuple #[.string b, v]) (fun v => .tuple #[.string b, v])) :
    Calls Tryz.prog 42 #[ptr yb, .agg #[ptr bx, ptr bd], opV 6 D A B C S p0 p1 q0 q1] w (PairPost PD FP FR w yb bx bd psv) := by
  obtain ⟨b, a, y, s', hwf, hp, hr⟩ := h
  have hB := boxed2_below w bx bd 6 D A B C S p0 p1 q0 q1
  have hbp := boxed2_pair w bx bd 6 D A B C S p0 p1 q0 q1
  have hbo := boxed2_op w bx bd 6 D A B C S p0 p1 q0 q1
  have CP := hid (hp (boxed2 w bx bd 6 D A B C S p0 p1 q0 q1) FP bx (hGB _ _ hg hB) (hPD.keeps hA.pd (Keeps.of_below (F := fun _ => False) hB) (fun _ _ e => e)))
  have HB := hid hB
  have HBP := hid hbp
  have HBO := hid hbo
  have HR := hid hr
  have HA := hid hA
  have HPD := hid hPD
  have HWF := hid hwf
  clear hp hr hB hbp hbo hA hPD hwf hg hGB
  have hbb : (b.toList == b.toList) = true := by simp
  go_enter Tryz.func42, Tryz.ntmps42
  go_wp2_with (first
    | (go_at_call 55
       refine CP.out.mono ?_
       clear CP
       rintro e w1 ⟨rfl, k1, d1⟩
       have hp1 := HA.out.old k1 (Nat.le_refl _) HBP.out
       have ho1 := HA.out.old k1 (Nat.le_succ _) HBO.out
       have c10 : w1.cell? ⟨w.heap.size, 0, none⟩ = some (ptr bx) := cell_of_heap hp1 0
       have c11 : w1.cell? ⟨w.heap.size, 1, none⟩ = some (ptr bd) := cell_of_heap hp1 1
       have c22 : w1.cell? ⟨w.heap.size + 1, 2, none⟩ = some (.int .i64 A) := cell_of_heap ho1 2
       have c23 : w1.cell? ⟨w.heap.size + 1, 3, none⟩ = some (.int .i64 B) := cell_of_heap ho1 3
       have c24 : w1.cell? ⟨w.heap.size + 1, 4, none⟩ = some (.int .i64 C) := cell_of_heap ho1 4
       have c25 : w1.cell? ⟨w.heap.size + 1, 5, none⟩ = some (.string S) := cell_of_heap ho1 5
       have CR := hid (HR.out w1 FR bd (HA.out.ref HB.out k1))
       have K1 := hid k1
       have D1 := hid d1
       clear k1 d1 hp1 ho1)
    | (go_at_call 77
       refine CR.out.mono ?_
       clear CR
       rintro e w2 ⟨rfl, k2, r2⟩
       have PL := hid (HA.out.play2 HB.out K1.out k2)
       have K2 := hid k2
       have R2 := hid r2
       clear k2 r2)
    | (go_at_call 20
       obtain ⟨l0, a0, y0, hq⟩ := PL.out
       refine (las_any yb psv l0 a0 y0 a y (w2.alloc (.cells #[.int .i64 a, .int .i64 y] 32)) ((Below.heap_alloc _ _ _ (heap_lt hq)).trans hq)).mono ?_
       rintro e w4 ⟨rfl, k4, hq4⟩
       have K4 := hid k4
       have Q4 := hid hq4
       clear k4 hq4 hq))
  go_ret
  exact pair_close HPD.out HA.out HWF.out HB.out K1.out D1.out K2.out R2.out ((((Keeps.refl (fun b => b = yb) w2).alloc _)).trans (K4.out.mono (fun k _ e => .inl e))) ⟨_, _, _, Q4.out⟩
end

end Go.Proofs.YtabogkonklplcaaGreatDoor
