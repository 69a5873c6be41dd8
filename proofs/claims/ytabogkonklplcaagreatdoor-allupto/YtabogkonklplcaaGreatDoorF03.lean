import Derived.WalkKit
import Derived.WalkSpells
import Derived.Test.YtabogkonklplcaaGreatDoorRows
import Derived.WalkLawsBesides
import Derived.Handy
import Derived.Deep.QuietTactic
import Derived.BigQuiet
import Derived.Laws.AppendOwnNone
import Derived.Deep.AppendLies

/- What both sides of the laws of 'margin' stand on: the state that a document tells of (nodes: Nd), memory that is let alone (Keeps), and how package marginref lays the state in memory (RDocAt). Our own. -/
namespace Go.Proofs.YtabogkonklplcaaGreatDoor
open Go.RowKit
set_option linter.unusedSimpArgs false
set_option linter.unusedVariables false

/-- A node as the document tells of it: is it a text; its characters; its children; its parent (-1: none). -/
structure Nd where
  t : Bool
  cs : List ByteArray
  ks : List Nat
  p : Int

/-- More than any list of ours is long. (Behind a name: the walk must not count it up.) -/
def lots : Nat := 2000000

/-- A fact kept from the walk, under its own name. -/
theorem hid {p : Prop} (h : p) : Hid p := h

/-- All blocks but those in F (and new ones) are as they were. -/
structure Keeps (F : Nat → Prop) (w w' : World) : Prop where
  os : w'.os = w.os
  tape : w'.tape = w.tape
  output : w'.output = w.output
  size : w.heap.size ≤ w'.heap.size
  block : ∀ k, k < w.heap.size → ¬ F k → w'.heap[k]? = w.heap[k]?

theorem Keeps.refl (F : Nat → Prop) (w : World) : Keeps F w w := ⟨rfl, rfl, rfl, Nat.le_refl _, fun _ _ _ => rfl⟩

theorem Keeps.trans {F : Nat → Prop} {a b c : World} (h : Keeps F a b) (k : Keeps (fun x => F x ∨ a.heap.size ≤ x) b c) : Keeps F a c :=
  ⟨k.os.trans h.os, k.tape.trans h.tape, k.output.trans h.output, Nat.le_trans h.size k.size,
    fun i hi hF => (k.block i (Nat.lt_of_lt_of_le hi h.size) (fun e => e.elim hF (fun e => by omega))).trans (h.block i hi hF)⟩

theorem Keeps.mono {F G : Nat → Prop} {a b : World} (h : Keeps F a b) (hFG : ∀ k, k < a.heap.size → F k → G k) : Keeps G a b :=
  ⟨h.os, h.tape, h.output, h.size, fun k hk hG => h.block k hk (fun e => hG (hFG k hk e))⟩

theorem Keeps.of_below {F : Nat → Prop} {a b : World} (h : Below a.heap.size a b) : Keeps F a b :=
  ⟨h.os, h.tape, h.output, h.size, fun k hk _ => h.block k hk⟩

theorem Keeps.below {a b : World} (h : Keeps (fun _ => False) a b) : Below a.heap.size a b :=
  ⟨h.os, h.tape, h.output, h.size, fun k hk => h.block k hk (fun e => e)⟩

theorem Keeps.grown {F : Nat → Prop} {a b : World} {row : Option Nat} (h : a.grownBy b row) (hr : ∀ k, row = some k → F k ∨ a.heap.size ≤ k) : Keeps F a b :=
  ⟨h.os, h.tape, h.output, h.size, fun k hk hF => h.block k hk (fun e => (hr k e.symm).elim hF (fun e => by omega))⟩

theorem Keeps.setCell {F : Nat → Prop} {a w : World} (h : Keeps F a w) {p : Addr} (hp : F p.block ∨ a.heap.size ≤ p.block) (u : Value) : Keeps F a (w.setCell p u) :=
  h.trans ⟨rfl, rfl, rfl, by simp [World.setCell], fun k hk hF => Below.heap_setCell _ _ _ _ (fun e => hF (e ▸ hp))⟩

theorem Keeps.alloc {F : Nat → Prop} {a w : World} (h : Keeps F a w) (o : Obj) : Keeps F a (w.alloc o) :=
  h.trans ⟨rfl, rfl, rfl, by simp, fun k hk _ => Below.heap_alloc _ _ _ hk⟩

theorem Keeps.drew {F : Nat → Prop} {a w : World} (h : Keeps F a w) : Keeps F a w.drew := ⟨h.os, h.tape, h.output, h.size, h.block⟩

theorem Keeps.cell {F : Nat → Prop} {w w' : World} (h : Keeps F w w') {p : Addr} {v : Value} (hv : w.cell? p = some v) (hp : ¬ F p.block) : w'.cell? p = some v :=
  (World.cell?_of_block (w := w) (h.block p.block (World.block_lt_of_cell? w p hv) hp)).trans hv

theorem heap_lt {w : World} {b : Nat} {o : Obj} (h : w.heap[b]? = some o) : b < w.heap.size := (Array.getElem?_eq_some_iff.1 h).1

/-- A row of values that a slice holds, in a block outside F, is kept. -/
theorem Keeps.row {F : Nat → Prop} {w w' : World} (h : Keeps F w w') {e : TypeId} {z n : Nat} {v : Value} {xs : List Value} (hr : w.ownsRow 0 e z v n xs) (hv : ∀ b, v.ownBlock = some b → ¬ F b) : w'.ownsRow 0 e z v n xs := by
  refine ⟨hr.1, ?_⟩
  rcases hr.2 with hn | ⟨g, cap, cur, rfl, hb, hgg, rest⟩
  · exact .inl hn
  · refine .inr ⟨g, cap, cur, rfl, hb, ?_, rest⟩
    rw [h.block g (heap_lt hgg) (hv g rfl)]
    exact hgg

/-- One of marginref's nodes as its cells hold it. -/
structure RN where
  t : Bool
  cv : Value
  kv : Value
  p : Int
def RN.cells (r : RN) : List Value := [.bool r.t, r.cv, r.kv, .int .i64 r.p]

theorem cells_get (rn : List RN) (i : Nat) (r : RN) (h : rn[i]? = some r) (j : Nat) (hj : j < 4) : (rn.flatMap RN.cells)[i * 4 + j]? = r.cells[j]? := by
  induction rn generalizing i with
  | nil => simp at h
  | cons a l ih =>
    cases i with
    | zero =>
      simp at h; subst h
      rw [List.flatMap_cons, Nat.zero_mul, Nat.zero_add, List.getElem?_append_left (by simpa [RN.cells] using hj)]
    | succ i =>
      have e : (i + 1) * 4 + j = (i * 4 + j) + 4 := by omega
      rw [e, List.flatMap_cons, List.getElem?_append_right (by simp [RN.cells])]
      simpa [RN.cells] using ih i (by simpa using h)

theorem cells_set (rn : List RN) (i : Nat) (r r' : RN) (h : rn[i]? = some r) (j : Nat) (hj : j < 4) (u : Value) (he : r'.cells = r.cells.set j u) :
    (rn.flatMap RN.cells).set (i * 4 + j) u = (rn.set i r').flatMap RN.cells := by
  induction rn generalizing i with
  | nil => simp at h
  | cons a l ih =>
    cases i with
    | zero =>
      simp at h; subst h
      simp only [List.flatMap_cons, List.set_cons_zero, Nat.zero_mul, Nat.zero_add]
      rw [List.set_append_left _ _ (by simpa [RN.cells] using hj), ← he]
    | succ i =>
      have e : (i + 1) * 4 + j = (i * 4 + j) + 4 := by omega
      simp only [List.flatMap_cons, List.set_cons_succ]
      rw [e, List.set_append_right _ _ (by simp [RN.cells])]
      congr 1
      simpa [RN.cells] using ih i (by simpa using h)

theorem cells_length (rn : List RN) : (rn.flatMap RN.cells).length = rn.length * 4 := by
  induction rn with
  | nil => rfl
  | cons a l ih => simp [List.flatMap_cons, ih, RN.cells]; omega

/-- A range: its start's node and offset, its end's. -/
structure Sp where
  a : Int
  b : Int
  c : Int
  d : Int
def Sp.cells (r : Sp) : List Value := [.int .i64 r.a, .int .i64 r.b, .int .i64 r.c, .int .i64 r.d]

def intsV (l : List Nat) : List Value := l.map fun (k : Nat) => Value.int .i64 (k : Int)
def strsV (l : List ByteArray) : List Value := l.map Value.string
@[simp] theorem intsV_length (l : List Nat) : (intsV l).length = l.length := by simp [intsV]
@[simp] theorem strsV_length (l : List ByteArray) : (strsV l).length = l.length := by simp [strsV]

/-- One node, held. -/
structure NOk (w : World) (F : Nat → Prop) (bd bn : Nat) (rv : Value) (r : RN) (x : Nd) : Prop where
  t : r.t = x.t
  p : r.p = x.p
  chars : w.ownsRow 0 9 1 r.cv x.cs.length (strsV x.cs)
  kids : w.ownsRow 0 3 1 r.kv x.ks.length (intsV x.ks)
  apartC : ∀ b, r.cv.ownBlock = some b → F b ∧ b ≠ bd ∧ b ≠ bn ∧ rv.ownBlock ≠ some b
  apartK : ∀ b, r.kv.ownBlock = some b → F b ∧ b ≠ bd ∧ b ≠ bn ∧ rv.ownBlock ≠ some b

/-- A document of marginref's in memory, all of it within F. -/
structure RDocAt (w : World) (F : Nat → Prop) (bd bn cap : Nat) (rn : List RN) (rv : Value) (s : List Nd) (rs : List Sp) : Prop where
  doc : w.heap[bd]? = some (.cells #[.slice (some ⟨bn, 0, none⟩) rn.length cap, rv] 123 (0, 0))
  nodes : w.ownsRow 0 119 4 (.slice (some ⟨bn, 0, none⟩) rn.length cap) rn.length (rn.flatMap RN.cells)
  ranges : w.ownsRow 0 79 4 rv rs.length (rs.flatMap Sp.cells)
  Fd : F bd
  Fn : F bn
  ne : bd ≠ bn
  apart : ∀ b, rv.ownBlock = some b → F b ∧ b ≠ bd ∧ b ≠ bn
  len : rn.length = s.length
  ok : ∀ (i : Nat) (r : RN) (x : Nd), rn[i]? = some r → s[i]? = some x → NOk w F bd bn rv r x

def RDoc (w : World) (F : Nat → Prop) (bd : Nat) (s : List Nd) (rs : List Sp) : Prop := ∃ bn cap rn rv, RDocAt w F bd bn cap rn rv s rs

section
variable {w : World} {F : Nat → Prop} {bd bn cap : Nat} {rn : List RN} {rv : Value} {s : List Nd} {rs : List Sp}

theorem cell_of_heap {w : World} {b : Nat} {c : Array Value} {t : TypeId} {fr : Nat × Nat} (h : w.heap[b]? = some (.cells c t fr)) (j : Nat) : w.cell? ⟨b, j, none⟩ = c[j]? := by
  simp [World.cell?, h]
theorem frozen_of_heap {w : World} {b : Nat} {c : Array Value} {t : TypeId} (h : w.heap[b]? = some (.cells c t (0, 0))) (j : Nat) : w.frozen? ⟨b, j, none⟩ = false := by
  simp [World.frozen?, h]

theorem RDocAt.nodesCell (h : RDocAt w F bd bn cap rn rv s rs) : w.cell? ⟨bd, 0, none⟩ = some (.slice (some ⟨bn, 0, none⟩) s.length cap) := by
  rw [cell_of_heap h.doc, ← h.len]; rfl
theorem RDocAt.rangesCell (h : RDocAt w F bd bn cap rn rv s rs) : w.cell? ⟨bd, 1, none⟩ = some rv := by
  rw [cell_of_heap h.doc]; rfl

theorem RDocAt.raw (h : RDocAt w F bd bn cap rn rv s rs) {i : Nat} {x : Nd} (hx : s[i]? = some x) : ∃ r, rn[i]? = some r ∧ NOk w F bd bn rv r x := by
  have hi : i < rn.length := by rw [h.len]; exact (List.getElem?_eq_some_iff.1 hx).1
  exact ⟨rn[i], List.getElem?_eq_getElem hi, h.ok i _ x (List.getElem?_eq_getElem hi) hx⟩

theorem RDocAt.cellAt (h : RDocAt w F bd bn cap rn rv s rs) {i : Nat} {r : RN} (hr : rn[i]? = some r) (j : Nat) (hj : j < 4) : w.cell? ⟨bn, i * 4 + j, none⟩ = r.cells[j]? := by
  have hi := (List.getElem?_eq_some_iff.1 hr).1
  rw [h.nodes.cellAt (i * 4 + j) (by omega), cells_get rn i r hr j hj]

/-- What the walk reads of one node. -/
theorem RDocAt.look (h : RDocAt w F bd bn cap rn rv s rs) {i : Nat} {x : Nd} (hx : s[i]? = some x) : ∃ r, rn[i]? = some r ∧ NOk w F bd bn rv r x ∧
    w.cell? ⟨bn, i * 4, none⟩ = some (.bool x.t) ∧ w.cell? ⟨bn, i * 4 + 1, none⟩ = some r.cv ∧ w.cell? ⟨bn, i * 4 + 2, none⟩ = some r.kv ∧ w.cell? ⟨bn, i * 4 + 3, none⟩ = some (.int .i64 x.p) := by
  obtain ⟨r, hr, ho⟩ := h.raw hx
  have h0 := h.cellAt hr 0 (by omega)
  have h1 := h.cellAt hr 1 (by omega)
  have h2 := h.cellAt hr 2 (by omega)
  have h3 := h.cellAt hr 3 (by omega)
  refine ⟨r, hr, ho, ?_, ?_, ?_, ?_⟩
  · simpa [RN.cells, ho.t] using h0
  · simpa [RN.cells] using h1
  · simpa [RN.cells] using h2
  · simpa [RN.cells, ho.p] using h3

theorem RDocAt.lt (h : RDocAt w F bd bn cap rn rv s rs) : bd < w.heap.size ∧ bn < w.heap.size :=
  ⟨heap_lt h.doc, (h.nodes.lt bn rfl).2⟩

/-- A document is kept where its blocks are. -/
theorem RDocAt.keeps {G : Nat → Prop} {w' : World} (h : RDocAt w F bd bn cap rn rv s rs) (hk : Keeps G w w') (hG : ∀ b, F b → ¬ G b) : RDocAt w' F bd bn cap rn rv s rs where
  doc := by rw [hk.block bd (heap_lt h.doc) (hG _ h.Fd)]; exact h.doc
  nodes := hk.row h.nodes (fun b e => by cases e; exact hG _ h.Fn)
  ranges := hk.row h.ranges (fun b e => hG _ (h.apart b e).1)
  Fd := h.Fd
  Fn := h.Fn
  ne := h.ne
  apart := h.apart
  len := h.len
  ok := fun i r x hr hx =>
    have o := h.ok i r x hr hx
    ⟨o.t, o.p, hk.row o.chars (fun b e => hG _ (o.apartC b e).1), hk.row o.kids (fun b e => hG _ (o.apartK b e).1), o.apartC, o.apartK⟩

theorem RDocAt.below {w' : World} (h : RDocAt w F bd bn cap rn rv s rs) (hk : Below w.heap.size w w') : RDocAt w' F bd bn cap rn rv s rs :=
  h.keeps (Keeps.of_below (F := fun _ => False) hk) (fun _ _ e => e)

theorem RDoc.keeps {G : Nat → Prop} {w' : World} (h : RDoc w F bd s rs) (hk : Keeps G w w') (hG : ∀ b, F b → ¬ G b) : RDoc w' F bd s rs := by
  obtain ⟨bn, cap, rn, rv, h⟩ := h
  exact ⟨bn, cap, rn, rv, h.keeps hk hG⟩

/-- More blocks may be counted in. -/
theorem RDocAt.wider {G : Nat → Prop} (h : RDocAt w F bd bn cap rn rv s rs) (hG : ∀ b, F b → G b) : RDocAt w G bd bn cap rn rv s rs where
  doc := h.doc
  nodes := h.nodes
  ranges := h.ranges
  Fd := hG _ h.Fd
  Fn := hG _ h.Fn
  ne := h.ne
  apart := fun b e => ⟨hG _ (h.apart b e).1, (h.apart b e).2⟩
  len := h.len
  ok := fun i r x hr hx =>
    have o := h.ok i r x hr hx
    ⟨o.t, o.p, o.chars, o.kids, fun b e => ⟨hG _ (o.apartC b e).1, (o.apartC b e).2⟩, fun b e => ⟨hG _ (o.apartK b e).1, (o.apartK b e).2⟩⟩
end

end Go.Proofs.YtabogkonklplcaaGreatDoor

/- Plain mathematics of the trees: what is true from some count on (Lim), going up by parents (withinF), the heights (Up). Nothing of the dump. -/
namespace Go.Proofs.YtabogkonklplcaaGreatDoor
set_option linter.unusedSimpArgs false
set_option linter.unusedVariables false

/-- From some count on, f is b. -/
def Lim {α : Type} (f : Nat → α) (b : α) : Prop := ∃ K, ∀ k, K ≤ k → f k = b
theorem Lim.unique {α : Type} {f : Nat → α} {a b : α} (h : Lim f a) (g : Lim f b) : a = b := by
  obtain ⟨K, h⟩ := h
  obtain ⟨L, g⟩ := g
  rw [← h (max K L) (Nat.le_max_left _ _), g (max K L) (Nat.le_max_right _ _)]
theorem Lim.succ {α : Type} {f : Nat → α} {b : α} (h : Lim (fun k => f (k + 1)) b) : Lim f b := by
  obtain ⟨K, h⟩ := h
  exact ⟨K + 1, fun k hk => by obtain ⟨j, rfl⟩ : ∃ j, k = j + 1 := ⟨k - 1, by omega⟩; exact h j (by omega)⟩

def parOf (s : List Nd) (i : Nat) : Int := match s[i]? with | some x => x.p | none => -1

/-- 'within', going up at most so many times. -/
def withinF (s : List Nd) : Nat → Int → Int → Bool
  | 0, _, _ => false
  | k + 1, n, o => if n < 0 then false else if n = o then true else withinF s k (parOf s n.toNat) o

/-- Heights: whoever has a parent stands below it, and none stands above B. -/
structure Up (s : List Nd) (h : Nat → Nat) (B : Nat) : Prop where
  le : ∀ i, h i ≤ B
  par : ∀ (i : Nat) (x : Nd), s[i]? = some x → 0 ≤ x.p → x.p < (s.length : Int) ∧ h i < h x.p.toNat

def upMeas (h : Nat → Nat) (B : Nat) (n : Int) : Nat := if 0 ≤ n then B + 1 - h n.toNat else 0

theorem upMeas_lt {s : List Nd} {h : Nat → Nat} {B : Nat} (u : Up s h B) {i : Nat} {x : Nd} (hx : s[i]? = some x) : upMeas h B x.p < upMeas h B (i : Int) := by
  unfold upMeas
  have h1 := u.le i
  rw [if_pos (Int.natCast_nonneg i)]
  have e : ((i : Int)).toNat = i := by simp
  rw [e]
  by_cases hp : 0 ≤ x.p
  · rw [if_pos hp]
    have := (u.par i x hx hp).2
    have h2 := u.le x.p.toNat
    omega
  · rw [if_neg hp]; omega

theorem within_end (s : List Nd) (n o : Int) (hn : n < 0) : Lim (fun k => withinF s k n o) false :=
  Lim.succ ⟨0, fun k _ => by simp [withinF, hn]⟩
theorem within_hit (s : List Nd) (n : Int) (hn : 0 ≤ n) : Lim (fun k => withinF s k n n) true :=
  Lim.succ ⟨0, fun k _ => by simp [withinF]; omega⟩
theorem within_up (s : List Nd) (i : Nat) (x : Nd) (o : Int) (hx : s[i]? = some x) (ho : ¬ (i : Int) = o) {b : Bool} (h : Lim (fun k => withinF s k x.p o) b) : Lim (fun k => withinF s k (i : Int) o) b := by
  refine Lim.succ ?_
  obtain ⟨K, h⟩ := h
  refine ⟨K, fun k hk => ?_⟩
  have e : parOf s ((i : Int)).toNat = x.p := by simp [parOf, hx]
  have hi : ¬ (i : Int) < 0 := by omega
  simp only [withinF, hi, ho, if_false, e]
  exact h k hk

end Go.Proofs.YtabogkonklplcaaGreatDoor

/- The document's own answer (package marginref), function by function: 'is', 'no', 'fine', 'size', 'within', 'top', 'index'. -/
namespace Go.Proofs.YtabogkonklplcaaGreatDoor
open Go.RowKit
set_option linter.unusedSimpArgs false
set_option linter.unusedVariables false

theorem ret_bool {a b : Bool} (h : a = b) : Ending.returned (.bool a) = .returned (.bool b) := by rw [h]
theorem ret_int {k : IntKind} {a b : Int} (h : a = b) : Ending.returned (.int k a) = .returned (.int k b) := by rw [h]

/-- The call returned a bool of which P holds. -/
def IsB (e : Ending) (P : Bool → Prop) : Prop := ∃ b, e = .returned (.bool b) ∧ P b
/-- The call returned an int of which P holds. -/
def IsI (e : Ending) (P : Int → Prop) : Prop := ∃ b, e = .returned (.int .i64 b) ∧ P b
/-- Nothing but draws. -/
def Drawn (w w' : World) : Prop := ∃ n, w' = w.drewN n

/-- A row of ints, as the walk meets it: nil, or a block. -/
theorem row_cases {w : World} {e : TypeId} {z : Nat} {v : Value} {n : Nat} {xs : List Value} (h : w.ownsRow 0 e z v n xs) : (v = .slice none 0 0 ∧ n = 0) ∨ ∃ g cap, v = .slice (some ⟨g, 0, none⟩) n cap := by
  rcases h.2 with h | ⟨g, cap, cur, hv, _⟩
  · exact .inl h
  · exact .inr ⟨g, cap, hv⟩

section
variable {w : World} {F : Nat → Prop} {bd bn cap : Nat} {rn : List RN} {rv : Value} {s : List Nd} {rs : List Sp}

set_option maxHeartbeats 400000 in
theorem is_any (hD : RDocAt w F bd bn cap rn rv s rs) (k : Int) :
    Calls Tryz.prog 47 #[.pointer (some ⟨bd, 0, none⟩), .int .i64 k] w fun e w' => e = .returned (.bool (decide (0 ≤ k ∧ k < s.length))) ∧ w' = w := by
  have h0 := hD.nodesCell
  clear hD
  by_cases hk : 0 ≤ k
  · go_enter Tryz.func47, Tryz.ntmps47
    go_wp2
    go_ret
    exact ⟨by simp [hk], rfl⟩
  · have hd : decide (0 ≤ k) = false := by simpa using hk
    go_enter Tryz.func47, Tryz.ntmps47
    go_wp2
    go_ret
    exact ⟨by simp [hk], rfl⟩

set_option maxHeartbeats 400000 in
theorem no_any (k y : Int) (w : World) :
    Calls Tryz.prog 48 #[.int .i64 k, .int .i64 y] w fun e w' => e = .returned (.agg #[.int .i64 k, .int .i64 y]) ∧ w' = w.alloc (.cells #[.int .i64 k, .int .i64 y] 32) := by
  go_enter Tryz.func48, Tryz.ntmps48
  go_wp2
  go_returns
  exact ⟨rfl, rfl⟩

set_option maxHeartbeats 400000 in
theorem within_any (hD : RDocAt w F bd bn cap rn rv s rs) {ht : Nat → Nat} {B : Nat} (hU : Up s ht B) (k o : Int) (hk : k < s.length) :
    Calls Tryz.prog 116 #[.pointer (some ⟨bd, 0, none⟩), .int .i64 k, .int .i64 o] w fun e w' => w' = w ∧ IsB e fun b => Lim (fun c => withinF s c k o) b := by
  have h0 := hD.nodesCell
  go_enter Tryz.func116, Tryz.ntmps116
  go_wp2
  go_loop [1] (fun t => ∃ m : Int, m < s.length ∧ t = .int .i64 m ∧ ∀ b, Lim (fun c => withinF s c m o) b → Lim (fun c => withinF s c k o) b) (fun t => upMeas ht B (intOf t))
  case atStart => exact ⟨k, hk, rfl, fun _ h => h⟩
  case round =>
    obtain ⟨m, hm, rfl, hl⟩ := hrel
    by_cases h1 : 0 ≤ m
    · obtain ⟨i, rfl⟩ := Int.eq_ofNat_of_zero_le h1
      have hi : i < s.length := by omega
      by_cases h2 : (i : Int) = o
      · subst h2
        clear hD
        go_wp2
        go_ret
        exact ⟨rfl, _, rfl, hl _ (within_hit s _ h1)⟩
      · have hx : s[i]? = some s[i] := List.getElem?_eq_getElem hi
        obtain ⟨r, hr, ho, -, -, -, hp⟩ := hD.look hx
        have HX : Hid (s[i]? = some s[i]) := hx
        generalize s[i] = x at *
        clear hD hx ho hr
        go_wp2
        refine ⟨⟨x.p, ?_, rfl, fun b hb => hl b (within_up s i x o HX.out h2 hb)⟩, by simpa [intOf] using upMeas_lt hU HX.out⟩
        by_cases hp0 : 0 ≤ x.p
        · exact (hU.par i x HX.out hp0).1
        · omega
    · clear hD
      go_wp2
      go_ret
      exact ⟨rfl, _, rfl, hl _ (within_end s m o (by omega))⟩

set_option maxHeartbeats 400000 in
/-- 'index': where a node stands among its parent's children, or -1. -/
theorem index_any (hD : RDocAt w F bd bn cap rn rv s rs) (i j : Nat) (x y : Nd) (hx : s[i]? = some x) (hj : x.p = j) (hy : s[j]? = some y) (hbig : y.ks.length < lots) :
    Calls Tryz.prog 121 #[.pointer (some ⟨bd, 0, none⟩), .int .i64 i] w fun e w' => Drawn w w' ∧ IsI e fun q =>
      ((∃ m : Nat, q = m ∧ y.ks[m]? = some i ∧ i ∉ y.ks.take m) ∨ (q = -1 ∧ i ∉ y.ks)) := by
  unfold lots at hbig
  have h0 := hD.nodesCell
  obtain ⟨r, hr, ho, -, -, -, hp⟩ := hD.look hx
  obtain ⟨r', hr', ho', -, -, hk, -⟩ := hD.look hy
  rw [hj] at hp
  have hi : i < s.length := (List.getElem?_eq_some_iff.1 hx).1
  have hj' : j < s.length := (List.getElem?_eq_some_iff.1 hy).1
  have hrow := ho'.kids
  rcases row_cases hrow with ⟨hv, hn⟩ | ⟨g, c, hv⟩
  · rw [hv] at hk
    have hz : y.ks = [] := List.length_eq_zero_iff.1 hn
    clear hD ho ho' hrow hr hr' hx hy hj
    go_enter Tryz.func121, Tryz.ntmps121
    go_wp2
    go_quiet (fail)
    go_wp2
    go_rounds 1
    go_ret
    exact ⟨⟨_, rfl⟩, _, rfl, .inr ⟨rfl, by simp [hz]⟩⟩
  · rw [hv] at hk
    have hcell : Hid (∀ (m : Nat) (u : Nat), y.ks[m]? = some u → w.cell? ⟨g, m, none⟩ = some (.int .i64 (u : Int))) := by
      intro m u hm
      rw [hv] at hrow
      rw [hrow.cellAt m (by have := (List.getElem?_eq_some_iff.1 hm).1; omega)]
      simp [intsV, hm]
    clear hD ho ho' hrow hr hr' hx hy hj
    go_enter Tryz.func121, Tryz.ntmps121
    go_wp2
    go_quiet (fail)
    go_wp2
    go_loop [6] (fun t => ∃ k : Nat, k ≤ y.ks.length ∧ t = .int .i64 k ∧ i ∉ y.ks.take k) (fun t => y.ks.length - (intOf t).toNat)
    case atStart => exact ⟨0, Nat.zero_le _, rfl, by simp⟩
    case round =>
      obtain ⟨k, hkl, rfl, hno⟩ := hrel
      have HN : Hid (i ∉ y.ks.take k) := hno
      clear hno
      by_cases hlt : k < y.ks.length
      · obtain ⟨u, hu⟩ : ∃ u, y.ks[k]? = some u := ⟨_, List.getElem?_eq_getElem hlt⟩
        have hc := hcell.out k u hu
        have HU : Hid (y.ks[k]? = some u) := hu
        clear hu
        by_cases hui : u = i
        · subst hui
          go_wp2
          go_ret
          exact ⟨⟨_, rfl⟩, _, rfl, .inl ⟨k, rfl, HU.out, HN.out⟩⟩
        · have hne : ((u : Int) == (i : Int)) = false := by simp; omega
          go_wp2
          go_round
          case rel => exact ⟨k + 1, by omega, by go_num, by rw [List.take_add_one, HU.out]; simp; exact ⟨HN.out, fun e => hui e.symm⟩⟩
          case measure => simp [intOf]; omega
      · go_wp2
        go_ret
        exact ⟨⟨_, rfl⟩, _, rfl, .inr ⟨rfl, by have := HN.out; rwa [List.take_of_length_le (by omega)] at this⟩⟩
end

end Go.Proofs.YtabogkonklplcaaGreatDoor

/- marginref's lists: 'with', 'without', 'grown'. -/
namespace Go.Proofs.YtabogkonklplcaaGreatDoor
open Go.RowKit
set_option linter.unusedSimpArgs false
set_option linter.unusedVariables false

theorem Tryz.info3 : (Tryz.prog.info? 3).map (fun i => (i.zero, i.size, i.bytes)) = some (some (.int .i64 0), 1, 8) := by kernel_rfl

theorem row_cap {w : World} {e : TypeId} {z : Nat} {g c : Nat} {n : Nat} {xs : List Value} (h : w.ownsRow 0 e z (.slice (some ⟨g, 0, none⟩) n c) n xs) : n ≤ c := by
  rcases h.2 with ⟨h, _⟩ | ⟨g', cap, cur, hv, _, _, hc, _⟩
  · cases h
  · cases hv; exact hc
theorem addr_add (g o j : Nat) : (⟨g, o, none⟩ : Addr).add j = ⟨g, o + j, none⟩ := by unfold Addr.add; split <;> simp_all

theorem intsV_one (l : List Nat) : ∀ u ∈ intsV l, u.oneCell' = true := by
  intro u hu
  simp [intsV] at hu
  obtain ⟨k, _, rfl⟩ := hu
  rfl
theorem intsV_take (l : List Nat) (k : Nat) : intsV (l.take k) = (intsV l).take k := by simp [intsV]
theorem intsV_drop (l : List Nat) (k : Nat) : intsV (l.drop k) = (intsV l).drop k := by simp [intsV]
theorem intsV_append (l m : List Nat) : intsV (l ++ m) = intsV l ++ intsV m := by simp [intsV]

/-- The cells of a part of a row, where they lie. -/
theorem part_cells {w : World} {e : TypeId} {g c n : Nat} {xs : List Value} (h : w.ownsRow 0 e 1 (.slice (some ⟨g, 0, none⟩) n c) n xs) (o : Nat) {ys : List Value} (hy : ∀ (j : Nat) (u : Value), ys[j]? = some u → xs[o + j]? = some u) :
    ∀ (j : Nat) (u : Value), ys[j]? = some u → w.cell? ((⟨g, o, none⟩ : Addr).add j) = some u := by
  intro j u hu
  have hx := hy j u hu
  have hl := (List.getElem?_eq_some_iff.1 hx).1
  have := h.1
  rw [addr_add, h.cellAt (o + j) (by omega), hx]

set_option maxRecDepth 20000 in
/-- 'l[k:]' of a row of one-cell elements: where it lies, the cells that it has. -/
theorem slice_from {w0 : World} {t e : TypeId} {g c n : Nat} {xs : List Value} (ht : Tryz.prog.underlying t = some (.slice e)) (he : Tryz.prog.elem t = e) (hs : ∀ w, (sizeOf e).run Tryz.prog w = .ok 1 w) (hr : w0.ownsRow 0 e 1 (.slice (some ⟨g, 0, none⟩) n c) n xs) (k : Nat) (hk : k ≤ n) :
    ∃ ad : Addr, (∀ w, (Instr.slice t (.slice (some ⟨g, 0, none⟩) n c) (some (.int .i64 (k : Int))) none none).run Tryz.prog w = .ok (.slice (some ad) (n - k) (c - k)) w) ∧
      ∀ w : World, w.ownsRow 0 e 1 (.slice (some ⟨g, 0, none⟩) n c) n xs → ∀ (j : Nat) (u : Value), (xs.drop k)[j]? = some u → w.cell? (ad.add j) = some u := by
  have hc := row_cap hr
  have hl := hr.1
  refine ⟨if c = k then ⟨g, 0, none⟩ else ⟨g, k, none⟩, fun w => ?_, fun w h j u hu => ?_⟩
  · rw [run_slice_l w t _ _ _ (by rw [he]; exact ht) .i64 (k : Int) (by omega) (by omega), he, hs]
    simp only [Result.andThen, sliced, Int.toNat_natCast, Nat.mul_one]
    by_cases hck : c = k
    · rw [if_pos hck, if_pos hck]
    · rw [if_neg hck, if_neg hck, Option.map_some, addr_add, Nat.zero_add]
  · rw [List.getElem?_drop] at hu
    have hj := (List.getElem?_eq_some_iff.1 hu).1
    rw [if_neg (by omega), addr_add, h.cellAt (k + j) (by omega), hu]

theorem Tryz.elem24 : Tryz.prog.elem 24 = 3 := by kernel_rfl
theorem Tryz.sizeOf3 (w : World) : (sizeOf 3).run Tryz.prog w = .ok 1 w := by kernel_rfl

set_option maxRecDepth 20000 in
set_option maxHeartbeats 400000 in
theorem with_any (l : List Nat) (v : Value) (k : Nat) (n : Nat) (w : World) (hr : w.ownsRow 0 3 1 v l.length (intsV l)) (hk : k ≤ l.length) (hbig : l.length < lots) :
    Calls Tryz.prog 117 #[v, .int .i64 k, .int .i64 n] w fun e w' => ∃ v', e = .returned v' ∧ w'.ownsRow w.heap.size 3 1 v' (l.length + 1) (intsV (l.take k ++ n :: l.drop k)) ∧ Below w.heap.size w w' := by
  obtain ⟨i0, hi, hz0, hz1, hz2⟩ := info_parts Tryz.info3
  rcases row_cases hr with ⟨hv, hn⟩ | ⟨g, c, hv⟩
  · subst hv
    obtain rfl : l = [] := List.length_eq_zero_iff.1 hn
    obtain rfl : k = 0 := by simpa using hk
    clear hr hk hn hbig
    go_enter Tryz.func117, Tryz.ntmps117
    go_wp2_with (first
      | (at_builtin; refine wpList_append_own_none rfl (.tmp 8) (.tmp 11) 24 rfl w.heap.size 3 i0 1 Tryz.underlying24 hi (.slice none 0 0) 0 [] rfl (World.ownsRow_nil _ _ _ _) rfl ?_)
      | (at_builtin; refine wpList_append_own _ rfl (.tmp 13) (.tmp 15) 24 rfl w.heap.size 3 i0 (.int .i64 0) 1 8 Tryz.underlying24 hi hz0 hz1 hz2 rfl (by decide) (.slice none 0 0) 0 [] rfl (World.ownsRow_nil _ _ _ _) ⟨w.heap.size, 0, none⟩ 1 1 [.int .i64 n] rfl rfl (cell_one_new _ _ _) (by simp [Value.oneCell']) (by unfold maxLen; omega) (by omega) (by simp) ?_; intro v2 w2 ho2 hg2 _
         have hb2 : Below w.heap.size w w2 := ((Below.refl _ w).alloc (Nat.le_refl _) _).grown hg2 (by simp) (fun k e => by cases e)
         clear hg2)
      | (at_builtin; refine wpList_append_own_none rfl (.tmp 17) (.tmp 20) 24 rfl w.heap.size 3 i0 1 Tryz.underlying24 hi v2 1 _ rfl (by simpa using ho2) rfl ?_))
    go_ret
    exact ⟨v2, rfl, by simpa [intsV] using ho2, hb2⟩
  · subst hv
    have hkc : k ≤ c := Nat.le_trans hk (row_cap hr)
    have HB : Hid (l.length < lots) := hbig
    clear hbig
    have src1 := part_cells hr 0 (ys := intsV (l.take k)) (by intro j u hu; rw [intsV_take] at hu; rw [List.getElem?_take] at hu; split at hu <;> simp_all)
    obtain ⟨ad, hsl, hsrc⟩ := slice_from Tryz.underlying24 Tryz.elem24 Tryz.sizeOf3 hr k hk
    have SRC : Hid (∀ w : World, w.ownsRow 0 3 1 (.slice (some ⟨g, 0, none⟩) l.length c) l.length (intsV l) → ∀ (j : Nat) (u : Value), ((intsV l).drop k)[j]? = some u → w.cell? (ad.add j) = some u) := hsrc
    clear hsrc
    go_enter Tryz.func117, Tryz.ntmps117
    go_wp2_with (first
      | (at_builtin; refine wpList_append_own _ rfl (.tmp 8) (.tmp 11) 24 rfl w.heap.size 3 i0 (.int .i64 0) 1 8 Tryz.underlying24 hi hz0 hz1 hz2 rfl (by decide) (.slice none 0 0) 0 [] rfl (World.ownsRow_nil _ _ _ _) ⟨g, 0, none⟩ k c (intsV (l.take k)) rfl (by simp; omega) src1 (intsV_one _) (by unfold maxLen; have := HB.out; unfold lots at this; omega) (by have := HB.out; unfold lots at this; omega) (Nat.le_refl _) ?_; intro v1 w1 ho1 hg1 _
         have hb1 : Below w.heap.size w w1 := (Below.refl _ _).grown hg1 (Nat.le_refl _) (fun k e => by cases e)
         have ho1' : w1.ownsRow w.heap.size 3 1 v1 k (intsV (l.take k)) := by simpa using ho1
         clear ho1 hg1)
      | (at_builtin; refine wpList_append_own _ rfl (.tmp 13) (.tmp 15) 24 rfl w.heap.size 3 i0 (.int .i64 0) 1 8 Tryz.underlying24 hi hz0 hz1 hz2 rfl (by decide) v1 k _ rfl (ho1'.alloc _) ⟨w1.heap.size, 0, none⟩ 1 1 [.int .i64 n] rfl rfl (cell_one_new _ _ _) (by simp [Value.oneCell']) (by unfold maxLen; have := HB.out; unfold lots at this; omega) (by have := HB.out; unfold lots at this; omega) (by have := hb1.size; simp; omega) ?_; intro v2 w2 ho2 hg2 _
         have hb2 : Below w.heap.size w w2 := (hb1.alloc hb1.size _).grown hg2 (by have := hb1.size; simp; omega) (fun k e => (ho1'.lt k e).1)
         clear hg2 ho1' hb1)
      | (at_builtin; refine wpList_append_own _ rfl (.tmp 17) (.tmp 20) 24 rfl w.heap.size 3 i0 (.int .i64 0) 1 8 Tryz.underlying24 hi hz0 hz1 hz2 rfl (by decide) v2 (k + 1) _ rfl ho2 ad (l.length - k) (c - k) ((intsV l).drop k) rfl (by simp) (SRC.out w2 ((Keeps.of_below (F := fun _ => False) hb2).row hr (fun _ _ e => e))) (fun u hu => intsV_one l u (List.mem_of_mem_drop hu)) (by unfold maxLen; have := HB.out; unfold lots at this; omega) (by have := HB.out; unfold lots at this; omega) hb2.size ?_; intro v3 w3 ho3 hg3 _
         have hb3 : Below w.heap.size w w3 := hb2.grown hg3 hb2.size (fun k e => (ho2.lt k e).1)
         clear hg3 hb2))
    go_ret
    refine ⟨v3, rfl, ?_, hb3⟩
    have e1 : k + 1 + (l.length - k) = l.length + 1 := by omega
    have e2 : intsV (l.take k) ++ [Value.int .i64 (n : Int)] ++ (intsV l).drop k = intsV (l.take k ++ n :: l.drop k) := by simp [intsV]
    rw [e1, e2] at ho3
    exact ho3

set_option maxRecDepth 20000 in
set_option maxHeartbeats 400000 in
theorem without_any (l : List Nat) (v : Value) (k : Nat) (w : World) (hr : w.ownsRow 0 3 1 v l.length (intsV l)) (hk : k < l.length) (hbig : l.length < lots) :
    Calls Tryz.prog 120 #[v, .int .i64 k] w fun e w' => ∃ v', e = .returned v' ∧ w'.ownsRow w.heap.size 3 1 v' (l.length - 1) (intsV (l.take k ++ l.drop (k + 1))) ∧ Below w.heap.size w w' := by
  obtain ⟨i0, hi, hz0, hz1, hz2⟩ := info_parts Tryz.info3
  rcases row_cases hr with ⟨hv, hn⟩ | ⟨g, c, hv⟩
  · omega
  · subst hv
    have hkc : k ≤ c := Nat.le_trans (by omega) (row_cap hr)
    have HB : Hid (l.length < lots) := hbig
    have hk1 : (k : Int) + 1 ≤ 2000000 := by unfold lots at hbig; omega
    clear hbig
    have src1 := part_cells hr 0 (ys := intsV (l.take k)) (by intro j u hu; rw [intsV_take] at hu; rw [List.getElem?_take] at hu; split at hu <;> simp_all)
    obtain ⟨ad, hsl, hsrc⟩ := slice_from Tryz.underlying24 Tryz.elem24 Tryz.sizeOf3 hr (k + 1) hk
    have ec : (((k + 1 : Nat)) : Int) = (k : Int) + 1 := by omega
    rw [ec] at hsl
    have SRC : Hid (∀ w : World, w.ownsRow 0 3 1 (.slice (some ⟨g, 0, none⟩) l.length c) l.length (intsV l) → ∀ (j : Nat) (u : Value), ((intsV l).drop (k + 1))[j]? = some u → w.cell? (ad.add j) = some u) := hsrc
    clear hsrc ec
    go_enter Tryz.func120, Tryz.ntmps120
    go_wp2_with (first
      | (at_builtin; refine wpList_append_own _ rfl (.tmp 6) (.tmp 9) 24 rfl w.heap.size 3 i0 (.int .i64 0) 1 8 Tryz.underlying24 hi hz0 hz1 hz2 rfl (by decide) (.slice none 0 0) 0 [] rfl (World.ownsRow_nil _ _ _ _) ⟨g, 0, none⟩ k c (intsV (l.take k)) rfl (by simp; omega) src1 (intsV_one _) (by unfold maxLen; have := HB.out; unfold lots at this; omega) (by have := HB.out; unfold lots at this; omega) (Nat.le_refl _) ?_; intro v1 w1 ho1 hg1 _
         have hb1 : Below w.heap.size w w1 := (Below.refl _ _).grown hg1 (Nat.le_refl _) (fun k e => by cases e)
         have ho1' : w1.ownsRow w.heap.size 3 1 v1 k (intsV (l.take k)) := by simpa using ho1
         clear ho1 hg1)
      | (at_builtin; refine wpList_append_own _ rfl (.tmp 11) (.tmp 15) 24 rfl w.heap.size 3 i0 (.int .i64 0) 1 8 Tryz.underlying24 hi hz0 hz1 hz2 rfl (by decide) v1 k _ rfl ho1' ad (l.length - (k + 1)) (c - (k + 1)) ((intsV l).drop (k + 1)) rfl (by simp) (SRC.out w1 ((Keeps.of_below (F := fun _ => False) hb1).row hr (fun _ _ e => e))) (fun u hu => intsV_one l u (List.mem_of_mem_drop hu)) (by unfold maxLen; have := HB.out; unfold lots at this; omega) (by have := HB.out; unfold lots at this; omega) hb1.size ?_; intro v3 w3 ho3 hg3 _
         have hb3 : Below w.heap.size w w3 := hb1.grown hg3 hb1.size (fun k e => (ho1'.lt k e).1)
         clear hg3 hb1))
    go_ret
    refine ⟨v3, rfl, ?_, hb3⟩
    have e1 : k + (l.length - (k + 1)) = l.length - 1 := by omega
    have e2 : intsV (l.take k) ++ (intsV l).drop (k + 1) = intsV (l.take k ++ l.drop (k + 1)) := by simp [intsV]
    rw [e1, e2] at ho3
    exact ho3

end Go.Proofs.YtabogkonklplcaaGreatDoor

/- How a document of marginref's changes in memory: a node more, a field of a node, a document made. -/
namespace Go.Proofs.YtabogkonklplcaaGreatDoor
open Go.RowKit
set_option linter.unusedSimpArgs false
set_option linter.unusedVariables false

theorem row_setCell_other {w : World} {e : TypeId} {z : Nat} {v : Value} {n : Nat} {xs : List Value} (h : w.ownsRow 0 e z v n xs) {p : Addr} (hp : v.ownBlock ≠ some p.block) (u : Value) : (w.setCell p u).ownsRow 0 e z v n xs :=
  (Keeps.setCell (F := fun b => b = p.block) (Keeps.refl _ w) (.inl rfl) u).row h (fun b e1 e2 => hp (by rw [e1, e2]))

section
variable {w : World} {F : Nat → Prop} {bd bn cap : Nat} {rn : List RN} {rv : Value} {s : List Nd} {rs : List Sp}

theorem NOk.keeps {G : Nat → Prop} {w' : World} {r : RN} {x : Nd} (o : NOk w F bd bn rv r x) (hk : Keeps G w w') (hG : ∀ b, F b → b ≠ bd → b ≠ bn → ¬ G b) : NOk w' F bd bn rv r x :=
  ⟨o.t, o.p, hk.row o.chars (fun b e => hG b (o.apartC b e).1 (o.apartC b e).2.1 (o.apartC b e).2.2.1), hk.row o.kids (fun b e => hG b (o.apartK b e).1 (o.apartK b e).2.1 (o.apartK b e).2.2.1), o.apartC, o.apartK⟩

/-- What is used is there: the blocks may be counted as those that there are. -/
theorem RDocAt.narrow (h : RDocAt w F bd bn cap rn rv s rs) : RDocAt w (fun b => F b ∧ b < w.heap.size) bd bn cap rn rv s rs where
  doc := h.doc
  nodes := h.nodes
  ranges := h.ranges
  Fd := ⟨h.Fd, h.lt.1⟩
  Fn := ⟨h.Fn, h.lt.2⟩
  ne := h.ne
  apart := fun b e => ⟨⟨(h.apart b e).1, (h.ranges.lt b e).2⟩, (h.apart b e).2⟩
  len := h.len
  ok := fun i r x hr hx =>
    have o := h.ok i r x hr hx
    ⟨o.t, o.p, o.chars, o.kids, fun b e => ⟨⟨(o.apartC b e).1, (o.chars.lt b e).2⟩, (o.apartC b e).2⟩, fun b e => ⟨⟨(o.apartK b e).1, (o.kids.lt b e).2⟩, (o.apartK b e).2⟩⟩

/-- One cell of one node is written. -/
theorem RDocAt.setNode (h : RDocAt w F bd bn cap rn rv s rs) {i : Nat} {r r' : RN} {x x' : Nd} (hr : rn[i]? = some r) (hx : s[i]? = some x) (j : Nat) (hj : j < 4) (u : Value) (he : r'.cells = r.cells.set j u) (ho : NOk w F bd bn rv r' x') :
    RDocAt (w.setCell ⟨bn, i * 4 + j, none⟩ u) F bd bn cap (rn.set i r') rv (s.set i x') rs := by
  have hk : Keeps (fun b => b = bn) w (w.setCell ⟨bn, i * 4 + j, none⟩ u) := (Keeps.refl (fun b => b = bn) w).setCell (p := ⟨bn, i * 4 + j, none⟩) (.inl rfl) u
  refine ⟨?_, ?_, ?_, h.Fd, h.Fn, h.ne, h.apart, by simpa using h.len, ?_⟩
  · rw [hk.block bd (heap_lt h.doc) h.ne, List.length_set]; exact h.doc
  · have := (h.nodes.stored (i * 4 + j) u).1
    rw [cells_set rn i r r' hr j hj u he] at this
    rw [List.length_set]
    exact this
  · exact hk.row h.ranges (fun b e => (h.apart b e).2.2)
  · intro k r1 x1 h1 h2
    rw [List.getElem?_set] at h1 h2
    by_cases hik : i = k
    · subst hik
      rw [if_pos rfl] at h1 h2
      have hi := (List.getElem?_eq_some_iff.1 hr).1
      have hi' := (List.getElem?_eq_some_iff.1 hx).1
      rw [if_pos hi] at h1
      rw [if_pos hi'] at h2
      cases h1
      cases h2
      exact ho.keeps hk (fun b _ _ hb e => hb e)
    · rw [if_neg hik] at h1 h2
      exact (h.ok k r1 x1 h1 h2).keeps hk (fun b _ _ hb e => hb e)

/-- A node's children are new ones, in blocks from N on. -/
theorem RDocAt.newKids (h : RDocAt w F bd bn cap rn rv s rs) {N i : Nat} {x : Nd} {v' : Value} {ks' : List Nat} (hF : ∀ b, F b → b < N) (hx : s[i]? = some x) (hrow : w.ownsRow N 3 1 v' ks'.length (intsV ks')) :
    ∃ rn2, RDocAt (w.setCell ⟨bn, i * 4 + 2, none⟩ v') (fun b => F b ∨ N ≤ b) bd bn cap rn2 rv (s.set i { x with ks := ks' }) rs := by
  obtain ⟨r, hr, ho⟩ := h.raw hx
  have hw := h.wider (G := fun b => F b ∨ N ≤ b) (fun b e => .inl e)
  have ho2 := hw.ok i r x hr hx
  have hb := fun b e => (hrow.lt b e).1
  have h0 : w.ownsRow 0 3 1 v' ks'.length (intsV ks') := by
    refine ⟨hrow.1, ?_⟩
    rcases hrow.2 with e | ⟨g, c, cur, e, _, q⟩
    · exact .inl e
    · exact .inr ⟨g, c, cur, e, Nat.zero_le _, q⟩
  refine ⟨_, hw.setNode (r' := { r with kv := v' }) hr hx 2 (by omega) v' rfl ⟨ho2.t, ho2.p, ho2.chars, h0, ho2.apartC, fun b e => ?_⟩⟩
  have h1 := hb b e
  have h2 := hF _ h.Fd
  have h3 := hF _ h.Fn
  refine ⟨.inr h1, by omega, by omega, fun e2 => ?_⟩
  have h4 := hF _ (h.apart b e2).1
  omega

/-- A node's parent is another one. -/
theorem RDocAt.newPar (h : RDocAt w F bd bn cap rn rv s rs) {i : Nat} {x : Nd} (p : Int) (hx : s[i]? = some x) :
    ∃ rn2, RDocAt (w.setCell ⟨bn, i * 4 + 3, none⟩ (.int .i64 p)) F bd bn cap rn2 rv (s.set i { x with p := p }) rs := by
  obtain ⟨r, hr, ho⟩ := h.raw hx
  exact ⟨_, h.setNode (r' := { r with p := p }) hr hx 3 (by omega) _ rfl ⟨ho.t, rfl, ho.chars, ho.kids, ho.apartC, ho.apartK⟩⟩

/-- A node more: behind the append, and the store into the document's field. -/
theorem RDocAt.pushed (h : RDocAt w F bd bn cap rn rv s rs) {w1 : World} {g cap' B : Nat} {r : RN} {x : Nd} (hB : B ≤ w.heap.size) (hg : w.grownBy w1 (some bn))
    (ho : w1.ownsRow 0 119 4 (.slice (some ⟨g, 0, none⟩) (rn.length + 1) cap') (rn.length + 1) (rn.flatMap RN.cells ++ r.cells)) (hgn : g = bn ∨ g = w.heap.size)
    (hn : NOk w (fun b => F b ∨ B ≤ b) bd bn rv r x) :
    RDocAt (w1.setCell ⟨bd, 0, none⟩ (.slice (some ⟨g, 0, none⟩) (rn.length + 1) cap')) (fun b => F b ∨ B ≤ b) bd g cap' (rn ++ [r]) rv (s ++ [x]) rs := by
  have hlt := h.lt
  have hgd : bd ≠ g := by
    rcases hgn with e | e
    · rw [e]; exact h.ne
    · omega
  have hk1 : Keeps (fun b => b = bn) w w1 := Keeps.grown hg (fun k e => by cases e; exact .inl rfl)
  have hk : Keeps (fun b => b = bn ∨ b = bd) w (w1.setCell ⟨bd, 0, none⟩ (.slice (some ⟨g, 0, none⟩) (rn.length + 1) cap')) :=
    (hk1.mono (fun k _ e => .inl e)).setCell (p := ⟨bd, 0, none⟩) (.inl (.inr rfl)) _
  have far : ∀ b, b < w.heap.size → b ≠ bn → b ≠ g := fun b hb hbn => by
    rcases hgn with e | e
    · rw [e]; exact hbn
    · omega
  have move : ∀ {r1 : RN} {x1 : Nd}, NOk w (fun b => F b ∨ B ≤ b) bd bn rv r1 x1 → NOk (w1.setCell ⟨bd, 0, none⟩ (.slice (some ⟨g, 0, none⟩) (rn.length + 1) cap')) (fun b => F b ∨ B ≤ b) bd g rv r1 x1 := by
    intro r1 x1 o
    refine ⟨o.t, o.p, hk.row o.chars ?_, hk.row o.kids ?_, ?_, ?_⟩
    · intro b e e2
      rcases e2 with e2 | e2
      · exact (o.apartC b e).2.2.1 e2
      · exact (o.apartC b e).2.1 e2
    · intro b e e2
      rcases e2 with e2 | e2
      · exact (o.apartK b e).2.2.1 e2
      · exact (o.apartK b e).2.1 e2
    · exact fun b e => ⟨(o.apartC b e).1, (o.apartC b e).2.1, far b (o.chars.lt b e).2 (o.apartC b e).2.2.1, (o.apartC b e).2.2.2⟩
    · exact fun b e => ⟨(o.apartK b e).1, (o.apartK b e).2.1, far b (o.kids.lt b e).2 (o.apartK b e).2.2.1, (o.apartK b e).2.2.2⟩
  refine ⟨?_, ?_, ?_, .inl h.Fd, ?_, hgd, ?_, by simp [h.len], ?_⟩
  · have e1 : w1.heap[bd]? = _ := (hk1.block bd hlt.1 h.ne).trans h.doc
    rw [heap_setCell_same w1 bd 0 _ _ _ e1]
    simp
  · rw [List.length_append, List.flatMap_append]
    simpa using row_setCell_other ho (p := ⟨bd, 0, none⟩) (by simp [Value.ownBlock]; exact fun e => hgd e.symm) _
  · refine hk.row h.ranges (fun b e e2 => ?_)
    rcases e2 with e2 | e2
    · exact (h.apart b e).2.2 e2
    · exact (h.apart b e).2.1 e2
  · rcases hgn with e | e
    · rw [e]; exact .inl h.Fn
    · exact .inr (by omega)
  · exact fun b e => ⟨.inl (h.apart b e).1, (h.apart b e).2.1, far b (h.ranges.lt b e).2 (h.apart b e).2.2⟩
  · intro i r1 x1 h1 h2
    by_cases hi : i < rn.length
    · rw [List.getElem?_append_left hi] at h1
      rw [List.getElem?_append_left (by rw [← h.len]; exact hi)] at h2
      have o := h.ok i r1 x1 h1 h2
      exact move ⟨o.t, o.p, o.chars, o.kids, fun b e => ⟨.inl (o.apartC b e).1, (o.apartC b e).2⟩, fun b e => ⟨.inl (o.apartK b e).1, (o.apartK b e).2⟩⟩
    · have hi1 := (List.getElem?_eq_some_iff.1 h1).1
      simp at hi1
      have ei : i = rn.length := by omega
      subst ei
      rw [List.getElem?_append_right (Nat.le_refl _)] at h1
      rw [List.getElem?_append_right (by rw [← h.len]; exact Nat.le_refl _)] at h2
      simp at h1
      simp [h.len] at h2
      subst h1
      subst h2
      exact move hn
end

def rootNd : Nd := ⟨false, [], [], -1⟩

set_option maxHeartbeats 400000 in
theorem rnew_any (w : World) :
    Calls Tryz.prog 41 #[] w fun e w' => ∃ bd, e = .returned (.pointer (some ⟨bd, 0, none⟩)) ∧ Below w.heap.size w w' ∧ RDoc w' (fun b => w.heap.size ≤ b) bd [rootNd] [] := by
  go_enter Tryz.func41, Tryz.ntmps41
  go_wp2
  go_ret
  refine ⟨w.heap.size + 1, rfl, ((Below.refl _ w).alloc (Nat.le_refl _) _).alloc (by simp) _, w.heap.size, 1, [⟨false, .slice none 0 0, .slice none 0 0, -1⟩], .slice none 0 0, ?_⟩
  have e1 := heap_alloc_new (w.alloc (.cells #[.bool false, .slice none 0 0, .slice none 0 0, .int .i64 (-1)] 119)) (.cells #[.slice (some ⟨w.heap.size, 0, none⟩) 1 1, .slice none 0 0] 123)
  refine ⟨by simpa using e1, ?_, World.ownsRow_nil _ _ _ _, by simp, by simp, by simp, ?_, rfl, ?_⟩
  · have := (World.ownsRow_lit (base := 0) (e := 119) (size := 4) w #[.bool false, .slice none 0 0, .slice none 0 0, .int .i64 (-1)] 1 (Nat.zero_le _) (by decide) rfl).alloc (.cells #[.slice (some ⟨w.heap.size, 0, none⟩) 1 1, .slice none 0 0] 123)
    simpa [RN.cells] using this
  · intro b e; cases e
  · intro i r x h1 h2
    cases i with
    | zero =>
      simp at h1 h2
      subst h1 h2
      exact ⟨rfl, rfl, World.ownsRow_nil _ _ _ _, World.ownsRow_nil _ _ _ _, fun b e => (by cases e), fun b e => (by cases e)⟩
    | succ i => simp at h1

end Go.Proofs.YtabogkonklplcaaGreatDoor

/- marginref's Element and Text: a node more. -/
namespace Go.Proofs.YtabogkonklplcaaGreatDoor
open Go.RowKit
set_option linter.unusedSimpArgs false
set_option linter.unusedVariables false

theorem Tryz.info119 : (Tryz.prog.info? 119).map (fun i => (i.zero, i.size, i.bytes)) = some (some (.agg #[.bool false, .slice none 0 0, .slice none 0 0, .int .i64 0]), 4, 64) := by kernel_rfl

def faultV (a y : Int) : Value := .agg #[.int .i64 a, .int .i64 y]

section
variable {w : World} {F : Nat → Prop} {bd bn cap : Nat} {rn : List RN} {rv : Value} {s : List Nd} {rs : List Sp}

set_option maxHeartbeats 400000 in
theorem relement_full (hD : RDocAt w F bd bn cap rn rv s rs) (h40 : 40 ≤ s.length) :
    Calls Tryz.prog 73 #[.pointer (some ⟨bd, 0, none⟩)] w fun e w' => e = .returned (.tuple #[.int .i64 0, .agg #[.int .i64 0, .int .i64 7]]) ∧ Below w.heap.size w w' := by
  have h0 := hD.nodesCell
  have hl : bd < w.heap.size := hD.lt.1
  clear hD
  have h1 : (40 : Int) ≤ s.length := by omega
  go_enter Tryz.func73, Tryz.ntmps73
  go_wp2_with (go_at_call 48; refine (no_any _ _ _).mono ?_; rintro e w' ⟨rfl, rfl⟩)
  go_returns
  refine ⟨rfl, ?_⟩
  go_grown

set_option maxRecDepth 20000 in
set_option maxHeartbeats 400000 in
theorem relement_some (hD : RDocAt w F bd bn cap rn rv s rs) (h40 : s.length < 40) :
    Calls Tryz.prog 73 #[.pointer (some ⟨bd, 0, none⟩)] w fun e w' => e = .returned (.tuple #[.int .i64 s.length, .agg #[.int .i64 0, .int .i64 0]]) ∧ Keeps F w w' ∧ RDoc w' (fun b => F b ∨ w.heap.size ≤ b) bd (s ++ [rootNd]) rs := by
  obtain ⟨i0, hi, hz0, hz1, hz2⟩ := info_parts Tryz.info119
  have h0 := hD.nodesCell
  have hlt := hD.lt
  have hl : bd < w.heap.size := hlt.1
  have h1 : (s.length : Int) < 40 := by omega
  have hD2 : RDocAt ((w.alloc (.cells #[.int .i64 0, .int .i64 0] 32)).alloc (.cells #[.bool false, .slice none 0 0, .slice none 0 0, .int .i64 (-1)] 119)) (fun b => F b ∧ b < w.heap.size) bd bn cap rn rv s rs :=
    hD.narrow.below (((Below.refl _ w).alloc (Nat.le_refl _) _).alloc (by simp) _)
  have hrow := hD2.nodes
  have hlen := hD.len
  rw [hlen] at hrow
  clear hD
  have src : ∀ (j : Nat) (u : Value), [Value.bool false, .slice none 0 0, .slice none 0 0, .int .i64 (-1)][j]? = some u → ((w.alloc (.cells #[.int .i64 0, .int .i64 0] 32)).alloc (.cells #[.bool false, .slice none 0 0, .slice none 0 0, .int .i64 (-1)] 119)).cell? ((⟨w.heap.size + 1, 0, none⟩ : Addr).add j) = some u := by
    have := World.news_of_block (heap_alloc_new (w.alloc (.cells #[.int .i64 0, .int .i64 0] 32)) (.cells #[.bool false, .slice none 0 0, .slice none 0 0, .int .i64 (-1)] 119))
    simpa using this
  have hq2 : ((w.alloc (.cells #[.int .i64 0, .int .i64 0] 32)).alloc (.cells #[.bool false, .slice none 0 0, .slice none 0 0, .int .i64 (-1)] 119)).heap[w.heap.size]? = some (.cells #[.int .i64 0, .int .i64 0] 32 (0, 0)) := by
    rw [Below.heap_alloc _ _ _ (by simp), heap_alloc_new]
  have SRC : Hid _ := src
  have HD : Hid _ := hD2
  have HQ : Hid _ := hq2
  clear src hD2 hq2
  go_enter Tryz.func73, Tryz.ntmps73
  go_wp2_with (
    at_builtin
    refine wpList_append_lies _ rfl (.tmp 15) (.tmp 17) 120 rfl 0 119 i0 _ 4 64 Tryz.underlying120 hi hz0 hz1 hz2 rfl (by decide) (.slice (some ⟨bn, 0, none⟩) s.length cap) s.length _ rfl hrow ⟨w.heap.size + 1, 0, none⟩ 1 1 [.bool false, .slice none 0 0, .slice none 0 0, .int .i64 (-1)] rfl rfl SRC.out (by simp [Value.oneCell']) (by decide) (by unfold maxLen; omega) (by omega) (Nat.zero_le _) (w.heap.size + 1 + 1) (by simp) ?_
    intro g cap' w1 ho (hg : World.grownBy _ w1 (some bn)) (hgn : some bn = some g ∨ _) _
    go_must (have hd1 := (hg.block bd (by simp only [World.size_alloc]; omega) (by simpa using HD.out.ne)).trans HD.out.doc)
    have hc1 : w1.cell? ⟨bd, 0, none⟩ = some (.slice (some ⟨bn, 0, none⟩) rn.length cap) := cell_of_heap hd1 0
    have hf1 := frozen_of_heap hd1 0
    go_must (have hq1 := (hg.block w.heap.size (by simp only [World.size_alloc]; omega) (by simp; omega)).trans HQ.out)
    have hc2 : w1.cell? ⟨w.heap.size, 0, none⟩ = some (.int .i64 0) := cell_of_heap hq1 0
    have hc3 : w1.cell? ⟨w.heap.size, 1, none⟩ = some (.int .i64 0) := cell_of_heap hq1 1
    have hf2 := frozen_of_heap hq1 0
    have hf3 := frozen_of_heap hq1 1
    have hne : ¬ bd = w.heap.size := by omega
    have HG : Hid _ := hg
    have HO : Hid _ := ho
    have HN : Hid _ := hgn
    clear hd1 hq1 hg ho hgn)
  refine bodyPost_ret (v := .tuple #[.int .i64 s.length, .agg #[.int .i64 0, .int .i64 0]]) (by simp [results, Tryz.results73, go_sem, *]) rfl ?_
  have hk0 : Keeps F w w1 := (((Keeps.refl F w).alloc _).alloc _).trans (Keeps.grown HG.out (fun k e => by cases e; exact .inl (.inl HD.out.Fn.1)))
  refine ⟨rfl, ?_, ?_⟩
  · exact ((hk0.setCell (p := ⟨bd, 0, none⟩) (.inl HD.out.Fd.1) _).setCell (p := ⟨w.heap.size, 0, none⟩) (.inr (Nat.le_refl _)) _).setCell (p := ⟨w.heap.size, 1, none⟩) (.inr (Nat.le_refl _)) _
  · refine ⟨g, cap', rn ++ [⟨false, .slice none 0 0, .slice none 0 0, -1⟩], rv, ?_⟩
    have ho : w1.ownsRow 0 119 4 (.slice (some ⟨g, 0, none⟩) (rn.length + 1) cap') (rn.length + 1) (rn.flatMap RN.cells ++ RN.cells ⟨false, .slice none 0 0, .slice none 0 0, -1⟩) := by rw [hlen]; exact HO.out
    have hp := HD.out.pushed (B := w.heap.size + 1) (x := rootNd) (by simp only [World.size_alloc]; omega) HG.out ho (by rcases HN.out with e | e; exact .inl (by cases e; rfl); exact .inr (by simpa using e))
      ⟨rfl, rfl, World.ownsRow_nil _ _ _ _, World.ownsRow_nil _ _ _ _, fun b e => (by cases e), fun b e => (by cases e)⟩
    rw [hlen] at hp
    have hk3 : Keeps (fun b => b = w.heap.size) (w1.setCell ⟨bd, 0, none⟩ (.slice (some ⟨g, 0, none⟩) (s.length + 1) cap')) _ :=
      ((Keeps.refl (fun b => b = w.heap.size) _).setCell (p := ⟨w.heap.size, 0, none⟩) (.inl rfl) (.int .i64 0)).setCell (p := ⟨w.heap.size, 1, none⟩) (.inl rfl) (.int .i64 0)
    refine (hp.keeps hk3 ?_).wider ?_
    · intro b hb e
      rcases hb with hb | hb
      · omega
      · omega
    · intro b hb
      rcases hb with hb | hb
      · exact .inl hb.1
      · exact .inr (by omega)
end

end Go.Proofs.YtabogkonklplcaaGreatDoor

/- marginref's 'more' and 'Chars': a text's characters. -/
namespace Go.Proofs.YtabogkonklplcaaGreatDoor
open Go.RowKit
set_option linter.unusedSimpArgs false
set_option linter.unusedVariables false

def moreF (b : Int) : Int × Int × Int :=
  if b < 128 then (0, 0, 0) else if 194 ≤ b ∧ b ≤ 223 then (1, 128, 191) else if b = 224 then (2, 160, 191) else if b = 237 then (2, 128, 159)
  else if 225 ≤ b ∧ b ≤ 239 then (2, 128, 191) else if b = 240 then (3, 144, 191) else if 241 ≤ b ∧ b ≤ 243 then (3, 128, 191) else if b = 244 then (3, 128, 143) else (-1, 0, 0)

theorem ret3 {a b c a' b' c' : Int} {k l m : IntKind} (h : a = a' ∧ b = b' ∧ c = c') : Ending.returned (.tuple #[.int k a, .int l b, .int m c]) = .returned (.tuple #[.int k a', .int l b', .int m c']) := by
  obtain ⟨rfl, rfl, rfl⟩ := h; rfl

set_option maxHeartbeats 1000000 in
theorem more_any (b : Int) (w : World) :
    Calls Tryz.prog 165 #[.int .u8 b] w fun e w' => e = .returned (.tuple #[.int .i64 (moreF b).1, .int .u8 (moreF b).2.1, .int .u8 (moreF b).2.2]) ∧ w' = w := by
  go_enter Tryz.func165, Tryz.ntmps165
  go_wp2
  all_goals
    go_ret3
    refine ⟨ret3 ?_, rfl⟩
    try simp only [beq_iff_eq, beq_eq_false_iff_ne, ne_eq] at *
    simp only [moreF]
    (repeat' split) <;> first | exact ⟨rfl, rfl, rfl⟩ | (exfalso; omega)

/-- The width of the character at a text's head: 0 if none is there (it is broken). By marginref's own rule. -/
def byteI (t : ByteArray) (i : Nat) : Int := if h : i < t.size then ((t[i]'h).toNat : Int) else 0
def okTail (t : ByteArray) (lo hi : Int) : Nat → Bool
  | 0 => true
  | k + 1 => okTail t lo hi k && decide ((if k = 0 then lo else 128) ≤ byteI t (k + 1) ∧ byteI t (k + 1) ≤ (if k = 0 then hi else 191))
def headW (t : ByteArray) : Nat :=
  let m := moreF (byteI t 0)
  if m.1 < 0 ∨ (t.size : Int) < m.1 + 1 then 0 else if okTail t m.2.1 m.2.2 m.1.toNat then m.1.toNat + 1 else 0

/-- A text's characters, at most so many of them; none: it is not all UTF-8 (or longer). -/
def charsF : Nat → ByteArray → Option (List ByteArray)
  | 0, t => if t.size = 0 then some [] else none
  | k + 1, t => if t.size = 0 then some [] else if headW t = 0 then none else (charsF k (t.extract (headW t) t.size)).map (t.extract 0 (headW t) :: ·)
def charsOf (t : ByteArray) : Option (List ByteArray) := charsF t.size t

theorem headW_le (t : ByteArray) : headW t ≤ t.size := by
  unfold headW
  simp only []
  split
  · omega
  · split <;> omega

theorem charsF_stable (j : Nat) : ∀ (k : Nat) (t : ByteArray), t.size ≤ j → t.size ≤ k → charsF j t = charsF k t := by
  induction j with
  | zero =>
    intro k t hj hk
    have h0 : t.size = 0 := by omega
    cases k <;> simp [charsF, h0]
  | succ j ih =>
    intro k t hj hk
    by_cases h0 : t.size = 0
    · cases k <;> simp [charsF, h0]
    · obtain ⟨k', rfl⟩ : ∃ k', k = k' + 1 := ⟨k - 1, by omega⟩
      simp only [charsF, h0, if_false]
      by_cases hw : headW t = 0
      · simp [hw]
      · simp only [hw, if_false]
        rw [ih k' _ (by rw [ByteArray.size_extract]; omega) (by rw [ByteArray.size_extract]; omega)]

theorem charsF_fuel (k : Nat) (t : ByteArray) (h : t.size ≤ k) : charsF k t = charsF t.size t := charsF_stable k _ t h (Nat.le_refl _)

theorem charsOf_step (t : ByteArray) : charsOf t = if t.size = 0 then some [] else if headW t = 0 then none else (charsOf (t.extract (headW t) t.size)).map (t.extract 0 (headW t) :: ·) := by
  unfold charsOf
  by_cases h0 : t.size = 0
  · rw [h0]; simp [charsF, h0]
  · obtain ⟨m, hm⟩ : ∃ m, t.size = m + 1 := ⟨t.size - 1, by omega⟩
    rw [if_neg h0]
    conv => lhs; rw [hm]
    simp only [charsF, h0, if_false]
    by_cases hw : headW t = 0
    · simp [hw]
    · simp only [hw, if_false]
      rw [charsF_fuel m _ (by rw [ByteArray.size_extract]; omega)]

theorem byteI_eq (t : ByteArray) (k : Nat) (h : k < t.size) : ((t[k]).toNat : Int) = byteI t k := by
  simp [byteI, h]

theorem Tryz.info9 : (Tryz.prog.info? 9).map (fun i => (i.zero, i.size, i.bytes)) = some (some (.string ByteArray.empty), 1, 16) := by kernel_rfl

/-- What Chars gives. -/
def CharsPost (s : ByteArray) (w : World) (e : Ending) (w' : World) : Prop :=
  Below w.heap.size w w' ∧ ((charsOf s = none ∧ e = .returned (.tuple #[.slice none 0 0, .bool false])) ∨
    ∃ l v, charsOf s = some l ∧ l.length ≤ s.size ∧ e = .returned (.tuple #[v, .bool true]) ∧ w'.ownsRow w.heap.size 9 1 v l.length (strsV l))

theorem more_at (b : Int) {n lo hi : Int} (h : moreF b = (n, lo, hi)) (w : World) :
    Calls Tryz.prog 165 #[.int .u8 b] w fun e w' => e = .returned (.tuple #[.int .i64 n, .int .u8 lo, .int .u8 hi]) ∧ w' = w := by
  have := more_any b w
  rw [h] at this
  exact this

theorem moreF_le (b : Int) : -1 ≤ (moreF b).1 ∧ (moreF b).1 ≤ 3 := by
  unfold moreF
  (repeat' split) <;> decide

def sizeV : Value → Nat
  | .string t => t.size
  | _ => 0

theorem headW_of {t : ByteArray} {N : Nat} {lo hi : Int} (hm : moreF (byteI t 0) = ((N : Int), lo, hi)) (hsz : N + 1 ≤ t.size) : headW t = if okTail t lo hi N then N + 1 else 0 := by
  unfold headW
  rw [hm]
  simp only [Int.toNat_natCast]
  rw [if_neg (by omega)]

theorem headW_bad {t : ByteArray} {n lo hi : Int} (hm : moreF (byteI t 0) = (n, lo, hi)) (h : n < 0 ∨ (t.size : Int) < n + 1) : headW t = 0 := by
  unfold headW
  rw [hm]
  simp only []
  rw [if_pos h]

theorem chars_none {s t : ByteArray} {l : List ByteArray} (h : charsOf s = (charsOf t).map (l ++ ·)) (ht : ¬ t.size = 0) (hw : headW t = 0) : charsOf s = none := by
  rw [h, charsOf_step, if_neg ht, if_pos hw]; rfl
theorem chars_some {s t : ByteArray} {l : List ByteArray} (h : charsOf s = (charsOf t).map (l ++ ·)) (ht : t.size = 0) : charsOf s = some l := by
  rw [h, charsOf_step, if_pos ht]; simp
theorem chars_next {s t : ByteArray} {l : List ByteArray} {N : Nat} (h : charsOf s = (charsOf t).map (l ++ ·)) (ht : ¬ t.size = 0) (hw : headW t = N + 1) :
    charsOf s = (charsOf (t.extract (N + 1) t.size)).map ((l ++ [t.extract 0 (N + 1)]) ++ ·) := by
  rw [h, charsOf_step, if_neg ht, hw, if_neg (by omega), Option.map_map]
  congr 1
  funext x
  simp

theorem okTail_mono {t : ByteArray} {lo hi : Int} {N : Nat} (h : okTail t lo hi N = true) : ∀ k, k ≤ N → okTail t lo hi k = true := by
  induction N with
  | zero => intro k hk; obtain rfl : k = 0 := by omega
            exact h
  | succ N ih =>
    intro k hk
    have h2 : okTail t lo hi N = true := by
      simp only [okTail, Bool.and_eq_true] at h
      exact h.1
    by_cases e : k = N + 1
    · subst e; exact h
    · exact ih h2 k (by omega)

theorem okTail_no {t : ByteArray} {lo hi L H : Int} {k N : Nat} (hk : k < N) (hL : L = if k = 0 then lo else 128) (hH : H = if k = 0 then hi else 191) (hb : ¬ (L ≤ byteI t (k + 1) ∧ byteI t (k + 1) ≤ H)) : okTail t lo hi N = false := by
  cases h : okTail t lo hi N with
  | false => rfl
  | true =>
    have := okTail_mono h (k + 1) hk
    simp only [okTail, Bool.and_eq_true, decide_eq_true_eq] at this
    rw [hL, hH] at hb
    exact absurd this.2 hb

theorem okTail_next {t : ByteArray} {lo hi L H : Int} {k : Nat} (h : okTail t lo hi k = true) (hL : L = if k = 0 then lo else 128) (hH : H = if k = 0 then hi else 191) (hb : L ≤ byteI t (k + 1) ∧ byteI t (k + 1) ≤ H) : okTail t lo hi (k + 1) = true := by
  rw [hL, hH] at hb
  simp only [okTail, Bool.and_eq_true, decide_eq_true_eq]
  exact ⟨h, hb⟩

set_option maxRecDepth 20000 in
set_option maxHeartbeats 1000000 in
theorem chars_any (s : ByteArray) (w : World) (hs : s.size < lots) : Calls Tryz.prog 115 #[.string s] w (CharsPost s w) := by
  obtain ⟨i0, hi, hz0, hz1, hz2⟩ := info_parts Tryz.info9
  unfold lots at hs
  go_enter Tryz.func115, Tryz.ntmps115
  go_wp2
  go_loopw [0, 4] (fun a b wr => ∃ (t : ByteArray) (l : List ByteArray), a = .string t ∧ wr.ownsRow w.heap.size 9 1 b l.length (strsV l) ∧ Below w.heap.size w wr ∧ l.length + t.size ≤ s.size ∧ charsOf s = (charsOf t).map (l ++ ·)) (fun a _ _ => sizeV a)
  case atStart => exact ⟨s, [], rfl, World.ownsRow_nil _ _ _ _, Below.refl _ _, by simp, by simp⟩
  case round =>
    obtain ⟨t, l, rfl, hrow, hb, hlen, hch⟩ := hrel
    have HC : Hid _ := hch
    clear hch
    by_cases ht : t.size = 0
    · go_wp2
      go_ret2
      exact ⟨hb, .inr ⟨l, _, chars_some HC.out ht, by omega, rfl, hrow⟩⟩
    · have ht0 : 0 < t.size := by omega
      have hb0 := byteI_eq t 0 ht0
      obtain ⟨n, lo, hiB, hm⟩ : ∃ n lo hiB, moreF (byteI t 0) = (n, lo, hiB) := ⟨_, _, _, rfl⟩
      have hle := moreF_le (byteI t 0)
      rw [hm] at hle
      have hn1 : -1 ≤ n := hle.1
      have hn3 : n ≤ 3 := hle.2
      have HM : Hid _ := hm
      clear hm hle
      by_cases hbad : n < 0 ∨ (t.size : Int) < n + 1
      · have HBAD : Hid _ := hbad
        rcases hbad with h1 | h1
        all_goals
          go_wp2_with (go_at_call 165; refine (more_at _ HM.out _).mono ?_; rintro e w' ⟨rfl, rfl⟩)
          go_ret2
          exact ⟨hb, .inl ⟨chars_none HC.out ht (headW_bad HM.out HBAD.out), rfl⟩⟩
      · obtain ⟨N, rfl⟩ := Int.eq_ofNat_of_zero_le (show 0 ≤ n by omega)
        have hN3 : N ≤ 3 := by omega
        have hNt : N + 1 ≤ t.size := by omega
        have hg1 : ¬ (N : Int) < 0 := by omega
        have hg2 : ¬ (t.size : Int) < (N : Int) + 1 := by omega
        clear hbad
        go_wp2_with (go_at_call 165; refine (more_at _ HM.out _).mono ?_; rintro e w' ⟨rfl, rfl⟩)
        go_loop [6, 7, 8] (fun a b c => ∃ (k : Nat) (L H : Int), k ≤ N ∧ a = .int .u8 L ∧ b = .int .u8 H ∧ c = .int .i64 ((k : Int) + 1) ∧ L = (if k = 0 then lo else 128) ∧ H = (if k = 0 then hiB else 191) ∧ okTail t lo hiB k = true) (fun _ _ c => N + 1 - (intOf c).toNat)
        case atStart => exact ⟨0, lo, hiB, Nat.zero_le _, rfl, rfl, rfl, rfl, rfl, rfl⟩
        case round =>
          obtain ⟨k, L, H, hkN, rfl, rfl, rfl, hL, hH, hok⟩ := hrel
          have HL : Hid _ := hL
          have HH : Hid _ := hH
          have HK : Hid _ := hok
          clear hL hH hok
          by_cases hlt : k < N
          · have hkt : k + 1 < t.size := by omega
            have hbk := byteI_eq t (k + 1) hkt
            have hidx : ((k : Int) + 1).toNat = k + 1 := by omega
            have hc1 : (k : Int) + 1 ≤ (N : Int) := by omega
            by_cases hb1 : byteI t (k + 1) < L
            · go_wp2
              go_ret2
              exact ⟨hb, .inl ⟨chars_none HC.out ht (by rw [headW_of HM.out hNt, if_neg (by rw [okTail_no hlt HL.out HH.out (by omega)]; decide)]), rfl⟩⟩
            · by_cases hb2 : H < byteI t (k + 1)
              · go_wp2
                go_ret2
                exact ⟨hb, .inl ⟨chars_none HC.out ht (by rw [headW_of HM.out hNt, if_neg (by rw [okTail_no hlt HL.out HH.out (by omega)]; decide)]), rfl⟩⟩
              · go_wp2
                go_round
                case rel => exact ⟨k + 1, 128, 191, by omega, rfl, rfl, by go_num, by simp, by simp, okTail_next HK.out HL.out HH.out (by omega)⟩
                case measure => simp [intOf]; omega
          · obtain rfl : k = N := by omega
            have hext : Hid (t.extract 0 (k + 1) = t.extract 0 (k + 1)) := rfl
            have hk1 : ((k : Int) + 1).toNat = k + 1 := by omega
            go_wp2_with (
              at_builtin
              refine wpList_append_own _ rfl (.tmp 45) (.tmp 50) 107 rfl w.heap.size 9 i0 (.string ByteArray.empty) 1 16 Tryz.underlying107 hi hz0 hz1 hz2 rfl (by decide) u4 l.length _ rfl (hrow.alloc _) ⟨w'.heap.size, 0, none⟩ 1 1 [.string (t.extract 0 (k + 1))] rfl rfl (cell_one_new _ _ _) (by simp [Value.oneCell']) (by unfold maxLen; omega) (by omega) (by have := hb.size; simp; omega) ?_
              intro v1 w1 ho1 hg1 _
              have hb1 : Below w.heap.size w w1 := (hb.alloc hb.size _).grown hg1 (by have := hb.size; simp; omega) (fun k e => (hrow.lt k e).1)
              clear hg1)
            have hw1 : headW t = k + 1 := by rw [headW_of HM.out hNt, if_pos HK.out]
            refine ⟨⟨_, l ++ [t.extract 0 (k + 1)], rfl, by simpa [strsV] using ho1, hb1, ?_, chars_next HC.out ht hw1⟩, ?_⟩
            · rw [ByteArray.size_extract]; simp; omega
            · simp only [sizeV, ByteArray.size_extract]; omega

end Go.Proofs.YtabogkonklplcaaGreatDoor

/- marginref's Text. -/
namespace Go.Proofs.YtabogkonklplcaaGreatDoor
open Go.RowKit
set_option linter.unusedSimpArgs false
set_option linter.unusedVariables false

theorem chars_no (s : ByteArray) (w : World) (hs : s.size < lots) (h : charsOf s = none) : Calls Tryz.prog 115 #[.string s] w fun e w' => e = .returned (.tuple #[.slice none 0 0, .bool false]) ∧ Below w.heap.size w w' := by
  refine (chars_any s w hs).mono ?_
  rintro e w' ⟨hb, ⟨_, rfl⟩ | ⟨l, v, hl, _⟩⟩
  · exact ⟨rfl, hb⟩
  · rw [h] at hl; cases hl
theorem chars_yes (s : ByteArray) (w : World) (hs : s.size < lots) (l : List ByteArray) (h : charsOf s = some l) : Calls Tryz.prog 115 #[.string s] w fun e w' => ∃ v, e = .returned (.tuple #[v, .bool true]) ∧ w'.ownsRow w.heap.size 9 1 v l.length (strsV l) ∧ Below w.heap.size w w' := by
  refine (chars_any s w hs).mono ?_
  rintro e w' ⟨hb, ⟨hn, _⟩ | ⟨l', v, hl, _, rfl, hrow⟩⟩
  · rw [h] at hn; cases hn
  · rw [h] at hl; cases hl
    exact ⟨v, rfl, hrow, hb⟩

theorem ownsRow_zero {w : World} {B : Nat} {e : TypeId} {z : Nat} {v : Value} {n : Nat} {xs : List Value} (h : w.ownsRow B e z v n xs) : w.ownsRow 0 e z v n xs := by
  refine ⟨h.1, ?_⟩
  rcases h.2 with h | ⟨g, cap, cur, hv, _, r⟩
  · exact .inl h
  · exact .inr ⟨g, cap, cur, hv, Nat.zero_le _, r⟩

theorem slice_shape {w : World} {B : Nat} {e : TypeId} {z : Nat} {v : Value} {n : Nat} {xs : List Value} (h : w.ownsRow B e z v n xs) : ∃ a cap, v = .slice a n cap := by
  rcases h.2 with ⟨hv, hn⟩ | ⟨g, cap, cur, hv, _⟩
  · subst hn; exact ⟨_, _, hv⟩
  · exact ⟨_, _, hv⟩

section
variable {w : World} {F : Nat → Prop} {bd bn cap : Nat} {rn : List RN} {rv : Value} {s : List Nd} {rs : List Sp}

set_option maxHeartbeats 400000 in
theorem rtext_no (hD : RDocAt w F bd bn cap rn rv s rs) (t : ByteArray) (ht : t.size < lots) (h : charsOf t = none) :
    Calls Tryz.prog 74 #[.pointer (some ⟨bd, 0, none⟩), .string t] w fun e w' => e = .returned (.tuple #[.int .i64 0, .agg #[.int .i64 0, .int .i64 6]]) ∧ Below w.heap.size w w' := by
  clear hD
  have HT : Hid _ := ht
  have HC : Hid _ := h
  clear ht h
  go_enter Tryz.func74, Tryz.ntmps74
  go_wp2_with (first
    | (go_at_call 115
       refine (chars_no t _ HT.out HC.out).mono ?_
       rintro e w1 ⟨rfl, hb⟩
       have hq : w1.heap[w.heap.size]? = some (.cells #[.int .i64 0, .int .i64 0] 32 (0, 0)) := (hb.block w.heap.size (by simp)).trans (heap_alloc_new w _)
       have hz : w.heap.size < w1.heap.size := heap_lt hq
       have hc2 : w1.cell? ⟨w.heap.size, 0, none⟩ = some (.int .i64 0) := cell_of_heap hq 0
       have hc3 : w1.cell? ⟨w.heap.size, 1, none⟩ = some (.int .i64 0) := cell_of_heap hq 1
       have hf2 := frozen_of_heap hq 0
       have hf3 := frozen_of_heap hq 1
       have HB : Hid (Below w.heap.size w w1) := ((Below.refl _ w).alloc (Nat.le_refl _) _).trans (hb.mono (by simp))
       clear hq hb)
    | (go_at_call 48; refine (no_any _ _ _).mono ?_; rintro e w' ⟨rfl, rfl⟩))
  refine bodyPost_ret (v := .tuple #[.int .i64 0, .agg #[.int .i64 0, .int .i64 6]]) (by simp [results, Tryz.results74, go_sem, *]) rfl ?_
  refine ⟨rfl, ?_⟩
  have hh := HB.out
  have hsz := hh.size
  go_grown

set_option maxHeartbeats 400000 in
theorem rtext_long (hD : RDocAt w F bd bn cap rn rv s rs) (t : ByteArray) (ht : t.size < lots) (l : List ByteArray) (h : charsOf t = some l) (h30 : 30 < l.length) :
    Calls Tryz.prog 74 #[.pointer (some ⟨bd, 0, none⟩), .string t] w fun e w' => e = .returned (.tuple #[.int .i64 0, .agg #[.int .i64 0, .int .i64 6]]) ∧ Below w.heap.size w w' := by
  clear hD
  have HT : Hid _ := ht
  have HC : Hid _ := h
  clear ht h
  have h30' : (30 : Int) < l.length := by omega
  go_enter Tryz.func74, Tryz.ntmps74
  go_wp2_with (first
    | (go_at_call 115
       refine (chars_yes t _ HT.out l HC.out).mono ?_
       rintro e w1 ⟨v, rfl, hrow, hb⟩
       obtain ⟨a, c, rfl⟩ := slice_shape hrow
       clear hrow
       have hq : w1.heap[w.heap.size]? = some (.cells #[.int .i64 0, .int .i64 0] 32 (0, 0)) := (hb.block w.heap.size (by simp)).trans (heap_alloc_new w _)
       have hz : w.heap.size < w1.heap.size := heap_lt hq
       have hc2 : w1.cell? ⟨w.heap.size, 0, none⟩ = some (.int .i64 0) := cell_of_heap hq 0
       have hc3 : w1.cell? ⟨w.heap.size, 1, none⟩ = some (.int .i64 0) := cell_of_heap hq 1
       have hf2 := frozen_of_heap hq 0
       have hf3 := frozen_of_heap hq 1
       have HB : Hid (Below w.heap.size w w1) := ((Below.refl _ w).alloc (Nat.le_refl _) _).trans (hb.mono (by simp))
       clear hq hb)
    | (go_at_call 48; refine (no_any _ _ _).mono ?_; rintro e w' ⟨rfl, rfl⟩))
  refine bodyPost_ret (v := .tuple #[.int .i64 0, .agg #[.int .i64 0, .int .i64 6]]) (by simp [results, Tryz.results74, go_sem, *]) rfl ?_
  refine ⟨rfl, ?_⟩
  have hh := HB.out
  have hsz := hh.size
  go_grown

set_option maxHeartbeats 400000 in
theorem rtext_full (hD : RDocAt w F bd bn cap rn rv s rs) (t : ByteArray) (ht : t.size < lots) (l : List ByteArray) (h : charsOf t = some l) (h30 : l.length ≤ 30) (h40 : 40 ≤ s.length) :
    Calls Tryz.prog 74 #[.pointer (some ⟨bd, 0, none⟩), .string t] w fun e w' => e = .returned (.tuple #[.int .i64 0, .agg #[.int .i64 0, .int .i64 7]]) ∧ Below w.heap.size w w' := by
  have HT : Hid _ := ht
  have HC : Hid _ := h
  have HD : Hid _ := hD
  have hl := hD.lt.1
  clear ht h hD
  have h30' : ¬ (30 : Int) < l.length := by omega
  have h40' : (40 : Int) ≤ s.length := by omega
  go_enter Tryz.func74, Tryz.ntmps74
  go_wp2_with (first
    | (go_at_call 115
       refine (chars_yes t _ HT.out l HC.out).mono ?_
       rintro e w1 ⟨v, rfl, hrow, hb⟩
       obtain ⟨a, c, rfl⟩ := slice_shape hrow
       clear hrow
       have hq : w1.heap[w.heap.size]? = some (.cells #[.int .i64 0, .int .i64 0] 32 (0, 0)) := (hb.block w.heap.size (by simp)).trans (heap_alloc_new w _)
       have hz : w.heap.size < w1.heap.size := heap_lt hq
       have hc2 : w1.cell? ⟨w.heap.size, 0, none⟩ = some (.int .i64 0) := cell_of_heap hq 0
       have hc3 : w1.cell? ⟨w.heap.size, 1, none⟩ = some (.int .i64 0) := cell_of_heap hq 1
       have hf2 := frozen_of_heap hq 0
       have hf3 := frozen_of_heap hq 1
       have hh : Below w.heap.size w w1 := ((Below.refl _ w).alloc (Nat.le_refl _) _).trans (hb.mono (by simp))
       have h0 := (HD.out.below hh).nodesCell
       have HB : Hid (Below w.heap.size w w1) := hh
       clear hq hb hh)
    | (go_at_call 48; refine (no_any _ _ _).mono ?_; rintro e w' ⟨rfl, rfl⟩))
  refine bodyPost_ret (v := .tuple #[.int .i64 0, .agg #[.int .i64 0, .int .i64 7]]) (by simp [results, Tryz.results74, go_sem, *]) rfl ?_
  refine ⟨rfl, ?_⟩
  have hh := HB.out
  have hsz := hh.size
  go_grown

set_option maxRecDepth 20000 in
set_option maxHeartbeats 1000000 in
theorem rtext_some (hD : RDocAt w F bd bn cap rn rv s rs) (t : ByteArray) (ht : t.size < lots) (l : List ByteArray) (h : charsOf t = some l) (h30 : l.length ≤ 30) (h40 : s.length < 40) :
    Calls Tryz.prog 74 #[.pointer (some ⟨bd, 0, none⟩), .string t] w fun e w' => e = .returned (.tuple #[.int .i64 s.length, .agg #[.int .i64 0, .int .i64 0]]) ∧ Keeps F w w' ∧ RDoc w' (fun b => F b ∨ w.heap.size ≤ b) bd (s ++ [⟨true, l, [], -1⟩]) rs := by
  obtain ⟨i0, hi, hz0, hz1, hz2⟩ := info_parts Tryz.info119
  have HT : Hid _ := ht
  have HC : Hid _ := h
  have HD : Hid _ := hD
  have hlen := hD.len
  have hlt := hD.lt
  have hl := hD.lt.1
  clear ht h hD
  have h30' : ¬ (30 : Int) < l.length := by omega
  have h40' : ¬ (40 : Int) ≤ s.length := by omega
  have hneq : ¬ bd = w.heap.size := by omega
  go_enter Tryz.func74, Tryz.ntmps74
  go_wp2_with (first
    | (go_at_call 115
       refine (chars_yes t _ HT.out l HC.out).mono ?_
       rintro e w1 ⟨v, rfl, hrow, hb⟩
       obtain ⟨a, c, rfl⟩ := slice_shape hrow
       have hq : w1.heap[w.heap.size]? = some (.cells #[.int .i64 0, .int .i64 0] 32 (0, 0)) := (hb.block w.heap.size (by simp)).trans (heap_alloc_new w _)
       have hz : w.heap.size < w1.heap.size := heap_lt hq
       have hh : Below w.heap.size w w1 := ((Below.refl _ w).alloc (Nat.le_refl _) _).trans (hb.mono (by simp))
       have hl1 : bd < w1.heap.size := Nat.lt_of_lt_of_le hl hh.size
       have h0 := (HD.out.below hh).nodesCell
       have HB : Hid (Below w.heap.size w w1) := hh
       have HQ : Hid (w1.heap[w.heap.size]? = some (.cells #[.int .i64 0, .int .i64 0] 32 (0, 0))) := hq
       go_must (have HR : Hid (w1.ownsRow (w.heap.size + 1) 9 1 (.slice a l.length c) l.length (strsV l)) := by rw [World.size_alloc] at hrow; exact hrow)
       go_must (have HD2 : Hid (RDocAt (w1.alloc (.cells #[.bool true, .slice a l.length c, .slice none 0 0, .int .i64 (-1)] 119)) (fun b => F b ∧ b < w.heap.size) bd bn cap rn rv s rs) :=
         HD.out.narrow.below (hh.alloc hh.size _))
       clear hq hb hh hrow)
    | (at_builtin
       refine wpList_append_lies _ rfl (.tmp 32) (.tmp 35) 120 rfl 0 119 i0 _ 4 64 Tryz.underlying120 hi hz0 hz1 hz2 rfl (by decide) (.slice (some ⟨bn, 0, none⟩) s.length cap) s.length _ rfl (by have := HD2.out.nodes; rw [hlen] at this; exact this) ⟨w1.heap.size, 0, none⟩ 1 1 [.bool true, .slice a l.length c, .slice none 0 0, .int .i64 (-1)] rfl rfl (World.news_of_block (heap_alloc_new w1 _)) (by simp [Value.oneCell']) (by decide) (by unfold maxLen; omega) (by omega) (Nat.zero_le _) (w1.heap.size + 1) (by simp) ?_
       intro g cap' w2 ho (hg : World.grownBy _ w2 (some bn)) (hgn : some bn = some g ∨ _) _
       have hd1 := (hg.block bd (by simp only [World.size_alloc]; omega) (by simpa using HD2.out.ne)).trans HD2.out.doc
       have hc1 : w2.cell? ⟨bd, 0, none⟩ = some (.slice (some ⟨bn, 0, none⟩) rn.length cap) := cell_of_heap hd1 0
       have hf1 := frozen_of_heap hd1 0
       have hq1 := (hg.block w.heap.size (by simp only [World.size_alloc]; omega) (by simp; omega)).trans ((Below.heap_alloc _ _ _ hz).trans HQ.out)
       have hc2 : w2.cell? ⟨w.heap.size, 0, none⟩ = some (.int .i64 0) := cell_of_heap hq1 0
       have hc3 : w2.cell? ⟨w.heap.size, 1, none⟩ = some (.int .i64 0) := cell_of_heap hq1 1
       have hf2 := frozen_of_heap hq1 0
       have hf3 := frozen_of_heap hq1 1
       have HG : Hid _ := hg
       have HO : Hid (w2.ownsRow 0 119 4 (.slice (some ⟨g, 0, none⟩) (s.length + 1) cap') (s.length + 1) (rn.flatMap RN.cells ++ [.bool true, .slice a l.length c, .slice none 0 0, .int .i64 (-1)])) := ho
       have HN : Hid _ := hgn
       clear hd1 hq1 hg ho hgn))
  refine bodyPost_ret (v := .tuple #[.int .i64 s.length, .agg #[.int .i64 0, .int .i64 0]]) (by simp [results, Tryz.results74, go_sem, *]) rfl ?_
  have hk0 : Keeps F w w2 := ((Keeps.of_below (F := F) HB.out).alloc _).trans (Keeps.grown HG.out (fun k e => by cases e; exact .inl (.inl HD.out.Fn)))
  refine ⟨rfl, ?_, ?_⟩
  · exact ((hk0.setCell (p := ⟨bd, 0, none⟩) (.inl HD.out.Fd) _).setCell (p := ⟨w.heap.size, 0, none⟩) (.inr (Nat.le_refl _)) _).setCell (p := ⟨w.heap.size, 1, none⟩) (.inr (Nat.le_refl _)) _
  · refine ⟨g, cap', rn ++ [⟨true, .slice a l.length c, .slice none 0 0, -1⟩], rv, ?_⟩
    have ho : w2.ownsRow 0 119 4 (.slice (some ⟨g, 0, none⟩) (rn.length + 1) cap') (rn.length + 1) (rn.flatMap RN.cells ++ RN.cells ⟨true, .slice a l.length c, .slice none 0 0, -1⟩) := by rw [hlen]; exact HO.out
    have hcr := HR.out
    have hcb : ∀ b, (Value.slice a l.length c).ownBlock = some b → w.heap.size + 1 ≤ b := fun b e => (hcr.lt b e).1
    have hp := HD2.out.pushed (B := w.heap.size + 1) (x := ⟨true, l, [], -1⟩) (by simp only [World.size_alloc]; omega) HG.out ho (by rcases HN.out with e | e; exact .inl (by cases e; rfl); exact .inr (by simpa using e))
      ⟨rfl, rfl, ownsRow_zero (hcr.alloc _), World.ownsRow_nil _ _ _ _, fun b e => ⟨.inr (hcb b e), by have := hcb b e; omega, by have := hcb b e; omega, fun e2 => by have := hcb b e; have := (HD.out.ranges.lt b e2).2; omega⟩, fun b e => (by cases e)⟩
    rw [hlen] at hp
    have hk3 : Keeps (fun b => b = w.heap.size) (w2.setCell ⟨bd, 0, none⟩ (.slice (some ⟨g, 0, none⟩) (s.length + 1) cap')) _ :=
      ((Keeps.refl (fun b => b = w.heap.size) _).setCell (p := ⟨w.heap.size, 0, none⟩) (.inl rfl) (.int .i64 0)).setCell (p := ⟨w.heap.size, 1, none⟩) (.inl rfl) (.int .i64 0)
    refine (hp.keeps hk3 ?_).wider ?_
    · intro b hb e
      rcases hb with hb | hb
      · omega
      · omega
    · intro b hb
      rcases hb with hb | hb
      · exact .inl hb.1
      · exact .inr (by omega)
end

end Go.Proofs.YtabogkonklplcaaGreatDoor

/- marginref's Insert. -/
namespace Go.Proofs.YtabogkonklplcaaGreatDoor
open Go.RowKit
set_option linter.unusedSimpArgs false
set_option linter.unusedVariables false

section
variable {w : World} {F : Nat → Prop} {bd bn cap : Nat} {rn : List RN} {rv : Value} {s : List Nd} {rs : List Sp}

/-- Is there such a node? -/
def isB (s : List Nd) (k : Int) : Bool := decide (0 ≤ k ∧ k < s.length)
theorem isB_true {s : List Nd} {k : Int} (h : isB s k = true) : 0 ≤ k ∧ k < s.length := by simpa [isB] using h
theorem isB_of {s : List Nd} {k : Int} (h : 0 ≤ k ∧ k < s.length) : isB s k = true := by simpa [isB] using h

theorem is_at (hD : RDocAt w F bd bn cap rn rv s rs) (k : Int) :
    Calls Tryz.prog 47 #[.pointer (some ⟨bd, 0, none⟩), .int .i64 k] w fun e w' => e = .returned (.bool (isB s k)) ∧ w' = w := is_any hD k
theorem within_at (hD : RDocAt w F bd bn cap rn rv s rs) {ht : Nat → Nat} {B : Nat} (hU : Up s ht B) (k o : Int) (hk : k < s.length) {b : Bool} (hb : Lim (fun c => withinF s c k o) b) :
    Calls Tryz.prog 116 #[.pointer (some ⟨bd, 0, none⟩), .int .i64 k, .int .i64 o] w fun e w' => e = .returned (.bool b) ∧ w' = w := by
  refine (within_any hD hU k o hk).mono ?_
  rintro e w' ⟨rfl, b', rfl, hl⟩
  exact ⟨ret_bool (hl.unique hb), rfl⟩

/-- The world in which the calls are made: a fault's place laid. -/
theorem RDocAt.faultAt (hD : RDocAt w F bd bn cap rn rv s rs) : RDocAt (w.alloc (.cells #[.int .i64 0, .int .i64 0] 32)) F bd bn cap rn rv s rs :=
  hD.below ((Below.refl _ w).alloc (Nat.le_refl _) _)

set_option maxRecDepth 20000 in
set_option maxHeartbeats 1000000 in
theorem rinsert_parent (hD : RDocAt w F bd bn cap rn rv s rs) (p n k : Int) (hp : isB s p = false) :
    Calls Tryz.prog 75 #[.pointer (some ⟨bd, 0, none⟩), .int .i64 p, .int .i64 n, .int .i64 k] w fun e w' => e = .returned (.agg #[.int .i64 p, .int .i64 1]) ∧ Below w.heap.size w w' := by
  have HD : Hid _ := hD.faultAt
  clear hD
  go_enter Tryz.func75, Tryz.ntmps75
  go_wp2_with (first
    | (go_at_call 47; refine (is_at HD.out _).mono ?_; rintro e w' ⟨rfl, rfl⟩)
    | (go_at_call 48; refine (no_any _ _ _).mono ?_; rintro e w' ⟨rfl, rfl⟩))
  go_returns
  refine ⟨rfl, ?_⟩
  go_grown

set_option maxRecDepth 20000 in
set_option maxHeartbeats 1000000 in
theorem rinsert_node (hD : RDocAt w F bd bn cap rn rv s rs) (p n k : Int) (hp : isB s p = true) (hn : isB s n = false) :
    Calls Tryz.prog 75 #[.pointer (some ⟨bd, 0, none⟩), .int .i64 p, .int .i64 n, .int .i64 k] w fun e w' => e = .returned (.agg #[.int .i64 n, .int .i64 1]) ∧ Below w.heap.size w w' := by
  have HD : Hid _ := hD.faultAt
  clear hD
  go_enter Tryz.func75, Tryz.ntmps75
  go_wp2_with (first
    | (go_at_call 47; refine (is_at HD.out _).mono ?_; rintro e w' ⟨rfl, rfl⟩)
    | (go_at_call 48; refine (no_any _ _ _).mono ?_; rintro e w' ⟨rfl, rfl⟩))
  go_returns
  refine ⟨rfl, ?_⟩
  go_grown

set_option maxRecDepth 20000 in
set_option maxHeartbeats 1000000 in
theorem rinsert_kind (hD : RDocAt w F bd bn cap rn rv s rs) (i j : Nat) (k : Int) (x : Nd) (hx : s[i]? = some x) (hj : j < s.length) (ht : x.t = true) :
    Calls Tryz.prog 75 #[.pointer (some ⟨bd, 0, none⟩), .int .i64 i, .int .i64 j, .int .i64 k] w fun e w' => e = .returned (.agg #[.int .i64 i, .int .i64 2]) ∧ Below w.heap.size w w' := by
  have hi : i < s.length := (List.getElem?_eq_some_iff.1 hx).1
  have hp : isB s i = true := isB_of (by omega)
  have hn : isB s j = true := isB_of (by omega)
  have h0 := hD.nodesCell
  have hl := hD.lt.1
  have hl2 := hD.lt.2
  obtain ⟨r, hr, ho, hc0, -, -, -⟩ := hD.look hx
  rw [ht] at hc0
  have HD : Hid _ := hD.faultAt
  clear hD hr ho hx
  go_enter Tryz.func75, Tryz.ntmps75
  go_wp2_with (first
    | (go_at_call 47; refine (is_at HD.out _).mono ?_; rintro e w' ⟨rfl, rfl⟩)
    | (go_at_call 48; refine (no_any _ _ _).mono ?_; rintro e w' ⟨rfl, rfl⟩))
  go_returns
  refine ⟨rfl, ?_⟩
  go_grown

set_option maxRecDepth 20000 in
set_option maxHeartbeats 1000000 in
theorem rinsert_has (hD : RDocAt w F bd bn cap rn rv s rs) (i j : Nat) (k : Int) (x y : Nd) (hx : s[i]? = some x) (hy : s[j]? = some y) (ht : x.t = false) (hj : j = 0 ∨ 0 ≤ y.p) :
    Calls Tryz.prog 75 #[.pointer (some ⟨bd, 0, none⟩), .int .i64 i, .int .i64 j, .int .i64 k] w fun e w' => e = .returned (.agg #[.int .i64 j, .int .i64 4]) ∧ Below w.heap.size w w' := by
  have hi : i < s.length := (List.getElem?_eq_some_iff.1 hx).1
  have hj' : j < s.length := (List.getElem?_eq_some_iff.1 hy).1
  have hp : isB s i = true := isB_of (by omega)
  have hn : isB s j = true := isB_of (by omega)
  have h0 := hD.nodesCell
  have hl := hD.lt.1
  have hl2 := hD.lt.2
  obtain ⟨r, hr, ho, hc0, -, -, -⟩ := hD.look hx
  obtain ⟨r', hr', ho', -, -, -, hc3⟩ := hD.look hy
  rw [ht] at hc0
  have HD : Hid _ := hD.faultAt
  clear hD hr ho hx hr' ho' hy ht
  rcases Nat.eq_zero_or_pos j with h1 | h1
  · subst h1
    have hn0 : isB s (0 : Int) = true := by simpa using hn
    clear hn hj
    have hl0 : 0 < s.length := by omega
    go_enter Tryz.func75, Tryz.ntmps75
    go_wp2_with (first
      | (go_at_call 47; refine (is_at HD.out _).mono ?_; rintro e w' ⟨rfl, rfl⟩)
      | (go_at_call 48; refine (no_any _ _ _).mono ?_; rintro e w' ⟨rfl, rfl⟩))
    go_returns
    refine ⟨by simp, ?_⟩
    go_grown
  · have h2 : 0 ≤ y.p := by omega
    have hj0 : ((j : Int) == 0) = false := by simp; omega
    clear hj
    go_enter Tryz.func75, Tryz.ntmps75
    go_wp2_with (first
      | (go_at_call 47; refine (is_at HD.out _).mono ?_; rintro e w' ⟨rfl, rfl⟩)
      | (go_at_call 48; refine (no_any _ _ _).mono ?_; rintro e w' ⟨rfl, rfl⟩))
    go_returns
    refine ⟨rfl, ?_⟩
    go_grown

/-- What stands ahead of the last three cases. -/
structure InsOk (s : List Nd) (i j : Nat) (x y : Nd) : Prop where
  hx : s[i]? = some x
  hy : s[j]? = some y
  ht : x.t = false
  hj : 0 < j
  hp : y.p < 0

set_option maxRecDepth 20000 in
set_option maxHeartbeats 1000000 in
theorem rinsert_cycle (hD : RDocAt w F bd bn cap rn rv s rs) {ht : Nat → Nat} {B : Nat} (hU : Up s ht B) (i j : Nat) (k : Int) (x y : Nd) (h : InsOk s i j x y) (hw : Lim (fun c => withinF s c (i : Int) (j : Int)) true) :
    Calls Tryz.prog 75 #[.pointer (some ⟨bd, 0, none⟩), .int .i64 i, .int .i64 j, .int .i64 k] w fun e w' => e = .returned (.agg #[.int .i64 j, .int .i64 5]) ∧ Below w.heap.size w w' := by
  obtain ⟨hx, hy, ht0, hj, hyp⟩ := h
  have hi : i < s.length := (List.getElem?_eq_some_iff.1 hx).1
  have hj' : j < s.length := (List.getElem?_eq_some_iff.1 hy).1
  have hp : isB s i = true := isB_of (by omega)
  have hn : isB s j = true := isB_of (by omega)
  have h0 := hD.nodesCell
  have hl := hD.lt.1
  have hl2 := hD.lt.2
  obtain ⟨r, hr, ho, hc0, -, -, -⟩ := hD.look hx
  obtain ⟨r', hr', ho', -, -, -, hc3⟩ := hD.look hy
  rw [ht0] at hc0
  have HD : Hid _ := hD.faultAt
  have HU : Hid _ := hU
  have HW : Hid _ := hw
  have hj0 : ((j : Int) == 0) = false := by simp; omega
  clear hD hr ho hx hr' ho' hy ht0 hU hw
  go_enter Tryz.func75, Tryz.ntmps75
  go_wp2_with (first
    | (go_at_call 47; refine (is_at HD.out _).mono ?_; rintro e w' ⟨rfl, rfl⟩)
    | (go_at_call 116; refine (within_at HD.out HU.out _ _ (by omega) HW.out).mono ?_; rintro e w' ⟨rfl, rfl⟩)
    | (go_at_call 48; refine (no_any _ _ _).mono ?_; rintro e w' ⟨rfl, rfl⟩))
  go_returns
  refine ⟨rfl, ?_⟩
  go_grown

set_option maxRecDepth 20000 in
set_option maxHeartbeats 1000000 in
theorem rinsert_index (hD : RDocAt w F bd bn cap rn rv s rs) {ht : Nat → Nat} {B : Nat} (hU : Up s ht B) (i j : Nat) (k : Int) (x y : Nd) (h : InsOk s i j x y) (hw : Lim (fun c => withinF s c (i : Int) (j : Int)) false) (hk : k < 0 ∨ (x.ks.length : Int) < k) :
    Calls Tryz.prog 75 #[.pointer (some ⟨bd, 0, none⟩), .int .i64 i, .int .i64 j, .int .i64 k] w fun e w' => e = .returned (.agg #[.int .i64 i, .int .i64 3]) ∧ Below w.heap.size w w' := by
  obtain ⟨hx, hy, ht0, hj, hyp⟩ := h
  have hi : i < s.length := (List.getElem?_eq_some_iff.1 hx).1
  have hj' : j < s.length := (List.getElem?_eq_some_iff.1 hy).1
  have hp : isB s i = true := isB_of (by omega)
  have hn : isB s j = true := isB_of (by omega)
  have h0 := hD.nodesCell
  have hl := hD.lt.1
  have hl2 := hD.lt.2
  obtain ⟨r, hr, ho, hc0, -, hc2, -⟩ := hD.look hx
  obtain ⟨r', hr', ho', -, -, -, hc3⟩ := hD.look hy
  obtain ⟨a, c, hv⟩ := slice_shape ho.kids
  rw [hv] at hc2
  rw [ht0] at hc0
  have HD : Hid _ := hD.faultAt
  have HU : Hid _ := hU
  have HW : Hid _ := hw
  have hj0 : ((j : Int) == 0) = false := by simp; omega
  clear hD hr ho hx hr' ho' hy ht0 hU hw hv
  rcases hk with hk | hk
  all_goals
    go_enter Tryz.func75, Tryz.ntmps75
    go_wp2_with (first
      | (go_at_call 47; refine (is_at HD.out _).mono ?_; rintro e w' ⟨rfl, rfl⟩)
      | (go_at_call 116; refine (within_at HD.out HU.out _ _ (by omega) HW.out).mono ?_; rintro e w' ⟨rfl, rfl⟩)
      | (go_at_call 48; refine (no_any _ _ _).mono ?_; rintro e w' ⟨rfl, rfl⟩))
    go_returns
    refine ⟨rfl, ?_⟩
    go_grown
end

end Go.Proofs.YtabogkonklplcaaGreatDoor
