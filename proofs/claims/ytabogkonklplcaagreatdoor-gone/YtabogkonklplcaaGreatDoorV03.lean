import Derived.WalkKit
import Derived.WalkSpells
import Derived.Test.YtabogkonklplcaaGreatDoorRows
import Derived.WalkLawsBesides
import Derived.Handy
import Derived.Deep.QuietTactic
import Derived.BigQuiet
import Derived.Laws.AppendOwnNone

namespace Go.Proofs.YtabogkonklplcaaGreatDoor
open Go.RowKit
set_option linter.unusedSimpArgs false
set_option linter.unusedVariables false
structure Nd where
  t : Bool
  cs : List ByteArray
  ks : List Nat
  p : Int
def lots : Nat := 2000000
theorem hid {p : Prop} (h : p) : Hid p := h
structure Keeps (F : Nat → Prop) (w w' : World) : Prop where
  os : w'.os = w.os
  tape : w'.tape = w.tape
  output : w'.output = w.output
  size : w.heap.size ≤ w'.heap.size
  block : ∀ k, k < w.heap.size → ¬ F k → w'.heap[k]? = w.heap[k]?
theorem Keeps.refl (F : Nat → Prop) (w : World) : Keeps F w w := ⟨rfl, rfl, rfl, Nat.le_refl _, fun _ _ _ => rfl⟩
theorem Keeps.trans {F : Nat → Prop} {a b c : World} (h : Keeps F a b) (k : Keeps (fun x => F x ∨ a.heap.size ≤ x) b c) : Keeps F a c :=
  ⟨k.os.trans h.os, k.tape.trans h.tape, k.output.trans h.output, Nat.le_trans h.size k.size,
    fun i hi hF => (k.block i (Nat.lt_of_lt_of_le hi h.size) (fun e => e.elim hF (fun e => by omega))).trans (h.block i hi hF)⟩
theorem Keeps.mono {F G : Nat → Prop} {a b : World} (h : Keeps F a b) (hFG : ∀ k, k < a.heap.size → F k → G k) : Keeps G a b :=
  ⟨h.os, h.tape, h.output, h.size, fun k hk hG => h.block k hk (fun e => hG (hFG k hk e))⟩
theorem Keeps.of_below {F : Nat → Prop} {a b : World} (h : Below a.heap.size a b) : Keeps F a b :=
  ⟨h.os, h.tape, h.output, h.size, fun k hk _ => h.block k hk⟩
theorem Keeps.below {a b : World} (h : Keeps (fun _ => False) a b) : Below a.heap.size a b :=
  ⟨h.os, h.tape, h.output, h.size, fun k hk => h.block k hk (fun e => e)⟩
theorem Keeps.grown {F : Nat → Prop} {a b : World} {row : Option Nat} (h : a.grownBy b row) (hr : ∀ k, row = some k → F k ∨ a.heap.size ≤ k) : Keeps F a b :=
  ⟨h.os, h.tape, h.output, h.size, fun k hk hF => h.block k hk (fun e => (hr k e.symm).elim hF (fun e => by omega))⟩
theorem Keeps.setCell {F : Nat → Prop} {a w : World} (h : Keeps F a w) {p : Addr} (hp : F p.block ∨ a.heap.size ≤ p.block) (u : Value) : Keeps F a (w.setCell p u) :=
  h.trans ⟨rfl, rfl, rfl, by simp [World.setCell], fun k hk hF => Below.heap_setCell _ _ _ _ (fun e => hF (e ▸ hp))⟩
theorem Keeps.alloc {F : Nat → Prop} {a w : World} (h : Keeps F a w) (o : Obj) : Keeps F a (w.alloc o) :=
  h.trans ⟨rfl, rfl, rfl, by simp, fun k hk _ => Below.heap_alloc _ _ _ hk⟩
theorem Keeps.drew {F : Nat → Prop} {a w : World} (h : Keeps F a w) : Keeps F a w.drew := ⟨h.os, h.tape, h.output, h.size, h.block⟩
theorem Keeps.cell {F : Nat → Prop} {w w' : World} (h : Keeps F w w') {p : Addr} {v : Value} (hv : w.cell? p = some v) (hp : ¬ F p.block) : w'.cell? p = some v :=
  (World.cell?_of_block (w := w) (h.block p.block (World.block_lt_of_cell? w p hv) hp)).trans hv
theorem heap_lt {w : World} {b : Nat} {o : Obj} (h : w.heap[b]? = some o) : b < w.heap.size := (Array.getElem?_eq_some_iff.1 h).1
theorem Keeps.row {F : Nat → Prop} {w w' : World} (h : Keeps F w w') {e : TypeId} {z n : Nat} {v : Value} {xs : List Value} (hr : w.ownsRow 0 e z v n xs) (hv : ∀ b, v.ownBlock = some b → ¬ F b) : w'.ownsRow 0 e z v n xs := by
  refine ⟨hr.1, ?_⟩
  rcases hr.2 with hn | ⟨g, cap, cur, rfl, hb, hgg, rest⟩
  · exact .inl hn
  · refine .inr ⟨g, cap, cur, rfl, hb, ?_, rest⟩
    rw [h.block g (heap_lt hgg) (hv g rfl)]
    exact hgg
structure RN where
  t : Bool
  cv : Value
  kv : Value
  p : Int
def RN.cells (r : RN) : List Value := [.bool r.t, r.cv, r.kv, .int .i64 r.p]
theorem cells_get (rn : List RN) (i : Nat) (r : RN) (h : rn[i]? = some r) (j : Nat) (hj : j < 4) : (rn.flatMap RN.cells)[i * 4 + j]? = r.cells[j]? := by
  induction rn generalizing i with
  | nil => simp at h
  | cons a l ih =>
    cases i with
    | zero =>
      simp at h; subst h
      rw [List.flatMap_cons, Nat.zero_mul, Nat.zero_add, List.getElem?_append_left (by simpa [RN.cells] using hj)]
    | succ i =>
      have e : (i + 1) * 4 + j = (i * 4 + j) + 4 := by omega
      rw [e, List.flatMap_cons, List.getElem?_append_right (by simp [RN.cells])]
      simpa [RN.cells] using ih i (by simpa using h)
theorem cells_set (rn : List RN) (i : Nat) (r r' : RN) (h : rn[i]? = some r) (j : Nat) (hj : j < 4) (u : Value) (he : r'.cells = r.cells.set j u) :
    (rn.flatMap RN.cells).set (i * 4 + j) u = (rn.set i r').flatMap RN.cells := by
  induction rn generalizing i with
  | nil => simp at h
  | cons a l ih =>
    cases i with
    | zero =>
      simp at h; subst h
      simp only [List.flatMap_cons, List.set_cons_zero, Nat.zero_mul, Nat.zero_add]
      rw [List.set_append_left _ _ (by simpa [RN.cells] using hj), ← he]
    | succ i =>
      have e : (i + 1) * 4 + j = (i * 4 + j) + 4 := by omega
      simp only [List.flatMap_cons, List.set_cons_succ]
      rw [e, List.set_append_right _ _ (by simp [RN.cells])]
      congr 1
      simpa [RN.cells] using ih i (by simpa using h)
structure Sp where
  a : Int
  b : Int
  c : Int
  d : Int
def Sp.cells (r : Sp) : List Value := [.int .i64 r.a, .int .i64 r.b, .int .i64 r.c, .int .i64 r.d]
def intsV (l : List Nat) : List Value := l.map fun (k : Nat) => Value.int .i64 (k : Int)
def strsV (l : List ByteArray) : List Value := l.map Value.string
@[simp] theorem intsV_length (l : List Nat) : (intsV l).length = l.length := by simp [intsV]
@[simp] theorem strsV_length (l : List ByteArray) : (strsV l).length = l.length := by simp [strsV]
structure NOk (w : World) (F : Nat → Prop) (bd bn : Nat) (rv : Value) (r : RN) (x : Nd) : Prop where
  t : r.t = x.t
  p : r.p = x.p
  chars : w.ownsRow 0 9 1 r.cv x.cs.length (strsV x.cs)
  kids : w.ownsRow 0 3 1 r.kv x.ks.length (intsV x.ks)
  apartC : ∀ b, r.cv.ownBlock = some b → F b ∧ b ≠ bd ∧ b ≠ bn ∧ rv.ownBlock ≠ some b
  apartK : ∀ b, r.kv.ownBlock = some b → F b ∧ b ≠ bd ∧ b ≠ bn ∧ rv.ownBlock ≠ some b
structure RDocAt (w : World) (F : Nat → Prop) (bd bn cap : Nat) (rn : List RN) (rv : Value) (s : List Nd) (rs : List Sp) : Prop where
  doc : w.heap[bd]? = some (.cells #[.slice (some ⟨bn, 0, none⟩) rn.length cap, rv] 123 (0, 0))
  nodes : w.ownsRow 0 119 4 (.slice (some ⟨bn, 0, none⟩) rn.length cap) rn.length (rn.flatMap RN.cells)
  ranges : w.ownsRow 0 79 4 rv rs.length (rs.flatMap Sp.cells)
  Fd : F bd
  Fn : F bn
  ne : bd ≠ bn
  apart : ∀ b, rv.ownBlock = some b → F b ∧ b ≠ bd ∧ b ≠ bn
  len : rn.length = s.length
  ok : ∀ (i : Nat) (r : RN) (x : Nd), rn[i]? = some r → s[i]? = some x → NOk w F bd bn rv r x
def RDoc (w : World) (F : Nat → Prop) (bd : Nat) (s : List Nd) (rs : List Sp) : Prop := ∃ bn cap rn rv, RDocAt w F bd bn cap rn rv s rs
section
variable {w : World} {F : Nat → Prop} {bd bn cap : Nat} {rn : List RN} {rv : Value} {s : List Nd} {rs : List Sp}
theorem cell_of_heap {w : World} {b : Nat} {c : Array Value} {t : TypeId} {fr : Nat × Nat} (h : w.heap[b]? = some (.cells c t fr)) (j : Nat) : w.cell? ⟨b, j, none⟩ = c[j]? := by
  simp [World.cell?, h]
theorem frozen_of_heap {w : World} {b : Nat} {c : Array Value} {t : TypeId} (h : w.heap[b]? = some (.cells c t (0, 0))) (j : Nat) : w.frozen? ⟨b, j, none⟩ = false := by
  simp [World.frozen?, h]
theorem RDocAt.nodesCell (h : RDocAt w F bd bn cap rn rv s rs) : w.cell? ⟨bd, 0, none⟩ = some (.slice (some ⟨bn, 0, none⟩) s.length cap) := by
  rw [cell_of_heap h.doc, ← h.len]; rfl
theorem RDocAt.raw (h : RDocAt w F bd bn cap rn rv s rs) {i : Nat} {x : Nd} (hx : s[i]? = some x) : ∃ r, rn[i]? = some r ∧ NOk w F bd bn rv r x := by
  have hi : i < rn.length := by rw [h.len]; exact (List.getElem?_eq_some_iff.1 hx).1
  exact ⟨rn[i], List.getElem?_eq_getElem hi, h.ok i _ x (List.getElem?_eq_getElem hi) hx⟩
theorem RDocAt.cellAt (h : RDocAt w F bd bn cap rn rv s rs) {i : Nat} {r : RN} (hr : rn[i]? = some r) (j : Nat) (hj : j < 4) : w.cell? ⟨bn, i * 4 + j, none⟩ = r.cells[j]? := by
  have hi := (List.getElem?_eq_some_iff.1 hr).1
  rw [h.nodes.cellAt (i * 4 + j) (by omega), cells_get rn i r hr j hj]
theorem RDocAt.look (h : RDocAt w F bd bn cap rn rv s rs) {i : Nat} {x : Nd} (hx : s[i]? = some x) : ∃ r, rn[i]? = some r ∧ NOk w F bd bn rv r x ∧
    w.cell? ⟨bn, i * 4, none⟩ = some (.bool x.t) ∧ w.cell? ⟨bn, i * 4 + 1, none⟩ = some r.cv ∧ w.cell? ⟨bn, i * 4 + 2, none⟩ = some r.kv ∧ w.cell? ⟨bn, i * 4 + 3, none⟩ = some (.int .i64 x.p) := by
  obtain ⟨r, hr, ho⟩ := h.raw hx
  have h0 := h.cellAt hr 0 (by omega)
  have h1 := h.cellAt hr 1 (by omega)
  have h2 := h.cellAt hr 2 (by omega)
  have h3 := h.cellAt hr 3 (by omega)
  refine ⟨r, hr, ho, ?_, ?_, ?_, ?_⟩
  · simpa [RN.cells, ho.t] using h0
  · simpa [RN.cells] using h1
  · simpa [RN.cells] using h2
  · simpa [RN.cells, ho.p] using h3
theorem RDocAt.lt (h : RDocAt w F bd bn cap rn rv s rs) : bd < w.heap.size ∧ bn < w.heap.size :=
  ⟨heap_lt h.doc, (h.nodes.lt bn rfl).2⟩
theorem RDocAt.keeps {G : Nat → Prop} {w' : World} (h : RDocAt w F bd bn cap rn rv s rs) (hk : Keeps G w w') (hG : ∀ b, F b → ¬ G b) : RDocAt w' F bd bn cap rn rv s rs where
  doc := by rw [hk.block bd (heap_lt h.doc) (hG _ h.Fd)]; exact h.doc
  nodes := hk.row h.nodes (fun b e => by cases e; exact hG _ h.Fn)
  ranges := hk.row h.ranges (fun b e => hG _ (h.apart b e).1)
  Fd := h.Fd
  Fn := h.Fn
  ne := h.ne
  apart := h.apart
  len := h.len
  ok := fun i r x hr hx =>
    have o := h.ok i r x hr hx
    ⟨o.t, o.p, hk.row o.chars (fun b e => hG _ (o.apartC b e).1), hk.row o.kids (fun b e => hG _ (o.apartK b e).1), o.apartC, o.apartK⟩
theorem RDocAt.below {w' : World} (h : RDocAt w F bd bn cap rn rv s rs) (hk : Below w.heap.size w w') : RDocAt w' F bd bn cap rn rv s rs :=
  h.keeps (Keeps.of_below (F := fun _ => False) hk) (fun _ _ e => e)
theorem RDoc.keeps {G : Nat → Prop} {w' : World} (h : RDoc w F bd s rs) (hk : Keeps G w w') (hG : ∀ b, F b → ¬ G b) : RDoc w' F bd s rs := by
  obtain ⟨bn, cap, rn, rv, h⟩ := h
  exact ⟨bn, cap, rn, rv, h.keeps hk hG⟩
theorem RDocAt.wider {G : Nat → Prop} (h : RDocAt w F bd bn cap rn rv s rs) (hG : ∀ b, F b → G b) : RDocAt w G bd bn cap rn rv s rs where
  doc := h.doc
  nodes := h.nodes
  ranges := h.ranges
  Fd := hG _ h.Fd
  Fn := hG _ h.Fn
  ne := h.ne
  apart := fun b e => ⟨hG _ (h.apart b e).1, (h.apart b e).2⟩
  len := h.len
  ok := fun i r x hr hx =>
    have o := h.ok i r x hr hx
    ⟨o.t, o.p, o.chars, o.kids, fun b e => ⟨hG _ (o.apartC b e).1, (o.apartC b e).2⟩, fun b e => ⟨hG _ (o.apartK b e).1, (o.apartK b e).2⟩⟩
end
end Go.Proofs.YtabogkonklplcaaGreatDoor

namespace Go.Proofs.YtabogkonklplcaaGreatDoor
set_option linter.unusedSimpArgs false
set_option linter.unusedVariables false
def Lim {α : Type} (f : Nat → α) (b : α) : Prop := ∃ K, ∀ k, K ≤ k → f k = b
theorem Lim.unique {α : Type} {f : Nat → α} {a b : α} (h : Lim f a) (g : Lim f b) : a = b := by
  obtain ⟨K, h⟩ := h
  obtain ⟨L, g⟩ := g
  rw [← h (max K L) (Nat.le_max_left _ _), g (max K L) (Nat.le_max_right _ _)]
theorem Lim.succ {α : Type} {f : Nat → α} {b : α} (h : Lim (fun k => f (k + 1)) b) : Lim f b := by
  obtain ⟨K, h⟩ := h
  exact ⟨K + 1, fun k hk => by obtain ⟨j, rfl⟩ : ∃ j, k = j + 1 := ⟨k - 1, by omega⟩; exact h j (by omega)⟩
def parOf (s : List Nd) (i : Nat) : Int := match s[i]? with | some x => x.p | none => -1
def withinF (s : List Nd) : Nat → Int → Int → Bool
  | 0, _, _ => false
  | k + 1, n, o => if n < 0 then false else if n = o then true else withinF s k (parOf s n.toNat) o
structure Up (s : List Nd) (h : Nat → Nat) (B : Nat) : Prop where
  le : ∀ i, h i ≤ B
  par : ∀ (i : Nat) (x : Nd), s[i]? = some x → 0 ≤ x.p → x.p < (s.length : Int) ∧ h i < h x.p.toNat
def upMeas (h : Nat → Nat) (B : Nat) (n : Int) : Nat := if 0 ≤ n then B + 1 - h n.toNat else 0
theorem upMeas_lt {s : List Nd} {h : Nat → Nat} {B : Nat} (u : Up s h B) {i : Nat} {x : Nd} (hx : s[i]? = some x) : upMeas h B x.p < upMeas h B (i : Int) := by
  unfold upMeas
  have h1 := u.le i
  rw [if_pos (Int.natCast_nonneg i)]
  have e : ((i : Int)).toNat = i := by simp
  rw [e]
  by_cases hp : 0 ≤ x.p
  · rw [if_pos hp]
    have := (u.par i x hx hp).2
    have h2 := u.le x.p.toNat
    omega
  · rw [if_neg hp]; omega
theorem within_end (s : List Nd) (n o : Int) (hn : n < 0) : Lim (fun k => withinF s k n o) false :=
  Lim.succ ⟨0, fun k _ => by simp [withinF, hn]⟩
theorem within_hit (s : List Nd) (n : Int) (hn : 0 ≤ n) : Lim (fun k => withinF s k n n) true :=
  Lim.succ ⟨0, fun k _ => by simp [withinF]; omega⟩
theorem within_up (s : List Nd) (i : Nat) (x : Nd) (o : Int) (hx : s[i]? = some x) (ho : ¬ (i : Int) = o) {b : Bool} (h : Lim (fun k => withinF s k x.p o) b) : Lim (fun k => withinF s k (i : Int) o) b := by
  refine Lim.succ ?_
  obtain ⟨K, h⟩ := h
  refine ⟨K, fun k hk => ?_⟩
  have e : parOf s ((i : Int)).toNat = x.p := by simp [parOf, hx]
  have hi : ¬ (i : Int) < 0 := by omega
  simp only [withinF, hi, ho, if_false, e]
  exact h k hk
end Go.Proofs.YtabogkonklplcaaGreatDoor

namespace Go.Proofs.YtabogkonklplcaaGreatDoor
open Go.RowKit
set_option linter.unusedSimpArgs false
set_option linter.unusedVariables false
def Drawn (w w' : World) : Prop := ∃ n, w' = w.drewN n
theorem row_cases {w : World} {e : TypeId} {z : Nat} {v : Value} {n : Nat} {xs : List Value} (h : w.ownsRow 0 e z v n xs) : (v = .slice none 0 0 ∧ n = 0) ∨ ∃ g cap, v = .slice (some ⟨g, 0, none⟩) n cap := by
  rcases h.2 with h | ⟨g, cap, cur, hv, _⟩
  · exact .inl h
  · exact .inr ⟨g, cap, hv⟩
section
variable {w : World} {F : Nat → Prop} {bd bn cap : Nat} {rn : List RN} {rv : Value} {s : List Nd} {rs : List Sp}
end
end Go.Proofs.YtabogkonklplcaaGreatDoor

namespace Go.Proofs.YtabogkonklplcaaGreatDoor
open Go.RowKit
set_option linter.unusedSimpArgs false
set_option linter.unusedVariables false
theorem Tryz.sizeOf3 (w : World) : (sizeOf 3).run Tryz.prog w = .ok 1 w := by kernel_rfl
end Go.Proofs.YtabogkonklplcaaGreatDoor
