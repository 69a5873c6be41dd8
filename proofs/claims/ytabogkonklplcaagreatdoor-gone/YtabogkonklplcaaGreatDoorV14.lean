import Derived.Test.YtabogkonklplcaaGreatDoorV08
import Derived.Deep.AppendLies
import Derived.Test.YtabogkonklplcaaGreatDoorV09
import Derived.Test.YtabogkonklplcaaGreatDoorV04

namespace Go.Proofs.YtabogkonklplcaaGreatDoor
open Go.RowKit
set_option linter.unusedSimpArgs false
set_option linter.unusedVariables false
section
variable {PD : PDT} {Q : Nat → Prop} {w0 w : World} {yb : Nat} {docs : List DocR}
end
end Go.Proofs.YtabogkonklplcaaGreatDoor

namespace Go.Proofs.YtabogkonklplcaaGreatDoor
open Go.RowKit
set_option linter.unusedSimpArgs false
set_option linter.unusedVariables false
section
variable {PD : PDT} {Q : Nat → Prop} {w0 w : World} {yb : Nat} {docs : List DocR} {own : Nat → Nat} {psv : Value}
theorem Inv.pushed (hPD : PDOk PD) (h : Inv PD Q w0 w yb docs own psv) {w1 w2 wA w3 : World} {bx bd g' cap' A : Nat} (b1 : Below w.heap.size w w1) (hA : w.heap.size ≤ A) (hA1 : A ≤ w1.heap.size) (pd : PD w1 (fun b => A ≤ b) bx ⟨[rootNd], []⟩)
    (b2 : Below w1.heap.size w1 w2) (rd : RDoc w2 (fun b => w1.heap.size ≤ b) bd [rootNd] []) (bA : Below w2.heap.size w2 wA) (hz : w2.heap.size < wA.heap.size)
    (hg : wA.grownBy w3 psv.ownBlock) (ho : w3.ownsRow 0 44 2 (.slice (some ⟨g', 0, none⟩) (docs.length + 1) cap') (docs.length + 1) ((docs.flatMap fun d => [ptr d.bx, ptr d.bd]) ++ [ptr bx, ptr bd]))
    (hgn : psv.ownBlock = some g' ∨ g' = wA.heap.size) :
    InvE PD Q w0 (w3.setCell ⟨yb, 0, none⟩ (.slice (some ⟨g', 0, none⟩) (docs.length + 1) cap')) yb (docs ++ [⟨bx, bd, ⟨[rootNd], []⟩⟩]) := by
  have z1 := b1.size
  have z2 := b2.size
  have zA := bA.size
  have z3 := hg.size
  have hbl := h.bl
  have hgl : g' < w3.heap.size := (ho.lt g' rfl).2
  have hyb : yb < w.heap.size := (h.ol yb (by rw [h.oy]; decide)).2
  have hps : ∀ b, psv.ownBlock = some b → b < w.heap.size ∧ own b = 1 ∧ b ≠ yb := fun b e => ⟨(h.ol b (by rw [(h.ops b e).1]; decide)).2, h.ops b e⟩
  have hgy : g' ≠ yb := by
    rcases hgn with e | e
    · exact (hps g' e).2.2
    · omega
  have kA : Below w.heap.size w wA := (b1.trans (b2.mono z1)).trans (bA.mono (by omega))
  have k3 : Keeps (fun b => psv.ownBlock = some b) wA w3 := Keeps.grown hg (fun k e => .inl e)
  have kW : Keeps (fun b => psv.ownBlock = some b ∨ b = yb) wA (w3.setCell ⟨yb, 0, none⟩ (.slice (some ⟨g', 0, none⟩) (docs.length + 1) cap')) :=
    (k3.mono (fun k _ e => .inl e)).setCell (p := ⟨yb, 0, none⟩) (.inl (.inr rfl)) _
  have zW : (w3.setCell ⟨yb, 0, none⟩ (.slice (some ⟨g', 0, none⟩) (docs.length + 1) cap')).heap.size = w3.heap.size := by simp
  have newK : ∀ {F : Nat → Prop}, (∀ b, F b → w.heap.size ≤ b) → ∀ b, F b → ¬ (psv.ownBlock = some b ∨ b = yb) := by
    intro F hF b hb e
    have := hF b hb
    rcases e with e | e
    · have := (hps b e).1; omega
    · omega
  refine ⟨fun b => if w.heap.size ≤ b then (if b = g' then 1 else if b < A then 0 else if b < w1.heap.size then 2 * docs.length + 2 else if b < w2.heap.size then 2 * docs.length + 3 else 0) else own b, .slice (some ⟨g', 0, none⟩) (docs.length + 1) cap', ?_⟩
  have hg2 : g' < w.heap.size ∨ w2.heap.size ≤ g' := by
    rcases hgn with e | e
    · exact .inl (hps g' e).1
    · exact .inr (by omega)
  refine ⟨?_, ?_, ?_, ?_, ?_, ?_, ?_, ?_⟩
  · obtain ⟨l0, a0, y0, he, hq⟩ := h.play
    have e1 : w3.heap[yb]? = _ := (k3.block yb (by omega) (fun e => (hps yb e).2.2 rfl)).trans ((kA.block yb hyb).trans hq)
    refine ⟨l0, a0, y0, he, ?_⟩
    rw [heap_setCell_same w3 yb 0 _ _ _ e1]; simp
  · rw [List.length_append, List.flatMap_append]
    simpa using row_setCell_other ho (p := ⟨yb, 0, none⟩) (by simp [Value.ownBlock]; exact hgy) _
  · rw [if_neg (by omega)]; exact h.oy
  · intro b e
    have e' : g' = b := by simpa [Value.ownBlock] using e
    subst e'
    refine ⟨?_, hgy⟩
    rcases hgn with e | e
    · have := hps g' e
      rw [if_neg (by omega)]; exact this.2.1
    · rw [if_pos (by omega), if_pos rfl]
  · intro b e
    rw [zW]
    split at e
    · refine ⟨hbl b (by omega), ?_⟩
      split at e
      · rename_i hb; rw [hb]; exact hgl
      · split at e
        · exact absurd rfl e
        · split at e
          · omega
          · split at e
            · omega
            · exact absurd rfl e
    · have := h.ol b e
      exact ⟨this.1, by omega⟩
  · intro b e; rw [zW] at e; exact hbl b (by omega)
  · refine (h.fr.trans (Keeps.of_below kA)).trans (kW.mono (fun k _ e => .inl ?_))
    rcases e with e | e
    · exact (h.ol k (by rw [(h.ops k e).1]; decide)).1
    · rw [e]; exact (h.ol yb (by rw [h.oy]; decide)).1
  · intro i d hd
    by_cases hi : i < docs.length
    · rw [List.getElem?_append_left hi] at hd
      obtain ⟨h1, h2, h3⟩ := h.doc i d hd
      have kA' := Keeps.of_below (F := fun _ => False) kA
      refine ⟨hPD.wider (hPD.keeps (hPD.keeps h1 kA' (fun _ _ e => e)) kW (fun b hb e => ?_)) (fun b hb => ?_), ((h2.keeps kA' (fun _ _ e => e)).keeps kW (fun b hb e => ?_)).wider (fun b hb => ?_), h3⟩
      · rcases e with e | e
        · have := (hps b e).2.1; omega
        · rw [e, h.oy] at hb; omega
      · have := (h.ol b (by omega)).2
        rw [if_neg (by omega)]; exact hb
      · rcases e with e | e
        · have := (hps b e).2.1; omega
        · rw [e, h.oy] at hb; omega
      · have := (h.ol b (by omega)).2
        rw [if_neg (by omega)]; exact hb
    · rw [List.getElem?_append_right (by omega)] at hd
      have hi1 := (List.getElem?_eq_some_iff.1 hd).1
      simp at hi1
      have ei : i = docs.length := by omega
      subst ei
      simp at hd
      subst hd
      have p1 := hPD.narrow pd
      have p2 := hPD.keeps p1 (Keeps.of_below (F := fun _ => False) b2) (fun _ _ e => e)
      have p3 := hPD.keeps p2 (Keeps.of_below (F := fun _ => False) bA) (fun _ _ e => e)
      have p4 := hPD.keeps p3 kW (newK (fun b hb => by omega))
      have r1 := rd.narrow
      have r2 := r1.keeps (Keeps.of_below (F := fun _ => False) bA) (fun _ _ e => e)
      have r3 := r2.keeps kW (newK (fun b hb => by omega))
      refine ⟨hPD.wider p4 (fun b hb => ?_), r3.wider (fun b hb => ?_), hPD.root⟩
      · rw [if_pos (by omega), if_neg (by omega), if_neg (by omega), if_pos (by omega)]
      · rw [if_pos (by omega), if_neg (by omega), if_neg (by omega), if_neg (by omega), if_pos (by omega)]
end
section
variable {PD : PDT} {G : World → Prop} {Q : Nat → Prop} {w0 w : World} {yb : Nat} {docs : List DocR}
end
end Go.Proofs.YtabogkonklplcaaGreatDoor

namespace Go.Proofs.YtabogkonklplcaaGreatDoor
open Go.RowKit
set_option linter.unusedSimpArgs false
set_option linter.unusedVariables false
structure OpR where
  kind : Int
  D : Int
  A : Int
  B : Int
  C : Int
  S : ByteArray
  p0 : Int
  p1 : Int
  q0 : Int
  q1 : Int
abbrev OpR.cells (o : OpR) : List Value := [.int .i64 o.kind, .int .i64 o.D, .int .i64 o.A, .int .i64 o.B, .int .i64 o.C, .string o.S, .int .i64 o.p0, .int .i64 o.p1, .int .i64 o.q0, .int .i64 o.q1]
abbrev OpR.val (o : OpR) : Value := opV o.kind o.D o.A o.B o.C o.S o.p0 o.p1 o.q0 o.q1
end Go.Proofs.YtabogkonklplcaaGreatDoor

namespace Go.Proofs.YtabogkonklplcaaGreatDoor
open Go.RowKit
set_option linter.unusedSimpArgs false
set_option linter.unusedVariables false
end Go.Proofs.YtabogkonklplcaaGreatDoor

namespace Go.Proofs.YtabogkonklplcaaGreatDoor
open Go.RowKit
set_option linter.unusedSimpArgs false
set_option linter.unusedVariables false
theorem spcells_get (rs : List Sp) (i : Nat) (x : Sp) (h : rs[i]? = some x) (j : Nat) (hj : j < 4) : (rs.flatMap Sp.cells)[i * 4 + j]? = x.cells[j]? := by
  induction rs generalizing i with
  | nil => simp at h
  | cons a l ih =>
    cases i with
    | zero =>
      simp at h; subst h
      rw [List.flatMap_cons, Nat.zero_mul, Nat.zero_add, List.getElem?_append_left (by simpa [Sp.cells] using hj)]
    | succ i =>
      have e : (i + 1) * 4 + j = (i * 4 + j) + 4 := by omega
      rw [e, List.flatMap_cons, List.getElem?_append_right (by simp [Sp.cells])]
      simpa [Sp.cells] using ih i (by simpa using h)
section
variable {w : World} {F : Nat → Prop} {bd bn cap : Nat} {rn : List RN} {rv : Value} {s : List Nd} {rs : List Sp}
end
end Go.Proofs.YtabogkonklplcaaGreatDoor

namespace Go.Proofs.YtabogkonklplcaaGreatDoor
open Go.RowKit
set_option linter.unusedSimpArgs false
set_option linter.unusedVariables false
abbrev spV (x : Sp) : Value := .agg #[.int .i64 x.a, .int .i64 x.b, .int .i64 x.c, .int .i64 x.d]
abbrev sp0 (w : World) : World := (w.alloc (.cells #[.int .i64 0, .int .i64 0, .int .i64 0, .int .i64 0] 79)).alloc (.cells #[.int .i64 0, .int .i64 0] 32)
section
variable {w : World} {F : Nat → Prop} {bd bn cap : Nat} {rn : List RN} {rv : Value} {s : List Nd} {rs : List Sp}
end
end Go.Proofs.YtabogkonklplcaaGreatDoor

namespace Go.Proofs.YtabogkonklplcaaGreatDoor
open Go.RowKit
set_option linter.unusedSimpArgs false
set_option linter.unusedVariables false
theorem Tryz.info79 : (Tryz.prog.info? 79).map (fun i => (i.zero, i.size, i.bytes)) = some (some (.agg #[.int .i64 0, .int .i64 0, .int .i64 0, .int .i64 0]), 4, 32) := by kernel_rfl
section
variable {w : World} {F : Nat → Prop} {bd bn cap : Nat} {rn : List RN} {rv : Value} {s : List Nd} {rs : List Sp}
end
end Go.Proofs.YtabogkonklplcaaGreatDoor

namespace Go.Proofs.YtabogkonklplcaaGreatDoor
open Go.RowKit Go.Extern.Stop Go.Stop Go.Extern
set_option linter.unusedSimpArgs false
set_option linter.unusedVariables false
end Go.Proofs.YtabogkonklplcaaGreatDoor
