import Derived.Test.YtabogkonklplcaaGreatDoorQ04
import Derived.Test.YtabogkonklplcaaGreatDoorQ06
import Derived.Deep.RegionLaw
import Derived.Deep.RegionHeld3
import Derived.Deep.Cut
import Derived.Deep.CutRange

namespace Go.Proofs.YtabogkonklplcaaGreatDoor
open Go.RowKit Go.Extern.Stop Go.Stop Go.Extern
set_option linter.unusedSimpArgs false
set_option linter.unusedVariables false
theorem fa_setR (tb bb : Nat) (n : Int) (y o0 o1 : Value) (W : World) (hy : y.oneCell' = true) (hb0 : W.cell? ⟨bb, 0, none⟩ = some (.int .i64 n)) (hb1 : W.cell? ⟨bb, 1, none⟩ = some y)
    (ht0 : W.cell? ⟨tb, 0, none⟩ = some o0) (ht1 : W.cell? ⟨tb, 1, none⟩ = some o1) (hf0 : W.frozen? ⟨tb, 0, none⟩ = false) (hf1 : W.frozen? ⟨tb, 1, none⟩ = false) :
    (ReflectliteValue.set #[.agg #[.pointer (some ⟨7, 145, none⟩), .pointer (some ⟨tb, 0, none⟩), .int .u64 409], .agg #[.pointer (some ⟨7, 145, none⟩), .pointer (some ⟨bb, 0, none⟩), .int .u64 153]]).run Tryz.prog W
      = .ok (.tuple #[]) ((W.setCell ⟨tb, 0, none⟩ (.int .i64 n)).setCell ⟨tb, 1, none⟩ y) := by
  rw [rls]
  simp only [Sem.run_bind, fa_partsRa, fa_partsRb, Result.andThen]
  simp [ReflectliteValue.flagAddr, loadVar, isAgg, underlying, Tryz.underlying145, hb0, hb1, Result.andThen, fa_dirR, storeVar, Value.cells, storeCells, Addr.add, loadCellsFrom]
  have e1 : (⟨bb, 0, none⟩ : Addr).add 1 = ⟨bb, 1, none⟩ := by rfl
  have hlc : (loadCells ⟨bb, 0, none⟩ 2).run Tryz.prog W = .ok #[.int .i64 n, y] W := by
    simp [loadCells, loadCellsFrom, Addr.add, go_sem, hb0, hb1, Result.andThen]
  rw [hlc]
  simp [storeCells, Addr.add, Sem.run_bind]
  rw [run_store Tryz.prog W ⟨tb, 0, none⟩ _ _ (by rfl)]
  simp [ht0, hf0, Result.andThen]
  have ht1' : (W.setCell ⟨tb, 0, none⟩ (.int .i64 n)).cell? ⟨tb, 1, none⟩ = some o1 := by rw [World.cell?_setCell_other _ _ _ _ (by simp)]; exact ht1
  rw [run_store Tryz.prog _ ⟨tb, 1, none⟩ _ _ hy]
  simp [ht1', hf1]
end Go.Proofs.YtabogkonklplcaaGreatDoor

namespace Go.Proofs.YtabogkonklplcaaGreatDoor
open Go.RowKit
set_option linter.unusedSimpArgs false
set_option linter.unusedVariables false
structure St where
  n : List Nd
  r : List Sp
structure PDT where
  lies : World → (Nat → Prop) → Nat → St → Prop
  ok : St → Prop
instance : CoeFun PDT (fun _ => World → (Nat → Prop) → Nat → St → Prop) := ⟨PDT.lies⟩
abbrev RDocS (w : World) (F : Nat → Prop) (bd : Nat) (s : St) : Prop := RDoc w F bd s.n s.r
structure PDOk (PD : PDT) : Prop where
  keeps : ∀ {w w' : World} {F G : Nat → Prop} {b : Nat} {s : St}, PD w F b s → Keeps G w w' → (∀ b, F b → ¬ G b) → PD w' F b s
  wider : ∀ {w : World} {F G : Nat → Prop} {b : Nat} {s : St}, PD w F b s → (∀ b, F b → G b) → PD w G b s
  narrow : ∀ {w : World} {F : Nat → Prop} {b : Nat} {s : St}, PD w F b s → PD w (fun k => F k ∧ k < w.heap.size) b s
  root : PD.ok ⟨[rootNd], []⟩
def grow (F : Nat → Prop) (w : World) : Nat → Prop := fun b => F b ∨ w.heap.size ≤ b
abbrev ptr (b : Nat) : Value := .pointer (some ⟨b, 0, none⟩)
def PlayAt (w : World) (yb : Nat) (psv : Value) : Prop := ∃ (l0 : Value) (a0 y0 : Int), l0 = errV a0 y0 ∧ w.heap[yb]? = some (.cells #[psv, l0, .int .i64 a0, .int .i64 y0] 34 (0, 0))
abbrev opV (kind D A B C : Int) (S : ByteArray) (p0 p1 q0 q1 : Int) : Value := .agg #[.int .i64 kind, .int .i64 D, .int .i64 A, .int .i64 B, .int .i64 C, .string S, .int .i64 p0, .int .i64 p1, .int .i64 q0, .int .i64 q1]
section
variable {PD : PDT} {G : World → Prop} {FP FR : Nat → Prop} {w : World} {yb bx bd : Nat} {psv : Value} {s : St}
theorem PlayAt.keeps {w w' : World} {F : Nat → Prop} (h : PlayAt w yb psv) (hk : Keeps F w w') (hF : ¬ F yb) : PlayAt w' yb psv := by
  obtain ⟨l0, a0, y0, he, h⟩ := h
  exact ⟨l0, a0, y0, he, (hk.block yb (heap_lt h) hF).trans h⟩
theorem RDoc.narrow {w : World} {F : Nat → Prop} {bd : Nat} {s : List Nd} {rs : List Sp} (h : RDoc w F bd s rs) : RDoc w (fun b => F b ∧ b < w.heap.size) bd s rs := by
  obtain ⟨bn, cap, rn, rv, h⟩ := h
  exact ⟨bn, cap, rn, rv, h.narrow⟩
theorem RDoc.wider {w : World} {F G : Nat → Prop} {bd : Nat} {s : List Nd} {rs : List Sp} (h : RDoc w F bd s rs) (hG : ∀ b, F b → G b) : RDoc w G bd s rs := by
  obtain ⟨bn, cap, rn, rv, h⟩ := h
  exact ⟨bn, cap, rn, rv, h.wider hG⟩
end
end Go.Proofs.YtabogkonklplcaaGreatDoor

namespace Go.Proofs.YtabogkonklplcaaGreatDoor
open Go.RowKit
set_option linter.unusedSimpArgs false
set_option linter.unusedVariables false
structure DocR where
  bx : Nat
  bd : Nat
  s : St
structure Inv (PD : PDT) (Q : Nat → Prop) (w0 w : World) (yb : Nat) (docs : List DocR) (own : Nat → Nat) (psv : Value) : Prop where
  play : PlayAt w yb psv
  row : w.ownsRow 0 44 2 psv docs.length (docs.flatMap fun d => [ptr d.bx, ptr d.bd])
  oy : own yb = 1
  ops : ∀ b, psv.ownBlock = some b → own b = 1 ∧ b ≠ yb
  ol : ∀ b, own b ≠ 0 → Q b ∧ b < w.heap.size
  bl : ∀ b, w.heap.size ≤ b → Q b
  fr : Keeps Q w0 w
  doc : ∀ (i : Nat) (d : DocR), docs[i]? = some d → PD w (fun b => own b = 2 * i + 2) d.bx d.s ∧ RDocS w (fun b => own b = 2 * i + 3) d.bd d.s ∧ PD.ok d.s
def InvE (PD : PDT) (Q : Nat → Prop) (w0 w : World) (yb : Nat) (docs : List DocR) : Prop := ∃ own psv, Inv PD Q w0 w yb docs own psv
section
variable {PD : PDT} {Q : Nat → Prop} {w0 w : World} {yb : Nat} {docs : List DocR} {own : Nat → Nat} {psv : Value}
theorem InvE.below {w' : World} (hPD : PDOk PD) (h : InvE PD Q w0 w yb docs) (hb : Below w.heap.size w w') : InvE PD Q w0 w' yb docs := by
  obtain ⟨own, psv, h⟩ := h
  have hk := Keeps.of_below (F := fun _ => False) hb
  have hz := hb.size
  have hbl := h.bl
  refine ⟨own, psv, h.play.keeps hk (fun e => e), hk.row h.row (fun _ _ e => e), h.oy, h.ops, fun b e => ⟨(h.ol b e).1, by have := (h.ol b e).2; omega⟩, fun b e => hbl b (by omega), h.fr.trans (Keeps.of_below hb), fun i d hd => ?_⟩
  obtain ⟨h1, h2, h3⟩ := h.doc i d hd
  exact ⟨hPD.keeps h1 hk (fun _ _ e => e), h2.keeps hk (fun _ _ e => e), h3⟩
def NewOk (PD : PDT) (G : World → Prop) : Prop := ∀ w : World, G w → Calls Tryz.prog 40 #[] w fun e w' => ∃ bx, e = .returned (ptr bx) ∧ Below w.heap.size w w' ∧ PD w' (fun b => w.heap.size ≤ b) bx ⟨[rootNd], []⟩
theorem wf_root : WF [rootNd] where
  pos := by decide
  cap := by decide
  up := ⟨fun _ => 0, 0, fun _ => Nat.le_refl _, fun i x hx hp => by
    cases i with
    | zero => simp at hx; subst hx; simp [rootNd] at hp
    | succ i => simp at hx⟩
  kid := fun i x hx c hc => by
    cases i with
    | zero => simp at hx; subst hx; simp [rootNd] at hc
    | succ i => simp at hx
  par := fun c y hy => by
    cases c with
    | zero => simp at hy; subst hy; exact .inl rfl
    | succ i => simp at hy
  nodup := fun i x hx => by
    cases i with
    | zero => simp at hx; subst hx; simp [rootNd]
    | succ i => simp at hx
  root := fun x hx => by simp at hx; subst hx; rfl
  elem := fun i x hx => by
    cases i with
    | zero => simp at hx; subst hx; exact ⟨fun h => (by cases h), fun _ => rfl⟩
    | succ i => simp at hx
  chars := fun i x hx => by
    cases i with
    | zero => simp at hx; subst hx; exact ⟨by decide, fun c hc => by simp [rootNd] at hc⟩
    | succ i => simp at hx
end
end Go.Proofs.YtabogkonklplcaaGreatDoor

namespace Go.Proofs.YtabogkonklplcaaGreatDoor
open Go.RowKit
set_option linter.unusedSimpArgs false
set_option linter.unusedVariables false
section
variable {PD : PDT} {Q : Nat → Prop} {w0 w : World} {yb : Nat} {docs : List DocR}
end
end Go.Proofs.YtabogkonklplcaaGreatDoor

namespace Go.Proofs.YtabogkonklplcaaGreatDoor
open Go.RowKit
set_option linter.unusedSimpArgs false
set_option linter.unusedVariables false
section
variable {w : World} {F : Nat → Prop} {bd bn cap : Nat} {rn : List RN} {rv : Value} {s : List Nd} {rs : List Sp}
end
end Go.Proofs.YtabogkonklplcaaGreatDoor
