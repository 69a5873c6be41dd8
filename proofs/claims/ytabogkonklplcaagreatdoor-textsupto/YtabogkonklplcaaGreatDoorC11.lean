import Derived.Test.YtabogkonklplcaaGreatDoorC10
import Derived.Deep.RegionLaw
import Derived.Deep.RegionHeld3
import Derived.Deep.Cut
import Derived.Deep.CutRange
import Derived.Deep.AppendLies

/- marginlaw's step: one step of a script. -/
namespace Go.Proofs.YtabogkonklplcaaGreatDoor
open Go.RowKit
set_option linter.unusedSimpArgs false
set_option linter.unusedVariables false

/-- A pair: the program's document, the document's own, the state of both. -/
structure DocR where
  bx : Nat
  bd : Nat
  s : St

/-- What is played, in memory: whose block is whose ('own': 1 the play's, 2i + 2 the program's document i, 2i + 3 the document's own i, 0 nobody's); all of it lies where Q lets things turn, and nothing else has turned since w0. -/
structure Inv (PD : PDT) (Q : Nat → Prop) (w0 w : World) (yb : Nat) (docs : List DocR) (own : Nat → Nat) (psv : Value) : Prop where
  play : PlayAt w yb psv
  row : w.ownsRow 0 44 2 psv docs.length (docs.flatMap fun d => [ptr d.bx, ptr d.bd])
  oy : own yb = 1
  ops : ∀ b, psv.ownBlock = some b → own b = 1 ∧ b ≠ yb
  ol : ∀ b, own b ≠ 0 → Q b ∧ b < w.heap.size
  bl : ∀ b, w.heap.size ≤ b → Q b
  fr : Keeps Q w0 w
  doc : ∀ (i : Nat) (d : DocR), docs[i]? = some d → PD w (fun b => own b = 2 * i + 2) d.bx d.s ∧ RDocS w (fun b => own b = 2 * i + 3) d.bd d.s ∧ PD.ok d.s

def InvE (PD : PDT) (Q : Nat → Prop) (w0 w : World) (yb : Nat) (docs : List DocR) : Prop := ∃ own psv, Inv PD Q w0 w yb docs own psv

/-- What a step must have left. -/
def StepPost (PD : PDT) (Q : Nat → Prop) (w0 : World) (yb : Nat) (m n : Nat) (e : Ending) (w' : World) : Prop := e = .returned (.bool true) ∧ ∃ docs, InvE PD Q w0 w' yb docs ∧ m ≤ docs.length ∧ docs.length ≤ n

theorem pairs_length (docs : List DocR) : (docs.flatMap fun d => [ptr d.bx, ptr d.bd]).length = docs.length * 2 := by
  induction docs with
  | nil => rfl
  | cons d l ih => simp [ih]; omega
theorem pairs_get (docs : List DocR) (i : Nat) (d : DocR) (h : docs[i]? = some d) : (docs.flatMap fun d => [ptr d.bx, ptr d.bd])[i * 2]? = some (ptr d.bx) ∧ (docs.flatMap fun d => [ptr d.bx, ptr d.bd])[i * 2 + 1]? = some (ptr d.bd) := by
  induction docs generalizing i with
  | nil => simp at h
  | cons a l ih =>
    cases i with
    | zero => simp at h; subst h; simp
    | succ i =>
      have := ih i (by simpa using h)
      have e1 : (i + 1) * 2 = i * 2 + 1 + 1 := by omega
      have e2 : (i + 1) * 2 + 1 = i * 2 + 1 + 1 + 1 := by omega
      rw [e2, e1]
      simpa using this
theorem pairs_set (docs : List DocR) (i : Nat) (d d' : DocR) (h : docs[i]? = some d) (hx : d'.bx = d.bx) (hd : d'.bd = d.bd) : ((docs.set i d').flatMap fun d => [ptr d.bx, ptr d.bd]) = (docs.flatMap fun d => [ptr d.bx, ptr d.bd]) := by
  induction docs generalizing i with
  | nil => simp at h
  | cons a l ih =>
    cases i with
    | zero => simp at h; subst h; simp [hx, hd]
    | succ i => simp [ih i (by simpa using h)]

section
variable {PD : PDT} {Q : Nat → Prop} {w0 w : World} {yb : Nat} {docs : List DocR} {own : Nat → Nat} {psv : Value}

theorem InvE.below {w' : World} (hPD : PDOk PD) (h : InvE PD Q w0 w yb docs) (hb : Below w.heap.size w w') : InvE PD Q w0 w' yb docs := by
  obtain ⟨own, psv, h⟩ := h
  have hk := Keeps.of_below (F := fun _ => False) hb
  have hz := hb.size
  have hbl := h.bl
  refine ⟨own, psv, h.play.keeps hk (fun e => e), hk.row h.row (fun _ _ e => e), h.oy, h.ops, fun b e => ⟨(h.ol b e).1, by have := (h.ol b e).2; omega⟩, fun b e => hbl b (by omega), h.fr.trans (Keeps.of_below hb), fun i d hd => ?_⟩
  obtain ⟨h1, h2, h3⟩ := h.doc i d hd
  exact ⟨hPD.keeps h1 hk (fun _ _ e => e), h2.keeps hk (fun _ _ e => e), h3⟩

/-- The pair that a step is played on. -/
theorem Inv.pair (h : Inv PD Q w0 w yb docs own psv) {i : Nat} {d : DocR} (hd : docs[i]? = some d) : PairAt PD (fun b => own b = 2 * i + 2) (fun b => own b = 2 * i + 3) w yb d.bx d.bd psv d.s := by
  obtain ⟨h1, h2, h3⟩ := h.doc i d hd
  have hy := h.oy
  exact ⟨h.play, h1, h2, fun b e1 e2 => by omega, by omega, by omega, fun b e => (h.ol b (by omega)).2, fun b e => (h.ol b (by omega)).2⟩

/-- Behind a step on one pair. -/
theorem Inv.stepped (hPD : PDOk PD) (h : Inv PD Q w0 w yb docs own psv) {i : Nat} {d : DocR} (hd : docs[i]? = some d) {e : Ending} {w' : World} (hp : PairPost PD (fun b => own b = 2 * i + 2) (fun b => own b = 2 * i + 3) w yb d.bx d.bd psv e w') :
    StepPost PD Q w0 yb docs.length docs.length e w' := by
  obtain ⟨rfl, m, s', hm1, hm2, hwf, hk, hpl, hpd, hrd⟩ := hp
  have hbl := h.bl
  have hi := (List.getElem?_eq_some_iff.1 hd).1
  refine ⟨rfl, docs.set i ⟨d.bx, d.bd, s'⟩, ⟨fun b => if w.heap.size ≤ b then (if b < m then 2 * i + 2 else if b < w'.heap.size then 2 * i + 3 else 0) else own b, psv, ?_⟩, by simp, by simp⟩
  have hyb : yb < w.heap.size := (h.ol yb (by rw [h.oy]; decide)).2
  refine ⟨hpl, ?_, ?_, ?_, ?_, fun b e => hbl b (by omega), ?_, ?_⟩
  · rw [List.length_set, pairs_set docs i d ⟨d.bx, d.bd, s'⟩ hd rfl rfl]
    refine hk.row h.row (fun b e => ?_)
    have := h.ops b e
    omega
  · rw [if_neg (by omega)]; exact h.oy
  · intro b e
    have h1 := h.ops b e
    have h2 := (h.ol b (by omega)).2
    exact ⟨by rw [if_neg (by omega)]; exact h1.1, h1.2⟩
  · intro b e
    split at e
    · split at e
      · exact ⟨hbl b (by omega), by omega⟩
      · split at e
        · exact ⟨hbl b (by omega), by omega⟩
        · exact absurd rfl e
    · have := h.ol b e
      exact ⟨this.1, by omega⟩
  · refine h.fr.trans (hk.mono (fun k _ e => .inl ?_))
    have h1 : own k ≠ 0 := by
      rcases e with e | e | e
      · omega
      · omega
      · rw [e, h.oy]; decide
    exact (h.ol k h1).1
  · intro j d' hd'
    rw [List.getElem?_set] at hd'
    by_cases hij : i = j
    · subst hij
      rw [if_pos rfl, if_pos hi] at hd'
      cases hd'
      refine ⟨hPD.wider hpd (fun b hb => ?_), hrd.wider (fun b hb => ?_), hwf⟩
      · rcases hb with hb | hb
        · have := (h.ol b (by omega)).2
          rw [if_neg (by omega)]; exact hb
        · rw [if_pos hb.1, if_pos hb.2]
      · rcases hb with hb | hb
        · have := (h.ol b (by omega)).2
          rw [if_neg (by omega)]; exact hb
        · rw [if_pos (by omega), if_neg (by omega), if_pos hb.2]
    · rw [if_neg hij] at hd'
      obtain ⟨h1, h2, h3⟩ := h.doc j d' hd'
      refine ⟨hPD.wider (hPD.keeps h1 hk (fun b hb hf => by have := h.oy; rcases hf with hf | hf | hf; omega; omega; (rw [hf] at hb; omega))) (fun b hb => ?_), (h2.keeps hk (fun b hb hf => by have := h.oy; rcases hf with hf | hf | hf; omega; omega; (rw [hf] at hb; omega))).wider (fun b hb => ?_), h3⟩
      · have := (h.ol b (by omega)).2
        rw [if_neg (by omega)]; exact hb
      · have := (h.ol b (by omega)).2
        rw [if_neg (by omega)]; exact hb

/-- What the program's New must do. -/
def NewOk (PD : PDT) (G : World → Prop) : Prop := ∀ w : World, G w → Calls Tryz.prog 40 #[] w fun e w' => ∃ bx, e = .returned (ptr bx) ∧ Below w.heap.size w w' ∧ PD w' (fun b => w.heap.size ≤ b) bx ⟨[rootNd], []⟩

theorem wf_root : WF [rootNd] where
  pos := by decide
  cap := by decide
  up := ⟨fun _ => 0, 0, fun _ => Nat.le_refl _, fun i x hx hp => by
    cases i with
    | zero => simp at hx; subst hx; simp [rootNd] at hp
    | succ i => simp at hx⟩
  kid := fun i x hx c hc => by
    cases i with
    | zero => simp at hx; subst hx; simp [rootNd] at hc
    | succ i => simp at hx
  par := fun c y hy => by
    cases c with
    | zero => simp at hy; subst hy; exact .inl rfl
    | succ i => simp at hy
  nodup := fun i x hx => by
    cases i with
    | zero => simp at hx; subst hx; simp [rootNd]
    | succ i => simp at hx
  root := fun x hx => by simp at hx; subst hx; rfl
  elem := fun i x hx => by
    cases i with
    | zero => simp at hx; subst hx; exact ⟨fun h => (by cases h), fun _ => rfl⟩
    | succ i => simp at hx
  chars := fun i x hx => by
    cases i with
    | zero => simp at hx; subst hx; exact ⟨by decide, fun c hc => by simp [rootNd] at hc⟩
    | succ i => simp at hx

abbrev opCells (kind D A B C : Int) (S : ByteArray) (p0 p1 q0 q1 : Int) : Array Value := #[.int .i64 kind, .int .i64 D, .int .i64 A, .int .i64 B, .int .i64 C, .string S, .int .i64 p0, .int .i64 p1, .int .i64 q0, .int .i64 q1]

set_option maxRecDepth 20000 in
set_option maxHeartbeats 4000000 in
/-- A step that does nothing: no document, or no such kind. -/
theorem step_none (hPD : PDOk PD) (h : InvE PD Q w0 w yb docs) (kind D A B C : Int) (S : ByteArray) (p0 p1 q0 q1 : Int) (hk1 : kind ≠ 1) (hk : docs.length = 0 ∨ kind < 2 ∨ 15 < kind) :
    Calls Tryz.prog 15 #[ptr yb, opV kind D A B C S p0 p1 q0 q1] w (StepPost PD Q w0 yb docs.length docs.length) := by
  have hI := h
  obtain ⟨own, psv, h⟩ := h
  obtain ⟨a, c, hv⟩ := slice_shape h.row
  obtain ⟨l0, a0, y0, hq⟩ := h.play
  have hl := heap_lt hq
  have c0 : w.cell? ⟨yb, 0, none⟩ = some (.slice a docs.length c) := by rw [← hv]; exact cell_of_heap hq 0
  have hk1' : (kind == 1) = false := by simpa using hk1
  have HI := hid hI
  have HPD := hid hPD
  clear hq h hI hPD hv hk1
  have done : ∀ (v : Value) (W : World), Below w.heap.size w W → StepPost PD Q w0 yb docs.length docs.length (.returned (.bool true)) W := fun v W hb => ⟨rfl, docs, HI.out.below HPD.out hb, Nat.le_refl _, Nat.le_refl _⟩
  have DONE := hid done
  clear done
  by_cases h0 : docs.length = 0
  · have h0' : ((docs.length : Int) == 0) = true := by simp [h0]
    rw [h0] at c0
    go_enter Tryz.func15, Tryz.ntmps15
    go_wp2
    go_ret
    exact DONE.out (.bool true) _ (by go_grown)
  · have h0' : ((docs.length : Int) == 0) = false := by simp; intro e; exact h0 (by simp [e])
    by_cases h2 : kind < 2
    · go_enter Tryz.func15, Tryz.ntmps15
      go_wp2
      go_ret
      exact DONE.out (.bool true) _ (by go_grown)
    · have h2' : decide (kind < 2) = false := decide_eq_false h2
      have h15 : 15 < kind := by omega
      go_enter Tryz.func15, Tryz.ntmps15
      go_wp2
      go_ret
      exact DONE.out (.bool true) _ (by go_grown)
end

end Go.Proofs.YtabogkonklplcaaGreatDoor

/- marginlaw's step: the kinds that are played on a pair. -/
namespace Go.Proofs.YtabogkonklplcaaGreatDoor
open Go.RowKit
set_option linter.unusedSimpArgs false
set_option linter.unusedVariables false

section
variable {PD : PDT} {Q : Nat → Prop} {w0 w : World} {yb : Nat} {docs : List DocR}

set_option maxRecDepth 20000 in
set_option maxHeartbeats 4000000 in
theorem step_nodes (hPD : PDOk PD) (h : InvE PD Q w0 w yb docs) (kind D A B C : Int) (S : ByteArray) (p0 p1 q0 q1 : Int) (hk2 : 2 ≤ kind) (hk6 : kind ≤ 6) (hd0 : 0 < docs.length) (hdl : docs.length < lots)
    (hD1 : -9223372036854775808 ≤ D) (hD2 : D ≤ 9223372036854775807)
    (hN : ∀ (W : World) (own : Nat → Nat) (psv : Value) (i : Nat) (d : DocR), docs[i]? = some d → Inv PD Q w0 W yb docs own psv →
      Calls Tryz.prog 42 #[ptr yb, .agg #[ptr d.bx, ptr d.bd], opV kind D A B C S p0 p1 q0 q1] W (PairPost PD (fun b => own b = 2 * i + 2) (fun b => own b = 2 * i + 3) W yb d.bx d.bd psv)) :
    Calls Tryz.prog 15 #[ptr yb, opV kind D A B C S p0 p1 q0 q1] w (StepPost PD Q w0 yb docs.length docs.length) := by
  have hI := h
  obtain ⟨own, psv, h⟩ := h
  rcases row_cases h.row with ⟨_, hz⟩ | ⟨g, c, hv⟩
  · omega
  have hrow := h.row
  rw [hv] at hrow
  obtain ⟨l0, a0, y0, hq⟩ := h.play
  have hl := heap_lt hq
  have c0 : w.cell? ⟨yb, 0, none⟩ = some (.slice (some ⟨g, 0, none⟩) docs.length c) := by rw [← hv]; exact cell_of_heap hq 0
  have hi := pickN_lt D hd0
  obtain ⟨i, hie⟩ : ∃ i, pickN D docs.length = i := ⟨_, rfl⟩
  rw [hie] at hi
  have hd : docs[i]? = some docs[i] := List.getElem?_eq_getElem hi
  generalize docs[i] = d at hd
  have hpg := pairs_get docs i d hd
  have cx : w.cell? ⟨g, i * 2, none⟩ = some (ptr d.bx) := by rw [hrow.cellAt (i * 2) (by omega)]; exact hpg.1
  have cd : w.cell? ⟨g, i * 2 + 1, none⟩ = some (ptr d.bd) := by rw [hrow.cellAt (i * 2 + 1) (by omega)]; exact hpg.2
  have hgl : g < w.heap.size := (hrow.lt g rfl).2
  have hk1' : (kind == 1) = false := by simp; omega
  have hk2' : decide (kind < 2) = false := decide_eq_false (by omega)
  have hk3' : decide (15 < kind) = false := decide_eq_false (by omega)
  have h0' : ((docs.length : Int) == 0) = false := by simp; intro e; rw [e] at hd0; simp at hd0
  have hk6' : decide (kind ≤ 6) = true := decide_eq_true hk6
  have PICK := hid (pick_any D docs.length hd0 hdl hD1 hD2)
  have hil : i < docs.length := hi
  have HIE := hid hie
  have HDL := hid hdl
  have HI := hid hI
  have HPD := hid hPD
  have HN := hid hN
  have HD := hid hd
  clear hq h hI hPD hv hrow hN hd hpg hi hie hdl hD1 hD2
  go_enter Tryz.func15, Tryz.ntmps15
  go_wp2
  go_region_held3 (fun w' => w'.cell? ⟨yb, 0, none⟩ = some (.slice (some ⟨g, 0, none⟩) docs.length c) ∧ w'.cell? ⟨w.heap.size, 1, none⟩ = some (.int .i64 D) ∧ w'.cell? ⟨g, i * 2, none⟩ = some (ptr d.bx) ∧ w'.cell? ⟨g, i * 2 + 1, none⟩ = some (ptr d.bd)) (go_keep) (first
    | (go_at_call 21; refine (PICK.out _).mono ?_; rintro e w' ⟨rfl, rfl⟩; rw [HIE.out]))
  all_goals
    have hb : Below w.heap.size w (((w.alloc (.cells (opCells kind D A B C S p0 p1 q0 q1) 39)).alloc (.cells #[ptr d.bx, ptr d.bd] 44)).drew) := (((Below.refl _ w).alloc (Nat.le_refl _) _).alloc (by simp) _).drew
    obtain ⟨own2, psv2, hI2⟩ := HI.out.below HPD.out hb
    have CN := hid (HN.out (((w.alloc (.cells (opCells kind D A B C S p0 p1 q0 q1) 39)).alloc (.cells #[ptr d.bx, ptr d.bd] 44)).drew) own2 psv2 i d HD.out hI2)
    have HI2 := hid hI2
    clear hb hI2
    go_wp2_with (go_at_call 42; refine CN.out.mono ?_; intro e w3 hp; have he := hp.1; subst he; have HP := hid hp; clear hp)
    go_ret
    exact HI2.out.stepped HPD.out HD.out HP.out
end

end Go.Proofs.YtabogkonklplcaaGreatDoor

/- marginlaw's step: New. -/
namespace Go.Proofs.YtabogkonklplcaaGreatDoor
open Go.RowKit
set_option linter.unusedSimpArgs false
set_option linter.unusedVariables false

section
variable {PD : PDT} {Q : Nat → Prop} {w0 w : World} {yb : Nat} {docs : List DocR} {own : Nat → Nat} {psv : Value}

theorem Inv.pushed (hPD : PDOk PD) (h : Inv PD Q w0 w yb docs own psv) {w1 w2 wA w3 : World} {bx bd g' cap' A : Nat} (b1 : Below w.heap.size w w1) (hA : w.heap.size ≤ A) (hA1 : A ≤ w1.heap.size) (pd : PD w1 (fun b => A ≤ b) bx ⟨[rootNd], []⟩)
    (b2 : Below w1.heap.size w1 w2) (rd : RDoc w2 (fun b => w1.heap.size ≤ b) bd [rootNd] []) (bA : Below w2.heap.size w2 wA) (hz : w2.heap.size < wA.heap.size)
    (hg : wA.grownBy w3 psv.ownBlock) (ho : w3.ownsRow 0 44 2 (.slice (some ⟨g', 0, none⟩) (docs.length + 1) cap') (docs.length + 1) ((docs.flatMap fun d => [ptr d.bx, ptr d.bd]) ++ [ptr bx, ptr bd]))
    (hgn : psv.ownBlock = some g' ∨ g' = wA.heap.size) :
    InvE PD Q w0 (w3.setCell ⟨yb, 0, none⟩ (.slice (some ⟨g', 0, none⟩) (docs.length + 1) cap')) yb (docs ++ [⟨bx, bd, ⟨[rootNd], []⟩⟩]) := by
  have z1 := b1.size
  have z2 := b2.size
  have zA := bA.size
  have z3 := hg.size
  have hbl := h.bl
  have hgl : g' < w3.heap.size := (ho.lt g' rfl).2
  have hyb : yb < w.heap.size := (h.ol yb (by rw [h.oy]; decide)).2
  have hps : ∀ b, psv.ownBlock = some b → b < w.heap.size ∧ own b = 1 ∧ b ≠ yb := fun b e => ⟨(h.ol b (by rw [(h.ops b e).1]; decide)).2, h.ops b e⟩
  have hgy : g' ≠ yb := by
    rcases hgn with e | e
    · exact (hps g' e).2.2
    · omega
  have kA : Below w.heap.size w wA := (b1.trans (b2.mono z1)).trans (bA.mono (by omega))
  have k3 : Keeps (fun b => psv.ownBlock = some b) wA w3 := Keeps.grown hg (fun k e => .inl e)
  have kW : Keeps (fun b => psv.ownBlock = some b ∨ b = yb) wA (w3.setCell ⟨yb, 0, none⟩ (.slice (some ⟨g', 0, none⟩) (docs.length + 1) cap')) :=
    (k3.mono (fun k _ e => .inl e)).setCell (p := ⟨yb, 0, none⟩) (.inl (.inr rfl)) _
  have zW : (w3.setCell ⟨yb, 0, none⟩ (.slice (some ⟨g', 0, none⟩) (docs.length + 1) cap')).heap.size = w3.heap.size := by simp
  have newK : ∀ {F : Nat → Prop}, (∀ b, F b → w.heap.size ≤ b) → ∀ b, F b → ¬ (psv.ownBlock = some b ∨ b = yb) := by
    intro F hF b hb e
    have := hF b hb
    rcases e with e | e
    · have := (hps b e).1; omega
    · omega
  refine ⟨fun b => if w.heap.size ≤ b then (if b = g' then 1 else if b < A then 0 else if b < w1.heap.size then 2 * docs.length + 2 else if b < w2.heap.size then 2 * docs.length + 3 else 0) else own b, .slice (some ⟨g', 0, none⟩) (docs.length + 1) cap', ?_⟩
  have hg2 : g' < w.heap.size ∨ w2.heap.size ≤ g' := by
    rcases hgn with e | e
    · exact .inl (hps g' e).1
    · exact .inr (by omega)
  refine ⟨?_, ?_, ?_, ?_, ?_, ?_, ?_, ?_⟩
  · obtain ⟨l0, a0, y0, hq⟩ := h.play
    have e1 : w3.heap[yb]? = _ := (k3.block yb (by omega) (fun e => (hps yb e).2.2 rfl)).trans ((kA.block yb hyb).trans hq)
    refine ⟨l0, a0, y0, ?_⟩
    rw [heap_setCell_same w3 yb 0 _ _ _ e1]; simp
  · rw [List.length_append, List.flatMap_append]
    simpa using row_setCell_other ho (p := ⟨yb, 0, none⟩) (by simp [Value.ownBlock]; exact hgy) _
  · rw [if_neg (by omega)]; exact h.oy
  · intro b e
    have e' : g' = b := by simpa [Value.ownBlock] using e
    subst e'
    refine ⟨?_, hgy⟩
    rcases hgn with e | e
    · have := hps g' e
      rw [if_neg (by omega)]; exact this.2.1
    · rw [if_pos (by omega), if_pos rfl]
  · intro b e
    rw [zW]
    split at e
    · refine ⟨hbl b (by omega), ?_⟩
      split at e
      · rename_i hb; rw [hb]; exact hgl
      · split at e
        · exact absurd rfl e
        · split at e
          · omega
          · split at e
            · omega
            · exact absurd rfl e
    · have := h.ol b e
      exact ⟨this.1, by omega⟩
  · intro b e; rw [zW] at e; exact hbl b (by omega)
  · refine (h.fr.trans (Keeps.of_below kA)).trans (kW.mono (fun k _ e => .inl ?_))
    rcases e with e | e
    · exact (h.ol k (by rw [(h.ops k e).1]; decide)).1
    · rw [e]; exact (h.ol yb (by rw [h.oy]; decide)).1
  · intro i d hd
    by_cases hi : i < docs.length
    · rw [List.getElem?_append_left hi] at hd
      obtain ⟨h1, h2, h3⟩ := h.doc i d hd
      have kA' := Keeps.of_below (F := fun _ => False) kA
      refine ⟨hPD.wider (hPD.keeps (hPD.keeps h1 kA' (fun _ _ e => e)) kW (fun b hb e => ?_)) (fun b hb => ?_), ((h2.keeps kA' (fun _ _ e => e)).keeps kW (fun b hb e => ?_)).wider (fun b hb => ?_), h3⟩
      · rcases e with e | e
        · have := (hps b e).2.1; omega
        · rw [e, h.oy] at hb; omega
      · have := (h.ol b (by omega)).2
        rw [if_neg (by omega)]; exact hb
      · rcases e with e | e
        · have := (hps b e).2.1; omega
        · rw [e, h.oy] at hb; omega
      · have := (h.ol b (by omega)).2
        rw [if_neg (by omega)]; exact hb
    · rw [List.getElem?_append_right (by omega)] at hd
      have hi1 := (List.getElem?_eq_some_iff.1 hd).1
      simp at hi1
      have ei : i = docs.length := by omega
      subst ei
      simp at hd
      subst hd
      have p1 := hPD.narrow pd
      have p2 := hPD.keeps p1 (Keeps.of_below (F := fun _ => False) b2) (fun _ _ e => e)
      have p3 := hPD.keeps p2 (Keeps.of_below (F := fun _ => False) bA) (fun _ _ e => e)
      have p4 := hPD.keeps p3 kW (newK (fun b hb => by omega))
      have r1 := rd.narrow
      have r2 := r1.keeps (Keeps.of_below (F := fun _ => False) bA) (fun _ _ e => e)
      have r3 := r2.keeps kW (newK (fun b hb => by omega))
      refine ⟨hPD.wider p4 (fun b hb => ?_), r3.wider (fun b hb => ?_), hPD.root⟩
      · rw [if_pos (by omega), if_neg (by omega), if_neg (by omega), if_pos (by omega)]
      · rw [if_pos (by omega), if_neg (by omega), if_neg (by omega), if_neg (by omega), if_pos (by omega)]
end

theorem Tryz.info44 : (Tryz.prog.info? 44).map (fun i => (i.zero, i.size, i.bytes)) = some (some (.agg #[.pointer none, .pointer none]), 2, 16) := by kernel_rfl

section
variable {PD : PDT} {G : World → Prop} {Q : Nat → Prop} {w0 w : World} {yb : Nat} {docs : List DocR}

set_option maxRecDepth 20000 in
set_option maxHeartbeats 4000000 in
theorem step_new (hPD : PDOk PD) (h : InvE PD Q w0 w yb docs) (hG : ∀ W, Keeps Q w0 W → G W) (hnew : NewOk PD G) (D A B C : Int) (S : ByteArray) (p0 p1 q0 q1 : Int) (hdl : docs.length < lots) :
    Calls Tryz.prog 15 #[ptr yb, opV 1 D A B C S p0 p1 q0 q1] w (StepPost PD Q w0 yb (docs.length + 1) (docs.length + 1)) := by
  obtain ⟨i0, hi, hz0, hz1, hz2⟩ := info_parts Tryz.info44
  obtain ⟨own, psv, h⟩ := h
  obtain ⟨a, c, hv⟩ := slice_shape h.row
  obtain ⟨l0, a0, y0, hq⟩ := h.play
  have hl := heap_lt hq
  have hB : Below w.heap.size w (w.alloc (.cells (opCells 1 D A B C S p0 p1 q0 q1) 39)) := (Below.refl _ w).alloc (Nat.le_refl _) _
  have CN := hid (hnew (w.alloc (.cells (opCells 1 D A B C S p0 p1 q0 q1) 39)) (hG _ (h.fr.trans (Keeps.of_below hB))))
  have HQ := hid hq
  have HI := hid h
  have HPD := hid hPD
  have HB := hid hB
  have HV := hid hv
  have HDL := hid hdl
  clear hq h hPD hB hv hnew hG hdl
  go_enter Tryz.func15, Tryz.ntmps15
  go_wp2_with (
    go_at_call 40
    refine CN.out.mono ?_
    clear CN
    rintro e w1 ⟨bx, rfl, b1, pd⟩
    have hbb : Below w.heap.size w w1 := HB.out.trans (b1.mono (by simp))
    have hq1 := (hbb.block yb hl).trans HQ.out
    have c1 : w1.cell? ⟨yb, 0, none⟩ = some (.slice a docs.length c) := by rw [← HV.out]; exact cell_of_heap hq1 0
    have l1 : yb < w1.heap.size := heap_lt hq1
    have HQ1 := hid hq1
    have B1 := hid hbb
    have PDx := hid pd
    have ZA := hid b1.size
    clear hbb pd hq1 b1)
  go_cut [] from 7 to 74 (fun wc => ∃ docs', InvE PD Q w0 wc yb docs' ∧ docs'.length = docs.length + 1)
  case first =>
    go_region_law (first
      | (refine step_append_lies _ rfl (.tmp 15) (.tmp 19) 27 rfl 0 44 i0 _ 2 16 Tryz.underlying27 hi hz0 hz1 hz2 rfl (by decide) (.slice a docs.length c) docs.length _ (by simp [Act.eval, Act.put]) HROW.out ⟨w2.heap.size, 0, none⟩ 1 1 [ptr bx, ptr bd] (by simp [Act.eval, Act.put]) rfl SRC.out (by simp [Value.oneCell']) (by decide) (by unfold maxLen; have := HDL.out; unfold lots at this; omega) (by have := HDL.out; unfold lots at this; omega) (Nat.zero_le _) (w2.heap.size + 1) (by simp) ?_
         intro g cap' w3 ho hg hgn _
         have hd3 := (hg.block yb (by simp only [World.size_alloc]; have := heap_lt HQ2.out; omega) YN.out).trans ((Below.heap_alloc _ _ _ (heap_lt HQ2.out)).trans HQ2.out)
         have c3 : w3.cell? ⟨yb, 0, none⟩ = some psv := cell_of_heap hd3 0
         have f3 := frozen_of_heap hd3 0
         have HG3 := hid hg
         have HO3 := hid ho
         have HN3 := hid hgn
         clear hd3 hg ho hgn)
      | (go_simp
         go_at_call 41
         refine (rnew_any _).mono ?_
         rintro e w2 ⟨bd, rfl, b2, rd⟩
         have hq2 := (b2.block yb (heap_lt HQ1.out)).trans HQ1.out
         have c2 : w2.cell? ⟨yb, 0, none⟩ = some (.slice a docs.length c) := by rw [← HV.out]; exact cell_of_heap hq2 0
         have l2 : yb < w2.heap.size := heap_lt hq2
         have HQ2 := hid hq2
         have hb2 : Below w1.heap.size w1 w2 := ⟨b2.os, b2.tape, b2.output, b2.size, b2.block⟩
         have hrow : (w2.alloc (.cells #[ptr bx, ptr bd] 44)).ownsRow 0 44 2 (.slice a docs.length c) docs.length (docs.flatMap fun d => [ptr d.bx, ptr d.bd]) := by
           rw [← HV.out]
           exact (Keeps.of_below (F := fun _ => False) (((B1.out.trans (hb2.mono B1.out.size)).alloc (by have := B1.out.size; have := hb2.size; omega) _))).row HI.out.row (fun _ _ e => e)
         have HROW := hid hrow
         have src := World.news_of_block (heap_alloc_new w2 (.cells #[ptr bx, ptr bd] 44))
         have SRC := hid src
         have YN : Hid (some yb ≠ (Value.slice a docs.length c).ownBlock) := by rw [← HV.out]; intro e; exact (HI.out.ops yb e.symm).2 rfl
         have B2 := hid hb2
         have RD := hid rd
         clear hq2 hb2 b2 rd hrow src))
    all_goals
      go_wp2_with fail
      go_meet
      case rel =>
        refine ⟨docs ++ [⟨bx, bd, ⟨[rootNd], []⟩⟩], HI.out.pushed HPD.out (A := (w.alloc (.cells (opCells 1 D A B C S p0 p1 q0 q1) 39)).heap.size) B1.out (by simp) ZA.out PDx.out B2.out RD.out ((Below.refl _ w2).alloc (Nat.le_refl _) _) (by simp) (by rw [HV.out]; exact HG3.out) HO3.out ?_, by simp⟩
        rcases HN3.out with e | e
        · exact .inl (by rw [HV.out]; exact e)
        · exact .inr (by simpa using e)
  case rest =>
    obtain ⟨docs', hI', hl'⟩ := hcut
    have HI' := hid hI'
    clear hI'
    go_wp2
    go_ret
    exact ⟨by simp, docs', HI'.out, by omega, by omega⟩
end

end Go.Proofs.YtabogkonklplcaaGreatDoor
