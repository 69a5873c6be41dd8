import Derived.Test.YtabogkonklplcaaGreatDoorB12
import Derived.Deep.RegionLaw
import Derived.Deep.RegionHeld3
import Derived.Deep.Cut
import Derived.Deep.CutRange

/- marginlaw's step: one step of a script. -/
namespace Go.Proofs.YtabogkonklplcaaGreatDoor
open Go.RowKit
set_option linter.unusedSimpArgs false
set_option linter.unusedVariables false

/-- A pair: the program's document, the document's own, the state of both. -/
structure DocR where
  bx : Nat
  bd : Nat
  s : St

/-- What is played, in memory: whose block is whose ('own': 1 the play's, 2i + 2 the program's document i, 2i + 3 the document's own i, 0 nobody's); all of it lies where Q lets things turn, and nothing else has turned since w0. -/
structure Inv (PD : PDT) (Q : Nat → Prop) (w0 w : World) (yb : Nat) (docs : List DocR) (own : Nat → Nat) (psv : Value) : Prop where
  play : PlayAt w yb psv
  row : w.ownsRow 0 44 2 psv docs.length (docs.flatMap fun d => [ptr d.bx, ptr d.bd])
  oy : own yb = 1
  ops : ∀ b, psv.ownBlock = some b → own b = 1 ∧ b ≠ yb
  ol : ∀ b, own b ≠ 0 → Q b ∧ b < w.heap.size
  bl : ∀ b, w.heap.size ≤ b → Q b
  fr : Keeps Q w0 w
  doc : ∀ (i : Nat) (d : DocR), docs[i]? = some d → PD w (fun b => own b = 2 * i + 2) d.bx d.s ∧ RDocS w (fun b => own b = 2 * i + 3) d.bd d.s ∧ PD.ok d.s

def InvE (PD : PDT) (Q : Nat → Prop) (w0 w : World) (yb : Nat) (docs : List DocR) : Prop := ∃ own psv, Inv PD Q w0 w yb docs own psv

/-- What a step must have left. -/
def StepPost (PD : PDT) (Q : Nat → Prop) (w0 : World) (yb : Nat) (m n : Nat) (e : Ending) (w' : World) : Prop := e = .returned (.bool true) ∧ ∃ docs, InvE PD Q w0 w' yb docs ∧ m ≤ docs.length ∧ docs.length ≤ n

theorem pairs_length (docs : List DocR) : (docs.flatMap fun d => [ptr d.bx, ptr d.bd]).length = docs.length * 2 := by
  induction docs with
  | nil => rfl
  | cons d l ih => simp [ih]; omega
theorem pairs_get (docs : List DocR) (i : Nat) (d : DocR) (h : docs[i]? = some d) : (docs.flatMap fun d => [ptr d.bx, ptr d.bd])[i * 2]? = some (ptr d.bx) ∧ (docs.flatMap fun d => [ptr d.bx, ptr d.bd])[i * 2 + 1]? = some (ptr d.bd) := by
  induction docs generalizing i with
  | nil => simp at h
  | cons a l ih =>
    cases i with
    | zero => simp at h; subst h; simp
    | succ i =>
      have := ih i (by simpa using h)
      have e1 : (i + 1) * 2 = i * 2 + 1 + 1 := by omega
      have e2 : (i + 1) * 2 + 1 = i * 2 + 1 + 1 + 1 := by omega
      rw [e2, e1]
      simpa using this
theorem pairs_set (docs : List DocR) (i : Nat) (d d' : DocR) (h : docs[i]? = some d) (hx : d'.bx = d.bx) (hd : d'.bd = d.bd) : ((docs.set i d').flatMap fun d => [ptr d.bx, ptr d.bd]) = (docs.flatMap fun d => [ptr d.bx, ptr d.bd]) := by
  induction docs generalizing i with
  | nil => simp at h
  | cons a l ih =>
    cases i with
    | zero => simp at h; subst h; simp [hx, hd]
    | succ i => simp [ih i (by simpa using h)]

section
variable {PD : PDT} {Q : Nat → Prop} {w0 w : World} {yb : Nat} {docs : List DocR} {own : Nat → Nat} {psv : Value}

theorem InvE.below {w' : World} (hPD : PDOk PD) (h : InvE PD Q w0 w yb docs) (hb : Below w.heap.size w w') : InvE PD Q w0 w' yb docs := by
  obtain ⟨own, psv, h⟩ := h
  have hk := Keeps.of_below (F := fun _ => False) hb
  have hz := hb.size
  have hbl := h.bl
  refine ⟨own, psv, h.play.keeps hk (fun e => e), hk.row h.row (fun _ _ e => e), h.oy, h.ops, fun b e => ⟨(h.ol b e).1, by have := (h.ol b e).2; omega⟩, fun b e => hbl b (by omega), h.fr.trans (Keeps.of_below hb), fun i d hd => ?_⟩
  obtain ⟨h1, h2, h3⟩ := h.doc i d hd
  exact ⟨hPD.keeps h1 hk (fun _ _ e => e), h2.keeps hk (fun _ _ e => e), h3⟩

/-- The pair that a step is played on. -/
theorem Inv.pair (h : Inv PD Q w0 w yb docs own psv) {i : Nat} {d : DocR} (hd : docs[i]? = some d) : PairAt PD (fun b => own b = 2 * i + 2) (fun b => own b = 2 * i + 3) w yb d.bx d.bd psv d.s := by
  obtain ⟨h1, h2, h3⟩ := h.doc i d hd
  have hy := h.oy
  exact ⟨h.play, h1, h2, fun b e1 e2 => by omega, by omega, by omega, fun b e => (h.ol b (by omega)).2, fun b e => (h.ol b (by omega)).2⟩

/-- Behind a step on one pair. -/
theorem Inv.stepped (hPD : PDOk PD) (h : Inv PD Q w0 w yb docs own psv) {i : Nat} {d : DocR} (hd : docs[i]? = some d) {e : Ending} {w' : World} (hp : PairPost PD (fun b => own b = 2 * i + 2) (fun b => own b = 2 * i + 3) w yb d.bx d.bd psv e w') :
    StepPost PD Q w0 yb docs.length docs.length e w' := by
  obtain ⟨rfl, m, s', hm1, hm2, hwf, hk, hpl, hpd, hrd⟩ := hp
  have hbl := h.bl
  have hi := (List.getElem?_eq_some_iff.1 hd).1
  refine ⟨rfl, docs.set i ⟨d.bx, d.bd, s'⟩, ⟨fun b => if w.heap.size ≤ b then (if b < m then 2 * i + 2 else if b < w'.heap.size then 2 * i + 3 else 0) else own b, psv, ?_⟩, by simp, by simp⟩
  have hyb : yb < w.heap.size := (h.ol yb (by rw [h.oy]; decide)).2
  refine ⟨hpl, ?_, ?_, ?_, ?_, fun b e => hbl b (by omega), ?_, ?_⟩
  · rw [List.length_set, pairs_set docs i d ⟨d.bx, d.bd, s'⟩ hd rfl rfl]
    refine hk.row h.row (fun b e => ?_)
    have := h.ops b e
    omega
  · rw [if_neg (by omega)]; exact h.oy
  · intro b e
    have h1 := h.ops b e
    have h2 := (h.ol b (by omega)).2
    exact ⟨by rw [if_neg (by omega)]; exact h1.1, h1.2⟩
  · intro b e
    split at e
    · split at e
      · exact ⟨hbl b (by omega), by omega⟩
      · split at e
        · exact ⟨hbl b (by omega), by omega⟩
        · exact absurd rfl e
    · have := h.ol b e
      exact ⟨this.1, by omega⟩
  · refine h.fr.trans (hk.mono (fun k _ e => .inl ?_))
    have h1 : own k ≠ 0 := by
      rcases e with e | e | e
      · omega
      · omega
      · rw [e, h.oy]; decide
    exact (h.ol k h1).1
  · intro j d' hd'
    rw [List.getElem?_set] at hd'
    by_cases hij : i = j
    · subst hij
      rw [if_pos rfl, if_pos hi] at hd'
      cases hd'
      refine ⟨hPD.wider hpd (fun b hb => ?_), hrd.wider (fun b hb => ?_), hwf⟩
      · rcases hb with hb | hb
        · have := (h.ol b (by omega)).2
          rw [if_neg (by omega)]; exact hb
        · rw [if_pos hb.1, if_pos hb.2]
      · rcases hb with hb | hb
        · have := (h.ol b (by omega)).2
          rw [if_neg (by omega)]; exact hb
        · rw [if_pos (by omega), if_neg (by omega), if_pos hb.2]
    · rw [if_neg hij] at hd'
      obtain ⟨h1, h2, h3⟩ := h.doc j d' hd'
      refine ⟨hPD.wider (hPD.keeps h1 hk (fun b hb hf => by have := h.oy; rcases hf with hf | hf | hf; omega; omega; (rw [hf] at hb; omega))) (fun b hb => ?_), (h2.keeps hk (fun b hb hf => by have := h.oy; rcases hf with hf | hf | hf; omega; omega; (rw [hf] at hb; omega))).wider (fun b hb => ?_), h3⟩
      · have := (h.ol b (by omega)).2
        rw [if_neg (by omega)]; exact hb
      · have := (h.ol b (by omega)).2
        rw [if_neg (by omega)]; exact hb

/-- What the program's New must do. -/
def NewOk (PD : PDT) (G : World → Prop) : Prop := ∀ w : World, G w → Calls Tryz.prog 40 #[] w fun e w' => ∃ bx, e = .returned (ptr bx) ∧ Below w.heap.size w w' ∧ PD w' (fun b => w.heap.size ≤ b) bx ⟨[rootNd], []⟩

theorem wf_root : WF [rootNd] where
  pos := by decide
  cap := by decide
  up := ⟨fun _ => 0, 0, fun _ => Nat.le_refl _, fun i x hx hp => by
    cases i with
    | zero => simp at hx; subst hx; simp [rootNd] at hp
    | succ i => simp at hx⟩
  kid := fun i x hx c hc => by
    cases i with
    | zero => simp at hx; subst hx; simp [rootNd] at hc
    | succ i => simp at hx
  par := fun c y hy => by
    cases c with
    | zero => simp at hy; subst hy; exact .inl rfl
    | succ i => simp at hy
  nodup := fun i x hx => by
    cases i with
    | zero => simp at hx; subst hx; simp [rootNd]
    | succ i => simp at hx
  root := fun x hx => by simp at hx; subst hx; rfl
  elem := fun i x hx => by
    cases i with
    | zero => simp at hx; subst hx; exact ⟨fun h => (by cases h), fun _ => rfl⟩
    | succ i => simp at hx
  chars := fun i x hx => by
    cases i with
    | zero => simp at hx; subst hx; exact ⟨by decide, fun c hc => by simp [rootNd] at hc⟩
    | succ i => simp at hx

abbrev opCells (kind D A B C : Int) (S : ByteArray) (p0 p1 q0 q1 : Int) : Array Value := #[.int .i64 kind, .int .i64 D, .int .i64 A, .int .i64 B, .int .i64 C, .string S, .int .i64 p0, .int .i64 p1, .int .i64 q0, .int .i64 q1]

set_option maxRecDepth 20000 in
set_option maxHeartbeats 4000000 in
/-- A step that does nothing: no document, or no such kind. -/
theorem step_none (hPD : PDOk PD) (h : InvE PD Q w0 w yb docs) (kind D A B C : Int) (S : ByteArray) (p0 p1 q0 q1 : Int) (hk1 : kind ≠ 1) (hk : docs.length = 0 ∨ kind < 2 ∨ 15 < kind) :
    Calls Tryz.prog 15 #[ptr yb, opV kind D A B C S p0 p1 q0 q1] w (StepPost PD Q w0 yb docs.length docs.length) := by
  have hI := h
  obtain ⟨own, psv, h⟩ := h
  obtain ⟨a, c, hv⟩ := slice_shape h.row
  obtain ⟨l0, a0, y0, hq⟩ := h.play
  have hl := heap_lt hq
  have c0 : w.cell? ⟨yb, 0, none⟩ = some (.slice a docs.length c) := by rw [← hv]; exact cell_of_heap hq 0
  have hk1' : (kind == 1) = false := by simpa using hk1
  have HI := hid hI
  have HPD := hid hPD
  clear hq h hI hPD hv hk1
  have done : ∀ (v : Value) (W : World), Below w.heap.size w W → StepPost PD Q w0 yb docs.length docs.length (.returned (.bool true)) W := fun v W hb => ⟨rfl, docs, HI.out.below HPD.out hb, Nat.le_refl _, Nat.le_refl _⟩
  have DONE := hid done
  clear done
  by_cases h0 : docs.length = 0
  · have h0' : ((docs.length : Int) == 0) = true := by simp [h0]
    rw [h0] at c0
    go_enter Tryz.func15, Tryz.ntmps15
    go_wp2
    go_ret
    exact DONE.out (.bool true) _ (by go_grown)
  · have h0' : ((docs.length : Int) == 0) = false := by simp; intro e; exact h0 (by simp [e])
    by_cases h2 : kind < 2
    · go_enter Tryz.func15, Tryz.ntmps15
      go_wp2
      go_ret
      exact DONE.out (.bool true) _ (by go_grown)
    · have h2' : decide (kind < 2) = false := decide_eq_false h2
      have h15 : 15 < kind := by omega
      go_enter Tryz.func15, Tryz.ntmps15
      go_wp2
      go_ret
      exact DONE.out (.bool true) _ (by go_grown)
end

end Go.Proofs.YtabogkonklplcaaGreatDoor

/- marginlaw's step: the kinds that are played on a pair. -/
namespace Go.Proofs.YtabogkonklplcaaGreatDoor
open Go.RowKit
set_option linter.unusedSimpArgs false
set_option linter.unusedVariables false

section
variable {PD : PDT} {Q : Nat → Prop} {w0 w : World} {yb : Nat} {docs : List DocR}

set_option maxRecDepth 20000 in
set_option maxHeartbeats 4000000 in
theorem step_nodes (hPD : PDOk PD) (h : InvE PD Q w0 w yb docs) (kind D A B C : Int) (S : ByteArray) (p0 p1 q0 q1 : Int) (hk2 : 2 ≤ kind) (hk6 : kind ≤ 6) (hd0 : 0 < docs.length) (hdl : docs.length < lots)
    (hD1 : -9223372036854775808 ≤ D) (hD2 : D ≤ 9223372036854775807)
    (hN : ∀ (W : World) (own : Nat → Nat) (psv : Value) (i : Nat) (d : DocR), docs[i]? = some d → Inv PD Q w0 W yb docs own psv →
      Calls Tryz.prog 42 #[ptr yb, .agg #[ptr d.bx, ptr d.bd], opV kind D A B C S p0 p1 q0 q1] W (PairPost PD (fun b => own b = 2 * i + 2) (fun b => own b = 2 * i + 3) W yb d.bx d.bd psv)) :
    Calls Tryz.prog 15 #[ptr yb, opV kind D A B C S p0 p1 q0 q1] w (StepPost PD Q w0 yb docs.length docs.length) := by
  have hI := h
  obtain ⟨own, psv, h⟩ := h
  rcases row_cases h.row with ⟨_, hz⟩ | ⟨g, c, hv⟩
  · omega
  have hrow := h.row
  rw [hv] at hrow
  obtain ⟨l0, a0, y0, hq⟩ := h.play
  have hl := heap_lt hq
  have c0 : w.cell? ⟨yb, 0, none⟩ = some (.slice (some ⟨g, 0, none⟩) docs.length c) := by rw [← hv]; exact cell_of_heap hq 0
  have hi := pickN_lt D hd0
  obtain ⟨i, hie⟩ : ∃ i, pickN D docs.length = i := ⟨_, rfl⟩
  rw [hie] at hi
  have hd : docs[i]? = some docs[i] := List.getElem?_eq_getElem hi
  generalize docs[i] = d at hd
  have hpg := pairs_get docs i d hd
  have cx : w.cell? ⟨g, i * 2, none⟩ = some (ptr d.bx) := by rw [hrow.cellAt (i * 2) (by omega)]; exact hpg.1
  have cd : w.cell? ⟨g, i * 2 + 1, none⟩ = some (ptr d.bd) := by rw [hrow.cellAt (i * 2 + 1) (by omega)]; exact hpg.2
  have hgl : g < w.heap.size := (hrow.lt g rfl).2
  have hk1' : (kind == 1) = false := by simp; omega
  have hk2' : decide (kind < 2) = false := decide_eq_false (by omega)
  have hk3' : decide (15 < kind) = false := decide_eq_false (by omega)
  have h0' : ((docs.length : Int) == 0) = false := by simp; intro e; rw [e] at hd0; simp at hd0
  have hk6' : decide (kind ≤ 6) = true := decide_eq_true hk6
  have PICK := hid (pick_any D docs.length hd0 hdl hD1 hD2)
  have hil : i < docs.length := hi
  have HIE := hid hie
  have HDL := hid hdl
  have HI := hid hI
  have HPD := hid hPD
  have HN := hid hN
  have HD := hid hd
  clear hq h hI hPD hv hrow hN hd hpg hi hie hdl hD1 hD2
  go_enter Tryz.func15, Tryz.ntmps15
  go_wp2
  go_region_held3 (fun w' => w'.cell? ⟨yb, 0, none⟩ = some (.slice (some ⟨g, 0, none⟩) docs.length c) ∧ w'.cell? ⟨w.heap.size, 1, none⟩ = some (.int .i64 D) ∧ w'.cell? ⟨g, i * 2, none⟩ = some (ptr d.bx) ∧ w'.cell? ⟨g, i * 2 + 1, none⟩ = some (ptr d.bd)) (go_keep) (first
    | (go_at_call 21; refine (PICK.out _).mono ?_; rintro e w' ⟨rfl, rfl⟩; rw [HIE.out]))
  all_goals
    have hb : Below w.heap.size w (((w.alloc (.cells (opCells kind D A B C S p0 p1 q0 q1) 39)).alloc (.cells #[ptr d.bx, ptr d.bd] 44)).drew) := (((Below.refl _ w).alloc (Nat.le_refl _) _).alloc (by simp) _).drew
    obtain ⟨own2, psv2, hI2⟩ := HI.out.below HPD.out hb
    have CN := hid (HN.out (((w.alloc (.cells (opCells kind D A B C S p0 p1 q0 q1) 39)).alloc (.cells #[ptr d.bx, ptr d.bd] 44)).drew) own2 psv2 i d HD.out hI2)
    have HI2 := hid hI2
    clear hb hI2
    go_wp2_with (go_at_call 42; refine CN.out.mono ?_; intro e w3 hp; have he := hp.1; subst he; have HP := hid hp; clear hp)
    go_ret
    exact HI2.out.stepped HPD.out HD.out HP.out
end

end Go.Proofs.YtabogkonklplcaaGreatDoor
