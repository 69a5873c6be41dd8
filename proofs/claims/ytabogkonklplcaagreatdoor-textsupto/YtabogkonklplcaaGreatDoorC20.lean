import Derived.Test.YtabogkonklplcaaGreatDoorC17
import Derived.Test.YtabogkonklplcaaGreatDoorC19
import Derived.Test.YtabogkonklplcaaGreatDoorC10
import Derived.Test.YtabogkonklplcaaGreatDoorC11

/- margin.Doc over tree.Forest: how a document lies, margin.New, and what the wrappers do. -/
namespace Go.Proofs.YtabogkonklplcaaGreatDoor
open Go.RowKit
set_option linter.unusedSimpArgs false
set_option linter.unusedVariables false

/-- The blocks of the package-level variables that are read. -/
def Hold (b : Nat) : Prop := b = 0 ∨ b = 1 ∨ b = 2
def GG (w : World) : Prop := Glob w ∧ Tabs w
theorem GG.lt {w : World} (h : GG w) {b : Nat} (hb : Hold b) : b < w.heap.size := by
  rcases hb with rfl | rfl | rfl
  · exact World.block_lt_of_cell? w _ h.1
  · exact World.block_lt_of_cell? w _ (h.2.1 0 (by decide))
  · exact World.block_lt_of_cell? w _ (h.2.2 0 (by decide)).1
theorem GG.keeps {F : Nat → Prop} {w w' : World} (h : GG w) (hk : Keeps F w w') (hF : ∀ b, Hold b → ¬ F b) : GG w' :=
  ⟨hk.cell h.1 (hF _ (.inl rfl)), fun c hc => hk.cell (h.2.1 c hc) (hF _ (.inr (.inl rfl))), fun i hi => ⟨hk.cell (h.2.2 i hi).1 (hF _ (.inr (.inr rfl))), hk.cell (h.2.2 i hi).2 (hF _ (.inr (.inr rfl)))⟩⟩
theorem GG.below {w w' : World} (h : GG w) (hb : Below w.heap.size w w') : GG w' := h.keeps (Keeps.of_below (F := fun _ => False) hb) (fun _ _ e => e)

/-- What of F is the forest's. -/
def inner (F : Nat → Prop) (bx bl : Nat) (sv : Value) : Nat → Prop := fun b => F b ∧ b ≠ bx ∧ b ≠ bl ∧ sv.ownBlock ≠ some b ∧ ¬ Hold b

theorem PFor.keeps {w w' : World} {F G : Nat → Prop} {bf : Nat} {s : List Nd} (h : PFor w F bf s) (hk : Keeps G w w') (hG : ∀ b, F b → ¬ G b) : PFor w' F bf s := by
  obtain ⟨bn, cap, pn, h⟩ := h
  exact ⟨bn, cap, pn, h.keeps hk hG⟩
theorem PFor.wider {w : World} {F G : Nat → Prop} {bf : Nat} {s : List Nd} (h : PFor w F bf s) (hG : ∀ b, F b → G b) : PFor w G bf s := by
  obtain ⟨bn, cap, pn, h⟩ := h
  exact ⟨bn, cap, pn, h.wider hG⟩
theorem PFor.narrow {w : World} {F : Nat → Prop} {bf : Nat} {s : List Nd} (h : PFor w F bf s) : PFor w (fun b => F b ∧ b < w.heap.size) bf s := by
  obtain ⟨bn, cap, pn, h⟩ := h
  exact ⟨bn, cap, pn, h.narrow⟩
theorem PFor.below {w w' : World} {F : Nat → Prop} {bf : Nat} {s : List Nd} (h : PFor w F bf s) (hb : Below w.heap.size w w') : PFor w' F bf s :=
  h.keeps (Keeps.of_below (F := fun _ => False) hb) (fun _ _ e => e)

/-- A document of the program's: its block (bx), the forest (bf), the list of ranges (bl) and their row (sv). -/
structure PDocAt (w : World) (F : Nat → Prop) (bx bf bl : Nat) (sv : Value) (st : St) : Prop where
  Fx : F bx
  Hx : ¬ Hold bx
  doc : w.heap[bx]? = some (.cells #[ptr bf, ptr bl] 94 (0, 0))
  Fl : F bl
  Hl : ¬ Hold bl
  ne : bl ≠ bx
  list : w.heap[bl]? = some (.cells #[ptr bf, sv] 176 (0, 0))
  spans : w.ownsRow 0 79 4 sv st.r.length (st.r.flatMap Sp.cells)
  apart : ∀ b, sv.ownBlock = some b → F b ∧ ¬ Hold b ∧ b ≠ bx ∧ b ≠ bl
  nodes : PFor w (inner F bx bl sv) bf st.n
def PLies (w : World) (F : Nat → Prop) (bx : Nat) (st : St) : Prop := ∃ bf bl sv, PDocAt w F bx bf bl sv st
/-- The documents that have no ranges. -/
def PDoc : PDT where
  lies := PLies
  ok := fun st => WF st.n ∧ st.r = []

theorem PLies.keeps {w w' : World} {F G : Nat → Prop} {b : Nat} {s : St} (h : PLies w F b s) (hk : Keeps G w w') (hG : ∀ b, F b → ¬ G b) : PLies w' F b s := by
  obtain ⟨bf, bl, sv, h⟩ := h
  exact ⟨bf, bl, sv, h.Fx, h.Hx, by rw [hk.block b (heap_lt h.doc) (hG b h.Fx)]; exact h.doc, h.Fl, h.Hl, h.ne, by rw [hk.block bl (heap_lt h.list) (hG bl h.Fl)]; exact h.list,
    hk.row h.spans (fun b e => hG b (h.apart b e).1), h.apart, h.nodes.keeps hk (fun b hb => hG b hb.1)⟩
theorem PLies.wider {w : World} {F G : Nat → Prop} {b : Nat} {s : St} (h : PLies w F b s) (hG : ∀ b, F b → G b) : PLies w G b s := by
  obtain ⟨bf, bl, sv, h⟩ := h
  exact ⟨bf, bl, sv, hG _ h.Fx, h.Hx, h.doc, hG _ h.Fl, h.Hl, h.ne, h.list, h.spans, fun b e => ⟨hG _ (h.apart b e).1, (h.apart b e).2⟩, h.nodes.wider (fun b hb => ⟨hG _ hb.1, hb.2⟩)⟩
theorem PLies.narrow {w : World} {F : Nat → Prop} {b : Nat} {s : St} (h : PLies w F b s) : PLies w (fun k => F k ∧ k < w.heap.size) b s := by
  obtain ⟨bf, bl, sv, h⟩ := h
  exact ⟨bf, bl, sv, ⟨h.Fx, heap_lt h.doc⟩, h.Hx, h.doc, ⟨h.Fl, heap_lt h.list⟩, h.Hl, h.ne, h.list, h.spans, fun b e => ⟨⟨(h.apart b e).1, (h.spans.lt b e).2⟩, (h.apart b e).2⟩, h.nodes.narrow.wider (fun b hb => ⟨⟨hb.1.1, hb.2⟩, hb.1.2⟩)⟩

theorem pdoc_ok : PDOk PDoc where
  keeps := fun h hk hG => PLies.keeps h hk hG
  wider := fun h hG => PLies.wider h hG
  narrow := fun h => PLies.narrow h
  root := ⟨wf_root, rfl⟩

theorem rnew_list (bf : Nat) (w : World) : Calls Tryz.prog 72 #[ptr bf] w fun e w' => e = .returned (ptr w.heap.size) ∧ w' = w.alloc (.cells #[ptr bf, .slice none 0 0] 176) := by
  go_enter Tryz.func72, Tryz.ntmps72
  go_wp2
  go_ret
  exact ⟨rfl, rfl⟩

set_option maxHeartbeats 400000 in
theorem mnew_ok : NewOk PDoc GG := by
  intro w hg
  have C := hid (tnew_any w)
  have C2 := hid rnew_list
  go_enter Tryz.func40, Tryz.ntmps40
  go_wp2_with first
    | (go_at_call 71; refine C.out.mono ?_; rintro e w1 ⟨bf, rfl, hb, hf⟩)
    | (go_at_call 72; refine (C2.out _ _).mono ?_; rintro e w2 ⟨rfl, rfl⟩)
  go_ret
  have hsz := hb.size
  have hb1 : Below w1.heap.size w1 (w1.alloc (.cells #[ptr bf, .slice none 0 0] 176)) := (Below.refl _ w1).alloc (Nat.le_refl _) _
  have hb2 : Below w1.heap.size w1 ((w1.alloc (.cells #[ptr bf, .slice none 0 0] 176)).alloc (.cells #[ptr bf, ptr w1.heap.size] 94)) := hb1.alloc (by simp) _
  have hn : ∀ b, w.heap.size ≤ b → ¬ Hold b := fun b hle h => by have := hg.lt h; omega
  have hd := heap_alloc_new (w1.alloc (.cells #[ptr bf, .slice none 0 0] 176)) (.cells #[ptr bf, ptr w1.heap.size] 94)
  refine ⟨w1.heap.size + 1, by simp, hb.trans (hb2.mono hsz), bf, w1.heap.size, .slice none 0 0, ⟨by omega, hn _ (by omega), by simpa using hd, hsz, hn _ hsz, by omega, ?_, World.ownsRow_nil _ _ _ _, (fun b e => by cases e), ?_⟩⟩
  · rw [Below.heap_alloc _ _ _ (by simp), heap_alloc_new]
  · exact (hf.narrow.below hb2).wider (fun b hx => ⟨hx.1, by have := hx.2; omega, by have := hx.2; omega, (fun e => by cases e), hn b hx.1⟩)

def PLPost (F : Nat → Prop) (w : World) (bx : Nat) (s' : St) (v : Value) (e : Ending) (w' : World) : Prop := e = .returned v ∧ Keeps F w w' ∧ PLies w' (grow F w) bx s'
/-- What a call of the forest's must have left. -/
def TPost (F : Nat → Prop) (w : World) (bf : Nat) (s' : List Nd) (v : Value) (e : Ending) (w' : World) : Prop := e = .returned v ∧ Keeps F w w' ∧ PFor w' (grow F w) bf s'
/-- What fault makes of an error. -/
def ErrOf (v : Value) (a y : Int) : Prop := ∀ w, Glob w → Calls Tryz.prog 46 #[v] w fun e w' => e = .returned (errV a y) ∧ Below w.heap.size w w'
theorem errOf_nil (a : Int) : ErrOf .nilIface a 0 := fun w hg => (fault_nil w).mono fun e w' ⟨h1, h2⟩ => ⟨by rw [h1]; simp [errV], h2⟩
theorem errOf_P (n y : Int) (hy : y ≠ 0) : ErrOf (refusalV n y) n y := fun w hg => (fault_P n y w hg).mono fun e w' ⟨h1, h2⟩ => ⟨by rw [h1]; simp [errV, hy], h2⟩
theorem errOf_F (n at_ : Int) : ErrOf (.iface 145 (.agg #[.int .i64 n, flawV at_])) n 6 := fun w hg => (fault_F n at_ w hg).mono fun e w' ⟨h1, h2⟩ => ⟨by rw [h1]; simp [errV], h2⟩

/-- Behind the forest's call and fault's: what is left of the document. -/
theorem pdoc_after {w w1 w2 : World} {F : Nat → Prop} {bx bf bl : Nat} {sv : Value} {s s' : List Nd} {rs : List Sp} (hg : GG w) (hD : PDocAt w F bx bf bl sv ⟨s, rs⟩) (hk : Keeps (inner F bx bl sv) w w1) (hf : PFor w1 (grow (inner F bx bl sv) w) bf s') (hb : Below w1.heap.size w1 w2) :
    Keeps F w w2 ∧ PDocAt w2 (grow F w) bx bf bl sv ⟨s', rs⟩ := by
  have hk2 : Keeps (inner F bx bl sv) w w2 := hk.trans (Keeps.of_below hb)
  have hlx := heap_lt hD.doc
  have hll := heap_lt hD.list
  refine ⟨hk2.mono (fun k _ h => h.1), ⟨.inl hD.Fx, hD.Hx, ?_, .inl hD.Fl, hD.Hl, hD.ne, ?_, hk2.row hD.spans (fun b e h => h.2.2.2.1 e), fun b e => ⟨.inl (hD.apart b e).1, (hD.apart b e).2⟩, (hf.below hb).wider (fun b h => ?_)⟩⟩
  · rw [hk2.block bx hlx (fun h => h.2.1 rfl)]; exact hD.doc
  · rw [hk2.block bl hll (fun h => h.2.2.1 rfl)]; exact hD.list
  · rcases h with h | h
    · exact ⟨.inl h.1, h.2⟩
    · exact ⟨.inr h, by omega, by omega, fun e => by have := (hD.spans.lt b e).2; omega, fun hh => by have := hg.lt hh; omega⟩
theorem gg_after {w w1 : World} {F : Nat → Prop} {bx bl : Nat} {sv : Value} (hg : GG w) (hk : Keeps (inner F bx bl sv) w w1) : Glob w1 := (hg.keeps hk (fun b hb h => h.2.2.2.2 hb)).1

set_option maxHeartbeats 400000 in
theorem melement_of {w : World} {F : Nat → Prop} {bx : Nat} {s s' : List Nd} {rs : List Sp} (hg : GG w) (hP : PLies w F bx ⟨s, rs⟩) {n v : Value} {a y : Int} (hE : ErrOf v a y)
    (hT : ∀ (F' : Nat → Prop) (bf : Nat), PFor w F' bf s → Calls Tryz.prog 92 #[ptr bf] w (TPost F' w bf s' (.tuple #[n, v]))) :
    Calls Tryz.prog 52 #[ptr bx] w (PLPost F w bx ⟨s', rs⟩ (.tuple #[n, errV a y])) := by
  obtain ⟨bf, bl, sv, hD⟩ := hP
  have C := hid (hT _ _ hD.nodes)
  have c0 : w.cell? ⟨bx, 0, none⟩ = some (ptr bf) := cell_of_heap hD.doc 0
  have AF := hid (fun w1 w2 => pdoc_after (w1 := w1) (w2 := w2) (s' := s') hg hD)
  have AG := hid (fun w1 => gg_after (w1 := w1) (F := F) (bx := bx) (bl := bl) (sv := sv) hg)
  have E := hid hE
  clear hD hT hg hE
  go_enter Tryz.func52, Tryz.ntmps52
  go_wp2_with first
    | (go_at_call 92; refine C.out.mono ?_; rintro e w1 ⟨rfl, hk, hf⟩; have E1 := hid (E.out w1 (AG.out w1 hk)); have A1 := hid (fun w2 => AF.out w1 w2 hk hf); clear hk hf)
    | (go_at_call 46; refine E1.out.mono ?_; rintro e w2 ⟨rfl, hb⟩)
  go_ret2
  exact ⟨rfl, (A1.out _ hb).1, _, _, _, (A1.out _ hb).2⟩

set_option maxHeartbeats 400000 in
theorem mtext_of {w : World} {F : Nat → Prop} {bx : Nat} {s s' : List Nd} {rs : List Sp} (hg : GG w) (hP : PLies w F bx ⟨s, rs⟩) {n v : Value} {a y : Int} (t : ByteArray) (hE : ErrOf v a y)
    (hT : ∀ (F' : Nat → Prop) (bf : Nat), PFor w F' bf s → Calls Tryz.prog 93 #[ptr bf, .string t] w (TPost F' w bf s' (.tuple #[n, v]))) :
    Calls Tryz.prog 53 #[ptr bx, .string t] w (PLPost F w bx ⟨s', rs⟩ (.tuple #[n, errV a y])) := by
  obtain ⟨bf, bl, sv, hD⟩ := hP
  have C := hid (hT _ _ hD.nodes)
  have c0 : w.cell? ⟨bx, 0, none⟩ = some (ptr bf) := cell_of_heap hD.doc 0
  have AF := hid (fun w1 w2 => pdoc_after (w1 := w1) (w2 := w2) (s' := s') hg hD)
  have AG := hid (fun w1 => gg_after (w1 := w1) (F := F) (bx := bx) (bl := bl) (sv := sv) hg)
  have E := hid hE
  clear hD hT hg hE
  go_enter Tryz.func53, Tryz.ntmps53
  go_wp2_with first
    | (go_at_call 93; refine C.out.mono ?_; rintro e w1 ⟨rfl, hk, hf⟩; have E1 := hid (E.out w1 (AG.out w1 hk)); have A1 := hid (fun w2 => AF.out w1 w2 hk hf); clear hk hf)
    | (go_at_call 46; refine E1.out.mono ?_; rintro e w2 ⟨rfl, hb⟩)
  go_ret2
  exact ⟨rfl, (A1.out _ hb).1, _, _, _, (A1.out _ hb).2⟩

/-- What a change of the forest's must have left that was made: with the function that moves places. -/
def TMove (Mv : World → Value → Prop) (F : Nat → Prop) (w : World) (bf : Nat) (s' : List Nd) (e : Ending) (w' : World) : Prop := ∃ mv, e = .returned (.tuple #[mv, .nilIface]) ∧ Keeps F w w' ∧ PFor w' (grow F w) bf s' ∧ Mv w' mv
theorem PDocAt.below {w w' : World} {F : Nat → Prop} {bx bf bl : Nat} {sv : Value} {st : St} (h : PDocAt w F bx bf bl sv st) (hb : Below w.heap.size w w') : PDocAt w' F bx bf bl sv st :=
  ⟨h.Fx, h.Hx, by rw [hb.block bx (heap_lt h.doc)]; exact h.doc, h.Fl, h.Hl, h.ne, by rw [hb.block bl (heap_lt h.list)]; exact h.list, (Keeps.of_below (F := fun _ => False) hb).row h.spans (fun _ _ e => e), h.apart, h.nodes.below hb⟩

set_option maxHeartbeats 400000 in
/-- No ranges: none is moved. -/
theorem lfollow_nil {w : World} {bl bf : Nat} {sv : Value} (h : w.heap[bl]? = some (.cells #[ptr bf, sv] 176 (0, 0))) (hr : w.ownsRow 0 79 4 sv 0 []) (mv : Value) :
    Calls Tryz.prog 110 #[ptr bl, mv] w fun e w' => e = .returned (.tuple #[]) ∧ Below w.heap.size w w' := by
  obtain ⟨a, c, rfl⟩ := slice_shape hr
  have c1 : w.cell? ⟨bl, 1, none⟩ = some (.slice a 0 c) := cell_of_heap h 1
  have hl := heap_lt h
  clear h hr
  go_enter Tryz.func110, Tryz.ntmps110
  go_wp2
  go_rounds 1
  go_end0
  exact ⟨rfl, by go_grown⟩

set_option maxHeartbeats 400000 in
theorem mfollow_yes {w : World} {F : Nat → Prop} {bx bf bl : Nat} {sv : Value} {s : List Nd} (hD : PDocAt w F bx bf bl sv ⟨s, []⟩) (mv : Value) :
    Calls Tryz.prog 64 #[ptr bx, mv, .nilIface] w fun e w' => e = .returned .nilIface ∧ Below w.heap.size w w' := by
  have C := hid (lfollow_nil hD.list hD.spans mv)
  have c1 : w.cell? ⟨bx, 1, none⟩ = some (ptr bl) := cell_of_heap hD.doc 1
  clear hD
  go_enter Tryz.func64, Tryz.ntmps64
  go_wp2_with (go_at_call 110; refine C.out.mono ?_; rintro e w1 ⟨rfl, hb⟩)
  go_ret
  exact ⟨rfl, hb⟩

set_option maxHeartbeats 400000 in
theorem mfollow_no {w : World} (hg : Glob w) (bx : Nat) (mv : Value) {t : TypeId} {u : Value} {a y : Int} (hE : ErrOf (.iface t u) a y) :
    Calls Tryz.prog 64 #[ptr bx, mv, .iface t u] w fun e w' => e = .returned (errV a y) ∧ Below w.heap.size w w' := by
  have C := hid (hE w hg)
  clear hE hg
  go_enter Tryz.func64, Tryz.ntmps64
  go_wp2_with (go_at_call 46; refine C.out.mono ?_; rintro e w1 ⟨rfl, hb⟩)
  go_ret
  exact ⟨rfl, hb⟩

set_option maxHeartbeats 400000 in
theorem minsert_no {w : World} {F : Nat → Prop} {bx : Nat} {s s' : List Nd} {rs : List Sp} (hg : GG w) (hP : PLies w F bx ⟨s, rs⟩) {t : TypeId} {u : Value} {a y : Int} (A B C : Int) (hE : ErrOf (.iface t u) a y)
    (hT : ∀ (F' : Nat → Prop) (bf : Nat), PFor w F' bf s → Calls Tryz.prog 94 #[ptr bf, .int .i64 A, .int .i64 B, .int .i64 C] w (TPost F' w bf s' (.tuple #[.nilFunc, .iface t u]))) :
    Calls Tryz.prog 54 #[ptr bx, .int .i64 A, .int .i64 B, .int .i64 C] w (PLPost F w bx ⟨s', rs⟩ (errV a y)) := by
  obtain ⟨bf, bl, sv, hD⟩ := hP
  have C := hid (hT _ _ hD.nodes)
  have c0 : w.cell? ⟨bx, 0, none⟩ = some (ptr bf) := cell_of_heap hD.doc 0
  have AF := hid (fun w1 w2 => pdoc_after (w1 := w1) (w2 := w2) (s' := s') hg hD)
  have AG := hid (fun w1 => gg_after (w1 := w1) (F := F) (bx := bx) (bl := bl) (sv := sv) hg)
  have E := hid (fun w1 (h1 : Glob w1) => mfollow_no h1 bx .nilFunc hE)
  clear hD hT hg hE
  go_enter Tryz.func54, Tryz.ntmps54
  go_wp2_with first
    | (go_at_call 94; refine C.out.mono ?_; rintro e w1 ⟨rfl, hk, hf⟩; have E1 := hid (E.out w1 (AG.out w1 hk)); have A1 := hid (fun w2 => AF.out w1 w2 hk hf); clear hk hf)
    | (go_at_call 64; refine E1.out.mono ?_; rintro e w2 ⟨rfl, hb⟩)
  go_ret
  exact ⟨rfl, (A1.out _ hb).1, _, _, _, (A1.out _ hb).2⟩

set_option maxHeartbeats 400000 in
theorem minsert_of {w : World} {F : Nat → Prop} {bx : Nat} {s s' : List Nd} (hg : GG w) (hP : PLies w F bx ⟨s, []⟩) {Mv : World → Value → Prop} (A B C : Int)
    (hT : ∀ (F' : Nat → Prop) (bf : Nat), PFor w F' bf s → Calls Tryz.prog 94 #[ptr bf, .int .i64 A, .int .i64 B, .int .i64 C] w (TMove Mv F' w bf s')) :
    Calls Tryz.prog 54 #[ptr bx, .int .i64 A, .int .i64 B, .int .i64 C] w (PLPost F w bx ⟨s', []⟩ (errV 0 0)) := by
  obtain ⟨bf, bl, sv, hD⟩ := hP
  have C := hid (hT _ _ hD.nodes)
  have c0 : w.cell? ⟨bx, 0, none⟩ = some (ptr bf) := cell_of_heap hD.doc 0
  have AF := hid (fun w1 => pdoc_after (w1 := w1) (w2 := w1) (s' := s') hg hD)
  clear hD hT hg
  go_enter Tryz.func54, Tryz.ntmps54
  go_wp2_with first
    | (go_at_call 94; refine C.out.mono ?_; rintro e w1 ⟨mv, rfl, hk, hf, hm⟩; have A1 := hid (AF.out w1 hk hf (Below.refl _ _)); have E1 := hid (mfollow_yes A1.out.2 mv); clear hk hf hm)
    | (go_at_call 64; refine E1.out.mono ?_; rintro e w2 ⟨rfl, hb⟩)
  go_ret
  exact ⟨by simp [errV], A1.out.1.trans (Keeps.of_below hb), _, _, _, A1.out.2.below hb⟩

set_option maxHeartbeats 400000 in
theorem mremove_no {w : World} {F : Nat → Prop} {bx : Nat} {s s' : List Nd} {rs : List Sp} (hg : GG w) (hP : PLies w F bx ⟨s, rs⟩) {t : TypeId} {u : Value} {a y : Int} (A : Int) (hE : ErrOf (.iface t u) a y)
    (hT : ∀ (F' : Nat → Prop) (bf : Nat), PFor w F' bf s → Calls Tryz.prog 97 #[ptr bf, .int .i64 A] w (TPost F' w bf s' (.tuple #[.nilFunc, .iface t u]))) :
    Calls Tryz.prog 60 #[ptr bx, .int .i64 A] w (PLPost F w bx ⟨s', rs⟩ (errV a y)) := by
  obtain ⟨bf, bl, sv, hD⟩ := hP
  have C := hid (hT _ _ hD.nodes)
  have c0 : w.cell? ⟨bx, 0, none⟩ = some (ptr bf) := cell_of_heap hD.doc 0
  have AF := hid (fun w1 w2 => pdoc_after (w1 := w1) (w2 := w2) (s' := s') hg hD)
  have AG := hid (fun w1 => gg_after (w1 := w1) (F := F) (bx := bx) (bl := bl) (sv := sv) hg)
  have E := hid (fun w1 (h1 : Glob w1) => mfollow_no h1 bx .nilFunc hE)
  clear hD hT hg hE
  go_enter Tryz.func60, Tryz.ntmps60
  go_wp2_with first
    | (go_at_call 97; refine C.out.mono ?_; rintro e w1 ⟨rfl, hk, hf⟩; have E1 := hid (E.out w1 (AG.out w1 hk)); have A1 := hid (fun w2 => AF.out w1 w2 hk hf); clear hk hf)
    | (go_at_call 64; refine E1.out.mono ?_; rintro e w2 ⟨rfl, hb⟩)
  go_ret
  exact ⟨rfl, (A1.out _ hb).1, _, _, _, (A1.out _ hb).2⟩

set_option maxHeartbeats 400000 in
theorem mremove_of {w : World} {F : Nat → Prop} {bx : Nat} {s s' : List Nd} (hg : GG w) (hP : PLies w F bx ⟨s, []⟩) {Mv : World → Value → Prop} (A : Int)
    (hT : ∀ (F' : Nat → Prop) (bf : Nat), PFor w F' bf s → Calls Tryz.prog 97 #[ptr bf, .int .i64 A] w (TMove Mv F' w bf s')) :
    Calls Tryz.prog 60 #[ptr bx, .int .i64 A] w (PLPost F w bx ⟨s', []⟩ (errV 0 0)) := by
  obtain ⟨bf, bl, sv, hD⟩ := hP
  have C := hid (hT _ _ hD.nodes)
  have c0 : w.cell? ⟨bx, 0, none⟩ = some (ptr bf) := cell_of_heap hD.doc 0
  have AF := hid (fun w1 => pdoc_after (w1 := w1) (w2 := w1) (s' := s') hg hD)
  clear hD hT hg
  go_enter Tryz.func60, Tryz.ntmps60
  go_wp2_with first
    | (go_at_call 97; refine C.out.mono ?_; rintro e w1 ⟨mv, rfl, hk, hf, hm⟩; have A1 := hid (AF.out w1 hk hf (Below.refl _ _)); have E1 := hid (mfollow_yes A1.out.2 mv); clear hk hf hm)
    | (go_at_call 64; refine E1.out.mono ?_; rintro e w2 ⟨rfl, hb⟩)
  go_ret
  exact ⟨by simp [errV], A1.out.1.trans (Keeps.of_below hb), _, _, _, A1.out.2.below hb⟩

set_option maxHeartbeats 400000 in
theorem mshow_of {w : World} {F : Nat → Prop} {bx : Nat} {s s' : List Nd} {rs : List Sp} (hg : GG w) (hP : PLies w F bx ⟨s, rs⟩) {n v : Value} {a y : Int} (A : Int) (hE : ErrOf v a y)
    (hT : ∀ (F' : Nat → Prop) (bf : Nat), PFor w F' bf s → Calls Tryz.prog 95 #[ptr bf, .int .i64 A] w (TPost F' w bf s' (.tuple #[n, v]))) :
    Calls Tryz.prog 55 #[ptr bx, .int .i64 A] w (PLPost F w bx ⟨s', rs⟩ (.tuple #[n, errV a y])) := by
  obtain ⟨bf, bl, sv, hD⟩ := hP
  have C := hid (hT _ _ hD.nodes)
  have c0 : w.cell? ⟨bx, 0, none⟩ = some (ptr bf) := cell_of_heap hD.doc 0
  have AF := hid (fun w1 w2 => pdoc_after (w1 := w1) (w2 := w2) (s' := s') hg hD)
  have AG := hid (fun w1 => gg_after (w1 := w1) (F := F) (bx := bx) (bl := bl) (sv := sv) hg)
  have E := hid hE
  clear hD hT hg hE
  go_enter Tryz.func55, Tryz.ntmps55
  go_wp2_with first
    | (go_at_call 95; refine C.out.mono ?_; rintro e w1 ⟨rfl, hk, hf⟩; have E1 := hid (E.out w1 (AG.out w1 hk)); have A1 := hid (fun w2 => AF.out w1 w2 hk hf); clear hk hf)
    | (go_at_call 46; refine E1.out.mono ?_; rintro e w2 ⟨rfl, hb⟩)
  go_ret2
  exact ⟨rfl, (A1.out _ hb).1, _, _, _, (A1.out _ hb).2⟩

end Go.Proofs.YtabogkonklplcaaGreatDoor
